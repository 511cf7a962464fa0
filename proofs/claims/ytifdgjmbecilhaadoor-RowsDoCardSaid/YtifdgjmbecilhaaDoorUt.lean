/- The laws of rows: RowsDo, RowsAll, RowsBack. -/
import Derived.Test.YtifdgjmbecilhaaDoorUm
import Derived.Test.YtifdgjmbecilhaaDoorUr
import Derived.Test.YtifdgjmbecilhaaDoorUn
namespace Go.Proofs.YtifdgjmbecilhaaDoor
open Go.RowKit

set_option maxHeartbeats 1000000 in
theorem law_RowsDo {TT : World → Prop} (P : PRows TT) (n c ver : Nat) (a : Option Addr) (L : List Ro) (p : Pu) (hk : p.key.size ≤ 140737488351232) (hv : p.val.size ≤ 140737488351232) (hver : ver < 18446744073709551616) (w : World) (I : RoIn w a n c L) (hT : TT w) :
    Calls Tryd.prog 5 #[.slice a n c, puV p, .int .u64 (ver : Nat)] w fun e w' => e = .returned (.bool true) ∧ Below w.heap.size w w' := by
  have HP := Lib.hid (fun w' (hb : Below w.heap.size w w') => P.do_ n c ver a L p I.hlen I.hcap I.hmax I.room I.small hk hv hver w' (P.below hT hb) (I.mem.later hb))
  have HR := Lib.hid (fun w' (hb : Below w.heap.size w w') => rDo_any n c ver a L p I.hlen I.room I.small hk w' (I.mem.later hb))
  have HS := Lib.hid (fun w' (hb : Below w.heap.size w w') => shown_any P w' (P.below hT hb))
  have hlen := doR_lenB (L := L) (p := p) (ver := ver) (by rw [I.hlen]; exact I.n)
  obtain ⟨⟨M, x⟩, hM⟩ : ∃ r, doR L p ver = r := ⟨_, rfl⟩
  rw [hM] at HP HR hlen
  simp only at hlen
  obtain ⟨pk, pv, pg⟩ := p
  have HC : Hid (∀ W, W = w.alloc (.cells #[.string pk, .string pv, .bool pg] 37) → Below w.heap.size w W ∧ w.heap.size < W.heap.size ∧ W.cell? ⟨w.heap.size, 0, none⟩ = some (.string pk) ∧ W.cell? ⟨w.heap.size, 1, none⟩ = some (.string pv) ∧ W.cell? ⟨w.heap.size, 2, none⟩ = some (.bool pg)) :=
    Lib.hid (fun W hW => by subst hW; exact ⟨by go_grown, by simp, by simp [go_sem], by simp [go_sem], by simp [go_sem]⟩)
  clear hM P I hT hk hv hver
  go_enter Tryd.func5, Tryd.ntmps5
  go_wp2_with fail
  generalize hW : w.alloc (.cells #[.string pk, .string pv, .bool pg] 37) = W
  obtain ⟨hB, hz, c0, c1, c2⟩ := HC.out W hW.symm
  refine (HS.out _ hB).mono ?_
  rintro e w1 ⟨rfl, hb1⟩
  have HB1 := Lib.hid (hB.trans (hb1.mono hB.size))
  have q0 := (hb1.cell (p := ⟨w.heap.size, 0, none⟩) hz).trans c0
  have q1 := (hb1.cell (p := ⟨w.heap.size, 1, none⟩) hz).trans c1
  have q2 := (hb1.cell (p := ⟨w.heap.size, 2, none⟩) hz).trans c2
  have hz1 : w.heap.size < w1.heap.size := Nat.lt_of_lt_of_le hz hb1.size
  clear hb1 hB c0 c1 c2 hW HC
  go_wp2_with fail
  refine (HP.out _ HB1.out).mono ?_
  rintro e w2 ⟨a1, c1, rfl, m1, hb2⟩
  have r0 := (hb2.cell (p := ⟨w.heap.size, 0, none⟩) hz1).trans q0
  have r1 := (hb2.cell (p := ⟨w.heap.size, 1, none⟩) hz1).trans q1
  have r2 := (hb2.cell (p := ⟨w.heap.size, 2, none⟩) hz1).trans q2
  clear q0 q1 q2
  have HB2 := Lib.hid (HB1.out.trans (hb2.mono HB1.out.size))
  have M1 := Lib.hid m1
  clear hb2 m1
  go_wp2_with fail
  refine (HR.out _ HB2.out).mono ?_
  rintro e w3 ⟨a2, c2, rfl, m2, _, hb3⟩
  have HB3 := Lib.hid (HB2.out.trans (hb3.mono HB2.out.size))
  have HE := Lib.hid (rSameR_any M.length c1 c2 a1 a2 M rfl hlen w3 (M1.out.later hb3) m2)
  clear hb3 m2
  go_wp2_with fail
  refine HE.out.mono ?_
  rintro e w4 ⟨rfl, hb4⟩
  have HB4 := Lib.hid (HB3.out.trans (hb4.mono HB3.out.size))
  clear hb4
  go_wp2_with fail
  go_ret
  exact ⟨by first | rfl | simp, HB4.out⟩
set_option maxHeartbeats 1000000 in
theorem law_RowsAll {TT : World → Prop} (P : PRows TT) (n c m d ver : Nat) (a b : Option Addr) (L : List Ro) (Q : List Pu) (hver : ver < 18446744073709551616) (w : World) (I : RoIn w a n c L) (J : PuIn w b m d Q) (hT : TT w) :
    Calls Tryd.prog 6 #[.slice a n c, .slice b m d, .int .u64 (ver : Nat)] w fun e w' => e = .returned (.bool true) ∧ Below w.heap.size w w' := by
  have HP := Lib.hid (fun w' (hb : Below w.heap.size w w') => P.all n c m d ver a b L Q I.hlen I.hcap I.hmax I.room I.small J.hlen J.room J.small hver w' (P.below hT hb) (I.mem.later hb) (J.mem.later hb))
  have HR := Lib.hid (fun w' (hb : Below w.heap.size w w') => rAll_any n c m d ver a b L Q I.hlen I.room I.small J.hlen J.n J.small w' (I.mem.later hb) (J.mem.later hb))
  have HS := Lib.hid (shown_any P w hT)
  have hlen := allR_lenB (L := L) (P := Q) (ver := ver) (by rw [I.hlen]; exact I.n)
  obtain ⟨⟨M, x⟩, hM⟩ : ∃ r, allR L Q ver = r := ⟨_, rfl⟩
  rw [hM] at HP HR hlen
  simp only at hlen
  clear hM P I J hT hver
  go_enter Tryd.func6, Tryd.ntmps6
  go_wp2_with fail
  refine HS.out.mono ?_
  rintro e w1 ⟨rfl, hb1⟩
  have HB1 := Lib.hid hb1
  clear hb1
  go_wp2_with fail
  refine (HP.out _ HB1.out).mono ?_
  rintro e w2 ⟨a1, c1, rfl, m1, hb2⟩
  have HB2 := Lib.hid (HB1.out.trans (hb2.mono HB1.out.size))
  have M1 := Lib.hid m1
  clear hb2 m1
  go_wp2_with fail
  refine (HR.out _ HB2.out).mono ?_
  rintro e w3 ⟨a2, c2, rfl, m2, hb3⟩
  have HB3 := Lib.hid (HB2.out.trans (hb3.mono HB2.out.size))
  have HE := Lib.hid (rSameR_any M.length c1 c2 a1 a2 M rfl hlen w3 (M1.out.later hb3) m2)
  clear hb3 m2
  go_wp2_with fail
  refine HE.out.mono ?_
  rintro e w4 ⟨rfl, hb4⟩
  have HB4 := Lib.hid (HB3.out.trans (hb4.mono HB3.out.size))
  clear hb4
  go_wp2_with fail
  go_ret
  exact ⟨by first | rfl | simp, HB4.out⟩
set_option maxHeartbeats 1000000 in
theorem law_RowsBack {TT : World → Prop} (P : PRows TT) (n c : Nat) (a : Option Addr) (L : List Ro) (s : ByteArray) (hs : s.size ≤ 140737488351232) (w : World) (I : RoIn w a n c L) (hT : TT w) :
    Calls Tryd.prog 9 #[.slice a n c, .string s] w fun e w' => e = .returned (.bool true) ∧ Below w.heap.size w w' := by
  obtain ⟨t, rfl⟩ : ∃ t : List UInt8, s = ⟨t.toArray⟩ := ⟨s.data.toList, (ba_eta s).symm⟩
  have ht : t.length ≤ 140737488351232 := by rw [sz_arr] at hs; exact hs
  have HP := Lib.hid (fun w' (hb : Below w.heap.size w w') => P.bytes n c a L I.hlen I.n I.small w' (P.below hT hb) (I.mem.later hb))
  have HS := Lib.hid (shown_any P w hT)
  rcases hr : rightB L with _ | _
  · have HQ := Lib.hid (fun w' (hb : Below w.heap.size w w') => P.right n c a L I.hlen I.n I.small w' (P.below hT hb) (I.mem.later hb))
    have e1 : byR L = [] := by unfold byR; rw [hr]; rfl
    have e2 : erR L = 1 := by unfold erR; rw [hr]; rfl
    rw [e1, e2] at HP
    rw [hr] at HQ
    clear e1 e2 hr P I hT hs ht
    go_enter Tryd.func9, Tryd.ntmps9
    go_wp2_with fail
    refine HS.out.mono ?_
    rintro e w1 ⟨rfl, hb1⟩
    have HB1 := Lib.hid hb1
    clear hb1
    go_wp2_with fail
    refine (HP.out _ HB1.out).mono ?_
    rintro e w2 ⟨rfl, hb2⟩
    have HB2 := Lib.hid (HB1.out.trans (hb2.mono HB1.out.size))
    clear hb2
    go_wp2_with fail
    refine (HQ.out _ HB2.out).mono ?_
    rintro e w3 ⟨rfl, hb3⟩
    have HB3 := Lib.hid (HB2.out.trans (hb3.mono HB2.out.size))
    clear hb3
    go_wp2_with fail
    go_ret
    exact ⟨by first | rfl | simp, HB3.out⟩
  · obtain ⟨h32, hok, _⟩ := (rightB_iff L).1 hr
    have hby : (rowsB L).length ≤ 2400 := by
      have h1 := rosB_len hok
      have h2 := numB_le L.length
      unfold rowsB; rw [List.length_append]; omega
    have hall : (rowsB L ++ t).length ≤ 140737488355328 := by rw [List.length_append]; omega
    have HQ := Lib.hid (fun w' (hb : Below w.heap.size w w') => P.take (rowsB L ++ t) hall w' (P.below hT hb))
    rw [takeR_rowsB L hr t] at HQ
    have HMe := Lib.hid I.mem
    have hL : L.length ≤ 140737488351232 := by omega
    have e1 : byR L = rowsB L := by unfold byR; rw [hr]; rfl
    have e2 : erR L = 0 := by unfold erR; rw [hr]; rfl
    rw [e1, e2] at HP
    obtain ⟨u, hu⟩ : ∃ u, rowsB L = u := ⟨_, rfl⟩
    rw [hu] at HP HQ hby
    have hn := I.hlen
    subst hn
    have HA := Lib.hid (mk_app u t)
    have hz1 := sz_arr u
    have hz2 := sz_arr t
    have hcc : ¬ 9223372036854775807 < u.length + t.length := by omega
    clear e1 e2 hr P I hT hs hall hu hok h32
    go_enter Tryd.func9, Tryd.ntmps9
    go_wp2_with fail
    refine HS.out.mono ?_
    rintro e w1 ⟨rfl, hb1⟩
    have HB1 := Lib.hid hb1
    clear hb1
    go_wp2_with fail
    refine (HP.out _ HB1.out).mono ?_
    rintro e w2 ⟨rfl, hb2⟩
    have HB2 := Lib.hid (HB1.out.trans (hb2.mono HB1.out.size))
    clear hb2
    go_wp2_with fail
    rw [HA.out]
    refine (HQ.out _ HB2.out).mono ?_
    rintro e w3 ⟨a1, c1, rfl, m1, _, hb3⟩
    have HB3 := Lib.hid (HB2.out.trans (hb3.mono HB2.out.size))
    have HE := Lib.hid (rSameR_any L.length c c1 a a1 L rfl hL w3 (HMe.out.later HB3.out) m1)
    clear hb3 m1
    go_wp2_with fail
    refine HE.out.mono ?_
    rintro e w4 ⟨rfl, hb4⟩
    have HB4 := Lib.hid (HB3.out.trans (hb4.mono HB3.out.size))
    clear hb4
    go_wp2_with fail
    go_ret
    exact ⟨by first | rfl | simp, HB4.out⟩
end Go.Proofs.YtifdgjmbecilhaaDoor
