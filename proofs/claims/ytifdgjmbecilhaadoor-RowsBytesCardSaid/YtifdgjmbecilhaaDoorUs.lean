/- The laws of rows: RowsFits, RowsDo, RowsAll, RowsBytes, RowsBack. -/
import Derived.Test.YtifdgjmbecilhaaDoorUm
import Derived.Test.YtifdgjmbecilhaaDoorUr
import Derived.Test.YtifdgjmbecilhaaDoorUn
namespace Go.Proofs.YtifdgjmbecilhaaDoor
open Go.RowKit

set_option maxHeartbeats 1000000 in
theorem law_RowsFits {TT : World → Prop} (P : PRows TT) (n c : Nat) (a : Option Addr) (Q : List Pu) (w : World) (I : PuIn w a n c Q) (hT : TT w) :
    Calls Tryd.prog 4 #[.slice a n c] w fun e w' => e = .returned (.bool true) ∧ Below w.heap.size w w' := by
  have HP := Lib.hid (fun w' (hb : Below w.heap.size w w') => P.fits n c a Q I.hlen I.n I.small w' (P.below hT hb) (I.mem.later hb))
  have HR := Lib.hid (fun w' (hb : Below w.heap.size w w') => rFits_any n c a Q I.hlen I.n w' (I.mem.later hb))
  have HS := Lib.hid (shown_any P w hT)
  obtain ⟨b, hb⟩ : ∃ b, fitsX Q = b := ⟨_, rfl⟩
  rw [hb] at HP HR
  clear hb P I hT
  go_enter Tryd.func4, Tryd.ntmps4
  go_wp2_with fail
  refine HS.out.mono ?_
  rintro e w1 ⟨rfl, hb1⟩
  have HB1 := Lib.hid hb1
  clear hb1
  go_wp2_with fail
  refine (HP.out _ HB1.out).mono ?_
  rintro e w2 ⟨rfl, hb2⟩
  have HB2 := Lib.hid (HB1.out.trans (hb2.mono HB1.out.size))
  clear hb2
  go_wp2_with fail
  refine (HR.out _ HB2.out).mono ?_
  rintro e w3 ⟨rfl, hb3⟩
  have HB3 := Lib.hid (HB2.out.trans (hb3.mono HB2.out.size))
  clear hb3
  go_wp2_with fail
  go_ret
  exact ⟨by first | rfl | simp, HB3.out⟩
set_option maxHeartbeats 1000000 in
theorem law_RowsBytes {TT : World → Prop} (P : PRows TT) (n c : Nat) (a : Option Addr) (L : List Ro) (s : ByteArray) (hs : s.size ≤ 140737488351232) (w : World) (I : RoIn w a n c L) (hT : TT w) :
    Calls Tryd.prog 7 #[.slice a n c, .string s] w fun e w' => e = .returned (.bool true) ∧ Below w.heap.size w w' := by
  obtain ⟨t, rfl⟩ : ∃ t : List UInt8, s = ⟨t.toArray⟩ := ⟨s.data.toList, (ba_eta s).symm⟩
  have ht : t.length ≤ 140737488355328 := by rw [sz_arr] at hs; omega
  have HP := Lib.hid (fun w' (hb : Below w.heap.size w w') => P.bytes n c a L I.hlen I.n I.small w' (P.below hT hb) (I.mem.later hb))
  have HR := Lib.hid (fun w' (hb : Below w.heap.size w w') => rBytes_any n c a L I.hlen I.n I.small w' (I.mem.later hb))
  have HP2 := Lib.hid (fun w' (hb : Below w.heap.size w w') => P.take t ht w' (P.below hT hb))
  have HR2 := Lib.hid (fun w' => rTake_any t ht w')
  have HS := Lib.hid (shown_any P w hT)
  obtain ⟨b, hb⟩ : ∃ b, byR L = b := ⟨_, rfl⟩
  obtain ⟨k, hk⟩ : ∃ k, erR L = k := ⟨_, rfl⟩
  have hlen := takeR_len t
  obtain ⟨⟨M, q, x⟩, hM⟩ : ∃ r, takeR t = r := ⟨_, rfl⟩
  rw [hM] at HP2 HR2 hlen
  rw [hb, hk] at HP HR
  simp only at hlen
  clear hb hk hM P I hT hs ht
  go_enter Tryd.func7, Tryd.ntmps7
  go_wp2_with fail
  refine HS.out.mono ?_
  rintro e w1 ⟨rfl, hb1⟩
  have HB1 := Lib.hid hb1
  clear hb1
  go_wp2_with fail
  refine (HP.out _ HB1.out).mono ?_
  rintro e w2 ⟨rfl, hb2⟩
  have HB2 := Lib.hid (HB1.out.trans (hb2.mono HB1.out.size))
  clear hb2
  go_wp2_with fail
  refine (HR.out _ HB2.out).mono ?_
  rintro e w3 ⟨rfl, hb3⟩
  have HB3 := Lib.hid (HB2.out.trans (hb3.mono HB2.out.size))
  clear hb3
  go_wp2_with fail
  refine (HP2.out _ HB3.out).mono ?_
  rintro e w4 ⟨a1, c1, rfl, m1, _, hb4⟩
  have HB4 := Lib.hid (HB3.out.trans (hb4.mono HB3.out.size))
  have M1 := Lib.hid m1
  clear hb4 m1
  go_wp2_with fail
  refine (HR2.out _).mono ?_
  rintro e w5 ⟨a2, c2, rfl, m2, _, hb5⟩
  have HB5 := Lib.hid (HB4.out.trans (hb5.mono HB4.out.size))
  have HE := Lib.hid (rSameR_any M.length c1 c2 a1 a2 M rfl hlen w5 (M1.out.later hb5) m2)
  clear hb5 m2
  go_wp2_with fail
  refine HE.out.mono ?_
  rintro e w6 ⟨rfl, hb6⟩
  have HB6 := Lib.hid (HB5.out.trans (hb6.mono HB5.out.size))
  clear hb6
  go_wp2_with fail
  go_ret
  exact ⟨by first | rfl | simp, HB6.out⟩
end Go.Proofs.YtifdgjmbecilhaaDoor
