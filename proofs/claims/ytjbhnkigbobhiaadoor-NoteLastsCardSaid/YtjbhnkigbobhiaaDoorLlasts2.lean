/- The program's Recover of notes' bytes that are cut anywhere. -/
import Derived.Test.YtjbhnkigbobhiaaDoorRc
import Derived.Test.YtjbhnkigbobhiaaDoorBm
import Derived.Test.YtjbhnkigbobhiaaDoorKs
import Derived.Test.YtjbhnkigbobhiaaDoorVn
import Derived.Test.YtjbhnkigbobhiaaDoorTfd
import Derived.Test.YtjbhnkigbobhiaaDoorKg
import Derived.Deep.RegionHeld3
import Derived.Deep.DeepCutAuto
namespace Go.Proofs.YtjbhnkigbobhiaaDoor
open Go.RowKit

theorem rec_last (M : List Nt) (hok : ∀ n ∈ M, n.ok) (hM : (catB M).length ≤ 262144) (c : Nat) (hc : c ≤ (catB M).length) : ∃ j, j ≤ M.length ∧ (∀ k, k ≤ M.length → (catB (M.take k)).length ≤ c → k ≤ j) ∧ rdB (catB (M.take j)) = (M.take j, []) ∧ (catB (M.take j)).length ≤ 262144 ∧
    ∀ w, Calls Tryd.prog 14 #[.agg #[.string ⟨((catB M).take c).toArray⟩, .string ⟨#[]⟩, .int .i64 (-1), .bool false]] w (RecP w (Sg.fold (M.take j)) ⟨⟨(catB (M.take j)).toArray⟩, ⟨#[]⟩, -1, false⟩) := by
  obtain ⟨j, r, hj, hr, hc2, hk⟩ := rd_cut M hok c hc
  have hl : ((catB M).take c).length = c := by rw [List.length_take]; omega
  have ht := take_cat M j c (by omega)
  refine ⟨j, hj, hk, rd_cat0 _ (fun n hn => hok n (List.mem_of_mem_take hn)), by omega, fun w => ?_⟩
  by_cases h0 : r = []
  · subst h0
    have hw := rec_whole ⟨((catB M).take c).toArray⟩ ⟨#[]⟩ ((catB M).take c) ByteArray.append_empty (by omega) (by rw [hr]) w
    rw [hr] at hw
    have e : (catB M).take c = catB (M.take j) := by
      rw [List.take_of_length_le (by simp at hc2; omega)] at ht; exact ht
    rw [e] at hw ⊢
    exact hw
  · have hw := rec_cut ⟨((catB M).take c).toArray⟩ ⟨#[]⟩ ((catB M).take c) (catB (M.take j)).length ByteArray.append_empty (by omega) (by rw [hr, hl]; exact hc2) (by rw [hr]; exact h0) w
    rw [hr, mk_extract, ht] at hw
    exact hw
end Go.Proofs.YtjbhnkigbobhiaaDoor
/- NoteLasts: notes that were written and synced are there behind any crash, and whole notes behind them, in their order, and nothing else. -/
namespace Go.Proofs.YtjbhnkigbobhiaaDoor
open Go.RowKit

theorem tW_fit (a b s : ByteArray) (h : a.size + b.size + s.size ≤ 262144) : tWrite ⟨a, b, -1, false⟩ s = (⟨a, b ++ s, -1, false⟩, 0) := by
  unfold tWrite
  rw [if_neg (by simp), if_neg (by simp only; omega), if_neg (by simp)]; rfl
theorem tW_full (a b s : ByteArray) (h : 262144 < a.size + b.size + s.size) : tWrite ⟨a, b, -1, false⟩ s = (⟨a, b, -1, false⟩, 5) := by
  unfold tWrite
  rw [if_neg (by simp), if_pos (by simp only; omega)]
theorem tS_go (a b : ByteArray) : tSync ⟨a, b, -1, false⟩ = (⟨a ++ b, ⟨#[]⟩, -1, false⟩, 0) := by
  unfold tSync
  rw [if_neg (by simp), if_neg (by simp)]; rfl
theorem cat_ge (M : List Nt) : M.length ≤ (catB M).length := by
  induction M with
  | nil => simp
  | cons x N ih =>
    have := noteB_pos x
    have e : catB (x :: N) = noteB x ++ catB N := by simp [catB]
    rw [e, List.length_append, List.length_cons]; omega
theorem cat_sizes (M : List Nt) (k : Nat) : (catB (M.take k)).length + (catB (M.drop k)).length = (catB M).length := by
  rw [catB_split M k, List.length_append]
theorem Tb.upto {w w' : World} {B x : Nat} {a b : ByteArray} {p : Int} {o : Bool} (T : Tb w x a b p o) (hx : x < B) (h : Below B w w') : Tb w' x a b p o :=
  ⟨(h.cell (p := ⟨x, 0, none⟩) hx).trans T.h0, (h.cell (p := ⟨x, 1, none⟩) hx).trans T.h1, (h.cell (p := ⟨x, 2, none⟩) hx).trans T.h2, (h.cell (p := ⟨x, 3, none⟩) hx).trans T.h3, fun i => (h.frozen (p := ⟨x, i, none⟩) hx).trans (T.fz i), Nat.lt_of_lt_of_le T.hx h.size⟩
/-- What the loop keeps: the notes that were written, how many of them are sure, the tape. -/
structure Lk (w1 : World) (M : List Nt) (k : Nat) (v : Value) (wr : World) : Prop where
  hk : k ≤ M.length
  ok : ∀ x ∈ M, x.ok
  len : (catB M).length ≤ 262144
  row : wr.ownsRow (w1.heap.size + 1) 24 5 v M.length (ntsCells M)
  tape : Tb wr w1.heap.size ⟨(catB (M.take k)).toArray⟩ ⟨(catB (M.drop k)).toArray⟩ (-1) false
  below : Below w1.heap.size w1 wr
theorem Lk.later {w1 : World} {M : List Nt} {k : Nat} {v : Value} {wr w' : World} (h : Lk w1 M k v wr) (hb : Below wr.heap.size wr w') : Lk w1 M k v w' :=
  ⟨h.hk, h.ok, h.len, h.row.kept (row := none) ⟨hb.os, hb.tape, hb.output, hb.size, fun j hj _ => hb.block j hj⟩ (by cases v.ownBlock <;> simp), h.tape.later hb, h.below.trans (hb.mono h.below.size)⟩
set_option maxRecDepth 100000 in
set_option maxHeartbeats 8000000 in
theorem law_NoteLasts (a : Option Addr) (n c : Nat) (L : List Nt) (sy keep : Int) (hn : L.length = n) (hl : n ≤ 140737488351232) (hD : ∀ x ∈ L, x.d.size ≤ 140737488351232) (w : World) (hN : Nts w a L) (hT : Tz w) :
    Calls Tryd.prog 5 #[.slice a n c, .int .i64 sy, .int .i64 keep] w fun e w' => e = .returned (.bool true) ∧ Below w.heap.size w w' := by
  obtain ⟨i0, hi, hz0, hz1, hz2⟩ := info_parts infoNote
  have HN := Lib.hid hn; clear hn
  have HD := Lib.hid hD; clear hD
  go_enter Tryd.func5, Tryd.ntmps5
  go_wp2_with fail
  refine (shown_any _).mono ?_
  rintro e w1 ⟨rfl, B1⟩
  have hN1 := hN.later B1
  have hT1 : Tz w1 := hT.below (B1.mono hT.n)
  have hL0 : Lk w1 [] 0 (.slice none 0 0) (w1.alloc (.cells #[.string ⟨#[]⟩, .string ⟨#[]⟩, .int .i64 (-1), .bool false] 44)) :=
    ⟨Nat.le_refl _, fun x h => by simp at h, by simp [catB], World.ownsRow_nil _ _ _ _, Tb.new w1 _ rfl _ _ _ _ _, (Below.refl _ _).alloc (Nat.le_refl _) _⟩
  have HL0 := Lib.hid hL0
  clear hL0 hN
  go_wp2_with fail
  go_loopw [9, 10, 11] (fun v s i wr => ∃ (j k : Nat) (M : List Nt), j ≤ n ∧ i = .int .i64 j ∧ s = .int .i64 k ∧ Lk w1 M k v wr) (fun _ _ i _ => n - (intOf i).toNat)
  case atStart => exact ⟨0, 0, [], Nat.zero_le _, rfl, rfl, HL0.out⟩
  case round =>
    clear HL0
    obtain ⟨j, k, M, hj, rfl, rfl, hK⟩ := hrel
    have HK := Lib.hid hK
    by_cases hlt : j < n
    · have hjl : j < L.length := by have := HN.out; omega
      obtain ⟨x, hx⟩ : ∃ x, L[j]? = some x := ⟨_, List.getElem?_eq_getElem hjl⟩
      have hxd : x.d.size ≤ 140737488351232 := HD.out x (List.mem_of_getElem? hx)
      have HX := Lib.hid hx
      have hN2 := hN1.later hK.below
      have HN2 := Lib.hid hN2
      obtain ⟨b, off, rfl, hbb, p0, p1, p2, p3, p4⟩ := hN2 j x hx
      have i0' : (0 : Int) ≤ (j : Int) := by omega
      have i1 : (j : Int) < (n : Int) := by omega
      clear hx hjl hK
      go_wp2_with fail
      by_cases hok : x.ok
      · refine (pBytes_yes x _ hok (hT1.below (HK.out.below.mono hT1.n))).mono ?_
        rintro e w2 ⟨rfl, hb2⟩
        have hK2 := HK.out.later hb2
        have hnb := noteB_len x hok
        obtain ⟨s, hs⟩ : ∃ s, (⟨(noteB x).toArray⟩ : ByteArray) = s := ⟨_, rfl⟩
        have hsz : s.size = (noteB x).length := by rw [← hs, size_arr]
        obtain ⟨A, hA⟩ : ∃ A, (⟨(catB (M.take k)).toArray⟩ : ByteArray) = A := ⟨_, rfl⟩
        obtain ⟨B, hB⟩ : ∃ B, (⟨(catB (M.drop k)).toArray⟩ : ByteArray) = B := ⟨_, rfl⟩
        have hAB : A.size + B.size = (catB M).length := by rw [← hA, ← hB, size_arr, size_arr]; exact cat_sizes M k
        have hlenM := hK2.len
        have hTp := hK2.tape
        rw [hA, hB] at hTp
        rw [hs]
        have hWr := fun w0 => ref_write_any A B s (-1) false w0 (by omega) (by omega)
        have HA := Lib.hid hA
        have HB := Lib.hid hB
        have HS := Lib.hid hs
        have HOK := Lib.hid hok
        have HK2 := Lib.hid hK2
        have HTP := Lib.hid hTp
        have B2 := B1.trans ((HK.out.below.trans (hb2.mono HK.out.below.size)).mono B1.size)
        have HB2 := Lib.hid B2
        obtain ⟨q0, q1, q2, q3, qz, ql⟩ := hTp
        by_cases hfit : A.size + B.size + s.size ≤ 262144
        · simp only [tW_fit A B s hfit] at hWr
          have HWR := Lib.hid hWr
          clear hok hK2 hs hA hB hWr hb2 B2
          go_wp2_with fail
          refine (HWR.out _).mono ?_
          rintro e w3 ⟨rfl, hb3⟩
          have HT3 := Lib.hid (HTP.out.later hb3)
          have HK3 := Lib.hid (HK2.out.later hb3)
          obtain ⟨r0, r1, r2, r3, rz, rl⟩ := HT3.out
          clear q0 q1 q2 q3 qz ql p0 p1 p2 p3 p4 hb3 HWR
          go_upto_region 14 with fail
          have hR4 := (ownsRow_setCell_below (ownsRow_setCell_below (ownsRow_setCell_below (ownsRow_setCell_below HK3.out.row (a := ⟨w1.heap.size, 0, none⟩) (Nat.lt_succ_self _) (.string A)) (a := ⟨w1.heap.size, 1, none⟩) (Nat.lt_succ_self _) (.string (B ++ s))) (a := ⟨w1.heap.size, 2, none⟩) (Nat.lt_succ_self _) (.int .i64 (-1))) (a := ⟨w1.heap.size, 3, none⟩) (Nat.lt_succ_self _) (.bool false)).alloc (.cells #[.string A, .string (B ++ s), .int .i64 (-1), .bool false] 44)
          generalize hW : (((((w3.setCell ⟨w1.heap.size, 0, none⟩ (.string A)).setCell ⟨w1.heap.size, 1, none⟩ (.string (B ++ s))).setCell ⟨w1.heap.size, 2, none⟩ (.int .i64 (-1))).setCell ⟨w1.heap.size, 3, none⟩ (.bool false)).alloc (.cells #[.string A, .string (B ++ s), .int .i64 (-1), .bool false] 44)) = W at hR4 ⊢
          have hT4 : Tb W w1.heap.size A (B ++ s) (-1) false := by rw [← hW]; exact (HT3.out.set A (B ++ s) (-1) false).past _
          have hB4 : Below w1.heap.size w1 W := by
            rw [← hW]
            have h := set4_below (v0 := .string A) (v1 := .string (B ++ s)) (v2 := .int .i64 (-1)) (v3 := .bool false) HK3.out.below (Nat.le_refl w1.heap.size)
            exact h.alloc h.size _
          have hMl : M.length ≤ 262144 := by have := cat_ge M; omega
          have hWs : w1.heap.size < W.heap.size := hT4.hx
          clear hW r0 r1 r2 r3 rz rl HT3 HTP HK2 HB2
          obtain ⟨b', off', e', hbb', p0, p1, p2, p3, p4⟩ := (hN1.later hB4) j x HX.out
          cases e'
          go_wp2_with (at_builtin; refine wpList_append_own _ rfl _ _ 38 rfl (w1.heap.size + 1) 24 i0 (.agg #[.int .i64 0, .int .u64 0, .int .u64 0, .int .u64 0, .string ⟨#[]⟩]) 5 48 Tryd.underlying38 hi hz0 hz1 hz2 rfl (by decide) _ _ _ rfl (hR4.alloc _) ⟨W.heap.size, 0, none⟩ 1 1 (ntCells x) rfl rfl ?c1 ?c2 ?c3 ?c4 ?c5 ?_)
          case c1 => intro j u hj; rw [addHead]; exact (World.cell?_alloc_at _ _ _ _ (by simp)).trans (by rw [List.getElem?_toArray.symm] at hj; exact hj)
          case c2 => intro u hu; simp only [ntCells, List.mem_cons, List.not_mem_nil, or_false] at hu; rcases hu with rfl | rfl | rfl | rfl | rfl <;> rfl
          case c3 => unfold maxLen; omega
          case c4 => omega
          case c5 => simp; omega
          intro v' w5 hrow5 hgrow _
          have C5 : Below (w1.heap.size + 1) W w5 := ((Below.refl _ W).alloc (by omega) _).grown hgrow (by simp; omega) (fun j e => (hR4.lt j e).1)
          have hT5 := hT4.upto (Nat.lt_succ_self _) C5
          have hB5 : Below w1.heap.size w1 w5 := hB4.trans (C5.mono (Nat.le_succ _))
          have hokM : ∀ y ∈ M ++ [x], y.ok := fun y hy => by
            rw [List.mem_append, List.mem_singleton] at hy
            rcases hy with hy | rfl
            · exact HK.out.ok y hy
            · exact HOK.out
          have hlen' : (catB (M ++ [x])).length ≤ 262144 := by rw [catB_snoc, List.length_append]; omega
          have hrow' : w5.ownsRow (w1.heap.size + 1) 24 5 v' (M ++ [x]).length (ntsCells (M ++ [x])) := by rw [ntsCells_snoc, List.length_append]; exact hrow5
          have hkM : k ≤ M.length := HK.out.hk
          obtain ⟨a', c', rfl, -⟩ := nts_of_owns hrow'
          obtain ⟨mm, hmm⟩ : ∃ mm, (M ++ [x]).length = mm := ⟨_, rfl⟩
          rw [hmm] at hrow' ⊢
          have HMM := Lib.hid hmm
          clear hmm
          have htk : (⟨(catB ((M ++ [x]).take k)).toArray⟩ : ByteArray) = A := by rw [List.take_append_of_le_length hkM]; exact HA.out
          have hdk : (⟨(catB ((M ++ [x]).drop k)).toArray⟩ : ByteArray) = B ++ s := by rw [List.drop_append_of_le_length hkM, catB_snoc, ← mk_app, HB.out, HS.out]
          have hall : A ++ (B ++ s) = ⟨(catB (M ++ [x])).toArray⟩ := by rw [← htk, ← hdk, mk_app, ← catB_split]
          have HT5 := Lib.hid hT5
          have HR5 := Lib.hid hrow'
          have HB5 := Lib.hid hB5
          have HTK := Lib.hid htk
          have HDK := Lib.hid hdk
          have HALL := Lib.hid hall
          have HOKM := Lib.hid hokM
          clear hR4 hT4 hB4 p0 p1 p2 p3 p4 hgrow hrow5 hrow' C5 htk hdk hall hokM hB5 HK HA HB HS HOK HK3
          obtain ⟨q0, q1, q2, q3, qz, ql⟩ := hT5
          by_cases hjs : (j : Int) = sy
          · have e1 : ((j : Int) == sy) = true := by simpa using hjs
            have hSy := fun w0 => ref_sync_any A (B ++ s) (-1) false w0 (by omega) (by rw [ByteArray.size_append]; omega)
            simp only [tS_go, HALL.out] at hSy
            have HSY := Lib.hid hSy
            have HJS := Lib.hid hjs
            clear hSy hjs
            go_wp2_with fail
            refine (HSY.out _).mono ?_
            rintro e w6 ⟨rfl, hb6⟩
            have hT6 := HT5.out.later hb6
            have h6 := HR5.out.kept (w' := w6) (row := none) ⟨hb6.os, hb6.tape, hb6.output, hb6.size, fun j hj _ => hb6.block j hj⟩ (by cases (Value.slice a' mm c').ownBlock <;> simp)
            have hrow6 : (set4 w6 w1.heap.size (.string ⟨(catB (M ++ [x])).toArray⟩) (.string ⟨#[]⟩) (.int .i64 (-1)) (.bool false)).ownsRow (w1.heap.size + 1) 24 5 (.slice a' mm c') mm (ntsCells (M ++ [x])) :=
              ownsRow_setCell_below (ownsRow_setCell_below (ownsRow_setCell_below (ownsRow_setCell_below h6 (a := ⟨w1.heap.size, 0, none⟩) (Nat.lt_succ_self _) _) (a := ⟨w1.heap.size, 1, none⟩) (Nat.lt_succ_self _) _) (a := ⟨w1.heap.size, 2, none⟩) (Nat.lt_succ_self _) _) (a := ⟨w1.heap.size, 3, none⟩) (Nat.lt_succ_self _) _
            have hfin : Lk w1 (M ++ [x]) mm (.slice a' mm c') (set4 w6 w1.heap.size (.string ⟨(catB (M ++ [x])).toArray⟩) (.string ⟨#[]⟩) (.int .i64 (-1)) (.bool false)) := by
              refine ⟨Nat.le_of_eq HMM.out.symm, HOKM.out, hlen', by rw [HMM.out]; exact hrow6, ?_, set4_below (HB5.out.trans (hb6.mono HB5.out.size)) (Nat.le_refl _)⟩
              have h7 := hT6.set ⟨(catB (M ++ [x])).toArray⟩ ⟨#[]⟩ (-1) false
              rw [List.take_of_length_le (Nat.le_of_eq HMM.out), List.drop_eq_nil_of_le (Nat.le_of_eq HMM.out)]
              exact h7
            have HF := Lib.hid hfin
            obtain ⟨r0, r1, r2, r3, rz, rl⟩ := hT6
            clear hfin q0 q1 q2 q3 qz ql hb6 h6 hrow6
            go_wp2_with fail
            go_roundw
            case rel => exact ⟨j + 1, mm, M ++ [x], by omega, by go_num, rfl, HF.out⟩
            case measure => simp [intOf]; omega
          · have e1 : ((j : Int) == sy) = false := by simpa using hjs
            have hfin : Lk w1 (M ++ [x]) k (.slice a' mm c') w5 := ⟨by rw [List.length_append]; omega, HOKM.out, hlen', by rw [HMM.out]; exact HR5.out, by rw [HTK.out, HDK.out]; exact HT5.out, HB5.out⟩
            have HF := Lib.hid hfin
            clear hfin hjs
            go_wp2_with fail
            go_roundw
            case rel => exact ⟨j + 1, k, M ++ [x], by omega, by go_num, rfl, HF.out⟩
            case measure => simp [intOf]; omega
        · simp only [tW_full A B s (by omega)] at hWr
          have HWR := Lib.hid hWr
          clear hok hK2 hs hA hB hWr hb2 B2
          go_wp2_with fail
          refine (HWR.out _).mono ?_
          rintro e w3 ⟨rfl, hb3⟩
          have HB3 := Lib.hid (HB2.out.trans (hb3.mono HB2.out.size))
          clear q0 q1 q2 q3 qz ql p0 p1 p2 p3 p4 hb3 HWR
          go_wp2_with fail
          go_ret
          exact ⟨rfl, HB3.out.alloc HB3.out.size _⟩
      · refine (pBytes_no x _ hok (by omega)).mono ?_
        rintro e w2 ⟨rfl, hb2⟩
        have HK2 := Lib.hid (HK.out.later hb2)
        clear hok hb2
        go_wp2_with fail
        go_roundw
        case rel => exact ⟨j + 1, k, M, by omega, by go_num, rfl, HK2.out⟩
        case measure => simp [intOf]; omega
    · obtain rfl : j = n := by omega
      have hok := hK.ok
      have hlen := hK.len
      have hkM := hK.hk
      obtain ⟨a9, c9, rfl, hN9⟩ := nts_of_owns hK.row
      have hcap : M.length ≤ c9 ∨ M.length = 0 := by
        rcases hK.row.2 with ⟨_, h⟩ | ⟨g, cap, cur, hv, _, _, h, _⟩
        · exact .inr h
        · injection hv with _ _ h3; subst h3; exact .inl h
      obtain ⟨A, hA⟩ : ∃ A, (⟨(catB (M.take k)).toArray⟩ : ByteArray) = A := ⟨_, rfl⟩
      obtain ⟨B, hB⟩ : ∃ B, (⟨(catB (M.drop k)).toArray⟩ : ByteArray) = B := ⟨_, rfl⟩
      have hAs : A.size = (catB (M.take k)).length := by rw [← hA, size_arr]
      have hBs : B.size = (catB (M.drop k)).length := by rw [← hB, size_arr]
      have hAB := cat_sizes M k
      have hTp := hK.tape
      rw [hA, hB] at hTp
      obtain ⟨q, hq⟩ : ∃ q, min keep.toNat B.size = q := ⟨_, rfl⟩
      have hqB : q ≤ B.size := by omega
      have hcr := fun w0 => ref_crash_any A B (-1) keep false w0 (by omega)
      have hX : (tCrash ⟨A, B, -1, false⟩ keep).a = ⟨((catB M).take ((catB (M.take k)).length + q)).toArray⟩ := by
        show A ++ B.extract 0 (min keep.toNat B.size) = _
        rw [hq, ← hA, ← hB, mk_extract, mk_app, catB_split M k, List.take_append, List.take_of_length_le (Nat.le_add_right _ _), Nat.add_sub_cancel_left]
      simp only [hX] at hcr
      obtain ⟨jj, hjj, hkj, hrd, hlY, hrec⟩ := rec_last M hok hlen ((catB (M.take k)).length + q) (by omega)
      have hkjj : k ≤ jj := hkj k hkM (by omega)
      have hpr := fun w0 => pRead_any (catB (M.take jj)) (by omega) w0
      unfold ReadP at hpr
      have hNl : (M.take jj).length = jj := by rw [List.length_take]; omega
      simp only [hrd] at hpr
      have hN10 := nts_take hN9 jj
      have hM1 : M.length ≤ 262144 := by have := cat_ge M; omega
      have hcj : (jj : Int) ≤ (c9 : Int) := by omega
      have hjl : jj ≤ 262144 := by omega
      obtain ⟨NN, hNN⟩ : ∃ NN, M.take jj = NN := ⟨_, rfl⟩
      rw [hNN] at hNl hN10
      simp only [hNN] at hrec hpr
      obtain ⟨sg, hsg⟩ : ∃ sg, Sg.fold NN = sg := ⟨_, rfl⟩
      have hfit := Sg.fit_foldl NN Sg.zero Sg.fit_zero
      have hf1 : sg.L.length ≤ 1024 := by rw [← hsg]; exact hfit.1
      have hfo := fun w0 (h0 : Nts w0 a9 NN) => refFold_any a9 jj c9 NN hNl (by omega) w0 h0
      rw [hsg] at hrec
      simp only [hsg] at hfo
      obtain ⟨Y, hY⟩ : ∃ Y, (⟨(catB NN).toArray⟩ : ByteArray) = Y := ⟨_, rfl⟩
      have hYs : Y.size ≤ 262144 := by rw [← hY, size_arr, ← hNN]; exact hlY
      simp only [hY] at hrec hpr
      obtain ⟨X, hXX⟩ : ∃ X, (⟨((catB M).take ((catB (M.take k)).length + q)).toArray⟩ : ByteArray) = X := ⟨_, rfl⟩
      simp only [hXX] at hcr hrec
      obtain ⟨mm, hmm⟩ : ∃ mm, M.length = mm := ⟨_, rfl⟩
      rw [hmm] at hjj hkM ⊢
      have HCR := Lib.hid hcr
      have HREC := Lib.hid hrec
      have HPR := Lib.hid hpr
      have HFO := Lib.hid hfo
      have HNL := Lib.hid hNl
      have HN10 := Lib.hid hN10
      have HB := Lib.hid (B1.trans (hK.below.mono B1.size))
      obtain ⟨q0, q1, q2, q3, qz, ql⟩ := hTp
      clear hok hlen hcap hA hB hAs hBs hAB hq hqB hcr hX hkj hrd hlY hrec hpr hNl hN10 hNN hsg hfit hfo hY hXX hmm hN9 hK HK
      go_wp2_with fail
      refine (HCR.out _).mono ?_
      rintro e w2 ⟨rfl, hb2⟩
      have HB2 := Lib.hid (HB.out.trans (hb2.mono HB.out.size))
      have HN2 := Lib.hid (HN10.out.later hb2)
      clear q0 q1 q2 q3 qz ql hb2 HCR HN10
      go_wp2_with fail
      refine (HREC.out _).mono ?_
      rintro e w3 ⟨a4, c4, rfl, hE4, hb3⟩
      have HB3 := Lib.hid (HB2.out.trans (hb3.mono HB2.out.size))
      have HN3 := Lib.hid (HN2.out.later hb3)
      have HE4 := Lib.hid hE4
      clear hE4 hb3 HREC HN2 HB2
      go_wp2_with fail
      rw [show Y ++ (⟨#[]⟩ : ByteArray) = Y from ByteArray.append_empty]
      have P3 : Below w3.heap.size w3 ((w3.alloc (.cells #[.int .u64 sg.term, .int .u64 sg.vote, .int .u64 sg.base, .int .u64 sg.bt, .string sg.snap, .slice a4 sg.L.length c4] 36)).alloc (.cells #[.string Y, .string ⟨#[]⟩, .int .i64 (-1), .bool false] 44)) := by go_grown
      have hSx : Sx ((w3.alloc (.cells #[.int .u64 sg.term, .int .u64 sg.vote, .int .u64 sg.base, .int .u64 sg.bt, .string sg.snap, .slice a4 sg.L.length c4] 36)).alloc (.cells #[.string Y, .string ⟨#[]⟩, .int .i64 (-1), .bool false] 44)) w3.heap.size sg a4 c4 := (Sx.new rfl sg a4 c4 _).later ((Below.refl _ _).alloc (Nat.le_refl _) _)
      refine (HPR.out _).mono ?_
      rintro e w4 ⟨v5, rfl, hown5, hb4⟩
      obtain ⟨a5, c5, rfl, hN5⟩ := nts_of_owns hown5
      rw [HNL.out]
      have P4 : Below w3.heap.size w3 w4 := P3.trans (hb4.mono P3.size)
      have HSX4 := Lib.hid (hSx.later hb4)
      have HN4 := Lib.hid (HN3.out.later P4)
      have HE5 := Lib.hid (HE4.out.later P4)
      have HB4 := Lib.hid (HB3.out.trans (P4.mono HB3.out.size))
      have HN5 := Lib.hid hN5
      clear hown5 hN5 P3 P4 hSx hb4 HN3 HE4 HB3 HPR
      go_wp2_with fail
      refine (refNotes_eq a5 a9 jj c5 c9 NN HNL.out (by omega) _ HN5.out HN4.out).mono ?_
      rintro e w5 ⟨rfl, hb5⟩
      have HSX5 := Lib.hid (HSX4.out.later hb5)
      have HN6 := Lib.hid (HN4.out.later hb5)
      have HE6 := Lib.hid (HE5.out.later hb5)
      have HB5 := Lib.hid (HB4.out.trans (hb5.mono HB4.out.size))
      obtain ⟨s0, s1, s2, s3, s4, s5, sz, sl⟩ := HSX5.out
      clear hb5 HN4 HE5 HB4 HSX4
      go_wp2_with fail
      go_region_with (first
        | (go_at_call 20; (with_reducible refine (HFO.out _ (HN6.out.later (Below.refl _ _).drew)).mono ?_); rintro e w6 ⟨a6, c6, rfl, hE7, hb6⟩; have hP6 : Below w5.heap.size w5 w6 := (Below.refl _ _).drew.trans hb6; obtain ⟨s0', s1', s2', s3', s4', s5', sz', sl'⟩ := HSX5.out.later hP6; have HP6 := Lib.hid hP6; have HE7 := Lib.hid hE7; have HE8 := Lib.hid (HE6.out.later hP6); clear hP6 hb6 hE7)
        | (go_at_call 11; (with_reducible refine (refSame_eq a4 a6 sg.L.length c4 c6 sg.term sg.vote sg.base sg.bt sg.snap sg.L rfl (by omega) _ HE8.out HE7.out).mono ?_); rintro e w7 ⟨rfl, hb7⟩; have HP7 := Lib.hid (HP6.out.trans (hb7.mono HP6.out.size)); clear hb7))
      all_goals
        have HF := Lib.hid (HB5.out.trans (HP7.out.mono HB5.out.size))
        clear s0 s1 s2 s3 s4 s5 sz sl s0' s1' s2' s3' s4' s5' sz' sl'
        go_wp2_with fail
        go_ret
        exact ⟨rfl, HF.out⟩
end Go.Proofs.YtjbhnkigbobhiaaDoor
