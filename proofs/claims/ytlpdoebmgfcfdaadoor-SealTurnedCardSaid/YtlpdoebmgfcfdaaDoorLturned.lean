/- SealTurned: a sealed text of which one byte of the text or of the sum is another one is refused. -/
import Derived.Test.YtlpdoebmgfcfdaaDoorShown
import Derived.Test.YtlpdoebmgfcfdaaDoorSm
import Derived.Test.YtlpdoebmgfcfdaaDoorPtakes
import Derived.Test.YtlpdoebmgfcfdaaDoorConv
namespace Go.Proofs.YtlpdoebmgfcfdaaDoor
open Go.RowKit

set_option maxHeartbeats 400000 in
theorem turned_big (s : ByteArray) (at' by' : Int) (h : 65536 < s.size) (w : World) (hT : Tz w) : Calls Tryd.prog 8 #[.string s, .int .i64 at', .int .i64 by'] w fun e w' => e = .returned (.bool true) ∧ Below w.heap.size w w' := by
  go_enter Tryd.func8, Tryd.ntmps8
  go_wp2_with fail
  refine (shown_any _ hT).mono ?_
  rintro e w1 ⟨rfl, hb1⟩
  go_wp2_with fail
  refine (put_big _ _ h).mono ?_
  rintro e w2 ⟨rfl, rfl⟩
  go_wp2_with fail
  go_ret
  exact ⟨by simp, hb1⟩
set_option maxHeartbeats 400000 in
theorem turned_neg (s : ByteArray) (at' by' : Int) (h : s.size ≤ 65536) (ha : at' < 0) (w : World) (hT : Tz w) : Calls Tryd.prog 8 #[.string s, .int .i64 at', .int .i64 by'] w fun e w' => e = .returned (.bool true) ∧ Below w.heap.size w w' := by
  have ha2 : decide (at' < 0) = true := by simpa using ha
  go_enter Tryd.func8, Tryd.ntmps8
  go_wp2_with fail
  refine (shown_any _ hT).mono ?_
  rintro e w1 ⟨rfl, hb1⟩
  go_wp2_with fail
  refine (put_any _ _ h (hT.below (hb1.mono hT.n))).mono ?_
  rintro e w2 ⟨rfl, hb2⟩
  go_wp2_with fail
  go_ret
  exact ⟨by simp, hb1.trans (hb2.mono hb1.size)⟩
set_option maxHeartbeats 400000 in
theorem turned_zero (s : ByteArray) (at' by' : Int) (h : s.size ≤ 65536) (ha : 0 ≤ at') (hz : (by'.tmod 256 == 0) = true) (w : World) (hT : Tz w) : Calls Tryd.prog 8 #[.string s, .int .i64 at', .int .i64 by'] w fun e w' => e = .returned (.bool true) ∧ Below w.heap.size w w' := by
  have ha2 : decide (at' < 0) = false := by simpa using ha
  go_enter Tryd.func8, Tryd.ntmps8
  go_wp2_with fail
  refine (shown_any _ hT).mono ?_
  rintro e w1 ⟨rfl, hb1⟩
  go_wp2_with fail
  refine (put_any _ _ h (hT.below (hb1.mono hT.n))).mono ?_
  rintro e w2 ⟨rfl, hb2⟩
  go_wp2_with fail
  go_ret
  exact ⟨by simp, hb1.trans (hb2.mono hb1.size)⟩
set_option maxHeartbeats 400000 in
theorem turned_far (s : ByteArray) (at' by' : Int) (h : s.size ≤ 65536) (ha : (s.size : Int) + 4 ≤ at') (hz : (by'.tmod 256 == 0) = false) (w : World) (hT : Tz w) : Calls Tryd.prog 8 #[.string s, .int .i64 at', .int .i64 by'] w fun e w' => e = .returned (.bool true) ∧ Below w.heap.size w w' := by
  have ha2 : decide (at' < 0) = false := by simp; omega
  have ha3 : decide ((s.size : Int) + 4 ≤ at') = true := by simpa using ha
  obtain ⟨hd, hhd⟩ : ∃ n : Nat, n = (numB s.data.toList.length).length := ⟨_, rfl⟩
  have hd1 : 1 ≤ hd := by rw [hhd]; exact numB_pos _ (by rw [len_data]; omega)
  obtain ⟨B, hB⟩ : ∃ B : List UInt8, B = putB s.data.toList := ⟨_, rfl⟩
  have hl : B.length = hd + s.size + 4 := by rw [hB, len_put, len_data, hhd, len_data]
  have hd8 : hd ≤ 8 := by rw [hhd]; exact numB_le _
  have hle : (B.length : Int) - s.size - 4 = hd := by omega
  have HB := Lib.hid hB; clear hB
  have HD := Lib.hid hhd; clear hhd
  go_enter Tryd.func8, Tryd.ntmps8
  go_wp2_with fail
  refine (shown_any _ hT).mono ?_
  rintro e w1 ⟨rfl, hb1⟩
  go_wp2_with fail
  refine (put_any _ _ h (hT.below (hb1.mono hT.n))).mono ?_
  rintro e w2 ⟨rfl, hb2⟩
  rw [← HB.out]
  go_wp2_with fail
  go_ret
  exact ⟨by simp, hb1.trans (hb2.mono hb1.size)⟩
theorem byte_pos (b : Int) (h : (b.tmod 256 == 0) = false) : 0 < b % 256 ∧ b % 256 < 256 := by
  have h1 : b.tmod 256 ≠ 0 := by simpa using h
  have h2 : ¬ (256 : Int) ∣ b := fun hd => h1 (Int.tmod_eq_zero_of_dvd hd)
  omega
set_option maxHeartbeats 1000000 in
theorem turned_main (s : ByteArray) (i : Nat) (by' : Int) (h : s.size ≤ 65536) (ha : i < s.size + 4) (hz : (by'.tmod 256 == 0) = false) (w : World) (hT : Tz w) : Calls Tryd.prog 8 #[.string s, .int .i64 i, .int .i64 by'] w fun e w' => e = .returned (.bool true) ∧ Below w.heap.size w w' := by
  have hx := byte_pos by' hz
  have ha2 : decide ((i : Int) < 0) = false := by simp
  have ha3 : decide ((s.size : Int) + 4 ≤ i) = false := by simp; omega
  obtain ⟨hd, hhd⟩ : ∃ n : Nat, n = (numB s.data.toList.length).length := ⟨_, rfl⟩
  have hd1 : 1 ≤ hd := by rw [hhd]; exact numB_pos _ (by rw [len_data]; omega)
  obtain ⟨B, hB⟩ : ∃ B : List UInt8, B = putB s.data.toList := ⟨_, rfl⟩
  have hl : B.length = hd + s.size + 4 := by rw [hB, len_put, len_data, hhd, len_data]
  have hd8 : hd ≤ 8 := by rw [hhd]; exact numB_le _
  have hle : (B.length : Int) - s.size - 4 = hd := by omega
  have hin : hd + i < B.length := by omega
  have HX : Hid _ := Lib.hid (tkSeal_turned s.data.toList (by rw [len_data]; exact h) i (by rw [len_data]; exact ha) (UInt8.ofNat (Go.bits BinOp.xor IntKind.u8 (B[hd + i].toNat : Int) (by' % 256)).toNat) (by
    rw [← hhd, ← hB, List.getElem?_eq_getElem hin]
    intro e
    exact xor_ne _ _ hx.1 hx.2 (Option.some.inj e).symm))
  rw [← hhd, ← hB] at HX
  have HB := Lib.hid hB; clear hB
  have HD := Lib.hid hhd; clear hhd
  clear hx
  go_enter Tryd.func8, Tryd.ntmps8
  go_wp2_with fail
  refine (shown_any _ hT).mono ?_
  rintro e w1 ⟨rfl, hb1⟩
  go_wp2_with fail
  refine (put_any _ _ h (hT.below (hb1.mono hT.n))).mono ?_
  rintro e w2 ⟨rfl, hb2⟩
  rw [← HB.out]
  obtain ⟨W1, cap, hconv, hcells, hfro, hBel, hsz⟩ := conv_any w2 B
  have hback := back_any W1 w2.heap.size B cap hcells (hd + i) hin
  have hc1 : W1.cell? ⟨w2.heap.size, hd + i, none⟩ = some (.int .u8 (B[hd + i].toNat : Int)) := hcells _ _ (List.getElem?_eq_getElem hin)
  have hf1 : W1.frozen? ⟨w2.heap.size, hd + i, none⟩ = false := hfro _ hin
  have HL := Lib.hid hl; clear hl
  have HS := Lib.hid hsz; clear hsz
  have HC := Lib.hid hcells; clear hcells
  have HF := Lib.hid hfro; clear hfro
  generalize hxx : B[hd + i].toNat = x at *
  have HXX := Lib.hid hxx; clear hxx
  go_wp2_with fail
  refine (takes_any _ ?_ _).mono ?_
  · show (B.set _ _).toArray.size ≤ maxLen
    rw [List.size_toArray, List.length_set, HL.out]; unfold maxLen; omega
  rintro e w3 ⟨rfl, hb3⟩
  have e0 : ∀ l : List UInt8, (ByteArray.mk l.toArray).data.toList = l := fun _ => rfl
  rw [e0]
  rw [HX.out]
  clear e0
  go_wp2_with fail
  go_ret
  exact ⟨by simp, (hb1.trans (hb2.mono hb1.size)).trans ((hBel.setCell (Nat.le_refl _) _ |>.trans (hb3.mono (by have := HS.out; simp; omega))).mono (Nat.le_trans hb1.size hb2.size))⟩
/-- SealTurned, every input. -/
theorem law_SealTurned (s : ByteArray) (at' by' : Int) (_hs : s.size ≤ 140737488351232) (_ha : (Lit.int .i64 at').wf = true) (_hb : (Lit.int .i64 by').wf = true) (w : World) (hT : Tz w) : Calls Tryd.prog 8 #[.string s, .int .i64 at', .int .i64 by'] w fun e w' => e = .returned (.bool true) ∧ Below w.heap.size w w' := by
  by_cases h : s.size ≤ 65536
  · by_cases ha : at' < 0
    · exact turned_neg s at' by' h ha w hT
    by_cases hz : (by'.tmod 256 == 0) = true
    · exact turned_zero s at' by' h (by omega) hz w hT
    have hz : (by'.tmod 256 == 0) = false := by simpa using hz
    by_cases hf : (s.size : Int) + 4 ≤ at'
    · exact turned_far s at' by' h hf hz w hT
    · obtain ⟨i, rfl⟩ := Int.eq_ofNat_of_zero_le (show 0 ≤ at' by omega)
      exact turned_main s i by' h (by omega) hz w hT
  · exact turned_big s at' by' (by omega) w hT
end Go.Proofs.YtlpdoebmgfcfdaaDoor
