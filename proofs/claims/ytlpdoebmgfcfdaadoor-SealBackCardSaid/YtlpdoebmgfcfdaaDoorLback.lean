/- SealBack: what was sealed is taken, whatever stands behind it; no beginning of it is a sealed text. -/
import Derived.Test.YtlpdoebmgfcfdaaDoorShown
import Derived.Test.YtlpdoebmgfcfdaaDoorPwhole
namespace Go.Proofs.YtlpdoebmgfcfdaaDoor
open Go.RowKit

theorem mk_self (s : ByteArray) : ByteArray.mk s.data.toList.toArray = s := by obtain ⟨⟨l⟩⟩ := s; rfl
theorem mk_data (l : List UInt8) : (ByteArray.mk l.toArray).data.toList = l := rfl
theorem str_beq (s : ByteArray) : (s.toList == s.toList) = true := by simp
set_option maxHeartbeats 400000 in
theorem back_big (s more : ByteArray) (cut : Int) (h : 65536 < s.size) (w : World) (hT : Tz w) : Calls Tryd.prog 7 #[.string s, .string more, .int .i64 cut] w fun e w' => e = .returned (.bool true) ∧ Below w.heap.size w w' := by
  go_enter Tryd.func7, Tryd.ntmps7
  go_wp2_with fail
  refine (shown_any _ hT).mono ?_
  rintro e w1 ⟨rfl, hb1⟩
  go_wp2_with fail
  refine (put_big _ _ h).mono ?_
  rintro e w2 ⟨rfl, rfl⟩
  go_wp2_with fail
  go_ret
  exact ⟨by simp, hb1⟩
set_option maxHeartbeats 400000 in
theorem back_out (s more : ByteArray) (cut : Int) (h : s.size ≤ 65536) (hm : more.size ≤ 140737488351232) (hc : (decide (cut < 0) || decide (((putB s.data.toList).length : Int) ≤ cut)) = true) (w : World) (hT : Tz w) : Calls Tryd.prog 7 #[.string s, .string more, .int .i64 cut] w fun e w' => e = .returned (.bool true) ∧ Below w.heap.size w w' := by
  have HK : Hid _ := Lib.hid (tkSeal_putB s.data.toList more.data.toList (by rw [len_data]; exact h))
  have hl : (putB s.data.toList).length ≤ 65560 := by rw [len_put, len_data]; have := numB_le s.size; omega
  obtain ⟨B, hB⟩ : ∃ B : List UInt8, B = putB s.data.toList := ⟨_, rfl⟩
  rw [← hB] at HK hl hc
  have HB := Lib.hid hB; clear hB
  have hcc : decide (cut < 0) = true ∨ (decide (cut < 0) = false ∧ decide ((B.length : Int) ≤ cut) = true) := by
    cases h1 : decide (cut < 0) <;> simp_all
  rcases hcc with hcc | ⟨hcc, hcd⟩
  all_goals
    clear hc
    go_enter Tryd.func7, Tryd.ntmps7
    go_wp2_with fail
    refine (shown_any _ hT).mono ?_
    rintro e w1 ⟨rfl, hb1⟩
    go_wp2_with fail
    refine (put_any _ _ h (hT.below (hb1.mono hT.n))).mono ?_
    rintro e w2 ⟨rfl, hb2⟩
    rw [← HB.out]
    go_wp2_with fail
    refine (takes_any _ (by rw [ByteArray.size_append, size_arr]; unfold maxLen; omega) _).mono ?_
    rintro e w3 ⟨rfl, hb3⟩
    rw [data_app, mk_data, HK.out]
    simp only [mk_self]
    have hqs := str_beq s
    have hqm := str_beq more
    go_wp2_with fail
    go_ret
    exact ⟨by simp, (hb1.trans (hb2.mono hb1.size)).trans (hb3.mono (Nat.le_trans hb1.size hb2.size))⟩
set_option maxHeartbeats 1000000 in
theorem back_in (s more : ByteArray) (k : Nat) (h : s.size ≤ 65536) (hm : more.size ≤ 140737488351232) (hc : k < (putB s.data.toList).length) (w : World) (hT : Tz w) : Calls Tryd.prog 7 #[.string s, .string more, .int .i64 k] w fun e w' => e = .returned (.bool true) ∧ Below w.heap.size w w' := by
  have HK : Hid _ := Lib.hid (tkSeal_putB s.data.toList more.data.toList (by rw [len_data]; exact h))
  have hl : (putB s.data.toList).length ≤ 65560 := by rw [len_put, len_data]; have := numB_le s.size; omega
  have HC : Hid _ := Lib.hid (tkSeal_cut s.data.toList (by rw [len_data]; exact h) k hc)
  obtain ⟨B, hB⟩ : ∃ B : List UInt8, B = putB s.data.toList := ⟨_, rfl⟩
  rw [← hB] at HK hl hc HC
  have HB := Lib.hid hB; clear hB
  have h0 : decide ((k : Int) < 0) = false := by simp
  have h1 : decide ((B.length : Int) ≤ k) = false := by simp; omega
  have HE : Hid (sizeB (allB (B.take k)) = 0) := by
    show _ = _
    rw [(all_end HC.out (by decide)).1]; rfl
  go_enter Tryd.func7, Tryd.ntmps7
  go_wp2_with fail
  refine (shown_any _ hT).mono ?_
  rintro e w1 ⟨rfl, hb1⟩
  go_wp2_with fail
  refine (put_any _ _ h (hT.below (hb1.mono hT.n))).mono ?_
  rintro e w2 ⟨rfl, hb2⟩
  rw [← HB.out]
  go_wp2_with fail
  refine (takes_any _ (by rw [ByteArray.size_append, size_arr]; unfold maxLen; omega) _).mono ?_
  rintro e w3 ⟨rfl, hb3⟩
  rw [data_app, mk_data, HK.out]
  simp only [mk_self]
  have hqs := str_beq s
  have hqm := str_beq more
  go_wp2_with fail
  rw [ext_take]
  refine (takes_any _ (by rw [size_arr, List.length_take]; unfold maxLen; omega) _).mono ?_
  rintro e w4 ⟨rfl, hb4⟩
  rw [mk_data, HC.out]
  go_wp2_with fail
  rw [ext_take]
  refine (whole_any _ (by rw [List.length_take]; unfold maxLen; omega) _).mono ?_
  rintro e w5 ⟨rfl, hb5⟩
  rw [HE.out]
  go_wp2_with fail
  go_ret
  exact ⟨by simp, (((hb1.trans (hb2.mono hb1.size)).trans (hb3.mono (Nat.le_trans hb1.size hb2.size))).trans (hb4.mono (Nat.le_trans (Nat.le_trans hb1.size hb2.size) hb3.size))).trans (hb5.mono (Nat.le_trans (Nat.le_trans (Nat.le_trans hb1.size hb2.size) hb3.size) hb4.size))⟩
/-- SealBack, every input. -/
theorem law_SealBack (s more : ByteArray) (cut : Int) (_hs : s.size ≤ 140737488351232) (hm : more.size ≤ 140737488351232) (_hc : (Lit.int .i64 cut).wf = true) (w : World) (hT : Tz w) : Calls Tryd.prog 7 #[.string s, .string more, .int .i64 cut] w fun e w' => e = .returned (.bool true) ∧ Below w.heap.size w w' := by
  by_cases h : s.size ≤ 65536
  · by_cases hc : 0 ≤ cut ∧ cut < ((putB s.data.toList).length : Int)
    · obtain ⟨k, rfl⟩ := Int.eq_ofNat_of_zero_le hc.1
      exact back_in s more k h hm (by omega) w hT
    · exact back_out s more cut h hm (by simp; omega) w hT
  · exact back_big s more cut (by omega) w hT
end Go.Proofs.YtlpdoebmgfcfdaaDoor
