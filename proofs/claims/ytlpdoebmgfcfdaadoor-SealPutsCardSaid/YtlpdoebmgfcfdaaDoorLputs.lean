/- SealPuts: a text is sealed as the document says, or is too long. -/
import Derived.Test.YtlpdoebmgfcfdaaDoorShown
import Derived.Test.YtlpdoebmgfcfdaaDoorRput
namespace Go.Proofs.YtlpdoebmgfcfdaaDoor
open Go.RowKit

set_option maxHeartbeats 400000 in
theorem law_SealPuts (s : ByteArray) (_hs : s.size ≤ maxLen) (w : World) (hT : Tz w) : Calls Tryd.prog 4 #[.string s] w fun e w' => e = .returned (.bool true) ∧ Below w.heap.size w w' := by
  by_cases h : s.size ≤ 65536
  · have HL := Lib.hid h; clear h
    go_enter Tryd.func4, Tryd.ntmps4
    go_wp2_with fail
    refine (shown_any _ hT).mono ?_
    rintro e w1 ⟨rfl, hb1⟩
    go_wp2_with fail
    refine (put_any _ _ HL.out (hT.below (hb1.mono hT.n))).mono ?_
    rintro e w2 ⟨rfl, hb2⟩
    go_wp2_with fail
    refine (refPut_any _ _ HL.out).mono ?_
    rintro e w3 ⟨rfl, hb3⟩
    go_wp2_with fail
    go_ret
    exact ⟨by simp, (hb1.trans (hb2.mono hb1.size)).trans (hb3.mono (Nat.le_trans hb1.size hb2.size))⟩
  · have HL : Hid (65536 < s.size) := Nat.lt_of_not_le h
    clear h
    go_enter Tryd.func4, Tryd.ntmps4
    go_wp2_with fail
    refine (shown_any _ hT).mono ?_
    rintro e w1 ⟨rfl, hb1⟩
    go_wp2_with fail
    refine (put_big _ _ HL.out).mono ?_
    rintro e w2 ⟨rfl, rfl⟩
    go_wp2_with fail
    refine (refPut_big _ _ HL.out).mono ?_
    rintro e w3 ⟨rfl, rfl⟩
    go_wp2_with fail
    go_ret
    exact ⟨by simp, hb1⟩
end Go.Proofs.YtlpdoebmgfcfdaaDoor
