/- RlogFrom: the entries from an index on are as the document says. -/
import Derived.Test.YtkifgjgjhjhknaaLq
namespace Go.Proofs.Ytkifgjgjhjhknaa
open Go.RowKit

set_option maxHeartbeats 2000000 in
theorem law_RlogFrom (base bt n c i : Nat) (most : Int) (hm0 : -9223372036854775808 ≤ most) (hm1 : most ≤ 9223372036854775807) (snap : ByteArray) (a : Option Addr) (L : List En) (hn : L.length = n) (hl : n * 24 ≤ 140737488351232) (hc : n ≤ c) (hcm : c ≤ maxLen) (hi : i < 18446744073709551616) (w : World) (hE : Ents w a L) :
    Calls Try.prog 4 #[.agg #[.int .u64 base, .int .u64 bt, .string snap, .slice a n c], .int .u64 i, .int .i64 most] w fun e w' => e = .returned (.bool true) ∧ Below w.heap.size w w' := by
  have B0 : Below w.heap.size w (w.alloc (.cells #[.int .u64 base, .int .u64 bt, .string snap, .slice a n c] 25)) := (Below.refl _ _).alloc (Nat.le_refl _) _
  have HL0 := Lib.hid (Lb.new (w := w) rfl base bt snap (.slice a n c) 25)
  have HE := Lib.hid hE
  have HN := Lib.hid hn
  have hl' : n ≤ 140737488351232 := by omega
  obtain ⟨M, hM⟩ : ∃ M, fromL base L i most = M := ⟨_, rfl⟩
  obtain ⟨m, hm⟩ : ∃ m, M.length = m := ⟨_, rfl⟩
  have hmn : m ≤ 140737488351232 := by
    rw [← hm, ← hM]; unfold fromL; split
    · simp
    · rw [List.length_take, List.length_drop]; omega
  have HM := Lib.hid hM
  have HML := Lib.hid hm
  clear hE hn hM hm
  by_cases hb : 4611686018427387903 < base
  · have g : (4611686018427387903 : Int) < (base : Int) := by omega
    go_enter Try.func4, Try.ntmps4
    go_wp2_with fail
    refine (shown_any _).mono ?_
    rintro e w1 ⟨rfl, hb1⟩
    obtain ⟨l0, l1, l2, l3, lz, ll⟩ := HL0.out.later hb1
    have B1 := B0.trans (hb1.mono B0.size)
    clear hb1
    go_wp2_with fail
    go_ret
    exact ⟨rfl, B1⟩
  have g : ¬ (4611686018427387903 : Int) < (base : Int) := by omega
  have hb' : base < 4611686018427387904 := by omega
  clear hb
  obtain ⟨b, hbb⟩ : ∃ b, decide (base < i) = b := ⟨_, rfl⟩
  have HB := Lib.hid hbb
  clear hbb
  go_enter Try.func4, Try.ntmps4
  go_wp2_with fail
  refine (shown_any _).mono ?_
  rintro e w1 ⟨rfl, hb1⟩
  have HL1 := Lib.hid (HL0.out.later hb1)
  obtain ⟨l0, l1, l2, l3, lz, ll⟩ := HL1.out
  have B1 := B0.trans (hb1.mono B0.size)
  clear hb1 B0
  go_wp2_with fail
  refine (pFrom_any base bt n c i most snap a L HN.out hl' hc hcm hb' hi _ (HE.out.later B1)).mono ?_
  rintro e w2 ⟨a2, c2, rfl, hE2, hb2⟩
  rw [HM.out] at hE2 ⊢
  rw [HML.out, HB.out]
  have HE2 := Lib.hid hE2
  obtain ⟨m0, m1, m2, m3, mz, ml⟩ := HL1.out.later hb2
  have B2 := B1.trans (hb2.mono B1.size)
  clear hb2 hE2 l0 l1 l2 l3 lz
  go_wp2_with fail
  refine (rFrom_any base bt n c i most hm0 hm1 snap a L HN.out hl hb' hi _ (HE.out.later B2)).mono ?_
  rintro e w3 ⟨a3, c3, rfl, hE3, hb3⟩
  rw [HM.out] at hE3 ⊢
  rw [HML.out, HB.out]
  have hE2' := HE2.out.later hb3
  have B3 := B2.trans (hb3.mono B2.size)
  clear hb3 m0 m1 m2 m3 mz
  go_wp2_with fail
  refine (rEntries_eq a2 a3 m c2 c3 M HML.out hmn _ hE2' hE3).mono ?_
  rintro e w4 ⟨rfl, hb4⟩
  have B4 := B3.trans (hb4.mono B3.size)
  clear hb4 hE2' hE3
  go_wp2_with fail
  go_ret
  exact ⟨by simp, B4⟩
end Go.Proofs.Ytkifgjgjhjhknaa
