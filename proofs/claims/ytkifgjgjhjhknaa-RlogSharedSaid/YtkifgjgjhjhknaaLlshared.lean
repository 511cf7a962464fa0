/- RlogShared: how far two logs are the same is as the document says. -/
import Derived.Test.YtkifgjgjhjhknaaLt2
namespace Go.Proofs.Ytkifgjgjhjhknaa
open Go.RowKit

theorem sharedG_comm (A B : Lg) : sharedG A B = sharedG B A := by
  unfold sharedG
  rw [Nat.max_comm B.base A.base]
  unfold sharedN hasB
  rw [cp_comm (B.L.drop _) (A.L.drop _)]
  split
  · rfl
  · simp only [Bool.and_eq_true, decide_eq_true_eq]
    by_cases h1 : (tAt A.base A.bt A.L (max A.base B.base)).2 = true
    · by_cases h2 : (tAt B.base B.bt B.L (max A.base B.base)).2 = true
      · simp only [h1, h2, true_and]
        by_cases h3 : (tAt A.base A.bt A.L (max A.base B.base)).1 = (tAt B.base B.bt B.L (max A.base B.base)).1
        · simp [h3]
        · simp [h3, show ¬ (tAt B.base B.bt B.L (max A.base B.base)).1 = (tAt A.base A.bt A.L (max A.base B.base)).1 from fun e => h3 e.symm]
      · simp [h1, h2]
    · simp [h1]
set_option maxHeartbeats 4000000 in
theorem law_RlogShared (ba bta na ca bb btb nb cb : Nat) (sa sb : ByteArray) (a b : Option Addr) (LA LB : List En) (hna : LA.length = na) (hla : na ≤ 140737488351232) (hca : na ≤ ca) (hcma : ca ≤ maxLen) (hnb : LB.length = nb) (hlb : nb ≤ 140737488351232) (hcb : nb ≤ cb) (hcmb : cb ≤ maxLen) (w : World) (hEa : Ents w a LA) (hEb : Ents w b LB) :
    Calls Try.prog 7 #[.agg #[.int .u64 ba, .int .u64 bta, .string sa, .slice a na ca], .agg #[.int .u64 bb, .int .u64 btb, .string sb, .slice b nb cb]] w fun e w' => e = .returned (.bool true) ∧ Below w.heap.size w w' := by
  have HEA := Lib.hid hEa
  have HEB := Lib.hid hEb
  have HNA := Lib.hid hna
  have HNB := Lib.hid hnb
  have HC := Lib.hid (sharedG_comm ⟨bb, btb, sb, LB⟩ ⟨ba, bta, sa, LA⟩)
  obtain ⟨N, hN⟩ : ∃ N, sharedG ⟨ba, bta, sa, LA⟩ ⟨bb, btb, sb, LB⟩ = N := ⟨_, rfl⟩
  have HN := Lib.hid hN
  have B0 : Below w.heap.size w ((w.alloc (.cells #[.int .u64 ba, .int .u64 bta, .string sa, .slice a na ca] 25)).alloc (.cells #[.int .u64 bb, .int .u64 btb, .string sb, .slice b nb cb] 25)) := by go_grown
  have La := (Lb.new (w := w) rfl ba bta sa (.slice a na ca) 25).past (.cells #[.int .u64 bb, .int .u64 btb, .string sb, .slice b nb cb] 25)
  have Lb' := Lb.new (w := w.alloc (.cells #[.int .u64 ba, .int .u64 bta, .string sa, .slice a na ca] 25)) (x := w.heap.size + 1) (by simp) bb btb sb (.slice b nb cb) 25
  clear hEa hEb hna hnb hN
  by_cases hb : 4611686018427387903 < ba
  · have g : (4611686018427387903 : Int) < (ba : Int) := by omega
    go_enter Try.func7, Try.ntmps7
    go_wp2_with fail
    refine (shown_any _).mono ?_
    rintro e w1 ⟨rfl, hb1⟩
    obtain ⟨l0, l1, l2, l3, lz, ll⟩ := La.later hb1
    have B1 := B0.trans (hb1.mono B0.size)
    clear hb1
    go_wp2_with fail
    go_ret
    exact ⟨rfl, B1⟩
  have g : ¬ (4611686018427387903 : Int) < (ba : Int) := by omega
  by_cases hb2 : 4611686018427387903 < bb
  · have g2 : (4611686018427387903 : Int) < (bb : Int) := by omega
    go_enter Try.func7, Try.ntmps7
    go_wp2_with fail
    refine (shown_any _).mono ?_
    rintro e w1 ⟨rfl, hb1⟩
    obtain ⟨l0, l1, l2, l3, lz, ll⟩ := La.later hb1
    obtain ⟨m0, m1, m2, m3, mz, ml⟩ := Lb'.later hb1
    have B1 := B0.trans (hb1.mono B0.size)
    clear hb1
    go_wp2_with fail
    go_ret
    exact ⟨rfl, B1⟩
  have g2 : ¬ (4611686018427387903 : Int) < (bb : Int) := by omega
  have hba : ba < 4611686018427387904 := by omega
  have hbb : bb < 4611686018427387904 := by omega
  clear hb hb2
  go_enter Try.func7, Try.ntmps7
  go_wp2_with fail
  refine (shown_any _).mono ?_
  rintro e w1 ⟨rfl, hb1⟩
  obtain ⟨l0, l1, l2, l3, lz, ll⟩ := La.later hb1
  obtain ⟨m0, m1, m2, m3, mz, ml⟩ := Lb'.later hb1
  have B1 := B0.trans (hb1.mono B0.size)
  have K1 := Lib.hid (show w1.cell? ⟨w.heap.size, 0, none⟩ = some (.int .u64 ba) ∧ w1.cell? ⟨w.heap.size, 1, none⟩ = some (.int .u64 bta) ∧ w1.cell? ⟨w.heap.size, 2, none⟩ = some (.string sa) ∧ w1.cell? ⟨w.heap.size, 3, none⟩ = some (.slice a na ca) ∧ w1.cell? ⟨w.heap.size + 1, 0, none⟩ = some (.int .u64 bb) ∧ w1.cell? ⟨w.heap.size + 1, 1, none⟩ = some (.int .u64 btb) ∧ w1.cell? ⟨w.heap.size + 1, 2, none⟩ = some (.string sb) ∧ w1.cell? ⟨w.heap.size + 1, 3, none⟩ = some (.slice b nb cb) ∧ w.heap.size < w1.heap.size ∧ w.heap.size + 1 < w1.heap.size ∧ Below w.heap.size w w1 from ⟨l0, l1, l2, l3, m0, m1, m2, m3, ll, ml, B1⟩)
  clear hb1 La Lb' B0
  go_wp2_with fail
  refine (pShared_any ba bta na ca bb btb nb cb sa sb a b LA LB HNA.out hla hca hcma hba HNB.out hlb hcb hcmb hbb _ (HEA.out.later B1) (HEB.out.later B1)).mono ?_
  rintro e w2 ⟨rfl, hb2⟩
  rw [HN.out]
  have K2 := Lib.hid (keep2 K1.out hb2)
  clear hb2 l0 l1 l2 l3 lz ll m0 m1 m2 m3 mz ml B1
  obtain ⟨l0, l1, l2, l3, m0, m1, m2, m3, ll, ml, B2⟩ := K2.out
  go_wp2_with fail
  refine (rShared_any ba bta na ca bb btb nb cb sa sb a b LA LB HNA.out hla hba HNB.out hlb hbb _ (HEA.out.later B2) (HEB.out.later B2)).mono ?_
  rintro e w3 ⟨rfl, hb3⟩
  rw [HN.out]
  have K3 := Lib.hid (keep2 K2.out hb3)
  clear hb3 l0 l1 l2 l3 ll m0 m1 m2 m3 ml B2
  obtain ⟨l0, l1, l2, l3, m0, m1, m2, m3, ll, ml, B3⟩ := K3.out
  go_wp2_with fail
  refine (pShared_any bb btb nb cb ba bta na ca sb sa b a LB LA HNB.out hlb hcb hcmb hbb HNA.out hla hca hcma hba _ (HEB.out.later B3) (HEA.out.later B3)).mono ?_
  rintro e w4 ⟨rfl, hb4⟩
  rw [HC.out, HN.out]
  have B4 := B3.trans (hb4.mono B3.size)
  clear hb4 l0 l1 l2 l3 ll m0 m1 m2 m3 ml B3
  go_wp2_with fail
  go_ret
  exact ⟨by simp, B4⟩
end Go.Proofs.Ytkifgjgjhjhknaa
