/- Shared: the program's. -/
import Derived.Test.YtkifgjgjhjhknaaLq
namespace Go.Proofs.Ytkifgjgjhjhknaa
open Go.RowKit

instance : DecidableEq En := fun x y => match x, y with
  | ⟨t1, d1⟩, ⟨t2, d2⟩ => if h : t1 = t2 ∧ d1 = d2 then .isTrue (by rw [h.1, h.2]) else .isFalse (fun e => h (by injection e with a b; exact ⟨a, b⟩))
/-- How many entries at the beginning are the same. -/
def cp : List En → List En → Nat
  | x :: r, y :: s => if x = y then cp r s + 1 else 0
  | _, _ => 0
theorem cp_le : ∀ a b : List En, cp a b ≤ a.length ∧ cp a b ≤ b.length
  | [], _ => by simp [cp]
  | _ :: _, [] => by simp [cp]
  | x :: r, y :: s => by
    unfold cp; split
    · have := cp_le r s; simp; omega
    · simp
theorem cp_lt : ∀ (a b : List En) (j : Nat), j < cp a b → ∃ x, a[j]? = some x ∧ b[j]? = some x
  | [], _, _, h => by simp [cp] at h
  | _ :: _, [], _, h => by simp [cp] at h
  | x :: r, y :: s, j, h => by
    unfold cp at h
    split at h
    · rename_i e
      cases j with
      | zero => exact ⟨x, rfl, by rw [e]; rfl⟩
      | succ j => simpa using cp_lt r s j (by omega)
    · omega
theorem cp_end : ∀ (a b : List En) (x y : En), a[cp a b]? = some x → b[cp a b]? = some y → x ≠ y
  | [], _, _, _, h, _ => by simp [cp] at h
  | _ :: _, [], _, _, _, h => by simp [cp] at h
  | u :: r, v :: s, x, y, h1, h2 => by
    unfold cp at h1 h2
    split at h1
    · rename_i e
      rw [if_pos e] at h2
      exact cp_end r s x y (by simpa using h1) (by simpa using h2)
    · rename_i e
      rw [if_neg e] at h2
      simp at h1 h2; subst h1 h2; exact e
theorem cp_comm : ∀ a b : List En, cp a b = cp b a
  | [], [] => rfl
  | [], _ :: _ => rfl
  | _ :: _, [] => rfl
  | x :: r, y :: s => by
    unfold cp
    by_cases h : x = y
    · rw [if_pos h, if_pos h.symm, cp_comm r s]
    · rw [if_neg h, if_neg (fun e => h e.symm)]
/-- One more. -/
theorem cp_eq {a b : List En} {j : Nat} {x y : En} (hj : j ≤ cp a b) (ha : a[j]? = some x) (hb : b[j]? = some y) : (x = y → j + 1 ≤ cp a b) ∧ (x ≠ y → j = cp a b) := by
  constructor
  · intro e
    rcases Nat.lt_or_ge j (cp a b) with h | h
    · omega
    · have : j = cp a b := by omega
      subst this; exact absurd e (cp_end a b x y ha hb)
  · intro e
    rcases Nat.lt_or_ge j (cp a b) with h | h
    · obtain ⟨z, h1, h2⟩ := cp_lt a b j h
      rw [ha] at h1; rw [hb] at h2; cases h1; cases h2; exact absurd rfl e
    · omega
theorem cp_out {a b : List En} {j : Nat} (hj : j ≤ cp a b) (h : a.length ≤ j ∨ b.length ≤ j) : j = cp a b := by
  have := cp_le a b; omega
/-- Entries that aren't one: in their terms, or in what they say. -/
theorem en_ne {x y : En} (h : x ≠ y) : ((x.t : Int) == (y.t : Int)) = false ∨ (x.t = y.t ∧ (x.d == y.d) = false ∧ (x.d.toList == y.d.toList) = false) := by
  obtain ⟨t1, d1⟩ := x; obtain ⟨t2, d2⟩ := y
  by_cases h1 : t1 = t2
  · right
    have h2 : ¬ d1 = d2 := fun h2 => by subst h1 h2; exact h rfl
    have h3 : (d1.toList == d2.toList) = false := by
      have h4 : ¬ d1.toList = d2.toList := fun e => by
        rw [ByteArray.toList_eq, ByteArray.toList_eq] at e
        exact h2 (ByteArray.ext (by simpa using e))
      simpa using h4
    exact ⟨h1, by rw [beq_toListBytes]; exact h3, h3⟩
  · left; simp; omega
/-- How far two logs are the same. -/
def sharedN (base : Nat) (A B : Lg) : Nat :=
  if 0 < cp (A.L.drop (base - A.base)) (B.L.drop (base - B.base)) then base + cp (A.L.drop (base - A.base)) (B.L.drop (base - B.base)) else
  if (tAt A.base A.bt A.L base).2 = true ∧ hasB B.base B.bt B.L base (tAt A.base A.bt A.L base).1 = true then base else 0
def sharedG (A B : Lg) : Nat := sharedN (max A.base B.base) A B
theorem keep2 {w wp w2 : World} {x y : Nat} {v0 v1 v2 v3 u0 u1 u2 u3 : Value} (K : wp.cell? ⟨x, 0, none⟩ = some v0 ∧ wp.cell? ⟨x, 1, none⟩ = some v1 ∧ wp.cell? ⟨x, 2, none⟩ = some v2 ∧ wp.cell? ⟨x, 3, none⟩ = some v3 ∧ wp.cell? ⟨y, 0, none⟩ = some u0 ∧ wp.cell? ⟨y, 1, none⟩ = some u1 ∧ wp.cell? ⟨y, 2, none⟩ = some u2 ∧ wp.cell? ⟨y, 3, none⟩ = some u3 ∧ x < wp.heap.size ∧ y < wp.heap.size ∧ Below w.heap.size w wp) (hb : Below wp.heap.size wp w2) :
    w2.cell? ⟨x, 0, none⟩ = some v0 ∧ w2.cell? ⟨x, 1, none⟩ = some v1 ∧ w2.cell? ⟨x, 2, none⟩ = some v2 ∧ w2.cell? ⟨x, 3, none⟩ = some v3 ∧ w2.cell? ⟨y, 0, none⟩ = some u0 ∧ w2.cell? ⟨y, 1, none⟩ = some u1 ∧ w2.cell? ⟨y, 2, none⟩ = some u2 ∧ w2.cell? ⟨y, 3, none⟩ = some u3 ∧ x < w2.heap.size ∧ y < w2.heap.size ∧ Below w.heap.size w w2 := by
  obtain ⟨k0, k1, k2, k3, j0, j1, j2, j3, hx, hy, hB⟩ := K
  exact ⟨(hb.cell (p := ⟨x, 0, none⟩) hx).trans k0, (hb.cell (p := ⟨x, 1, none⟩) hx).trans k1, (hb.cell (p := ⟨x, 2, none⟩) hx).trans k2, (hb.cell (p := ⟨x, 3, none⟩) hx).trans k3, (hb.cell (p := ⟨y, 0, none⟩) hy).trans j0, (hb.cell (p := ⟨y, 1, none⟩) hy).trans j1, (hb.cell (p := ⟨y, 2, none⟩) hy).trans j2, (hb.cell (p := ⟨y, 3, none⟩) hy).trans j3, Nat.lt_of_lt_of_le hx hb.size, Nat.lt_of_lt_of_le hy hb.size, hB.trans (hb.mono hB.size)⟩
set_option maxHeartbeats 4000000 in
theorem pShared_any (ba bta na ca bb btb nb cb : Nat) (sa sb : ByteArray) (a b : Option Addr) (LA LB : List En) (hna : LA.length = na) (hla : na ≤ 140737488351232) (hca : na ≤ ca) (hcma : ca ≤ maxLen) (hba : ba < 4611686018427387904) (hnb : LB.length = nb) (hlb : nb ≤ 140737488351232) (hcb : nb ≤ cb) (hcmb : cb ≤ maxLen) (hbb : bb < 4611686018427387904) (w : World) (hEa : Ents w a LA) (hEb : Ents w b LB) :
    Calls Try.prog 28 #[.agg #[.int .u64 ba, .int .u64 bta, .string sa, .slice a na ca], .agg #[.int .u64 bb, .int .u64 btb, .string sb, .slice b nb cb]] w fun e w' => e = .returned (.int .u64 (sharedG ⟨ba, bta, sa, LA⟩ ⟨bb, btb, sb, LB⟩)) ∧ Below w.heap.size w w' := by
  obtain ⟨base, hbs⟩ : ∃ base, max ba bb = base := ⟨_, rfl⟩
  have hge1 : ba ≤ base := by omega
  have hge2 : bb ≤ base := by omega
  have hlt : base < 4611686018427387904 := by omega
  have hcase : (ba < bb ∧ bb = base) ∨ (¬ ba < bb ∧ ba = base) := by omega
  unfold sharedG
  rw [show max (⟨ba, bta, sa, LA⟩ : Lg).base (⟨bb, btb, sb, LB⟩ : Lg).base = base from hbs]
  clear hbs
  obtain ⟨X, hX⟩ : ∃ X, LA.drop (base - ba) = X := ⟨_, rfl⟩
  obtain ⟨Y, hY⟩ : ∃ Y, LB.drop (base - bb) = Y := ⟨_, rfl⟩
  obtain ⟨lx, hlx⟩ : ∃ lx, X.length = lx := ⟨_, rfl⟩
  obtain ⟨ly, hly⟩ : ∃ ly, Y.length = ly := ⟨_, rfl⟩
  obtain ⟨p, hp⟩ : ∃ p, tAt ba bta LA base = p := ⟨_, rfl⟩
  obtain ⟨tx, ox⟩ := p
  obtain ⟨hh, hhb⟩ : ∃ hh, hasB bb btb LB base tx = hh := ⟨_, rfl⟩
  have hxl : lx ≤ na := by rw [← hlx, ← hX, List.length_drop]; omega
  have hyl : ly ≤ nb := by rw [← hly, ← hY, List.length_drop]; omega
  have hcl := cp_le X Y
  have hval : ∀ k, k = cp X Y → sharedN base ⟨ba, bta, sa, LA⟩ ⟨bb, btb, sb, LB⟩ = (if 0 < k then base + k else if ox = true ∧ hh = true then base else 0) := fun k hk => by
    unfold sharedN; simp only [hX, hY, hp, hhb]; rw [← hk]
  have HX := Lib.hid hX
  have HY := Lib.hid hY
  have HLX := Lib.hid hlx
  have HLY := Lib.hid hly
  have HP := Lib.hid hp
  have HH := Lib.hid hhb
  have HV := Lib.hid hval
  have HNA := Lib.hid hna
  have HNB := Lib.hid hnb
  have HEA := Lib.hid hEa
  have HEB := Lib.hid hEb
  have B0 : Below w.heap.size w ((w.alloc (.cells #[.int .u64 ba, .int .u64 bta, .string sa, .slice a na ca] 25)).alloc (.cells #[.int .u64 bb, .int .u64 btb, .string sb, .slice b nb cb] 25)) := by go_grown
  have La := (Lb.new (w := w) rfl ba bta sa (.slice a na ca) 25).past (.cells #[.int .u64 bb, .int .u64 btb, .string sb, .slice b nb cb] 25)
  have Lb' := Lb.new (w := w.alloc (.cells #[.int .u64 ba, .int .u64 bta, .string sa, .slice a na ca] 25)) (x := w.heap.size + 1) (by simp) bb btb sb (.slice b nb cb) 25
  rw [hlx, hly] at hcl
  have hbase64 : base < 18446744073709551616 := by omega
  clear hX hY hlx hly hp hhb hval hna hnb hEa hEb
  go_enter Try.func28, Try.ntmps28
  rcases hcase with ⟨h1, rfl⟩ | ⟨h1, rfl⟩
  all_goals
    go_upto_region 2 with fail
    generalize ((w.alloc (.cells #[.int .u64 ba, .int .u64 bta, .string sa, .slice a na ca] 25)).alloc (.cells #[.int .u64 bb, .int .u64 btb, .string sb, .slice b nb cb] 25)) = W at *
    obtain ⟨l0, l1, l2, l3, _, ll⟩ := La
    obtain ⟨m0, m1, m2, m3, _, ml⟩ := Lb'
    have K1 : W.drew.cell? ⟨w.heap.size, 0, none⟩ = some (.int .u64 ba) ∧ W.drew.cell? ⟨w.heap.size, 1, none⟩ = some (.int .u64 bta) ∧ W.drew.cell? ⟨w.heap.size, 2, none⟩ = some (.string sa) ∧ W.drew.cell? ⟨w.heap.size, 3, none⟩ = some (.slice a na ca) ∧ W.drew.cell? ⟨w.heap.size + 1, 0, none⟩ = some (.int .u64 bb) ∧ W.drew.cell? ⟨w.heap.size + 1, 1, none⟩ = some (.int .u64 btb) ∧ W.drew.cell? ⟨w.heap.size + 1, 2, none⟩ = some (.string sb) ∧ W.drew.cell? ⟨w.heap.size + 1, 3, none⟩ = some (.slice b nb cb) ∧ w.heap.size < W.drew.heap.size ∧ w.heap.size + 1 < W.drew.heap.size ∧ Below w.heap.size w W.drew := ⟨l0, l1, l2, l3, m0, m1, m2, m3, ll, ml, B0.drew⟩
    clear l0 l1 l2 l3 ll m0 m1 m2 m3 ml B0
    go_region_held3 (fun w' => w'.cell? ⟨w.heap.size, 0, none⟩ = some (.int .u64 ba) ∧ w'.cell? ⟨w.heap.size, 1, none⟩ = some (.int .u64 bta) ∧ w'.cell? ⟨w.heap.size, 2, none⟩ = some (.string sa) ∧ w'.cell? ⟨w.heap.size, 3, none⟩ = some (.slice a na ca) ∧ w'.cell? ⟨w.heap.size + 1, 0, none⟩ = some (.int .u64 bb) ∧ w'.cell? ⟨w.heap.size + 1, 1, none⟩ = some (.int .u64 btb) ∧ w'.cell? ⟨w.heap.size + 1, 2, none⟩ = some (.string sb) ∧ w'.cell? ⟨w.heap.size + 1, 3, none⟩ = some (.slice b nb cb) ∧ w.heap.size < w'.heap.size ∧ w.heap.size + 1 < w'.heap.size ∧ Below w.heap.size w w')
      (first | (with_reducible assumption) | go_keep)
      (first
        | (go_at_call 33; (with_reducible refine (pBehind_any ba bta na ca _ sa a LA HNA.out hla hca hcma hba hbase64 hge1 _ (HEA.out.later K1.2.2.2.2.2.2.2.2.2.2)).mono ?_); rintro e w2 ⟨ax, rfl, hx2, hb2⟩; rw [HX.out] at hx2 ⊢; rw [HLX.out]; have K2 := keep2 K1 hb2; have HEX := Lib.hid (hx2 _ HEA.out); clear hx2)
        | (go_at_call 33; (with_reducible refine (pBehind_any bb btb nb cb _ sb b LB HNB.out hlb hcb hcmb hbb hbase64 hge2 _ (HEB.out.later K2.2.2.2.2.2.2.2.2.2.2)).mono ?_); rintro e w3 ⟨ay, rfl, hx3, hb3⟩; rw [HY.out] at hx3 ⊢; rw [HLY.out]; have K3 := keep2 K2 hb3; have HEY := Lib.hid (hx3 _ HEB.out); clear hx3))
    clear K1 K2
    go_wp2_with fail
    go_loopw [8] (fun u wr => ∃ j : Nat, j ≤ cp X Y ∧ u = .int .i64 j ∧ Below w3.heap.size w3 wr) (fun u _ => cp X Y - (intOf u).toNat)
    case atStart => exact ⟨0, Nat.zero_le _, rfl, Below.refl _ _⟩
    case round =>
      obtain ⟨j, hj, rfl, B⟩ := hrel
      have KK := keep2 K3 B
      have j0 : (0 : Int) ≤ (j : Int) := by omega
      obtain ⟨mi, hmi'⟩ : ∃ mi, min lx ly = mi := ⟨_, rfl⟩
      have hmi : (if ly < lx then (ly : Int) else (lx : Int)) = (mi : Int) := by split <;> omega
      by_cases hin : j < mi
      · have hjx : j < lx := by omega
        have hjy : j < ly := by omega
        obtain ⟨x, hx⟩ : ∃ x, X[j]? = some x := ⟨_, List.getElem?_eq_getElem (by rw [HLX.out]; exact hjx)⟩
        obtain ⟨y, hy⟩ : ∃ y, Y[j]? = some y := ⟨_, List.getElem?_eq_getElem (by rw [HLY.out]; exact hjy)⟩
        obtain ⟨bx, ox', rfl, hbx, p0, p1⟩ := (HEX.out.later KK.2.2.2.2.2.2.2.2.2.2) j x hx
        obtain ⟨by', oy', rfl, hby, q0, q1⟩ := (HEY.out.later KK.2.2.2.2.2.2.2.2.2.2) j y hy
        obtain ⟨hs1, hs2⟩ := cp_eq hj hx hy
        have g1 : (j : Int) < (lx : Int) := by omega
        have g2 : (j : Int) < (ly : Int) := by omega
        have g3 : (j : Int) < (mi : Int) := by omega
        have g4 : decide (j < mi) = true := decide_eq_true hin
        have HX1 := Lib.hid hx
        have HY1 := Lib.hid hy
        have HS1 := Lib.hid hs1
        have HS2 := Lib.hid hs2
        have HKK := Lib.hid KK
        have HMI := Lib.hid hmi'
        clear hx hy hs1 hs2 KK hmi'
        by_cases hxy : x = y
        · subst hxy
          have hj1 := HS1.out rfl
          go_wp2_with fail
          go_quiet (fail)
          go_wp2_with fail
          go_roundw
          case rel => exact ⟨j + 1, hj1, by go_num, below_drewN B _⟩
          case measure => simp [intOf]; omega
        · have hje := HS2.out hxy
          have HJ := Lib.hid hje
          have HNE := Lib.hid hxy
          obtain ⟨t1, d1⟩ := x
          obtain ⟨t2, d2⟩ := y
          simp only at p0 p1 q0 q1
          clear hje hxy
          rcases en_ne HNE.out with g5 | ⟨g5, g6, g7⟩
          · simp only at g5
            obtain ⟨l0, l1, l2, l3, m0, m1, m2, m3, ll, ml, BB⟩ := HKK.out
            by_cases h0 : 0 < j
            · have k0 : (0 : Int) < (j : Int) := by omega
              have k1 : (j : Int) ≤ 140737488351232 := by omega
              have HV1 := Lib.hid (HV.out j HJ.out)
              go_wp2_with fail
              go_quiet (fail)
              go_wp2_with fail
              go_ret
              exact ⟨by rw [HV1.out, if_pos h0]; first | rfl | simp, below_drewN BB _⟩
            · obtain rfl : j = 0 := by omega
              have HV1 := Lib.hid (HV.out 0 HJ.out)
              try simp only [Nat.zero_mul, Nat.add_zero] at p0 p1 q0 q1
              go_wp2_with fail
              go_quiet (fail)
              go_wp2_with fail
              refine (pTermAt_any ba bta na ca _ sa a LA HNA.out hla hba hbase64 _ (HEA.out.later (below_drewN BB _))).mono ?_
              rintro e w8 ⟨rfl, hb8⟩
              rw [HP.out]
              obtain ⟨n0, n1, n2, n3, o0, o1, o2, o3, nl, ol, B8⟩ := keep2 HKK.out (Below.trans (below_drewN (Below.refl _ _) _) hb8)
              clear hb8 l0 l1 l2 l3 m0 m1 m2 m3 ll ml
              cases ox
              · go_wp2_with fail
                go_ret
                exact ⟨by rw [HV1.out]; first | rfl | simp, B8⟩
              · go_wp2_with fail
                refine (pHas_any bb btb nb cb _ tx sb b LB HNB.out hlb hbb hbase64 _ (HEB.out.later B8)).mono ?_
                rintro e w9 ⟨rfl, hb9⟩
                rw [HH.out]
                have B9 := B8.trans (hb9.mono B8.size)
                clear hb9 n0 n1 n2 n3 o0 o1 o2 o3
                cases hh
                · go_wp2_with fail
                  go_ret
                  exact ⟨by rw [HV1.out]; first | rfl | simp, B9⟩
                · go_wp2_with fail
                  go_ret
                  exact ⟨by rw [HV1.out]; first | rfl | simp, B9⟩
          · simp only at g5 g6 g7
            subst g5
            obtain ⟨l0, l1, l2, l3, m0, m1, m2, m3, ll, ml, BB⟩ := HKK.out
            by_cases h0 : 0 < j
            · have k0 : (0 : Int) < (j : Int) := by omega
              have k1 : (j : Int) ≤ 140737488351232 := by omega
              have HV1 := Lib.hid (HV.out j HJ.out)
              go_wp2_with fail
              go_quiet (fail)
              go_wp2_with fail
              go_ret
              exact ⟨by rw [HV1.out, if_pos h0]; first | rfl | simp, below_drewN BB _⟩
            · obtain rfl : j = 0 := by omega
              have HV1 := Lib.hid (HV.out 0 HJ.out)
              try simp only [Nat.zero_mul, Nat.add_zero] at p0 p1 q0 q1
              go_wp2_with fail
              go_quiet (fail)
              go_wp2_with fail
              refine (pTermAt_any ba bta na ca _ sa a LA HNA.out hla hba hbase64 _ (HEA.out.later (below_drewN BB _))).mono ?_
              rintro e w8 ⟨rfl, hb8⟩
              rw [HP.out]
              obtain ⟨n0, n1, n2, n3, o0, o1, o2, o3, nl, ol, B8⟩ := keep2 HKK.out (Below.trans (below_drewN (Below.refl _ _) _) hb8)
              clear hb8 l0 l1 l2 l3 m0 m1 m2 m3 ll ml
              cases ox
              · go_wp2_with fail
                go_ret
                exact ⟨by rw [HV1.out]; first | rfl | simp, B8⟩
              · go_wp2_with fail
                refine (pHas_any bb btb nb cb _ tx sb b LB HNB.out hlb hbb hbase64 _ (HEB.out.later B8)).mono ?_
                rintro e w9 ⟨rfl, hb9⟩
                rw [HH.out]
                have B9 := B8.trans (hb9.mono B8.size)
                clear hb9 n0 n1 n2 n3 o0 o1 o2 o3
                cases hh
                · go_wp2_with fail
                  go_ret
                  exact ⟨by rw [HV1.out]; first | rfl | simp, B9⟩
                · go_wp2_with fail
                  go_ret
                  exact ⟨by rw [HV1.out]; first | rfl | simp, B9⟩
      · have g4 : decide (j < mi) = false := decide_eq_false hin
        have g3 : ¬ (j : Int) < (mi : Int) := by omega
        have HJ := Lib.hid (cp_out hj (by rw [HLX.out, HLY.out]; omega))
        have HMI := Lib.hid hmi'
        have HKK := Lib.hid KK
        clear hmi' KK
        obtain ⟨l0, l1, l2, l3, m0, m1, m2, m3, ll, ml, BB⟩ := HKK.out
        by_cases h0 : 0 < j
        · have k0 : (0 : Int) < (j : Int) := by omega
          have k1 : (j : Int) ≤ 140737488351232 := by omega
          have HV1 := Lib.hid (HV.out j HJ.out)
          go_wp2_with fail
          go_quiet (fail)
          go_wp2_with fail
          go_ret
          exact ⟨by rw [HV1.out, if_pos h0]; first | rfl | simp, below_drewN BB _⟩
        · obtain rfl : j = 0 := by omega
          have HV1 := Lib.hid (HV.out 0 HJ.out)
          try simp only [Nat.zero_mul, Nat.add_zero] at p0 p1 q0 q1
          go_wp2_with fail
          go_quiet (fail)
          go_wp2_with fail
          refine (pTermAt_any ba bta na ca _ sa a LA HNA.out hla hba hbase64 _ (HEA.out.later (below_drewN BB _))).mono ?_
          rintro e w8 ⟨rfl, hb8⟩
          rw [HP.out]
          obtain ⟨n0, n1, n2, n3, o0, o1, o2, o3, nl, ol, B8⟩ := keep2 HKK.out (Below.trans (below_drewN (Below.refl _ _) _) hb8)
          clear hb8 l0 l1 l2 l3 m0 m1 m2 m3 ll ml
          cases ox
          · go_wp2_with fail
            go_ret
            exact ⟨by rw [HV1.out]; first | rfl | simp, B8⟩
          · go_wp2_with fail
            refine (pHas_any bb btb nb cb _ tx sb b LB HNB.out hlb hbb hbase64 _ (HEB.out.later B8)).mono ?_
            rintro e w9 ⟨rfl, hb9⟩
            rw [HH.out]
            have B9 := B8.trans (hb9.mono B8.size)
            clear hb9 n0 n1 n2 n3 o0 o1 o2 o3
            cases hh
            · go_wp2_with fail
              go_ret
              exact ⟨by rw [HV1.out]; first | rfl | simp, B9⟩
            · go_wp2_with fail
              go_ret
              exact ⟨by rw [HV1.out]; first | rfl | simp, B9⟩
end Go.Proofs.Ytkifgjgjhjhknaa
