/- Shared: the document's. -/
import Derived.Test.YtkifgjgjhjhknaaLs
namespace Go.Proofs.Ytkifgjgjhjhknaa
open Go.RowKit

theorem tAt_no {ba bt base : Nat} {L : List En} (h : (tAt ba bt L base).2 = false) (hge : ba ≤ base) : L.drop (base - ba) = [] := by
  unfold tAt at h
  by_cases h0 : base = ba
  · rw [if_pos h0] at h; simp at h
  rw [if_neg h0, if_neg (by omega)] at h
  cases h2 : L[base - ba - 1]? with
  | none => exact List.drop_eq_nil_of_le (by have := List.getElem?_eq_none_iff.1 h2; omega)
  | some x => rw [h2] at h; simp at h
theorem tAt_ok {ba bt base : Nat} {L : List En} (h : (tAt ba bt L base).2 = true) (hge : ba ≤ base) : base - ba ≤ L.length := by
  unfold tAt at h
  by_cases h0 : base = ba
  · omega
  rw [if_neg h0, if_neg (by omega)] at h
  cases h2 : L[base - ba - 1]? with
  | none => rw [h2] at h; simp at h
  | some x => have := (List.getElem?_eq_some_iff.1 h2).1; omega
set_option maxHeartbeats 4000000 in
theorem rShared_any (ba bta na ca bb btb nb cb : Nat) (sa sb : ByteArray) (a b : Option Addr) (LA LB : List En) (hna : LA.length = na) (hla : na ≤ 140737488351232) (hba : ba < 4611686018427387904) (hnb : LB.length = nb) (hlb : nb ≤ 140737488351232) (hbb : bb < 4611686018427387904) (w : World) (hEa : Ents w a LA) (hEb : Ents w b LB) :
    Calls Try.prog 29 #[.agg #[.int .u64 ba, .int .u64 bta, .string sa, .slice a na ca], .agg #[.int .u64 bb, .int .u64 btb, .string sb, .slice b nb cb]] w fun e w' => e = .returned (.int .u64 (sharedG ⟨ba, bta, sa, LA⟩ ⟨bb, btb, sb, LB⟩)) ∧ Below w.heap.size w w' := by
  obtain ⟨base, hbs⟩ : ∃ base, max ba bb = base := ⟨_, rfl⟩
  have hge1 : ba ≤ base := by omega
  have hge2 : bb ≤ base := by omega
  have hlt : base < 4611686018427387904 := by omega
  have hcase : (ba < bb ∧ bb = base) ∨ (¬ ba < bb ∧ ba = base) := by omega
  unfold sharedG
  rw [show max (⟨ba, bta, sa, LA⟩ : Lg).base (⟨bb, btb, sb, LB⟩ : Lg).base = base from hbs]
  clear hbs
  obtain ⟨X, hX⟩ : ∃ X, LA.drop (base - ba) = X := ⟨_, rfl⟩
  obtain ⟨Y, hY⟩ : ∃ Y, LB.drop (base - bb) = Y := ⟨_, rfl⟩
  obtain ⟨p, hp⟩ : ∃ p, tAt ba bta LA base = p := ⟨_, rfl⟩
  obtain ⟨tx, ox⟩ := p
  obtain ⟨p, hp2⟩ : ∃ p, tAt bb btb LB base = p := ⟨_, rfl⟩
  obtain ⟨ty, oy⟩ := p
  have hval : ∀ k, k = cp X Y → sharedN base ⟨ba, bta, sa, LA⟩ ⟨bb, btb, sb, LB⟩ = (if 0 < k then base + k else if ox = true ∧ oy = true ∧ tx = ty then base else 0) := fun k hk => by
    unfold sharedN hasB; simp only [hX, hY, hp, hp2]; rw [← hk]; simp only [Bool.and_eq_true, decide_eq_true_eq]
    by_cases e : tx = ty
    · simp [e]
    · simp [e, show ¬ ty = tx from fun h => e h.symm]
  have hxno : ox = false → cp X Y = 0 := fun h => by
    have := tAt_no (L := LA) (by rw [hp]; exact h) hge1; rw [hX] at this; rw [this]; simp [cp]
  have hyno : oy = false → cp X Y = 0 := fun h => by
    have := tAt_no (L := LB) (by rw [hp2]; exact h) hge2; rw [hY] at this; rw [this, cp_comm]; simp [cp]
  have hxok : ox = true → base - ba ≤ na := fun h => by rw [← hna]; exact tAt_ok (L := LA) (by rw [hp]; exact h) hge1
  have hyok : oy = true → base - bb ≤ nb := fun h => by rw [← hnb]; exact tAt_ok (L := LB) (by rw [hp2]; exact h) hge2
  have hcl := cp_le X Y
  have hlx : X.length = na - (base - ba) := by rw [← hX, List.length_drop, hna]
  have hly : Y.length = nb - (base - bb) := by rw [← hY, List.length_drop, hnb]
  rw [hlx, hly] at hcl
  have HX := Lib.hid hX
  have HY := Lib.hid hY
  have HLX := Lib.hid hlx
  have HLY := Lib.hid hly
  have HP := Lib.hid hp
  have HP2 := Lib.hid hp2
  have HV := Lib.hid hval
  have HXN := Lib.hid hxno
  have HYN := Lib.hid hyno
  have HXO := Lib.hid hxok
  have HYO := Lib.hid hyok
  have HNA := Lib.hid hna
  have HNB := Lib.hid hnb
  have HEA := Lib.hid hEa
  have HEB := Lib.hid hEb
  have B0 : Below w.heap.size w ((w.alloc (.cells #[.int .u64 ba, .int .u64 bta, .string sa, .slice a na ca] 25)).alloc (.cells #[.int .u64 bb, .int .u64 btb, .string sb, .slice b nb cb] 25)) := by go_grown
  have La := (Lb.new (w := w) rfl ba bta sa (.slice a na ca) 25).past (.cells #[.int .u64 bb, .int .u64 btb, .string sb, .slice b nb cb] 25)
  have Lb' := Lb.new (w := w.alloc (.cells #[.int .u64 ba, .int .u64 bta, .string sa, .slice a na ca] 25)) (x := w.heap.size + 1) (by simp) bb btb sb (.slice b nb cb) 25
  have hbase64 : base < 18446744073709551616 := by omega
  clear hX hY hlx hly hp hp2 hval hxno hyno hxok hyok hna hnb hEa hEb
  go_enter Try.func29, Try.ntmps29
  obtain ⟨bs, hbs⟩ : ∃ bs, bs = base := ⟨_, rfl⟩
  have HBS := Lib.hid hbs
  have hge1' : ba ≤ bs := by omega
  have hge2' : bb ≤ bs := by omega
  have hlt' : bs < 4611686018427387904 := by omega
  clear hbs
  rcases hcase with ⟨h1, rfl⟩ | ⟨h1, rfl⟩
  all_goals
    go_upto_region 4 with fail
    generalize ((w.alloc (.cells #[.int .u64 ba, .int .u64 bta, .string sa, .slice a na ca] 25)).alloc (.cells #[.int .u64 bb, .int .u64 btb, .string sb, .slice b nb cb] 25)) = W at *
    obtain ⟨l0, l1, l2, l3, _, ll⟩ := La
    obtain ⟨m0, m1, m2, m3, _, ml⟩ := Lb'
    have K1 := Lib.hid (show W.cell? ⟨w.heap.size, 0, none⟩ = some (.int .u64 ba) ∧ W.cell? ⟨w.heap.size, 1, none⟩ = some (.int .u64 bta) ∧ W.cell? ⟨w.heap.size, 2, none⟩ = some (.string sa) ∧ W.cell? ⟨w.heap.size, 3, none⟩ = some (.slice a na ca) ∧ W.cell? ⟨w.heap.size + 1, 0, none⟩ = some (.int .u64 bb) ∧ W.cell? ⟨w.heap.size + 1, 1, none⟩ = some (.int .u64 btb) ∧ W.cell? ⟨w.heap.size + 1, 2, none⟩ = some (.string sb) ∧ W.cell? ⟨w.heap.size + 1, 3, none⟩ = some (.slice b nb cb) ∧ w.heap.size < W.heap.size ∧ w.heap.size + 1 < W.heap.size ∧ Below w.heap.size w W from ⟨l0, l1, l2, l3, m0, m1, m2, m3, ll, ml, B0⟩)
    go_wp2_with fail
    refine (rTermAt_any ba bta na ca _ sa a LA HNA.out hla hba hbase64 _ (HEA.out.later B0)).mono ?_
    rintro e w2 ⟨rfl, hb2⟩
    rw [HP.out]
    have K2 := Lib.hid (keep2 K1.out hb2)
    clear l0 l1 l2 l3 ll m0 m1 m2 m3 ml B0 hb2
    obtain ⟨l0, l1, l2, l3, m0, m1, m2, m3, ll, ml, B2⟩ := K2.out
    go_wp2_with fail
    refine (rTermAt_any bb btb nb cb _ sb b LB HNB.out hlb hbb hbase64 _ (HEB.out.later B2)).mono ?_
    rintro e w3 ⟨rfl, hb3⟩
    rw [HP2.out]
    have K3 := Lib.hid (keep2 K2.out hb3)
    clear l0 l1 l2 l3 ll m0 m1 m2 m3 ml B2 hb3
    obtain ⟨l0, l1, l2, l3, m0, m1, m2, m3, ll, ml, B3⟩ := K3.out
    cases ox
    · have HV1 := Lib.hid (HV.out 0 (HXN.out (by first | rfl | trivial)).symm)
      go_wp2_with fail
      go_ret
      exact ⟨by rw [HV1.out]; first | rfl | simp, B3⟩
    cases oy
    · have HV1 := Lib.hid (HV.out 0 (HYN.out (by first | rfl | trivial)).symm)
      go_wp2_with fail
      go_ret
      exact ⟨by rw [HV1.out]; first | rfl | simp, B3⟩
    have hxo := HXO.out (by first | rfl | trivial)
    have hyo := HYO.out (by first | rfl | trivial)
    by_cases hxy : tx = ty
    case pos =>
      subst hxy
      have HVO := Lib.hid (fun k hk => (HV.out k hk).trans (show (if 0 < k then _ else if true = true ∧ true = true ∧ tx = tx then _ else 0) = (if 0 < k then bs + k else bs) by rw [HBS.out]; simp))
      go_wp2_with fail
      have K4 := Lib.hid (keep2 K3.out (Below.refl _ _))
      clear l0 l1 l2 l3 m0 m1 m2 m3 ll ml
      go_loopw [10, 11] (fun u v wr => ∃ j : Nat, j ≤ cp X Y ∧ u = .int .u64 ((if 0 < j then bs + j else bs : Nat) : Int) ∧ v = .int .u64 (bs + j : Nat) ∧ Below w3.heap.size w3 wr) (fun _ v _ => bs + cp X Y - (intOf v).toNat)
      case atStart => exact ⟨0, Nat.zero_le _, by rw [HBS.out]; rfl, by rw [HBS.out]; rfl, Below.refl _ _⟩
      case round =>
        obtain ⟨j, hj, rfl, rfl, B⟩ := hrel
        obtain ⟨l0, l1, l2, l3, m0, m1, m2, m3, ll, ml, BB⟩ := keep2 K4.out B
        obtain ⟨q, hq⟩ : ∃ q, (if 0 < j then bs + j else bs) = q := ⟨_, rfl⟩
        rw [hq]
        have HQ := Lib.hid hq
        obtain ⟨iN, hiN⟩ : ∃ iN, bs + j = iN := ⟨_, rfl⟩
        rw [hiN]
        obtain ⟨ja, hja⟩ : ∃ ja, iN - ba = ja := ⟨_, rfl⟩
        obtain ⟨jb, hjb⟩ : ∃ jb, iN - bb = jb := ⟨_, rfl⟩
        have g0 : (bs : Int) < (iN : Int) + 1 := by omega
        have hi64 : iN < 4700000000000000000 := by omega
        have e1 : IntKind.u64.wrap ((iN : Int) - (ba : Int)) = (ja : Int) := by rw [IntWalk.u64_in _ (by omega)]; omega
        have e2 : IntKind.u64.wrap ((iN : Int) - (bb : Int)) = (jb : Int) := by rw [IntWalk.u64_in _ (by omega)]; omega
        have e3 : (iN : Int) - (ba : Int) = (ja : Int) := by omega
        have e4 : (iN : Int) - (bb : Int) = (jb : Int) := by omega
        have e5 : IntKind.u64.wrap (ja : Int) = (ja : Int) := IntWalk.u64_in _ (by omega)
        have e6 : IntKind.u64.wrap (jb : Int) = (jb : Int) := IntWalk.u64_in _ (by omega)
        have g00 := HBS.out
        have HIN := Lib.hid hiN
        have HJA := Lib.hid hja
        have HJB := Lib.hid hjb
        have hle1 : ja < na → j < na - (bs - ba) := by omega
        have hle2 : jb < nb → j < nb - (bs - bb) := by omega
        have hle3 : ¬ ja < na → na - (bs - ba) ≤ j := by omega
        have hle4 : ¬ jb < nb → nb - (bs - bb) ≤ j := by omega
        have hXJ : X[j]? = LA[ja]? := by rw [← HX.out, List.getElem?_drop]; congr 1; omega
        have hYJ : Y[j]? = LB[jb]? := by rw [← HY.out, List.getElem?_drop]; congr 1; omega
        have h0a : (0 : Int) ≤ (ja : Int) := by omega
        have h0b : (0 : Int) ≤ (jb : Int) := by omega
        have HG := Lib.hid g00
        have HQE := Lib.hid hq
        clear hq hiN hja hjb g00
        by_cases hina : ja < na
        case neg =>
          have g1 : ¬ (ja : Int) < (na : Int) := by omega
          have HJ := Lib.hid (HVO.out j (cp_out hj (.inl (by have h := HLX.out; have h2 := hle3 hina; have h3 := HG.out; omega))))
          clear hXJ hYJ hle1 hle2 hle3 hle4
          go_wp2_with fail
          go_ret
          exact ⟨by rw [HJ.out, HQE.out]; rfl, BB⟩
        by_cases hinb : jb < nb
        case neg =>
          have g1 : (ja : Int) < (na : Int) := by omega
          have g2 : ¬ (jb : Int) < (nb : Int) := by omega
          have HJ := Lib.hid (HVO.out j (cp_out hj (.inr (by have h := HLY.out; have h2 := hle4 hinb; have h3 := HG.out; omega))))
          clear hXJ hYJ hle1 hle2 hle3 hle4
          go_wp2_with fail
          go_ret
          exact ⟨by rw [HJ.out, HQE.out]; rfl, BB⟩
        have g1 : (ja : Int) < (na : Int) := by omega
        have g2 : (jb : Int) < (nb : Int) := by omega
        obtain ⟨x, hx⟩ : ∃ x, LA[ja]? = some x := ⟨_, List.getElem?_eq_getElem (by rw [HNA.out]; exact hina)⟩
        obtain ⟨y, hy⟩ : ∃ y, LB[jb]? = some y := ⟨_, List.getElem?_eq_getElem (by rw [HNB.out]; exact hinb)⟩
        obtain ⟨bx, ox', rfl, hbx, p0, p1⟩ := (HEA.out.later BB) ja x hx
        obtain ⟨by', oy', rfl, hby, q0, q1⟩ := (HEB.out.later BB) jb y hy
        obtain ⟨hs1, hs2⟩ := cp_eq hj (hXJ.trans hx) (hYJ.trans hy)
        have HX1 := Lib.hid hx
        have HY1 := Lib.hid hy
        have HS1 := Lib.hid hs1
        have HS2 := Lib.hid hs2
        clear hx hy hs1 hs2 hXJ hYJ hle1 hle2 hle3 hle4
        by_cases hxy2 : x = y
        · subst hxy2
          have hj1 := HS1.out rfl
          go_wp2_with fail
          go_quiet (fail)
          go_wp2_with fail
          go_roundw
          case rel => exact ⟨j + 1, hj1, by rw [if_pos (by omega), ← HIN.out]; go_num, by rw [← HIN.out]; go_num, below_drewN B _⟩
          case measure => simp [intOf]; have := HIN.out; omega
        · have HJ := Lib.hid (HVO.out j (HS2.out hxy2))
          have HNE := Lib.hid hxy2
          obtain ⟨t1, d1⟩ := x
          obtain ⟨t2, d2⟩ := y
          simp only at p0 p1 q0 q1
          clear hxy2
          rcases en_ne HNE.out with g5 | ⟨g5, g6, g7⟩
          · simp only at g5
            go_wp2_with fail
            go_quiet (fail)
            go_wp2_with fail
            go_ret
            exact ⟨by rw [HJ.out, HQE.out]; rfl, below_drewN BB _⟩
          · simp only at g5 g6 g7
            subst g5
            go_wp2_with fail
            go_quiet (fail)
            go_wp2_with fail
            go_ret
            exact ⟨by rw [HJ.out, HQE.out]; rfl, below_drewN BB _⟩
    case neg =>
      have g0 : ((tx : Int) == (ty : Int)) = false := by simp; omega
      have HVO := Lib.hid (fun k hk => (HV.out k hk).trans (show (if 0 < k then _ else if true = true ∧ true = true ∧ tx = ty then _ else 0) = (if 0 < k then bs + k else 0) by rw [HBS.out]; simp [hxy]))
      clear hxy
      go_wp2_with fail
      clear g0
      have K4 := Lib.hid (keep2 K3.out (Below.refl _ _))
      clear l0 l1 l2 l3 m0 m1 m2 m3 ll ml
      go_loopw [10, 11] (fun u v wr => ∃ j : Nat, j ≤ cp X Y ∧ u = .int .u64 ((if 0 < j then bs + j else 0 : Nat) : Int) ∧ v = .int .u64 (bs + j : Nat) ∧ Below w3.heap.size w3 wr) (fun _ v _ => bs + cp X Y - (intOf v).toNat)
      case atStart => exact ⟨0, Nat.zero_le _, rfl, by rw [HBS.out]; rfl, Below.refl _ _⟩
      case round =>
        obtain ⟨j, hj, rfl, rfl, B⟩ := hrel
        obtain ⟨l0, l1, l2, l3, m0, m1, m2, m3, ll, ml, BB⟩ := keep2 K4.out B
        obtain ⟨q, hq⟩ : ∃ q, (if 0 < j then bs + j else 0) = q := ⟨_, rfl⟩
        rw [hq]
        have HQ := Lib.hid hq
        obtain ⟨iN, hiN⟩ : ∃ iN, bs + j = iN := ⟨_, rfl⟩
        rw [hiN]
        obtain ⟨ja, hja⟩ : ∃ ja, iN - ba = ja := ⟨_, rfl⟩
        obtain ⟨jb, hjb⟩ : ∃ jb, iN - bb = jb := ⟨_, rfl⟩
        have g0 : (bs : Int) < (iN : Int) + 1 := by omega
        have hi64 : iN < 4700000000000000000 := by omega
        have e1 : IntKind.u64.wrap ((iN : Int) - (ba : Int)) = (ja : Int) := by rw [IntWalk.u64_in _ (by omega)]; omega
        have e2 : IntKind.u64.wrap ((iN : Int) - (bb : Int)) = (jb : Int) := by rw [IntWalk.u64_in _ (by omega)]; omega
        have e3 : (iN : Int) - (ba : Int) = (ja : Int) := by omega
        have e4 : (iN : Int) - (bb : Int) = (jb : Int) := by omega
        have e5 : IntKind.u64.wrap (ja : Int) = (ja : Int) := IntWalk.u64_in _ (by omega)
        have e6 : IntKind.u64.wrap (jb : Int) = (jb : Int) := IntWalk.u64_in _ (by omega)
        have g00 := HBS.out
        have HIN := Lib.hid hiN
        have HJA := Lib.hid hja
        have HJB := Lib.hid hjb
        have hle1 : ja < na → j < na - (bs - ba) := by omega
        have hle2 : jb < nb → j < nb - (bs - bb) := by omega
        have hle3 : ¬ ja < na → na - (bs - ba) ≤ j := by omega
        have hle4 : ¬ jb < nb → nb - (bs - bb) ≤ j := by omega
        have hXJ : X[j]? = LA[ja]? := by rw [← HX.out, List.getElem?_drop]; congr 1; omega
        have hYJ : Y[j]? = LB[jb]? := by rw [← HY.out, List.getElem?_drop]; congr 1; omega
        have h0a : (0 : Int) ≤ (ja : Int) := by omega
        have h0b : (0 : Int) ≤ (jb : Int) := by omega
        have HG := Lib.hid g00
        have HQE := Lib.hid hq
        clear hq hiN hja hjb g00
        by_cases hina : ja < na
        case neg =>
          have g1 : ¬ (ja : Int) < (na : Int) := by omega
          have HJ := Lib.hid (HVO.out j (cp_out hj (.inl (by have h := HLX.out; have h2 := hle3 hina; have h3 := HG.out; omega))))
          clear hXJ hYJ hle1 hle2 hle3 hle4
          go_wp2_with fail
          go_ret
          exact ⟨by rw [HJ.out, HQE.out]; rfl, BB⟩
        by_cases hinb : jb < nb
        case neg =>
          have g1 : (ja : Int) < (na : Int) := by omega
          have g2 : ¬ (jb : Int) < (nb : Int) := by omega
          have HJ := Lib.hid (HVO.out j (cp_out hj (.inr (by have h := HLY.out; have h2 := hle4 hinb; have h3 := HG.out; omega))))
          clear hXJ hYJ hle1 hle2 hle3 hle4
          go_wp2_with fail
          go_ret
          exact ⟨by rw [HJ.out, HQE.out]; rfl, BB⟩
        have g1 : (ja : Int) < (na : Int) := by omega
        have g2 : (jb : Int) < (nb : Int) := by omega
        obtain ⟨x, hx⟩ : ∃ x, LA[ja]? = some x := ⟨_, List.getElem?_eq_getElem (by rw [HNA.out]; exact hina)⟩
        obtain ⟨y, hy⟩ : ∃ y, LB[jb]? = some y := ⟨_, List.getElem?_eq_getElem (by rw [HNB.out]; exact hinb)⟩
        obtain ⟨bx, ox', rfl, hbx, p0, p1⟩ := (HEA.out.later BB) ja x hx
        obtain ⟨by', oy', rfl, hby, q0, q1⟩ := (HEB.out.later BB) jb y hy
        obtain ⟨hs1, hs2⟩ := cp_eq hj (hXJ.trans hx) (hYJ.trans hy)
        have HX1 := Lib.hid hx
        have HY1 := Lib.hid hy
        have HS1 := Lib.hid hs1
        have HS2 := Lib.hid hs2
        clear hx hy hs1 hs2 hXJ hYJ hle1 hle2 hle3 hle4
        by_cases hxy2 : x = y
        · subst hxy2
          have hj1 := HS1.out rfl
          go_wp2_with fail
          go_quiet (fail)
          go_wp2_with fail
          go_roundw
          case rel => exact ⟨j + 1, hj1, by rw [if_pos (by omega), ← HIN.out]; go_num, by rw [← HIN.out]; go_num, below_drewN B _⟩
          case measure => simp [intOf]; have := HIN.out; omega
        · have HJ := Lib.hid (HVO.out j (HS2.out hxy2))
          have HNE := Lib.hid hxy2
          obtain ⟨t1, d1⟩ := x
          obtain ⟨t2, d2⟩ := y
          simp only at p0 p1 q0 q1
          clear hxy2
          rcases en_ne HNE.out with g5 | ⟨g5, g6, g7⟩
          · simp only at g5
            go_wp2_with fail
            go_quiet (fail)
            go_wp2_with fail
            go_ret
            exact ⟨by rw [HJ.out, HQE.out]; rfl, below_drewN BB _⟩
          · simp only at g5 g6 g7
            subst g5
            go_wp2_with fail
            go_quiet (fail)
            go_wp2_with fail
            go_ret
            exact ⟨by rw [HJ.out, HQE.out]; rfl, below_drewN BB _⟩
end Go.Proofs.Ytkifgjgjhjhknaa
