/- What a majority has: the document's Agreed. -/
import Derived.Test.YtoabpakichjieaaGy
namespace Go.Proofs.Ytoabpakichjieaa
open Go.RowKit

/-- How many are at least v. -/
def geC (v : Nat) (D : List Nat) : Nat := D.countP fun x => decide (v ≤ x)
theorem geC_snoc (v x : Nat) (D : List Nat) : geC v (D ++ [x]) = geC v D + if v ≤ x then 1 else 0 := by
  unfold geC; rw [List.countP_append]; by_cases h : v ≤ x <;> simp [h]
theorem geC_le (v : Nat) (D : List Nat) : geC v D ≤ D.length := List.countP_le_length
theorem descL_perm (D : List Nat) : (descL D).Perm D := List.mergeSort_perm _ _
theorem descL_sorted (D : List Nat) : (descL D).Pairwise fun x y => y ≤ x := by
  have h := List.pairwise_mergeSort (le := fun x y : Nat => decide (y ≤ x)) (by intro a b c h1 h2; simp at *; omega) (by intro a b; simp; omega) D
  exact h.imp (by intro a b h; simpa using h)
theorem descL_at {D : List Nat} {i j x y : Nat} (hx : (descL D)[i]? = some x) (hy : (descL D)[j]? = some y) (hij : i ≤ j) : y ≤ x := by
  obtain ⟨hi, rfl⟩ := List.getElem?_eq_some_iff.1 hx
  obtain ⟨hj, rfl⟩ := List.getElem?_eq_some_iff.1 hy
  rcases Nat.lt_or_ge i j with h | h
  · exact (List.pairwise_iff_getElem.1 (descL_sorted D)) i j hi hj h
  · obtain rfl : i = j := by omega
    exact Nat.le_refl _
theorem le_agL (D : List Nat) (v : Nat) : v ≤ agL D ↔ v = 0 ∨ D.length / 2 + 1 ≤ geC v D := by
  have hl := descL_len D
  have hp : geC v (descL D) = geC v D := (descL_perm D).countP_eq _
  rw [← hp, ← hl]
  unfold agL
  rcases Nat.eq_zero_or_pos D.length with h0 | h0
  · have e : (descL D)[D.length / 2]? = none := List.getElem?_eq_none (by omega)
    have := geC_le v (descL D)
    rw [e]; simp; omega
  · obtain ⟨s, hs⟩ : ∃ s, (descL D)[D.length / 2]? = some s := ⟨_, List.getElem?_eq_getElem (by omega)⟩
    rw [hs]
    simp only [Option.getD_some]
    have e : geC v (descL D) = geC v ((descL D).take (D.length / 2 + 1)) + geC v ((descL D).drop (D.length / 2 + 1)) := by
      unfold geC; rw [← List.countP_append, List.take_append_drop]
    have e2 : geC v (descL D) = geC v ((descL D).take (D.length / 2)) + geC v ((descL D).drop (D.length / 2)) := by
      unfold geC; rw [← List.countP_append, List.take_append_drop]
    constructor
    · intro h
      right
      have h2 : geC v ((descL D).take (D.length / 2 + 1)) = ((descL D).take (D.length / 2 + 1)).length := by
        unfold geC
        refine List.countP_eq_length.2 fun x hx => ?_
        obtain ⟨j, hj⟩ := List.mem_iff_getElem?.1 hx
        have hjl := (List.getElem?_eq_some_iff.1 hj).1
        rw [List.length_take] at hjl
        rw [List.getElem?_take_of_lt (by omega)] at hj
        have := descL_at hj hs (by omega)
        simp; omega
      rw [List.length_take] at h2
      omega
    · rintro (h | h)
      · omega
      · refine Classical.byContradiction fun hc => ?_
        have h2 : geC v ((descL D).drop (D.length / 2)) = 0 := by
          unfold geC
          refine List.countP_eq_zero.2 fun x hx => ?_
          obtain ⟨j, hj⟩ := List.mem_iff_getElem?.1 hx
          rw [List.getElem?_drop] at hj
          have := descL_at hs hj (by omega)
          simp; omega
        have h3 := geC_le v ((descL D).take (D.length / 2))
        rw [List.length_take] at h3
        omega
theorem agL_mem {D : List Nat} (h : 0 < D.length) : agL D ∈ D := by
  obtain ⟨s, hs⟩ : ∃ s, (descL D)[D.length / 2]? = some s := ⟨_, List.getElem?_eq_getElem (by rw [descL_len]; omega)⟩
  unfold agL
  rw [hs]
  exact (descL_perm D).mem_iff.1 (List.mem_of_getElem? hs)
theorem agL_nil : agL [] = 0 := by unfold agL; rw [List.getElem?_eq_none (by rw [descL_len]; exact Nat.zero_le _)]; rfl
/-- Where numbers rise, what a majority has does not fall. -/
theorem agL_mono {D E : List Nat} (hl : D.length = E.length) (h : ∀ j x y : Nat, D[j]? = some x → E[j]? = some y → x ≤ y) : agL D ≤ agL E := by
  rw [le_agL]
  rcases (le_agL D (agL D)).1 (Nat.le_refl _) with h0 | h0
  · exact .inl h0
  · right
    rw [← hl]
    refine Nat.le_trans h0 ?_
    generalize agL D = v
    clear h0
    induction D generalizing E with
    | nil => simp [geC]
    | cons x D ih =>
      cases E with
      | nil => simp at hl
      | cons y E =>
        have h1 := ih (E := E) (by simpa using hl) fun j a b ha hb => h (j + 1) a b (by simpa using ha) (by simpa using hb)
        have h2 := h 0 x y rfl rfl
        unfold geC at h1 ⊢
        rw [List.countP_cons, List.countP_cons]
        by_cases c1 : v ≤ x
        · have c2 : v ≤ y := by omega
          simp [c1, c2]; exact h1
        · simp [c1]; omega
set_option maxHeartbeats 4000000 in
theorem rAgreed_any (n c n2 c2 m d : Nat) (a a2 a3 : Option Addr) (V : List Nat) (L : List Mk) (hn : V.length = n) (hl : n ≤ 140737488351232) (hm : L.length = m) (hl2 : m ≤ 140737488351232) (w : World) (hV : Us w a V) (hM : Ms w a3 L) :
    Calls Try.prog 30 #[.agg #[.slice a n c, .slice a2 n2 c2], .slice a3 m d] w (AgP w (agL (mks V L))) := by
  have B0 : Below w.heap.size w (w.alloc (.cells #[.slice a n c, .slice a2 n2 c2] 29)) := (Below.refl _ _).alloc (Nat.le_refl _) _
  have C0 := Cb.new (w := w) rfl (.slice a n c) (.slice a2 n2 c2) 29
  have HV := Lib.hid (hV.later B0)
  have HM := Lib.hid (hM.later B0)
  have HN := Lib.hid hn
  have HM2 := Lib.hid hm
  obtain ⟨D, hD⟩ : ∃ D, mks V L = D := ⟨_, rfl⟩
  have hdl : D.length = n := by rw [← hD]; simp [mks, hn]
  rw [hD]
  have HDL := Lib.hid hdl
  have HD := Lib.hid hD
  have HB := Lib.hid B0
  clear hV hM hn hm hdl hD B0
  go_enter Try.func30, Try.ntmps30
  go_wp2_with fail
  generalize w.alloc (.cells #[.slice a n c, .slice a2 n2 c2] 29) = W at *
  obtain ⟨c0, c1, fz, lt⟩ := C0
  go_loop [5, 6, 7, 8, 9, 10, 11, 12] (fun b i _ _ _ _ _ _ => ∃ k best : Nat, k ≤ n ∧ i = .int .i64 k ∧ b = .int .u64 best ∧ best ≤ agL D ∧ ∀ j, j < k → ∀ x : Nat, D[j]? = some x → x ≤ agL D → x ≤ best) (fun _ i _ _ _ _ _ _ => n - (intOf i).toNat)
  case atStart => exact ⟨0, 0, Nat.zero_le _, rfl, rfl, Nat.zero_le _, fun j hj => absurd hj (Nat.not_lt_zero _)⟩
  case round =>
    obtain ⟨k, best, hk, rfl, rfl, hb1, hb2⟩ := hrel
    have HB1 := Lib.hid hb1
    have HB2 := Lib.hid hb2
    clear hb1 hb2
    by_cases hlt : k < n
    · obtain ⟨x, hx⟩ : ∃ x, V[k]? = some x := ⟨_, List.getElem?_eq_getElem (by rw [HN.out]; exact hlt)⟩
      have i0 : (0 : Int) ≤ (k : Int) := by omega
      have i1 : (k : Int) < (n : Int) := by omega
      obtain ⟨b, off, rfl, hb, p0⟩ := HV.out k x hx
      obtain ⟨p, hp⟩ : ∃ p, markN x L = p := ⟨_, rfl⟩
      have hdx : D[k]? = some p.1 := by rw [← HD.out]; simp [mks, hx, hp]
      have HP := Lib.hid hp
      have HX := Lib.hid hdx
      clear hx hp hdx
      obtain ⟨v, vb⟩ := p
      go_wp2_with fail
      refine (rMark_any x m d a3 L HM2.out hl2 _ HM.out).mono ?_
      rintro e w2 ⟨rfl, rfl⟩
      rw [HP.out]
      go_wp2_with fail
      go_loop [9, 10, 11, 12] (fun cnt i _ _ => ∃ q : Nat, q ≤ n ∧ i = .int .i64 q ∧ cnt = .int .i64 (geC v (D.take q) : Nat)) (fun _ i _ _ => n - (intOf i).toNat)
      case atStart => exact ⟨0, Nat.zero_le _, rfl, rfl⟩
      case round =>
        obtain ⟨q, hq, rfl, rfl⟩ := hrel
        have hgl : geC v (D.take q) ≤ n := Nat.le_trans (geC_le _ _) (by rw [List.length_take, HDL.out]; omega)
        by_cases hlq : q < n
        · obtain ⟨y, hy⟩ : ∃ y, V[q]? = some y := ⟨_, List.getElem?_eq_getElem (by rw [HN.out]; exact hlq)⟩
          have j0 : (0 : Int) ≤ (q : Int) := by omega
          have j1 : (q : Int) < (n : Int) := by omega
          obtain ⟨b', off', e', hb', q0⟩ := HV.out q y hy
          cases e'
          obtain ⟨p', hp'⟩ : ∃ p', markN y L = p' := ⟨_, rfl⟩
          have hdy : D[q]? = some p'.1 := by rw [← HD.out]; simp [mks, hy, hp']
          have HS := Lib.hid (show geC v (D.take (q + 1)) = geC v (D.take q) + if v ≤ p'.1 then 1 else 0 by rw [List.take_add_one, hdy, ← geC_snoc]; rfl)
          have HP' := Lib.hid hp'
          clear hy hp' hdy
          obtain ⟨u, ub⟩ := p'
          go_wp2_with fail
          refine (rMark_any y m d a3 L HM2.out hl2 _ HM.out).mono ?_
          rintro e w2 ⟨rfl, rfl⟩
          rw [HP'.out]
          by_cases hvu : v ≤ u
          · have g : (v : Int) ≤ (u : Int) := by omega
            go_wp2_with fail
            go_round
            case rel => exact ⟨q + 1, by omega, by go_num, by rw [HS.out, if_pos hvu]; go_num⟩
            case measure => simp [intOf]; omega
          · have g : ¬ (v : Int) ≤ (u : Int) := by omega
            go_wp2_with fail
            go_round
            case rel => exact ⟨q + 1, by omega, by go_num, by rw [HS.out, if_neg hvu]; go_num⟩
            case measure => simp [intOf]; omega
        · have hqn : q = n := by omega
          subst hqn
          have hall : geC v (D.take q) = geC v D := by rw [List.take_of_length_le (by rw [HDL.out]; exact Nat.le_refl _)]
          rw [hall] at hgl ⊢
          obtain ⟨g, hg⟩ : ∃ g, geC v D = g := ⟨_, rfl⟩
          rw [hg] at hgl ⊢
          have HG := Lib.hid hg
          have hle := le_agL D v
          rw [HDL.out, hg] at hle
          have HLE := Lib.hid hle
          clear hall hg hle hlq
          by_cases h1 : q / 2 + 1 ≤ g
          · have g1 : (q : Int) / 2 + 1 ≤ (g : Int) := by omega
            have g1' : ((q / 2 : Nat) : Int) + 1 ≤ (g : Int) := by omega
            have HV2 := Lib.hid (HLE.out.2 (.inr h1))
            clear h1
            by_cases h2 : best < v
            · have g2 : (best : Int) < (v : Int) := by omega
              go_wp2_with fail
              go_round
              case rel => exact ⟨k + 1, v, by omega, by go_num, rfl, HV2.out, fun j hj x hx hxa => by
                by_cases hjk : j = k
                · subst hjk; have := HX.out; rw [hx] at this; cases this; exact Nat.le_refl _
                · have := HB2.out j (by omega) x hx hxa; omega⟩
              case measure => simp [intOf]; omega
            · have g2 : ¬ (best : Int) < (v : Int) := by omega
              go_wp2_with fail
              go_round
              case rel => exact ⟨k + 1, best, by omega, by go_num, rfl, HB1.out, fun j hj x hx hxa => by
                by_cases hjk : j = k
                · subst hjk; have := HX.out; rw [hx] at this; cases this; omega
                · exact HB2.out j (by omega) x hx hxa⟩
              case measure => simp [intOf]; omega
          · have g1 : ¬ (q : Int) / 2 + 1 ≤ (g : Int) := by omega
            have g1' : ¬ ((q / 2 : Nat) : Int) + 1 ≤ (g : Int) := by omega
            have HV2 := Lib.hid (show v ≤ agL D → v = 0 from fun h => (HLE.out.1 h).resolve_right h1)
            clear h1
            go_wp2_with fail
            go_round
            case rel => exact ⟨k + 1, best, by omega, by go_num, rfl, HB1.out, fun j hj x hx hxa => by
              by_cases hjk : j = k
              · subst hjk; have := HX.out; rw [hx] at this; cases this; have := HV2.out hxa; omega
              · exact HB2.out j (by omega) x hx hxa⟩
            case measure => simp [intOf]; omega
    · have hkn : k = n := by omega
      subst hkn
      have HT := Lib.hid (show agL D = best by
        refine Nat.le_antisymm ?_ HB1.out
        rcases Nat.eq_zero_or_pos D.length with h0 | h0
        · rw [List.length_eq_zero_iff.1 h0, agL_nil]; exact Nat.zero_le _
        · obtain ⟨j, hj⟩ := List.mem_iff_getElem?.1 (agL_mem h0)
          exact HB2.out j (by have := (List.getElem?_eq_some_iff.1 hj).1; have := HDL.out; omega) _ hj (Nat.le_refl _))
      go_wp2_with fail
      go_ret
      exact ⟨by rw [HT.out]; rfl, HB.out⟩
end Go.Proofs.Ytoabpakichjieaa
