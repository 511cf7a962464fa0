/- The mathematics of LeaseMost: whoever holds a lease has heard of a majority within the span. -/
import Derived.Test.YtoabpakichjieaaEo
namespace Go.Proofs.Ytoabpakichjieaa

/-- Whether a voter's ack is within the span. -/
def okB (now s : Nat) (M : List Mk) (v : Nat) : Bool := (markN v M).2 && (decide (now < (markN v M).1) || decide (now - (markN v M).1 < s))
theorem markN_none : ∀ (v : Nat) (M : List Mk), (markN v M).2 = false → (markN v M).1 = 0
  | v, [], _ => rfl
  | v, x :: r, h => by
    simp only [markN] at h ⊢
    split at h
    · simp at h
    · rename_i hne; rw [if_neg hne]; exact markN_none v r h
theorem markN_setN (v id u : Nat) (h : v ≠ id) : ∀ M : List Mk, markN v (setN id u M) = markN v M
  | [] => by simp [setN, markN]; intro e; exact absurd e.symm h
  | x :: r => by
    by_cases e : x.id = id
    · simp only [setN, if_pos e, markN]
      rw [if_neg (fun e2 => h e2.symm), if_neg (fun e2 => h (e2.symm.trans e))]
    · simp only [setN, if_neg e, markN]
      rw [markN_setN v id u h r]
theorem rises_gt : ∀ (p : Nat) (L : List Nat), risesF p L = true → ∀ x ∈ L, p < x
  | _, [], _, x, hx => by simp at hx
  | p, y :: r, h, x, hx => by
    simp only [risesF, Bool.and_eq_true, decide_eq_true_eq] at h
    rcases List.mem_cons.1 hx with e | e
    · omega
    · have := rises_gt y r h.2 x e; omega
theorem most_of {R Lr : List Nat} {M : List Mk} {v0 now s dr b k : Nat} (hb : bnd s dr = b) (hk : agL (mks (v0 :: R) (setN v0 now M)) = k) (h : holdsB (v0 :: R) Lr v0 now (untl b k) = true) :
    (R.length + 1) / 2 + 1 ≤ 1 + R.countP (okB now s M) := by
  simp only [holdsB, Bool.and_eq_true, decide_eq_true_eq] at h
  obtain ⟨hm, _, hlt⟩ := h
  have hr : risesF v0 R = true := by
    simp only [mayB, membB, Bool.and_eq_true, risesF] at hm
    exact hm.1.1.2.2.2
  have hbs : b ≤ s := by rw [← hb]; exact bnd_le s dr
  have hk0 : k ≠ 0 := fun e => by rw [untl, if_pos (.inr e)] at hlt; omega
  have hb0 : b ≠ 0 := fun e => by rw [untl, if_pos (.inl e)] at hlt; omega
  rw [untl, if_neg (by omega)] at hlt
  have hge := (le_agL (mks (v0 :: R) (setN v0 now M)) k).1 (by omega)
  rcases hge with h0 | hge
  · exact absurd h0 hk0
  have hl : (mks (v0 :: R) (setN v0 now M)).length = R.length + 1 := by simp [mks]
  rw [hl] at hge
  refine Nat.le_trans hge ?_
  unfold geC mks
  rw [List.map_cons, List.countP_cons, List.countP_map]
  have hmono : R.countP ((fun x => decide (k ≤ x)) ∘ fun v => (markN v (setN v0 now M)).1) ≤ R.countP (okB now s M) := by
    refine List.countP_mono_left fun v hv hd => ?_
    have hne : v ≠ v0 := by have := rises_gt v0 R hr v hv; omega
    simp only [Function.comp, markN_setN v v0 now hne, decide_eq_true_eq] at hd
    have hfound : (markN v M).2 = true := by
      rcases hf : (markN v M).2 with _ | _
      · have := markN_none v M hf; omega
      · rfl
    simp only [okB, hfound, Bool.true_and, Bool.or_eq_true, decide_eq_true_eq]
    omega
  split <;> omega
end Go.Proofs.Ytoabpakichjieaa
