/- The mathematics of RowsKeeps: a right list under puts. -/
import Derived.Test.YthgnecggdlamfaaUc
namespace Go.Proofs.Ythgnecggdlamfaa

/-- A list whose keys rise. -/
def srt (L : List Ro) : Prop := L.Pairwise fun x y => lessB x.key y.key = true
theorem ascF_iff : ∀ (L : List Ro) (p : Option ByteArray), ascF p L = true ↔ (∀ x ∈ L, rowOk x = true) ∧ srt L ∧ (∀ k, p = some k → ∀ x ∈ L, lessB k x.key = true)
  | [], p => by simp [ascF, srt]
  | y :: r, p => by
    simp only [ascF, Bool.and_eq_true, ascF_iff r (some y.key), srt, List.pairwise_cons, List.mem_cons, forall_eq_or_imp]
    constructor
    · rintro ⟨h1, h2, h3, h4, h5⟩
      refine ⟨⟨h1, h3⟩, ⟨h5 y.key rfl, h4⟩, fun k hk => ?_⟩
      subst hk
      exact ⟨h2, fun x hx => lessB_trans h2 (h5 y.key rfl x hx)⟩
    · rintro ⟨⟨h1, h2⟩, ⟨h3, h4⟩, h5⟩
      refine ⟨h1, ?_, h2, h4, fun k hk x hx => ?_⟩
      · cases p with
        | none => rfl
        | some k => exact (h5 k rfl).1
      · cases hk; exact h3 x hx
theorem rightB_iff (L : List Ro) : rightB L = true ↔ L.length ≤ 32 ∧ (∀ x ∈ L, rowOk x = true) ∧ srt L := by
  unfold rightB
  rw [Bool.and_eq_true, decide_eq_true_eq, ascF_iff]
  simp
theorem getR_none_iff (k : ByteArray) : ∀ L : List Ro, getR k L = none ↔ ∀ x ∈ L, x.key ≠ k
  | [] => by simp [getR]
  | y :: r => by
    simp only [getR]
    split
    · rename_i h; simp [h]
    · rename_i h; rw [getR_none_iff k r]; simp [h]
theorem getR_del (k k' : ByteArray) : ∀ L : List Ro, getR k' (delR k L) = if k' = k then none else getR k' L
  | [] => by simp [delR, getR]
  | y :: r => by
    have ih := getR_del k k' r
    simp only [delR]
    by_cases h : y.key = k
    · rw [if_pos h, ih]
      by_cases h2 : k' = k
      · rw [if_pos h2, if_pos h2]
      · rw [if_neg h2, if_neg h2, getR, if_neg (fun e => h2 (e.symm.trans h))]
    · rw [if_neg h]
      simp only [getR]
      by_cases h2 : y.key = k'
      · rw [if_pos h2, if_neg (fun e => h (h2.trans e)), if_pos h2]
      · rw [if_neg h2, ih, if_neg h2]
theorem getR_set (y : Ro) (k' : ByteArray) : ∀ L : List Ro, (getR y.key L).isSome = true → getR k' (setR y L) = if k' = y.key then some y else getR k' L
  | [], h => by simp [getR] at h
  | x :: r, h => by
    simp only [setR]
    by_cases e : x.key = y.key
    · rw [if_pos e]
      simp only [getR]
      by_cases h2 : k' = y.key
      · rw [if_pos h2.symm, if_pos h2]
      · rw [if_neg (fun e => h2 e.symm), if_neg h2, if_neg (fun e2 => h2 (e2.symm.trans e))]
    · rw [if_neg e]
      have hr : (getR y.key r).isSome = true := by simpa [getR, e] using h
      simp only [getR]
      by_cases h2 : x.key = k'
      · rw [if_pos h2, if_neg (fun e2 => e (h2.trans e2)), if_pos h2]
      · rw [if_neg h2, getR_set y k' r hr, if_neg h2]
theorem getR_ins (y : Ro) (k' : ByteArray) : ∀ L : List Ro, getR y.key L = none → getR k' (insR y L) = if k' = y.key then some y else getR k' L
  | [], _ => by
    simp only [insR, getR]
    by_cases h : k' = y.key
    · rw [if_pos h.symm, if_pos h]
    · rw [if_neg (fun e => h e.symm), if_neg h]
  | x :: r, h => by
    have hx : x.key ≠ y.key := (getR_none_iff y.key (x :: r)).1 h x (by simp)
    have hr : getR y.key r = none := by simpa [getR, hx] using h
    simp only [insR]
    split
    · simp only [getR]
      by_cases h2 : k' = y.key
      · rw [if_pos h2.symm, if_pos h2]
      · rw [if_neg (fun e => h2 e.symm), if_neg h2]
    · simp only [getR]
      by_cases h2 : x.key = k'
      · rw [if_pos h2, if_neg (fun e => hx (h2.trans e)), if_pos h2]
      · rw [if_neg h2, getR_ins y k' r hr, if_neg h2]
theorem mem_del {k : ByteArray} {x : Ro} : ∀ {L : List Ro}, x ∈ delR k L → x ∈ L
  | [], h => by simp [delR] at h
  | y :: r, h => by
    simp only [delR] at h
    split at h
    · exact List.mem_cons_of_mem _ (mem_del h)
    · rcases List.mem_cons.1 h with e | e
      · rw [e]; simp
      · exact List.mem_cons_of_mem _ (mem_del e)
theorem srt_del {k : ByteArray} : ∀ {L : List Ro}, srt L → srt (delR k L)
  | [], _ => by simp [delR, srt]
  | y :: r, h => by
    unfold srt at h
    rw [List.pairwise_cons] at h
    simp only [delR]
    split
    · exact srt_del h.2
    · unfold srt; rw [List.pairwise_cons]; exact ⟨fun z hz => h.1 z (mem_del hz), srt_del h.2⟩
theorem mem_set {y x : Ro} : ∀ {L : List Ro}, x ∈ setR y L → x = y ∨ x ∈ L
  | [], h => by simp [setR] at h
  | z :: r, h => by
    simp only [setR] at h
    split at h
    · rcases List.mem_cons.1 h with e | e
      · exact .inl e
      · exact .inr (List.mem_cons_of_mem _ e)
    · rcases List.mem_cons.1 h with e | e
      · exact .inr (by rw [e]; simp)
      · exact (mem_set e).imp id (List.mem_cons_of_mem _)
theorem key_set {y x : Ro} : ∀ {L : List Ro}, x ∈ setR y L → ∃ z ∈ L, z.key = x.key
  | [], h => by simp [setR] at h
  | z :: r, h => by
    simp only [setR] at h
    split at h
    · rename_i hk
      rcases List.mem_cons.1 h with e | e
      · exact ⟨z, by simp, by rw [e, hk]⟩
      · exact ⟨x, List.mem_cons_of_mem _ e, rfl⟩
    · rcases List.mem_cons.1 h with e | e
      · exact ⟨z, by simp, by rw [e]⟩
      · obtain ⟨q, hq, e2⟩ := key_set e; exact ⟨q, List.mem_cons_of_mem _ hq, e2⟩
theorem srt_set {y : Ro} : ∀ {L : List Ro}, srt L → srt (setR y L)
  | [], _ => by simp [setR, srt]
  | z :: r, h => by
    unfold srt at h
    rw [List.pairwise_cons] at h
    simp only [setR]
    split
    · rename_i hk; unfold srt; rw [List.pairwise_cons]; exact ⟨fun q hq => by rw [← hk]; exact h.1 q hq, h.2⟩
    · unfold srt; rw [List.pairwise_cons]
      refine ⟨fun q hq => ?_, srt_set h.2⟩
      obtain ⟨t, ht, e⟩ := key_set hq
      rw [← e]; exact h.1 t ht
theorem mem_ins {y x : Ro} : ∀ {L : List Ro}, x ∈ insR y L → x = y ∨ x ∈ L
  | [], h => by simpa [insR] using h
  | z :: r, h => by
    simp only [insR] at h
    split at h
    · exact List.mem_cons.1 h
    · rcases List.mem_cons.1 h with e | e
      · exact .inr (by rw [e]; simp)
      · exact (mem_ins e).imp id (List.mem_cons_of_mem _)
theorem srt_ins {y : Ro} : ∀ {L : List Ro}, srt L → getR y.key L = none → srt (insR y L)
  | [], _, _ => by simp [insR, srt]
  | z :: r, h, hn => by
    have hz : z.key ≠ y.key := (getR_none_iff y.key (z :: r)).1 hn z (by simp)
    have hr : getR y.key r = none := by simpa [getR, hz] using hn
    unfold srt at h
    have h' := h
    rw [List.pairwise_cons] at h
    simp only [insR]
    split
    · rename_i hl
      unfold srt; rw [List.pairwise_cons]
      refine ⟨fun q hq => ?_, h'⟩
      rcases List.mem_cons.1 hq with e | e
      · rw [e]; exact hl
      · exact lessB_trans hl (h.1 q e)
    · rename_i hl
      unfold srt; rw [List.pairwise_cons]
      refine ⟨fun q hq => ?_, srt_ins h.2 hr⟩
      rcases mem_ins hq with e | e
      · rw [e]
        rcases h3 : lessB z.key y.key with _ | _
        · exact absurd (lessB_total h3 (by simpa using hl)) hz
        · rfl
      · exact h.1 q e
/-- What one put does to a right list. -/
theorem doR_right {L : List Ro} {p : Pu} {ver : Nat} (hL : rightB L = true) (hv : ver ≤ 4611686018427387903) (h : (doR L p ver).2 = 0) :
    rightB (doR L p ver).1 = true ∧ ∀ k, getR k (doR L p ver).1 = if k = p.key then (if p.gone then none else some ⟨p.key, p.val, ver⟩) else getR k L := by
  have hR := (rightB_iff L).1 hL
  obtain ⟨h1, h2, h3⟩ := hR
  unfold doR at h ⊢
  by_cases hf : fitsX [p] ≠ 0
  · rw [if_pos hf] at h; exact absurd h hf
  rw [if_neg hf] at h ⊢
  have hok : putOk p = true := by
    have : fitsX [p] = 0 := by omega
    unfold fitsX at this
    simp only [List.length_cons, List.length_nil] at this
    rw [if_neg (by omega)] at this
    rcases h4 : fitF [] [p] with _ | _
    · rw [h4] at this; simp at this
    · simp only [fitF, Bool.and_eq_true] at h4; exact h4.1
  have hrow : rowOk ⟨p.key, p.val, ver⟩ = true := by
    simp only [putOk, rowOk, Bool.and_eq_true, decide_eq_true_eq] at hok ⊢
    exact ⟨hok.1, hok.2.1, hok.2.2.1, hv⟩
  by_cases hg : p.gone
  · rw [if_pos hg] at h ⊢
    refine ⟨(rightB_iff _).2 ⟨Nat.le_trans (delR_len _ _) h1, fun x hx => h2 x (mem_del hx), srt_del h3⟩, fun k => ?_⟩
    rw [if_pos hg]; exact getR_del _ _ _
  rw [if_neg hg] at h ⊢
  by_cases hs : (getR p.key L).isSome
  · rw [if_pos hs] at h ⊢
    refine ⟨(rightB_iff _).2 ⟨by rw [setR_len]; exact h1, fun x hx => ?_, srt_set h3⟩, fun k => ?_⟩
    · rcases mem_set hx with e | e
      · rw [e]; exact hrow
      · exact h2 x e
    · rw [if_neg hg]; exact getR_set _ _ _ hs
  rw [if_neg hs] at h ⊢
  have hn : getR p.key L = none := by simpa using hs
  by_cases h32 : 32 ≤ L.length
  · rw [if_pos h32] at h; cases h
  rw [if_neg h32] at h ⊢
  refine ⟨(rightB_iff _).2 ⟨by rw [insR_len]; omega, fun x hx => ?_, srt_ins h3 hn⟩, fun k => ?_⟩
  · rcases mem_ins hx with e | e
    · rw [e]; exact hrow
    · exact h2 x e
  · rw [if_neg hg]; exact getR_ins _ _ _ hn
/-- What puts of different keys do, one behind the other. -/
theorem seqR_right {ver : Nat} (hv : ver ≤ 4611686018427387903) : ∀ (P : List Pu) (L : List Ro), rightB L = true → (P.Pairwise fun x y => x.key ≠ y.key) → (seqR ver L P).2 = 0 →
    rightB (seqR ver L P).1 = true ∧ (∀ p ∈ P, getR p.key (seqR ver L P).1 = if p.gone then none else some ⟨p.key, p.val, ver⟩) ∧ ∀ k, (∀ p ∈ P, p.key ≠ k) → getR k (seqR ver L P).1 = getR k L
  | [], L, hL, _, _ => ⟨hL, fun p hp => by simp at hp, fun _ _ => rfl⟩
  | p :: r, L, hL, hd, h => by
    rw [List.pairwise_cons] at hd
    by_cases h0 : (doR L p ver).2 = 0
    · simp only [seqR, if_pos h0] at h ⊢
      obtain ⟨d1, d2⟩ := doR_right hL hv h0
      obtain ⟨i1, i2, i3⟩ := seqR_right hv r _ d1 hd.2 h
      refine ⟨i1, fun q hq => ?_, fun k hk => ?_⟩
      · rcases List.mem_cons.1 hq with e | e
        · rw [e, i3 p.key (fun x hx => (hd.1 x hx).symm), d2 p.key, if_pos rfl]
        · exact i2 q e
      · rw [i3 k (fun x hx => hk x (List.mem_cons_of_mem _ hx)), d2 k, if_neg (fun e => hk p (by simp) e.symm)]
    · simp only [seqR, if_neg h0] at h
      exact absurd h h0
theorem keyIn_iff (k : ByteArray) : ∀ P : List Pu, keyIn k P = true ↔ ∃ p ∈ P, p.key = k
  | [] => by simp [keyIn]
  | x :: r => by simp [keyIn, keyIn_iff k r]
theorem keyIn_app (k : ByteArray) (P Q : List Pu) : keyIn k (P ++ Q) = (keyIn k P || keyIn k Q) := by
  induction P with
  | nil => rfl
  | cons x r ih => simp only [List.cons_append, keyIn, ih, Bool.or_assoc]
theorem fitF_pair : ∀ (Q P : List Pu), fitF P Q = true → (Q.Pairwise fun x y => x.key ≠ y.key) ∧ ∀ q ∈ Q, keyIn q.key P = false
  | [], _, _ => by simp
  | x :: r, P, h => by
    simp only [fitF, Bool.and_eq_true, Bool.not_eq_true'] at h
    obtain ⟨h1, h2⟩ := fitF_pair r (P ++ [x]) h.2.2
    have h3 : ∀ q ∈ r, keyIn q.key P = false ∧ x.key ≠ q.key := fun q hq => by
      have := h2 q hq
      rw [keyIn_app, Bool.or_eq_false_iff] at this
      refine ⟨this.1, fun e => ?_⟩
      simp [keyIn, e] at this
    refine ⟨List.pairwise_cons.2 ⟨fun q hq => (h3 q hq).2, h1⟩, fun q hq => ?_⟩
    rcases List.mem_cons.1 hq with e | e
    · rw [e]; exact h.2.1
    · exact (h3 q e).1
theorem pairwise_filter {f : Pu → Bool} {P : List Pu} (h : P.Pairwise fun x y => x.key ≠ y.key) : (P.filter f).Pairwise fun x y => x.key ≠ y.key := h.sublist List.filter_sublist
/-- A right list under puts. -/
theorem allR_right {L : List Ro} {P : List Pu} {ver : Nat} (hL : rightB L = true) (hv : ver ≤ 4611686018427387903) (h : (allR L P ver).2 = 0) :
    rightB (allR L P ver).1 = true ∧ (∀ p ∈ P, getR p.key (allR L P ver).1 = if p.gone then none else some ⟨p.key, p.val, ver⟩) ∧ ∀ k, keyIn k P = false → getR k (allR L P ver).1 = getR k L := by
  unfold allR at h ⊢
  by_cases hf : fitsX P ≠ 0
  · rw [if_pos hf] at h; exact absurd h hf
  rw [if_neg hf] at h ⊢
  have hpair : P.Pairwise fun x y => x.key ≠ y.key := by
    have : fitsX P = 0 := by omega
    unfold fitsX at this
    split at this
    · cases this
    · rcases h4 : fitF [] P with _ | _
      · rw [h4] at this; simp at this
      · exact (fitF_pair P [] h4).1
  by_cases h0 : (seqR ver L (P.filter fun p => p.gone)).2 = 0
  · rw [if_pos h0] at h ⊢
    obtain ⟨a1, a2, a3⟩ := seqR_right hv _ L hL (pairwise_filter hpair) h0
    obtain ⟨b1, b2, b3⟩ := seqR_right hv _ _ a1 (pairwise_filter hpair) h
    have huniq : ∀ p ∈ P, ∀ q ∈ P, p.key = q.key → p.gone = q.gone := by
      intro p hp q hq e
      obtain ⟨i, hi⟩ := List.mem_iff_getElem?.1 hp
      obtain ⟨j, hj⟩ := List.mem_iff_getElem?.1 hq
      obtain ⟨hi1, hi2⟩ := List.getElem?_eq_some_iff.1 hi
      obtain ⟨hj1, hj2⟩ := List.getElem?_eq_some_iff.1 hj
      rw [List.pairwise_iff_getElem] at hpair
      rcases Nat.lt_trichotomy i j with hlt | rfl | hlt
      · exact absurd e (by rw [← hi2, ← hj2]; exact hpair i j hi1 hj1 hlt)
      · rw [← hi2, ← hj2]
      · exact absurd e.symm (by rw [← hi2, ← hj2]; exact hpair j i hj1 hi1 hlt)
    refine ⟨b1, fun p hp => ?_, fun k hk => ?_⟩
    · rcases hg : p.gone with _ | _
      · have := b2 p (List.mem_filter.2 ⟨hp, by simp [hg]⟩)
        rw [this, hg]
      · rw [b3 p.key (fun q hq e => by
          have hq' := List.mem_filter.1 hq
          have := huniq q hq'.1 p hp e
          simp [this, hg] at hq')]
        have := a2 p (List.mem_filter.2 ⟨hp, hg⟩)
        rw [this, hg]
    · have hk' : ∀ p ∈ P, p.key ≠ k := fun p hp e => by
        have : keyIn k P = true := (keyIn_iff k P).2 ⟨p, hp, e⟩
        rw [this] at hk; cases hk
      rw [b3 k (fun p hp => hk' p (List.mem_filter.1 hp).1), a3 k (fun p hp => hk' p (List.mem_filter.1 hp).1)]
  · rw [if_neg h0] at h; exact absurd h h0
end Go.Proofs.Ythgnecggdlamfaa
