/- The mathematics of RowsKeeps: a right list under puts. -/
import Derived.Test.YthgnecggdlamfaaGreatUb
import Derived.Test.YthgnecggdlamfaaGreatUd
import Derived.Test.YthgnecggdlamfaaGreatHd
namespace Go.Proofs.YthgnecggdlamfaaGreat

/-- A list whose keys rise. -/
def srt (L : List Ro) : Prop := L.Pairwise fun x y => lessB x.key y.key = true
theorem ascF_iff : ∀ (L : List Ro) (p : Option ByteArray), ascF p L = true ↔ (∀ x ∈ L, rowOk x = true) ∧ srt L ∧ (∀ k, p = some k → ∀ x ∈ L, lessB k x.key = true)
  | [], p => by simp [ascF, srt]
  | y :: r, p => by
    simp only [ascF, Bool.and_eq_true, ascF_iff r (some y.key), srt, List.pairwise_cons, List.mem_cons, forall_eq_or_imp]
    constructor
    · rintro ⟨h1, h2, h3, h4, h5⟩
      refine ⟨⟨h1, h3⟩, ⟨h5 y.key rfl, h4⟩, fun k hk => ?_⟩
      subst hk
      exact ⟨h2, fun x hx => lessB_trans h2 (h5 y.key rfl x hx)⟩
    · rintro ⟨⟨h1, h2⟩, ⟨h3, h4⟩, h5⟩
      refine ⟨h1, ?_, h2, h4, fun k hk x hx => ?_⟩
      · cases p with
        | none => rfl
        | some k => exact (h5 k rfl).1
      · cases hk; exact h3 x hx
theorem rightB_iff (L : List Ro) : rightB L = true ↔ L.length ≤ 32 ∧ (∀ x ∈ L, rowOk x = true) ∧ srt L := by
  unfold rightB
  rw [Bool.and_eq_true, decide_eq_true_eq, ascF_iff]
  simp
theorem getR_none_iff (k : ByteArray) : ∀ L : List Ro, getR k L = none ↔ ∀ x ∈ L, x.key ≠ k
  | [] => by simp [getR]
  | y :: r => by
    simp only [getR]
    split
    · rename_i h; simp [h]
    · rename_i h; rw [getR_none_iff k r]; simp [h]
theorem getR_del (k k' : ByteArray) : ∀ L : List Ro, getR k' (delR k L) = if k' = k then none else getR k' L
  | [] => by simp [delR, getR]
  | y :: r => by
    have ih := getR_del k k' r
    simp only [delR]
    by_cases h : y.key = k
    · rw [if_pos h, ih]
      by_cases h2 : k' = k
      · rw [if_pos h2, if_pos h2]
      · rw [if_neg h2, if_neg h2, getR, if_neg (fun e => h2 (e.symm.trans h))]
    · rw [if_neg h]
      simp only [getR]
      by_cases h2 : y.key = k'
      · rw [if_pos h2, if_neg (fun e => h (h2.trans e)), if_pos h2]
      · rw [if_neg h2, ih, if_neg h2]
theorem getR_set (y : Ro) (k' : ByteArray) : ∀ L : List Ro, (getR y.key L).isSome = true → getR k' (setR y L) = if k' = y.key then some y else getR k' L
  | [], h => by simp [getR] at h
  | x :: r, h => by
    simp only [setR]
    by_cases e : x.key = y.key
    · rw [if_pos e]
      simp only [getR]
      by_cases h2 : k' = y.key
      · rw [if_pos h2.symm, if_pos h2]
      · rw [if_neg (fun e => h2 e.symm), if_neg h2, if_neg (fun e2 => h2 (e2.symm.trans e))]
    · rw [if_neg e]
      have hr : (getR y.key r).isSome = true := by simpa [getR, e] using h
      simp only [getR]
      by_cases h2 : x.key = k'
      · rw [if_pos h2, if_neg (fun e2 => e (h2.trans e2)), if_pos h2]
      · rw [if_neg h2, getR_set y k' r hr, if_neg h2]
theorem getR_ins (y : Ro) (k' : ByteArray) : ∀ L : List Ro, getR y.key L = none → getR k' (insR y L) = if k' = y.key then some y else getR k' L
  | [], _ => by
    simp only [insR, getR]
    by_cases h : k' = y.key
    · rw [if_pos h.symm, if_pos h]
    · rw [if_neg (fun e => h e.symm), if_neg h]
  | x :: r, h => by
    have hx : x.key ≠ y.key := (getR_none_iff y.key (x :: r)).1 h x (by simp)
    have hr : getR y.key r = none := by simpa [getR, hx] using h
    simp only [insR]
    split
    · simp only [getR]
      by_cases h2 : k' = y.key
      · rw [if_pos h2.symm, if_pos h2]
      · rw [if_neg (fun e => h2 e.symm), if_neg h2]
    · simp only [getR]
      by_cases h2 : x.key = k'
      · rw [if_pos h2, if_neg (fun e => hx (h2.trans e)), if_pos h2]
      · rw [if_neg h2, getR_ins y k' r hr, if_neg h2]
theorem mem_del {k : ByteArray} {x : Ro} : ∀ {L : List Ro}, x ∈ delR k L → x ∈ L
  | [], h => by simp [delR] at h
  | y :: r, h => by
    simp only [delR] at h
    split at h
    · exact List.mem_cons_of_mem _ (mem_del h)
    · rcases List.mem_cons.1 h with e | e
      · rw [e]; simp
      · exact List.mem_cons_of_mem _ (mem_del e)
theorem srt_del {k : ByteArray} : ∀ {L : List Ro}, srt L → srt (delR k L)
  | [], _ => by simp [delR, srt]
  | y :: r, h => by
    unfold srt at h
    rw [List.pairwise_cons] at h
    simp only [delR]
    split
    · exact srt_del h.2
    · unfold srt; rw [List.pairwise_cons]; exact ⟨fun z hz => h.1 z (mem_del hz), srt_del h.2⟩
theorem mem_set {y x : Ro} : ∀ {L : List Ro}, x ∈ setR y L → x = y ∨ x ∈ L
  | [], h => by simp [setR] at h
  | z :: r, h => by
    simp only [setR] at h
    split at h
    · rcases List.mem_cons.1 h with e | e
      · exact .inl e
      · exact .inr (List.mem_cons_of_mem _ e)
    · rcases List.mem_cons.1 h with e | e
      · exact .inr (by rw [e]; simp)
      · exact (mem_set e).imp id (List.mem_cons_of_mem _)
theorem key_set {y x : Ro} : ∀ {L : List Ro}, x ∈ setR y L → ∃ z ∈ L, z.key = x.key
  | [], h => by simp [setR] at h
  | z :: r, h => by
    simp only [setR] at h
    split at h
    · rename_i hk
      rcases List.mem_cons.1 h with e | e
      · exact ⟨z, by simp, by rw [e, hk]⟩
      · exact ⟨x, List.mem_cons_of_mem _ e, rfl⟩
    · rcases List.mem_cons.1 h with e | e
      · exact ⟨z, by simp, by rw [e]⟩
      · obtain ⟨q, hq, e2⟩ := key_set e; exact ⟨q, List.mem_cons_of_mem _ hq, e2⟩
theorem srt_set {y : Ro} : ∀ {L : List Ro}, srt L → srt (setR y L)
  | [], _ => by simp [setR, srt]
  | z :: r, h => by
    unfold srt at h
    rw [List.pairwise_cons] at h
    simp only [setR]
    split
    · rename_i hk; unfold srt; rw [List.pairwise_cons]; exact ⟨fun q hq => by rw [← hk]; exact h.1 q hq, h.2⟩
    · unfold srt; rw [List.pairwise_cons]
      refine ⟨fun q hq => ?_, srt_set h.2⟩
      obtain ⟨t, ht, e⟩ := key_set hq
      rw [← e]; exact h.1 t ht
theorem mem_ins {y x : Ro} : ∀ {L : List Ro}, x ∈ insR y L → x = y ∨ x ∈ L
  | [], h => by simpa [insR] using h
  | z :: r, h => by
    simp only [insR] at h
    split at h
    · exact List.mem_cons.1 h
    · rcases List.mem_cons.1 h with e | e
      · exact .inr (by rw [e]; simp)
      · exact (mem_ins e).imp id (List.mem_cons_of_mem _)
theorem srt_ins {y : Ro} : ∀ {L : List Ro}, srt L → getR y.key L = none → srt (insR y L)
  | [], _, _ => by simp [insR, srt]
  | z :: r, h, hn => by
    have hz : z.key ≠ y.key := (getR_none_iff y.key (z :: r)).1 hn z (by simp)
    have hr : getR y.key r = none := by simpa [getR, hz] using hn
    unfold srt at h
    have h' := h
    rw [List.pairwise_cons] at h
    simp only [insR]
    split
    · rename_i hl
      unfold srt; rw [List.pairwise_cons]
      refine ⟨fun q hq => ?_, h'⟩
      rcases List.mem_cons.1 hq with e | e
      · rw [e]; exact hl
      · exact lessB_trans hl (h.1 q e)
    · rename_i hl
      unfold srt; rw [List.pairwise_cons]
      refine ⟨fun q hq => ?_, srt_ins h.2 hr⟩
      rcases mem_ins hq with e | e
      · rw [e]
        rcases h3 : lessB z.key y.key with _ | _
        · exact absurd (lessB_total h3 (by simpa using hl)) hz
        · rfl
      · exact h.1 q e
/-- What one put does to a right list. -/
theorem doR_right {L : List Ro} {p : Pu} {ver : Nat} (hL : rightB L = true) (hv : ver ≤ 4611686018427387903) (h : (doR L p ver).2 = 0) :
    rightB (doR L p ver).1 = true ∧ ∀ k, getR k (doR L p ver).1 = if k = p.key then (if p.gone then none else some ⟨p.key, p.val, ver⟩) else getR k L := by
  have hR := (rightB_iff L).1 hL
  obtain ⟨h1, h2, h3⟩ := hR
  unfold doR at h ⊢
  by_cases hf : fitsX [p] ≠ 0
  · rw [if_pos hf] at h; exact absurd h hf
  rw [if_neg hf] at h ⊢
  have hok : putOk p = true := by
    have : fitsX [p] = 0 := by omega
    unfold fitsX at this
    simp only [List.length_cons, List.length_nil] at this
    rw [if_neg (by omega)] at this
    rcases h4 : fitF [] [p] with _ | _
    · rw [h4] at this; simp at this
    · simp only [fitF, Bool.and_eq_true] at h4; exact h4.1
  have hrow : rowOk ⟨p.key, p.val, ver⟩ = true := by
    simp only [putOk, rowOk, Bool.and_eq_true, decide_eq_true_eq] at hok ⊢
    exact ⟨hok.1, hok.2.1, hok.2.2.1, hv⟩
  by_cases hg : p.gone
  · rw [if_pos hg] at h ⊢
    refine ⟨(rightB_iff _).2 ⟨Nat.le_trans (delR_len _ _) h1, fun x hx => h2 x (mem_del hx), srt_del h3⟩, fun k => ?_⟩
    rw [if_pos hg]; exact getR_del _ _ _
  rw [if_neg hg] at h ⊢
  by_cases hs : (getR p.key L).isSome
  · rw [if_pos hs] at h ⊢
    refine ⟨(rightB_iff _).2 ⟨by rw [setR_len]; exact h1, fun x hx => ?_, srt_set h3⟩, fun k => ?_⟩
    · rcases mem_set hx with e | e
      · rw [e]; exact hrow
      · exact h2 x e
    · rw [if_neg hg]; exact getR_set _ _ _ hs
  rw [if_neg hs] at h ⊢
  have hn : getR p.key L = none := by simpa using hs
  by_cases h32 : 32 ≤ L.length
  · rw [if_pos h32] at h; cases h
  rw [if_neg h32] at h ⊢
  refine ⟨(rightB_iff _).2 ⟨by rw [insR_len]; omega, fun x hx => ?_, srt_ins h3 hn⟩, fun k => ?_⟩
  · rcases mem_ins hx with e | e
    · rw [e]; exact hrow
    · exact h2 x e
  · rw [if_neg hg]; exact getR_ins _ _ _ hn
/-- What puts of different keys do, one behind the other. -/
theorem seqR_right {ver : Nat} (hv : ver ≤ 4611686018427387903) : ∀ (P : List Pu) (L : List Ro), rightB L = true → (P.Pairwise fun x y => x.key ≠ y.key) → (seqR ver L P).2 = 0 →
    rightB (seqR ver L P).1 = true ∧ (∀ p ∈ P, getR p.key (seqR ver L P).1 = if p.gone then none else some ⟨p.key, p.val, ver⟩) ∧ ∀ k, (∀ p ∈ P, p.key ≠ k) → getR k (seqR ver L P).1 = getR k L
  | [], L, hL, _, _ => ⟨hL, fun p hp => by simp at hp, fun _ _ => rfl⟩
  | p :: r, L, hL, hd, h => by
    rw [List.pairwise_cons] at hd
    by_cases h0 : (doR L p ver).2 = 0
    · simp only [seqR, if_pos h0] at h ⊢
      obtain ⟨d1, d2⟩ := doR_right hL hv h0
      obtain ⟨i1, i2, i3⟩ := seqR_right hv r _ d1 hd.2 h
      refine ⟨i1, fun q hq => ?_, fun k hk => ?_⟩
      · rcases List.mem_cons.1 hq with e | e
        · rw [e, i3 p.key (fun x hx => (hd.1 x hx).symm), d2 p.key, if_pos rfl]
        · exact i2 q e
      · rw [i3 k (fun x hx => hk x (List.mem_cons_of_mem _ hx)), d2 k, if_neg (fun e => hk p (by simp) e.symm)]
    · simp only [seqR, if_neg h0] at h
      exact absurd h h0
theorem keyIn_iff (k : ByteArray) : ∀ P : List Pu, keyIn k P = true ↔ ∃ p ∈ P, p.key = k
  | [] => by simp [keyIn]
  | x :: r => by simp [keyIn, keyIn_iff k r]
theorem keyIn_app (k : ByteArray) (P Q : List Pu) : keyIn k (P ++ Q) = (keyIn k P || keyIn k Q) := by
  induction P with
  | nil => rfl
  | cons x r ih => simp only [List.cons_append, keyIn, ih, Bool.or_assoc]
theorem fitF_pair : ∀ (Q P : List Pu), fitF P Q = true → (Q.Pairwise fun x y => x.key ≠ y.key) ∧ ∀ q ∈ Q, keyIn q.key P = false
  | [], _, _ => by simp
  | x :: r, P, h => by
    simp only [fitF, Bool.and_eq_true, Bool.not_eq_true'] at h
    obtain ⟨h1, h2⟩ := fitF_pair r (P ++ [x]) h.2.2
    have h3 : ∀ q ∈ r, keyIn q.key P = false ∧ x.key ≠ q.key := fun q hq => by
      have := h2 q hq
      rw [keyIn_app, Bool.or_eq_false_iff] at this
      refine ⟨this.1, fun e => ?_⟩
      simp [keyIn, e] at this
    refine ⟨List.pairwise_cons.2 ⟨fun q hq => (h3 q hq).2, h1⟩, fun q hq => ?_⟩
    rcases List.mem_cons.1 hq with e | e
    · rw [e]; exact h.2.1
    · exact (h3 q e).1
theorem pairwise_filter {f : Pu → Bool} {P : List Pu} (h : P.Pairwise fun x y => x.key ≠ y.key) : (P.filter f).Pairwise fun x y => x.key ≠ y.key := h.sublist List.filter_sublist
/-- A right list under puts. -/
theorem allR_right {L : List Ro} {P : List Pu} {ver : Nat} (hL : rightB L = true) (hv : ver ≤ 4611686018427387903) (h : (allR L P ver).2 = 0) :
    rightB (allR L P ver).1 = true ∧ (∀ p ∈ P, getR p.key (allR L P ver).1 = if p.gone then none else some ⟨p.key, p.val, ver⟩) ∧ ∀ k, keyIn k P = false → getR k (allR L P ver).1 = getR k L := by
  unfold allR at h ⊢
  by_cases hf : fitsX P ≠ 0
  · rw [if_pos hf] at h; exact absurd h hf
  rw [if_neg hf] at h ⊢
  have hpair : P.Pairwise fun x y => x.key ≠ y.key := by
    have : fitsX P = 0 := by omega
    unfold fitsX at this
    split at this
    · cases this
    · rcases h4 : fitF [] P with _ | _
      · rw [h4] at this; simp at this
      · exact (fitF_pair P [] h4).1
  by_cases h0 : (seqR ver L (P.filter fun p => p.gone)).2 = 0
  · rw [if_pos h0] at h ⊢
    obtain ⟨a1, a2, a3⟩ := seqR_right hv _ L hL (pairwise_filter hpair) h0
    obtain ⟨b1, b2, b3⟩ := seqR_right hv _ _ a1 (pairwise_filter hpair) h
    have huniq : ∀ p ∈ P, ∀ q ∈ P, p.key = q.key → p.gone = q.gone := by
      intro p hp q hq e
      obtain ⟨i, hi⟩ := List.mem_iff_getElem?.1 hp
      obtain ⟨j, hj⟩ := List.mem_iff_getElem?.1 hq
      obtain ⟨hi1, hi2⟩ := List.getElem?_eq_some_iff.1 hi
      obtain ⟨hj1, hj2⟩ := List.getElem?_eq_some_iff.1 hj
      rw [List.pairwise_iff_getElem] at hpair
      rcases Nat.lt_trichotomy i j with hlt | rfl | hlt
      · exact absurd e (by rw [← hi2, ← hj2]; exact hpair i j hi1 hj1 hlt)
      · rw [← hi2, ← hj2]
      · exact absurd e.symm (by rw [← hi2, ← hj2]; exact hpair j i hj1 hi1 hlt)
    refine ⟨b1, fun p hp => ?_, fun k hk => ?_⟩
    · rcases hg : p.gone with _ | _
      · have := b2 p (List.mem_filter.2 ⟨hp, by simp [hg]⟩)
        rw [this, hg]
      · rw [b3 p.key (fun q hq e => by
          have hq' := List.mem_filter.1 hq
          have := huniq q hq'.1 p hp e
          simp [this, hg] at hq')]
        have := a2 p (List.mem_filter.2 ⟨hp, hg⟩)
        rw [this, hg]
    · have hk' : ∀ p ∈ P, p.key ≠ k := fun p hp e => by
        have : keyIn k P = true := (keyIn_iff k P).2 ⟨p, hp, e⟩
        rw [this] at hk; cases hk
      rw [b3 k (fun p hp => hk' p (List.mem_filter.1 hp).1), a3 k (fun p hp => hk' p (List.mem_filter.1 hp).1)]
  · rw [if_neg h0] at h; exact absurd h h0
end Go.Proofs.YthgnecggdlamfaaGreat
/- One put, step by step: the mathematics of Do. -/
namespace Go.Proofs.YthgnecggdlamfaaGreat

theorem snoc_ind {α : Type} {p : List α → Prop} (L : List α) (h0 : p []) (h1 : ∀ M x, p M → p (M ++ [x])) : p L := by
  have h : ∀ n, p (L.take n) := fun n => by
    induction n with
    | zero => simpa using h0
    | succ n ih =>
      rcases Nat.lt_or_ge n L.length with hn | hn
      · rw [List.take_succ_eq_append_getElem hn]; exact h1 _ _ ih
      · rw [List.take_of_length_le (by omega)]; rw [List.take_of_length_le hn] at ih; exact ih
  have := h L.length
  rwa [List.take_length] at this
/-- What one row makes of what is laid, and of whether the put is done. -/
def stepF (y : Ro) (is gone : Bool) (s : List Ro × Bool) (x : Ro) : List Ro × Bool :=
  if x.key = y.key then (if gone then s else if s.2 then (s.1 ++ [x], s.2) else (s.1 ++ [y], true))
  else if !is && (!s.2 && lessB y.key x.key) then (s.1 ++ [y] ++ [x], true) else (s.1 ++ [x], s.2)
def foldF (y : Ro) (is gone : Bool) (L : List Ro) : List Ro × Bool := L.foldl (stepF y is gone) ([], gone)
def endF (y : Ro) (s : List Ro × Bool) : List Ro := if s.2 then s.1 else s.1 ++ [y]
theorem foldF_snoc (y : Ro) (is gone : Bool) (L : List Ro) (x : Ro) : foldF y is gone (L ++ [x]) = stepF y is gone (foldF y is gone L) x := by simp [foldF]
theorem delR_snoc (k : ByteArray) (x : Ro) : ∀ M, delR k (M ++ [x]) = delR k M ++ if x.key = k then [] else [x]
  | [] => by simp [delR]
  | z :: r => by
    simp only [List.cons_append, delR, delR_snoc k x r]
    split <;> simp
theorem getR_snoc (k : ByteArray) (x : Ro) : ∀ M, getR k (M ++ [x]) = if (getR k M).isSome then getR k M else if x.key = k then some x else none
  | [] => by simp [getR]
  | z :: r => by
    simp only [List.cons_append, getR]
    split
    · rfl
    · exact getR_snoc k x r
theorem setR_none (y : Ro) : ∀ M, getR y.key M = none → setR y M = M
  | [], _ => rfl
  | z :: r, h => by
    have hz := (getR_none_iff y.key (z :: r)).1 h z (by simp)
    have hr : getR y.key r = none := by simpa [getR, hz] using h
    simp only [setR, if_neg hz, setR_none y r hr]
theorem setR_snoc (y x : Ro) : ∀ M, setR y (M ++ [x]) = if (getR y.key M).isSome then setR y M ++ [x] else M ++ [if x.key = y.key then y else x]
  | [] => by simp only [List.nil_append, setR, getR]; split <;> simp
  | z :: r => by
    simp only [List.cons_append, setR, getR]
    by_cases h : z.key = y.key
    · simp [h]
    · simp only [if_neg h, setR_snoc y x r]
      split <;> simp
theorem insR_any (y : Ro) : ∀ M, (M.any fun x => lessB y.key x.key) = false → insR y M = M ++ [y]
  | [], _ => rfl
  | z :: r, h => by
    simp only [List.any_cons, Bool.or_eq_false_iff] at h
    simp only [insR, h.1, insR_any y r h.2]; simp
theorem insR_snoc (y x : Ro) : ∀ M, (M.any fun x => lessB y.key x.key) = true → insR y (M ++ [x]) = insR y M ++ [x]
  | [], h => by simp at h
  | z :: r, h => by
    simp only [List.cons_append, insR]
    split
    · simp
    · rename_i hz
      simp only [List.any_cons, Bool.or_eq_true] at h
      rcases h with h | h
      · exact absurd h hz
      · rw [insR_snoc y x r h]; simp
/-- Gone. -/
theorem fold_gone (y : Ro) (is : Bool) (L : List Ro) : foldF y is true L = (delR y.key L, true) := by
  refine snoc_ind (p := fun L => foldF y is true L = (delR y.key L, true)) L rfl fun M x ih => ?_
  rw [foldF_snoc, ih, delR_snoc]
  unfold stepF
  by_cases h : x.key = y.key
  · simp [h]
  · simp [h]
/-- Found, and set. -/
theorem fold_set (y : Ro) (L : List Ro) : foldF y true false L = (setR y L, (getR y.key L).isSome) := by
  refine snoc_ind (p := fun L => foldF y true false L = (setR y L, (getR y.key L).isSome)) L rfl fun M x ih => ?_
  rw [foldF_snoc, ih, setR_snoc, getR_snoc]
  unfold stepF
  by_cases h : x.key = y.key
  · rcases hg : getR y.key M with _ | z
    · simp [h, setR_none y M hg]
    · simp [h]
  · rcases hg : getR y.key M with _ | z
    · simp [h, setR_none y M hg]
    · simp [h]
/-- Not found, and put in its place. -/
theorem fold_ins (y : Ro) (L : List Ro) : (∀ x ∈ L, x.key ≠ y.key) → foldF y false false L = (if (L.any fun x => lessB y.key x.key) then insR y L else L, L.any fun x => lessB y.key x.key) := by
  refine snoc_ind (p := fun L => (∀ x ∈ L, x.key ≠ y.key) → foldF y false false L = (if (L.any fun x => lessB y.key x.key) then insR y L else L, L.any fun x => lessB y.key x.key)) L (fun _ => rfl) fun M x ih h => ?_
  have hx : x.key ≠ y.key := h x (by simp)
  rw [foldF_snoc, ih (fun z hz => h z (by simp [hz]))]
  unfold stepF
  rw [if_neg hx]
  rcases ha : M.any fun x => lessB y.key x.key with _ | _
  · rcases hl : lessB y.key x.key with _ | _
    · simp [ha, hl]
    · have h1 : insR y (M ++ [x]) = M ++ [y] ++ [x] := by
        clear ih h
        induction M with
        | nil => simp [insR, hl]
        | cons z r ihr =>
          simp only [List.any_cons, Bool.or_eq_false_iff] at ha
          simp only [List.cons_append, insR, ha.1]
          simp [ihr ha.2]
      simp [ha, hl, h1]
  · simp [ha, insR_snoc y x M ha]
/-- What Do answers, by steps. -/
theorem do_steps (L : List Ro) (p : Pu) (ver : Nat) (h0 : fitsX [p] = 0) (h1 : ¬ ((getR p.key L).isSome = false ∧ p.gone = false ∧ 32 ≤ L.length)) :
    doR L p ver = (endF ⟨p.key, p.val, ver⟩ (foldF ⟨p.key, p.val, ver⟩ (getR p.key L).isSome p.gone L), 0) := by
  unfold doR
  rw [if_neg (by omega)]
  rcases hg : p.gone with _ | _
  · rw [if_neg (by decide)]
    rcases hs : (getR p.key L).isSome with _ | _
    · rw [if_neg (by decide), if_neg (fun h => h1 ⟨hs, hg, h⟩), fold_ins _ _ ((getR_none_iff p.key L).1 (by simpa using hs))]
      rcases ha : L.any fun x => lessB p.key x.key with _ | _
      · rw [insR_any _ _ ha]; simp [endF]
      · simp [endF]
    · rw [if_pos rfl, fold_set]; simp [endF, hs]
  · rw [if_pos rfl, fold_gone]; simp [endF]
theorem stepF_len (y : Ro) (is gone : Bool) (s : List Ro × Bool) (x : Ro) : (stepF y is gone s x).1.length + (if (stepF y is gone s x).2 then 0 else 1) ≤ s.1.length + (if s.2 then 0 else 1) + 1 := by
  unfold stepF
  rcases s with ⟨O, d⟩
  rcases d with _ | _ <;> (repeat' split) <;> simp_all <;> omega
theorem foldF_len (y : Ro) (is gone : Bool) (L : List Ro) : (foldF y is gone L).1.length + (if (foldF y is gone L).2 then 0 else 1) ≤ L.length + (if gone then 0 else 1) := by
  refine snoc_ind (p := fun L => (foldF y is gone L).1.length + (if (foldF y is gone L).2 then 0 else 1) ≤ L.length + (if gone then 0 else 1)) L (by simp only [foldF, List.foldl_nil, List.length_nil]; exact Nat.le_refl _) fun M x ih => ?_
  rw [foldF_snoc]
  have := stepF_len y is gone (foldF y is gone M) x
  rw [List.length_append, List.length_singleton]
  omega
end Go.Proofs.YthgnecggdlamfaaGreat
/- One put: the document's Do; whether lists are the same. -/
namespace Go.Proofs.YthgnecggdlamfaaGreat
open Go.RowKit

theorem roT : RowT 22 46 3 40 (.agg #[.string ⟨#[]⟩, .string ⟨#[]⟩, .int .u64 0]) roC where
  und := Tryz.underlying22
  info := by kernel_rfl
  zs := by decide
  kp := by decide
  bp := by decide
  len _ := rfl
  one x u hu := by
    simp only [roC, List.mem_cons, List.not_mem_nil, or_false] at hu
    rcases hu with rfl | rfl | rfl <;> rfl
theorem puT : RowT 36 35 3 40 (.agg #[.string ⟨#[]⟩, .string ⟨#[]⟩, .bool false]) puC where
  und := Tryz.underlying36
  info := by kernel_rfl
  zs := by decide
  kp := by decide
  bp := by decide
  len _ := rfl
  one x u hu := by
    simp only [puC, List.mem_cons, List.not_mem_nil, or_false] at hu
    rcases hu with rfl | rfl | rfl <;> rfl
/-- Rows that are being laid. -/
abbrev CqR (B : Nat) (w : World) (v : Value) (L : List Ro) : Prop := Cq 46 3 roC B w v L
/-- append(rows, one). -/
theorem appR (B : Nat) (w : World) (v : Value) (L : List Ro) (h : CqR B w v L) (x : Ro) (hl : (L.length + 1) * 40 ≤ 140737488355328) (hB : B ≤ w.heap.size) :
    ∃ a' c' w', (Builtin.append_ #[22, 22] 22 #[v, .slice (some ⟨w.heap.size, 0, none⟩) 1 1]).run Tryz.prog (w.alloc (.cells #[.string x.key, .string x.val, .int .u64 (x.ver : Nat)] 46)) = .ok (.slice a' (L.length + 1) c') w' ∧ CqR B w' (.slice a' (L.length + 1) c') (L ++ [x]) ∧ Below B w w' := by
  have B1 : Below w.heap.size w (w.alloc (.cells #[.string x.key, .string x.val, .int .u64 (x.ver : Nat)] 46)) := (Below.refl _ _).alloc (Nat.le_refl _) _
  obtain ⟨v', w', hr, hc, hb⟩ := app_rw roT B _ 22 v L (h.later B1) (some ⟨w.heap.size, 0, none⟩) 1 1 [x] rfl (rw_one (f := roC) w rfl x rfl 46) hl (Nat.le_trans hB B1.size)
  obtain ⟨a', c', rfl, _⟩ := hc.form roT
  rw [List.length_append, List.length_singleton] at hr hc
  exact ⟨a', c', w', hr, hc, (B1.mono hB).trans hb⟩
set_option maxHeartbeats 1000000 in
theorem rSameR_any (n c c2 : Nat) (a a2 : Option Addr) (L : List Ro) (hn : L.length = n) (hl : n ≤ 140737488351232) (w : World) (h1 : Ros w a L) (h2 : Ros w a2 L) :
    Calls Tryz.prog 33 #[.slice a n c, .slice a2 n c2] w fun e w' => e = .returned (.bool true) ∧ Below w.heap.size w w' := by
  have HN := Lib.hid hn
  have H1 := Lib.hid h1
  have H2 := Lib.hid h2
  have HW := Lib.hid (Below.refl w.heap.size w)
  clear hn h1 h2
  go_enter Tryz.func33, Tryz.ntmps33
  go_wp2_with fail
  go_loopw [5] (fun u wr => ∃ k : Nat, k ≤ n ∧ u = .int .i64 k ∧ Below w.heap.size w wr) (fun u _ => n - (intOf u).toNat)
  case atStart => exact ⟨0, Nat.zero_le _, rfl, HW.out⟩
  case round =>
    obtain ⟨k, hk, rfl, hB⟩ := hrel
    have HB := Lib.hid hB
    by_cases hlt : k < n
    · obtain ⟨x, hx⟩ : ∃ x, L[k]? = some x := ⟨_, List.getElem?_eq_getElem (by rw [HN.out]; exact hlt)⟩
      have i0 : (0 : Int) ≤ (k : Int) := by omega
      have i1 : (k : Int) < (n : Int) := by omega
      obtain ⟨b, off, rfl, hb, p0, p1, p2⟩ := Ros.cells (H1.out.later hB) hx
      obtain ⟨b2, off2, rfl, hb2, q0, q1, q2⟩ := Ros.cells (H2.out.later hB) hx
      obtain ⟨xk, xv, xn⟩ := x
      simp only at p0 p1 p2 q0 q1 q2
      clear hx hB
      go_wp2_with fail
      go_quiet (fail)
      go_wp2_with fail
      go_roundw
      case rel => exact ⟨k + 1, by omega, by go_num, below_drewN HB.out _⟩
      case measure => simp [intOf]; omega
    · clear hB
      go_wp2_with fail
      go_ret
      exact ⟨by first | rfl | simp, HB.out⟩
end Go.Proofs.YthgnecggdlamfaaGreat
