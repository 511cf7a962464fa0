/- The coordinator's mathematics: what is right stays right; what is told once; what is committed. -/
import Derived.Test.YtohhkacnjhgamaaOa
namespace Go.Proofs.Ytohhkacnjhgamaa

theorem dst_nodup : ∀ (r : List Dl) (p : List Tx), p.Nodup → (dstC p r = true ↔ (p ++ r.map fun d => d.t).Nodup)
  | [], p, h => by simp [dstC, h]
  | x :: r, p, h => by
    rw [dstC, List.map_cons]
    by_cases hx : x.t ∈ p
    · have e : (p.all fun y => !decide (y = x.t)) = false := by
        rw [List.all_eq_false]; exact ⟨x.t, hx, by simp⟩
      rw [e, Bool.false_and]
      simp only [Bool.false_eq_true, false_iff]
      intro hn
      exact (List.nodup_append.1 hn).2.2 x.t hx x.t (by simp) rfl
    · have e : (p.all fun y => !decide (y = x.t)) = true := by
        rw [List.all_eq_true]; intro y hy
        have : ¬ y = x.t := fun e => hx (e ▸ hy)
        simp [this]
      have hp : (p ++ [x.t]).Nodup := by
        rw [List.nodup_append]
        exact ⟨h, by simp, fun a ha b hb => by simp only [List.mem_singleton] at hb; subst hb; exact fun e2 => hx (e2 ▸ ha)⟩
      rw [e, Bool.true_and, dst_nodup r _ hp, List.append_assoc, List.singleton_append]
theorem right_iffC (L : List Dl) : rightC L = true ↔ L.length ≤ 64 ∧ (L.map fun d => d.t).Nodup ∧ ∀ d ∈ L, dlOk d = true := by
  unfold rightC
  rw [Bool.and_eq_true, Bool.and_eq_true, decide_eq_true_iff, dst_nodup L [] List.nodup_nil, List.all_eq_true, List.nil_append]
theorem fnd_none {t : Tx} : ∀ {L : List Dl}, fndC t L = none → t ∉ L.map fun d => d.t
  | [], _ => by simp
  | x :: r, h => by
    rw [fndC] at h
    split at h
    · cases h
    · rename_i hx
      rw [List.map_cons, List.mem_cons]
      rintro (e | e)
      · exact hx e.symm
      · exact fnd_none h e
theorem set_map (t : Tx) (st : Int) : ∀ L : List Dl, ((setC t st L).map fun d => d.t) = L.map fun d => d.t
  | [] => rfl
  | x :: r => by rw [setC]; split <;> simp [set_map t st r]
theorem set_mem {t : Tx} {st : Int} : ∀ {L : List Dl} {x : Dl}, x ∈ setC t st L → x ∈ L ∨ ∃ d, fndC t L = some d ∧ x = ⟨d.t, d.parts, st⟩
  | [], x, h => by simp [setC] at h
  | y :: r, x, h => by
    rw [setC] at h
    by_cases hy : y.t = t
    · rw [if_pos hy] at h
      rcases List.mem_cons.1 h with e | e
      · exact .inr ⟨y, by rw [fndC, if_pos hy], e⟩
      · exact .inl (by simp [e])
    · rw [if_neg hy] at h
      rcases List.mem_cons.1 h with e | e
      · exact .inl (by simp [e])
      · rcases set_mem e with h1 | ⟨d, h1, h2⟩
        · exact .inl (by simp [h1])
        · exact .inr ⟨d, by rw [fndC, if_neg hy]; exact h1, h2⟩
theorem ok_new {t : Tx} {l : List Nat} (h : mayC l = true) : dlOk ⟨t, l, 0⟩ = true := by simp [dlOk, h]
theorem ok_abort (t : Tx) : dlOk ⟨t, [], 2⟩ = true := by simp [dlOk]
theorem ok_end {d : Dl} (h : dlOk d = true) (b : Bool) : dlOk ⟨d.t, d.parts, endC d.st b⟩ = true := by
  unfold dlOk at h ⊢
  rw [Bool.and_eq_true, decide_eq_true_iff, Bool.or_eq_true, Bool.and_eq_true, decide_eq_true_iff, decide_eq_true_iff] at h ⊢
  obtain ⟨⟨h1, h2⟩, h3⟩ := h
  unfold endC
  by_cases h0 : d.st = 0
  · rw [if_pos h0]
    have hm : mayC d.parts = true := by
      rcases h3 with h3 | ⟨_, h3⟩
      · exact h3
      · omega
    exact ⟨by cases b <;> simp, .inl hm⟩
  · rw [if_neg h0]; exact ⟨⟨h1, h2⟩, h3⟩
/-- CoordStays. -/
theorem do_right {L : List Dl} (h : rightC L = true) (o : Cod) : rightC (doC L o).1 = true := by
  rw [right_iffC] at h
  obtain ⟨h1, h2, h3⟩ := h
  have hone : ∀ d : Dl, ¬ 64 ≤ L.length → fndC d.t L = none → dlOk d = true → rightC (L ++ [d]) = true := fun d hl hf hd => by
    rw [right_iffC]
    refine ⟨by rw [List.length_append, List.length_singleton]; omega, ?_, fun x hx => ?_⟩
    · rw [List.map_append, List.nodup_append]
      refine ⟨h2, by simp, fun a ha b hb => ?_⟩
      obtain rfl : b = d.t := by simpa using hb
      intro e; subst e; exact fnd_none hf ha
    · rcases List.mem_append.1 hx with e | e
      · exact h3 x e
      · obtain rfl : x = d := by simpa using e
        exact hd
  have hL : rightC L = true := (right_iffC L).2 ⟨h1, h2, h3⟩
  unfold doC
  split
  · split
    · exact hL
    rename_i hm
    split
    · split
      · exact hL
      split <;> exact hL
    · rename_i hf
      split
      · exact hL
      · rename_i hl
        exact hone ⟨o.t, o.parts, 0⟩ hl hf (ok_new (by simpa using hm))
  split
  · exact hL
  split
  · rename_i hf
    split
    · exact hL
    split
    · exact hL
    · rename_i hl
      exact hone ⟨o.t, [], 2⟩ hl hf (ok_abort _)
  · rename_i d hf
    rw [right_iffC]
    refine ⟨by simp only [set_len]; exact h1, by simp only [set_map]; exact h2, fun x hx => ?_⟩
    rcases set_mem hx with e | ⟨d', e, rfl⟩
    · exact h3 x e
    · rw [hf] at e
      obtain rfl := Option.some.inj e
      exact ok_end (h3 d (fnd_mem hf)) _
/-- What is known of a transaction: nothing, open, committed, aborted. -/
def stC (t : Tx) (L : List Dl) : Option Int := (fndC t L).map fun d => d.st
/-- What was told of a transaction. -/
def TdC (t : Tx) (L : List Dl) (told commit : Bool) : Prop := told = true → stC t L = some (if commit then 1 else 2)
theorem td_nil (t : Tx) (c : Bool) : TdC t [] false c := fun h => by cases h
/-- CoordOnce: what somebody is told is what was told, and what is known behind. -/
theorem td_step {t : Tx} {L : List Dl} {told commit : Bool} (hr : rightC L = true) (h : TdC t L told commit) (o : Cod) :
    (o.t = t ∧ (o.kind = 6 ∨ o.kind = 7) ∧ (doC L o).2.1 = 0 → (told = true → (doC L o).2.2 = commit) ∧ TdC t (doC L o).1 true (doC L o).2.2) ∧ TdC t (doC L o).1 told commit := by
  by_cases ht : o.t = t
  case neg =>
    refine ⟨fun e => absurd e.1 ht, fun h0 => ?_⟩
    unfold stC
    rw [apart_fnd L o ht]; exact h h0
  subst ht
  have hor : ∀ (M : List Dl), fndC o.t L ≠ none → stC o.t (L ++ M) = stC o.t L := fun M hn => by
    unfold stC
    rw [fnd_app]
    cases hf : fndC o.t L with
    | none => exact absurd hf hn
    | some d => rfl
  have hnn : told = true → fndC o.t L ≠ none := fun h0 e => by
    have := h h0
    rw [stC, e] at this; cases this
  unfold doC
  split
  · rename_i h5
    refine ⟨fun e => by rcases e.2.1 with e | e <;> omega, fun h0 => ?_⟩
    split
    · exact h h0
    split
    · split
      · exact h h0
      split <;> exact h h0
    · rename_i hf
      exact absurd hf (hnn h0)
  split
  · rename_i h6
    exact ⟨fun e => absurd e.2.1 (by omega), h⟩
  split
  · rename_i hf
    have hno : told = true → False := fun h0 => hnn h0 hf
    refine ⟨fun e => ⟨fun h0 => (hno h0).elim, fun _ => ?_⟩, fun h0 => (hno h0).elim⟩
    obtain ⟨_, _, e⟩ := e
    split at e
    · cases e
    rename_i hc
    split at e
    · cases e
    rename_i hl
    rw [if_neg hc, if_neg hl]
    unfold stC
    rw [fnd_app, hf, Option.none_or, fndC, if_pos rfl]; rfl
  · rename_i d hf
    have hd := (right_iffC L).1 hr
    have hok := hd.2.2 d (fnd_mem hf)
    unfold dlOk at hok
    rw [Bool.and_eq_true, decide_eq_true_iff] at hok
    have hst : ∀ b : Bool, stC o.t (setC o.t (endC d.st b) L) = some (endC d.st b) := fun b => by
      unfold stC; rw [fnd_set_same o.t _ hf]; rfl
    have h12 : ∀ b : Bool, endC d.st b = if decide (endC d.st b = 1) = true then 1 else 2 := fun b => by
      unfold endC
      by_cases h0 : d.st = 0
      · rw [if_pos h0]; cases b <;> rfl
      · rw [if_neg h0]
        by_cases h1 : d.st = 1
        · rw [h1]; rfl
        · rw [decide_eq_false h1]; simp only [Bool.false_eq_true, if_false]; omega
    have htold : told = true → d.st = if commit then 1 else 2 := fun h0 => by
      have := h h0
      rw [stC, hf] at this
      exact Option.some.inj this
    have hkeep : told = true → ∀ b, endC d.st b = d.st := fun h0 b => by
      unfold endC
      rw [if_neg (by rw [htold h0]; cases commit <;> decide)]
    refine ⟨fun _ => ⟨fun h0 => ?_, fun _ => ?_⟩, fun h0 => ?_⟩
    · simp only
      rw [hkeep h0, htold h0]; cases commit <;> rfl
    · simp only
      rw [hst]; congr 1; exact h12 _
    · simp only
      rw [hst, hkeep h0, htold h0]
/-- CoordCommits: how a transaction came to what is known of it. -/
def CmC (t : Tx) (L : List Dl) (begun : Bool) (first : Int) : Prop :=
  (stC t L = none ∧ begun = false ∧ first = 0) ∨ (stC t L = some 0 ∧ begun = true ∧ first = 0) ∨ (stC t L = some 1 ∧ begun = true ∧ first = 2) ∨ (stC t L = some 2 ∧ first = 1)
theorem cm_nil (t : Tx) : CmC t [] false 0 := .inl ⟨rfl, rfl, rfl⟩
theorem cm_other {t : Tx} {L : List Dl} {begun : Bool} {first : Int} (h : CmC t L begun first) (o : Cod) (ho : ¬ o.t = t) : CmC t (doC L o).1 begun first := by
  have e : stC t (doC L o).1 = stC t L := by unfold stC; rw [apart_fnd L o ho]
  unfold CmC at h ⊢; rw [e]; exact h
theorem cm_err {t : Tx} {L : List Dl} {begun : Bool} {first : Int} (h : CmC t L begun first) (o : Cod) (he : (doC L o).2.1 ≠ 0) : CmC t (doC L o).1 begun first := by
  rw [apart_err L o he]; exact h
/-- Begun. -/
theorem cm_begin {t : Tx} {L : List Dl} {begun : Bool} {first : Int} (h : CmC t L begun first) (o : Cod) (ho : o.t = t) (hk : o.kind = 5) (he : (doC L o).2.1 = 0) : CmC t (doC L o).1 true first := by
  subst ho
  unfold doC at he ⊢
  rw [if_pos hk] at he ⊢
  split at he
  · cases he
  rename_i hm
  rw [if_neg hm]
  split at he
  · rename_i d hf
    have hs : stC o.t L = some d.st := by rw [stC, hf]; rfl
    split at he
    · cases he
    rename_i h0
    have hd0 : d.st = 0 := by simpa using h0
    rw [if_neg h0]
    have hres : CmC o.t L true first := by
      rcases h with ⟨h1, _⟩ | ⟨h1, _, h3⟩ | ⟨h1, _⟩ | ⟨h1, _⟩
      · rw [hs] at h1; cases h1
      · exact .inr (.inl ⟨h1, rfl, h3⟩)
      · rw [hs, hd0] at h1; simp at h1
      · rw [hs, hd0] at h1; simp at h1
    split <;> exact hres
  · rename_i hf
    split at he
    · cases he
    rename_i hl
    rw [if_neg hl]
    have hs : stC o.t (L ++ [⟨o.t, o.parts, 0⟩]) = some 0 := by
      unfold stC; rw [fnd_app, hf, Option.none_or, fndC, if_pos rfl]; rfl
    rcases h with ⟨_, _, h3⟩ | ⟨h1, _⟩ | ⟨h1, _⟩ | ⟨h1, _⟩
    · exact .inr (.inl ⟨hs, rfl, h3⟩)
    all_goals rw [stC, hf] at h1; cases h1
/-- Decided, or asked for. -/
theorem cm_end {t : Tx} {L : List Dl} {begun : Bool} {first : Int} (h : CmC t L begun first) (o : Cod) (ho : o.t = t) (hk : o.kind = 6 ∨ o.kind = 7) (he : (doC L o).2.1 = 0) :
    ∀ f : Int, f = (if first = 0 then (if (o.cm && decide (o.kind = 6)) = true then 2 else 1) else first) → CmC t (doC L o).1 begun f ∧ (doC L o).2.2 = decide (f = 2) ∧ ((doC L o).2.2 = true → begun = true) := by
  subst ho
  intro f hf0
  unfold doC at he ⊢
  have k5 : ¬ o.kind = 5 := by omega
  have k6 : ¬ (o.kind ≠ 6 ∧ o.kind ≠ 7) := by omega
  rw [if_neg k5, if_neg k6] at he ⊢
  obtain ⟨b, hb⟩ : ∃ b, (o.cm && decide (o.kind = 6)) = b := ⟨_, rfl⟩
  rw [hb] at he hf0 ⊢
  split at he
  · rename_i hf
    split at he
    · cases he
    rename_i hc
    split at he
    · cases he
    rename_i hl
    rw [if_neg hc, if_neg hl]
    have hb0 : b = false := by simpa using hc
    have hs : stC o.t (L ++ [⟨o.t, [], 2⟩]) = some 2 := by
      unfold stC; rw [fnd_app, hf, Option.none_or, fndC, if_pos rfl]; rfl
    rcases h with ⟨_, _, h3⟩ | ⟨h1, _⟩ | ⟨h1, _⟩ | ⟨h1, _⟩
    · rw [h3, hb0] at hf0
      simp at hf0
      subst hf0
      exact ⟨.inr (.inr (.inr ⟨hs, rfl⟩)), rfl, fun h => by cases h⟩
    all_goals rw [stC, hf] at h1; cases h1
  · rename_i d hf
    have hs : stC o.t L = some d.st := by rw [stC, hf]; rfl
    have hst : stC o.t (setC o.t (endC d.st b) L) = some (endC d.st b) := by
      unfold stC; rw [fnd_set_same o.t _ hf]; rfl
    unfold CmC at h
    rw [hs] at h
    simp only
    rcases h with ⟨h1, _⟩ | ⟨h1, h2, h3⟩ | ⟨h1, h2, h3⟩ | ⟨h1, h3⟩
    · cases h1
    · have hd := Option.some.inj h1
      rw [h3] at hf0
      have e : endC d.st b = if b then 1 else 2 := by unfold endC; rw [if_pos hd]
      cases b
      · simp at hf0 e
        subst hf0
        rw [e] at hst ⊢
        exact ⟨.inr (.inr (.inr ⟨hst, rfl⟩)), rfl, fun _ => h2⟩
      · simp at hf0 e
        subst hf0
        rw [e] at hst ⊢
        exact ⟨.inr (.inr (.inl ⟨hst, h2, rfl⟩)), rfl, fun _ => h2⟩
    · have hd := Option.some.inj h1
      rw [h3] at hf0
      have e : endC d.st b = 1 := by unfold endC; rw [if_neg (by omega)]; exact hd
      simp at hf0
      subst hf0
      rw [e] at hst ⊢
      exact ⟨.inr (.inr (.inl ⟨hst, h2, rfl⟩)), rfl, fun _ => h2⟩
    · have hd := Option.some.inj h1
      rw [h3] at hf0
      have e : endC d.st b = 2 := by unfold endC; rw [if_neg (by omega)]; exact hd
      simp at hf0
      subst hf0
      rw [e] at hst ⊢
      exact ⟨.inr (.inr (.inr ⟨hst, rfl⟩)), rfl, fun h => by cases h⟩
end Go.Proofs.Ytohhkacnjhgamaa
