/- Layer 12's laws in plain words: who is given a lock has it; who is wounded has none; all others have what they had. -/
import Derived.Test.YtfidgnhinllhlaaVo
namespace Go.Proofs.Ytfidgnhinllhlaa

theorem ask_err {L : List Ho} {t : Tx} {key : ByteArray} {wr : Bool} {firm : List Tx} (h : (askH L t key wr firm).2.2 ≠ 0) : (askH L t key wr firm).1 = L ∧ (askH L t key wr firm).2.1 = [] := by
  rcases ask_cases L t key wr firm with ⟨e, _, e1⟩ | ⟨e1, _⟩ | ⟨out, hw, ⟨hwr, _, e1⟩ | ⟨hno, e1⟩⟩
  · rw [e1]; exact ⟨rfl, rfl⟩
  · rw [e1]; exact ⟨rfl, rfl⟩
  · rw [e1] at h; exact absurd rfl h
  · rw [e1] at h; exact absurd rfl h
theorem ask_has {L : List Ho} {t : Tx} {key : ByteArray} {wr : Bool} {firm : List Tx} (h : (askH L t key wr firm).2.2 = 0) : hasH t key false (askH L t key wr firm).1 = true := by
  rw [hasH_iff]
  rcases ask_cases L t key wr firm with ⟨e, e0, e1⟩ | ⟨e1, x, h1, h2, h3, _⟩ | ⟨out, hw, ⟨hwr, ⟨x, h1, h2, h3, h4⟩, e1⟩ | ⟨hno, e1⟩⟩
  · rw [e1] at h; exact absurd h e0
  · rw [e1]; exact ⟨x, h1, h2, h3, by simp⟩
  · rw [e1]
    rcases raise_mem (t := t) (key := key) (mem_rest.2 ⟨h1, h4⟩) with h5 | ⟨_, _, h5⟩
    · exact ⟨x, h5, h2, h3, by simp⟩
    · exact ⟨_, h5, rfl, rfl, by simp⟩
  · rw [e1]; exact ⟨⟨key, t, wr⟩, by simp, rfl, rfl, by simp⟩
theorem drop_none {z : Tx} {M : List Ho} (h : ∀ y ∈ M, y.t ≠ z) : dropH z M = M := by
  unfold dropH
  exact List.filter_eq_self.2 (fun y hy => by simp [h y hy])
/-- Who is wounded: not firm, younger, without locks. -/
theorem ask_wound {L : List Ho} {t : Tx} {key : ByteArray} {wr : Bool} {firm : List Tx} {z : Tx} (h : z ∈ (askH L t key wr firm).2.1) : amT z firm = false ∧ eldT t z = true ∧ dropH z (askH L t key wr firm).1 = (askH L t key wr firm).1 := by
  rcases ask_cases L t key wr firm with ⟨e, e0, e1⟩ | ⟨e1, _⟩ | ⟨out, hw, ⟨hwr, _, e1⟩ | ⟨hno, e1⟩⟩
  · rw [e1] at h; simp at h
  · rw [e1] at h; simp at h
  · rw [e1] at h ⊢
    rcases (way_some L [] out hw).2.2 z h with e | ⟨g1, g2, g3, _⟩
    · simp at e
    refine ⟨g3, g2, drop_none fun y hy => ?_⟩
    obtain ⟨x, h1, _, h3, _⟩ := mem_raise hy
    intro e
    exact (mem_rest.1 h1).2 (by rw [h3, e]; exact h)
  · rw [e1] at h ⊢
    rcases (way_some L [] out hw).2.2 z h with e | ⟨g1, g2, g3, _⟩
    · simp at e
    refine ⟨g3, g2, drop_none fun y hy => ?_⟩
    rcases List.mem_append.1 hy with hy | hy
    · intro e; exact (mem_rest.1 hy).2 (by rw [e]; exact h)
    · obtain rfl : y = ⟨key, t, wr⟩ := by simpa using hy
      exact fun e => g1 e.symm
/-- All others have what they had. -/
theorem ask_others {L : List Ho} {t : Tx} {key : ByteArray} {wr : Bool} {firm : List Tx} {z : Tx} (hz : z ∉ (askH L t key wr firm).2.1) (hzt : z ≠ t) (k : ByteArray) (b : Bool) : hasH z k b (askH L t key wr firm).1 = hasH z k b L := by
  have key2 : ∀ M : List Ho, (∀ x : Ho, x.t = z → (x ∈ M ↔ x ∈ L)) → hasH z k b M = hasH z k b L := fun M hM => by
    rw [Bool.eq_iff_iff, hasH_iff, hasH_iff]
    constructor
    · rintro ⟨x, h1, h2, h3⟩
      exact ⟨x, (hM x h2).1 h1, h2, h3⟩
    · rintro ⟨x, h1, h2, h3⟩
      exact ⟨x, (hM x h2).2 h1, h2, h3⟩
  rcases ask_cases L t key wr firm with ⟨e, e0, e1⟩ | ⟨e1, _⟩ | ⟨out, hw, ⟨hwr, _, e1⟩ | ⟨hno, e1⟩⟩
  · rw [e1]
  · rw [e1]
  · rw [e1] at hz ⊢
    refine key2 _ fun x hx => ⟨fun h => ?_, fun h => ?_⟩
    · obtain ⟨y, h1, _, _, h4 | ⟨_, h5⟩⟩ := mem_raise h
      · rw [h4]; exact (mem_rest.1 h1).1
      · exact absurd (hx.symm.trans h5) hzt
    · rcases raise_mem (t := t) (key := key) (mem_rest.2 ⟨h, by rw [hx]; exact hz⟩) with h5 | ⟨h5, _⟩
      · exact h5
      · exact absurd (hx.symm.trans h5) hzt
  · rw [e1] at hz ⊢
    refine key2 _ fun x hx => ⟨fun h => ?_, fun h => ?_⟩
    · rcases List.mem_append.1 h with h | h
      · exact (mem_rest.1 h).1
      · obtain rfl : x = ⟨key, t, wr⟩ := by simpa using h
        exact absurd hx.symm hzt
    · exact List.mem_append.2 (.inl (mem_rest.2 ⟨h, by rw [hx]; exact hz⟩))
/-- How many there are at most. -/
theorem raise_len (t : Tx) (key : ByteArray) : ∀ M : List Ho, (raiseH t key M).length = M.length
  | [] => rfl
  | x :: r => by
    have := raise_len t key r
    simp only [raiseH]; split <;> simp [*]
theorem rest_len (out : List Tx) (L : List Ho) : (restH out L).length ≤ L.length := List.length_filter_le _ _
theorem ask_len (L : List Ho) (t : Tx) (key : ByteArray) (wr : Bool) (firm : List Tx) : (askH L t key wr firm).1.length ≤ L.length + 1 := by
  rcases ask_cases L t key wr firm with ⟨e, e0, e1⟩ | ⟨e1, _⟩ | ⟨out, hw, ⟨hwr, _, e1⟩ | ⟨hno, e1⟩⟩
  · rw [e1]; simp
  · rw [e1]; simp
  · rw [e1]; simp only; rw [raise_len]; have := rest_len out L; omega
  · rw [e1]; have := rest_len out L; simp; omega
end Go.Proofs.Ytfidgnhinllhlaa
