/- append on entries: as a run, and at a step of a region that draws. -/
import Derived.Test.YtkifgjgjhjhknaaLy
import Derived.Deep.Upon
import Derived.Deep.RegionWith
import Derived.Deep.RegionLaw
import Derived.Deep.AppendLies
import Derived.Deep.RegionHeld3
namespace Go.Proofs.Ytkifgjgjhjhknaa
open Go.RowKit

/-- At a step of a region that draws: an append whose run is known. -/
theorem step_app {w : World} {ops : Array Oper} {o : Oper} {a : Act} {K : Act → World → Prop} {Q : Exit → Act → World → Prop} {E : Prop} (hgd : o.guard = none) (s x : Operand) (t : TypeId)
    (ho : o.op = .call { callee := .builtin .append, args := #[s, x], argTypes := #[t, t] }) (vs vx : Value) (hs : a.eval s = vs) (hx : a.eval x = vx) (Post : Value → World → Prop)
    (hr : ∃ v' w', (Builtin.append_ #[t, t] o.type #[vs, vx]).run Try.prog w = .ok v' w' ∧ Post v' w') (h : ∀ v' w', Post v' w' → K (a.put o.dst v') w') :
    if Region.wanted o (yielded ops a.tmps) = true then Oper.wp Try.prog o a w K Q else E := by
  have hw : Region.wanted o (yielded ops a.tmps) = true := by simp [Region.wanted, hgd]
  rw [if_pos hw]
  obtain ⟨v', w', hr, hp⟩ := hr
  unfold Oper.wp execOp
  simp only [ho, resolve, invoke, builtin, Sem.run_bind, Sem.run_pure, Result.andThen_ok, List.map_toArray, List.map_cons, List.map_nil, hs, hx, hr]
  exact h v' w' hp
/-- A row that is being laid: nothing in it (nil, or just begun), or entries of the call's own. -/
def Cq (B : Nat) (w : World) (v : Value) (L : List En) : Prop := (L = [] ∧ ∃ ao, v = .slice ao 0 0) ∨ w.ownsRow B 39 2 v L.length (esCells L)
theorem Cq.later {B : Nat} {w w' : World} {v : Value} {L : List En} (h : Cq B w v L) (hb : Below w.heap.size w w') : Cq B w' v L := by
  rcases h with h | h
  · exact .inl h
  · refine .inr (h.kept ⟨hb.os, hb.tape, hb.output, hb.size, fun k hk _ => hb.block k hk⟩ (row := none) ?_)
    rcases h1 : v.ownBlock with _ | g
    · exact .inl rfl
    · exact .inr (by simp)
theorem Cq.nil (B : Nat) (w : World) (ao : Option Addr) : Cq B w (.slice ao 0 0) [] := .inl ⟨rfl, ao, rfl⟩
theorem Cq.mono {B B' : Nat} {w : World} {v : Value} {L : List En} (h : Cq B w v L) (hB : B' ≤ B) : Cq B' w v L := h.imp id fun h => owns_mono' h hB
/-- Its form: a slice; its entries are there; its block is the call's own, or there is none in it. -/
theorem Cq.form {B : Nat} {w : World} {v : Value} {L : List En} (h : Cq B w v L) : ∃ a c, v = .slice a L.length c ∧ Ents w a L ∧ (0 < L.length → ∀ q, a = some q → B ≤ q.block) ∧ L.length ≤ c ∧ c ≤ maxLen := by
  rcases h with ⟨rfl, ao, rfl⟩ | h
  · exact ⟨ao, 0, rfl, Ents.nil _ _, fun h => by simp at h, Nat.le_refl _, by decide⟩
  · obtain ⟨a, c, e, hE, hf⟩ := ents_of_owns h
    refine ⟨a, c, e, hE, fun _ => hf, ?_⟩
    rcases h.2 with ⟨e2, h0⟩ | ⟨g, cap, cur, e2, _, _, hn, hm, _⟩
    · injection e2.symm.trans e with _ _ h3
      subst h3; exact ⟨by omega, by decide⟩
    · injection e2.symm.trans e with _ _ h3
      subst h3; exact ⟨hn, hm⟩
/-- append(row, entries...). -/
theorem app_row (B : Nat) (w : World) (ty : TypeId) (v : Value) (L : List En) (h : Cq B w v L) (a : Option Addr) (m c : Nat) (M : List En) (hm : M.length = m) (hM : Ents w a M) (hl : (L.length + m) * 24 ≤ 140737488355328) (hB : B ≤ w.heap.size) :
    ∃ v' w', (Builtin.append_ #[23, 23] ty #[v, .slice a m c]).run Try.prog w = .ok v' w' ∧ (Cq B w' v' (L ++ M) ∧ Below B w w') := by
  obtain ⟨i0, hi, hz0, hz1', hz2'⟩ := info_parts infoEntry
  rcases Nat.eq_zero_or_pos m with h0 | h0
  · subst h0
    have hM0 : M = [] := List.length_eq_zero_iff.1 hm
    subst hM0
    rw [List.append_nil]
    have hs : Src Try.prog i0.size 23 (.slice a 0 c) 0 [] w := by
      cases a with
      | none => exact Src.ofNil w Try.underlying23 c
      | some p => exact Src.ofSlice w Try.underlying23 p 0 c [] (by simp) (by simp) (by simp)
    have hv : ∃ ao n cap, v = .slice ao n cap ∧ n ≤ cap := by
      rcases h with ⟨_, ao, rfl⟩ | h
      · exact ⟨ao, 0, 0, rfl, Nat.le_refl _⟩
      · rcases h.2 with ⟨rfl, h0⟩ | ⟨g, cap, cur, rfl, _, _, hn, _⟩
        · exact ⟨none, 0, 0, rfl, Nat.le_refl _⟩
        · exact ⟨_, _, cap, rfl, hn⟩
    obtain ⟨ao, n, cap, rfl, hle⟩ := hv
    exact ⟨_, _, run_append_nothing w _ _ ty _ i0 Try.underlying23 hi ao n cap hle _ hs, h, Below.refl _ _⟩
  · obtain ⟨b1, off, rfl, hb1⟩ := hM.addr (by omega)
    have hrow := ents_row hM
    have hnews : ∀ j u, (esCells M)[j]? = some u → w.cell? ((⟨b1, off, none⟩ : Addr).add j) = some u := fun j u hj => by rw [addAny']; exact hrow j u hj
    have hlen : (esCells M).length = m * 2 := by rw [esCells_len, hm]
    rcases h with ⟨rfl, ao, rfl⟩ | h
    · cases ao with
      | none =>
        obtain ⟨v', w', hr, hown, hg, _⟩ := run_append_own (P := Try.prog) w B 23 ty 39 i0 _ 2 24 Try.underlying23 hi hz0 hz1' hz2' rfl (by decide) (.slice none 0 0) 0 [] (World.ownsRow_nil w B _ 2) ⟨b1, off, none⟩ m c (esCells M) hlen hnews (oneEs M) (by unfold maxLen; simp at hl; omega) (by simpa using hl) hB
        refine ⟨v', w', hr, .inr ?_, (Below.refl _ _).grown hg hB (by simp [Value.ownBlock])⟩
        simpa [hm] using hown
      | some b =>
        obtain ⟨v', w', hr, hown, hg⟩ := run_append_arg_grows (P := Try.prog) w 23 ty 39 i0 _ 2 24 Try.underlying23 hi hz0 hz1' hz2' rfl (by decide) b 0 0 [] (by simp) (by simp)
          ⟨b1, off, none⟩ m c (esCells M) hlen hnews (by omega) (by unfold maxLen; simp at hl; omega) (by simpa using hl)
        refine ⟨v', w', hr, .inr ?_, (Below.refl _ _).grown hg hB (by simp)⟩
        have hown' := owns_mono' hown hB
        simpa [hm] using hown'
    · obtain ⟨v', w', hr, hown, hg, _⟩ := run_append_own (P := Try.prog) w B 23 ty 39 i0 _ 2 24 Try.underlying23 hi hz0 hz1' hz2' rfl (by decide) v L.length (esCells L) h ⟨b1, off, none⟩ m c (esCells M) hlen hnews (oneEs M) (by unfold maxLen; omega) hl hB
      refine ⟨v', w', hr, .inr ?_, (Below.refl _ _).grown hg hB (fun k e => (h.lt k e).1)⟩
      rw [List.length_append, esCells_app, hm]
      exact hown
/-- Entries in a block that was made since w. -/
def NewP (w : World) (M : List En) (v' : Value) (w' : World) : Prop := ∃ g cap, v' = .slice (some ⟨g, 0, none⟩) M.length cap ∧ w.heap.size ≤ g ∧ M.length ≤ cap ∧ cap ≤ maxLen ∧ Ents w' (some ⟨g, 0, none⟩) M ∧ Below w.heap.size w w'
/-- append(list without room behind it, entries...): all anew, whoever has the list. -/
theorem app_full (w : World) (ty : TypeId) (a : Option Addr) (n : Nat) (L : List En) (hn : L.length = n) (hE : Ents w a L) (a2 : Option Addr) (m c : Nat) (M : List En) (hm : M.length = m) (hM : Ents w a2 M) (h0 : 0 < m) (hl : (n + m) * 24 ≤ 140737488355328) :
    ∃ v' w', (Builtin.append_ #[23, 23] ty #[.slice a n n, .slice a2 m c]).run Try.prog w = .ok v' w' ∧ NewP w (L ++ M) v' w' := by
  obtain ⟨i0, hi, hz0, hz1', hz2'⟩ := info_parts infoEntry
  have hown : ∀ v' w', w'.ownsRow w.heap.size 39 2 v' (n + m) (esCells L ++ esCells M) → w.grownBy w' none → NewP w (L ++ M) v' w' := fun v' w' ho hg => by
    have ho' : w'.ownsRow w.heap.size 39 2 v' (L ++ M).length (esCells (L ++ M)) := by rw [List.length_append, esCells_app, hn, hm]; exact ho
    have hlen : (L ++ M).length = n + m := by rw [List.length_append, hn, hm]
    obtain ⟨a', c', rfl, hE', _⟩ := ents_of_owns ho'
    rcases ho'.2 with ⟨_, h⟩ | ⟨g, cap, cur, e, hB, hg', hnc, hcm, _⟩
    · rw [hlen] at h; omega
    · cases e
      exact ⟨g, _, rfl, hB, hnc, hcm, hE', (Below.refl _ _).grown hg (Nat.le_refl _) (by simp)⟩
  obtain ⟨b1, off, rfl, hb1⟩ := hM.addr (by omega)
  have hrow := ents_row hM
  have hnews : ∀ j u, (esCells M)[j]? = some u → w.cell? ((⟨b1, off, none⟩ : Addr).add j) = some u := fun j u hj => by rw [addAny']; exact hrow j u hj
  have hlen : (esCells M).length = m * 2 := by rw [esCells_len, hm]
  cases a with
  | none =>
    have hn0 : n = 0 := by
      rcases Nat.eq_zero_or_pos n with h | h
      · exact h
      · obtain ⟨b, off, e, _⟩ := hE.addr (by omega); cases e
    subst hn0
    have hL0 : L = [] := List.length_eq_zero_iff.1 hn
    subst hL0
    obtain ⟨v', w', hr, ho, hg, _⟩ := run_append_own (P := Try.prog) w w.heap.size 23 ty 39 i0 _ 2 24 Try.underlying23 hi hz0 hz1' hz2' rfl (by decide) (.slice none 0 0) 0 [] (World.ownsRow_nil w _ _ 2) ⟨b1, off, none⟩ m c (esCells M) hlen hnews (oneEs M) (by unfold maxLen; omega) hl (Nat.le_refl _)
    exact ⟨v', w', hr, hown _ _ (by simpa [esCells] using ho) hg⟩
  | some b =>
    have holds : ∀ j u, (esCells L)[j]? = some u → w.cell? (b.add j) = some u := fun j u hj => by
      have hj2 := (List.getElem?_eq_some_iff.1 hj).1
      rw [esCells_len] at hj2
      obtain ⟨b2, off2, e, _⟩ := hE.addr (by omega)
      cases e
      rw [addAny']; exact ents_row hE j u hj
    obtain ⟨v', w', hr, ho, hg⟩ := run_append_arg_grows (P := Try.prog) w 23 ty 39 i0 _ 2 24 Try.underlying23 hi hz0 hz1' hz2' rfl (by decide) b n n (esCells L) (by rw [esCells_len, hn]) holds
      ⟨b1, off, none⟩ m c (esCells M) hlen hnews (by omega) (by unfold maxLen; omega) hl
    exact ⟨v', w', hr, hown _ _ ho hg⟩
/-- One entry in a new block of its own. -/
theorem ents_one (w : World) (m : Nat) (hm : m = w.heap.size) (t : Nat) (d : ByteArray) (T : TypeId) : Ents (w.alloc (.cells #[.int .u64 t, .string d] T)) (some ⟨m, 0, none⟩) [⟨t, d⟩] := fun j x hx => by
  have hj := (List.getElem?_eq_some_iff.1 hx).1
  have h0 : j = 0 := by simpa using hj
  subst h0 hm
  simp at hx
  subst hx
  exact ⟨_, 0, rfl, by simp, by simp [go_sem], by simp [go_sem]⟩
end Go.Proofs.Ytkifgjgjhjhknaa
