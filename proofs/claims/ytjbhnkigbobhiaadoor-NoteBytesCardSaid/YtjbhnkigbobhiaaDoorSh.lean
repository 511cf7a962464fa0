/- Entries laid one behind the other: append, as a run, at a step of a drawn region. -/
import Derived.Test.YtjbhnkigbobhiaaDoorSe
import Derived.ArgAppend
import Derived.Deep.Upon
import Derived.Deep.RegionWith
namespace Go.Proofs.YtjbhnkigbobhiaaDoor
open Go.RowKit

theorem esCells_len (L : List En) : (esCells L).length = L.length * 2 := by
  induction L with
  | nil => rfl
  | cons y L ih => simp only [esCells, List.flatMap_cons, List.length_append, List.length_cons] at ih ⊢; rw [ih]; simp [enCells]; omega
/-- The cells of entries in memory, as a row. -/
theorem ents_row {w : World} {b off : Nat} {L : List En} (h : Ents w (some ⟨b, off, none⟩) L) : ∀ j u, (esCells L)[j]? = some u → w.cell? ⟨b, off + j, none⟩ = some u := by
  intro j u hj
  have hlt := (List.getElem?_eq_some_iff.1 hj).1
  rw [esCells_len] at hlt
  obtain ⟨x, hx⟩ : ∃ x, L[j / 2]? = some x := ⟨_, List.getElem?_eq_getElem (by omega)⟩
  have e := esCells_at L (j / 2) x hx (j % 2) (by omega)
  rw [show j / 2 * 2 + j % 2 = j by omega, hj] at e
  obtain ⟨b', off', e1, _, c0, c1⟩ := h (j / 2) x hx
  cases e1
  have hcase : j % 2 = 0 ∨ j % 2 = 1 := by omega
  rcases hcase with h0 | h0
  · rw [show off + j = off + j / 2 * 2 by omega, c0]; simp only [h0] at e; simpa [enCells] using e.symm
  · rw [show off + j = off + j / 2 * 2 + 1 by omega, c1]; simp only [h0] at e; simpa [enCells] using e.symm
theorem oneEs (L : List En) : ∀ u ∈ esCells L, u.oneCell' = true := by
  intro u hu
  simp only [esCells, List.mem_flatMap] at hu
  obtain ⟨x, _, hx⟩ := hu
  simp only [enCells, List.mem_cons, List.not_mem_nil, or_false] at hx
  rcases hx with rfl | rfl <;> rfl
theorem addAny (b off j : Nat) : (⟨b, off, none⟩ : Addr).add j = ⟨b, off + j, none⟩ := Addr.add_lit ..
/-- At a step of a region that draws: an append whose run is known. -/
theorem step_app {w : World} {ops : Array Oper} {o : Oper} {a : Act} {K : Act → World → Prop} {Q : Exit → Act → World → Prop} {E : Prop} (hgd : o.guard = none) (s x : Operand) (t : TypeId)
    (ho : o.op = .call { callee := .builtin .append, args := #[s, x], argTypes := #[t, t] }) (vs vx : Value) (hs : a.eval s = vs) (hx : a.eval x = vx) (Post : Value → World → Prop)
    (hr : ∃ v' w', (Builtin.append_ #[t, t] o.type #[vs, vx]).run Tryd.prog w = .ok v' w' ∧ Post v' w') (h : ∀ v' w', Post v' w' → K (a.put o.dst v') w') :
    if Region.wanted o (yielded ops a.tmps) = true then Oper.wp Tryd.prog o a w K Q else E := by
  have hw : Region.wanted o (yielded ops a.tmps) = true := by simp [Region.wanted, hgd]
  rw [if_pos hw]
  obtain ⟨v', w', hr, hp⟩ := hr
  unfold Oper.wp execOp
  simp only [ho, resolve, invoke, builtin, Sem.run_bind, Sem.run_pure, Result.andThen_ok, List.map_toArray, List.map_cons, List.map_nil, hs, hx, hr]
  exact h v' w' hp
/-- A row that was just begun: nothing in it, or entries of the call's own. -/
def Cp (B : Nat) (w : World) (v : Value) (L : List En) : Prop := (L = [] ∧ ∃ b, v = .slice (some b) 0 0) ∨ w.ownsRow B 65 2 v L.length (esCells L)
theorem Cp.later {B : Nat} {w w' : World} {v : Value} {L : List En} (h : Cp B w v L) (hb : Below w.heap.size w w') : Cp B w' v L := by
  rcases h with h | h
  · exact .inl h
  · refine .inr (h.kept ⟨hb.os, hb.tape, hb.output, hb.size, fun k hk _ => hb.block k hk⟩ (row := none) ?_)
    rcases h1 : v.ownBlock with _ | g
    · exact .inl rfl
    · exact .inr (by simp)
/-- append(new, l...). -/
theorem app1 (B : Nat) (w : World) (ty : TypeId) (b : Addr) (a : Option Addr) (n c : Nat) (L : List En) (hE : Ents w a L) (hn : L.length = n) (hl : n ≤ 1024) (hB : B ≤ w.heap.size) :
    ∃ v' w', (Builtin.append_ #[32, 32] ty #[.slice (some b) 0 0, .slice a n c]).run Tryd.prog w = .ok v' w' ∧ (Cp B w' v' L ∧ Below w.heap.size w w') := by
  obtain ⟨i0, hi, hz0, hz1', hz2'⟩ := info_parts infoEntry
  rcases Nat.eq_zero_or_pos n with h0 | h0
  · subst h0
    have hL : L = [] := List.length_eq_zero_iff.1 hn
    subst hL
    have hs : Src Tryd.prog i0.size 32 (.slice a 0 c) 0 [] w := by
      cases a with
      | none => exact Src.ofNil w Tryd.underlying32 c
      | some p => exact Src.ofSlice w Tryd.underlying32 p 0 c [] (by simp) (by simp) (by simp)
    exact ⟨_, _, run_append_nothing w _ _ ty _ i0 Tryd.underlying32 hi (some b) 0 0 (Nat.le_refl _) _ hs, .inl ⟨rfl, b, rfl⟩, Below.refl _ _⟩
  · obtain ⟨x, hx⟩ : ∃ x, L[0]? = some x := ⟨_, List.getElem?_eq_getElem (by omega)⟩
    obtain ⟨b1, off, rfl, hb1, _, _⟩ := hE 0 x hx
    have hrow := ents_row hE
    obtain ⟨v', w', hr, hown, hg⟩ := run_append_arg_grows (P := Tryd.prog) w 32 ty 65 i0 _ 2 24 Tryd.underlying32 hi hz0 hz1' hz2' rfl (by decide) b 0 0 [] (by simp) (by simp)
      ⟨b1, off, none⟩ n c (esCells L) (by rw [esCells_len, hn]) (fun j u hj => by rw [addAny]; exact hrow j u hj) (by omega) (by unfold maxLen; omega) (by omega)
    refine ⟨v', w', hr, .inr ?_, ⟨hg.os, hg.tape, hg.output, hg.size, fun k hk => hg.block k hk (by simp)⟩⟩
    rw [hn]
    have hown' := owns_base hown hB
    simpa using hown'
/-- append(row, e): the row's own. -/
theorem app2 (B : Nat) (w : World) (ty : TypeId) (v : Value) (L : List En) (h : Cp B w v L) (hl : L.length ≤ 1024) (ad : Addr) (c : Nat) (x : En) (hnews : ∀ j u, (enCells x)[j]? = some u → w.cell? (ad.add j) = some u) (hB : B ≤ w.heap.size) :
    ∃ v' w', (Builtin.append_ #[32, 32] ty #[v, .slice (some ad) 1 c]).run Tryd.prog w = .ok v' w' ∧ (w'.ownsRow B 65 2 v' (L ++ [x]).length (esCells (L ++ [x])) ∧ Below B w w') := by
  obtain ⟨i0, hi, hz0, hz1', hz2'⟩ := info_parts infoEntry
  have h1 : ∀ u ∈ enCells x, u.oneCell' = true := by
    intro u hu
    simp only [enCells, List.mem_cons, List.not_mem_nil, or_false] at hu
    rcases hu with rfl | rfl <;> rfl
  rcases h with ⟨rfl, b, rfl⟩ | h
  · obtain ⟨v', w', hr, hown, hg⟩ := run_append_arg_grows (P := Tryd.prog) w 32 ty 65 i0 _ 2 24 Tryd.underlying32 hi hz0 hz1' hz2' rfl (by decide) b 0 0 [] (by simp) (by simp)
      ad 1 c (enCells x) rfl hnews (by omega) (by unfold maxLen; omega) (by omega)
    refine ⟨v', w', hr, ?_, (Below.refl _ _).grown hg hB (by simp)⟩
    have hown' := owns_base hown hB
    simpa [esCells] using hown'
  · obtain ⟨v', w', hr, hown, hg, _⟩ := run_append_own (P := Tryd.prog) w B 32 ty 65 i0 _ 2 24 Tryd.underlying32 hi hz0 hz1' hz2' rfl (by decide) v L.length (esCells L) h ad 1 c (enCells x) rfl hnews h1 (by unfold maxLen; omega) (by omega) hB
    refine ⟨v', w', hr, ?_, (Below.refl _ _).grown hg hB (fun k e => (h.lt k e).1)⟩
    rw [List.length_append, esCells_snoc]
    exact hown
end Go.Proofs.YtjbhnkigbobhiaaDoor
