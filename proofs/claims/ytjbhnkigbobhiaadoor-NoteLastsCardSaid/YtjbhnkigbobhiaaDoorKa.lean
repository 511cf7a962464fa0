/- Entries laid one behind the other: append, as a run, at a step of a drawn region. -/
import Derived.Test.YtjbhnkigbobhiaaDoorSe
import Derived.ArgAppend
import Derived.Deep.Upon
import Derived.Deep.RegionWith
import Derived.Laws.IdiomCopy
import Derived.Deep.AppendLies
import Derived.Deep.MidRow
namespace Go.Proofs.YtjbhnkigbobhiaaDoor
open Go.RowKit

theorem esCells_len (L : List En) : (esCells L).length = L.length * 2 := by
  induction L with
  | nil => rfl
  | cons y L ih => simp only [esCells, List.flatMap_cons, List.length_append, List.length_cons] at ih ⊢; rw [ih]; simp [enCells]; omega
/-- The cells of entries in memory, as a row. -/
theorem ents_row {w : World} {b off : Nat} {L : List En} (h : Ents w (some ⟨b, off, none⟩) L) : ∀ j u, (esCells L)[j]? = some u → w.cell? ⟨b, off + j, none⟩ = some u := by
  intro j u hj
  have hlt := (List.getElem?_eq_some_iff.1 hj).1
  rw [esCells_len] at hlt
  obtain ⟨x, hx⟩ : ∃ x, L[j / 2]? = some x := ⟨_, List.getElem?_eq_getElem (by omega)⟩
  have e := esCells_at L (j / 2) x hx (j % 2) (by omega)
  rw [show j / 2 * 2 + j % 2 = j by omega, hj] at e
  obtain ⟨b', off', e1, _, c0, c1⟩ := h (j / 2) x hx
  cases e1
  have hcase : j % 2 = 0 ∨ j % 2 = 1 := by omega
  rcases hcase with h0 | h0
  · rw [show off + j = off + j / 2 * 2 by omega, c0]; simp only [h0] at e; simpa [enCells] using e.symm
  · rw [show off + j = off + j / 2 * 2 + 1 by omega, c1]; simp only [h0] at e; simpa [enCells] using e.symm
theorem oneEs (L : List En) : ∀ u ∈ esCells L, u.oneCell' = true := by
  intro u hu
  simp only [esCells, List.mem_flatMap] at hu
  obtain ⟨x, _, hx⟩ := hu
  simp only [enCells, List.mem_cons, List.not_mem_nil, or_false] at hx
  rcases hx with rfl | rfl <;> rfl
theorem addAny (b off j : Nat) : (⟨b, off, none⟩ : Addr).add j = ⟨b, off + j, none⟩ := Addr.add_lit ..
/-- At a step of a region that draws: an append whose run is known. -/
theorem step_app {w : World} {ops : Array Oper} {o : Oper} {a : Act} {K : Act → World → Prop} {Q : Exit → Act → World → Prop} {E : Prop} (hgd : o.guard = none) (s x : Operand) (t : TypeId)
    (ho : o.op = .call { callee := .builtin .append, args := #[s, x], argTypes := #[t, t] }) (vs vx : Value) (hs : a.eval s = vs) (hx : a.eval x = vx) (Post : Value → World → Prop)
    (hr : ∃ v' w', (Builtin.append_ #[t, t] o.type #[vs, vx]).run Tryd.prog w = .ok v' w' ∧ Post v' w') (h : ∀ v' w', Post v' w' → K (a.put o.dst v') w') :
    if Region.wanted o (yielded ops a.tmps) = true then Oper.wp Tryd.prog o a w K Q else E := by
  have hw : Region.wanted o (yielded ops a.tmps) = true := by simp [Region.wanted, hgd]
  rw [if_pos hw]
  obtain ⟨v', w', hr, hp⟩ := hr
  unfold Oper.wp execOp
  simp only [ho, resolve, invoke, builtin, Sem.run_bind, Sem.run_pure, Result.andThen_ok, List.map_toArray, List.map_cons, List.map_nil, hs, hx, hr]
  exact h v' w' hp
/-- A row that was just begun: nothing in it, or entries of the call's own. -/
def Cp (B : Nat) (w : World) (v : Value) (L : List En) : Prop := (L = [] ∧ ∃ b, v = .slice (some b) 0 0) ∨ w.ownsRow B 65 2 v L.length (esCells L)
theorem Cp.later {B : Nat} {w w' : World} {v : Value} {L : List En} (h : Cp B w v L) (hb : Below w.heap.size w w') : Cp B w' v L := by
  rcases h with h | h
  · exact .inl h
  · refine .inr (h.kept ⟨hb.os, hb.tape, hb.output, hb.size, fun k hk _ => hb.block k hk⟩ (row := none) ?_)
    rcases h1 : v.ownBlock with _ | g
    · exact .inl rfl
    · exact .inr (by simp)
/-- append(new, l...). -/
theorem app1 (B : Nat) (w : World) (ty : TypeId) (b : Addr) (a : Option Addr) (n c : Nat) (L : List En) (hE : Ents w a L) (hn : L.length = n) (hl : n ≤ 1024) (hB : B ≤ w.heap.size) :
    ∃ v' w', (Builtin.append_ #[32, 32] ty #[.slice (some b) 0 0, .slice a n c]).run Tryd.prog w = .ok v' w' ∧ (Cp B w' v' L ∧ Below w.heap.size w w') := by
  obtain ⟨i0, hi, hz0, hz1', hz2'⟩ := info_parts infoEntry
  rcases Nat.eq_zero_or_pos n with h0 | h0
  · subst h0
    have hL : L = [] := List.length_eq_zero_iff.1 hn
    subst hL
    have hs : Src Tryd.prog i0.size 32 (.slice a 0 c) 0 [] w := by
      cases a with
      | none => exact Src.ofNil w Tryd.underlying32 c
      | some p => exact Src.ofSlice w Tryd.underlying32 p 0 c [] (by simp) (by simp) (by simp)
    exact ⟨_, _, run_append_nothing w _ _ ty _ i0 Tryd.underlying32 hi (some b) 0 0 (Nat.le_refl _) _ hs, .inl ⟨rfl, b, rfl⟩, Below.refl _ _⟩
  · obtain ⟨x, hx⟩ : ∃ x, L[0]? = some x := ⟨_, List.getElem?_eq_getElem (by omega)⟩
    obtain ⟨b1, off, rfl, hb1, _, _⟩ := hE 0 x hx
    have hrow := ents_row hE
    obtain ⟨v', w', hr, hown, hg⟩ := run_append_arg_grows (P := Tryd.prog) w 32 ty 65 i0 _ 2 24 Tryd.underlying32 hi hz0 hz1' hz2' rfl (by decide) b 0 0 [] (by simp) (by simp)
      ⟨b1, off, none⟩ n c (esCells L) (by rw [esCells_len, hn]) (fun j u hj => by rw [addAny]; exact hrow j u hj) (by omega) (by unfold maxLen; omega) (by omega)
    refine ⟨v', w', hr, .inr ?_, ⟨hg.os, hg.tape, hg.output, hg.size, fun k hk => hg.block k hk (by simp)⟩⟩
    rw [hn]
    have hown' := owns_base hown hB
    simpa using hown'
/-- append(row, e): the row's own. -/
theorem app2 (B : Nat) (w : World) (ty : TypeId) (v : Value) (L : List En) (h : Cp B w v L) (hl : L.length ≤ 1024) (ad : Addr) (c : Nat) (x : En) (hnews : ∀ j u, (enCells x)[j]? = some u → w.cell? (ad.add j) = some u) (hB : B ≤ w.heap.size) :
    ∃ v' w', (Builtin.append_ #[32, 32] ty #[v, .slice (some ad) 1 c]).run Tryd.prog w = .ok v' w' ∧ (w'.ownsRow B 65 2 v' (L ++ [x]).length (esCells (L ++ [x])) ∧ Below B w w') := by
  obtain ⟨i0, hi, hz0, hz1', hz2'⟩ := info_parts infoEntry
  have h1 : ∀ u ∈ enCells x, u.oneCell' = true := by
    intro u hu
    simp only [enCells, List.mem_cons, List.not_mem_nil, or_false] at hu
    rcases hu with rfl | rfl <;> rfl
  rcases h with ⟨rfl, b, rfl⟩ | h
  · obtain ⟨v', w', hr, hown, hg⟩ := run_append_arg_grows (P := Tryd.prog) w 32 ty 65 i0 _ 2 24 Tryd.underlying32 hi hz0 hz1' hz2' rfl (by decide) b 0 0 [] (by simp) (by simp)
      ad 1 c (enCells x) rfl hnews (by omega) (by unfold maxLen; omega) (by omega)
    refine ⟨v', w', hr, ?_, (Below.refl _ _).grown hg hB (by simp)⟩
    have hown' := owns_base hown hB
    simpa [esCells] using hown'
  · obtain ⟨v', w', hr, hown, hg, _⟩ := run_append_own (P := Tryd.prog) w B 32 ty 65 i0 _ 2 24 Tryd.underlying32 hi hz0 hz1' hz2' rfl (by decide) v L.length (esCells L) h ad 1 c (enCells x) rfl hnews h1 (by unfold maxLen; omega) (by omega) hB
    refine ⟨v', w', hr, ?_, (Below.refl _ _).grown hg hB (fun k e => (h.lt k e).1)⟩
    rw [List.length_append, esCells_snoc]
    exact hown
end Go.Proofs.YtjbhnkigbobhiaaDoor
/- Entries of a call's own: a slice anywhere in a block that was made since, with room behind it. -/
namespace Go.Proofs.YtjbhnkigbobhiaaDoor
open Go.RowKit

/-- The slice a, c holds L, in a block from B on; its room may be written. -/
def Oe (B : Nat) (w : World) (a : Option Addr) (c : Nat) (L : List En) : Prop :=
  L.length ≤ c ∧ c ≤ maxLen ∧ ((a = none ∧ c = 0) ∨ ∃ g off, a = some ⟨g, off, none⟩ ∧ B ≤ g ∧ g < w.heap.size ∧
    (∀ j, j < c * 2 → (w.cell? ⟨g, off + j, none⟩).isSome = true ∧ w.frozen? ⟨g, off + j, none⟩ = false) ∧ ∀ j u, (esCells L)[j]? = some u → w.cell? ⟨g, off + j, none⟩ = some u)
theorem Oe.ents {B : Nat} {w : World} {a : Option Addr} {c : Nat} {L : List En} (h : Oe B w a c L) : Ents w a L := by
  obtain ⟨hl, _, h | ⟨g, off, rfl, _, hg, _, hc⟩⟩ := h
  · intro j x hx
    have := (List.getElem?_eq_some_iff.1 hx).1; omega
  · intro j x hx
    have c0 := esCells_at L j x hx 0 (by omega)
    have c1 := esCells_at L j x hx 1 (by omega)
    exact ⟨g, off, rfl, hg, by have := hc _ _ c0; simpa [enCells] using this, by have := hc _ _ c1; simpa [enCells, Nat.add_assoc] using this⟩
theorem Oe.mono {B B' : Nat} {w : World} {a : Option Addr} {c : Nat} {L : List En} (h : Oe B w a c L) (hb : B' ≤ B) : Oe B' w a c L := by
  obtain ⟨hl, hc, h⟩ := h
  refine ⟨hl, hc, h.imp id ?_⟩
  rintro ⟨g, off, e, hB, rest⟩
  exact ⟨g, off, e, Nat.le_trans hb hB, rest⟩
theorem Oe.nil (B : Nat) (w : World) : Oe B w none 0 [] := ⟨Nat.le_refl _, by decide, .inl ⟨rfl, rfl⟩⟩
/-- Where the slice lies. -/
theorem Oe.far {B : Nat} {w : World} {a : Option Addr} {c : Nat} {L : List En} (h : Oe B w a c L) : ∀ q, a = some q → B ≤ q.block ∧ q.block < w.heap.size := by
  obtain ⟨_, _, ⟨rfl, _⟩ | ⟨g, off, rfl, hB, hg, _, _⟩⟩ := h
  · intro q e; cases e
  · intro q e; cases e; exact ⟨hB, hg⟩
/-- Where the slice's block is as it was, it holds what it held. -/
theorem Oe.same {B : Nat} {w w' : World} {a : Option Addr} {c : Nat} {L : List En} (h : Oe B w a c L) (hs : w.heap.size ≤ w'.heap.size) (hb : ∀ q, a = some q → w'.heap[q.block]? = w.heap[q.block]?) : Oe B w' a c L := by
  obtain ⟨hl, hc, h | ⟨g, off, rfl, hB, hg, hs', hc'⟩⟩ := h
  · exact ⟨hl, hc, .inl h⟩
  · have e := hb _ rfl
    refine ⟨hl, hc, .inr ⟨g, off, rfl, hB, by omega, fun j hj => ?_, fun j u hu => ?_⟩⟩
    · rw [World.cell?_of_block (w := w) (a := ⟨g, off + j, none⟩) e, World.frozen?_of_block (w := w) (a := ⟨g, off + j, none⟩) e]; exact hs' j hj
    · rw [World.cell?_of_block (w := w) (a := ⟨g, off + j, none⟩) e]; exact hc' j u hu
theorem Oe.later {B : Nat} {w w' : World} {a : Option Addr} {c : Nat} {L : List En} (h : Oe B w a c L) (hb : Below w.heap.size w w') : Oe B w' a c L :=
  h.same hb.size fun q e => hb.block _ (h.far q e).2
theorem Oe.set {B : Nat} {w : World} {a : Option Addr} {c : Nat} {L : List En} (h : Oe B w a c L) {x : Nat} (hne : ∀ q, a = some q → q.block ≠ x) (o : Nat) (v : Value) : Oe B (w.setCell ⟨x, o, none⟩ v) a c L :=
  h.same (by simp) fun q e => Below.heap_setCell _ _ _ _ (hne q e)
theorem esCells_split (L : List En) (k : Nat) : esCells L = esCells (L.take k) ++ esCells (L.drop k) := by
  unfold esCells; rw [← List.flatMap_append, List.take_append_drop]
theorem size_setCs (b : Nat) : ∀ (vs : List Value) (o : Nat) (w : World), (w.setCells b o vs).heap.size = w.heap.size
  | [], _, _ => rfl
  | v :: r, o, w => by rw [World.setCells, size_setCs b r]; simp
theorem tape_setCs (b : Nat) : ∀ (vs : List Value) (o : Nat) (w : World), (w.setCells b o vs).tape = w.tape
  | [], _, _ => rfl
  | v :: r, o, w => by rw [World.setCells, tape_setCs b r]; rfl
/-- The first k entries. -/
theorem Oe.take {B : Nat} {w : World} {a : Option Addr} {c : Nat} {L : List En} (h : Oe B w a c L) (k : Nat) : Oe B w a c (L.take k) := by
  obtain ⟨hl, hc, h⟩ := h
  refine ⟨by rw [List.length_take]; omega, hc, h.imp id ?_⟩
  rintro ⟨g, off, rfl, hB, hg, hs, hc'⟩
  refine ⟨g, off, rfl, hB, hg, hs, fun j u hu => hc' j u ?_⟩
  have hr := (esCells_split L k).symm
  rw [← hr, List.getElem?_append_left (List.getElem?_eq_some_iff.1 hu).1]; exact hu
theorem esCells_drop (L : List En) (k : Nat) (hk : k ≤ L.length) (j : Nat) : (esCells (L.drop k))[j]? = (esCells L)[k * 2 + j]? := by
  rw [esCells_split L k]
  have hlen : (esCells (L.take k)).length = k * 2 := by rw [esCells_len, List.length_take]; congr 1; omega
  rw [List.getElem?_append_right (by omega), hlen]
  congr 1; omega
/-- The entries from k on: their address is one further, but where no room is left. -/
theorem Oe.drop {B : Nat} {w : World} {g off : Nat} {c : Nat} {L : List En} (h : Oe B w (some ⟨g, off, none⟩) c L) (k : Nat) (hk : k ≤ L.length) (off' : Nat) (ho : k < c → off' = off + k * 2) : Oe B w (some ⟨g, off', none⟩) (c - k) (L.drop k) := by
  obtain ⟨hl, hc, h⟩ := h
  rcases h with ⟨h, _⟩ | ⟨g', off2, e, hB, hg, hs, hc'⟩
  · cases h
  cases e
  refine ⟨by rw [List.length_drop]; omega, by omega, .inr ⟨g, off', rfl, hB, hg, fun j hj => ?_, fun j u hu => ?_⟩⟩
  · have := hs (k * 2 + j) (by omega)
    rw [ho (by omega), Nat.add_assoc]; exact this
  · have hj := (List.getElem?_eq_some_iff.1 hu).1
    rw [esCells_len, List.length_drop] at hj
    rw [esCells_drop L k hk] at hu
    have := hc' _ u hu
    rw [ho (by omega), Nat.add_assoc]; exact this
theorem Oe.ofOwn {B : Nat} {w : World} {v : Value} {L : List En} (h : w.ownsRow B 65 2 v L.length (esCells L)) : ∃ a c, v = .slice a L.length c ∧ Oe B w a c L := by
  rcases h.2 with ⟨rfl, h0⟩ | ⟨g, cap, cur, rfl, hB, hg, hn, hc, hsz, htake⟩
  · exact ⟨none, 0, by rw [h0], by omega, by decide, .inl ⟨rfl, rfl⟩⟩
  · refine ⟨_, cap, rfl, hn, hc, .inr ⟨g, 0, rfl, hB, lt_of_row hg, fun j hj => ?_, fun j u hu => ?_⟩⟩
    · rw [Nat.zero_add]
      refine ⟨?_, ?_⟩
      · rw [cell_of_row w g _ cur _ _ hg, Array.getElem?_eq_getElem (by omega)]; rfl
      · exact frozen_of_row _ _ _ _ _ hg
    · rw [Nat.zero_add, cell_of_row w g _ cur _ _ hg, ← Array.getElem?_toList]
      rw [← htake] at hu
      have hj := (List.getElem?_eq_some_iff.1 hu).1
      rw [List.length_take] at hj
      rwa [List.getElem?_take_of_lt (by omega)] at hu
/-- append(l, e): into the room, or all anew. -/
theorem app_oe (B : Nat) (w : World) (ty : TypeId) (a : Option Addr) (n c : Nat) (L : List En) (hn : L.length = n) (h : Oe B w a c L) (hl : n ≤ 1024) (ad : Addr) (cc : Nat) (x : En) (hnews : ∀ j u, (enCells x)[j]? = some u → w.cell? (ad.add j) = some u) (hB : B ≤ w.heap.size) :
    ∃ a' c' w' row, (Builtin.append_ #[32, 32] ty #[.slice a n c, .slice (some ad) 1 cc]).run Tryd.prog w = .ok (.slice a' (n + 1) c') w' ∧ Oe B w' a' c' (L ++ [x]) ∧ w.grownBy w' row ∧ (∀ g, row = some g → ∃ q, a = some q ∧ q.block = g) ∧ ∀ q, a' = some q → (∃ q0, a = some q0 ∧ q0.block = q.block) ∨ w.heap.size ≤ q.block := by
  obtain ⟨i0, hi, hz0, hz1', hz2'⟩ := info_parts infoEntry
  have h1 : ∀ u ∈ enCells x, u.oneCell' = true := by
    intro u hu
    simp only [enCells, List.mem_cons, List.not_mem_nil, or_false] at hu
    rcases hu with rfl | rfl <;> rfl
  have hlen2 : (L ++ [x]).length = n + 1 := by simp [hn]
  have hown : ∀ v' w', w'.ownsRow w.heap.size 65 2 v' (n + 1) (esCells L ++ enCells x) → ∃ a' c', v' = .slice a' (n + 1) c' ∧ Oe B w' a' c' (L ++ [x]) ∧ ∀ q, a' = some q → w.heap.size ≤ q.block := fun v' w' ho => by
    have ho' : w'.ownsRow w.heap.size 65 2 v' (L ++ [x]).length (esCells (L ++ [x])) := by rw [hlen2, esCells_snoc]; exact ho
    obtain ⟨a', c', e, ho2⟩ := Oe.ofOwn ho'
    exact ⟨a', c', by rw [e, hlen2], ho2.mono hB, fun q e => (ho2.far q e).1⟩
  obtain ⟨hlc, hcm, h | ⟨g, off, rfl, hBg, hg, hs, hc'⟩⟩ := h
  · obtain ⟨rfl, rfl⟩ := h
    have h0 : n = 0 := by omega
    subst h0
    have hL : L = [] := List.length_eq_zero_iff.1 hn
    subst hL
    obtain ⟨v', w', hr, ho, hgr, _⟩ := run_append_own (P := Tryd.prog) w w.heap.size 32 ty 65 i0 _ 2 24 Tryd.underlying32 hi hz0 hz1' hz2' rfl (by decide) _ 0 [] (World.ownsRow_nil w w.heap.size _ 2) ad 1 cc (enCells x) rfl hnews h1 (by unfold maxLen; omega) (by omega) (Nat.le_refl _)
    obtain ⟨a', c', rfl, ho2, hf⟩ := hown v' w' (by simpa [esCells] using ho)
    exact ⟨a', c', w', _, hr, ho2, hgr, (fun g e => by cases e), fun q e => .inr (hf q e)⟩
  · by_cases hroom : n + 1 ≤ c
    · have e2 : off + n * i0.size = off + n * 2 := by rw [hz1']
      have hsp : ∀ j, j < (enCells x).length → (w.cell? ⟨g, off + n * i0.size + j, none⟩).isSome = true ∧ w.frozen? ⟨g, off + n * i0.size + j, none⟩ = false := fun j hj => by
        rw [e2, Nat.add_assoc]; exact hs _ (by simp [enCells] at hj; omega)
      have hr := run_append_room_cells (P := Tryd.prog) w 32 ty 65 i0 Tryd.underlying32 hi g off n c ad 1 cc (enCells x) (by rw [hz1']; rfl) hnews h1 hroom (fun j hj => (hsp j hj).1) (fun j hj => (hsp j hj).2)
      rw [e2] at hr
      have hin := World.cell?_setCells_in g (enCells x) (off + n * 2) w (fun j hj => by have := (hsp j hj).1; rwa [e2] at this)
      refine ⟨_, c, _, some g, hr, ⟨by rw [hlen2]; omega, hcm, .inr ⟨g, off, rfl, hBg, ?_, fun j hj => ?_, fun j u hu => ?_⟩⟩, ⟨World.os_setCells _ _ _ _, tape_setCs _ _ _ _, World.output_setCells _ _ _ _, ?_, fun k hk hne => ?_⟩, (fun g' e => ⟨_, rfl, by cases e; rfl⟩), fun q e => .inl ⟨_, rfl, by cases e; rfl⟩⟩
      · rw [size_setCs]; exact hg
      · exact ⟨World.isSome_setCells _ _ _ _ _ (hs j hj).1, by rw [World.frozen?_setCells]; exact (hs j hj).2⟩
      · rw [esCells_snoc] at hu
        have hlc2 : (esCells L).length = n * 2 := by rw [esCells_len, hn]
        by_cases hj : j < n * 2
        · rw [List.getElem?_append_left (by omega)] at hu
          rw [World.cell?_setCells_out _ _ _ _ _ (fun _ _ => .inl (by simp only; omega))]
          exact hc' j u hu
        · rw [List.getElem?_append_right (by omega), hlc2] at hu
          have hj2 := (List.getElem?_eq_some_iff.1 hu).1
          have := hin (j - n * 2) hj2
          rw [show off + n * 2 + (j - n * 2) = off + j by omega] at this
          rw [this, ← hu, List.getElem?_eq_getElem hj2]
      · rw [size_setCs]; exact Nat.le_refl _
      · exact World.heap_setCells_other _ _ _ _ hk (fun e => hne (by rw [e]))
    · obtain ⟨v', w', hr, ho, hgr⟩ := run_append_arg_grows (P := Tryd.prog) w 32 ty 65 i0 _ 2 24 Tryd.underlying32 hi hz0 hz1' hz2' rfl (by decide) ⟨g, off, none⟩ n c (esCells L) (by rw [esCells_len, hn]) (fun j u hu => by rw [addAny]; exact hc' j u hu)
        ad 1 cc (enCells x) rfl hnews (by omega) (by unfold maxLen; omega) (by omega)
      obtain ⟨a', c', rfl, ho2, hf⟩ := hown v' w' ho
      exact ⟨a', c', w', _, hr, ho2, hgr, (fun g e => by cases e), fun q e => .inr (hf q e)⟩
end Go.Proofs.YtjbhnkigbobhiaaDoor
