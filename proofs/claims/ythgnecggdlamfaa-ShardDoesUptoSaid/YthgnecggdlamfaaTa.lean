/- Rows of elements of any shape at the head of a block of one's own: stores, clear, copy. -/
import Derived.Test.YthgnecggdlamfaaVd
import Derived.Shelf.Spec.SlicesInsertGrow
import Derived.RegionTactic
import Derived.Deep.RegionLaw
import Derived.Laws.IdiomCopy
import Derived.Test.YthgnecggdlamfaaYl
namespace Go.Proofs.Ythgnecggdlamfaa
open Go.RowKit Go.Lib

/-- A row at the head of a block of n places. -/
structure Hd {α : Type} (E : TypeId) (k : Nat) (f : α → List Value) (w : World) (g n : Nat) (C : List α) : Prop where
  c : ∀ j x, C[j]? = some x → ∀ i u, (f x)[i]? = some u → w.cell? ⟨g, j * k + i, none⟩ = some u
  le : C.length ≤ n
  lt : g < w.heap.size
  ty : ∃ cur, w.heap[g]? = some (.cells cur E (0, 0)) ∧ cur.size = n * k
theorem hd_setCell {T : TypeId} {g N : Nat} {w : World} (h : ∃ cur, w.heap[g]? = some (.cells cur T (0, 0)) ∧ cur.size = N) (o : Nat) (v : Value) : ∃ cur, (w.setCell ⟨g, o, none⟩ v).heap[g]? = some (.cells cur T (0, 0)) ∧ cur.size = N := by
  obtain ⟨cur, h1, h2⟩ := h
  refine ⟨cur.setIfInBounds o v, ?_, by simpa using h2⟩
  simp only [World.setCell, Array.getElem?_modify, h1]
  simp
theorem hd_setCells {T : TypeId} {g N : Nat} : ∀ (vs : List Value) (o : Nat) (w : World), (∃ cur, w.heap[g]? = some (.cells cur T (0, 0)) ∧ cur.size = N) → ∃ cur, (w.setCells g o vs).heap[g]? = some (.cells cur T (0, 0)) ∧ cur.size = N
  | [], _, _, h => h
  | v :: r, o, w, h => hd_setCells r (o + 1) (w.setCell ⟨g, o, none⟩ v) (hd_setCell h o v)
theorem sc_trans {w w1 w2 : World} {g : Nat} (h1 : w.grownBy w1 (some g)) (h2 : w1.grownBy w2 (some g)) : w.grownBy w2 (some g) :=
  ⟨h2.os.trans h1.os, h2.tape.trans h1.tape, h2.output.trans h1.output, Nat.le_trans h1.size h2.size, fun k hk hne => (h2.block k (Nat.lt_of_lt_of_le hk h1.size) hne).trans (h1.block k hk hne)⟩
theorem sc_one (w : World) (g o : Nat) (v : Value) : w.grownBy (w.setCell ⟨g, o, none⟩ v) (some g) := by
  refine ⟨rfl, rfl, rfl, by simp, fun k hk hne => ?_⟩
  simp only [World.setCell, Array.getElem?_modify]
  rw [if_neg (fun e => hne (by rw [e]))]
theorem sc_grown {g : Nat} : ∀ (vs : List Value) (o : Nat) (w : World), w.grownBy (w.setCells g o vs) (some g)
  | [], _, _ => ⟨rfl, rfl, rfl, Nat.le_refl _, fun _ _ _ => rfl⟩
  | v :: r, o, w => sc_trans (sc_one w g o v) (sc_grown r (o + 1) (w.setCell ⟨g, o, none⟩ v))
theorem sc_size {g : Nat} : ∀ (vs : List Value) (o : Nat) (w : World), (w.setCells g o vs).heap.size = w.heap.size
  | [], _, _ => rfl
  | v :: r, o, w => by rw [World.setCells, sc_size r]; simp
section
variable {α : Type} {k bs n g : Nat} {f : α → List Value} {w : World} {C : List α} {T E : TypeId} {z : Value}
theorem Hd.has (h : Hd E k f w g n C) {j : Nat} (hj : j < n * k) : (w.cell? ⟨g, j, none⟩).isSome = true := by
  obtain ⟨cur, h1, h2⟩ := h.ty
  rw [cell_of_row w g _ cur _ _ h1, Array.getElem?_eq_getElem (by omega)]; rfl
theorem Hd.fz (h : Hd E k f w g n C) (o : Nat) : w.frozen? ⟨g, o, none⟩ = false := by
  obtain ⟨cur, h1, _⟩ := h.ty
  simp [World.frozen?, h1]
theorem Hd.shape (h : Hd E k f w g n C) : w.shape? g = some (E, n * k) := by
  obtain ⟨cur, h1, h2⟩ := h.ty
  simp [World.shape?, h1, h2]
theorem Hd.row (h : Hd E k f w g n C) : Rw k f w (some ⟨g, 0, none⟩) C := fun j x hx => ⟨g, 0, rfl, h.lt, fun i u hu => by rw [Nat.zero_add]; exact h.c j x hx i u hu⟩
theorem Hd.later {w' : World} (h : Hd E k f w g n C) (hb : Below w.heap.size w w') : Hd E k f w' g n C :=
  ⟨fun j x hx i u hu => (hb.cell (p := ⟨g, j * k + i, none⟩) h.lt).trans (h.c j x hx i u hu), h.le, Nat.lt_of_lt_of_le h.lt hb.size, by rw [hb.block g h.lt]; exact h.ty⟩
theorem Hd.of (R : RowT T E k bs z f) {B : Nat} {v : Value} (h : Cq E k f B w v C) (h0 : 0 < C.length) : ∃ g c, v = .slice (some ⟨g, 0, none⟩) C.length c ∧ B ≤ g ∧ C.length ≤ c ∧ c ≤ maxLen ∧ Hd E k f w g c C := by
  rcases h with ⟨rfl, _⟩ | h
  · simp at h0
  · rcases h.2 with ⟨_, e⟩ | ⟨g, cap, cur, e1, hB, hg, hn, hm, hs, htake⟩
    · omega
    · subst e1
      refine ⟨g, cap, rfl, hB, hn, hm, ⟨fun j x hx i u hu => ?_, hn, (Array.getElem?_eq_some_iff.1 hg).1, ⟨cur, hg, hs⟩⟩⟩
      rw [cell_of_row w g _ cur _ _ hg, ← Array.getElem?_toList]
      have h1 := rwC_at R.len C j x hx i u hu
      have hj := (List.getElem?_eq_some_iff.1 h1).1
      rw [rwC_len R.len] at hj
      rw [← htake, List.getElem?_take_of_lt (by omega)] at h1
      exact h1
/-- A row is the call's own: the other way. -/
theorem Hd.cq (R : RowT T E k bs z f) (h : Hd E k f w g n C) {B : Nat} (hB : B ≤ g) (hm : n ≤ maxLen) : Cq E k f B w (.slice (some ⟨g, 0, none⟩) C.length n) C := by
  obtain ⟨cur, h1, h2⟩ := h.ty
  have hle := h.le
  refine .inr ⟨rwC_len R.len C, .inr ⟨g, n, cur, rfl, hB, h1, h.le, hm, h2, ?_⟩⟩
  have hlk : C.length * k ≤ n * k := Nat.mul_le_mul_right k hle
  apply List.ext_getElem?
  intro t
  by_cases ht : t < C.length * k
  · rw [List.getElem?_take_of_lt ht, Array.getElem?_toList]
    have := rw_row R.len R.kp h.row t ((rwC f C)[t]'(by rw [rwC_len R.len]; exact ht)) (List.getElem?_eq_getElem _)
    rw [Nat.zero_add, cell_of_row w g _ cur _ _ h1] at this
    rw [this, List.getElem?_eq_getElem (by rw [rwC_len R.len]; exact ht)]
  · rw [List.getElem?_eq_none (by simp; omega), List.getElem?_eq_none (by rw [rwC_len R.len]; omega)]
/-- One element stored. -/
theorem Hd.put (R : RowT T E k bs z f) (h : Hd E k f w g n C) {i : Nat} (hi : i < C.length) (y : α) : Hd E k f (w.setCells g (i * k) (f y)) g n (C.set i y) := by
  have hle := h.le
  have hin : i * k + k ≤ n * k := by rw [show i * k + k = (i + 1) * k by rw [Nat.add_mul]; omega]; exact Nat.mul_le_mul_right k (by omega)
  have hfl := R.len y
  refine ⟨fun j x hx t u hu => ?_, by rw [List.length_set]; exact hle, by rw [sc_size]; exact h.lt, hd_setCells _ _ _ h.ty⟩
  have htl := (List.getElem?_eq_some_iff.1 hu).1
  rw [R.len] at htl
  rw [List.getElem?_set] at hx
  by_cases e : i = j
  · subst e
    rw [if_pos rfl, if_pos hi] at hx
    obtain rfl : y = x := Option.some.inj hx
    rw [World.cell?_setCells_in g (f y) (i * k) w (fun a ha => h.has (by omega)) t (by omega)]
    rw [List.getElem?_eq_getElem (by omega)] at hu; exact hu
  · rw [if_neg e] at hx
    rw [World.cell?_setCells_out g _ _ _ _ (fun _ _ => by
      rcases Nat.lt_or_gt_of_ne e with h1 | h1
      · right
        have : (i + 1) * k ≤ j * k := Nat.mul_le_mul_right k h1
        rw [Nat.add_mul, Nat.one_mul] at this
        simp only; omega
      · left
        have : (j + 1) * k ≤ i * k := Nat.mul_le_mul_right k h1
        rw [Nat.add_mul, Nat.one_mul] at this
        simp only; omega)]
    exact h.c j x hx t u hu
theorem zeros_oneH (R : RowT T E k bs z f) (h1 : ∀ u ∈ z.cells.toList, u.oneCell' = true) (m : Nat) : ∀ v ∈ (Builtin.zeroCells z.cells m).toList, v.oneCell' = true := by
  intro v hv
  simp only [Builtin.zeroCells, Array.toList_map, List.mem_map] at hv
  obtain ⟨i, _, rfl⟩ := hv
  have hk := R.kp
  have hz := R.zs
  have hi : i % z.cells.size < z.cells.size := Nat.mod_lt _ (by omega)
  rw [getElem!_pos z.cells _ hi]
  exact h1 _ (by simp)
theorem zeros_lenH (R : RowT T E k bs z f) (m : Nat) : (Builtin.zeroCells z.cells m).toList.length = m * k := by
  have := R.zs
  simp [Builtin.zeroCells, this]
/-- clear(row[i:]). -/
theorem clearH (R : RowT T E k bs z f) (h1 : ∀ u ∈ z.cells.toList, u.oneCell' = true) (hv : ∀ w, (zeroValue E).run Try.prog w = .ok z w) (h : Hd E k f w g n C) {i m c : Nat} (hm : C.length = i + m) :
    ∃ w', (∀ ty, (Builtin.clear_ #[T] ty #[.slice (some ⟨g, i * k, none⟩) m c]).run Try.prog w = .ok (.tuple #[]) w') ∧ w.grownBy w' (some g) ∧ Hd E k f w' g n (C.take i) := by
  have hle := h.le
  cases m with
  | zero => exact ⟨w, fun ty => by simp [Builtin.clear_, run_underlying R.und], ⟨rfl, rfl, rfl, Nat.le_refl _, fun _ _ _ => rfl⟩, by rw [List.take_of_length_le (by omega)]; exact h⟩
  | succ m =>
    have hin : i * k + (m + 1) * k ≤ n * k := by rw [← Nat.add_mul]; exact Nat.mul_le_mul_right k (by omega)
    have hst := run_storeCells_cells (P := Try.prog) g (i * k) (Builtin.zeroCells z.cells (m + 1)).toList 0 w (by rw [zeros_lenH R]; intro j hj; rw [Nat.add_zero]; exact h.has (by omega)) (fun j _ => h.fz _) (zeros_oneH R h1 _)
    simp only [Nat.add_zero] at hst
    refine ⟨w.setCells g (i * k) (Builtin.zeroCells z.cells (m + 1)).toList, fun ty => by simp [Builtin.clear_, run_underlying R.und, hv, hst], sc_grown _ _ _, ⟨fun j x hx t u hu => ?_, by rw [List.length_take]; omega, by rw [sc_size]; exact h.lt, hd_setCells _ _ _ h.ty⟩⟩
    have hj := (List.getElem?_eq_some_iff.1 hx).1
    rw [List.length_take] at hj
    rw [List.getElem?_take_of_lt (by omega)] at hx
    have htl := (List.getElem?_eq_some_iff.1 hu).1
    rw [R.len] at htl
    have hji : (j + 1) * k ≤ i * k := Nat.mul_le_mul_right k (by omega)
    rw [Nat.add_mul, Nat.one_mul] at hji
    rw [World.cell?_setCells_out g _ _ _ _ (fun _ _ => .inl (by simp only; omega))]
    exact h.c j x hx t u hu
end
/-- copy of rows: all is read before anything is written. -/
theorem run_copy_rows {P : Program} (w : World) (dT sT ty elem : TypeId) (k b o dLen dCap : Nat) (a : Addr) (sLen sCap m : Nat) (cs : List Value)
    (hu : P.underlying dT = some (.slice elem)) (hs : (P.info? elem).map (·.size) = some k) (hm : m = Nat.min sLen dLen) (hn : cs.length = m * k)
    (hsrc : ∀ j v, cs[j]? = some v → w.cell? (a.add j) = some v) (hc : ∀ j, j < cs.length → (w.cell? ⟨b, o + j, none⟩).isSome = true) (hf : ∀ j, j < cs.length → w.frozen? ⟨b, o + j, none⟩ = false) (h1 : ∀ v ∈ cs, v.oneCell' = true) :
    (Builtin.copy_ #[dT, sT] ty #[.slice (some ⟨b, o, none⟩) dLen dCap, .slice (some a) sLen sCap]).run P w = .ok (goInt m) (w.setCells b o cs) := by
  have hl := run_loadCells_list (P := P) w a cs hsrc
  have hst := run_storeCells_cells (P := P) b o cs 0 w (by simpa using hc) (by simpa using hf) h1
  subst hm
  rw [hn] at hl
  cases hq : P.info? elem with
  | none => simp [hq] at hs
  | some i =>
    have hi : i.size = k := by simpa [hq] using hs
    simp [Builtin.copy_, run_underlying hu, Builtin.lenOf, Builtin.firstCells, sizeOf, typeInfo, hq, hi, hl, hst]
end Go.Proofs.Ythgnecggdlamfaa
/- What a store in one block keeps; append with the block that it may write; open transactions, ended ones as rows. -/
namespace Go.Proofs.Ythgnecggdlamfaa
open Go.RowKit

/-- A list that lies in another block. -/
def NB (a : Option Addr) (n g : Nat) : Prop := 0 < n → ∀ q, a = some q → q.block ≠ g
theorem NB.lt {a : Option Addr} {n g B : Nat} (h : 0 < n → ∀ q, a = some q → q.block < B) (hg : B ≤ g) : NB a n g := fun h0 q hq => by have := h h0 q hq; omega
theorem NB.ge {a : Option Addr} {n g B : Nat} (h : 0 < n → ∀ q, a = some q → B ≤ q.block) (hg : g < B) : NB a n g := fun h0 q hq => by have := h h0 q hq; omega
section
variable {α : Type} {k : Nat} {f : α → List Value} {w w' : World} {a : Option Addr} {L : List α}
theorem rw_lt (h : Rw k f w a L) : 0 < L.length → ∀ q, a = some q → q.block < w.heap.size := by
  intro h0 q hq
  obtain ⟨b, off, e, hb, _⟩ := h 0 L[0] (List.getElem?_eq_getElem h0)
  rw [hq] at e
  cases e
  exact hb
theorem rw_grown (h : Rw k f w a L) {g : Nat} (hg : w.grownBy w' (some g)) (hn : NB a L.length g) : Rw k f w' a L := by
  intro j x hx
  obtain ⟨b, off, e, hb, c⟩ := h j x hx
  have hj := (List.getElem?_eq_some_iff.1 hx).1
  have hne : b ≠ g := hn (by omega) _ e
  exact ⟨b, off, e, Nat.lt_of_lt_of_le hb hg.size, fun i u hu => (World.cell?_of_block (a := ⟨b, off + j * k + i, none⟩) (hg.block b hb (by simpa using hne))).trans (c i u hu)⟩
theorem rw_none (h : Rw k f w a L) (hg : w.grownBy w' none) : Rw k f w' a L := h.later ⟨hg.os, hg.tape, hg.output, hg.size, fun k hk => hg.block k hk (by simp)⟩
end
section
variable {α : Type} {T E : TypeId} {k bs : Nat} {z : Value} {f : α → List Value} {B : Nat} {w : World} {v : Value} {L : List α}
/-- append(row, list...), and which block it may write. -/
theorem app_rwG (R : RowT T E k bs z f) (B : Nat) (w : World) (ty : TypeId) (v : Value) (L : List α) (h : Cq E k f B w v L) (a : Option Addr) (m c : Nat) (M : List α) (hm : M.length = m) (hM : Rw k f w a M) (hl : (L.length + m) * bs ≤ 140737488355328) (hB : B ≤ w.heap.size) :
    ∃ v' w', (Builtin.append_ #[T, T] ty #[v, .slice a m c]).run Try.prog w = .ok v' w' ∧ (Cq E k f B w' v' (L ++ M) ∧ (m = 0 → v' = v ∧ w' = w) ∧ ∃ r, w.grownBy w' r ∧ ∀ g, r = some g → B ≤ g ∧ ∃ n' c', v = .slice (some ⟨g, 0, none⟩) n' c') := by
  obtain ⟨i0, hi, hz0, hz1', hz2'⟩ := info_parts R.info
  rcases Nat.eq_zero_or_pos m with h0 | h0
  · subst h0
    have hM0 : M = [] := List.length_eq_zero_iff.1 hm
    subst hM0
    rw [List.append_nil]
    have hs : Src Try.prog i0.size T (.slice a 0 c) 0 [] w := by
      cases a with
      | none => exact Src.ofNil w R.und c
      | some p => exact Src.ofSlice w R.und p 0 c [] (by simp) (by simp) (by simp)
    have hv : ∃ ao n cap, v = .slice ao n cap ∧ n ≤ cap := by
      rcases h with ⟨_, ao, rfl⟩ | h
      · exact ⟨ao, 0, 0, rfl, Nat.le_refl _⟩
      · rcases h.2 with ⟨rfl, h0⟩ | ⟨g, cap, cur, rfl, _, _, hn, _⟩
        · exact ⟨none, 0, 0, rfl, Nat.le_refl _⟩
        · exact ⟨_, _, cap, rfl, hn⟩
    obtain ⟨ao, n, cap, rfl, hle⟩ := hv
    exact ⟨_, _, run_append_nothing w _ _ ty _ i0 R.und hi ao n cap hle _ hs, h, fun _ => ⟨rfl, rfl⟩, none, ⟨rfl, rfl, rfl, Nat.le_refl _, fun _ _ _ => rfl⟩, fun g e => by cases e⟩
  · obtain ⟨b1, off, rfl, hb1⟩ := hM.addr (by omega)
    have hrow := rw_row R.len R.kp hM
    have hnews : ∀ j u, (rwC f M)[j]? = some u → w.cell? ((⟨b1, off, none⟩ : Addr).add j) = some u := fun j u hj => by rw [addAny']; exact hrow j u hj
    have hlen : (rwC f M).length = m * k := by rw [rwC_len R.len, hm]
    have hmx := maxLen_of R.bp hl
    rcases h with ⟨rfl, ao, rfl⟩ | h
    · simp only [List.length_nil, Nat.zero_add] at hl hmx
      cases ao with
      | none =>
        obtain ⟨v', w', hr, hown, hg, _⟩ := run_append_own (P := Try.prog) w B T ty E i0 _ k bs R.und hi hz0 hz1' hz2' R.zs R.kp (.slice none 0 0) 0 [] (World.ownsRow_nil w B _ k) ⟨b1, off, none⟩ m c (rwC f M) hlen hnews (oneRw R M) (by simpa using hmx) (by simpa using hl) hB
        refine ⟨v', w', hr, .inr ?_, fun h => by omega, _, hg, fun g e => by simp [Value.ownBlock] at e⟩
        simpa [hm] using hown
      | some b =>
        obtain ⟨v', w', hr, hown, hg⟩ := run_append_arg_grows (P := Try.prog) w T ty E i0 _ k bs R.und hi hz0 hz1' hz2' R.zs R.kp b 0 0 [] (by simp) (by simp)
          ⟨b1, off, none⟩ m c (rwC f M) hlen hnews (by omega) (by simpa using hmx) (by simpa using hl)
        refine ⟨v', w', hr, .inr ?_, fun h => by omega, _, hg, fun g e => by simp at e⟩
        have hown' := owns_less hown hB
        simpa [hm] using hown'
    · obtain ⟨v', w', hr, hown, hg, _⟩ := run_append_own (P := Try.prog) w B T ty E i0 _ k bs R.und hi hz0 hz1' hz2' R.zs R.kp v L.length (rwC f L) h ⟨b1, off, none⟩ m c (rwC f M) hlen hnews (oneRw R M) hmx hl hB
      refine ⟨v', w', hr, .inr ?_, fun h => by omega, _, hg, fun g e => ⟨(h.lt g e).1, ?_⟩⟩
      · rw [List.length_append, rwC_app, hm]
        exact hown
      · rcases h.2 with ⟨rfl, _⟩ | ⟨g', cap, cur, rfl, _⟩
        · simp [Value.ownBlock] at e
        · simp only [Value.ownBlock, Option.some.injEq] at e
          subst e
          exact ⟨_, _, rfl⟩
/-- A store in another block keeps a row of one's own. -/
theorem Cq.grownT (_ : RowT T E k bs z f) (h : Cq E k f B w v L) {w' : World} {g : Nat} (hg : w.grownBy w' (some g)) (hn : ∀ n c, v ≠ .slice (some ⟨g, 0, none⟩) n c) : Cq E k f B w' v L := by
  rcases h with h | h
  · exact .inl h
  · refine .inr (h.kept hg ?_)
    rcases h.2 with ⟨rfl, _⟩ | ⟨g', cap, cur, rfl, _⟩
    · exact .inl (by simp [Value.ownBlock])
    · refine .inr ?_
      simp only [Value.ownBlock]
      intro e
      cases e
      exact hn _ _ rfl
end
/-- append(E{}, list...), as Clone does it. -/
theorem app_new {α : Type} {T E : TypeId} {k bs : Nat} {z : Value} {f : α → List Value} (R : RowT T E k bs z f) (w : World) (ty : TypeId) (p : Addr) (m c : Nat) (M : List α) (hm : M.length = m) (hM : Rw k f w (some p) M) (hl : m * bs ≤ 140737488355328) :
    ∃ v' w', (Builtin.append_ #[T, T] ty #[.slice (some ⟨w.heap.size, 0, none⟩) 0 0, .slice (some p) m c]).run Try.prog (w.alloc (.cells #[] E)) = .ok v' w' ∧ Cq E k f w.heap.size w' v' M ∧ Below w.heap.size w w' ∧ ∀ q n c, v' = .slice (some q) n c → w.heap.size ≤ q.block ∧ q.block < w'.heap.size := by
  have B0 : Below w.heap.size w (w.alloc (.cells #[] E)) := (Below.refl _ _).alloc (Nat.le_refl _) _
  obtain ⟨v', w', hr, hc, h0, r, hg, hr2⟩ := app_rwG R w.heap.size (w.alloc (.cells #[] E)) ty (.slice (some ⟨w.heap.size, 0, none⟩) 0 0) [] (Cq.nil _ _ _) (some p) m c M hm (hM.later B0) (by simpa using hl) (by simp)
  rw [List.nil_append] at hc
  have hb : Below w.heap.size w w' := B0.grown hg (by simp) (fun g e => (hr2 g e).1)
  refine ⟨v', w', hr, hc, hb, fun q n c e => ?_⟩
  rcases Nat.eq_zero_or_pos m with h | h
  · obtain ⟨e1, e2⟩ := h0 h
    rw [e1] at e
    injection e with e _ _
    injection e with e
    subst e
    rw [e2]
    exact ⟨Nat.le_refl _, by simp⟩
  · obtain ⟨a', c', e2, hR, h2, _⟩ := hc.form R
    rw [e] at e2
    injection e2 with e2 _ _
    subst e2
    exact ⟨h2 (by omega) _ rfl, rw_lt hR (by omega) _ rfl⟩
/-- What Clone answers: a row of its own, where it lies. -/
def ClQ {α : Type} (E : TypeId) (k : Nat) (f : α → List Value) (w : World) (L : List α) (e : Ending) (w' : World) : Prop := ∃ a c, e = .returned (.slice a L.length c) ∧ Cq E k f w.heap.size w' (.slice a L.length c) L ∧ Below w.heap.size w w' ∧ ∀ q, a = some q → w.heap.size ≤ q.block ∧ q.block < w'.heap.size
theorem sopT : RowT 24 48 5 48 (.agg #[.int .u64 0, .int .u64 0, .bool false, .bool false, .slice none 0 0]) sopC where
  und := Try.underlying24
  info := by kernel_rfl
  zs := rfl
  kp := by decide
  bp := by decide
  len _ := rfl
  one x u hu := by
    simp only [sopC, List.mem_cons, List.not_mem_nil, or_false] at hu
    rcases hu with rfl | rfl | rfl | rfl | rfl <;> rfl
theorem sdnT : RowT 25 68 3 24 (.agg #[.int .u64 0, .int .u64 0, .bool false]) sdnC where
  und := Try.underlying25
  info := by kernel_rfl
  zs := rfl
  kp := by decide
  bp := by decide
  len _ := rfl
  one x u hu := by
    simp only [sdnC, List.mem_cons, List.not_mem_nil, or_false] at hu
    rcases hu with rfl | rfl | rfl <;> rfl
end Go.Proofs.Ythgnecggdlamfaa
