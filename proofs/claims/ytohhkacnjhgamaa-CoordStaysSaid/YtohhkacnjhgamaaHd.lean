/- Rows of elements of any shape at the head of a block of one's own: stores, clear, copy. -/
import Derived.Test.YtohhkacnjhgamaaRa
import Derived.Shelf.Spec.SlicesInsertGrow
import Derived.RegionTactic
import Derived.Deep.RegionLaw
import Derived.Laws.IdiomCopy
namespace Go.Proofs.Ytohhkacnjhgamaa
open Go.RowKit Go.Lib

/-- A row at the head of a block of n places. -/
structure Hd {α : Type} (E : TypeId) (k : Nat) (f : α → List Value) (w : World) (g n : Nat) (C : List α) : Prop where
  c : ∀ j x, C[j]? = some x → ∀ i u, (f x)[i]? = some u → w.cell? ⟨g, j * k + i, none⟩ = some u
  le : C.length ≤ n
  lt : g < w.heap.size
  ty : ∃ cur, w.heap[g]? = some (.cells cur E (0, 0)) ∧ cur.size = n * k
theorem hd_setCell {T : TypeId} {g N : Nat} {w : World} (h : ∃ cur, w.heap[g]? = some (.cells cur T (0, 0)) ∧ cur.size = N) (o : Nat) (v : Value) : ∃ cur, (w.setCell ⟨g, o, none⟩ v).heap[g]? = some (.cells cur T (0, 0)) ∧ cur.size = N := by
  obtain ⟨cur, h1, h2⟩ := h
  refine ⟨cur.setIfInBounds o v, ?_, by simpa using h2⟩
  simp only [World.setCell, Array.getElem?_modify, h1]
  simp
theorem hd_setCells {T : TypeId} {g N : Nat} : ∀ (vs : List Value) (o : Nat) (w : World), (∃ cur, w.heap[g]? = some (.cells cur T (0, 0)) ∧ cur.size = N) → ∃ cur, (w.setCells g o vs).heap[g]? = some (.cells cur T (0, 0)) ∧ cur.size = N
  | [], _, _, h => h
  | v :: r, o, w, h => hd_setCells r (o + 1) (w.setCell ⟨g, o, none⟩ v) (hd_setCell h o v)
theorem sc_trans {w w1 w2 : World} {g : Nat} (h1 : w.grownBy w1 (some g)) (h2 : w1.grownBy w2 (some g)) : w.grownBy w2 (some g) :=
  ⟨h2.os.trans h1.os, h2.tape.trans h1.tape, h2.output.trans h1.output, Nat.le_trans h1.size h2.size, fun k hk hne => (h2.block k (Nat.lt_of_lt_of_le hk h1.size) hne).trans (h1.block k hk hne)⟩
theorem sc_one (w : World) (g o : Nat) (v : Value) : w.grownBy (w.setCell ⟨g, o, none⟩ v) (some g) := by
  refine ⟨rfl, rfl, rfl, by simp, fun k hk hne => ?_⟩
  simp only [World.setCell, Array.getElem?_modify]
  rw [if_neg (fun e => hne (by rw [e]))]
theorem sc_grown {g : Nat} : ∀ (vs : List Value) (o : Nat) (w : World), w.grownBy (w.setCells g o vs) (some g)
  | [], _, _ => ⟨rfl, rfl, rfl, Nat.le_refl _, fun _ _ _ => rfl⟩
  | v :: r, o, w => sc_trans (sc_one w g o v) (sc_grown r (o + 1) (w.setCell ⟨g, o, none⟩ v))
theorem sc_size {g : Nat} : ∀ (vs : List Value) (o : Nat) (w : World), (w.setCells g o vs).heap.size = w.heap.size
  | [], _, _ => rfl
  | v :: r, o, w => by rw [World.setCells, sc_size r]; simp
section
variable {α : Type} {k bs n g : Nat} {f : α → List Value} {w : World} {C : List α} {T E : TypeId} {z : Value}
theorem Hd.has (h : Hd E k f w g n C) {j : Nat} (hj : j < n * k) : (w.cell? ⟨g, j, none⟩).isSome = true := by
  obtain ⟨cur, h1, h2⟩ := h.ty
  rw [cell_of_row w g _ cur _ _ h1, Array.getElem?_eq_getElem (by omega)]; rfl
theorem Hd.fz (h : Hd E k f w g n C) (o : Nat) : w.frozen? ⟨g, o, none⟩ = false := by
  obtain ⟨cur, h1, _⟩ := h.ty
  simp [World.frozen?, h1]
theorem Hd.shape (h : Hd E k f w g n C) : w.shape? g = some (E, n * k) := by
  obtain ⟨cur, h1, h2⟩ := h.ty
  simp [World.shape?, h1, h2]
theorem Hd.row (h : Hd E k f w g n C) : Rw k f w (some ⟨g, 0, none⟩) C := fun j x hx => ⟨g, 0, rfl, h.lt, fun i u hu => by rw [Nat.zero_add]; exact h.c j x hx i u hu⟩
theorem Hd.later {w' : World} (h : Hd E k f w g n C) (hb : Below w.heap.size w w') : Hd E k f w' g n C :=
  ⟨fun j x hx i u hu => (hb.cell (p := ⟨g, j * k + i, none⟩) h.lt).trans (h.c j x hx i u hu), h.le, Nat.lt_of_lt_of_le h.lt hb.size, by rw [hb.block g h.lt]; exact h.ty⟩
theorem Hd.of (R : RowT T E k bs z f) {B : Nat} {v : Value} (h : Cq E k f B w v C) (h0 : 0 < C.length) : ∃ g c, v = .slice (some ⟨g, 0, none⟩) C.length c ∧ B ≤ g ∧ C.length ≤ c ∧ c ≤ maxLen ∧ Hd E k f w g c C := by
  rcases h with ⟨rfl, _⟩ | h
  · simp at h0
  · rcases h.2 with ⟨_, e⟩ | ⟨g, cap, cur, e1, hB, hg, hn, hm, hs, htake⟩
    · omega
    · subst e1
      refine ⟨g, cap, rfl, hB, hn, hm, ⟨fun j x hx i u hu => ?_, hn, (Array.getElem?_eq_some_iff.1 hg).1, ⟨cur, hg, hs⟩⟩⟩
      rw [cell_of_row w g _ cur _ _ hg, ← Array.getElem?_toList]
      have h1 := rwC_at R.len C j x hx i u hu
      have hj := (List.getElem?_eq_some_iff.1 h1).1
      rw [rwC_len R.len] at hj
      rw [← htake, List.getElem?_take_of_lt (by omega)] at h1
      exact h1
/-- A row is the call's own: the other way. -/
theorem Hd.cq (R : RowT T E k bs z f) (h : Hd E k f w g n C) {B : Nat} (hB : B ≤ g) (hm : n ≤ maxLen) : Cq E k f B w (.slice (some ⟨g, 0, none⟩) C.length n) C := by
  obtain ⟨cur, h1, h2⟩ := h.ty
  have hle := h.le
  refine .inr ⟨rwC_len R.len C, .inr ⟨g, n, cur, rfl, hB, h1, h.le, hm, h2, ?_⟩⟩
  have hlk : C.length * k ≤ n * k := Nat.mul_le_mul_right k hle
  apply List.ext_getElem?
  intro t
  by_cases ht : t < C.length * k
  · rw [List.getElem?_take_of_lt ht, Array.getElem?_toList]
    have := rw_row R.len R.kp h.row t ((rwC f C)[t]'(by rw [rwC_len R.len]; exact ht)) (List.getElem?_eq_getElem _)
    rw [Nat.zero_add, cell_of_row w g _ cur _ _ h1] at this
    rw [this, List.getElem?_eq_getElem (by rw [rwC_len R.len]; exact ht)]
  · rw [List.getElem?_eq_none (by simp; omega), List.getElem?_eq_none (by rw [rwC_len R.len]; omega)]
/-- One element stored. -/
theorem Hd.put (R : RowT T E k bs z f) (h : Hd E k f w g n C) {i : Nat} (hi : i < C.length) (y : α) : Hd E k f (w.setCells g (i * k) (f y)) g n (C.set i y) := by
  have hle := h.le
  have hin : i * k + k ≤ n * k := by rw [show i * k + k = (i + 1) * k by rw [Nat.add_mul]; omega]; exact Nat.mul_le_mul_right k (by omega)
  have hfl := R.len y
  refine ⟨fun j x hx t u hu => ?_, by rw [List.length_set]; exact hle, by rw [sc_size]; exact h.lt, hd_setCells _ _ _ h.ty⟩
  have htl := (List.getElem?_eq_some_iff.1 hu).1
  rw [R.len] at htl
  rw [List.getElem?_set] at hx
  by_cases e : i = j
  · subst e
    rw [if_pos rfl, if_pos hi] at hx
    obtain rfl : y = x := Option.some.inj hx
    rw [World.cell?_setCells_in g (f y) (i * k) w (fun a ha => h.has (by omega)) t (by omega)]
    rw [List.getElem?_eq_getElem (by omega)] at hu; exact hu
  · rw [if_neg e] at hx
    rw [World.cell?_setCells_out g _ _ _ _ (fun _ _ => by
      rcases Nat.lt_or_gt_of_ne e with h1 | h1
      · right
        have : (i + 1) * k ≤ j * k := Nat.mul_le_mul_right k h1
        rw [Nat.add_mul, Nat.one_mul] at this
        simp only; omega
      · left
        have : (j + 1) * k ≤ i * k := Nat.mul_le_mul_right k h1
        rw [Nat.add_mul, Nat.one_mul] at this
        simp only; omega)]
    exact h.c j x hx t u hu
theorem zeros_oneH (R : RowT T E k bs z f) (h1 : ∀ u ∈ z.cells.toList, u.oneCell' = true) (m : Nat) : ∀ v ∈ (Builtin.zeroCells z.cells m).toList, v.oneCell' = true := by
  intro v hv
  simp only [Builtin.zeroCells, Array.toList_map, List.mem_map] at hv
  obtain ⟨i, _, rfl⟩ := hv
  have hk := R.kp
  have hz := R.zs
  have hi : i % z.cells.size < z.cells.size := Nat.mod_lt _ (by omega)
  rw [getElem!_pos z.cells _ hi]
  exact h1 _ (by simp)
theorem zeros_lenH (R : RowT T E k bs z f) (m : Nat) : (Builtin.zeroCells z.cells m).toList.length = m * k := by
  have := R.zs
  simp [Builtin.zeroCells, this]
/-- clear(row[i:]). -/
theorem clearH (R : RowT T E k bs z f) (h1 : ∀ u ∈ z.cells.toList, u.oneCell' = true) (hv : ∀ w, (zeroValue E).run Try.prog w = .ok z w) (h : Hd E k f w g n C) {i m c : Nat} (hm : C.length = i + m) :
    ∃ w', (∀ ty, (Builtin.clear_ #[T] ty #[.slice (some ⟨g, i * k, none⟩) m c]).run Try.prog w = .ok (.tuple #[]) w') ∧ w.grownBy w' (some g) ∧ Hd E k f w' g n (C.take i) := by
  have hle := h.le
  cases m with
  | zero => exact ⟨w, fun ty => by simp [Builtin.clear_, run_underlying R.und], ⟨rfl, rfl, rfl, Nat.le_refl _, fun _ _ _ => rfl⟩, by rw [List.take_of_length_le (by omega)]; exact h⟩
  | succ m =>
    have hin : i * k + (m + 1) * k ≤ n * k := by rw [← Nat.add_mul]; exact Nat.mul_le_mul_right k (by omega)
    have hst := run_storeCells_cells (P := Try.prog) g (i * k) (Builtin.zeroCells z.cells (m + 1)).toList 0 w (by rw [zeros_lenH R]; intro j hj; rw [Nat.add_zero]; exact h.has (by omega)) (fun j _ => h.fz _) (zeros_oneH R h1 _)
    simp only [Nat.add_zero] at hst
    refine ⟨w.setCells g (i * k) (Builtin.zeroCells z.cells (m + 1)).toList, fun ty => by simp [Builtin.clear_, run_underlying R.und, hv, hst], sc_grown _ _ _, ⟨fun j x hx t u hu => ?_, by rw [List.length_take]; omega, by rw [sc_size]; exact h.lt, hd_setCells _ _ _ h.ty⟩⟩
    have hj := (List.getElem?_eq_some_iff.1 hx).1
    rw [List.length_take] at hj
    rw [List.getElem?_take_of_lt (by omega)] at hx
    have htl := (List.getElem?_eq_some_iff.1 hu).1
    rw [R.len] at htl
    have hji : (j + 1) * k ≤ i * k := Nat.mul_le_mul_right k (by omega)
    rw [Nat.add_mul, Nat.one_mul] at hji
    rw [World.cell?_setCells_out g _ _ _ _ (fun _ _ => .inl (by simp only; omega))]
    exact h.c j x hx t u hu
end
/-- copy of rows: all is read before anything is written. -/
theorem run_copy_rows {P : Program} (w : World) (dT sT ty elem : TypeId) (k b o dLen dCap : Nat) (a : Addr) (sLen sCap m : Nat) (cs : List Value)
    (hu : P.underlying dT = some (.slice elem)) (hs : (P.info? elem).map (·.size) = some k) (hm : m = Nat.min sLen dLen) (hn : cs.length = m * k)
    (hsrc : ∀ j v, cs[j]? = some v → w.cell? (a.add j) = some v) (hc : ∀ j, j < cs.length → (w.cell? ⟨b, o + j, none⟩).isSome = true) (hf : ∀ j, j < cs.length → w.frozen? ⟨b, o + j, none⟩ = false) (h1 : ∀ v ∈ cs, v.oneCell' = true) :
    (Builtin.copy_ #[dT, sT] ty #[.slice (some ⟨b, o, none⟩) dLen dCap, .slice (some a) sLen sCap]).run P w = .ok (goInt m) (w.setCells b o cs) := by
  have hl := run_loadCells_list (P := P) w a cs hsrc
  have hst := run_storeCells_cells (P := P) b o cs 0 w (by simpa using hc) (by simpa using hf) h1
  subst hm
  rw [hn] at hl
  cases hq : P.info? elem with
  | none => simp [hq] at hs
  | some i =>
    have hi : i.size = k := by simpa [hq] using hs
    simp [Builtin.copy_, run_underlying hu, Builtin.lenOf, Builtin.firstCells, sizeOf, typeInfo, hq, hi, hl, hst]
end Go.Proofs.Ytohhkacnjhgamaa
