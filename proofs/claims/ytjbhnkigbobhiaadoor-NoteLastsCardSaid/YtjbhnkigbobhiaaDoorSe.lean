/- Layer 4 in plain words: a state behind one note more, behind many. -/
import Derived.Test.YtjbhnkigbobhiaaDoorRa
import Derived.IntWalk
import Derived.Deep.RegionHeld
namespace Go.Proofs.YtjbhnkigbobhiaaDoor
open Go.RowKit

/-- A state. -/
structure Sg where
  term : Nat
  vote : Nat
  base : Nat
  bt : Nat
  snap : ByteArray
  L : List En
def Sg.zero : Sg := ⟨0, 0, 0, 0, ⟨#[]⟩, []⟩
/-- What a snapshot at index i of the term t leaves of the entries. -/
def keptL (base : Nat) (L : List En) (i t : Nat) : List En :=
  match L[i - base - 1]? with
  | some x => if x.t = t then L.drop (i - base) else []
  | none => []
def Sg.step (s : Sg) (n : Nt) : Sg :=
  if n.k = 1 then { s with term := n.t, vote := n.v } else
  if n.k = 2 then (if n.i = s.base + s.L.length + 1 ∧ s.L.length < 1024 ∧ n.i ≤ 1099511627776 then { s with L := s.L ++ [⟨n.t, n.d⟩] } else s) else
  if n.k = 3 then { s with L := s.L.take (n.i - 1 - s.base) } else
  if n.k = 4 then (if n.i ≤ s.base ∨ 1099511627776 < n.i then s else { s with base := n.i, bt := n.t, snap := n.d, L := keptL s.base s.L n.i n.t }) else s
/-- What every state that notes come to keeps. -/
def Sg.fit (s : Sg) : Prop := s.L.length ≤ 1024 ∧ s.base + s.L.length ≤ 1099511627776
theorem keptL_le (base : Nat) (L : List En) (i t : Nat) (h : base < i) : i + (keptL base L i t).length ≤ max i (base + L.length) ∧ (keptL base L i t).length ≤ L.length := by
  unfold keptL
  split
  · split
    · rw [List.length_drop]; omega
    · simp; omega
  · simp; omega
theorem Sg.fit_zero : Sg.zero.fit := ⟨by decide, by decide⟩
theorem Sg.fit_step {s : Sg} (h : s.fit) (n : Nt) : (s.step n).fit := by
  obtain ⟨h1, h2⟩ := h
  unfold Sg.step
  by_cases k1 : n.k = 1
  · rw [if_pos k1]; exact ⟨h1, h2⟩
  rw [if_neg k1]
  by_cases k2 : n.k = 2
  · rw [if_pos k2]
    split
    · rename_i h; exact ⟨by simp; omega, by simp; omega⟩
    · exact ⟨h1, h2⟩
  rw [if_neg k2]
  by_cases k3 : n.k = 3
  · rw [if_pos k3]; exact ⟨by simp; omega, by simp; omega⟩
  rw [if_neg k3]
  by_cases k4 : n.k = 4
  · rw [if_pos k4]
    split
    · exact ⟨h1, h2⟩
    · rename_i h
      have := keptL_le s.base s.L n.i n.t (by omega)
      exact ⟨by simp only; omega, by simp only; omega⟩
  · rw [if_neg k4]; exact ⟨h1, h2⟩
def Sg.fold (l : List Nt) : Sg := l.foldl Sg.step Sg.zero
theorem Sg.fit_foldl (l : List Nt) : ∀ s : Sg, s.fit → (l.foldl Sg.step s).fit := by
  induction l with
  | nil => intro s h; exact h
  | cons n l ih => intro s h; exact ih _ (Sg.fit_step h n)
theorem Sg.fold_succ (l : List Nt) (k : Nat) (n : Nt) (h : l[k]? = some n) : (l.take (k + 1)).foldl Sg.step Sg.zero = ((l.take k).foldl Sg.step Sg.zero).step n := by
  have e : l.take (k + 1) = l.take k ++ [n] := by rw [List.take_add_one, h]; rfl
  rw [e, List.foldl_append]; rfl
/-- What a step answers. -/
def StP (w : World) (a0 : Option Addr) (s : Sg) (e : Ending) (w' : World) : Prop :=
  ∃ a c, e = .returned (.agg #[.int .u64 s.term, .int .u64 s.vote, .int .u64 s.base, .int .u64 s.bt, .string s.snap, .slice a s.L.length c]) ∧ Ents w' a s.L ∧ Below w.heap.size w w' ∧ (a = a0 ∨ ∀ q, a = some q → w.heap.size ≤ q.block)
/-- What is held of the boxes while Last makes memory. -/
theorem keepL {W wp w2 : World} {x y : Nat} {vi v0 v1 v2 v3 : Value} (K : wp.cell? ⟨x, 1, none⟩ = some vi ∧ wp.cell? ⟨y, 0, none⟩ = some v0 ∧ wp.cell? ⟨y, 1, none⟩ = some v1 ∧ wp.cell? ⟨y, 2, none⟩ = some v2 ∧ wp.cell? ⟨y, 3, none⟩ = some v3 ∧ Below W.heap.size W wp) (hb : Below wp.heap.size wp w2) (hx : x < W.heap.size) (hy : y < W.heap.size) :
    w2.cell? ⟨x, 1, none⟩ = some vi ∧ w2.cell? ⟨y, 0, none⟩ = some v0 ∧ w2.cell? ⟨y, 1, none⟩ = some v1 ∧ w2.cell? ⟨y, 2, none⟩ = some v2 ∧ w2.cell? ⟨y, 3, none⟩ = some v3 ∧ Below W.heap.size W w2 := by
  obtain ⟨ki, k0, k1, k2, k3, hB⟩ := K
  have hs := hB.size
  exact ⟨(hb.cell (p := ⟨x, 1, none⟩) (by show x < _; omega)).trans ki, (hb.cell (p := ⟨y, 0, none⟩) (by show y < _; omega)).trans k0, (hb.cell (p := ⟨y, 1, none⟩) (by show y < _; omega)).trans k1, (hb.cell (p := ⟨y, 2, none⟩) (by show y < _; omega)).trans k2, (hb.cell (p := ⟨y, 3, none⟩) (by show y < _; omega)).trans k3, hB.trans (hb.mono hs)⟩
end Go.Proofs.YtjbhnkigbobhiaaDoor
/- The reference of layer 4: Step: a cut: the entries ahead of an index. -/
namespace Go.Proofs.YtjbhnkigbobhiaaDoor
open Go.RowKit

/-- An entry's cells. -/
def enCells (x : En) : List Value := [.int .u64 (x.t : Nat), .string x.d]
def esCells (L : List En) : List Value := L.flatMap enCells
theorem esCells_snoc (L : List En) (x : En) : esCells (L ++ [x]) = esCells L ++ enCells x := by simp [esCells]
theorem esCells_at (L : List En) : ∀ (j : Nat) (x : En), L[j]? = some x → ∀ i (h : i < 2), (esCells L)[j * 2 + i]? = some ((enCells x)[i]'h) := by
  induction L with
  | nil => intro j x h; simp at h
  | cons y L ih =>
    intro j x h i hi
    cases j with
    | zero =>
      obtain rfl : y = x := by simpa using h
      simp only [esCells, List.flatMap_cons, Nat.zero_mul, Nat.zero_add]
      rw [List.getElem?_append_left (by simpa [enCells] using hi), List.getElem?_eq_getElem (by simpa [enCells] using hi)]
      rfl
    | succ j =>
      have h2 := ih j x (by simpa using h) i hi
      simp only [esCells, List.flatMap_cons]
      rw [List.getElem?_append_right (by simp [enCells]; omega)]
      have e : (j + 1) * 2 + i - (enCells y).length = j * 2 + i := by simp [enCells]; omega
      rw [e]; exact h2
theorem infoEntry : (Tryd.prog.info? 65).map (fun i => (i.zero, i.size, i.bytes)) = some (some (.agg #[.int .u64 0, .string ⟨#[]⟩]), 2, 24) := by kernel_rfl
/-- Entries that a call has laid, read back. -/
theorem ents_of_owns {w : World} {B : Nat} {v : Value} {L : List En} (h : w.ownsRow B 65 2 v L.length (esCells L)) : ∃ a cap, v = .slice a L.length cap ∧ Ents w a L := by
  rcases h.2 with ⟨rfl, h0⟩ | ⟨g, cap, cur, rfl, _, hg, _, _, _, htake⟩
  · refine ⟨none, 0, by rw [h0], fun j x hx => ?_⟩
    have := (List.getElem?_eq_some_iff.1 hx).1; omega
  · refine ⟨_, cap, rfl, fun j x hx => ?_⟩
    have hj := (List.getElem?_eq_some_iff.1 hx).1
    have c : ∀ i (hi : i < 2), w.cell? ⟨g, j * 2 + i, none⟩ = some ((enCells x)[i]'hi) := fun i hi => by
      rw [cell_of_row w g _ cur _ _ hg, ← Array.getElem?_toList]
      have h1 := esCells_at L j x hx i hi
      rw [← htake, List.getElem?_take_of_lt (by omega)] at h1
      exact h1
    exact ⟨g, 0, rfl, lt_of_row hg, by simpa [enCells] using c 0 (by omega), by simpa [enCells] using c 1 (by omega)⟩
theorem ents_set {w : World} {a : Option Addr} {L : List En} (h : Ents w a L) {x : Nat} (hne : ∀ q, a = some q → q.block ≠ x) (o : Nat) (v : Value) : Ents (w.setCell ⟨x, o, none⟩ v) a L := fun j y hy => by
  obtain ⟨b, off, e, hlt, c0, c1⟩ := h j y hy
  have hb : x ≠ b := fun h => hne _ e h.symm
  exact ⟨b, off, e, by simpa using hlt, (World.cell?_setCell_far _ _ _ _ hb).trans c0, (World.cell?_setCell_far _ _ _ _ hb).trans c1⟩
theorem take_more (L : List En) (k m : Nat) (x : En) (hx : L[k]? = some x) : (k < m → L.take (min (k + 1) m) = L.take (min k m) ++ [x]) ∧ (¬ k < m → L.take (min (k + 1) m) = L.take (min k m)) := by
  constructor
  · intro h
    rw [Nat.min_eq_left (by omega), Nat.min_eq_left (by omega), List.take_add_one, hx]; rfl
  · intro h
    rw [Nat.min_eq_right (by omega), Nat.min_eq_right (by omega)]
set_option maxRecDepth 100000 in
set_option maxHeartbeats 4000000 in
theorem step_3 (term vote base bt n c : Nat) (snap : ByteArray) (a : Option Addr) (L : List En) (hn : L.length = n) (hl : n ≤ 1024) (hbn : base + n ≤ 1099511627776) (w : World) (hE : Ents w a L) (i t v : Nat) (d : ByteArray) :
    Calls Tryd.prog 39 #[.agg #[.int .u64 term, .int .u64 vote, .int .u64 base, .int .u64 bt, .string snap, .slice a n c], .agg #[.int .i64 3, .int .u64 i, .int .u64 t, .int .u64 v, .string d]] w (StP w a (Sg.step ⟨term, vote, base, bt, snap, L⟩ ⟨3, i, t, v, d⟩)) := by
  obtain ⟨i0, hi, hz0, hz1', hz2'⟩ := info_parts infoEntry
  have hstep : Sg.step ⟨term, vote, base, bt, snap, L⟩ ⟨3, i, t, v, d⟩ = ⟨term, vote, base, bt, snap, L.take (i - 1 - base)⟩ := by simp [Sg.step]
  rw [hstep]
  clear hstep
  obtain ⟨m, hm⟩ : ∃ m, i - 1 - base = m := ⟨_, rfl⟩
  rw [hm]
  have HM := Lib.hid hm; clear hm
  have HN := Lib.hid hn; clear hn
  go_enter Tryd.func39, Tryd.ntmps39
  go_wp2_with fail
  generalize hW : ((((w.alloc (.cells #[.int .u64 term, .int .u64 vote, .int .u64 base, .int .u64 bt, .string snap, .slice a n c] 36)).alloc (.cells #[.int .i64 3, .int .u64 i, .int .u64 t, .int .u64 v, .string d] 24)).alloc (.cells #[.int .u64 0, .int .u64 0, .int .u64 0, .int .u64 0, .string ⟨#[]⟩, .slice none 0 0] 36)).alloc (.cells #[.int .u64 base, .int .u64 bt, .string snap, .slice a n c] 34)) = W
  have b0 : W.cell? ⟨w.heap.size, 0, none⟩ = some (.int .u64 term) := by subst hW; simp [go_sem]
  have b1 : W.cell? ⟨w.heap.size, 1, none⟩ = some (.int .u64 vote) := by subst hW; simp [go_sem]
  have b2 : W.cell? ⟨w.heap.size, 2, none⟩ = some (.int .u64 base) := by subst hW; simp [go_sem]
  have b3 : W.cell? ⟨w.heap.size, 3, none⟩ = some (.int .u64 bt) := by subst hW; simp [go_sem]
  have b4 : W.cell? ⟨w.heap.size, 4, none⟩ = some (.string snap) := by subst hW; simp [go_sem]
  have b5 : W.cell? ⟨w.heap.size, 5, none⟩ = some (.slice a n c) := by subst hW; simp [go_sem]
  have m1 : W.cell? ⟨w.heap.size + 1, 1, none⟩ = some (.int .u64 i) := by subst hW; simp [go_sem]
  have m2 : W.cell? ⟨w.heap.size + 1, 2, none⟩ = some (.int .u64 t) := by subst hW; simp [go_sem]
  have m4 : W.cell? ⟨w.heap.size + 1, 4, none⟩ = some (.string d) := by subst hW; simp [go_sem]
  have r0 : W.cell? ⟨w.heap.size + 1 + 1, 0, none⟩ = some (.int .u64 0) := by subst hW; simp [go_sem]
  have r1 : W.cell? ⟨w.heap.size + 1 + 1, 1, none⟩ = some (.int .u64 0) := by subst hW; simp [go_sem]
  have r2 : W.cell? ⟨w.heap.size + 1 + 1, 2, none⟩ = some (.int .u64 0) := by subst hW; simp [go_sem]
  have r3 : W.cell? ⟨w.heap.size + 1 + 1, 3, none⟩ = some (.int .u64 0) := by subst hW; simp [go_sem]
  have r4 : W.cell? ⟨w.heap.size + 1 + 1, 4, none⟩ = some (.string ⟨#[]⟩) := by subst hW; simp [go_sem]
  have r5 : W.cell? ⟨w.heap.size + 1 + 1, 5, none⟩ = some (.slice none 0 0) := by subst hW; simp [go_sem]
  have rz : ∀ j, W.frozen? ⟨w.heap.size + 1 + 1, j, none⟩ = false := by subst hW; intro j; simp [go_sem]
  have bz : ∀ j, W.frozen? ⟨w.heap.size, j, none⟩ = false := by subst hW; intro j; simp [go_sem]
  have l0 : W.cell? ⟨w.heap.size + 1 + 1 + 1, 0, none⟩ = some (.int .u64 base) := by subst hW; simp [go_sem]
  have l1 : W.cell? ⟨w.heap.size + 1 + 1 + 1, 1, none⟩ = some (.int .u64 bt) := by subst hW; simp [go_sem]
  have l2 : W.cell? ⟨w.heap.size + 1 + 1 + 1, 2, none⟩ = some (.string snap) := by subst hW; simp [go_sem]
  have l3 : W.cell? ⟨w.heap.size + 1 + 1 + 1, 3, none⟩ = some (.slice a n c) := by subst hW; simp [go_sem]
  have hz : w.heap.size + 1 + 1 + 1 < W.heap.size := by subst hW; simp
  have hB : Below w.heap.size w W := by subst hW; go_grown
  clear hW
  have g := hE.later hB
  clear hE
  go_loopw [6, 7] (fun V j wr => ∃ k : Nat, k ≤ n ∧ j = .int .i64 k ∧ wr.ownsRow W.heap.size 65 2 V (L.take (min k m)).length (esCells (L.take (min k m))) ∧ Below W.heap.size W wr) (fun _ j _ => n - (intOf j).toNat)
  case atStart => exact ⟨0, Nat.zero_le _, rfl, by simpa [esCells] using World.ownsRow_nil W W.heap.size 65 2, Below.refl _ _⟩
  case round =>
    obtain ⟨k, hk, rfl, hown, B⟩ := hrel
    have hz0' : w.heap.size < W.heap.size := by omega
    have hzz1 : w.heap.size + 1 < W.heap.size := by omega
    have hzz2 : w.heap.size + 1 + 1 < W.heap.size := by omega
    have M1 := (B.cell (p := ⟨w.heap.size + 1, 1, none⟩) hzz1).trans m1
    have L0 := (B.cell (p := ⟨w.heap.size + 1 + 1 + 1, 0, none⟩) hz).trans l0
    have L3 := (B.cell (p := ⟨w.heap.size + 1 + 1 + 1, 3, none⟩) hz).trans l3
    by_cases hlt : k < n
    · have hkl : k < L.length := by have := HN.out; omega
      obtain ⟨x, hx⟩ : ∃ x, L[k]? = some x := ⟨_, List.getElem?_eq_getElem hkl⟩
      obtain ⟨b, off, rfl, hbb, p0, p1⟩ := (g.later B) k x hx
      have htk := take_more L k m x hx
      have hlen : (L.take (min k m)).length ≤ 1024 := by rw [List.length_take]; omega
      have i0' : (0 : Int) ≤ (k : Int) := by omega
      have i1 : (k : Int) < (n : Int) := by omega
      have HX := Lib.hid hx; clear hx
      by_cases hcut : base + k + 1 < i
      · have e1 := htk.1 (by have := HM.out; omega)
        have d1 : (base : Int) + (k : Int) + 1 < (i : Int) := by omega
        have HE1 := Lib.hid e1
        clear htk e1 b0 b1 b2 b3 b4 b5 m1 m2 m4 r0 r1 r2 r3 r4 r5 rz bz l0 l1 l2 l3
        obtain ⟨T, D⟩ := x
        simp only at p0 p1
        go_wp2_with (at_builtin; refine wpList_append_own _ rfl _ _ 32 rfl W.heap.size 65 i0 (.agg #[.int .u64 0, .string ⟨#[]⟩]) 2 24 Tryd.underlying32 hi hz0 hz1' hz2' rfl (by decide) _ _ _ rfl (hown.alloc _) ⟨wr.heap.size, 0, none⟩ 1 1 (enCells ⟨T, D⟩) rfl rfl ?c1 ?c2 ?c3 ?c4 ?c5 ?_)
        case c1 => intro j u hj; rw [addHead]; exact (World.cell?_alloc_at _ _ _ _ (by simp)).trans (by rw [List.getElem?_toArray.symm] at hj; exact hj)
        case c2 => intro u hu; simp only [enCells, List.mem_cons, List.not_mem_nil, or_false] at hu; rcases hu with rfl | rfl <;> rfl
        case c3 => unfold maxLen; omega
        case c4 => omega
        case c5 => have := B.size; simp; omega
        intro v' w3 hown3 hgrow _
        have B3 : Below W.heap.size W w3 := (B.alloc B.size _).grown hgrow (by have := B.size; simp; omega) (fun j e => (hown.lt j e).1)
        have hown4 : w3.ownsRow W.heap.size 65 2 v' (L.take (min (k + 1) m)).length (esCells (L.take (min (k + 1) m))) := by
          rw [HE1.out, List.length_append, esCells_snoc]; simpa using hown3
        have HO := Lib.hid hown4
        clear hown hown3 hown4 hgrow
        go_wp2_with fail
        go_roundw
        case rel => exact ⟨k + 1, by omega, by go_num, HO.out, B3⟩
        case measure => simp [intOf]; omega
      · have e1 := htk.2 (by have := HM.out; omega)
        have d1 : ¬ (base : Int) + (k : Int) + 1 < (i : Int) := by omega
        have hown4 : wr.ownsRow W.heap.size 65 2 u6 (L.take (min (k + 1) m)).length (esCells (L.take (min (k + 1) m))) := by
          rw [e1]; exact hown
        have HO := Lib.hid hown4
        clear htk e1 hown hown4
        go_wp2_with fail
        go_roundw
        case rel => exact ⟨k + 1, by omega, by go_num, HO.out, B⟩
        case measure => simp [intOf]; omega
    · obtain rfl : k = n := by omega
      have e1 : L.take (min k m) = L.take m := by
        have := HN.out
        rcases Nat.le_total k m with h | h
        · rw [Nat.min_eq_left h, List.take_of_length_le (by omega), List.take_of_length_le (by omega)]
        · rw [Nat.min_eq_right h]
      rw [e1] at hown
      have hblk := hown.lt
      obtain ⟨a', c', rfl, hE'⟩ := ents_of_owns hown
      have hfar : ∀ q, a' = some q → W.heap.size ≤ q.block := fun q e => (hblk q.block (by subst e; rfl)).1
      have C0 := (B.cell (p := ⟨w.heap.size, 0, none⟩) hz0').trans b0
      have C1 := (B.cell (p := ⟨w.heap.size, 1, none⟩) hz0').trans b1
      have C2 := (B.cell (p := ⟨w.heap.size, 2, none⟩) hz0').trans b2
      have C3 := (B.cell (p := ⟨w.heap.size, 3, none⟩) hz0').trans b3
      have C4 := (B.cell (p := ⟨w.heap.size, 4, none⟩) hz0').trans b4
      have C5 := (B.cell (p := ⟨w.heap.size, 5, none⟩) hz0').trans b5
      have R0 := (B.cell (p := ⟨w.heap.size + 1 + 1, 0, none⟩) hzz2).trans r0
      have R1 := (B.cell (p := ⟨w.heap.size + 1 + 1, 1, none⟩) hzz2).trans r1
      have R2 := (B.cell (p := ⟨w.heap.size + 1 + 1, 2, none⟩) hzz2).trans r2
      have R3 := (B.cell (p := ⟨w.heap.size + 1 + 1, 3, none⟩) hzz2).trans r3
      have R4 := (B.cell (p := ⟨w.heap.size + 1 + 1, 4, none⟩) hzz2).trans r4
      have R5 := (B.cell (p := ⟨w.heap.size + 1 + 1, 5, none⟩) hzz2).trans r5
      have RZ : ∀ j, wr.frozen? ⟨w.heap.size + 1 + 1, j, none⟩ = false := fun j => (B.frozen (p := ⟨w.heap.size + 1 + 1, j, none⟩) hzz2).trans (rz j)
      have BZ : ∀ j, wr.frozen? ⟨w.heap.size, j, none⟩ = false := fun j => (B.frozen (p := ⟨w.heap.size, j, none⟩) hz0').trans (bz j)
      have B2 : Below w.heap.size w wr := hB.trans (B.mono hB.size)
      have hx : w.heap.size ≤ w.heap.size + 1 + 1 := by omega
      obtain ⟨nn, hnn⟩ : ∃ nn, (L.take m).length = nn := ⟨_, rfl⟩
      rw [hnn]
      have HNN := Lib.hid hnn
      have HFAR := Lib.hid hfar
      have HE2 := Lib.hid hE'
      clear hown e1 hnn hblk hfar hE' b0 b1 b2 b3 b4 b5 m1 m2 m4 r0 r1 r2 r3 r4 r5 rz bz l0 l1 l2 l3
      go_wp2_with fail
      refine bodyPost_ret (v := .agg #[.int .u64 term, .int .u64 vote, .int .u64 base, .int .u64 bt, .string snap, .slice a' nn c']) (by simp [results, Tryd.results39, go_sem, R0, R1, R2, R3, R4, R5]) rfl ?_
      have n2 : ∀ q, a' = some q → q.block ≠ w.heap.size + 1 + 1 := fun q e => by have := HFAR.out q e; omega
      have n0 : ∀ q, a' = some q → q.block ≠ w.heap.size := fun q e => by have := HFAR.out q e; omega
      refine ⟨a', c', by simp only; rw [HNN.out], ?_, ?_, .inr fun q e => by have := HFAR.out q e; omega⟩
      · exact ents_set (ents_set (ents_set (ents_set (ents_set (ents_set (ents_set HE2.out n0 _ _) n2 _ _) n2 _ _) n2 _ _) n2 _ _) n2 _ _) n2 _ _
      · exact (((((((B2.setCell (Nat.le_refl _) _).setCell hx _).setCell hx _).setCell hx _).setCell hx _).setCell hx _).setCell hx _)
end Go.Proofs.YtjbhnkigbobhiaaDoor
