/- Reading arguments, in general: a slice's elements, each by its own reading; a struct's parts. -/
import Derived.Test.YtohhkacnjhgamaaRows
import Derived.WalkKit
import Derived.WalkSpells
import Derived.Handy
import Derived.IntWalk
import Derived.Deep.Slices
import Derived.Deep.Fields
import Derived.Deep.Strs
import Derived.SizedLaws
import Derived.OpenShut
import Derived.ProofKit
import Derived.Lib.SmallJoins
import Derived.Laws.AppendOwn
import Derived.Laws.OwnMore
import Derived.OwnWalk
import Derived.WalkLawsBesides
import Derived.Lib.Hide
import Derived.WalkSmall
import Derived.Laws.StructEq
import Derived.Deep.RegionHeld
namespace Go.Proofs.Ytohhkacnjhgamaa
open Go.ChangeShapes Go.WideShapes Go.ChangeAt Go.RowKit Go.Deep Go.Joins

theorem u64_nat {z : Int} (h : (Lit.int .u64 z).wf = true) : ∃ n : Nat, z = n ∧ n < 18446744073709551616 := by
  have hb := bounds_u64 h
  exact ⟨z.toNat, by omega, by omega⟩
theorem maxLen63 {c : Nat} (h : c ≤ maxLen) : c ≤ 9223372036854775807 := by unfold maxLen at h; omega
/-- Elements in memory, k cells each. -/
def Rw {α : Type} (k : Nat) (f : α → List Value) (w : World) (a : Option Addr) (L : List α) : Prop :=
  ∀ j x, L[j]? = some x → ∃ b off, a = some ⟨b, off, none⟩ ∧ b < w.heap.size ∧ ∀ i u, (f x)[i]? = some u → w.cell? ⟨b, off + j * k + i, none⟩ = some u
section
variable {α : Type} {k : Nat} {f : α → List Value} {w : World} {a : Option Addr} {L : List α}
theorem Rw.later {w' : World} (h : Rw k f w a L) (hb : Below w.heap.size w w') : Rw k f w' a L := fun j x hx => by
  obtain ⟨b, off, e, hlt, c⟩ := h j x hx
  exact ⟨b, off, e, Nat.lt_of_lt_of_le hlt hb.size, fun i u hu => (hb.cell (p := ⟨b, off + j * k + i, none⟩) hlt).trans (c i u hu)⟩
theorem Rw.nil (a : Option Addr) : Rw k f w a [] := fun j x hx => by simp at hx
theorem Rw.addr (h : Rw k f w a L) (hL : 0 < L.length) : ∃ b off, a = some ⟨b, off, none⟩ ∧ b < w.heap.size := by
  obtain ⟨b2, off2, e, hlt, _⟩ := h 0 _ (List.getElem?_eq_getElem hL)
  exact ⟨b2, off2, e, hlt⟩
theorem Rw.take (h : Rw k f w a L) (m : Nat) : Rw k f w a (L.take m) := fun j x hx => by
  have hj := (List.getElem?_eq_some_iff.1 hx).1
  rw [List.length_take] at hj
  rw [List.getElem?_take_of_lt (by omega)] at hx
  exact h j x hx
theorem Rw.far (h : Rw k f w a L) {x : Nat} (hne : 0 < L.length → ∀ q, a = some q → q.block ≠ x) (o : Nat) (v : Value) : Rw k f (w.setCell ⟨x, o, none⟩ v) a L := fun j y hy => by
  obtain ⟨b, off, e, hlt, c⟩ := h j y hy
  have hb : x ≠ b := fun h => hne (by have := (List.getElem?_eq_some_iff.1 hy).1; omega) _ e h.symm
  exact ⟨b, off, e, by simpa using hlt, fun i u hu => (World.cell?_setCell_far _ _ _ _ hb).trans (c i u hu)⟩
/-- All cells, one behind the other. -/
def rwC (f : α → List Value) (L : List α) : List Value := L.flatMap f
theorem rwC_snoc (L : List α) (x : α) : rwC f (L ++ [x]) = rwC f L ++ f x := by simp [rwC]
theorem rwC_app (L M : List α) : rwC f (L ++ M) = rwC f L ++ rwC f M := by simp [rwC]
theorem rwC_len (hf : ∀ x, (f x).length = k) (L : List α) : (rwC f L).length = L.length * k := by
  induction L with
  | nil => simp [rwC]
  | cons y L ih => simp only [rwC, List.flatMap_cons, List.length_append, List.length_cons] at ih ⊢; rw [ih, hf, Nat.add_mul]; omega
theorem rwC_at (hf : ∀ x, (f x).length = k) (L : List α) : ∀ (j : Nat) (x : α), L[j]? = some x → ∀ i u, (f x)[i]? = some u → (rwC f L)[j * k + i]? = some u := by
  induction L with
  | nil => intro j x h; simp at h
  | cons y L ih =>
    intro j x h i u hi
    have hil := (List.getElem?_eq_some_iff.1 hi).1
    cases j with
    | zero =>
      obtain rfl : y = x := by simpa using h
      simp only [rwC, List.flatMap_cons, Nat.zero_mul, Nat.zero_add]
      rw [List.getElem?_append_left hil]; exact hi
    | succ j =>
      have h2 := ih j x (by simpa using h) i u hi
      simp only [rwC, List.flatMap_cons]
      rw [List.getElem?_append_right (by rw [hf, Nat.add_mul]; omega), hf]
      rw [show (j + 1) * k + i - k = j * k + i by rw [Nat.add_mul]; omega]; exact h2
theorem rw_row (hf : ∀ x, (f x).length = k) (hk : 0 < k) {b off : Nat} (h : Rw k f w (some ⟨b, off, none⟩) L) : ∀ j u, (rwC f L)[j]? = some u → w.cell? ⟨b, off + j, none⟩ = some u := by
  intro j u hj
  have hlt := (List.getElem?_eq_some_iff.1 hj).1
  rw [rwC_len hf] at hlt
  have hq : j / k < L.length := (Nat.div_lt_iff_lt_mul hk).2 hlt
  obtain ⟨x, hx⟩ : ∃ x, L[j / k]? = some x := ⟨_, List.getElem?_eq_getElem hq⟩
  have hm : j % k < (f x).length := by rw [hf]; exact Nat.mod_lt _ hk
  obtain ⟨v, hv⟩ : ∃ v, (f x)[j % k]? = some v := ⟨_, List.getElem?_eq_getElem hm⟩
  have e := rwC_at hf L (j / k) x hx (j % k) v hv
  have hj2 : j / k * k + j % k = j := by rw [Nat.mul_comm]; exact Nat.div_add_mod j k
  rw [hj2, hj] at e
  obtain rfl : u = v := Option.some.inj e
  obtain ⟨b', off', e1, _, c⟩ := h (j / k) x hx
  cases e1
  have h3 := c _ _ hv
  rw [Nat.add_assoc, hj2] at h3; exact h3
theorem rw_of_owns {B : Nat} {T : TypeId} {v : Value} (hf : ∀ x, (f x).length = k) (_ : 0 < k) (h : w.ownsRow B T k v L.length (rwC f L)) : ∃ a cap, v = .slice a L.length cap ∧ L.length ≤ cap ∧ Rw k f w a L ∧ ∀ q, a = some q → B ≤ q.block := by
  rcases h.2 with ⟨rfl, h0⟩ | ⟨g, cap, cur, rfl, hB, hg, h1, h2, h3, htake⟩
  · refine ⟨none, 0, by rw [h0], by omega, fun j x hx => ?_, fun q e => by cases e⟩
    have := (List.getElem?_eq_some_iff.1 hx).1; omega
  · refine ⟨_, cap, rfl, by omega, fun j x hx => ?_, fun q e => by cases e; exact hB⟩
    refine ⟨g, 0, rfl, (Array.getElem?_eq_some_iff.1 hg).1, fun i u hu => ?_⟩
    rw [cell_of_row w g _ cur _ _ hg, ← Array.getElem?_toList]
    have h1 := rwC_at hf L j x hx i u hu
    have hj := (List.getElem?_eq_some_iff.1 h1).1
    rw [rwC_len hf] at hj
    rw [← htake, List.getElem?_take_of_lt (by omega)] at h1
    rw [Nat.zero_add]; exact h1
end
/-- What a slice that came in is known for: each element's cells, and what its reading gives. -/
structure RowOf {H α : Type} (W : World) (k : Nat) (P : List Value → α → DataW H → Prop) (E : TypeId) (a : Option Addr) (n c : Nat) (L : List α) (S : Nat → Prop) : Prop where
  hlen : L.length = n
  hcap : n ≤ c
  hmax : c ≤ maxLen
  mem : ∀ i x, L[i]? = some x → ∃ b off cs d, a = some ⟨b, off, none⟩ ∧ b < W.heap.size ∧ cs.length = k ∧ (∀ j u, cs[j]? = some u → W.cell? ⟨b, off + i * k + j, none⟩ = some u) ∧ P cs x d ∧ ∀ q ∈ d.weights Try.prog E, S q
  room : 0 < n → ∃ m, n ≤ m ∧ S (m * Try.prog.bytesOf E)
theorem mem_weightsAll' {H : Type} {P : Program} {e : TypeId} {n : Nat} {d : DataW H} (hn : n ∈ d.weights P e) : ∀ l : List (DataW H), d ∈ l → n ∈ DataW.weightsAll P e l
  | x :: r, h => by
    rcases List.mem_cons.1 h with rfl | h
    · exact List.mem_append.2 (.inl hn)
    · exact List.mem_append.2 (.inr (mem_weightsAll' hn r h))
set_option maxRecDepth 100000 in
theorem rowOf_of {H α : Type} {enc : TypeId × Value → H} {W : World} {fuel : Nat} {T E : TypeId} {k : Nat} (dflt : α) (P : List Value → α → DataW H → Prop)
    (hT : Try.prog.underlying T = some (.slice E)) (hk : Try.prog.cellsOf E = k) (hk0 : 0 < k)
    (hel : ∀ f cs y, cs.length = k → DataW.trod enc Try.prog W 0 (fun _ => true) true f E cs = some y → (∀ x ∈ y.2, x.block < W.heap.size) → ∃ x, P cs x y.1)
    {c : Value} {y : DataW H × List MemPlace}
    (hf : DataW.trod enc Try.prog W 0 (fun _ => true) true fuel T [c] = some y) (hlt : ∀ x ∈ y.2, x.block < W.heap.size) :
    ∃ a n cap L, c = .slice a n cap ∧ RowOf W k P E a n cap L (fun q => q ∈ y.1.weights Try.prog T) := by
  obtain ⟨d, p⟩ := y
  rcases open_slice hT hf with ⟨hcs, hx⟩ | ⟨a', len, cap', m, n, D, Pl, hcs, _, hl, hm, hmm, hx, hi⟩
  · simp at hcs
    subst hcs
    exact ⟨none, 0, 0, [], rfl, rfl, Nat.le_refl _, by decide, fun j x hx => by simp at hx, fun h => by omega⟩
  · simp at hcs
    subst hcs
    simp only [Prod.mk.injEq] at hx
    obtain ⟨rfl, rfl⟩ := hx
    simp only [if_true] at hmm
    subst hmm
    simp only at hlt
    obtain ⟨b, off, spot⟩ := a'
    have hspot : 0 < len → spot = none := by
      intro h0
      obtain ⟨cs', hc, _⟩ := hi 0 (by omega)
      obtain ⟨_, hcl, hat⟩ := World.cells?_some hc
      rw [hk] at hcl hat
      have s0 := hat 0 hk0
      rw [List.getElem?_eq_getElem (by omega : 0 < cs'.length)] at s0
      simpa [Addr.add] using World.cell?_spot s0
    have hone : ∀ i, ∃ x : α, i < len → spot = none ∧ b < W.heap.size ∧ ∃ cs, cs.length = k ∧ (∀ j u, cs[j]? = some u → W.cell? ⟨b, off + i * k + j, none⟩ = some u) ∧ P cs x (D i) := by
      intro i
      by_cases hil : i < len
      · obtain ⟨cs', hc, ht⟩ := hi i (by omega)
        rw [hk] at hc
        obtain ⟨_, hcl, hat⟩ := World.cells?_some hc
        obtain rfl := hspot (by omega)
        obtain ⟨x, hx⟩ := hel _ cs' _ hcl ht (fun q hq => hlt q (List.mem_append.2 (.inr (List.mem_flatMap.2 ⟨i, List.mem_range.2 (by omega), hq⟩))))
        refine ⟨x, fun _ => ⟨rfl, ?_, cs', hcl, fun j u hj => ?_, hx⟩⟩
        · exact hlt (.cell b off) (List.mem_append.2 (.inl (MemPlace.mem_row.2 ⟨0, by rw [hk]; exact Nat.mul_pos (by omega) hk0, by simp⟩)))
        · have hjl := (List.getElem?_eq_some_iff.1 hj).1
          have s0 := hat j (by omega)
          rw [add_plain, add_plain, hj] at s0
          exact s0
      · exact ⟨dflt, fun h => absurd h hil⟩
    have hget : ∀ i x, ((List.range len).map fun i => Classical.choose (hone i))[i]? = some x → i < len ∧ x = Classical.choose (hone i) := fun i x hx => by
      have hil : i < len := by have := (List.getElem?_eq_some_iff.1 hx).1; simpa using this
      rw [List.getElem?_map, List.getElem?_range hil] at hx
      exact ⟨hil, (Option.some.inj hx).symm⟩
    refine ⟨_, len, m, (List.range len).map fun i => Classical.choose (hone i), rfl, by simp, hl, hm, fun i x hx => ?_, fun h0 => ⟨m, hl, ?_⟩⟩
    · obtain ⟨hil, rfl⟩ := hget i x hx
      obtain ⟨g3, g4, cs, g5, g6, g7⟩ := Classical.choose_spec (hone i) hil
      refine ⟨b, off, cs, _, by rw [g3], g4, g5, g6, g7, fun q hq => ?_⟩
      simp only [DataW.weights, hT, List.mem_cons, List.mem_append]
      exact .inr (.inl (mem_weightsAll' hq _ (List.mem_map.2 ⟨i, List.mem_range.2 hil, rfl⟩)))
    · simp only [DataW.weights, hT, List.mem_cons]
      left
      simp only [List.length_map, List.length_range]
      rw [show len + (m - len) = m by omega]
/-- Elements of one cells' shape each, out of what was read. -/
theorem RowOf.rw {H α : Type} {W : World} {k : Nat} {P : List Value → α → DataW H → Prop} {E : TypeId} {a : Option Addr} {n c : Nat} {L : List α} {S : Nat → Prop} {f : α → List Value}
    (h : RowOf W k P E a n c L S) (hP : ∀ cs x d, P cs x d → cs = f x) : Rw k f W a L := fun j x hx => by
  obtain ⟨b, off, cs, d, e, hlt, _, hc, hp, _⟩ := h.mem j x hx
  obtain rfl := hP _ _ _ hp
  exact ⟨b, off, e, hlt, hc⟩
theorem RowOf.all {H α : Type} {W : World} {k : Nat} {P : List Value → α → DataW H → Prop} {E : TypeId} {a : Option Addr} {n c : Nat} {L : List α} {S : Nat → Prop} {Q : α → Prop}
    (h : RowOf W k P E a n c L S) (hP : ∀ cs x d, P cs x d → Q x) : ∀ x ∈ L, Q x := fun x hx => by
  obtain ⟨j, hj⟩ := List.mem_iff_getElem?.1 hx
  obtain ⟨b, off, cs, d, e, hlt, _, hc, hp, _⟩ := h.mem j x hj
  exact hP _ _ _ hp
theorem RowOf.small {H α : Type} {W : World} {k : Nat} {P : List Value → α → DataW H → Prop} {E : TypeId} {a : Option Addr} {n c : Nat} {L : List α} {S : Nat → Prop}
    (h : RowOf W k P E a n c L S) {bs : Nat} (hb : Try.prog.bytesOf E = bs) (hS : ∀ q, S q → q ≤ 140737488351232) : n * bs ≤ 140737488351232 := by
  rcases Nat.eq_zero_or_pos n with h0 | h0
  · rw [h0]; omega
  · obtain ⟨m, h1, h2⟩ := h.room h0
    rw [hb] at h2
    exact Nat.le_trans (Nat.mul_le_mul_right _ h1) (hS _ h2)
theorem trod_struct5 {H : Type} {enc : TypeId × Value → H} {P : Program} {w : World} {base : Nat} {spare : Nat → Bool} {held : Bool} {t : TypeId} {f0 f1 f2 f3 f4 : Field} {fuel : Nat} {cs : List Value} {x : DataW H × List MemPlace} (ht : P.underlying t = some (.struct #[f0, f1, f2, f3, f4])) (h : DataW.trod enc P w base spare held fuel t cs = some x) :
    ∃ y0 y1 y2 y3 y4 n, x.1 = .agg [y0.1, y1.1, y2.1, y3.1, y4.1] ∧ DataW.trod enc P w base spare held n f0.type ((cs.drop f0.offset).take (P.cellsOf f0.type)) = some y0 ∧ DataW.trod enc P w base spare held n f1.type ((cs.drop f1.offset).take (P.cellsOf f1.type)) = some y1 ∧
      DataW.trod enc P w base spare held n f2.type ((cs.drop f2.offset).take (P.cellsOf f2.type)) = some y2 ∧ DataW.trod enc P w base spare held n f3.type ((cs.drop f3.offset).take (P.cellsOf f3.type)) = some y3 ∧ DataW.trod enc P w base spare held n f4.type ((cs.drop f4.offset).take (P.cellsOf f4.type)) = some y4 := by
  obtain ⟨xs, n, _, hx, _, hlen, hf⟩ := DataW.trod_struct ht h
  match xs, hlen with
  | [y0, y1, y2, y3, y4], _ => exact ⟨y0, y1, y2, y3, y4, n, by rw [hx]; rfl, by simpa using hf 0 f0 rfl, by simpa using hf 1 f1 rfl, by simpa using hf 2 f2 rfl, by simpa using hf 3 f3 rfl, by simpa using hf 4 f4 rfl⟩
theorem sized_of {H : Type} {ts : List TypeId} {ds : List (DataW H)} {j : Nat} {t : TypeId} {D : DataW H}
    (hZ : (DataW.weightsEach Try.prog ts ds).all (· ≤ reachBytes) = true) (hj : ts[j]? = some t) (hd : ds[j]? = some D) : ∀ q ∈ D.weights Try.prog t, q ≤ 140737488351232 := fun q hq =>
  of_decide_eq_true (List.all_eq_true.1 hZ _ (DataW.weights_mem_each hj hd q hq))
end Go.Proofs.Ytohhkacnjhgamaa
