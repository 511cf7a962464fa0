/- Reading arguments, in general: a slice's elements, each by its own reading; a struct's parts. -/
import Derived.Test.YthgnecggdlamfaaGreatRows
import Derived.WalkKit
import Derived.WalkSpells
import Derived.Handy
import Derived.IntWalk
import Derived.Deep.Slices
import Derived.Deep.Fields
import Derived.Deep.Strs
import Derived.SizedLaws
import Derived.OpenShut
import Derived.ProofKit
import Derived.Lib.SmallJoins
import Derived.Laws.AppendOwn
import Derived.Laws.OwnMore
import Derived.OwnWalk
import Derived.WalkLawsBesides
import Derived.Lib.Hide
import Derived.WalkSmall
import Derived.Laws.StructEq
import Derived.Deep.RegionHeld
import Derived.Deep.QuietTactic
import Derived.BigQuiet
namespace Go.Proofs.YthgnecggdlamfaaGreat
open Go.ChangeShapes Go.WideShapes Go.ChangeAt Go.RowKit Go.Deep Go.Joins

theorem u64_nat {z : Int} (h : (Lit.int .u64 z).wf = true) : ∃ n : Nat, z = n ∧ n < 18446744073709551616 := by
  have hb := bounds_u64 h
  exact ⟨z.toNat, by omega, by omega⟩
theorem maxLen63 {c : Nat} (h : c ≤ maxLen) : c ≤ 9223372036854775807 := by unfold maxLen at h; omega
/-- Elements in memory, k cells each. -/
def Rw {α : Type} (k : Nat) (f : α → List Value) (w : World) (a : Option Addr) (L : List α) : Prop :=
  ∀ j x, L[j]? = some x → ∃ b off, a = some ⟨b, off, none⟩ ∧ b < w.heap.size ∧ ∀ i u, (f x)[i]? = some u → w.cell? ⟨b, off + j * k + i, none⟩ = some u
section
variable {α : Type} {k : Nat} {f : α → List Value} {w : World} {a : Option Addr} {L : List α}
theorem Rw.later {w' : World} (h : Rw k f w a L) (hb : Below w.heap.size w w') : Rw k f w' a L := fun j x hx => by
  obtain ⟨b, off, e, hlt, c⟩ := h j x hx
  exact ⟨b, off, e, Nat.lt_of_lt_of_le hlt hb.size, fun i u hu => (hb.cell (p := ⟨b, off + j * k + i, none⟩) hlt).trans (c i u hu)⟩
theorem Rw.nil (a : Option Addr) : Rw k f w a [] := fun j x hx => by simp at hx
theorem Rw.addr (h : Rw k f w a L) (hL : 0 < L.length) : ∃ b off, a = some ⟨b, off, none⟩ ∧ b < w.heap.size := by
  obtain ⟨b2, off2, e, hlt, _⟩ := h 0 _ (List.getElem?_eq_getElem hL)
  exact ⟨b2, off2, e, hlt⟩
theorem Rw.take (h : Rw k f w a L) (m : Nat) : Rw k f w a (L.take m) := fun j x hx => by
  have hj := (List.getElem?_eq_some_iff.1 hx).1
  rw [List.length_take] at hj
  rw [List.getElem?_take_of_lt (by omega)] at hx
  exact h j x hx
theorem Rw.far (h : Rw k f w a L) {x : Nat} (hne : 0 < L.length → ∀ q, a = some q → q.block ≠ x) (o : Nat) (v : Value) : Rw k f (w.setCell ⟨x, o, none⟩ v) a L := fun j y hy => by
  obtain ⟨b, off, e, hlt, c⟩ := h j y hy
  have hb : x ≠ b := fun h => hne (by have := (List.getElem?_eq_some_iff.1 hy).1; omega) _ e h.symm
  exact ⟨b, off, e, by simpa using hlt, fun i u hu => (World.cell?_setCell_far _ _ _ _ hb).trans (c i u hu)⟩
/-- All cells, one behind the other. -/
def rwC (f : α → List Value) (L : List α) : List Value := L.flatMap f
theorem rwC_snoc (L : List α) (x : α) : rwC f (L ++ [x]) = rwC f L ++ f x := by simp [rwC]
theorem rwC_app (L M : List α) : rwC f (L ++ M) = rwC f L ++ rwC f M := by simp [rwC]
theorem rwC_len (hf : ∀ x, (f x).length = k) (L : List α) : (rwC f L).length = L.length * k := by
  induction L with
  | nil => simp [rwC]
  | cons y L ih => simp only [rwC, List.flatMap_cons, List.length_append, List.length_cons] at ih ⊢; rw [ih, hf, Nat.add_mul]; omega
theorem rwC_at (hf : ∀ x, (f x).length = k) (L : List α) : ∀ (j : Nat) (x : α), L[j]? = some x → ∀ i u, (f x)[i]? = some u → (rwC f L)[j * k + i]? = some u := by
  induction L with
  | nil => intro j x h; simp at h
  | cons y L ih =>
    intro j x h i u hi
    have hil := (List.getElem?_eq_some_iff.1 hi).1
    cases j with
    | zero =>
      obtain rfl : y = x := by simpa using h
      simp only [rwC, List.flatMap_cons, Nat.zero_mul, Nat.zero_add]
      rw [List.getElem?_append_left hil]; exact hi
    | succ j =>
      have h2 := ih j x (by simpa using h) i u hi
      simp only [rwC, List.flatMap_cons]
      rw [List.getElem?_append_right (by rw [hf, Nat.add_mul]; omega), hf]
      rw [show (j + 1) * k + i - k = j * k + i by rw [Nat.add_mul]; omega]; exact h2
theorem rw_row (hf : ∀ x, (f x).length = k) (hk : 0 < k) {b off : Nat} (h : Rw k f w (some ⟨b, off, none⟩) L) : ∀ j u, (rwC f L)[j]? = some u → w.cell? ⟨b, off + j, none⟩ = some u := by
  intro j u hj
  have hlt := (List.getElem?_eq_some_iff.1 hj).1
  rw [rwC_len hf] at hlt
  have hq : j / k < L.length := (Nat.div_lt_iff_lt_mul hk).2 hlt
  obtain ⟨x, hx⟩ : ∃ x, L[j / k]? = some x := ⟨_, List.getElem?_eq_getElem hq⟩
  have hm : j % k < (f x).length := by rw [hf]; exact Nat.mod_lt _ hk
  obtain ⟨v, hv⟩ : ∃ v, (f x)[j % k]? = some v := ⟨_, List.getElem?_eq_getElem hm⟩
  have e := rwC_at hf L (j / k) x hx (j % k) v hv
  have hj2 : j / k * k + j % k = j := by rw [Nat.mul_comm]; exact Nat.div_add_mod j k
  rw [hj2, hj] at e
  obtain rfl : u = v := Option.some.inj e
  obtain ⟨b', off', e1, _, c⟩ := h (j / k) x hx
  cases e1
  have h3 := c _ _ hv
  rw [Nat.add_assoc, hj2] at h3; exact h3
theorem rw_of_owns {B : Nat} {T : TypeId} {v : Value} (hf : ∀ x, (f x).length = k) (_ : 0 < k) (h : w.ownsRow B T k v L.length (rwC f L)) : ∃ a cap, v = .slice a L.length cap ∧ L.length ≤ cap ∧ Rw k f w a L ∧ ∀ q, a = some q → B ≤ q.block := by
  rcases h.2 with ⟨rfl, h0⟩ | ⟨g, cap, cur, rfl, hB, hg, h1, h2, h3, htake⟩
  · refine ⟨none, 0, by rw [h0], by omega, fun j x hx => ?_, fun q e => by cases e⟩
    have := (List.getElem?_eq_some_iff.1 hx).1; omega
  · refine ⟨_, cap, rfl, by omega, fun j x hx => ?_, fun q e => by cases e; exact hB⟩
    refine ⟨g, 0, rfl, (Array.getElem?_eq_some_iff.1 hg).1, fun i u hu => ?_⟩
    rw [cell_of_row w g _ cur _ _ hg, ← Array.getElem?_toList]
    have h1 := rwC_at hf L j x hx i u hu
    have hj := (List.getElem?_eq_some_iff.1 h1).1
    rw [rwC_len hf] at hj
    rw [← htake, List.getElem?_take_of_lt (by omega)] at h1
    rw [Nat.zero_add]; exact h1
end
/-- What a slice that came in is known for: each element's cells, and what its reading gives. -/
structure RowOf {H α : Type} (W : World) (k : Nat) (P : List Value → α → DataW H → Prop) (E : TypeId) (a : Option Addr) (n c : Nat) (L : List α) (S : Nat → Prop) : Prop where
  hlen : L.length = n
  hcap : n ≤ c
  hmax : c ≤ maxLen
  mem : ∀ i x, L[i]? = some x → ∃ b off cs d, a = some ⟨b, off, none⟩ ∧ b < W.heap.size ∧ cs.length = k ∧ (∀ j u, cs[j]? = some u → W.cell? ⟨b, off + i * k + j, none⟩ = some u) ∧ P cs x d ∧ ∀ q ∈ d.weights Tryz.prog E, S q
  room : 0 < n → ∃ m, n ≤ m ∧ S (m * Tryz.prog.bytesOf E)
theorem mem_weightsAll' {H : Type} {P : Program} {e : TypeId} {n : Nat} {d : DataW H} (hn : n ∈ d.weights P e) : ∀ l : List (DataW H), d ∈ l → n ∈ DataW.weightsAll P e l
  | x :: r, h => by
    rcases List.mem_cons.1 h with rfl | h
    · exact List.mem_append.2 (.inl hn)
    · exact List.mem_append.2 (.inr (mem_weightsAll' hn r h))
set_option maxRecDepth 100000 in
theorem rowOf_of {H α : Type} {enc : TypeId × Value → H} {W : World} {fuel : Nat} {T E : TypeId} {k : Nat} (dflt : α) (P : List Value → α → DataW H → Prop)
    (hT : Tryz.prog.underlying T = some (.slice E)) (hk : Tryz.prog.cellsOf E = k) (hk0 : 0 < k)
    (hel : ∀ f cs y, cs.length = k → DataW.trod enc Tryz.prog W 0 (fun _ => true) true f E cs = some y → (∀ x ∈ y.2, x.block < W.heap.size) → ∃ x, P cs x y.1)
    {c : Value} {y : DataW H × List MemPlace}
    (hf : DataW.trod enc Tryz.prog W 0 (fun _ => true) true fuel T [c] = some y) (hlt : ∀ x ∈ y.2, x.block < W.heap.size) :
    ∃ a n cap L, c = .slice a n cap ∧ RowOf W k P E a n cap L (fun q => q ∈ y.1.weights Tryz.prog T) := by
  obtain ⟨d, p⟩ := y
  rcases open_slice hT hf with ⟨hcs, hx⟩ | ⟨a', len, cap', m, n, D, Pl, hcs, _, hl, hm, hmm, hx, hi⟩
  · simp at hcs
    subst hcs
    exact ⟨none, 0, 0, [], rfl, rfl, Nat.le_refl _, by decide, fun j x hx => by simp at hx, fun h => by omega⟩
  · simp at hcs
    subst hcs
    simp only [Prod.mk.injEq] at hx
    obtain ⟨rfl, rfl⟩ := hx
    simp only [if_true] at hmm
    subst hmm
    simp only at hlt
    obtain ⟨b, off, spot⟩ := a'
    have hspot : 0 < len → spot = none := by
      intro h0
      obtain ⟨cs', hc, _⟩ := hi 0 (by omega)
      obtain ⟨_, hcl, hat⟩ := World.cells?_some hc
      rw [hk] at hcl hat
      have s0 := hat 0 hk0
      rw [List.getElem?_eq_getElem (by omega : 0 < cs'.length)] at s0
      simpa [Addr.add] using World.cell?_spot s0
    have hone : ∀ i, ∃ x : α, i < len → spot = none ∧ b < W.heap.size ∧ ∃ cs, cs.length = k ∧ (∀ j u, cs[j]? = some u → W.cell? ⟨b, off + i * k + j, none⟩ = some u) ∧ P cs x (D i) := by
      intro i
      by_cases hil : i < len
      · obtain ⟨cs', hc, ht⟩ := hi i (by omega)
        rw [hk] at hc
        obtain ⟨_, hcl, hat⟩ := World.cells?_some hc
        obtain rfl := hspot (by omega)
        obtain ⟨x, hx⟩ := hel _ cs' _ hcl ht (fun q hq => hlt q (List.mem_append.2 (.inr (List.mem_flatMap.2 ⟨i, List.mem_range.2 (by omega), hq⟩))))
        refine ⟨x, fun _ => ⟨rfl, ?_, cs', hcl, fun j u hj => ?_, hx⟩⟩
        · exact hlt (.cell b off) (List.mem_append.2 (.inl (MemPlace.mem_row.2 ⟨0, by rw [hk]; exact Nat.mul_pos (by omega) hk0, by simp⟩)))
        · have hjl := (List.getElem?_eq_some_iff.1 hj).1
          have s0 := hat j (by omega)
          rw [add_plain, add_plain, hj] at s0
          exact s0
      · exact ⟨dflt, fun h => absurd h hil⟩
    have hget : ∀ i x, ((List.range len).map fun i => Classical.choose (hone i))[i]? = some x → i < len ∧ x = Classical.choose (hone i) := fun i x hx => by
      have hil : i < len := by have := (List.getElem?_eq_some_iff.1 hx).1; simpa using this
      rw [List.getElem?_map, List.getElem?_range hil] at hx
      exact ⟨hil, (Option.some.inj hx).symm⟩
    refine ⟨_, len, m, (List.range len).map fun i => Classical.choose (hone i), rfl, by simp, hl, hm, fun i x hx => ?_, fun h0 => ⟨m, hl, ?_⟩⟩
    · obtain ⟨hil, rfl⟩ := hget i x hx
      obtain ⟨g3, g4, cs, g5, g6, g7⟩ := Classical.choose_spec (hone i) hil
      refine ⟨b, off, cs, _, by rw [g3], g4, g5, g6, g7, fun q hq => ?_⟩
      simp only [DataW.weights, hT, List.mem_cons, List.mem_append]
      exact .inr (.inl (mem_weightsAll' hq _ (List.mem_map.2 ⟨i, List.mem_range.2 hil, rfl⟩)))
    · simp only [DataW.weights, hT, List.mem_cons]
      left
      simp only [List.length_map, List.length_range]
      rw [show len + (m - len) = m by omega]
/-- Elements of one cells' shape each, out of what was read. -/
theorem RowOf.rw {H α : Type} {W : World} {k : Nat} {P : List Value → α → DataW H → Prop} {E : TypeId} {a : Option Addr} {n c : Nat} {L : List α} {S : Nat → Prop} {f : α → List Value}
    (h : RowOf W k P E a n c L S) (hP : ∀ cs x d, P cs x d → cs = f x) : Rw k f W a L := fun j x hx => by
  obtain ⟨b, off, cs, d, e, hlt, _, hc, hp, _⟩ := h.mem j x hx
  obtain rfl := hP _ _ _ hp
  exact ⟨b, off, e, hlt, hc⟩
theorem RowOf.all {H α : Type} {W : World} {k : Nat} {P : List Value → α → DataW H → Prop} {E : TypeId} {a : Option Addr} {n c : Nat} {L : List α} {S : Nat → Prop} {Q : α → Prop}
    (h : RowOf W k P E a n c L S) (hP : ∀ cs x d, P cs x d → Q x) : ∀ x ∈ L, Q x := fun x hx => by
  obtain ⟨j, hj⟩ := List.mem_iff_getElem?.1 hx
  obtain ⟨b, off, cs, d, e, hlt, _, hc, hp, _⟩ := h.mem j x hj
  exact hP _ _ _ hp
theorem RowOf.small {H α : Type} {W : World} {k : Nat} {P : List Value → α → DataW H → Prop} {E : TypeId} {a : Option Addr} {n c : Nat} {L : List α} {S : Nat → Prop}
    (h : RowOf W k P E a n c L S) {bs : Nat} (hb : Tryz.prog.bytesOf E = bs) (hS : ∀ q, S q → q ≤ 140737488351232) : n * bs ≤ 140737488351232 := by
  rcases Nat.eq_zero_or_pos n with h0 | h0
  · rw [h0]; omega
  · obtain ⟨m, h1, h2⟩ := h.room h0
    rw [hb] at h2
    exact Nat.le_trans (Nat.mul_le_mul_right _ h1) (hS _ h2)
theorem trod_struct5 {H : Type} {enc : TypeId × Value → H} {P : Program} {w : World} {base : Nat} {spare : Nat → Bool} {held : Bool} {t : TypeId} {f0 f1 f2 f3 f4 : Field} {fuel : Nat} {cs : List Value} {x : DataW H × List MemPlace} (ht : P.underlying t = some (.struct #[f0, f1, f2, f3, f4])) (h : DataW.trod enc P w base spare held fuel t cs = some x) :
    ∃ y0 y1 y2 y3 y4 n, x.1 = .agg [y0.1, y1.1, y2.1, y3.1, y4.1] ∧ DataW.trod enc P w base spare held n f0.type ((cs.drop f0.offset).take (P.cellsOf f0.type)) = some y0 ∧ DataW.trod enc P w base spare held n f1.type ((cs.drop f1.offset).take (P.cellsOf f1.type)) = some y1 ∧
      DataW.trod enc P w base spare held n f2.type ((cs.drop f2.offset).take (P.cellsOf f2.type)) = some y2 ∧ DataW.trod enc P w base spare held n f3.type ((cs.drop f3.offset).take (P.cellsOf f3.type)) = some y3 ∧ DataW.trod enc P w base spare held n f4.type ((cs.drop f4.offset).take (P.cellsOf f4.type)) = some y4 := by
  obtain ⟨xs, n, _, hx, _, hlen, hf⟩ := DataW.trod_struct ht h
  match xs, hlen with
  | [y0, y1, y2, y3, y4], _ => exact ⟨y0, y1, y2, y3, y4, n, by rw [hx]; rfl, by simpa using hf 0 f0 rfl, by simpa using hf 1 f1 rfl, by simpa using hf 2 f2 rfl, by simpa using hf 3 f3 rfl, by simpa using hf 4 f4 rfl⟩
theorem sized_of {H : Type} {ts : List TypeId} {ds : List (DataW H)} {j : Nat} {t : TypeId} {D : DataW H}
    (hZ : (DataW.weightsEach Tryz.prog ts ds).all (· ≤ reachBytes) = true) (hj : ts[j]? = some t) (hd : ds[j]? = some D) : ∀ q ∈ D.weights Tryz.prog t, q ≤ 140737488351232 := fun q hq =>
  of_decide_eq_true (List.all_eq_true.1 hZ _ (DataW.weights_mem_each hj hd q hq))
end Go.Proofs.YthgnecggdlamfaaGreat
/- Rows and puts, in plain words: layer 11's mathematics. -/
namespace Go.Proofs.YthgnecggdlamfaaGreat

/-- A row. -/
structure Ro where
  key : ByteArray
  val : ByteArray
  ver : Nat
/-- A put. -/
structure Pu where
  key : ByteArray
  val : ByteArray
  gone : Bool
/-- Whether bytes are ahead of other ones. -/
def lessL : List UInt8 → List UInt8 → Bool
  | _, [] => false
  | [], _ :: _ => true
  | a :: r, b :: s => if a = b then lessL r s else decide (a.toNat < b.toNat)
theorem lessL_irrefl : ∀ l, lessL l l = false
  | [] => rfl
  | a :: r => by rw [lessL, if_pos rfl]; exact lessL_irrefl r
theorem lessL_trans : ∀ a b c, lessL a b = true → lessL b c = true → lessL a c = true
  | _, _, [], _, h => by rename_i b _; cases b <;> simp [lessL] at h
  | [], b, c :: t, h1, h2 => rfl
  | x :: r, [], c :: t, h1, h2 => by simp [lessL] at h1
  | x :: r, y :: s, z :: t, h1, h2 => by
    simp only [lessL] at h1 h2 ⊢
    by_cases e1 : x = y
    · subst e1
      rw [if_pos rfl] at h1
      by_cases e2 : x = z
      · subst e2
        rw [if_pos rfl] at h2 ⊢
        exact lessL_trans r s t h1 h2
      · rw [if_neg e2] at h2 ⊢
        exact h2
    · rw [if_neg e1] at h1
      have l1 := of_decide_eq_true h1
      by_cases e2 : y = z
      · subst e2
        rw [if_neg e1]; exact h1
      · rw [if_neg e2] at h2
        have l2 := of_decide_eq_true h2
        rw [if_neg (fun e => by subst e; omega)]
        exact decide_eq_true (by omega)
theorem lessL_total : ∀ a b, lessL a b = false → lessL b a = false → a = b
  | [], [], _, _ => rfl
  | [], _ :: _, h, _ => by simp [lessL] at h
  | _ :: _, [], _, h => by simp [lessL] at h
  | x :: r, y :: s, h1, h2 => by
    simp only [lessL] at h1 h2
    by_cases e : x = y
    · subst e
      rw [if_pos rfl] at h1 h2
      rw [lessL_total r s h1 h2]
    · rw [if_neg e] at h1
      rw [if_neg (fun h => e h.symm)] at h2
      have l1 := of_decide_eq_false h1
      have l2 := of_decide_eq_false h2
      exact absurd (UInt8.toNat_inj.1 (by omega)) e
theorem ba_ext {a b : ByteArray} (h : a.data.toList = b.data.toList) : a = b := by
  cases a; cases b; simp only [ByteArray.mk.injEq]; exact Array.toList_inj.1 h
/-- Whether a text is ahead of another one. -/
def lessB (a b : ByteArray) : Bool := lessL a.data.toList b.data.toList
theorem lessB_irrefl (a : ByteArray) : lessB a a = false := lessL_irrefl _
theorem lessB_trans {a b c : ByteArray} (h1 : lessB a b = true) (h2 : lessB b c = true) : lessB a c = true := lessL_trans _ _ _ h1 h2
theorem lessB_total {a b : ByteArray} (h1 : lessB a b = false) (h2 : lessB b a = false) : a = b := ba_ext (lessL_total _ _ h1 h2)
theorem lessB_ne {a b : ByteArray} (h : lessB a b = true) : a ≠ b := fun e => by subst e; rw [lessB_irrefl] at h; cases h
theorem lessB_asym {a b : ByteArray} (h : lessB a b = true) : lessB b a = false := by
  rcases h2 : lessB b a with _ | _
  · rfl
  · exact absurd (lessB_trans h h2) (by rw [lessB_irrefl]; decide)

/-- Whether a row may be. -/
def rowOk (x : Ro) : Bool := decide (1 ≤ x.key.size) && (decide (x.key.size ≤ 16) && (decide (x.val.size ≤ 32) && decide (x.ver ≤ 4611686018427387903)))
/-- Whether rows may be, and rise, behind a key. -/
def ascF : Option ByteArray → List Ro → Bool
  | _, [] => true
  | p, x :: r => rowOk x && ((match p with | none => true | some k => lessB k x.key) && ascF (some x.key) r)
/-- Whether a list is right. -/
def rightB (L : List Ro) : Bool := decide (L.length ≤ 32) && ascF none L
/-- The first row of a key. -/
def getR (k : ByteArray) : List Ro → Option Ro
  | [] => none
  | x :: r => if x.key = k then some x else getR k r
/-- Whether a put may be done. -/
def putOk (x : Pu) : Bool := decide (1 ≤ x.key.size) && (decide (x.key.size ≤ 16) && (decide (x.val.size ≤ 32) && !(x.gone && decide (0 < x.val.size))))
/-- Whether a key is among those of puts. -/
def keyIn (k : ByteArray) : List Pu → Bool
  | [] => false
  | x :: r => decide (x.key = k) || keyIn k r
/-- Whether puts may be done, behind others. -/
def fitF : List Pu → List Pu → Bool
  | _, [] => true
  | p, x :: r => putOk x && (!keyIn x.key p && fitF (p ++ [x]) r)
/-- The answer of Fits. -/
def fitsX (P : List Pu) : Nat := if 8 < P.length then 4 else if fitF [] P then 0 else 1
/-- A row in the place of the first of its key. -/
def setR (y : Ro) : List Ro → List Ro
  | [] => []
  | x :: r => if x.key = y.key then y :: r else x :: setR y r
/-- A row ahead of the first greater one. -/
def insR (y : Ro) : List Ro → List Ro
  | [] => [y]
  | x :: r => if lessB y.key x.key then y :: x :: r else x :: insR y r
/-- The rows of other keys. -/
def delR (k : ByteArray) : List Ro → List Ro
  | [] => []
  | x :: r => if x.key = k then delR k r else x :: delR k r
/-- What Do answers: rows, and an error. -/
def doR (L : List Ro) (p : Pu) (ver : Nat) : List Ro × Nat :=
  if fitsX [p] ≠ 0 then ([], fitsX [p])
  else if p.gone then (delR p.key L, 0)
  else if (getR p.key L).isSome then (setR ⟨p.key, p.val, ver⟩ L, 0)
  else if 32 ≤ L.length then ([], 5)
  else (insR ⟨p.key, p.val, ver⟩ L, 0)
/-- Puts of one kind, one behind the other. -/
def seqR (ver : Nat) : List Ro → List Pu → List Ro × Nat
  | L, [] => (L, 0)
  | L, p :: r => if (doR L p ver).2 = 0 then seqR ver (doR L p ver).1 r else ([], (doR L p ver).2)
/-- What All answers. -/
def allR (L : List Ro) (P : List Pu) (ver : Nat) : List Ro × Nat :=
  if fitsX P ≠ 0 then ([], fitsX P)
  else if (seqR ver L (P.filter fun p => p.gone)).2 = 0 then seqR ver (seqR ver L (P.filter fun p => p.gone)).1 (P.filter fun p => !p.gone)
  else ([], (seqR ver L (P.filter fun p => p.gone)).2)
theorem delR_len (k : ByteArray) : ∀ L, (delR k L).length ≤ L.length
  | [] => Nat.le_refl _
  | x :: r => by
    have := delR_len k r
    simp only [delR]; split <;> simp <;> omega
theorem setR_len (y : Ro) : ∀ L, (setR y L).length = L.length
  | [] => rfl
  | x :: r => by
    have := setR_len y r
    simp only [setR]; split <;> simp; omega
theorem insR_len (y : Ro) : ∀ L, (insR y L).length = L.length + 1
  | [] => rfl
  | x :: r => by
    have := insR_len y r
    simp only [insR]; split <;> simp; omega
theorem doR_len (L : List Ro) (p : Pu) (ver : Nat) : (doR L p ver).1.length ≤ L.length + 1 := by
  unfold doR
  split
  · simp
  split
  · have := delR_len p.key L; simp only; omega
  split
  · simp only; rw [setR_len]; omega
  split
  · simp
  · simp only; rw [insR_len]; omega
end Go.Proofs.YthgnecggdlamfaaGreat
/- Whether a text is ahead of another one: the document's. -/
namespace Go.Proofs.YthgnecggdlamfaaGreat
open Go.RowKit

theorem lessL_at {a b : List UInt8} {k : Nat} {x y : UInt8} (hx : a[k]? = some x) (hy : b[k]? = some y) : lessL (a.drop k) (b.drop k) = if x = y then lessL (a.drop (k + 1)) (b.drop (k + 1)) else decide (x.toNat < y.toNat) := by
  obtain ⟨h1, rfl⟩ := List.getElem?_eq_some_iff.1 hx
  obtain ⟨h2, rfl⟩ := List.getElem?_eq_some_iff.1 hy
  rw [List.drop_eq_getElem_cons h1, List.drop_eq_getElem_cons h2, lessL]
theorem lessL_end {a b : List UInt8} {k : Nat} (ha : k ≤ a.length) (hb : k ≤ b.length) (h : a.length ≤ k ∨ b.length ≤ k) : lessL (a.drop k) (b.drop k) = decide (a.length < b.length) := by
  rcases Nat.lt_or_ge k b.length with h1 | h1
  · have h2 : a.length = k := by omega
    rw [List.drop_eq_nil_of_le (by omega), List.drop_eq_getElem_cons h1]
    simp only [lessL]; exact (decide_eq_true (by omega)).symm
  · rw [List.drop_eq_nil_of_le h1]
    have : lessL (a.drop k) [] = false := by cases a.drop k <;> rfl
    rw [this]; exact (decide_eq_false (by omega)).symm
set_option maxHeartbeats 1000000 in
theorem rLess_any (a b : ByteArray) (ha : a.size ≤ 140737488351232) (_ : b.size ≤ 140737488351232) (w : World) :
    Calls Tryz.prog 52 #[.string a, .string b] w fun e w' => e = .returned (.bool (lessB a b)) ∧ ∃ q, w' = w.drewN q := by
  obtain ⟨r, hr⟩ : ∃ r, lessB a b = r := ⟨_, rfl⟩
  rw [hr]
  have HR := Lib.hid hr
  have hal : a.data.toList.length = a.size := by simp
  have hbl : b.data.toList.length = b.size := by simp
  have HAL := Lib.hid hal
  have HBL := Lib.hid hbl
  clear hr hal hbl
  go_enter Tryz.func52, Tryz.ntmps52
  go_wp2_with fail
  go_loopw [5] (fun u wr => ∃ k q : Nat, k ≤ a.size ∧ k ≤ b.size ∧ u = .int .i64 k ∧ lessL (a.data.toList.drop k) (b.data.toList.drop k) = r ∧ wr = w.drewN q) (fun u _ => a.size - (intOf u).toNat)
  case atStart => exact ⟨0, 0, Nat.zero_le _, Nat.zero_le _, rfl, HR.out, rfl⟩
  case round =>
    obtain ⟨k, q, hk1, hk2, rfl, hl, hq⟩ := hrel
    have HL := Lib.hid hl
    have HQ := Lib.hid hq
    clear hl hq
    by_cases h1 : k < a.size
    · have g1 : (k : Int) < (a.size : Int) := by omega
      by_cases h2 : k < b.size
      · have g2 : (k : Int) < (b.size : Int) := by omega
        obtain ⟨x, hx⟩ : ∃ x, a.data.toList[k]? = some x := ⟨_, List.getElem?_eq_getElem (by rw [HAL.out]; exact h1)⟩
        obtain ⟨y, hy⟩ : ∃ y, b.data.toList[k]? = some y := ⟨_, List.getElem?_eq_getElem (by rw [HBL.out]; exact h2)⟩
        have ex : a[k] = x := by
          have := (List.getElem?_eq_some_iff.1 hx).2
          rw [← this]; simp; rfl
        have ey : b[k] = y := by
          have := (List.getElem?_eq_some_iff.1 hy).2
          rw [← this]; simp; rfl
        obtain ⟨x0, hx0, xa, xb⟩ : ∃ z : Int, (x.toNat : Int) = z ∧ 0 ≤ z ∧ z < 256 := ⟨_, rfl, by omega, by have := x.toNat_lt; omega⟩
        obtain ⟨y0, hy0, ya, yb⟩ : ∃ z : Int, (y.toNat : Int) = z ∧ 0 ≤ z ∧ z < 256 := ⟨_, rfl, by omega, by have := y.toNat_lt; omega⟩
        have f1 : (a[k].toNat : Int) = x0 := by rw [ex]; exact hx0
        have f2 : (b[k].toNat : Int) = y0 := by rw [ey]; exact hy0
        have HA := Lib.hid (HL.out.symm.trans (lessL_at hx hy))
        have HE := Lib.hid (show x = y ↔ x0 = y0 from ⟨fun e => by rw [← hx0, ← hy0, e], fun e => UInt8.toNat_inj.1 (by omega)⟩)
        have HD := Lib.hid (show decide (x.toNat < y.toNat) = decide (x0 < y0) by rw [decide_eq_decide]; omega)
        clear hx hy ex ey hx0 hy0
        by_cases he : x0 = y0
        · have HN := Lib.hid (show lessL (a.data.toList.drop (k + 1)) (b.data.toList.drop (k + 1)) = r by rw [HA.out, if_pos (HE.out.2 he)])
          subst he
          go_wp2_with fail
          go_quiet (fail)
          go_wp2_with fail
          go_roundw
          case rel => exact ⟨k + 1, q + nq, by omega, by omega, by go_num, HN.out, by rw [HQ.out, World.drewN_drewN]⟩
          case measure => simp [intOf]; omega
        · have HN := Lib.hid (show r = decide (x0 < y0) by rw [HA.out, if_neg (fun e => he (HE.out.1 e)), HD.out])
          have g3 : (x0 == y0) = false := by simpa using he
          go_wp2_with fail
          go_quiet (fail)
          go_wp2_with fail
          go_quiet (fail)
          go_wp2_with fail
          go_ret
          exact ⟨by rw [HN.out]; first | rfl | simp, _, by rw [HQ.out, World.drewN_drewN, World.drewN_drewN]⟩
      · have g2 : ¬ (k : Int) < (b.size : Int) := by omega
        have HN := Lib.hid (show r = decide ((a.size : Int) < (b.size : Int)) by rw [HL.out.symm.trans (lessL_end (by rw [HAL.out]; omega) (by rw [HBL.out]; omega) (.inr (by rw [HBL.out]; omega))), HAL.out, HBL.out, decide_eq_decide]; omega)
        go_wp2_with fail
        go_ret
        exact ⟨by rw [HN.out]; first | rfl | simp, _, HQ.out⟩
    · have g1 : ¬ (k : Int) < (a.size : Int) := by omega
      have HN := Lib.hid (show r = decide ((a.size : Int) < (b.size : Int)) by rw [HL.out.symm.trans (lessL_end (by rw [HAL.out]; omega) (by rw [HBL.out]; omega) (.inl (by rw [HAL.out]; omega))), HAL.out, HBL.out, decide_eq_decide]; omega)
      go_wp2_with fail
      go_ret
      exact ⟨by rw [HN.out]; first | rfl | simp, _, HQ.out⟩
end Go.Proofs.YthgnecggdlamfaaGreat
