/- Lists of numbers, marks, and configurations in memory, in plain words. -/
import Derived.Test.YtdcpiaoadbbdoaaGreatDoorRb
import Derived.Test.YtdcpiaoadbbdoaaGreatDoorRows
import Derived.WalkKit
import Derived.WalkSpells
import Derived.WalkLawsBesides
import Derived.Lib.Hide
import Derived.Handy
import Derived.IntWalk
import Derived.Deep.QuietTactic
import Derived.BigQuiet
import Derived.Laws.StructEq
import Derived.WalkSmall
import Derived.Laws.AppendOwn
import Derived.Laws.OwnMore
import Derived.OwnWalk
import Derived.Deep.RegionHeld
import Derived.ArgAppend
import Derived.Test.YtdcpiaoadbbdoaaGreatDoorPlay
import Derived.Laws.MakeOwn
import Derived.Outline
set_option maxRecDepth 100000
set_option maxHeartbeats 16000000
namespace Go.Proofs.YtdcpiaoadbbdoaaGreatDoor
open Go.RowKit

def Us (w : World) (a : Option Addr) (L : List Nat) : Prop :=
 ∀ j x, L[j]? = some x → ∃ b off, a = some ⟨b, off, none⟩ ∧ b < w.heap.size ∧ w.cell? ⟨b, off + j, none⟩ = some (.int .u64 (x : Nat))
theorem Us.later {w w' : World} {a : Option Addr} {L : List Nat} (h : Us w a L) (hb : Below w.heap.size w w') : Us w' a L := fun j x hx => by
 obtain ⟨b, off, e, hlt, c⟩ := h j x hx
 exact ⟨b, off, e, Nat.lt_of_lt_of_le hlt hb.size, (hb.cell (p := ⟨b, off + j, none⟩) hlt).trans c⟩
theorem Us.nil (w : World) (a : Option Addr) : Us w a [] := fun j x hx => by simp at hx
theorem Us.set {w : World} {a : Option Addr} {L : List Nat} (h : Us w a L) {x : Nat} (hne : ∀ q, a = some q → q.block ≠ x) (o : Nat) (v : Value) : Us (w.setCell ⟨x, o, none⟩ v) a L := fun j y hy => by
 obtain ⟨b, off, e, hlt, c⟩ := h j y hy
 have hb : x ≠ b := fun h => hne _ e h.symm
 exact ⟨b, off, e, by simpa using hlt, (World.cell?_setCell_far _ _ _ _ hb).trans c⟩
theorem Us.set' {w : World} {a : Option Addr} {L : List Nat} (h : Us w a L) {x : Nat} (hne : 0 < L.length → ∀ q, a = some q → q.block ≠ x) (o : Nat) (v : Value) : Us (w.setCell ⟨x, o, none⟩ v) a L := by
 rcases Nat.eq_zero_or_pos L.length with h0 | h0
 · rw [List.length_eq_zero_iff.1 h0]; exact Us.nil _ _
 · exact h.set (hne h0) o v
theorem Us.addr {w : World} {a : Option Addr} {L : List Nat} (h : Us w a L) (hL : 0 < L.length) : ∃ b off, a = some ⟨b, off, none⟩ ∧ b < w.heap.size := by
 obtain ⟨b2, off2, e, hlt, _⟩ := h 0 _ (List.getElem?_eq_getElem hL)
 exact ⟨b2, off2, e, hlt⟩
def usCells (L : List Nat) : List Value := L.map fun x => Value.int .u64 (x : Nat)
theorem usCells_len (L : List Nat) : (usCells L).length = L.length := by simp [usCells]
theorem usCells_at (L : List Nat) (j x : Nat) (h : L[j]? = some x) : (usCells L)[j]? = some (.int .u64 (x : Nat)) := by simp [usCells, h]
theorem usCells_app (L M : List Nat) : usCells (L ++ M) = usCells L ++ usCells M := by simp [usCells]
theorem oneUs (L : List Nat) : ∀ u ∈ usCells L, u.oneCell' = true := by
 intro u hu; simp only [usCells, List.mem_map] at hu; obtain ⟨x, _, rfl⟩ := hu; rfl
theorem us_row {w : World} {b off : Nat} {L : List Nat} (h : Us w (some ⟨b, off, none⟩) L) : ∀ j u, (usCells L)[j]? = some u → w.cell? ⟨b, off + j, none⟩ = some u := by
 intro j u hj
 have hlt := (List.getElem?_eq_some_iff.1 hj).1
 rw [usCells_len] at hlt
 obtain ⟨x, hx⟩ : ∃ x, L[j]? = some x := ⟨_, List.getElem?_eq_getElem hlt⟩
 obtain ⟨b', off', e1, _, c⟩ := h j x hx
 cases e1
 rw [usCells_at L j x hx] at hj
 rw [c]; exact hj
theorem lt_of_rowG {w : World} {b : Nat} {o : Obj} (hb : w.heap[b]? = some o) : b < w.heap.size := (Array.getElem?_eq_some_iff.1 hb).1
theorem infoU64 : (Tryz.prog.info? 22).map (fun i => (i.zero, i.size, i.bytes)) = some (some (.int .u64 0), 1, 8) := by kernel_rfl
theorem us_of_owns {w : World} {B : Nat} {v : Value} {L : List Nat} (h : w.ownsRow B 22 1 v L.length (usCells L)) : ∃ a cap, v = .slice a L.length cap ∧ L.length ≤ cap ∧ Us w a L ∧ ∀ q, a = some q → B ≤ q.block := by
 rcases h.2 with ⟨rfl, h0⟩ | ⟨g, cap, cur, rfl, hB, hg, h1, h2, h3, htake⟩
 · refine ⟨none, 0, by rw [h0], by omega, fun j x hx => ?_, fun q e => by cases e⟩
   have := (List.getElem?_eq_some_iff.1 hx).1; omega
 · refine ⟨_, cap, rfl, by omega, fun j x hx => ?_, fun q e => by cases e; exact hB⟩
   refine ⟨g, 0, rfl, lt_of_rowG hg, ?_⟩
   rw [cell_of_row w g _ cur _ _ hg, ← Array.getElem?_toList]
   have h1 := usCells_at L j x hx
   have hj := (List.getElem?_eq_some_iff.1 hx).1
   rw [← htake, List.getElem?_take_of_lt (by omega)] at h1
   rw [Nat.zero_add]; exact h1

structure Mk where
 id : Nat
 n : Nat
def Ms (w : World) (a : Option Addr) (L : List Mk) : Prop :=
 ∀ j x, L[j]? = some x → ∃ b off, a = some ⟨b, off, none⟩ ∧ b < w.heap.size ∧ w.cell? ⟨b, off + j * 2, none⟩ = some (.int .u64 (x.id : Nat)) ∧ w.cell? ⟨b, off + j * 2 + 1, none⟩ = some (.int .u64 (x.n : Nat))
theorem Ms.later {w w' : World} {a : Option Addr} {L : List Mk} (h : Ms w a L) (hb : Below w.heap.size w w') : Ms w' a L := fun j x hx => by
 obtain ⟨b, off, e, hlt, c0, c1⟩ := h j x hx
 exact ⟨b, off, e, Nat.lt_of_lt_of_le hlt hb.size, (hb.cell (p := ⟨b, off + j * 2, none⟩) hlt).trans c0, (hb.cell (p := ⟨b, off + j * 2 + 1, none⟩) hlt).trans c1⟩
theorem Ms.addr {w : World} {a : Option Addr} {L : List Mk} (h : Ms w a L) (hL : 0 < L.length) : ∃ b off, a = some ⟨b, off, none⟩ ∧ b < w.heap.size := by
 obtain ⟨b2, off2, e, hlt, _, _⟩ := h 0 _ (List.getElem?_eq_getElem hL)
 exact ⟨b2, off2, e, hlt⟩
def mkCells (x : Mk) : List Value := [.int .u64 (x.id : Nat), .int .u64 (x.n : Nat)]
def msCells (L : List Mk) : List Value := L.flatMap mkCells
theorem msCells_len (L : List Mk) : (msCells L).length = L.length * 2 := by
 induction L with
 | nil => rfl
 | cons y L ih => simp only [msCells, List.flatMap_cons, List.length_append, List.length_cons] at ih ⊢; rw [ih]; simp [mkCells]; omega
theorem msCells_at (L : List Mk) : ∀ (j : Nat) (x : Mk), L[j]? = some x → ∀ i (h : i < 2), (msCells L)[j * 2 + i]? = some ((mkCells x)[i]'h) := by
 induction L with
 | nil => intro j x h; simp at h
 | cons y L ih =>
  intro j x h i hi
  cases j with
  | zero =>
   obtain rfl : y = x := by simpa using h
   simp only [msCells, List.flatMap_cons, Nat.zero_mul, Nat.zero_add]
   rw [List.getElem?_append_left (by simpa [mkCells] using hi), List.getElem?_eq_getElem (by simpa [mkCells] using hi)]
   rfl
  | succ j =>
   have h2 := ih j x (by simpa using h) i hi
   simp only [msCells, List.flatMap_cons]
   rw [List.getElem?_append_right (by simp [mkCells]; omega)]
   have e : (j + 1) * 2 + i - (mkCells y).length = j * 2 + i := by simp [mkCells]; omega
   rw [e]; exact h2
theorem infoMark : (Tryz.prog.info? 100).map (fun i => (i.zero, i.size, i.bytes)) = some (some (.agg #[.int .u64 0, .int .u64 0]), 2, 16) := by kernel_rfl
theorem ms_of_owns {w : World} {B : Nat} {v : Value} {L : List Mk} (h : w.ownsRow B 100 2 v L.length (msCells L)) : ∃ a cap, v = .slice a L.length cap ∧ Ms w a L ∧ ∀ q, a = some q → B ≤ q.block := by
 rcases h.2 with ⟨rfl, h0⟩ | ⟨g, cap, cur, rfl, hB, hg, _, _, _, htake⟩
 · refine ⟨none, 0, by rw [h0], fun j x hx => ?_, fun q e => by cases e⟩
   have := (List.getElem?_eq_some_iff.1 hx).1; omega
 · refine ⟨_, cap, rfl, fun j x hx => ?_, fun q e => by cases e; exact hB⟩
   have hj := (List.getElem?_eq_some_iff.1 hx).1
   have c : ∀ i (hi : i < 2), w.cell? ⟨g, j * 2 + i, none⟩ = some ((mkCells x)[i]'hi) := fun i hi => by
    rw [cell_of_row w g _ cur _ _ hg, ← Array.getElem?_toList]
    have h1 := msCells_at L j x hx i hi
    rw [← htake, List.getElem?_take_of_lt (by omega)] at h1
    exact h1
   exact ⟨g, 0, rfl, lt_of_rowG hg, by simpa [mkCells] using c 0 (by omega), by simpa [mkCells] using c 1 (by omega)⟩
theorem ms_row {w : World} {b off : Nat} {L : List Mk} (h : Ms w (some ⟨b, off, none⟩) L) : ∀ j u, (msCells L)[j]? = some u → w.cell? ⟨b, off + j, none⟩ = some u := by
 intro j u hj
 have hlt := (List.getElem?_eq_some_iff.1 hj).1
 rw [msCells_len] at hlt
 obtain ⟨x, hx⟩ : ∃ x, L[j / 2]? = some x := ⟨_, List.getElem?_eq_getElem (by omega)⟩
 have e := msCells_at L (j / 2) x hx (j % 2) (by omega)
 rw [show j / 2 * 2 + j % 2 = j by omega, hj] at e
 obtain ⟨b', off', e1, _, c0, c1⟩ := h (j / 2) x hx
 cases e1
 have hcase : j % 2 = 0 ∨ j % 2 = 1 := by omega
 rcases hcase with h0 | h0
 · rw [show off + j = off + j / 2 * 2 by omega, c0]; simp only [h0] at e; simpa [mkCells] using e.symm
 · rw [show off + j = off + j / 2 * 2 + 1 by omega, c1]; simp only [h0] at e; simpa [mkCells] using e.symm
theorem oneMs (L : List Mk) : ∀ u ∈ msCells L, u.oneCell' = true := by
 intro u hu
 simp only [msCells, List.mem_flatMap] at hu
 obtain ⟨x, _, hx⟩ := hu
 simp only [mkCells, List.mem_cons, List.not_mem_nil, or_false] at hx
 rcases hx with rfl | rfl <;> rfl
theorem addAny (b off j : Nat) : (⟨b, off, none⟩ : Addr).add j = ⟨b, off + j, none⟩ := Addr.add_lit ..

structure Cb (w : World) (x : Nat) (u v : Value) : Prop where
 c0 : w.cell? ⟨x, 0, none⟩ = some u
 c1 : w.cell? ⟨x, 1, none⟩ = some v
 fz : ∀ j, w.frozen? ⟨x, j, none⟩ = false
 lt : x < w.heap.size
theorem Cb.new {w : World} {x : Nat} (hx : x = w.heap.size) (u v : Value) (T : TypeId) : Cb (w.alloc (.cells #[u, v] T)) x u v := by
 subst hx
 exact ⟨by simp [go_sem], by simp [go_sem], fun j => by simp [go_sem], by simp⟩
theorem Cb.later {w w' : World} {x : Nat} {u v : Value} (h : Cb w x u v) (hb : Below w.heap.size w w') : Cb w' x u v :=
 ⟨(hb.cell (p := ⟨x, 0, none⟩) h.lt).trans h.c0, (hb.cell (p := ⟨x, 1, none⟩) h.lt).trans h.c1, fun j => (hb.frozen (p := ⟨x, j, none⟩) h.lt).trans (h.fz j), Nat.lt_of_lt_of_le h.lt hb.size⟩
theorem Cb.under {w w' : World} {x B : Nat} {u v : Value} (h : Cb w x u v) (hx : x < B) (hb : Below B w w') : Cb w' x u v :=
 ⟨(hb.cell (p := ⟨x, 0, none⟩) hx).trans h.c0, (hb.cell (p := ⟨x, 1, none⟩) hx).trans h.c1, fun j => (hb.frozen (p := ⟨x, j, none⟩) hx).trans (h.fz j), Nat.lt_of_lt_of_le h.lt hb.size⟩
theorem Cb.past {w : World} {x : Nat} {u v : Value} (h : Cb w x u v) (ob : Obj) : Cb (w.alloc ob) x u v := h.later ((Below.refl _ _).alloc (Nat.le_refl _) _)
theorem Cb.far {w : World} {x : Nat} {u v : Value} (h : Cb w x u v) {y : Nat} (hne : y ≠ x) (o : Nat) (z : Value) : Cb (w.setCell ⟨y, o, none⟩ z) x u v :=
 ⟨(World.cell?_setCell_far _ _ _ _ hne).trans h.c0, (World.cell?_setCell_far _ _ _ _ hne).trans h.c1, fun j => by simpa using h.fz j, by simpa using h.lt⟩
structure Nb (w : World) (h : Nat) (v : Nat) : Prop where
 c : w.cell? ⟨h, 0, none⟩ = some (.int .u64 v)
 fz : w.frozen? ⟨h, 0, none⟩ = false
 lt : h < w.heap.size
theorem Nb.new {w : World} {x : Nat} (hx : x = w.heap.size) (v : Nat) (T : TypeId) : Nb (w.alloc (.cells #[.int .u64 v] T)) x v := by
 subst hx
 exact ⟨by simp [go_sem], by simp [go_sem], by simp⟩
theorem Nb.later {w w' : World} {h v : Nat} (H : Nb w h v) (hb : Below w.heap.size w w') : Nb w' h v := ⟨(hb.cell (p := ⟨h, 0, none⟩) H.lt).trans H.c, (hb.frozen (p := ⟨h, 0, none⟩) H.lt).trans H.fz, Nat.lt_of_lt_of_le H.lt hb.size⟩

def hasN (v : Nat) : List Nat → Bool
 | [] => false
 | x :: r => decide (x = v) || hasN v r
theorem hasN_at {v k x : Nat} {L : List Nat} (hx : L[k]? = some x) : hasN v (L.drop k) = (decide (x = v) || hasN v (L.drop (k + 1))) := by
 obtain ⟨hk, rfl⟩ := List.getElem?_eq_some_iff.1 hx
 rw [List.drop_eq_getElem_cons hk]; rfl
theorem hasN_iff {v : Nat} {L : List Nat} : hasN v L = true ↔ v ∈ L := by
 induction L with
 | nil => simp [hasN]
 | cons x r ih =>
  simp only [hasN, Bool.or_eq_true, decide_eq_true_eq, ih, List.mem_cons]
  exact ⟨fun h => h.imp Eq.symm id, fun h => h.imp Eq.symm id⟩
def markN (id : Nat) : List Mk → Nat × Bool
 | [] => (0, false)
 | x :: r => if x.id = id then (x.n, true) else markN id r

def numsB (L : List Nat) : List UInt8 := numB L.length ++ L.flatMap numB
def preB (L : List Nat) (k : Nat) : List UInt8 := numB L.length ++ (L.take k).flatMap numB
theorem preB_all (L : List Nat) : preB L L.length = numsB L := by unfold preB numsB; rw [List.take_length]
theorem preB_succ (L : List Nat) (k : Nat) (h : k < L.length) : preB L (k + 1) = preB L k ++ numB L[k] := by
 unfold preB; rw [List.take_succ_eq_append_getElem h, List.flatMap_append, List.append_assoc]; simp
theorem numB_pos (n : Nat) (h : n < 4611686018427387904) : 1 ≤ (numB n).length ∧ (numB n).length ≤ 8 := by
 have := numB_len (n : Int) (by omega) (by omega)
 rw [Int.toNat_natCast] at this
 unfold szOf at this
 constructor <;> split at this <;> (try omega) <;> split at this <;> (try omega) <;> split at this <;> (try omega) <;> split at this <;> omega
theorem preB_le (L : List Nat) (h : ∀ v ∈ L, v < 4611686018427387904) (hl : L.length ≤ 1048576) : ∀ k, k ≤ L.length → (preB L k).length ≤ 8 + 8 * k
 | 0, _ => by have := numB_pos L.length (by omega); simp [preB]; omega
 | k + 1, hk => by
  have h1 := preB_le L h hl k (by omega)
  have h2 := numB_pos L[k] (h _ (List.getElem_mem _))
  rw [preB_succ L k (by omega), List.length_append]; omega
theorem preB_mono (L : List Nat) (k : Nat) : (preB L k).length ≤ (numsB L).length := by
 have e : (L.flatMap numB).length = ((L.take k).flatMap numB).length + ((L.drop k).flatMap numB).length := by
  conv => lhs; rw [← List.take_append_drop k L]
  rw [List.flatMap_append, List.length_append]
 unfold preB numsB
 rw [List.length_append, List.length_append, e]; omega
theorem preB_lt (L : List Nat) (_ : ∀ v ∈ L, v < 4611686018427387904) (k : Nat) (hk : k < L.length) : (preB L k).length + (numB L[k]).length ≤ (numsB L).length := by
 have := preB_mono L (k + 1)
 rw [preB_succ L k hk, List.length_append] at this; exact this
def rowB (P : List UInt8) (n : Nat) : List Value := P.map u8v ++ List.replicate (n - P.length) (.int .u8 0)
theorem rowB_len (P : List UInt8) (n : Nat) (h : P.length ≤ n) : (rowB P n).length = n := by simp [rowB]; omega
theorem rowB_splice (P Q : List UInt8) (n : Nat) : splice (rowB P n) P.length (Q.map u8v) = rowB (P ++ Q) n := by
 unfold splice rowB
 rw [List.take_left' (by simp), show P.length + (Q.map u8v).length = (P.map u8v).length + Q.length by simp, List.drop_append, List.map_append, List.append_assoc]
 congr 2
 rw [List.drop_eq_nil_of_le (by omega), List.nil_append, List.drop_replicate, List.length_append]
 congr 1
 simp; omega
theorem rowB_all (P : List UInt8) : rowB P P.length = P.map u8v := by simp [rowB]
theorem infoU8 : (Tryz.prog.info? 5).map (fun i => (i.zero, i.size, i.bytes)) = some (some (.int .u8 0), 1, 1) := by kernel_rfl
theorem madeB : ∀ n : Nat, madeCells [Value.int .u8 0].toArray (n * 1) = (List.replicate n (Value.int .u8 0)).toArray := by
 intro n; rw [Nat.mul_one]
 apply Array.ext
 · rw [size_madeCells]; simp
 · intro i h1 h2
   have e : (madeCells [Value.int .u8 0].toArray n)[i]? = some (.int .u8 0) := by
    have h3 : i < n := by rw [size_madeCells] at h1; exact h1
    simp [madeCells, h3, Nat.mod_one]
   rw [Array.getElem?_eq_getElem h1] at e
   rw [Option.some.inj e]; simp
theorem mkB (n : Nat) (w : World) (hn : n ≤ 16777216) : (Instr.makeSlice 174 (.int .i64 n) (.int .i64 n)).run Tryz.prog w = .ok (.slice (some ⟨w.heap.size, 0, none⟩) n n) (w.alloc (.cells (rowB [] n).toArray 5)) := by
 obtain ⟨i0, hi, hz0, hz1, hz2⟩ := info_parts infoU8
 have h := run_makeSlice (P := Tryz.prog) (w := w) 174 5 i0 (.int .u8 0) Tryz.underlying174 hi hz0 .i64 .i64 n n (by omega) (Int.le_refl _) (by rw [hz1]; omega) (by rw [hz2]; omega) (by omega)
 rw [Int.toNat_natCast, hz1] at h
 rw [h, show (Value.int IntKind.u8 0).cells = [Value.int .u8 0].toArray from rfl, madeB]
 simp [rowB]

theorem sz_num (v : Nat) (h : v < 4611686018427387904) : szOf (v : Int) = ((numB v).length : Nat) := by
 have := numB_len (v : Int) (by omega) (by omega)
 rw [Int.toNat_natCast] at this; exact this.symm
theorem nums_any (n cap : Nat) (a : Option Addr) (L : List Nat) (hn : L.length = n) (hl : n ≤ 1048576) (hv : ∀ v ∈ L, v < 4611686018427387904) (w : World) (hU : Us w a L) (hT : Tz w) :
 Calls Tryz.prog 76 #[.slice a n cap] w fun e w' => e = .returned (.tuple #[.string ⟨(numsB L).toArray⟩, .int .i64 0]) ∧ Below w.heap.size w w' := by
 have hpos := numB_pos n (by omega)
 have hle : ∀ k, k ≤ n → (preB L k).length ≤ 8 + 8 * k := fun k hk => preB_le L hv (by omega) k (by omega)
 have HLE := hI_ hle; clear hle
 have HV := hI_ hv; clear hv
 have HN := hI_ hn; clear hn
 have hp0 : preB L 0 = numB n := by unfold preB; rw [HN.out]; simp
 have HP0 := hI_ hp0; clear hp0
 have hs0 := sz_num n (by omega)
 go_enter Tryz.func76, Tryz.ntmps76
 go_wp2_with fail
 refine (size_any _ _ (by omega)).mono ?_
 rintro e w' ⟨rfl, rfl⟩
 rw [hs0]
 clear hs0
 go_wp2_with fail
 go_loop [5, 20] (fun t i => ∃ k : Nat, k ≤ n ∧ i = .int .i64 k ∧ t = .int .i64 ((preB L k).length : Nat)) (fun _ i => n - (intOf i).toNat)
 case atStart => exact ⟨0, Nat.zero_le _, rfl, by rw [HP0.out]⟩
 case round =>
  obtain ⟨k, hk, rfl, rfl⟩ := hrel
  by_cases hlt : k < n
  · have hkl : k < L.length := by have := HN.out; omega
    obtain ⟨bk, off, rfl, hbk, hc⟩ := hU k _ (List.getElem?_eq_getElem hkl)
    obtain ⟨v, hvk⟩ : ∃ v, L[k] = v := ⟨_, rfl⟩
    rw [hvk] at hc
    have hvb : v < 4611686018427387904 := by rw [← hvk]; exact HV.out _ (List.getElem_mem _)
    have hvp := numB_pos v hvb
    have hnz : (((numB v).length : Int) == 0) = false := by simp; intro e; rw [e] at hvp; simp at hvp
    have hs := sz_num v hvb
    have hpk := HLE.out k hk
    have hps : (preB L (k + 1)).length = (preB L k).length + (numB v).length := by rw [preB_succ L k hkl, List.length_append, hvk]
    have HPS := hI_ hps; clear hps
    have HVK := hI_ hvk; clear hvk
    generalize hZ : (numB v).length = z at *
    generalize hY : (preB L k).length = y at *
    have HZ := hI_ hZ; clear hZ
    have HY := hI_ hY; clear hY
    have HS := hI_ hs; clear hs
    go_wp2_with fail
    refine (size_any _ _ (by omega)).mono ?_
    rintro e w' ⟨rfl, rfl⟩
    rw [HS.out]
    go_wp2_with fail
    go_round
    case rel => exact ⟨k + 1, by omega, by go_num, by rw [HPS.out]; go_num⟩
    case measure => simp [intOf]; omega
  · obtain rfl : k = n := by omega
    have hm1 := HLE.out k (Nat.le_refl _)
    have hall : preB L k = numsB L := by rw [← HN.out]; exact preB_all L
    obtain ⟨m, hm⟩ : ∃ m, (numsB L).length = m := ⟨_, rfl⟩
    rw [hall, hm] at hm1
    rw [hall, hm]
    have hmk := fun w => mkB m w (by omega)
    have HM := hI_ hm; clear hm
    have HALL := hI_ hall; clear hall
    clear hlt
    have hpm : (numB k).length ≤ m := by rw [← HM.out, ← HP0.out]; exact preB_mono L 0
    go_wp2_with fail
    refine (lay_any (k : Int) _ (by omega) (by omega) w.heap.size 0 m m (rowB [] m) (by rw [Int.toNat_natCast]; omega) (by rw [Int.toNat_natCast, rowB_len _ _ (Nat.zero_le _)]; omega) (heap_alloc_new _ _) (hT.below ((Below.refl _ _).alloc hT.n _))).mono ?_
    rintro e w1 ⟨rfl, hg, hb1⟩
    rw [Int.toNat_natCast] at *
    have hsp := rowB_splice [] (numB k) m
    simp only [List.length_nil, List.nil_append] at hsp
    rw [hsp] at hb1
    clear hsp
    have B1 : Below w.heap.size w w1 := ((Below.refl w.heap.size w).alloc (Nat.le_refl _) (.cells (rowB [] m).toArray 5)).grown hg (by simp) (fun j hj => by cases hj; exact Nat.le_refl _)
    clear hg hmk
    rw [← HP0.out] at hb1 ⊢
    clear hpos
    go_wp2_with fail
    go_loopw [10, 39] (fun t i wr => ∃ j : Nat, j ≤ k ∧ i = .int .i64 j ∧ t = .int .i64 ((preB L j).length : Nat) ∧ wr.heap[w.heap.size]? = some (.cells (rowB (preB L j) m).toArray 5 (0, 0)) ∧ Below w.heap.size w wr) (fun _ i _ => k - (intOf i).toNat)
    case atStart => exact ⟨0, Nat.zero_le _, rfl, rfl, hb1, B1⟩
    case round =>
     clear hb1 B1
     obtain ⟨j, hj, rfl, rfl, hrow, B⟩ := hrel
     by_cases hlt : j < k
     · have hkl : j < L.length := by have := HN.out; omega
       obtain ⟨bk, off, rfl, hbk, hc⟩ := (hU.later B) j _ (List.getElem?_eq_getElem hkl)
       have hlt2 := preB_lt L HV.out j hkl
       obtain ⟨v, hvk⟩ : ∃ v, L[j] = v := ⟨_, rfl⟩
       rw [hvk] at hc
       have hvb : v < 4611686018427387904 := by rw [← hvk]; exact HV.out _ (List.getElem_mem _)
       have hvp := numB_pos v hvb
       have hps : preB L (j + 1) = preB L j ++ numB v := by rw [preB_succ L j hkl, hvk]
       rw [HM.out, hvk] at hlt2
       have HPS := hI_ hps; clear hps
       have HVK := hI_ hvk; clear hvk
       obtain ⟨P, hPd⟩ : ∃ P, preB L j = P := ⟨_, rfl⟩
       rw [hPd] at hrow hlt2 ⊢
       have HPD := hI_ hPd; clear hPd
       obtain ⟨y, hY⟩ : ∃ y, P.length = y := ⟨_, rfl⟩
       rw [hY] at hlt2 ⊢
       have hy0 : (0 : Int) ≤ (y : Int) := by omega
       have hy1 : (y : Int) ≤ (m : Int) := by omega
       have hy2 : ¬ y = m := by omega
       have HY := hI_ hY; clear hY
       have HR := hI_ hrow; clear hrow
       go_wp2_with fail
       refine (lay_any (v : Int) _ (by omega) (by omega) w.heap.size y (m - y) _ (rowB P m) (by rw [Int.toNat_natCast]; omega) (by rw [Int.toNat_natCast, rowB_len _ _ (by have := HY.out; omega)]; omega) HR.out (hT.below (B.mono hT.n))).mono ?_
       rintro e w2 ⟨rfl, hg, hb2⟩
       rw [Int.toNat_natCast] at *
       have hsp := rowB_splice P (numB v) m
       rw [HY.out] at hsp
       rw [hsp] at hb2
       have B2 : Below w.heap.size w w2 := B.grown hg B.size (fun q hq => by cases hq; exact Nat.le_refl _)
       have HB2 := hI_ hb2
       have hyv : (P ++ numB v).length = y + (numB v).length := by rw [List.length_append, HY.out]
       have HYV := hI_ hyv
       clear hg hsp hc hb2 hyv
       go_wp2_with fail
       go_roundw
       case rel => exact ⟨j + 1, by omega, by go_num, by rw [HPS.out, HPD.out, HYV.out]; go_num, by rw [HPS.out, HPD.out]; exact HB2.out, B2⟩
       case measure => simp [intOf]; omega
     · obtain rfl : j = k := by omega
       rw [HALL.out] at hrow ⊢
       have hrow2 : wr.heap[w.heap.size]? = some (.cells ((numsB L).map u8v).toArray 5 (0, 0)) := by rw [hrow, ← HM.out, rowB_all]
       have hconv : (convert 174 9 (.slice (some ⟨w.heap.size, 0, none⟩) m m)).run Tryz.prog wr = .ok (.string ⟨(numsB L).toArray⟩) wr := by
        have := run_convert_bytes_back (P := Tryz.prog) wr 174 9 5 ⟨w.heap.size, 0, none⟩ m (numsB L) Tryz.underlying174 Tryz.underlying5 Tryz.underlying9 (fun i hi => by
         rw [addHead, cell_of_row wr _ i _ _ _ hrow2]
         simp [u8v, hi])
        rw [HM.out] at this; exact this
       clear hrow hrow2
       go_wp2_with fail
       go_ret2
       exact ⟨rfl, B⟩

theorem rSameU_any (n c c2 : Nat) (a a2 : Option Addr) (L : List Nat) (hn : L.length = n) (hl : n ≤ 140737488351232) (w : World) (h1 : Us w a L) (h2 : Us w a2 L) :
 Calls Tryz.prog 94 #[.slice a n c, .slice a2 n c2] w fun e w' => e = .returned (.bool true) ∧ Below w.heap.size w w' := by
 have HN := hI_ hn
 have H1 := hI_ h1
 have H2 := hI_ h2
 have HW := hI_ (Below.refl w.heap.size w)
 clear hn h1 h2
 go_enter Tryz.func94, Tryz.ntmps94
 go_wp2_with fail
 go_loopw [5] (fun u wr => ∃ k : Nat, k ≤ n ∧ u = .int .i64 k ∧ Below w.heap.size w wr) (fun u _ => n - (intOf u).toNat)
 case atStart => exact ⟨0, Nat.zero_le _, rfl, HW.out⟩
 case round =>
  obtain ⟨k, hk, rfl, hB⟩ := hrel
  have HB := hI_ hB
  by_cases hlt : k < n
  · obtain ⟨x, hx⟩ : ∃ x, L[k]? = some x := ⟨_, List.getElem?_eq_getElem (by rw [HN.out]; exact hlt)⟩
    have i0 : (0 : Int) ≤ (k : Int) := by omega
    have i1 : (k : Int) < (n : Int) := by omega
    obtain ⟨b, off, rfl, hb, p0⟩ := H1.out.later hB k x hx
    obtain ⟨b2, off2, rfl, hb2, q0⟩ := H2.out.later hB k x hx
    clear hx hB
    go_wp2_with fail
    go_quiet (fail)
    go_wp2_with fail
    go_roundw
    case rel => exact ⟨k + 1, by omega, by go_num, below_drewN HB.out _⟩
    case measure => simp [intOf]; omega
  · clear hB
    go_wp2_with fail
    go_ret
    exact ⟨by first | rfl | simp, HB.out⟩
theorem rMarks_any (n c c2 : Nat) (a a2 : Option Addr) (L : List Mk) (hn : L.length = n) (hl : n ≤ 140737488351232) (w : World) (h1 : Ms w a L) (h2 : Ms w a2 L) :
 Calls Tryz.prog 46 #[.slice a n c, .slice a2 n c2] w fun e w' => e = .returned (.bool true) ∧ Below w.heap.size w w' := by
 have HN := hI_ hn
 have H1 := hI_ h1
 have H2 := hI_ h2
 have HW := hI_ (Below.refl w.heap.size w)
 clear hn h1 h2
 go_enter Tryz.func46, Tryz.ntmps46
 go_wp2_with fail
 go_loopw [5] (fun u wr => ∃ k : Nat, k ≤ n ∧ u = .int .i64 k ∧ Below w.heap.size w wr) (fun u _ => n - (intOf u).toNat)
 case atStart => exact ⟨0, Nat.zero_le _, rfl, HW.out⟩
 case round =>
  obtain ⟨k, hk, rfl, hB⟩ := hrel
  have HB := hI_ hB
  by_cases hlt : k < n
  · obtain ⟨x, hx⟩ : ∃ x, L[k]? = some x := ⟨_, List.getElem?_eq_getElem (by rw [HN.out]; exact hlt)⟩
    have i0 : (0 : Int) ≤ (k : Int) := by omega
    have i1 : (k : Int) < (n : Int) := by omega
    obtain ⟨b, off, rfl, hb, p0, p1⟩ := H1.out.later hB k x hx
    obtain ⟨b2, off2, rfl, hb2, q0, q1⟩ := H2.out.later hB k x hx
    clear hx hB
    go_wp2_with fail
    go_quiet (fail)
    go_wp2_with fail
    go_roundw
    case rel => exact ⟨k + 1, by omega, by go_num, below_drewN HB.out _⟩
    case measure => simp [intOf]; omega
  · clear hB
    go_wp2_with fail
    go_ret
    exact ⟨by first | rfl | simp, HB.out⟩
theorem rSame_any (n c m d c2 d2 : Nat) (a a2 b b2 : Option Addr) (V L : List Nat) (hn : V.length = n) (hl : n ≤ 140737488351232) (hm : L.length = m) (hl2 : m ≤ 140737488351232) (w : World) (h1 : Us w a V) (h2 : Us w b L) (h3 : Us w a2 V) (h4 : Us w b2 L) :
 Calls Tryz.prog 43 #[.agg #[.slice a n c, .slice b m d], .agg #[.slice a2 n c2, .slice b2 m d2]] w fun e w' => e = .returned (.bool true) ∧ Below w.heap.size w w' := by
 have B0 : Below w.heap.size w ((w.alloc (.cells #[.slice a n c, .slice b m d] 25)).alloc (.cells #[.slice a2 n c2, .slice b2 m d2] 25)) := by go_grown
 have C0 := (Cb.new (w := w) rfl (.slice a n c) (.slice b m d) 25).past (.cells #[.slice a2 n c2, .slice b2 m d2] 25)
 have D0 := Cb.new (w := w.alloc (.cells #[.slice a n c, .slice b m d] 25)) rfl (.slice a2 n c2) (.slice b2 m d2) 25
 have es : (w.alloc (.cells #[.slice a n c, .slice b m d] 25)).heap.size = w.heap.size + 1 := by simp
 rw [es] at D0
 have H1 := hI_ (h1.later B0)
 have H2 := hI_ (h2.later B0)
 have H3 := hI_ (h3.later B0)
 have H4 := hI_ (h4.later B0)
 have HB := hI_ B0
 clear h1 h2 h3 h4 es
 go_enter Tryz.func43, Tryz.ntmps43
 go_wp2_with fail
 have HC := hI_ C0
 have HD := hI_ D0
 clear C0 D0 B0
 refine (rSameU_any n c c2 a a2 V hn hl _ H1.out H3.out).mono ?_
 rintro e w1 ⟨rfl, hb1⟩
 obtain ⟨c0, c1, _, _⟩ := HC.out.later hb1
 obtain ⟨d0, d1, _, _⟩ := HD.out.later hb1
 have B1 := hI_ (HB.out.trans (hb1.mono HB.out.size))
 have H2' := hI_ (H2.out.later hb1)
 have H4' := hI_ (H4.out.later hb1)
 clear hb1
 go_wp2_with fail
 refine (rSameU_any m d d2 b b2 L hm hl2 _ H2'.out H4'.out).mono ?_
 rintro e w2 ⟨rfl, hb2⟩
 have B2 := B1.out.trans (hb2.mono B1.out.size)
 clear hb2
 go_wp2_with fail
 go_ret
 exact ⟨by first | rfl | simp, B2⟩

theorem rHas_any (v n c : Nat) (a : Option Addr) (L : List Nat) (hn : L.length = n) (hl : n ≤ 140737488351232) (w : World) (hU : Us w a L) :
 Calls Tryz.prog 38 #[.slice a n c, .int .u64 v] w fun e w' => e = .returned (.bool (hasN v L)) ∧ w = w' := by
 have HN := hI_ hn
 have HU := hI_ hU
 clear hn hU
 go_enter Tryz.func38, Tryz.ntmps38
 go_wp2_with fail
 go_loop [5] (fun u => ∃ k : Nat, k ≤ n ∧ u = .int .i64 k ∧ hasN v L = hasN v (L.drop k)) (fun u => n - (intOf u).toNat)
 case atStart => exact ⟨0, Nat.zero_le _, rfl, rfl⟩
 case round =>
  obtain ⟨k, hk, rfl, hf⟩ := hrel
  have HFB := hI_ hf
  clear hf
  by_cases hlt : k < n
  · obtain ⟨x, hx⟩ : ∃ x, L[k]? = some x := ⟨_, List.getElem?_eq_getElem (by rw [HN.out]; exact hlt)⟩
    have i0 : (0 : Int) ≤ (k : Int) := by omega
    have i1 : (k : Int) < (n : Int) := by omega
    obtain ⟨b, off, rfl, hb, p0⟩ := HU.out k x hx
    have HFA := hI_ (HFB.out.trans (hasN_at (v := v) hx))
    clear hx
    by_cases he : x = v
    · subst he
      have HT := hI_ (show hasN x L = true by rw [HFA.out]; simp)
      go_wp2_with fail
      go_ret
      exact ⟨by rw [HT.out]; first | rfl | simp, rfl⟩
    · have g : ((x : Int) == (v : Int)) = false := by simp; omega
      have HT := hI_ (show hasN v L = hasN v (L.drop (k + 1)) by rw [HFA.out, decide_eq_false he]; rfl)
      go_wp2_with fail
      go_round
      case rel => exact ⟨k + 1, by omega, by go_num, HT.out⟩
      case measure => simp [intOf]; omega
  · have HT := hI_ (show hasN v L = false by rw [HFB.out, List.drop_eq_nil_of_le (by rw [HN.out]; omega)]; rfl)
    go_wp2_with fail
    go_ret
    exact ⟨by rw [HT.out]; first | rfl | simp, rfl⟩
theorem pIndex_any (v n c : Nat) (a : Option Addr) (L : List Nat) (hn : L.length = n) (hl : n ≤ 140737488351232) (w : World) (hU : Us w a L) :
 Calls Tryz.prog 119 #[.slice a n c, .int .u64 v] w fun e w' => (∃ k : Int, e = .returned (.int .i64 k) ∧ (0 ≤ k ↔ hasN v L = true)) ∧ w = w' := by
 have HN := hI_ hn
 have HU := hI_ hU
 clear hn hU
 go_enter Tryz.func119, Tryz.ntmps119
 go_wp2_with fail
 go_loop [8] (fun u => ∃ k : Nat, k ≤ n ∧ u = .int .i64 k ∧ hasN v L = hasN v (L.drop k)) (fun u => n - (intOf u).toNat)
 case atStart => exact ⟨0, Nat.zero_le _, rfl, rfl⟩
 case round =>
  obtain ⟨k, hk, rfl, hf⟩ := hrel
  have HFB := hI_ hf
  clear hf
  by_cases hlt : k < n
  · obtain ⟨x, hx⟩ : ∃ x, L[k]? = some x := ⟨_, List.getElem?_eq_getElem (by rw [HN.out]; exact hlt)⟩
    have i0 : (0 : Int) ≤ (k : Int) := by omega
    have i1 : (k : Int) < (n : Int) := by omega
    obtain ⟨b, off, rfl, hb, p0⟩ := HU.out k x hx
    have HFA := hI_ (HFB.out.trans (hasN_at (v := v) hx))
    clear hx
    by_cases he : x = v
    · subst he
      have HT := hI_ (show hasN x L = true by rw [HFA.out]; simp)
      go_wp2_with fail
      go_ret
      exact ⟨⟨k, rfl, ⟨fun _ => HT.out, fun _ => by omega⟩⟩, rfl⟩
    · have g : ((v : Int) == (x : Int)) = false := by simp; omega
      have HT := hI_ (show hasN v L = hasN v (L.drop (k + 1)) by rw [HFA.out, decide_eq_false he]; rfl)
      go_wp2_with fail
      go_round
      case rel => exact ⟨k + 1, by omega, by go_num, HT.out⟩
      case measure => simp [intOf]; omega
  · have HT := hI_ (show hasN v L = false by rw [HFB.out, List.drop_eq_nil_of_le (by rw [HN.out]; omega)]; rfl)
    go_wp2_with fail
    go_ret
    exact ⟨⟨-1, rfl, ⟨fun h => by omega, fun h => by rw [HT.out] at h; simp at h⟩⟩, rfl⟩
theorem ge_of_iff {k : Int} {b : Bool} (h : 0 ≤ k ↔ b = true) : decide (0 ≤ k) = b := by
 cases b
 · simp at h; simp; omega
 · simp at h; simp; omega
theorem pContains_any (v n c : Nat) (a : Option Addr) (L : List Nat) (hn : L.length = n) (hl : n ≤ 140737488351232) (w : World) (hU : Us w a L) :
 Calls Tryz.prog 66 #[.slice a n c, .int .u64 v] w fun e w' => e = .returned (.bool (hasN v L)) ∧ w = w' := by
 go_enter Tryz.func66, Tryz.ntmps66
 go_wp2_with fail
 refine (pIndex_any v n c a L hn hl _ hU).mono ?_
 rintro e w2 ⟨⟨k, rfl, hk⟩, rfl⟩
 have HK := hI_ hk
 clear hk hU
 go_wp2_with fail
 go_ret
 exact ⟨by rw [← ge_of_iff HK.out]; first | rfl | simp, rfl⟩
theorem may1_any (v n c x : Nat) (u : Value) (a : Option Addr) (L : List Nat) (hn : L.length = n) (hl : n ≤ 140737488351232) (w : World) (hU : Us w a L) (hC : Cb w x (.slice a n c) u) :
 Calls Tryz.prog 103 #[.int .u64 v, .pointer (some ⟨x, 0, none⟩)] w fun e w' => e = .returned (.bool (hasN v L)) ∧ w = w' := by
 obtain ⟨c0, c1, fz, lt⟩ := hC
 go_enter Tryz.func103, Tryz.ntmps103
 go_wp2_with fail
 refine (pContains_any v n c a L hn hl _ hU).mono ?_
 rintro e w2 ⟨rfl, rfl⟩
 go_wp2_with fail
 go_ret
 exact ⟨rfl, rfl⟩
def bothN (V : List Nat) : List Nat → Bool
 | [] => false
 | x :: r => hasN x V || bothN V r
theorem bothN_at {V : List Nat} {k x : Nat} {L : List Nat} (hx : L[k]? = some x) : bothN V (L.drop k) = (hasN x V || bothN V (L.drop (k + 1))) := by
 obtain ⟨hk, rfl⟩ := List.getElem?_eq_some_iff.1 hx
 rw [List.drop_eq_getElem_cons hk]; rfl
theorem pIndexF_any (n c x n2 c2 : Nat) (a a2 : Option Addr) (V L : List Nat) (hn : V.length = n) (hl : n ≤ 140737488351232) (hn2 : L.length = n2) (hl2 : n2 ≤ 140737488351232) (w : World) (hV : Us w a V) (hU : Us w a2 L) (u : Value) (hC : Cb w x (.slice a n c) u) :
 Calls Tryz.prog 147 #[.slice a2 n2 c2, .func (.func 103) #[] #[.pointer (some ⟨x, 0, none⟩)]] w fun e w' => (∃ k : Int, e = .returned (.int .i64 k) ∧ (0 ≤ k ↔ bothN V L = true)) ∧ w = w' := by
 have HN := hI_ hn2
 have HU := hI_ hU
 have HV := hI_ hV
 clear hn2 hU hV
 go_enter Tryz.func147, Tryz.ntmps147
 go_wp2_with fail
 go_loop [8] (fun u => ∃ k : Nat, k ≤ n2 ∧ u = .int .i64 k ∧ bothN V L = bothN V (L.drop k)) (fun u => n2 - (intOf u).toNat)
 case atStart => exact ⟨0, Nat.zero_le _, rfl, rfl⟩
 case round =>
  obtain ⟨k, hk, rfl, hf⟩ := hrel
  have HFB := hI_ hf
  clear hf
  by_cases hlt : k < n2
  · obtain ⟨y, hx⟩ : ∃ y, L[k]? = some y := ⟨_, List.getElem?_eq_getElem (by rw [HN.out]; exact hlt)⟩
    have i0 : (0 : Int) ≤ (k : Int) := by omega
    have i1 : (k : Int) < (n2 : Int) := by omega
    obtain ⟨b, off, rfl, hb, p0⟩ := HU.out k y hx
    have HFA := hI_ (HFB.out.trans (bothN_at (V := V) hx))
    clear hx
    obtain ⟨h, hh⟩ : ∃ h, hasN y V = h := ⟨_, rfl⟩
    have HH := hI_ hh
    clear hh
    go_wp2_with fail
    refine (may1_any y n c x u a V hn hl _ HV.out hC).mono ?_
    rintro e w2 ⟨rfl, rfl⟩
    rw [HH.out]
    cases h
    · have HT := hI_ (show bothN V L = bothN V (L.drop (k + 1)) by rw [HFA.out, HH.out]; rfl)
      go_wp2_with fail
      go_round
      case rel => exact ⟨k + 1, by omega, by go_num, HT.out⟩
      case measure => simp [intOf]; omega
    · have HT := hI_ (show bothN V L = true by rw [HFA.out, HH.out]; rfl)
      go_wp2_with fail
      go_ret
      exact ⟨⟨k, rfl, ⟨fun _ => HT.out, fun _ => by omega⟩⟩, rfl⟩
  · have HT := hI_ (show bothN V L = false by rw [HFB.out, List.drop_eq_nil_of_le (by rw [HN.out]; omega)]; rfl)
    go_wp2_with fail
    go_ret
    exact ⟨⟨-1, rfl, ⟨fun h => by omega, fun h => by rw [HT.out] at h; simp at h⟩⟩, rfl⟩
theorem pContainsF_any (n c x n2 c2 : Nat) (a a2 : Option Addr) (V L : List Nat) (hn : V.length = n) (hl : n ≤ 140737488351232) (hn2 : L.length = n2) (hl2 : n2 ≤ 140737488351232) (w : World) (hV : Us w a V) (hU : Us w a2 L) (u : Value) (hC : Cb w x (.slice a n c) u) :
 Calls Tryz.prog 105 #[.slice a2 n2 c2, .func (.func 103) #[] #[.pointer (some ⟨x, 0, none⟩)]] w fun e w' => e = .returned (.bool (bothN V L)) ∧ w = w' := by
 go_enter Tryz.func105, Tryz.ntmps105
 go_wp2_with fail
 refine (pIndexF_any n c x n2 c2 a a2 V L hn hl hn2 hl2 _ hV hU u hC).mono ?_
 rintro e w2 ⟨⟨k, rfl, hk⟩, rfl⟩
 have HK := hI_ hk
 clear hk hU hV
 go_wp2_with fail
 go_ret
 exact ⟨by rw [← ge_of_iff HK.out]; first | rfl | simp, rfl⟩
def risesF : Nat → List Nat → Bool
 | _, [] => true
 | p, x :: r => decide (p < x ∧ x ≤ 63) && risesF x r
theorem risesF_at {p k x : Nat} {L : List Nat} (hx : L[k]? = some x) : risesF p (L.drop k) = (decide (p < x ∧ x ≤ 63) && risesF x (L.drop (k + 1))) := by
 obtain ⟨hk, rfl⟩ := List.getElem?_eq_some_iff.1 hx
 rw [List.drop_eq_getElem_cons hk]; rfl
def prevN (L : List Nat) (k : Nat) : Nat := match k with | 0 => 0 | k + 1 => L.getD k 0
theorem prevN_at {L : List Nat} {k x : Nat} (hx : L[k]? = some x) : prevN L (k + 1) = x := by simp [prevN, List.getD, hx]
def membB (most : Nat) (L : List Nat) : Bool := decide (L.length ≤ most) && risesF 0 L
theorem pMayId_any (v : Nat) (w : World) : Calls Tryz.prog 72 #[.int .u64 v] w fun e w' => e = .returned (.bool (decide (1 ≤ v ∧ v ≤ 63))) ∧ w = w' := by
 by_cases h : 1 ≤ v
 · have g : (1 : Int) ≤ (v : Int) := by omega
   by_cases h2 : v ≤ 63
   · have g2 : (v : Int) ≤ 63 := by omega
     go_enter Tryz.func72, Tryz.ntmps72
     go_wp2_with fail
     go_ret
     exact ⟨by simp [h, h2], rfl⟩
   · have g2 : ¬ (v : Int) ≤ 63 := by omega
     go_enter Tryz.func72, Tryz.ntmps72
     go_wp2_with fail
     go_ret
     exact ⟨by simp, rfl⟩
 · have g : ¬ (1 : Int) ≤ (v : Int) := by omega
   go_enter Tryz.func72, Tryz.ntmps72
   go_wp2_with fail
   go_ret
   exact ⟨by simp, rfl⟩

theorem pMemb_any (n c most : Nat) (a : Option Addr) (L : List Nat) (hn : L.length = n) (hl : n ≤ 140737488351232) (w : World) (hU : Us w a L) :
 Calls Tryz.prog 104 #[.slice a n c, .int .i64 most] w fun e w' => e = .returned (.bool (membB most L)) ∧ w = w' := by
 have HN := hI_ hn
 have HU := hI_ hU
 clear hU
 by_cases hm : n ≤ most
 case neg =>
  have g : (most : Int) < (n : Int) := by omega
  have HT := hI_ (show membB most L = false by unfold membB; rw [hn, decide_eq_false hm]; rfl)
  clear hm hn
  go_enter Tryz.func104, Tryz.ntmps104
  go_wp2_with fail
  go_ret
  exact ⟨by rw [HT.out]; first | rfl | simp, rfl⟩
 have g : ¬ (most : Int) < (n : Int) := by omega
 have HM := hI_ (show membB most L = risesF 0 L by unfold membB; rw [hn, decide_eq_true hm]; rfl)
 clear hm hn
 go_enter Tryz.func104, Tryz.ntmps104
 go_wp2_with fail
 go_loop [13] (fun u => ∃ k : Nat, k ≤ n ∧ u = .int .i64 k ∧ risesF 0 L = risesF (prevN L k) (L.drop k)) (fun u => n - (intOf u).toNat)
 case atStart => exact ⟨0, Nat.zero_le _, rfl, rfl⟩
 case round =>
  obtain ⟨k, hk, rfl, hf⟩ := hrel
  have HFB := hI_ hf
  clear hf
  by_cases hlt : k < n
  · obtain ⟨x, hx⟩ : ∃ x, L[k]? = some x := ⟨_, List.getElem?_eq_getElem (by rw [HN.out]; exact hlt)⟩
    have i0 : (0 : Int) ≤ (k : Int) := by omega
    have i1 : (k : Int) < (n : Int) := by omega
    obtain ⟨b, off, rfl, hb, p0⟩ := HU.out k x hx
    have HFA := hI_ (HFB.out.trans (risesF_at (p := prevN L k) hx))
    have HP := hI_ (prevN_at hx)
    by_cases hid : 1 ≤ x ∧ x ≤ 63
    case neg =>
     have HD := hI_ (show decide (1 ≤ x ∧ x ≤ 63) = false from decide_eq_false hid)
     have HT := hI_ (show membB most L = false by
      rw [HM.out, HFA.out, decide_eq_false (by intro h; exact hid ⟨by omega, h.2⟩)]; rfl)
     clear hx hid
     go_wp2_with fail
     refine (pMayId_any x _).mono ?_
     rintro e w2 ⟨rfl, rfl⟩
     rw [HD.out]
     go_wp2_with fail
     go_ret
     exact ⟨by rw [HT.out]; first | rfl | simp, rfl⟩
    have HD := hI_ (show decide (1 ≤ x ∧ x ≤ 63) = true from decide_eq_true hid)
    obtain ⟨hi1, hi2⟩ := hid
    by_cases hk0 : k = 0
    · subst hk0
      have HT := hI_ (show risesF 0 L = risesF (prevN L (0 + 1)) (L.drop (0 + 1)) by
       rw [HFA.out, HP.out, decide_eq_true (by exact ⟨by simp only [prevN]; omega, hi2⟩)]; rfl)
      simp only [Nat.add_zero] at p0
      clear hx
      go_wp2_with fail
      refine (pMayId_any x _).mono ?_
      rintro e w2 ⟨rfl, rfl⟩
      rw [HD.out]
      go_wp2_with fail
      go_round
      case rel => exact ⟨0 + 1, by omega, by go_num, HT.out⟩
      case measure => simp [intOf]; omega
    · obtain ⟨k1, hk1⟩ : ∃ k1, k = k1 + 1 := ⟨k - 1, by omega⟩
      obtain ⟨y, hy⟩ : ∃ y, L[k1]? = some y := ⟨_, List.getElem?_eq_getElem (by rw [HN.out]; omega)⟩
      obtain ⟨b', off', e', hb', q0⟩ := HU.out k1 y hy
      cases e'
      have HY := hI_ (show prevN L k = y by rw [hk1]; exact prevN_at hy)
      have e1 : (k : Int) - 1 = (k1 : Int) := by omega
      have j0 : (0 : Int) ≤ (k1 : Int) := by omega
      have j1 : (k1 : Int) < (n : Int) := by omega
      have j2 : (0 : Int) < (k : Int) := by omega
      have HK1 := hI_ hk1
      clear hk1 hk0 hx hy
      by_cases hle : x ≤ y
      · have g3 : (x : Int) ≤ (y : Int) := by omega
        have HT := hI_ (show membB most L = false by
         rw [HM.out, HFA.out, decide_eq_false (by rw [HY.out]; omega)]; rfl)
        go_wp2_with fail
        refine (pMayId_any x _).mono ?_
        rintro e w2 ⟨rfl, rfl⟩
        rw [HD.out]
        go_wp2_with fail
        go_ret
        exact ⟨by rw [HT.out]; first | rfl | simp, rfl⟩
      · have g3 : ¬ (x : Int) ≤ (y : Int) := by omega
        have HT := hI_ (show risesF 0 L = risesF (prevN L (k + 1)) (L.drop (k + 1)) by
         rw [HFA.out, HP.out, decide_eq_true (by rw [HY.out]; omega)]; rfl)
        go_wp2_with fail
        refine (pMayId_any x _).mono ?_
        rintro e w2 ⟨rfl, rfl⟩
        rw [HD.out]
        go_wp2_with fail
        go_round
        case rel => exact ⟨k + 1, by omega, by go_num, HT.out⟩
        case measure => simp [intOf]; omega
  · have HT := hI_ (show membB most L = true by rw [HM.out, HFB.out, List.drop_eq_nil_of_le (by rw [HN.out]; omega)]; rfl)
    go_wp2_with fail
    go_ret
    exact ⟨by rw [HT.out]; first | rfl | simp, rfl⟩
theorem rRises_any (n c : Nat) (a : Option Addr) (L : List Nat) (hn : L.length = n) (hl : n ≤ 140737488351232) (w : World) (hU : Us w a L) :
 Calls Tryz.prog 68 #[.slice a n c] w fun e w' => e = .returned (.bool (risesF 0 L)) ∧ Below w.heap.size w w' := by
 have HN := hI_ hn
 have HU := hI_ hU
 have HW := hI_ (Below.refl w.heap.size w)
 clear hU hn
 go_enter Tryz.func68, Tryz.ntmps68
 go_wp2_with fail
 go_loopw [3] (fun u wr => ∃ k : Nat, k ≤ n ∧ u = .int .i64 k ∧ risesF 0 L = risesF (prevN L k) (L.drop k) ∧ Below w.heap.size w wr) (fun u _ => n - (intOf u).toNat)
 case atStart => exact ⟨0, Nat.zero_le _, rfl, rfl, HW.out⟩
 case round =>
  obtain ⟨k, hk, rfl, hf, hB⟩ := hrel
  have HFB := hI_ hf
  have HB := hI_ hB
  clear hf
  by_cases hlt : k < n
  · obtain ⟨x, hx⟩ : ∃ x, L[k]? = some x := ⟨_, List.getElem?_eq_getElem (by rw [HN.out]; exact hlt)⟩
    have i0 : (0 : Int) ≤ (k : Int) := by omega
    have i1 : (k : Int) < (n : Int) := by omega
    obtain ⟨b, off, rfl, hb, p0⟩ := HU.out.later hB k x hx
    clear hB
    have HFA := hI_ (HFB.out.trans (risesF_at (p := prevN L k) hx))
    have HP := hI_ (prevN_at hx)
    by_cases h1 : x < 1
    · have g1 : decide ((x : Int) < 1) = true := decide_eq_true (by omega)
      have HT := hI_ (show risesF 0 L = false by rw [HFA.out, decide_eq_false (by omega)]; rfl)
      clear hx
      go_wp2_with fail
      go_quiet (fail)
      go_wp2_with fail
      go_ret
      exact ⟨by rw [HT.out]; first | rfl | simp, below_drewN HB.out _⟩
    have g1 : decide ((x : Int) < 1) = false := decide_eq_false (by omega)
    by_cases h2 : 63 < x
    · have g2 : decide ((63 : Int) < (x : Int)) = true := decide_eq_true (by omega)
      have HT := hI_ (show risesF 0 L = false by rw [HFA.out, decide_eq_false (by omega)]; rfl)
      clear hx
      go_wp2_with fail
      go_quiet (fail)
      go_wp2_with fail
      go_ret
      exact ⟨by rw [HT.out]; first | rfl | simp, below_drewN HB.out _⟩
    have g2 : decide ((63 : Int) < (x : Int)) = false := decide_eq_false (by omega)
    by_cases hk0 : k = 0
    · subst hk0
      have g3 : decide ((0 : Int) < ((0 : Nat) : Int)) = false := decide_eq_false (by omega)
      have HT := hI_ (show risesF 0 L = risesF (prevN L (0 + 1)) (L.drop (0 + 1)) by
       rw [HFA.out, HP.out, decide_eq_true (by exact ⟨by simp only [prevN]; omega, by omega⟩)]; rfl)
      simp only [Nat.add_zero] at p0
      clear hx
      go_wp2_with fail
      go_quiet (fail)
      go_wp2_with fail
      go_roundw
      case rel => exact ⟨0 + 1, by omega, by go_num, HT.out, below_drewN HB.out _⟩
      case measure => simp [intOf]; omega
    · obtain ⟨k1, hk1⟩ : ∃ k1, k = k1 + 1 := ⟨k - 1, by omega⟩
      obtain ⟨y, hy⟩ : ∃ y, L[k1]? = some y := ⟨_, List.getElem?_eq_getElem (by rw [HN.out]; omega)⟩
      obtain ⟨b', off', e', hb', q0⟩ := HU.out.later HB.out k1 y hy
      cases e'
      have HY := hI_ (show prevN L k = y by rw [hk1]; exact prevN_at hy)
      have e1 : (k : Int) - 1 = (k1 : Int) := by omega
      have j0 : (0 : Int) ≤ (k1 : Int) := by omega
      have j1 : (k1 : Int) < (n : Int) := by omega
      have j2 : decide (0 < k) = true := decide_eq_true (by omega)
      have HK1 := hI_ hk1
      clear hk1 hk0 hx hy
      by_cases hle : x ≤ y
      · have g3 : decide ((x : Int) ≤ (y : Int)) = true := decide_eq_true (by omega)
        have HT := hI_ (show risesF 0 L = false by
         rw [HFA.out, decide_eq_false (by rw [HY.out]; omega)]; rfl)
        go_wp2_with fail
        go_quiet (fail)
        go_wp2_with fail
        go_ret
        exact ⟨by rw [HT.out]; first | rfl | simp, below_drewN HB.out _⟩
      · have g3 : decide ((x : Int) ≤ (y : Int)) = false := decide_eq_false (by omega)
        have HT := hI_ (show risesF 0 L = risesF (prevN L (k + 1)) (L.drop (k + 1)) by
         rw [HFA.out, HP.out, decide_eq_true (by rw [HY.out]; omega)]; rfl)
        go_wp2_with fail
        go_quiet (fail)
        go_wp2_with fail
        go_roundw
        case rel => exact ⟨k + 1, by omega, by go_num, HT.out, below_drewN HB.out _⟩
        case measure => simp [intOf]; omega
  · have HT := hI_ (show risesF 0 L = true by rw [HFB.out, List.drop_eq_nil_of_le (by rw [HN.out]; omega)]; rfl)
    go_wp2_with fail
    go_ret
    exact ⟨by rw [HT.out]; first | rfl | simp, HB.out⟩
end Go.Proofs.YtdcpiaoadbbdoaaGreatDoor
