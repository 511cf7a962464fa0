/-
  NoteBack (ferrule/ferrulelaw04): for every input the law returns true, and each argument reads afterwards as it read before. The card is tied: the listed tables are those of the program's text.
-/
import Derived.Test.YtjbhnkigbobhiaaDoorPlay
import Derived.ProofKit
import Derived.OpenShut
import Derived.ChangeOld
import Derived.Deep.DeepHandedRow
import Derived.Lib.LaidTab
import Derived.LaidSub
import Derived.Test.YtjbhnkigbobhiaaDoorSt
import Derived.Deep.Slices
import Derived.Deep.Fields
import Derived.Deep.Strs
import Derived.SizedLaws
import Derived.Lib.SmallJoins
import Derived.Test.YtjbhnkigbobhiaaDoorKs
import Derived.Test.YtjbhnkigbobhiaaDoorCp
import Derived.Test.YtjbhnkigbobhiaaDoorRec
import Derived.Test.YtjbhnkigbobhiaaDoorMz
import Derived.Deep.RegionHeld3
import Derived.Test.YtjbhnkigbobhiaaDoorCards
import Derived.Test.YtjbhnkigbobhiaaDoorTie
import Derived.WalkKit
import Derived.ShutString
/- The tables that the rows list: what they hold, and a world that holds them. -/
namespace Go.Proofs.YtjbhnkigbobhiaaDoor
open Go.ChangeShapes Go.WideShapes Go.ChangeAt Go.RowKit

theorem own : ownKnob Tryd.prog.godebug = none := by kernel_rfl
theorem laidOut : laidOutB Tryd.prog = true := by kernel_rfl
def tab64 : List Int := [0, 1, 56, 2, 57, 49, 28, 3, 61, 58, 42, 50, 38, 29, 17, 4, 62, 47, 59, 36, 45, 43, 51, 22, 53, 39, 33, 30, 24, 18, 12, 5, 63, 55, 48, 27, 60, 41, 37, 16, 46, 35, 44, 21, 52, 32, 23, 11, 54, 26, 40, 15, 34, 20, 31, 10, 25, 14, 19, 9, 13, 8, 7, 6]
def tab32 : List Int := [0, 1, 28, 2, 29, 14, 24, 3, 30, 22, 20, 15, 25, 17, 4, 8, 31, 27, 13, 23, 21, 19, 16, 7, 26, 12, 18, 6, 11, 5, 10, 9]
theorem g64 : Tryd.prog.globalNamed "math/bits.deBruijn64tab" = some 1 := by kernel_rfl
theorem g64Type : (Tryd.prog.globals[1]?).map (·.type) = some 119 := by kernel_rfl
theorem cells64 : Tryd.prog.cellsOf 119 = 64 := by kernel_rfl
theorem cellsU8 : Tryd.prog.cellsOf 5 = 1 := by kernel_rfl
theorem tz_of_tab {W : World} (h : Lib.TabIs Tryd.prog W "math/bits.deBruijn64tab" .u8 tab64) : Tz W := by
  have c := fun i hi => h.cell g64 i hi
  have c0 := c 0 (by decide)
  refine ⟨?_, c0, c 1 (by decide), c 3 (by decide), c 7 (by decide)⟩
  rcases Nat.lt_or_ge W.heap.size 2 with hlt | hge
  · have : W.cell? ⟨1, 0, none⟩ = none := by simp [World.cell?, Array.getElem?_eq_none (show W.heap.size ≤ 1 by omega)]
    rw [this] at c0; cases c0
  · exact hge
theorem tabs_of {W : World} (h : laidMetH Tryd.prog Rows.noteBytesRow.laid W) : Tz W := by
  refine tz_of_tab ?_
  have h2 := laidMetH.filter (fun x => x.1 == "math/bits.deBruijn64tab") h
  exact Lib.tabIs_of_head (rest := []) g64 g64Type Tryd.underlying119 Tryd.underlying5 cellsU8 cells64 h2
/-- A block's cells replaced. -/
def withCells (vs : List Int) : Obj → Obj
  | .cells _ t frozen => .cells (vs.map (Value.int .u8)).toArray t frozen
  | o => o
/-- A world that holds the tables. -/
noncomputable def laidWorld (os : Os) : World :=
  { World.holding Tryd.prog os ⟨#[], #[], []⟩ with heap := (((World.holding Tryd.prog os ⟨#[], #[], []⟩).heap.modify 0 (withCells tab32)).modify 1 (withCells tab64)) }
end Go.Proofs.YtjbhnkigbobhiaaDoor
/- An argument that is a slice of notes: what its reading gives. -/
namespace Go.Proofs.YtjbhnkigbobhiaaDoor
open Go.ChangeShapes Go.WideShapes Go.ChangeAt Go.RowKit Go.Deep

theorem cellsNt : Tryd.prog.cellsOf 24 = 5 := by kernel_rfl
theorem bytesNt : Tryd.prog.bytesOf 24 = 48 := by kernel_rfl
theorem cellsU64 : Tryd.prog.cellsOf 22 = 1 := by kernel_rfl
theorem u64_nat {z : Int} (h : (Lit.int .u64 z).wf = true) : ∃ n : Nat, z = n ∧ n < 18446744073709551616 := by
  have hb := bounds_u64 h
  exact ⟨z.toNat, by omega, by omega⟩
theorem cellsInt : Tryd.prog.cellsOf 3 = 1 := by kernel_rfl
theorem cellsString : Tryd.prog.cellsOf 9 = 1 := by kernel_rfl
theorem mem_weightsAll {H : Type} {P : Program} {e : TypeId} {n : Nat} {d : DataW H} (hn : n ∈ d.weights P e) : ∀ l : List (DataW H), d ∈ l → n ∈ DataW.weightsAll P e l
  | [], h => by cases h
  | x :: l, h => by
    simp only [DataW.weightsAll, List.mem_append]
    rcases List.mem_cons.1 h with rfl | h
    · exact .inl hn
    · exact .inr (mem_weightsAll hn l h)
theorem trod_struct5 {H : Type} {enc : TypeId × Value → H} {P : Program} {w : World} {base : Nat} {spare : Nat → Bool} {held : Bool} {t : TypeId} {f0 f1 f2 f3 f4 : Field} {fuel : Nat} {cs : List Value} {x : DataW H × List MemPlace} (ht : P.underlying t = some (.struct #[f0, f1, f2, f3, f4])) (h : DataW.trod enc P w base spare held fuel t cs = some x) :
    ∃ y0 y1 y2 y3 y4 n, x.1 = .agg [y0.1, y1.1, y2.1, y3.1, y4.1] ∧ DataW.trod enc P w base spare held n f0.type ((cs.drop f0.offset).take (P.cellsOf f0.type)) = some y0 ∧ DataW.trod enc P w base spare held n f1.type ((cs.drop f1.offset).take (P.cellsOf f1.type)) = some y1 ∧
      DataW.trod enc P w base spare held n f2.type ((cs.drop f2.offset).take (P.cellsOf f2.type)) = some y2 ∧ DataW.trod enc P w base spare held n f3.type ((cs.drop f3.offset).take (P.cellsOf f3.type)) = some y3 ∧ DataW.trod enc P w base spare held n f4.type ((cs.drop f4.offset).take (P.cellsOf f4.type)) = some y4 := by
  obtain ⟨xs, n, _, hx, _, hlen, hf⟩ := DataW.trod_struct ht h
  match xs, hlen with
  | [y0, y1, y2, y3, y4], _ => exact ⟨y0, y1, y2, y3, y4, n, by rw [hx]; rfl, by simpa using hf 0 f0 rfl, by simpa using hf 1 f1 rfl, by simpa using hf 2 f2 rfl, by simpa using hf 3 f3 rfl, by simpa using hf 4 f4 rfl⟩
/-- What an argument of notes gives. -/
structure NtRow (W : World) (a : Option Addr) (len : Nat) (L : List Nt) : Prop where
  hlen : L.length = len
  hmax : len ≤ 140737488351232
  sizes : ∀ x ∈ L, x.d.size ≤ 140737488351232
  nums : ∀ x ∈ L, x.i < 18446744073709551616 ∧ x.t < 18446744073709551616 ∧ x.v < 18446744073709551616 ∧ -9223372036854775808 ≤ x.k ∧ x.k ≤ 9223372036854775807
  mem : Nts W a L
set_option maxRecDepth 100000 in
theorem ntRow_of {H : Type} {enc : TypeId × Value → H} {W : World} {a : Option Addr} {len cap : Nat} {d : DataW H} {p : List MemPlace} {ts : List TypeId} {ds : List (DataW H)} {j : Nat}
    (h : DataW.Trod enc Tryd.prog W 0 (fun _ => true) true 38 (.slice a len cap) d p) (hlt : ∀ x ∈ p, x.block < W.heap.size)
    (hZ : (DataW.weightsEach Tryd.prog ts ds).all (· ≤ reachBytes) = true) (hj : ts[j]? = some 38) (hd : ds[j]? = some d) : ∃ L, NtRow W a len L := by
  obtain ⟨fuel, hf⟩ := h
  rcases open_slice Tryd.underlying38 hf with ⟨hcs, hx⟩ | ⟨a', len', cap', m, n, D, Pl, hcs, _, hl, hm, hmm, hx, hi⟩
  · simp [Value.cells] at hcs
    obtain ⟨rfl, rfl, rfl⟩ := hcs
    exact ⟨[], rfl, by omega, by simp, by simp, fun j x hx => by simp at hx⟩
  · simp [Value.cells] at hcs
    obtain ⟨rfl, rfl, rfl⟩ := hcs
    simp only [Prod.mk.injEq] at hx
    obtain ⟨rfl, rfl⟩ := hx
    simp only [if_true] at hmm
    subst hmm
    have hreach := sized_slice hZ hj hd Tryd.underlying38
    rw [bytesNt] at hreach
    simp only [List.length_map, List.length_range, reachBytes] at hreach
    obtain ⟨b, off, spot⟩ := a'
    have hspot : 0 < len → spot = none := by
      intro h0
      obtain ⟨cs', hc, _⟩ := hi 0 (by omega)
      rw [cellsNt] at hc
      obtain ⟨_, hcl, hat⟩ := World.cells?_some hc
      have s0 := hat 0 (by omega)
      match cs', hcl with
      | [c0, c1, c2, c3, c4], _ => simpa [Addr.add] using World.cell?_spot s0
    have hone : ∀ i, ∃ x : Nt, i < len → (x.d.size ≤ 140737488351232 ∧ (x.i < 18446744073709551616 ∧ x.t < 18446744073709551616 ∧ x.v < 18446744073709551616 ∧ -9223372036854775808 ≤ x.k ∧ x.k ≤ 9223372036854775807)) ∧ spot = none ∧ b < W.heap.size ∧
        W.cell? ⟨b, off + i * 5, none⟩ = some (.int .i64 x.k) ∧ W.cell? ⟨b, off + i * 5 + 1, none⟩ = some (.int .u64 x.i) ∧ W.cell? ⟨b, off + i * 5 + 2, none⟩ = some (.int .u64 x.t) ∧ W.cell? ⟨b, off + i * 5 + 3, none⟩ = some (.int .u64 x.v) ∧ W.cell? ⟨b, off + i * 5 + 4, none⟩ = some (.string x.d) := by
      intro i
      by_cases hil : i < len
      · obtain ⟨cs', hc, ht⟩ := hi i (by omega)
        rw [cellsNt] at hc
        obtain ⟨_, hcl, hat⟩ := World.cells?_some hc
        obtain ⟨y0, y1, y2, y3, y4, n', hy, t0, t1, t2, t3, t4⟩ := trod_struct5 Tryd.underlying24 ht
        match cs', hcl with
        | [c0, c1, c2, c3, c4], _ =>
          obtain ⟨k, e0, rfl, wk⟩ := DataW.trod_int Tryd.underlying3 t0
          obtain ⟨zi, e1, rfl, wi⟩ := DataW.trod_int Tryd.underlying22 t1
          obtain ⟨zt, e2, rfl, wt⟩ := DataW.trod_int Tryd.underlying22 t2
          obtain ⟨zv, e3, rfl, wv⟩ := DataW.trod_int Tryd.underlying22 t3
          obtain ⟨s, e4, rfl, _⟩ := DataW.trod_string Tryd.underlying9 t4
          simp only [cellsInt, cellsU64, cellsString] at e0 e1 e2 e3 e4
          simp at e0 e1 e2 e3 e4
          subst e0 e1 e2 e3 e4
          have s0 := hat 0 (by omega)
          have s1 := hat 1 (by omega)
          have s2 := hat 2 (by omega)
          have s3 := hat 3 (by omega)
          have s4 := hat 4 (by omega)
          obtain rfl := hspot (by omega)
          rw [add_plain, add_plain] at s0 s1 s2 s3 s4
          have bk := bounds_i64 wk
          obtain ⟨ni, rfl, bi⟩ := u64_nat wi
          obtain ⟨nt, rfl, bt⟩ := u64_nat wt
          obtain ⟨nv, rfl, bv⟩ := u64_nat wv
          refine ⟨⟨k, ni, nt, nv, s⟩, fun _ => ⟨⟨?_, bi, bt, bv, bk.1, bk.2⟩, rfl, ?_, ?_, ?_, ?_, ?_, ?_⟩⟩
          · have hmem : s.data.toList.length ∈ (D i).weights Tryd.prog 24 := by
              have hD : D i = _ := hy
              rw [hD]; simp [DataW.weights, DataW.weightsEach, Tryd.underlying24]
            have h := List.all_eq_true.1 hZ _ (DataW.weights_mem_each hj hd s.data.toList.length (by
              simp only [DataW.weights, Tryd.underlying38, List.mem_cons, List.mem_append]
              exact .inr (.inl (mem_weightsAll hmem _ (List.mem_map.2 ⟨i, List.mem_range.2 hil, rfl⟩)))))
            rw [Array.length_toList] at h; exact of_decide_eq_true h
          · exact hlt (.cell b off) (List.mem_append.2 (.inl (MemPlace.mem_row.2 ⟨0, by rw [cellsNt]; omega, by simp⟩)))
          · simpa using s0
          · simpa using s1
          · simpa using s2
          · simpa using s3
          · simpa using s4
      · exact ⟨⟨0, 0, 0, 0, ⟨#[]⟩⟩, fun h => absurd h hil⟩
    have hget : ∀ i x, ((List.range len).map fun i => Classical.choose (hone i))[i]? = some x → i < len ∧ x = Classical.choose (hone i) := fun i x hx => by
      have hil : i < len := by have := (List.getElem?_eq_some_iff.1 hx).1; simpa using this
      rw [List.getElem?_map, List.getElem?_range hil] at hx
      exact ⟨hil, (Option.some.inj hx).symm⟩
    refine ⟨(List.range len).map fun i => Classical.choose (hone i), by simp, by omega, fun x hx => ?_, fun x hx => ?_, fun i x hx => ?_⟩
    · obtain ⟨i, hi, rfl⟩ := List.mem_map.1 hx
      exact (Classical.choose_spec (hone i) (List.mem_range.1 hi)).1.1
    · obtain ⟨i, hi, rfl⟩ := List.mem_map.1 hx
      exact (Classical.choose_spec (hone i) (List.mem_range.1 hi)).1.2
    · obtain ⟨hil, rfl⟩ := hget i x hx
      obtain ⟨_, g3, g4, g5, g6, g7, g8, g9⟩ := Classical.choose_spec (hone i) hil
      exact ⟨b, off, by rw [g3], g4, g5, g6, g7, g8, g9⟩
end Go.Proofs.YtjbhnkigbobhiaaDoor
/- An argument that is a state: what its reading gives. -/
namespace Go.Proofs.YtjbhnkigbobhiaaDoor
open Go.ChangeShapes Go.WideShapes Go.ChangeAt Go.RowKit Go.Deep Go.Joins

set_option maxRecDepth 100000 in
theorem cellsEn : Tryd.prog.cellsOf 65 = 2 := by kernel_rfl
set_option maxRecDepth 100000 in
theorem bytesEn : Tryd.prog.bytesOf 65 = 24 := by kernel_rfl
set_option maxRecDepth 100000 in
theorem cellsEns : Tryd.prog.cellsOf 32 = 1 := by kernel_rfl
set_option maxRecDepth 100000 in
theorem cellsLog : Tryd.prog.cellsOf 34 = 4 := by kernel_rfl
set_option maxRecDepth 100000 in
theorem cellsStable : Tryd.prog.cellsOf 36 = 6 := by kernel_rfl
set_option maxRecDepth 100000 in
/-- Entries in memory, out of their reading. -/
theorem enRow_of {H : Type} {enc : TypeId × Value → H} {W : World} {fuel : Nat} {c : Value} {y : DataW H × List MemPlace}
    (hf : DataW.trod enc Tryd.prog W 0 (fun _ => true) true fuel 32 [c] = some y) (hlt : ∀ x ∈ y.2, x.block < W.heap.size)
    (hw : ∀ q ∈ y.1.weights Tryd.prog 32, q ≤ 140737488351232) : ∃ a len cap L, c = .slice a len cap ∧ L.length = len ∧ len ≤ 140737488351232 ∧ (∀ x ∈ L, x.d.size ≤ 140737488351232 ∧ x.t < 18446744073709551616) ∧ Ents W a L := by
  obtain ⟨d, p⟩ := y
  rcases open_slice Tryd.underlying32 hf with ⟨hcs, hx⟩ | ⟨a', len, cap', m, n, D, Pl, hcs, _, hl, hm, hmm, hx, hi⟩
  · simp at hcs
    subst hcs
    exact ⟨none, 0, 0, [], rfl, rfl, by omega, by simp, fun j x hx => by simp at hx⟩
  · simp at hcs
    subst hcs
    simp only [Prod.mk.injEq] at hx
    obtain ⟨rfl, rfl⟩ := hx
    simp only [if_true] at hmm
    subst hmm
    simp only at hw hlt
    have hreach := hw (((List.range len).map D).length * Tryd.prog.bytesOf 65 + ((List.range (m - len)).map fun j => D (len + j)).length * Tryd.prog.bytesOf 65) (by
      simp only [DataW.weights, Tryd.underlying32, List.mem_cons]
      left; rw [Nat.add_mul])
    rw [bytesEn] at hreach
    simp only [List.length_map, List.length_range] at hreach
    obtain ⟨b, off, spot⟩ := a'
    have hspot : 0 < len → spot = none := by
      intro h0
      obtain ⟨cs', hc, _⟩ := hi 0 (by omega)
      rw [cellsEn] at hc
      obtain ⟨_, hcl, hat⟩ := World.cells?_some hc
      have s0 := hat 0 (by omega)
      match cs', hcl with
      | [c0, c1], _ => simpa [Addr.add] using World.cell?_spot s0
    have hone : ∀ i, ∃ x : En, i < len → (x.d.size ≤ 140737488351232 ∧ x.t < 18446744073709551616) ∧ spot = none ∧ b < W.heap.size ∧
        W.cell? ⟨b, off + i * 2, none⟩ = some (.int .u64 x.t) ∧ W.cell? ⟨b, off + i * 2 + 1, none⟩ = some (.string x.d) := by
      intro i
      by_cases hil : i < len
      · obtain ⟨cs', hc, ht⟩ := hi i (by omega)
        rw [cellsEn] at hc
        obtain ⟨_, hcl, hat⟩ := World.cells?_some hc
        obtain ⟨y0, y1, n', hy, _, t0, t1⟩ := trod_struct2 Tryd.underlying65 ht
        match cs', hcl with
        | [c0, c1], _ =>
          obtain ⟨zt, e0, h0, wt⟩ := DataW.trod_int Tryd.underlying22 t0
          obtain ⟨s, e1, h1, _⟩ := DataW.trod_string Tryd.underlying9 t1
          simp only [cellsU64, cellsString] at e0 e1
          simp at e0 e1
          subst e0 e1
          have s0 := hat 0 (by omega)
          have s1 := hat 1 (by omega)
          obtain rfl := hspot (by omega)
          rw [add_plain, add_plain] at s0 s1
          obtain ⟨nt, rfl, bt⟩ := u64_nat wt
          refine ⟨⟨nt, s⟩, fun _ => ⟨⟨?_, bt⟩, rfl, ?_, ?_, ?_⟩⟩
          · have hmem : s.data.toList.length ∈ (D i).weights Tryd.prog 65 := by
              simp only [Prod.mk.injEq] at hy
              rw [hy.1]; simp [DataW.weights, DataW.weightsEach, Tryd.underlying65, h1]
            have h := hw s.data.toList.length (by
              simp only [DataW.weights, Tryd.underlying32, List.mem_cons, List.mem_append]
              exact .inr (.inl (mem_weightsAll hmem _ (List.mem_map.2 ⟨i, List.mem_range.2 hil, rfl⟩))))
            rw [Array.length_toList] at h; exact h
          · exact hlt (.cell b off) (List.mem_append.2 (.inl (MemPlace.mem_row.2 ⟨0, by rw [cellsEn]; omega, by simp⟩)))
          · simpa using s0
          · simpa using s1
      · exact ⟨⟨0, ⟨#[]⟩⟩, fun h => absurd h hil⟩
    have hget : ∀ i x, ((List.range len).map fun i => Classical.choose (hone i))[i]? = some x → i < len ∧ x = Classical.choose (hone i) := fun i x hx => by
      have hil : i < len := by have := (List.getElem?_eq_some_iff.1 hx).1; simpa using this
      rw [List.getElem?_map, List.getElem?_range hil] at hx
      exact ⟨hil, (Option.some.inj hx).symm⟩
    refine ⟨_, len, m, (List.range len).map fun i => Classical.choose (hone i), rfl, by simp, by omega, fun x hx => ?_, fun i x hx => ?_⟩
    · obtain ⟨i, hi, rfl⟩ := List.mem_map.1 hx
      exact (Classical.choose_spec (hone i) (List.mem_range.1 hi)).1
    · obtain ⟨hil, rfl⟩ := hget i x hx
      obtain ⟨_, g3, g4, g5, g6⟩ := Classical.choose_spec (hone i) hil
      exact ⟨b, off, by rw [g3], g4, g5, g6⟩
/-- What an argument that is a state gives. -/
structure StRow (W : World) (v : Value) (term vote base bt : Nat) (snap : ByteArray) (a : Option Addr) (n c : Nat) (L : List En) : Prop where
  val : v = .agg #[.int .u64 term, .int .u64 vote, .int .u64 base, .int .u64 bt, .string snap, .slice a n c]
  hlen : L.length = n
  hmax : n ≤ 140737488351232
  hsnap : snap.size ≤ 140737488351232
  sizes : ∀ x ∈ L, x.d.size ≤ 140737488351232
  nums : term < 18446744073709551616 ∧ vote < 18446744073709551616 ∧ base < 18446744073709551616 ∧ bt < 18446744073709551616 ∧ ∀ x ∈ L, x.t < 18446744073709551616
  mem : Ents W a L
set_option maxRecDepth 100000 in
theorem stRow_of {H : Type} {enc : TypeId × Value → H} {W : World} {r : Reach} {b0 : Nat} {v : Value} {d : DataW H} {p : List MemPlace} {ts : List TypeId} {ds : List (DataW H)} {j : Nat}
    (hv : Value.okWide Tryd.prog W r b0 36 v) (h : DataW.Trod enc Tryd.prog W 0 (fun _ => true) true 36 v d p) (hlt : ∀ x ∈ p, x.block < W.heap.size)
    (hZ : (DataW.weightsEach Tryd.prog ts ds).all (· ≤ reachBytes) = true) (hj : ts[j]? = some 36) (hd : ds[j]? = some d) : ∃ term vote base bt snap a n c L, StRow W v term vote base bt snap a n c L := by
  obtain ⟨cs, rfl, hsz⟩ := okWide_struct Tryd.underlying36 hv
  rw [cellsStable] at hsz
  obtain ⟨fuel, hf⟩ := h
  obtain ⟨y0, y1, y2, n1, hy, _, t0, t1, t2⟩ := trod_struct3 Tryd.underlying36 hf
  obtain ⟨l⟩ := cs
  match l, hsz with
  | [c0, c1, c2, c3, c4, c5], _ =>
      obtain ⟨zt, e0, h0, wt⟩ := DataW.trod_int Tryd.underlying22 t0
      obtain ⟨zv, e1, h1, wv⟩ := DataW.trod_int Tryd.underlying22 t1
      obtain ⟨z0, z1, z2, z3, n2, hz, _, u0, u1, u2, u3⟩ := trod_struct4 Tryd.underlying34 t2
      obtain ⟨zb, e2, h2, wb⟩ := DataW.trod_int Tryd.underlying22 u0
      obtain ⟨zbt, e3, h3, wbt⟩ := DataW.trod_int Tryd.underlying22 u1
      obtain ⟨s, e4, h4, _⟩ := DataW.trod_string Tryd.underlying9 u2
      simp only [cellsU64, cellsLog, cellsString, Value.cells] at e0 e1 e2 e3 e4
      simp at e0 e1 e2 e3 e4
      subst e0 e1 e2 e3 e4
      have u3' : DataW.trod enc Tryd.prog W 0 (fun _ => true) true n2 32 [c5] = some z3 := by
        simp only [cellsLog, cellsEns, Value.cells] at u3
        simpa using u3
      simp only [Prod.mk.injEq] at hy
      have hwd : ∀ q ∈ d.weights Tryd.prog 36, q ≤ 140737488351232 := fun q hq => by
        have := List.all_eq_true.1 hZ _ (DataW.weights_mem_each hj hd q hq); exact of_decide_eq_true this
      have hd2 : d = .agg [y0.1, y1.1, .agg [z0.1, z1.1, z2.1, z3.1]] := by rw [hy.1, hz]
      have hsub : ∀ q, (q ∈ z2.1.weights Tryd.prog 9 ∨ q ∈ z3.1.weights Tryd.prog 32) → q ∈ d.weights Tryd.prog 36 := fun q hq => by
        rw [hd2]
        simp only [DataW.weights, DataW.weightsEach, Tryd.underlying36, Tryd.underlying34, List.map_cons, List.map_nil, List.mem_append, List.append_nil]
        rcases hq with hq | hq
        · exact .inr (.inr (.inr (.inr (.inl hq))))
        · exact .inr (.inr (.inr (.inr (.inr hq))))
      obtain ⟨a, n, c, L, rfl, g1, g2, g3, g4⟩ := enRow_of u3' (fun x hx => hlt x (by rw [hy.2, hz]; simp [hx])) (fun q hq => hwd q (hsub q (.inr hq)))
      obtain ⟨nt, rfl, bt⟩ := u64_nat wt
      obtain ⟨nv, rfl, bv⟩ := u64_nat wv
      obtain ⟨nb, rfl, bb⟩ := u64_nat wb
      obtain ⟨nbt, rfl, bbt⟩ := u64_nat wbt
      refine ⟨nt, nv, nb, nbt, s, a, n, c, L, rfl, g1, g2, ?_, fun x hx => (g3 x hx).1, ⟨bt, bv, bb, bbt, fun x hx => (g3 x hx).2⟩, g4⟩
      have h := hwd s.data.toList.length (hsub _ (.inl (by rw [h4]; simp [DataW.weights])))
      rw [Array.length_toList] at h; exact h
end Go.Proofs.YtjbhnkigbobhiaaDoor
/- NoteBack: a state that may be is folded from its least notes as it was, and recovered from a tape on which it was laid. -/
namespace Go.Proofs.YtjbhnkigbobhiaaDoor
open Go.RowKit

theorem mayQ_T {P : Prop} {w w' : World} {e : Ending} (h : MayP P w e w') (hp : P) : e = .returned (.bool true) ∧ Below w.heap.size w w' := by
  obtain ⟨⟨b, rfl, hb⟩, hB⟩ := h
  exact ⟨by rw [hb.2 hp], hB⟩
theorem mayQ_F {P : Prop} {w w' : World} {e : Ending} (h : MayP P w e w') (hp : ¬ P) : e = .returned (.bool false) ∧ Below w.heap.size w w' := by
  obtain ⟨⟨b, rfl, hb⟩, hB⟩ := h
  cases b with
  | false => exact ⟨rfl, hB⟩
  | true => exact absurd (hb.1 rfl) hp
theorem tIn_fit (s : ByteArray) (h : s.size ≤ 262144) : tInstall ⟨⟨#[]⟩, ⟨#[]⟩, -1, false⟩ s = (⟨s, ⟨#[]⟩, -1, false⟩, 0) := by
  unfold tInstall
  rw [if_neg (by simp), if_neg (by omega), if_neg (by simp)]; rfl
theorem tIn_big (s : ByteArray) (h : 262144 < s.size) : tInstall ⟨⟨#[]⟩, ⟨#[]⟩, -1, false⟩ s = (⟨⟨#[]⟩, ⟨#[]⟩, -1, false⟩, 5) := by
  unfold tInstall
  rw [if_neg (by simp), if_pos h]
set_option maxRecDepth 100000 in
set_option maxHeartbeats 4000000 in
theorem back_no (term vote base bt n c : Nat) (snap : ByteArray) (a : Option Addr) (L : List En) (hn : L.length = n) (hl : n ≤ 140737488351232) (hs : snap.size ≤ 140737488351232) (hD : ∀ x ∈ L, x.d.size ≤ 140737488351232) (w : World) (hE : Ents w a L) (hst : ¬ stOk term vote base bt snap L) :
    Calls Tryd.prog 4 #[.agg #[.int .u64 term, .int .u64 vote, .int .u64 base, .int .u64 bt, .string snap, .slice a n c]] w fun e w' => e = .returned (.bool true) ∧ Below w.heap.size w w' := by
  have HN := Lib.hid hn
  have HD := Lib.hid hD
  have HST := Lib.hid hst
  clear hn hD hst
  have B0 : Below w.heap.size w (w.alloc (.cells #[.int .u64 term, .int .u64 vote, .int .u64 base, .int .u64 bt, .string snap, .slice a n c] 36)) := (Below.refl _ _).alloc (Nat.le_refl _) _
  have hS := Sc.new w term vote base bt snap a n c
  have hE0 := hE.later B0
  have HS := Lib.hid hS
  have HB := Lib.hid B0
  clear hE hS B0
  go_enter Tryd.func4, Tryd.ntmps4
  go_wp2_with fail
  refine (shown_any _).mono ?_
  rintro e w1 ⟨rfl, hb1⟩
  have hE1 := hE0.later hb1
  have B1 := HB.out.trans (hb1.mono HB.out.size)
  obtain ⟨x0, x1, x2, x3, x4, x5, xl⟩ := HS.out.later hb1
  clear hb1 hE0
  go_wp2_with fail
  refine (refMay_st term vote base bt n c snap a L HN.out hl hs HD.out _ hE1).mono ?_
  intro e w2 hm2
  obtain ⟨rfl, hb2⟩ := mayQ_F hm2 HST.out
  have hE2 := hE1.later hb2
  have B2 := B1.trans (hb2.mono B1.size)
  obtain ⟨y0, y1, y2, y3, y4, y5, yl⟩ := (Sc.mk x0 x1 x2 x3 x4 x5 xl).later hb2
  clear hE1 B1 x0 x1 x2 x3 x4 x5 xl hm2
  go_wp2_with fail
  refine (pLeast_no term vote base bt n c snap a L HN.out hl hs HD.out _ hE2 HST.out).mono ?_
  rintro e w3 ⟨rfl, hb3⟩
  have B3 := B2.trans (hb3.mono B2.size)
  clear hE2 B2 y0 y1 y2 y3 y4 y5 yl hb2 hb3
  go_wp2_with fail
  go_ret
  exact ⟨by simp, B3⟩
set_option maxRecDepth 100000 in
set_option maxHeartbeats 8000000 in
theorem back_yes (term vote base bt n c : Nat) (snap : ByteArray) (a : Option Addr) (L : List En) (hn : L.length = n) (hl : n ≤ 140737488351232) (hs : snap.size ≤ 140737488351232) (hD : ∀ x ∈ L, x.d.size ≤ 140737488351232) (w : World) (hE : Ents w a L) (hT : Tz w) (hst : stOk term vote base bt snap L) :
    Calls Tryd.prog 4 #[.agg #[.int .u64 term, .int .u64 vote, .int .u64 base, .int .u64 bt, .string snap, .slice a n c]] w fun e w' => e = .returned (.bool true) ∧ Below w.heap.size w w' := by
  have hfold := fold_least term vote base bt snap L hst
  have hok := least_ok term vote base bt snap L hst
  have hNl := least_len term vote base bt snap L
  have h1024 : L.length ≤ 1024 := hst.2.2.2.1
  have hLe := fun w0 (h0 : Ents w0 a L) => pLeast_yes term vote base bt n c snap a L hn hl hs hD w0 h0 hst
  have hCo := fun w0 (h0 : Ents w0 a L) (hT0 : Tz w0) => pCompact_yes ⟨#[]⟩ ⟨#[]⟩ (-1) false term vote base bt n c snap a L hn hl hs hD (by decide) w0 h0 hst hT0
  obtain ⟨N, hN⟩ : ∃ N, leastL term vote base bt snap L = N := ⟨_, rfl⟩
  rw [hN] at hok hNl hfold
  simp only [hN] at hLe hCo
  clear hN
  have hrd := rd_cat0 N hok
  obtain ⟨m, hm⟩ : ∃ m, N.length = m := ⟨_, rfl⟩
  have hml : m ≤ 140737488351232 := by omega
  have hF : ∀ w0 aN cN, Nts w0 aN N → Calls Tryd.prog 12 #[.slice aN m cN] w0 fun e w' => ∃ a' c', e = .returned (.agg #[.int .u64 term, .int .u64 vote, .int .u64 base, .int .u64 bt, .string snap, .slice a' n c']) ∧ Ents w' a' L ∧ Below w0.heap.size w0 w' := fun w0 aN cN h0 =>
    (pFold_any aN m cN N hm hml w0 h0).mono (by
      rintro e w' ⟨a', c', rfl, hE', hb'⟩
      rw [hfold] at hE' ⊢
      exact ⟨a', c', by rw [← hn], hE', hb'⟩)
  obtain ⟨cb, hcb⟩ : ∃ cb, catB N = cb := ⟨_, rfl⟩
  rw [hcb] at hrd
  simp only [hcb] at hCo
  obtain ⟨S, hS⟩ : ∃ S, (⟨cb.toArray⟩ : ByteArray) = S := ⟨_, rfl⟩
  have hSz : S.size = cb.length := by rw [← hS, size_arr]
  simp only [hS] at hCo
  have hCase : ((∀ w0, Ents w0 a L → Tz w0 → Calls Tryd.prog 13 #[.agg #[.string ⟨#[]⟩, .string ⟨#[]⟩, .int .i64 (-1), .bool false], .agg #[.int .u64 term, .int .u64 vote, .int .u64 base, .int .u64 bt, .string snap, .slice a n c]] w0 fun e w' => e = .returned (.tuple #[.agg #[.string S, .string ⟨#[]⟩, .int .i64 (-1), .bool false], .int .i64 0]) ∧ Below w0.heap.size w0 w') ∧
      (∀ w0, Calls Tryd.prog 14 #[.agg #[.string S, .string ⟨#[]⟩, .int .i64 (-1), .bool false]] w0 fun e w' => ∃ a' c', e = .returned (.tuple #[.agg #[.int .u64 term, .int .u64 vote, .int .u64 base, .int .u64 bt, .string snap, .slice a' n c'], .agg #[.string S, .string ⟨#[]⟩, .int .i64 (-1), .bool false], .int .i64 0]) ∧ Ents w' a' L ∧ Below w0.heap.size w0 w')) ∨
      (∀ w0, Ents w0 a L → Tz w0 → Calls Tryd.prog 13 #[.agg #[.string ⟨#[]⟩, .string ⟨#[]⟩, .int .i64 (-1), .bool false], .agg #[.int .u64 term, .int .u64 vote, .int .u64 base, .int .u64 bt, .string snap, .slice a n c]] w0 fun e w' => e = .returned (.tuple #[.agg #[.string ⟨#[]⟩, .string ⟨#[]⟩, .int .i64 (-1), .bool false], .int .i64 5]) ∧ Below w0.heap.size w0 w') := by
    by_cases hc : cb.length ≤ 262144
    · rw [tIn_fit S (by omega)] at hCo
      refine .inl ⟨hCo, fun w0 => (rec_whole S ⟨#[]⟩ cb (by rw [hS]; exact ByteArray.append_empty) hc (by rw [hrd]) w0).mono ?_⟩
      rintro e w' ⟨a', c', rfl, hE', hb'⟩
      rw [hrd] at hE' ⊢
      simp only at hE' ⊢
      rw [hfold] at hE' ⊢
      exact ⟨a', c', by rw [← hn], hE', hb'⟩
    · rw [tIn_big S (by omega)] at hCo
      exact .inr hCo
  have hSa := fun (a1 : Option Addr) (c1 : Nat) w0 (h1 : Ents w0 a1 L) (h2 : Ents w0 a L) => refSame_eq a1 a n c1 c term vote base bt snap L hn hl w0 h1 h2
  have hMa := fun w0 (h0 : Ents w0 a L) => refMay_st term vote base bt n c snap a L hn hl hs hD w0 h0
  have HMA := Lib.hid hMa
  have HSA := Lib.hid hSa
  have HLE := Lib.hid hLe
  have HCASE := Lib.hid hCase
  have HF := Lib.hid hF
  have HM := Lib.hid hm
  have HN := Lib.hid hn
  have HST := Lib.hid hst
  clear hn hD hst hok hNl hfold hLe hCo hF hrd hcb hSa hm hMa h1024 hCase hS hSz
  have B0 : Below w.heap.size w (w.alloc (.cells #[.int .u64 term, .int .u64 vote, .int .u64 base, .int .u64 bt, .string snap, .slice a n c] 36)) := (Below.refl _ _).alloc (Nat.le_refl _) _
  have hS := Sc.new w term vote base bt snap a n c
  have hE0 := hE.later B0
  have HS := Lib.hid hS
  have HB := Lib.hid B0
  clear hE hS B0
  go_enter Tryd.func4, Tryd.ntmps4
  go_wp2_with fail
  refine (shown_any _).mono ?_
  rintro e w1 ⟨rfl, hb1⟩
  have hE1 := hE0.later hb1
  have B1 := HB.out.trans (hb1.mono HB.out.size)
  obtain ⟨x0, x1, x2, x3, x4, x5, xl⟩ := HS.out.later hb1
  clear hb1 hE0
  go_wp2_with fail
  refine (HMA.out _ hE1).mono ?_
  intro e w2 hm2
  obtain ⟨rfl, hb2⟩ := mayQ_T hm2 HST.out
  have hE2 := hE1.later hb2
  have B2 := B1.trans (hb2.mono B1.size)
  obtain ⟨y0, y1, y2, y3, y4, y5, yl⟩ := (Sc.mk x0 x1 x2 x3 x4 x5 xl).later hb2
  clear hE1 B1 x0 x1 x2 x3 x4 x5 xl hm2
  go_wp2_with fail
  refine (HLE.out _ hE2).mono ?_
  rintro e w3 ⟨v3, rfl, hown3, hb3⟩
  obtain ⟨a3, c3, rfl, hN3⟩ := nts_of_owns hown3
  rw [HM.out]
  have hE3 := hE2.later hb3
  have B3 := B2.trans (hb3.mono B2.size)
  have hS3 := (Sc.mk y0 y1 y2 y3 y4 y5 yl).later hb3
  clear hE2 B2 y0 y1 y2 y3 y4 y5 yl hb2 hb3 hown3
  have HS3 := Lib.hid hS3
  have HE3 := Lib.hid hE3
  have HN3 := Lib.hid hN3
  have HB3 := Lib.hid B3
  obtain ⟨x0, x1, x2, x3, x4, x5, xl⟩ := hS3
  clear hE3 hN3 B3
  go_wp2_with fail
  go_region_with (first
    | (go_at_call 12; (with_reducible refine (HF.out _ a3 c3 (HN3.out.later (Below.refl _ _).drew)).mono ?_); rintro e w4 ⟨a4, c4, rfl, hE4, hb4⟩; have hP4 : Below w3.heap.size w3 w4 := (Below.refl _ _).drew.trans hb4; obtain ⟨y0, y1, y2, y3, y4, y5, yl⟩ := HS3.out.later hP4; have HP4 := Lib.hid hP4; have HE4 := Lib.hid hE4; have HE3b := Lib.hid (HE3.out.later hP4); clear hP4 hb4 hE4)
    | (go_at_call 11; (with_reducible refine (HSA.out a4 c4 _ HE4.out HE3b.out).mono ?_); rintro e w5 ⟨rfl, hb5⟩; have hP5 : Below w3.heap.size w3 w5 := HP4.out.trans (hb5.mono HP4.out.size); obtain ⟨z0, z1, z2, z3, z4, z5, zl⟩ := HS3.out.later hP5; have HP5 := Lib.hid hP5; clear hP5 hb5))
  all_goals
    go_wp2_with fail
    have hE5 := HE3.out.later HP5.out
    have B5 := HB3.out.trans (HP5.out.mono HB3.out.size)
    rcases HCASE.out with ⟨hco, hre⟩ | hco
    · refine (hco _ hE5 (hT.below (B5.mono hT.n))).mono ?_
      rintro e w6 ⟨rfl, hb6⟩
      have hS6 := (Sc.mk z0 z1 z2 z3 z4 z5 zl).later hb6
      have hE6 := hE5.later hb6
      have B6 := B5.trans (hb6.mono B5.size)
      have HE6 := Lib.hid hE6
      have HB6 := Lib.hid B6
      have HS6 := Lib.hid hS6
      obtain ⟨q0, q1, q2, q3, q4, q5, ql⟩ := hS6
      clear x0 x1 x2 x3 x4 x5 xl y0 y1 y2 y3 y4 y5 yl z0 z1 z2 z3 z4 z5 zl hE6 B6 hb6 hE5 B5 hco
      go_wp2_with fail
      have hT8 : Tb (w6.alloc (.cells #[.string S, .string ⟨#[]⟩, .int .i64 (-1), .bool false] 44)) w6.heap.size S ⟨#[]⟩ (-1) false := Tb.new w6 _ rfl _ _ _ _ _
      have P6 : Below w6.heap.size w6 (w6.alloc (.cells #[.string S, .string ⟨#[]⟩, .int .i64 (-1), .bool false] 44)) := (Below.refl _ _).alloc (Nat.le_refl _) _
      refine (hre _).mono ?_
      rintro e w7 ⟨a7, c7, rfl, hE7, hb7⟩
      have P7 := P6.trans (hb7.mono P6.size)
      have HT7 := Lib.hid (hT8.later hb7)
      have HS7 := Lib.hid (HS6.out.later P7)
      have HE7 := Lib.hid hE7
      have HE7b := Lib.hid (HE6.out.later P7)
      have HP7 := Lib.hid P7
      obtain ⟨t0, t1, t2, t3, tz, tl⟩ := HT7.out
      obtain ⟨r0, r1, r2, r3, r4, r5, rl⟩ := HS7.out
      clear q0 q1 q2 q3 q4 q5 ql hT8 P6 P7 hb7 hE7 hre
      go_wp2_with fail
      have P8 : Below w7.heap.size w7 ((w7.alloc (.cells #[.int .u64 term, .int .u64 vote, .int .u64 base, .int .u64 bt, .string snap, .slice a7 n c7] 36)).alloc (.cells #[.string S, .string ⟨#[]⟩, .int .i64 (-1), .bool false] 44)) := by go_grown
      have hU8 : Tb ((w7.alloc (.cells #[.int .u64 term, .int .u64 vote, .int .u64 base, .int .u64 bt, .string snap, .slice a7 n c7] 36)).alloc (.cells #[.string S, .string ⟨#[]⟩, .int .i64 (-1), .bool false] 44)) (w7.heap.size + 1) S ⟨#[]⟩ (-1) false := Tb.new _ _ (by simp) _ _ _ _ _
      refine (HSA.out a7 c7 _ (HE7.out.later P8) (HE7b.out.later P8)).mono ?_
      rintro e w9 ⟨rfl, hb9⟩
      have hU9 := hU8.later hb9
      have hT9 := (HT7.out.later P8).later hb9
      have hfin := HB6.out.trans ((HP7.out.trans ((P8.trans (hb9.mono P8.size)).mono HP7.out.size)).mono HB6.out.size)
      have HF := Lib.hid hfin
      obtain ⟨u0, u1, u2, u3, uz, ul⟩ := hU9
      obtain ⟨v0, v1, v2, v3, vz, vl⟩ := hT9
      clear t0 t1 t2 t3 tz tl r0 r1 r2 r3 r4 r5 rl hfin hU8 hb9 P8
      go_wp2_with fail
      go_ret
      exact ⟨by simp, HF.out⟩
    · refine (hco _ hE5 (hT.below (B5.mono hT.n))).mono ?_
      rintro e w6 ⟨rfl, hb6⟩
      have B6 := B5.trans (hb6.mono B5.size)
      have HB6 := Lib.hid B6
      clear x0 x1 x2 x3 x4 x5 xl y0 y1 y2 y3 y4 y5 yl z0 z1 z2 z3 z4 z5 zl B6 hb6 hE5 B5 hco
      go_wp2_with fail
      go_ret
      exact ⟨by simp, HB6.out.alloc HB6.out.size _⟩
theorem law_NoteBack (term vote base bt n c : Nat) (snap : ByteArray) (a : Option Addr) (L : List En) (hn : L.length = n) (hl : n ≤ 140737488351232) (hs : snap.size ≤ 140737488351232) (hD : ∀ x ∈ L, x.d.size ≤ 140737488351232) (w : World) (hE : Ents w a L) (hT : Tz w) :
    Calls Tryd.prog 4 #[.agg #[.int .u64 term, .int .u64 vote, .int .u64 base, .int .u64 bt, .string snap, .slice a n c]] w fun e w' => e = .returned (.bool true) ∧ Below w.heap.size w w' := by
  by_cases h : stOk term vote base bt snap L
  · exact back_yes term vote base bt n c snap a L hn hl hs hD w hE hT h
  · exact back_no term vote base bt n c snap a L hn hl hs hD w hE h
end Go.Proofs.YtjbhnkigbobhiaaDoor
namespace Go.Proofs.YtjbhnkigbobhiaaDoor.cNoteBack
open Go.ChangeShapes Go.WideShapes Go.ChangeAt Go.RowKit
open Go.ChangeMaps (open_string shut_string)

set_option maxRecDepth 100000 in
theorem contract (H : Type) (enc : TypeId × Value → H) (W : World) (base : Nat) (args : Array Value) (ds gs : List (DataW H)) (before : List MemPlace)
    (hval : ∀ (j : Nat) t v, Tryd.f4.params[j]? = some t → args[j]? = some v → Value.okWide Tryd.prog W .any base t v)
    (hW : DataW.Whole enc Tryd.prog Tryd.f4.params.toList Rows.noteBackSpec.vars false W args.toList ds gs before) (hL : laidMetH Tryd.prog Rows.noteBackRow.laid W)
    (hZ : (DataW.weightsEach Tryd.prog (Tryd.f4.params.toList ++ DataSpec.varTypes Tryd.prog (OpenSpec.ofChange Rows.noteBackSpec).bare.plain) (ds ++ gs)).all (· ≤ reachBytes) = true) :
    Calls Tryd.prog 4 args W fun e W' => ∃ v, e = .returned v ∧ Rows.noteBackSpec.post enc Tryd.prog Tryd.f4 false true false false W args v W' := by
  have hW' := hW
  obtain ⟨p, q, hA0, hV, rfl, _, _⟩ := hW
  have hA : DataW.TrodAll enc Tryd.prog W 0 (fun _ => true) true Tryd.f4.params.toList args.toList ds p := hA0
  rw [Tryd.params4] at hA hval
  obtain ⟨v0, vs0, d0, ds0, p0, q0, hargs0, rfl, rfl, h0, r0⟩ := trodAll_cons hA
  obtain ⟨rfl, rfl, rfl⟩ := trodAll_nil r0
  obtain rfl : args = #[v0] := by cases args; simp_all
  obtain ⟨rfl, rfl⟩ := trodVars_none hV
  have k0 := h0
  have lt0 : ∀ x ∈ p0, x.block < W.heap.size := by obtain ⟨m, hm⟩ := k0; exact DataW.trod_lt m _ _ _ hm
  obtain ⟨sterm, svote, sbase, sbt, ssnap, sa, sn, sc, sL, b_s⟩ := stRow_of (hval 0 36 v0 rfl rfl) h0 lt0 hZ (j := 0) (by kernel_rfl) rfl
  obtain rfl := b_s.val
  clear hA0
  refine (law_NoteBack sterm svote sbase sbt sn sc ssnap sa sL b_s.hlen b_s.hmax b_s.hsnap b_s.sizes W b_s.mem (tabs_of hL)).mono fun e W' ⟨he, bel⟩ => ?_
  subst he
  exact ⟨_, rfl, _, _, _, [], _, [], hW', trodAll_mk1 (shut_bool Tryd.underlying4 _), (trodAll_cons_mk (Below.trod laidOut (by kernel_rfl) (of_decide_eq_true (by kernel_rfl)) k0 bel lt0) trodAll_mk0), rfl, bel.frame _, fun h => by cases h⟩

theorem laid_met (os : Os) : laidMet Tryd.prog Rows.noteBackRow.laid ((laidWorld os).forCall (fun _ _ => 0) ⟨#[], #[(.agg #[.int .u64 0, .int .u64 0, .int .u64 0, .int .u64 0, .string ⟨#[]⟩, .slice none 0 0])], []⟩).memory :=
  laidMet_of_run' 8 (by kernel_rfl) (by kernel_rfl)
theorem reads (os : Os) {H : Type} (enc : TypeId × Value → H) : ∃ places, DataW.whole enc Tryd.prog ((laidWorld os).forCall (fun _ _ => 0) ⟨#[], #[(.agg #[.int .u64 0, .int .u64 0, .int .u64 0, .int .u64 0, .string ⟨#[]⟩, .slice none 0 0])], []⟩).memory Tryd.f4.params.toList Rows.noteBackSpec.vars false (#[(.agg #[.int .u64 0, .int .u64 0, .int .u64 0, .int .u64 0, .string ⟨#[]⟩, .slice none 0 0])] : Array Value).toList 8 = some ([.agg [.lit (.int .u64 0), .lit (.int .u64 0), .agg [.lit (.int .u64 0), .lit (.int .u64 0), .lit (.string []), .nil]]], [], places) :=
  ⟨[], by kernel_rfl⟩

set_option maxRecDepth 100000 in
theorem lifted (os : Os) (started : os.Started) (H : Type) (enc : TypeId × Value → H) (F : Stop.Interp) :
    ReturnsInHanded {} Tryd.checked os 4 .any ((OpenSpec.ofChange Rows.noteBackSpec).preRow enc Tryd.prog Tryd.f4 Rows.noteBackRow.domain false Rows.noteBackRow.laid) (((OpenSpec.ofChange Rows.noteBackSpec).at F).post enc Tryd.prog Tryd.f4 false true false false) := by
  obtain ⟨places, hx⟩ := reads os enc
  refine returnsInHanded_of_row (C := Tryd.checked) (s := (OpenSpec.ofChange Rows.noteBackSpec)) own started (by kernel_rfl) Tryd.func4
    (witness_row_at (enc := enc) (C := Tryd.checked) false (laidWorld os) #[(.agg #[.int .u64 0, .int .u64 0, .int .u64 0, .int .u64 0, .string ⟨#[]⟩, .slice none 0 0])] rfl (by kernel_rfl) (by kernel_rfl) (by kernel_rfl)
      (OpenSpec.preRow_of_cond 8 hx (by kernel_rfl) (fun k hk => by cases hk) (by kernel_rfl) (laid_met os))) ?_
  intro W base args ds gs before hval hW _ _ hZ hL _ _
  exact contract H enc W base args ds gs before hval hW hL hZ

theorem said : Rows.NoteBackSaid :=
  OpenClaim.holds_of_cond 4 Tryd.f4 rfl rfl rfl rfl rfl rfl rfl ⟨rfl, rfl, rfl, rfl, rfl⟩ rfl rfl rfl rfl rfl (by kernel_rfl) Tryd.func4 (by kernel_rfl)
    (of_decide_eq_true (by kernel_rfl)) (by unfold Func.isWrapper; first | (rw [if_pos (by decide +kernel)]; kernel_rfl) | (rw [if_neg (by decide +kernel)]; exact ⟨rfl, rfl⟩))
    (fun os started H enc _ F => by rw [OpenClaim.pre_eq_preRow]; exact lifted os started H enc F)

theorem plain (f : FuncId) (fn : Func) (hf : Tryd.pinned.checked.prog.funcNamed "ferrule/ferrulelaw04.NoteBack" = some f) (hfn : Tryd.pinned.checked.prog.funcs[f]? = some fn) :
    false = Tryd.pinned.checked.prog.looks [] ∧ ∀ (j : Nat) t, fn.params[j]? = some t → Tryd.pinned.checked.prog.wantsStandIn t = false := by
  obtain rfl : f = 4 := Option.some.inj ((show Tryd.prog.funcNamed "ferrule/ferrulelaw04.NoteBack" = some 4 by kernel_rfl).symm.trans hf) |>.symm
  obtain rfl : fn = Tryd.f4 := (Option.some.inj (Tryd.func4.symm.trans hfn)).symm
  refine ⟨by kernel_rfl, fun j t ht => ?_⟩
  rw [Tryd.params4] at ht
  have hall : (#[36] : Array TypeId).all (fun t => !Tryd.prog.wantsStandIn t) = true := by kernel_rfl
  have := Array.all_eq_true_iff_forall_mem.1 hall t (Array.mem_of_getElem? ht)
  have h2 : Tryd.prog.wantsStandIn t = false := by simpa using this
  exact h2

theorem card : Rows.NoteBackCardSaid :=
  Claim7.holds_tied_plain_at .later [] _ _ _ _ said (fun _ h => by cases h) (by kernel_rfl) (fun _ h => by cases h) noteBack_row_tie rfl ⟨rfl, rfl⟩ (by kernel_rfl) rfl plain (by kernel_rfl)
end Go.Proofs.YtjbhnkigbobhiaaDoor.cNoteBack
