/- Layer 4 in plain words: entries, notes and states in memory; the reference's SameLog, Same, Notes where both are one. -/
import Derived.Test.YtjbhnkigbobhiaaDoorNt
import Derived.Deep.QuietTactic
import Derived.BigQuiet
import Derived.Laws.StructEq
import Derived.WalkSmall
import Derived.Deep.Slices
import Derived.Deep.Fields
import Derived.Deep.Strs
import Derived.SizedLaws
import Derived.OpenShut
import Derived.ProofKit
namespace Go.Proofs.YtjbhnkigbobhiaaDoor
open Go.RowKit

/-- An entry. -/
structure En where
  t : Nat
  d : ByteArray
/-- Entries in memory. -/
def Ents (w : World) (a : Option Addr) (L : List En) : Prop :=
  ∀ j x, L[j]? = some x → ∃ b off, a = some ⟨b, off, none⟩ ∧ b < w.heap.size ∧ w.cell? ⟨b, off + j * 2, none⟩ = some (.int .u64 (x.t : Nat)) ∧ w.cell? ⟨b, off + j * 2 + 1, none⟩ = some (.string x.d)
theorem Ents.later {w w' : World} {a : Option Addr} {L : List En} (h : Ents w a L) (hb : Below w.heap.size w w') : Ents w' a L := fun j x hx => by
  obtain ⟨b, off, e, hlt, c0, c1⟩ := h j x hx
  exact ⟨b, off, e, Nat.lt_of_lt_of_le hlt hb.size, (hb.cell (p := ⟨b, off + j * 2, none⟩) hlt).trans c0, (hb.cell (p := ⟨b, off + j * 2 + 1, none⟩) hlt).trans c1⟩
/-- Notes in memory. -/
def Nts (w : World) (a : Option Addr) (L : List Nt) : Prop :=
  ∀ j x, L[j]? = some x → ∃ b off, a = some ⟨b, off, none⟩ ∧ b < w.heap.size ∧ w.cell? ⟨b, off + j * 5, none⟩ = some (.int .i64 x.k) ∧ w.cell? ⟨b, off + j * 5 + 1, none⟩ = some (.int .u64 (x.i : Nat)) ∧
    w.cell? ⟨b, off + j * 5 + 2, none⟩ = some (.int .u64 (x.t : Nat)) ∧ w.cell? ⟨b, off + j * 5 + 3, none⟩ = some (.int .u64 (x.v : Nat)) ∧ w.cell? ⟨b, off + j * 5 + 4, none⟩ = some (.string x.d)
theorem Nts.later {w w' : World} {a : Option Addr} {L : List Nt} (h : Nts w a L) (hb : Below w.heap.size w w') : Nts w' a L := fun j x hx => by
  obtain ⟨b, off, e, hlt, c0, c1, c2, c3, c4⟩ := h j x hx
  exact ⟨b, off, e, Nat.lt_of_lt_of_le hlt hb.size, (hb.cell (p := ⟨b, off + j * 5, none⟩) hlt).trans c0, (hb.cell (p := ⟨b, off + j * 5 + 1, none⟩) hlt).trans c1, (hb.cell (p := ⟨b, off + j * 5 + 2, none⟩) hlt).trans c2,
    (hb.cell (p := ⟨b, off + j * 5 + 3, none⟩) hlt).trans c3, (hb.cell (p := ⟨b, off + j * 5 + 4, none⟩) hlt).trans c4⟩
set_option maxHeartbeats 2000000 in
theorem refNotes_eq (a1 a2 : Option Addr) (n c1 c2 : Nat) (L : List Nt) (hn : L.length = n) (hl : n ≤ 140737488351232) (w : World) (h1 : Nts w a1 L) (h2 : Nts w a2 L) :
    Calls Tryd.prog 19 #[.slice a1 n c1, .slice a2 n c2] w fun e w' => e = .returned (.bool true) ∧ Below w.heap.size w w' := by
  have HN := Lib.hid hn; clear hn
  go_enter Tryd.func19, Tryd.ntmps19
  go_wp2_with fail
  go_loopw [5] (fun i wr => ∃ k : Nat, k ≤ n ∧ i = .int .i64 k ∧ Below w.heap.size w wr) (fun i _ => n - (intOf i).toNat)
  case atStart => exact ⟨0, Nat.zero_le _, rfl, Below.refl _ _⟩
  case round =>
    obtain ⟨k, hk, rfl, B⟩ := hrel
    by_cases hlt : k < n
    · have hkl : k < L.length := by have := HN.out; omega
      obtain ⟨b, off, rfl, _, p0, p1, p2, p3, p4⟩ := (h1.later B) k _ (List.getElem?_eq_getElem hkl)
      obtain ⟨b2, off2, rfl, _, q0, q1, q2, q3, q4⟩ := (h2.later B) k _ (List.getElem?_eq_getElem hkl)
      obtain ⟨x, hx⟩ : ∃ x, L[k] = x := ⟨_, rfl⟩
      rw [hx] at p0 p1 p2 p3 p4 q0 q1 q2 q3 q4
      have HX := Lib.hid hx; clear hx
      have i0 : (0 : Int) ≤ (k : Int) := by omega
      have i1 : (k : Int) < (n : Int) := by omega
      go_wp2_with fail
      go_quiet (fail)
      go_wp2_with fail
      go_roundw
      case rel => exact ⟨k + 1, by omega, by go_num, below_drewN B _⟩
      case measure => simp [intOf]; omega
    · go_wp2_with fail
      go_ret
      exact ⟨rfl, B⟩
set_option maxHeartbeats 2000000 in
theorem refSameLog_eq (a1 a2 : Option Addr) (n c1 c2 base bt : Nat) (snap : ByteArray) (L : List En) (hn : L.length = n) (hl : n ≤ 140737488351232) (w : World) (h1 : Ents w a1 L) (h2 : Ents w a2 L) :
    Calls Tryd.prog 29 #[.agg #[.int .u64 base, .int .u64 bt, .string snap, .slice a1 n c1], .agg #[.int .u64 base, .int .u64 bt, .string snap, .slice a2 n c2]] w fun e w' => e = .returned (.bool true) ∧ Below w.heap.size w w' := by
  have HN := Lib.hid hn; clear hn
  go_enter Tryd.func29, Tryd.ntmps29
  go_wp2_with fail
  generalize hW : ((w.alloc (.cells #[.int .u64 base, .int .u64 bt, .string snap, .slice a1 n c1] 34)).alloc (.cells #[.int .u64 base, .int .u64 bt, .string snap, .slice a2 n c2] 34)) = W
  have hB : Below w.heap.size w W := by subst hW; go_grown
  have x3 : W.cell? ⟨w.heap.size, 3, none⟩ = some (.slice a1 n c1) := by subst hW; simp [go_sem]
  have y3 : W.cell? ⟨w.heap.size + 1, 3, none⟩ = some (.slice a2 n c2) := by subst hW; simp [go_sem]
  have hz : w.heap.size + 1 < W.heap.size := by subst hW; simp
  have g1 := h1.later hB
  have g2 := h2.later hB
  clear hW h1 h2
  go_loopw [5] (fun i wr => ∃ k : Nat, k ≤ n ∧ i = .int .i64 k ∧ Below W.heap.size W wr) (fun i _ => n - (intOf i).toNat)
  case atStart => exact ⟨0, Nat.zero_le _, rfl, Below.refl _ _⟩
  case round =>
    obtain ⟨k, hk, rfl, B⟩ := hrel
    have X3 := (B.cell (p := ⟨w.heap.size, 3, none⟩) (by show w.heap.size < _; omega)).trans x3
    have Y3 := (B.cell (p := ⟨w.heap.size + 1, 3, none⟩) hz).trans y3
    by_cases hlt : k < n
    · have hkl : k < L.length := by have := HN.out; omega
      obtain ⟨b, off, rfl, _, p0, p1⟩ := (g1.later B) k _ (List.getElem?_eq_getElem hkl)
      obtain ⟨b2, off2, rfl, _, q0, q1⟩ := (g2.later B) k _ (List.getElem?_eq_getElem hkl)
      obtain ⟨x, hx⟩ : ∃ x, L[k] = x := ⟨_, rfl⟩
      rw [hx] at p0 p1 q0 q1
      have HX := Lib.hid hx; clear hx
      have i0 : (0 : Int) ≤ (k : Int) := by omega
      have i1 : (k : Int) < (n : Int) := by omega
      clear x3 y3
      go_wp2_with fail
      go_quiet (fail)
      go_wp2_with fail
      go_roundw
      case rel => exact ⟨k + 1, by omega, by go_num, below_drewN B _⟩
      case measure => simp [intOf]; omega
    · go_wp2_with fail
      go_ret
      exact ⟨rfl, hB.trans (B.mono hB.size)⟩
set_option maxHeartbeats 1000000 in
theorem refSame_eq (a1 a2 : Option Addr) (n c1 c2 term vote base bt : Nat) (snap : ByteArray) (L : List En) (hn : L.length = n) (hl : n ≤ 140737488351232) (w : World) (h1 : Ents w a1 L) (h2 : Ents w a2 L) :
    Calls Tryd.prog 11 #[.agg #[.int .u64 term, .int .u64 vote, .int .u64 base, .int .u64 bt, .string snap, .slice a1 n c1], .agg #[.int .u64 term, .int .u64 vote, .int .u64 base, .int .u64 bt, .string snap, .slice a2 n c2]] w fun e w' => e = .returned (.bool true) ∧ Below w.heap.size w w' := by
  have HN := Lib.hid hn; clear hn
  go_enter Tryd.func11, Tryd.ntmps11
  go_wp2_with fail
  have hB : Below w.heap.size w ((w.alloc (.cells #[.int .u64 term, .int .u64 vote, .int .u64 base, .int .u64 bt, .string snap, .slice a1 n c1] 36)).alloc (.cells #[.int .u64 term, .int .u64 vote, .int .u64 base, .int .u64 bt, .string snap, .slice a2 n c2] 36)) := by go_grown
  refine (refSameLog_eq a1 a2 n c1 c2 base bt snap L HN.out hl _ (h1.later hB) (h2.later hB)).mono ?_
  rintro e w1 ⟨rfl, hb1⟩
  have x0 : w1.cell? ⟨w.heap.size, 0, none⟩ = some (.int .u64 term) := (hb1.cell (p := ⟨w.heap.size, 0, none⟩) (by simp; omega)).trans (by simp [go_sem])
  have x1 : w1.cell? ⟨w.heap.size, 1, none⟩ = some (.int .u64 vote) := (hb1.cell (p := ⟨w.heap.size, 1, none⟩) (by simp; omega)).trans (by simp [go_sem])
  have y0 : w1.cell? ⟨w.heap.size + 1, 0, none⟩ = some (.int .u64 term) := (hb1.cell (p := ⟨w.heap.size + 1, 0, none⟩) (by simp)).trans (by simp [go_sem])
  have y1 : w1.cell? ⟨w.heap.size + 1, 1, none⟩ = some (.int .u64 vote) := (hb1.cell (p := ⟨w.heap.size + 1, 1, none⟩) (by simp)).trans (by simp [go_sem])
  have B1 := hB.trans (hb1.mono hB.size)
  clear hb1 hB
  go_wp2_with fail
  go_ret
  exact ⟨rfl, B1⟩
theorem refLast_any (a : Option Addr) (n c base bt : Nat) (snap : ByteArray) (w : World) (hb : base ≤ 1099511627776) (hn : n ≤ 1048576) :
    Calls Tryd.prog 27 #[.agg #[.int .u64 base, .int .u64 bt, .string snap, .slice a n c]] w fun e w' => e = .returned (.int .u64 (base + n : Nat)) ∧ Below w.heap.size w w' := by
  go_enter Tryd.func27, Tryd.ntmps27
  go_wp2_with fail
  go_ret
  exact ⟨by simp, (Below.refl _ _).alloc (Nat.le_refl _) _⟩
end Go.Proofs.YtjbhnkigbobhiaaDoor
/- An argument that is a slice of notes: what its reading gives. -/
namespace Go.Proofs.YtjbhnkigbobhiaaDoor
open Go.ChangeShapes Go.WideShapes Go.ChangeAt Go.RowKit Go.Deep

theorem cellsNt : Tryd.prog.cellsOf 24 = 5 := by kernel_rfl
theorem bytesNt : Tryd.prog.bytesOf 24 = 48 := by kernel_rfl
theorem cellsU64 : Tryd.prog.cellsOf 22 = 1 := by kernel_rfl
theorem u64_nat {z : Int} (h : (Lit.int .u64 z).wf = true) : ∃ n : Nat, z = n ∧ n < 18446744073709551616 := by
  have hb := bounds_u64 h
  exact ⟨z.toNat, by omega, by omega⟩
theorem cellsInt : Tryd.prog.cellsOf 3 = 1 := by kernel_rfl
theorem cellsString : Tryd.prog.cellsOf 9 = 1 := by kernel_rfl
theorem mem_weightsAll {H : Type} {P : Program} {e : TypeId} {n : Nat} {d : DataW H} (hn : n ∈ d.weights P e) : ∀ l : List (DataW H), d ∈ l → n ∈ DataW.weightsAll P e l
  | [], h => by cases h
  | x :: l, h => by
    simp only [DataW.weightsAll, List.mem_append]
    rcases List.mem_cons.1 h with rfl | h
    · exact .inl hn
    · exact .inr (mem_weightsAll hn l h)
theorem trod_struct5 {H : Type} {enc : TypeId × Value → H} {P : Program} {w : World} {base : Nat} {spare : Nat → Bool} {held : Bool} {t : TypeId} {f0 f1 f2 f3 f4 : Field} {fuel : Nat} {cs : List Value} {x : DataW H × List MemPlace} (ht : P.underlying t = some (.struct #[f0, f1, f2, f3, f4])) (h : DataW.trod enc P w base spare held fuel t cs = some x) :
    ∃ y0 y1 y2 y3 y4 n, x.1 = .agg [y0.1, y1.1, y2.1, y3.1, y4.1] ∧ DataW.trod enc P w base spare held n f0.type ((cs.drop f0.offset).take (P.cellsOf f0.type)) = some y0 ∧ DataW.trod enc P w base spare held n f1.type ((cs.drop f1.offset).take (P.cellsOf f1.type)) = some y1 ∧
      DataW.trod enc P w base spare held n f2.type ((cs.drop f2.offset).take (P.cellsOf f2.type)) = some y2 ∧ DataW.trod enc P w base spare held n f3.type ((cs.drop f3.offset).take (P.cellsOf f3.type)) = some y3 ∧ DataW.trod enc P w base spare held n f4.type ((cs.drop f4.offset).take (P.cellsOf f4.type)) = some y4 := by
  obtain ⟨xs, n, _, hx, _, hlen, hf⟩ := DataW.trod_struct ht h
  match xs, hlen with
  | [y0, y1, y2, y3, y4], _ => exact ⟨y0, y1, y2, y3, y4, n, by rw [hx]; rfl, by simpa using hf 0 f0 rfl, by simpa using hf 1 f1 rfl, by simpa using hf 2 f2 rfl, by simpa using hf 3 f3 rfl, by simpa using hf 4 f4 rfl⟩
/-- What an argument of notes gives. -/
structure NtRow (W : World) (a : Option Addr) (len : Nat) (L : List Nt) : Prop where
  hlen : L.length = len
  hmax : len ≤ 140737488351232
  sizes : ∀ x ∈ L, x.d.size ≤ 140737488351232
  nums : ∀ x ∈ L, x.i < 18446744073709551616 ∧ x.t < 18446744073709551616 ∧ x.v < 18446744073709551616 ∧ -9223372036854775808 ≤ x.k ∧ x.k ≤ 9223372036854775807
  mem : Nts W a L
set_option maxRecDepth 100000 in
theorem ntRow_of {H : Type} {enc : TypeId × Value → H} {W : World} {a : Option Addr} {len cap : Nat} {d : DataW H} {p : List MemPlace} {ts : List TypeId} {ds : List (DataW H)} {j : Nat}
    (h : DataW.Trod enc Tryd.prog W 0 (fun _ => true) true 38 (.slice a len cap) d p) (hlt : ∀ x ∈ p, x.block < W.heap.size)
    (hZ : (DataW.weightsEach Tryd.prog ts ds).all (· ≤ reachBytes) = true) (hj : ts[j]? = some 38) (hd : ds[j]? = some d) : ∃ L, NtRow W a len L := by
  obtain ⟨fuel, hf⟩ := h
  rcases open_slice Tryd.underlying38 hf with ⟨hcs, hx⟩ | ⟨a', len', cap', m, n, D, Pl, hcs, _, hl, hm, hmm, hx, hi⟩
  · simp [Value.cells] at hcs
    obtain ⟨rfl, rfl, rfl⟩ := hcs
    exact ⟨[], rfl, by omega, by simp, by simp, fun j x hx => by simp at hx⟩
  · simp [Value.cells] at hcs
    obtain ⟨rfl, rfl, rfl⟩ := hcs
    simp only [Prod.mk.injEq] at hx
    obtain ⟨rfl, rfl⟩ := hx
    simp only [if_true] at hmm
    subst hmm
    have hreach := sized_slice hZ hj hd Tryd.underlying38
    rw [bytesNt] at hreach
    simp only [List.length_map, List.length_range, reachBytes] at hreach
    obtain ⟨b, off, spot⟩ := a'
    have hspot : 0 < len → spot = none := by
      intro h0
      obtain ⟨cs', hc, _⟩ := hi 0 (by omega)
      rw [cellsNt] at hc
      obtain ⟨_, hcl, hat⟩ := World.cells?_some hc
      have s0 := hat 0 (by omega)
      match cs', hcl with
      | [c0, c1, c2, c3, c4], _ => simpa [Addr.add] using World.cell?_spot s0
    have hone : ∀ i, ∃ x : Nt, i < len → (x.d.size ≤ 140737488351232 ∧ (x.i < 18446744073709551616 ∧ x.t < 18446744073709551616 ∧ x.v < 18446744073709551616 ∧ -9223372036854775808 ≤ x.k ∧ x.k ≤ 9223372036854775807)) ∧ spot = none ∧ b < W.heap.size ∧
        W.cell? ⟨b, off + i * 5, none⟩ = some (.int .i64 x.k) ∧ W.cell? ⟨b, off + i * 5 + 1, none⟩ = some (.int .u64 x.i) ∧ W.cell? ⟨b, off + i * 5 + 2, none⟩ = some (.int .u64 x.t) ∧ W.cell? ⟨b, off + i * 5 + 3, none⟩ = some (.int .u64 x.v) ∧ W.cell? ⟨b, off + i * 5 + 4, none⟩ = some (.string x.d) := by
      intro i
      by_cases hil : i < len
      · obtain ⟨cs', hc, ht⟩ := hi i (by omega)
        rw [cellsNt] at hc
        obtain ⟨_, hcl, hat⟩ := World.cells?_some hc
        obtain ⟨y0, y1, y2, y3, y4, n', hy, t0, t1, t2, t3, t4⟩ := trod_struct5 Tryd.underlying24 ht
        match cs', hcl with
        | [c0, c1, c2, c3, c4], _ =>
          obtain ⟨k, e0, rfl, wk⟩ := DataW.trod_int Tryd.underlying3 t0
          obtain ⟨zi, e1, rfl, wi⟩ := DataW.trod_int Tryd.underlying22 t1
          obtain ⟨zt, e2, rfl, wt⟩ := DataW.trod_int Tryd.underlying22 t2
          obtain ⟨zv, e3, rfl, wv⟩ := DataW.trod_int Tryd.underlying22 t3
          obtain ⟨s, e4, rfl, _⟩ := DataW.trod_string Tryd.underlying9 t4
          simp only [cellsInt, cellsU64, cellsString] at e0 e1 e2 e3 e4
          simp at e0 e1 e2 e3 e4
          subst e0 e1 e2 e3 e4
          have s0 := hat 0 (by omega)
          have s1 := hat 1 (by omega)
          have s2 := hat 2 (by omega)
          have s3 := hat 3 (by omega)
          have s4 := hat 4 (by omega)
          obtain rfl := hspot (by omega)
          rw [add_plain, add_plain] at s0 s1 s2 s3 s4
          have bk := bounds_i64 wk
          obtain ⟨ni, rfl, bi⟩ := u64_nat wi
          obtain ⟨nt, rfl, bt⟩ := u64_nat wt
          obtain ⟨nv, rfl, bv⟩ := u64_nat wv
          refine ⟨⟨k, ni, nt, nv, s⟩, fun _ => ⟨⟨?_, bi, bt, bv, bk.1, bk.2⟩, rfl, ?_, ?_, ?_, ?_, ?_, ?_⟩⟩
          · have hmem : s.data.toList.length ∈ (D i).weights Tryd.prog 24 := by
              have hD : D i = _ := hy
              rw [hD]; simp [DataW.weights, DataW.weightsEach, Tryd.underlying24]
            have h := List.all_eq_true.1 hZ _ (DataW.weights_mem_each hj hd s.data.toList.length (by
              simp only [DataW.weights, Tryd.underlying38, List.mem_cons, List.mem_append]
              exact .inr (.inl (mem_weightsAll hmem _ (List.mem_map.2 ⟨i, List.mem_range.2 hil, rfl⟩)))))
            rw [Array.length_toList] at h; exact of_decide_eq_true h
          · exact hlt (.cell b off) (List.mem_append.2 (.inl (MemPlace.mem_row.2 ⟨0, by rw [cellsNt]; omega, by simp⟩)))
          · simpa using s0
          · simpa using s1
          · simpa using s2
          · simpa using s3
          · simpa using s4
      · exact ⟨⟨0, 0, 0, 0, ⟨#[]⟩⟩, fun h => absurd h hil⟩
    have hget : ∀ i x, ((List.range len).map fun i => Classical.choose (hone i))[i]? = some x → i < len ∧ x = Classical.choose (hone i) := fun i x hx => by
      have hil : i < len := by have := (List.getElem?_eq_some_iff.1 hx).1; simpa using this
      rw [List.getElem?_map, List.getElem?_range hil] at hx
      exact ⟨hil, (Option.some.inj hx).symm⟩
    refine ⟨(List.range len).map fun i => Classical.choose (hone i), by simp, by omega, fun x hx => ?_, fun x hx => ?_, fun i x hx => ?_⟩
    · obtain ⟨i, hi, rfl⟩ := List.mem_map.1 hx
      exact (Classical.choose_spec (hone i) (List.mem_range.1 hi)).1.1
    · obtain ⟨i, hi, rfl⟩ := List.mem_map.1 hx
      exact (Classical.choose_spec (hone i) (List.mem_range.1 hi)).1.2
    · obtain ⟨hil, rfl⟩ := hget i x hx
      obtain ⟨_, g3, g4, g5, g6, g7, g8, g9⟩ := Classical.choose_spec (hone i) hil
      exact ⟨b, off, by rw [g3], g4, g5, g6, g7, g8, g9⟩
end Go.Proofs.YtjbhnkigbobhiaaDoor
