/- The program's Least. -/
import Derived.Test.YtjbhnkigbobhiaaDoorSf
import Derived.Test.YtjbhnkigbobhiaaDoorMc
namespace Go.Proofs.YtjbhnkigbobhiaaDoor
open Go.RowKit

set_option maxHeartbeats 1000000 in
theorem pLeast_no (term vote base bt n c : Nat) (snap : ByteArray) (a : Option Addr) (L : List En) (hn : L.length = n) (hl : n ≤ 140737488351232) (hs : snap.size ≤ 140737488351232) (hD : ∀ x ∈ L, x.d.size ≤ 140737488351232) (w : World) (hE : Ents w a L) (hno : ¬ stOk term vote base bt snap L) :
    Calls Tryd.prog 10 #[.agg #[.int .u64 term, .int .u64 vote, .int .u64 base, .int .u64 bt, .string snap, .slice a n c]] w fun e w' => e = .returned (.tuple #[.slice none 0 0, .int .i64 1]) ∧ Below w.heap.size w w' := by
  have HN := Lib.hid hn; clear hn
  have HD := Lib.hid hD; clear hD
  have HNO := Lib.hid hno; clear hno
  have hB : Below w.heap.size w (w.alloc (.cells #[.int .u64 term, .int .u64 vote, .int .u64 base, .int .u64 bt, .string snap, .slice a n c] 36)) := by go_grown
  have hE2 := hE.later hB
  go_enter Tryd.func10, Tryd.ntmps10
  go_wp2_with fail
  refine (pMay_any term vote base bt n c snap a L HN.out hl hs HD.out _ hE2).mono ?_
  rintro e w1 ⟨⟨b, rfl, hb⟩, hb1⟩
  obtain rfl : b = false := by
    cases b with
    | false => rfl
    | true => exact absurd (hb.1 rfl) HNO.out
  have B1 := hB.trans (hb1.mono hB.size)
  clear hb hb1 hB hE2
  go_wp2_with fail
  go_ret2
  exact ⟨rfl, B1⟩
set_option maxHeartbeats 4000000 in
set_option maxRecDepth 100000 in
theorem pLeast_yes (term vote base bt n c : Nat) (snap : ByteArray) (a : Option Addr) (L : List En) (hn : L.length = n) (hl : n ≤ 140737488351232) (hs : snap.size ≤ 140737488351232) (hD : ∀ x ∈ L, x.d.size ≤ 140737488351232) (w : World) (hE : Ents w a L) (hyes : stOk term vote base bt snap L) :
    Calls Tryd.prog 10 #[.agg #[.int .u64 term, .int .u64 vote, .int .u64 base, .int .u64 bt, .string snap, .slice a n c]] w (LeastP w (leastL term vote base bt snap L)) := by
  obtain ⟨i0, hi, hz0, hz1, hz2⟩ := info_parts infoNote
  have hn4 : n ≤ 1024 := by have := hyes.2.2.2.1; omega
  have hb4 : base ≤ 1099511627776 := hyes.2.2.1
  have HN := Lib.hid hn; clear hn
  have HD := Lib.hid hD; clear hD
  have HYES := Lib.hid hyes; clear hyes
  have hB : Below w.heap.size w (w.alloc (.cells #[.int .u64 term, .int .u64 vote, .int .u64 base, .int .u64 bt, .string snap, .slice a n c] 36)) := by go_grown
  have hE2 := hE.later hB
  go_enter Tryd.func10, Tryd.ntmps10
  go_wp2_with fail
  refine (pMay_any term vote base bt n c snap a L HN.out hl hs HD.out _ hE2).mono ?_
  rintro e w1 ⟨⟨b, rfl, hb⟩, hb1⟩
  obtain rfl : b = true := hb.2 HYES.out
  have B1 := hB.trans (hb1.mono hB.size)
  have x0 : w1.cell? ⟨w.heap.size, 0, none⟩ = some (.int .u64 term) := (hb1.cell (p := ⟨w.heap.size, 0, none⟩) (by simp)).trans (by simp)
  have x1 : w1.cell? ⟨w.heap.size, 1, none⟩ = some (.int .u64 vote) := (hb1.cell (p := ⟨w.heap.size, 1, none⟩) (by simp)).trans (by simp)
  have x2 : w1.cell? ⟨w.heap.size, 2, none⟩ = some (.int .u64 base) := (hb1.cell (p := ⟨w.heap.size, 2, none⟩) (by simp)).trans (by simp)
  have x3 : w1.cell? ⟨w.heap.size, 3, none⟩ = some (.int .u64 bt) := (hb1.cell (p := ⟨w.heap.size, 3, none⟩) (by simp)).trans (by simp)
  have x4 : w1.cell? ⟨w.heap.size, 4, none⟩ = some (.string snap) := (hb1.cell (p := ⟨w.heap.size, 4, none⟩) (by simp)).trans (by simp)
  have x5 : w1.cell? ⟨w.heap.size, 5, none⟩ = some (.slice a n c) := (hb1.cell (p := ⟨w.heap.size, 5, none⟩) (by simp)).trans (by simp)
  have hz : w.heap.size < w1.heap.size := by have := hb1.size; simp at this; omega
  have hE3 := hE2.later hb1
  clear hb hb1 hB hE2 hE
  by_cases hbase : 0 < base
  · have g1 : ((base : Int) != 0) = true := by simp; omega
    have hown0 := (World.ownsRow_lit (base := w1.heap.size) (e := 24) (size := 5) w1 (ntCells ⟨1, 0, term, vote, ⟨#[]⟩⟩).toArray 1 (Nat.le_refl _) (by unfold maxLen; omega) rfl).alloc (.cells (ntCells ⟨4, base, bt, 0, snap⟩).toArray 24)
    go_wp2_with (at_builtin; refine wpList_append_own _ rfl _ _ 38 rfl w1.heap.size 24 i0 (.agg #[.int .i64 0, .int .u64 0, .int .u64 0, .int .u64 0, .string ⟨#[]⟩]) 5 48 Tryd.underlying38 hi hz0 hz1 hz2 rfl (by decide) _ _ _ rfl hown0 ⟨w1.heap.size + 1, 0, none⟩ 1 1 (ntCells ⟨4, base, bt, 0, snap⟩) rfl rfl ?c1 ?c2 ?c3 ?c4 ?c5 ?_)
    case c1 => intro j u hj; rw [addHead]; exact (World.cell?_alloc_at _ _ _ _ (by simp)).trans (by rw [List.getElem?_toArray.symm] at hj; exact hj)
    case c2 => intro u hu; simp only [ntCells, List.mem_cons, List.not_mem_nil, or_false] at hu; rcases hu with rfl | rfl | rfl | rfl | rfl <;> rfl
    case c3 => unfold maxLen; omega
    case c4 => omega
    case c5 => simp; omega
    intro v' w3 hown3 hgrow _
    have C3 : Below w1.heap.size w1 w3 := (((Below.refl _ w1).alloc (Nat.le_refl _) _).alloc (by simp) _).grown hgrow (by simp; omega) (fun j e => by cases e; exact Nat.le_refl _)
    have hhd : headL term vote base bt snap = [⟨1, 0, term, vote, ⟨#[]⟩⟩, ⟨4, base, bt, 0, snap⟩] := by unfold headL; rw [if_pos hbase]
    have hown4 : w3.ownsRow w1.heap.size 24 5 v' ((headL term vote base bt snap).length + 0) (ntsCells (headL term vote base bt snap ++ entL base L 0)) := by
      rw [hhd]; simpa [entL, ntsCells] using hown3
    have Y5 := (C3.cell (p := ⟨w.heap.size, 5, none⟩) hz).trans x5
    clear hown0 hown3 hgrow hhd x0 x1 x3 x4
    go_wp2_with fail
    go_loopw [4, 37] (fun v i wr => ∃ k : Nat, k ≤ n ∧ i = .int .i64 k ∧ wr.ownsRow w1.heap.size 24 5 v ((headL term vote base bt snap).length + k) (ntsCells (headL term vote base bt snap ++ entL base L k)) ∧ Below w1.heap.size w1 wr) (fun _ i _ => n - (intOf i).toNat)
    case atStart => exact ⟨0, Nat.zero_le _, rfl, hown4, C3⟩
    case round =>
      clear hown4 C3 Y5
      obtain ⟨k, hk, rfl, hown, C⟩ := hrel
      have hsz := C.size
      have X2 := (C.cell (p := ⟨w.heap.size, 2, none⟩) hz).trans x2
      have X5 := (C.cell (p := ⟨w.heap.size, 5, none⟩) hz).trans x5
      have hz9 : w.heap.size < wr.heap.size := by omega
      by_cases hlt : k < n
      · have hkl : k < L.length := by have := HN.out; omega
        obtain ⟨x, hx⟩ : ∃ x, L[k]? = some x := ⟨_, List.getElem?_eq_getElem hkl⟩
        obtain ⟨b, off, rfl, hbb, p0, p1⟩ := (hE3.later C) k x hx
        have hes := entL_succ base L k x hx
        have hhl := headL_len term vote base bt snap
        obtain ⟨T, D⟩ := x
        simp only at p0 p1 hes
        have HES := Lib.hid hes; clear hes
        have HX := Lib.hid hx; clear hx
        have i0' : (0 : Int) ≤ (k : Int) := by omega
        have i1 : (k : Int) < (n : Int) := by omega
        obtain ⟨hl0, hhl0⟩ : ∃ q, q = (headL term vote base bt snap).length := ⟨_, rfl⟩
        rw [← hhl0] at hown hhl
        have HHL := Lib.hid hhl0; clear hhl0
        go_wp2_with (at_builtin; refine wpList_append_own _ rfl _ _ 38 rfl w1.heap.size 24 i0 (.agg #[.int .i64 0, .int .u64 0, .int .u64 0, .int .u64 0, .string ⟨#[]⟩]) 5 48 Tryd.underlying38 hi hz0 hz1 hz2 rfl (by decide) _ _ _ rfl ((hown.alloc _).alloc _) ⟨wr.heap.size + 1, 0, none⟩ 1 1 (ntCells ⟨2, base + k + 1, T, 0, D⟩) rfl rfl ?c1 ?c2 ?c3 ?c4 ?c5 ?_)
        case c1 => intro j u hj; rw [addHead]; exact (World.cell?_alloc_at _ _ _ _ (by simp)).trans (by rw [List.getElem?_toArray.symm] at hj; exact hj)
        case c2 => intro u hu; simp only [ntCells, List.mem_cons, List.not_mem_nil, or_false] at hu; rcases hu with rfl | rfl | rfl | rfl | rfl <;> rfl
        case c3 => unfold maxLen; omega
        case c4 => omega
        case c5 => simp; omega
        intro v' w3 hown3 hgrow _
        have C3 : Below w1.heap.size w1 w3 := ((C.alloc C.size _).alloc (by simp; omega) _).grown hgrow (by simp; omega) (fun j e => (hown.lt j e).1)
        have hown4 : w3.ownsRow w1.heap.size 24 5 v' ((headL term vote base bt snap).length + (k + 1)) (ntsCells (headL term vote base bt snap ++ entL base L (k + 1))) := by
          rw [HES.out, ← List.append_assoc, ntsCells_snoc, ← HHL.out, ← Nat.add_assoc]; exact hown3
        have HO := Lib.hid hown4
        clear hown hown3 hown4 hgrow
        go_wp2_with fail
        go_roundw
        case rel => exact ⟨k + 1, by omega, by go_num, HO.out, C3⟩
        case measure => simp [intOf]; omega
      · obtain rfl : k = n := by omega
        have hlen : (leastL term vote base bt snap L).length = (headL term vote base bt snap).length + k := by
          unfold leastL; rw [List.length_append, entL_len _ _ _ (Nat.le_refl _), HN.out]
        have hcl : leastL term vote base bt snap L = headL term vote base bt snap ++ entL base L k := by unfold leastL; rw [HN.out]
        have hfin : LeastP w (leastL term vote base bt snap L) (.returned (.tuple #[_, .int .i64 0])) wr := ⟨_, rfl, by rw [hlen, hcl]; exact owns_base hown B1.size, B1.trans (C.mono B1.size)⟩
        have HF := Lib.hid hfin
        clear hlen hcl hfin hown
        go_wp2_with fail
        go_ret2
        exact HF.out
  · have g1 : ((base : Int) != 0) = false := by simp; omega
    have hown0 := World.ownsRow_lit (base := w1.heap.size) (e := 24) (size := 5) w1 (ntCells ⟨1, 0, term, vote, ⟨#[]⟩⟩).toArray 1 (Nat.le_refl _) (by unfold maxLen; omega) rfl
    have C3 : Below w1.heap.size w1 (w1.alloc (.cells (ntCells ⟨1, 0, term, vote, ⟨#[]⟩⟩).toArray 24)) := (Below.refl _ w1).alloc (Nat.le_refl _) _
    have hhd : headL term vote base bt snap = [⟨1, 0, term, vote, ⟨#[]⟩⟩] := by unfold headL; rw [if_neg hbase]
    have hown4 : (w1.alloc (.cells (ntCells ⟨1, 0, term, vote, ⟨#[]⟩⟩).toArray 24)).ownsRow w1.heap.size 24 5 (.slice (some ⟨w1.heap.size, 0, none⟩) 1 1) ((headL term vote base bt snap).length + 0) (ntsCells (headL term vote base bt snap ++ entL base L 0)) := by
      rw [hhd]; simpa [entL, ntsCells] using hown0
    have HO := Lib.hid hown4
    have HC := Lib.hid C3
    clear hown0 hown4 C3 hhd x3 x4
    go_wp2_with fail
    go_loopw [4, 37] (fun v i wr => ∃ k : Nat, k ≤ n ∧ i = .int .i64 k ∧ wr.ownsRow w1.heap.size 24 5 v ((headL term vote base bt snap).length + k) (ntsCells (headL term vote base bt snap ++ entL base L k)) ∧ Below w1.heap.size w1 wr) (fun _ i _ => n - (intOf i).toNat)
    case atStart => exact ⟨0, Nat.zero_le _, rfl, HO.out, HC.out⟩
    case round =>
      clear HO HC
      obtain ⟨k, hk, rfl, hown, C⟩ := hrel
      have hsz := C.size
      have X2 := (C.cell (p := ⟨w.heap.size, 2, none⟩) hz).trans x2
      have X5 := (C.cell (p := ⟨w.heap.size, 5, none⟩) hz).trans x5
      have hz9 : w.heap.size < wr.heap.size := by omega
      by_cases hlt : k < n
      · have hkl : k < L.length := by have := HN.out; omega
        obtain ⟨x, hx⟩ : ∃ x, L[k]? = some x := ⟨_, List.getElem?_eq_getElem hkl⟩
        obtain ⟨b, off, rfl, hbb, p0, p1⟩ := (hE3.later C) k x hx
        have hes := entL_succ base L k x hx
        have hhl := headL_len term vote base bt snap
        obtain ⟨T, D⟩ := x
        simp only at p0 p1 hes
        have HES := Lib.hid hes; clear hes
        have HX := Lib.hid hx; clear hx
        have i0' : (0 : Int) ≤ (k : Int) := by omega
        have i1 : (k : Int) < (n : Int) := by omega
        obtain ⟨hl0, hhl0⟩ : ∃ q, q = (headL term vote base bt snap).length := ⟨_, rfl⟩
        rw [← hhl0] at hown hhl
        have HHL := Lib.hid hhl0; clear hhl0
        go_wp2_with (at_builtin; refine wpList_append_own _ rfl _ _ 38 rfl w1.heap.size 24 i0 (.agg #[.int .i64 0, .int .u64 0, .int .u64 0, .int .u64 0, .string ⟨#[]⟩]) 5 48 Tryd.underlying38 hi hz0 hz1 hz2 rfl (by decide) _ _ _ rfl ((hown.alloc _).alloc _) ⟨wr.heap.size + 1, 0, none⟩ 1 1 (ntCells ⟨2, base + k + 1, T, 0, D⟩) rfl rfl ?c1 ?c2 ?c3 ?c4 ?c5 ?_)
        case c1 => intro j u hj; rw [addHead]; exact (World.cell?_alloc_at _ _ _ _ (by simp)).trans (by rw [List.getElem?_toArray.symm] at hj; exact hj)
        case c2 => intro u hu; simp only [ntCells, List.mem_cons, List.not_mem_nil, or_false] at hu; rcases hu with rfl | rfl | rfl | rfl | rfl <;> rfl
        case c3 => unfold maxLen; omega
        case c4 => omega
        case c5 => simp; omega
        intro v' w3 hown3 hgrow _
        have C3 : Below w1.heap.size w1 w3 := ((C.alloc C.size _).alloc (by simp; omega) _).grown hgrow (by simp; omega) (fun j e => (hown.lt j e).1)
        have hown4 : w3.ownsRow w1.heap.size 24 5 v' ((headL term vote base bt snap).length + (k + 1)) (ntsCells (headL term vote base bt snap ++ entL base L (k + 1))) := by
          rw [HES.out, ← List.append_assoc, ntsCells_snoc, ← HHL.out, ← Nat.add_assoc]; exact hown3
        have HO := Lib.hid hown4
        clear hown hown3 hown4 hgrow
        go_wp2_with fail
        go_roundw
        case rel => exact ⟨k + 1, by omega, by go_num, HO.out, C3⟩
        case measure => simp [intOf]; omega
      · obtain rfl : k = n := by omega
        have hlen : (leastL term vote base bt snap L).length = (headL term vote base bt snap).length + k := by
          unfold leastL; rw [List.length_append, entL_len _ _ _ (Nat.le_refl _), HN.out]
        have hcl : leastL term vote base bt snap L = headL term vote base bt snap ++ entL base L k := by unfold leastL; rw [HN.out]
        have hfin : LeastP w (leastL term vote base bt snap L) (.returned (.tuple #[_, .int .i64 0])) wr := ⟨_, rfl, by rw [hlen, hcl]; exact owns_base hown B1.size, B1.trans (C.mono B1.size)⟩
        have HF := Lib.hid hfin
        clear hlen hcl hfin hown
        go_wp2_with fail
        go_ret2
        exact HF.out
end Go.Proofs.YtjbhnkigbobhiaaDoor
