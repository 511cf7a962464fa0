/- The program's log: cut. -/
import Derived.Test.YtjbhnkigbobhiaaDoorKc
namespace Go.Proofs.YtjbhnkigbobhiaaDoor
open Go.RowKit

set_option maxRecDepth 100000 in
set_option maxHeartbeats 4000000 in
theorem cut_no (B : Nat) (base bt n c : Nat) (snap : ByteArray) (a : Option Addr) (L : List En) (hn : L.length = n) (hl : n ≤ 1024) (hbn : base + n ≤ 1099511627776) (w : World) (hO : Oe B w a c L) (hBw : B ≤ w.heap.size) (i : Nat) (h1 : ¬ i ≤ base + n) :
    Calls Tryd.prog 31 #[.agg #[.int .u64 base, .int .u64 bt, .string snap, .slice a n c], .int .u64 i] w (LgP B w ⟨0, 0, base, bt, snap, L.take (i - 1 - base)⟩) := by
  have HN := Lib.hid hn; clear hn
  have HO := Lib.hid hO; clear hO
  obtain ⟨q, hq⟩ : ∃ q, base + n = q := ⟨_, rfl⟩
  have hql : q ≤ 1099511627776 := by omega
  have g1 : ¬ (i : Int) ≤ (q : Int) := by omega
  have HQ := Lib.hid hq; clear hq
  go_enter Tryd.func31, Tryd.ntmps31
  go_wp2_with fail
  generalize hW : ((w.alloc (.cells #[.int .u64 base, .int .u64 bt, .string snap, .slice a n c] 34)).alloc (.cells #[.int .u64 0, .int .u64 0, .string ⟨#[]⟩, .slice none 0 0] 34)) = W
  have b0 : W.cell? ⟨w.heap.size, 0, none⟩ = some (.int .u64 base) := by subst hW; simp [go_sem]
  have b1 : W.cell? ⟨w.heap.size, 1, none⟩ = some (.int .u64 bt) := by subst hW; simp [go_sem]
  have b2 : W.cell? ⟨w.heap.size, 2, none⟩ = some (.string snap) := by subst hW; simp [go_sem]
  have b3 : W.cell? ⟨w.heap.size, 3, none⟩ = some (.slice a n c) := by subst hW; simp [go_sem]
  have r0 : W.cell? ⟨w.heap.size + 1, 0, none⟩ = some (.int .u64 0) := by subst hW; simp [go_sem]
  have r1 : W.cell? ⟨w.heap.size + 1, 1, none⟩ = some (.int .u64 0) := by subst hW; simp [go_sem]
  have r2 : W.cell? ⟨w.heap.size + 1, 2, none⟩ = some (.string ⟨#[]⟩) := by subst hW; simp [go_sem]
  have r3 : W.cell? ⟨w.heap.size + 1, 3, none⟩ = some (.slice none 0 0) := by subst hW; simp [go_sem]
  have rz : ∀ j, W.frozen? ⟨w.heap.size + 1, j, none⟩ = false := by subst hW; intro j; simp [go_sem]
  have bz : ∀ j, W.frozen? ⟨w.heap.size, j, none⟩ = false := by subst hW; intro j; simp [go_sem]
  have hz : w.heap.size + 1 < W.heap.size := by subst hW; simp
  have hB : Below w.heap.size w W := by subst hW; go_grown
  clear hW
  have hz0 : w.heap.size < W.heap.size := by omega
  go_wp2_with fail
  refine (last_any _ _ _ _ _ _ _ (by omega) (by omega)).mono ?_
  rintro e w2 ⟨rfl, hb2⟩
  rw [HQ.out]
  have C0 : w2.cell? ⟨w.heap.size, 0, none⟩ = some (.int .u64 base) := (hb2.cell (p := ⟨w.heap.size, 0, none⟩) hz0).trans b0
  have C1 : w2.cell? ⟨w.heap.size, 1, none⟩ = some (.int .u64 bt) := (hb2.cell (p := ⟨w.heap.size, 1, none⟩) hz0).trans b1
  have C2 : w2.cell? ⟨w.heap.size, 2, none⟩ = some (.string snap) := (hb2.cell (p := ⟨w.heap.size, 2, none⟩) hz0).trans b2
  have C3 : w2.cell? ⟨w.heap.size, 3, none⟩ = some (.slice a n c) := (hb2.cell (p := ⟨w.heap.size, 3, none⟩) hz0).trans b3
  have BZ : ∀ j, w2.frozen? ⟨w.heap.size, j, none⟩ = false := fun j => (hb2.frozen (p := ⟨w.heap.size, j, none⟩) hz0).trans (bz j)
  have R0 : w2.cell? ⟨w.heap.size + 1, 0, none⟩ = some (.int .u64 0) := (hb2.cell (p := ⟨w.heap.size + 1, 0, none⟩) hz).trans r0
  have R1 : w2.cell? ⟨w.heap.size + 1, 1, none⟩ = some (.int .u64 0) := (hb2.cell (p := ⟨w.heap.size + 1, 1, none⟩) hz).trans r1
  have R2 : w2.cell? ⟨w.heap.size + 1, 2, none⟩ = some (.string ⟨#[]⟩) := (hb2.cell (p := ⟨w.heap.size + 1, 2, none⟩) hz).trans r2
  have R3 : w2.cell? ⟨w.heap.size + 1, 3, none⟩ = some (.slice none 0 0) := (hb2.cell (p := ⟨w.heap.size + 1, 3, none⟩) hz).trans r3
  have RZ : ∀ j, w2.frozen? ⟨w.heap.size + 1, j, none⟩ = false := fun j => (hb2.frozen (p := ⟨w.heap.size + 1, j, none⟩) hz).trans (rz j)
  have B2 : Below w.heap.size w w2 := hB.trans (hb2.mono hB.size)
  have hsz : w.heap.size + 1 < w2.heap.size := Nat.lt_of_lt_of_le hz hb2.size
  have hx : w.heap.size ≤ w.heap.size + 1 := by omega
  clear b0 b1 b2 b3 r0 r1 r2 r3 rz bz hb2 hB
  go_wp2_with fail
  refine bodyPost_ret (v := .agg #[.int .u64 base, .int .u64 bt, .string snap, .slice a n c]) (by simp [results, Tryd.results31, go_sem, R0, R1, R2, R3]) rfl ?_
  have e : L.take (i - 1 - base) = L := List.take_of_length_le (by have := HN.out; omega)
  rw [e]
  exact ⟨a, c, by rw [← HN.out], (((((HO.out.later B2).set (fun q e => by have := (HO.out.far q e).2; omega) _ _).set (fun q e => by have := (HO.out.far q e).2; omega) _ _).set (fun q e => by have := (HO.out.far q e).2; omega) _ _).set (fun q e => by have := (HO.out.far q e).2; omega) _ _), (((((B2.mono hBw).setCell (by show B ≤ w.heap.size + 1; omega) _).setCell (by show B ≤ w.heap.size + 1; omega) _).setCell (by show B ≤ w.heap.size + 1; omega) _).setCell (by show B ≤ w.heap.size + 1; omega) _)⟩
set_option maxRecDepth 100000 in
set_option maxHeartbeats 4000000 in
theorem cut_lo (B : Nat) (base bt n c : Nat) (snap : ByteArray) (a : Option Addr) (L : List En) (hn : L.length = n) (hl : n ≤ 1024) (hbn : base + n ≤ 1099511627776) (w : World) (hO : Oe B w a c L) (hBw : B ≤ w.heap.size) (i : Nat) (h1 : i ≤ base) :
    Calls Tryd.prog 31 #[.agg #[.int .u64 base, .int .u64 bt, .string snap, .slice a n c], .int .u64 i] w (LgP B w ⟨0, 0, base, bt, snap, L.take (i - 1 - base)⟩) := by
  have HN := Lib.hid hn; clear hn
  have HO := Lib.hid hO; clear hO
  obtain ⟨q, hq⟩ : ∃ q, base + n = q := ⟨_, rfl⟩
  have hql : q ≤ 1099511627776 := by omega
  have g1 : (i : Int) ≤ (q : Int) := by omega
  have g2 : (i : Int) ≤ (base : Int) + 1 := by omega
  have hlc : n ≤ c := by have := HO.out.1; have := HN.out; omega
  have HQ := Lib.hid hq; clear hq
  go_enter Tryd.func31, Tryd.ntmps31
  go_wp2_with fail
  generalize hW : ((w.alloc (.cells #[.int .u64 base, .int .u64 bt, .string snap, .slice a n c] 34)).alloc (.cells #[.int .u64 0, .int .u64 0, .string ⟨#[]⟩, .slice none 0 0] 34)) = W
  have b0 : W.cell? ⟨w.heap.size, 0, none⟩ = some (.int .u64 base) := by subst hW; simp [go_sem]
  have b1 : W.cell? ⟨w.heap.size, 1, none⟩ = some (.int .u64 bt) := by subst hW; simp [go_sem]
  have b2 : W.cell? ⟨w.heap.size, 2, none⟩ = some (.string snap) := by subst hW; simp [go_sem]
  have b3 : W.cell? ⟨w.heap.size, 3, none⟩ = some (.slice a n c) := by subst hW; simp [go_sem]
  have r0 : W.cell? ⟨w.heap.size + 1, 0, none⟩ = some (.int .u64 0) := by subst hW; simp [go_sem]
  have r1 : W.cell? ⟨w.heap.size + 1, 1, none⟩ = some (.int .u64 0) := by subst hW; simp [go_sem]
  have r2 : W.cell? ⟨w.heap.size + 1, 2, none⟩ = some (.string ⟨#[]⟩) := by subst hW; simp [go_sem]
  have r3 : W.cell? ⟨w.heap.size + 1, 3, none⟩ = some (.slice none 0 0) := by subst hW; simp [go_sem]
  have rz : ∀ j, W.frozen? ⟨w.heap.size + 1, j, none⟩ = false := by subst hW; intro j; simp [go_sem]
  have bz : ∀ j, W.frozen? ⟨w.heap.size, j, none⟩ = false := by subst hW; intro j; simp [go_sem]
  have hz : w.heap.size + 1 < W.heap.size := by subst hW; simp
  have hB : Below w.heap.size w W := by subst hW; go_grown
  clear hW
  have hz0 : w.heap.size < W.heap.size := by omega
  go_wp2_with fail
  refine (last_any _ _ _ _ _ _ _ (by omega) (by omega)).mono ?_
  rintro e w2 ⟨rfl, hb2⟩
  rw [HQ.out]
  have C0 : w2.cell? ⟨w.heap.size, 0, none⟩ = some (.int .u64 base) := (hb2.cell (p := ⟨w.heap.size, 0, none⟩) hz0).trans b0
  have C1 : w2.cell? ⟨w.heap.size, 1, none⟩ = some (.int .u64 bt) := (hb2.cell (p := ⟨w.heap.size, 1, none⟩) hz0).trans b1
  have C2 : w2.cell? ⟨w.heap.size, 2, none⟩ = some (.string snap) := (hb2.cell (p := ⟨w.heap.size, 2, none⟩) hz0).trans b2
  have C3 : w2.cell? ⟨w.heap.size, 3, none⟩ = some (.slice a n c) := (hb2.cell (p := ⟨w.heap.size, 3, none⟩) hz0).trans b3
  have BZ : ∀ j, w2.frozen? ⟨w.heap.size, j, none⟩ = false := fun j => (hb2.frozen (p := ⟨w.heap.size, j, none⟩) hz0).trans (bz j)
  have R0 : w2.cell? ⟨w.heap.size + 1, 0, none⟩ = some (.int .u64 0) := (hb2.cell (p := ⟨w.heap.size + 1, 0, none⟩) hz).trans r0
  have R1 : w2.cell? ⟨w.heap.size + 1, 1, none⟩ = some (.int .u64 0) := (hb2.cell (p := ⟨w.heap.size + 1, 1, none⟩) hz).trans r1
  have R2 : w2.cell? ⟨w.heap.size + 1, 2, none⟩ = some (.string ⟨#[]⟩) := (hb2.cell (p := ⟨w.heap.size + 1, 2, none⟩) hz).trans r2
  have R3 : w2.cell? ⟨w.heap.size + 1, 3, none⟩ = some (.slice none 0 0) := (hb2.cell (p := ⟨w.heap.size + 1, 3, none⟩) hz).trans r3
  have RZ : ∀ j, w2.frozen? ⟨w.heap.size + 1, j, none⟩ = false := fun j => (hb2.frozen (p := ⟨w.heap.size + 1, j, none⟩) hz).trans (rz j)
  have B2 : Below w.heap.size w w2 := hB.trans (hb2.mono hB.size)
  have hsz : w.heap.size + 1 < w2.heap.size := Nat.lt_of_lt_of_le hz hb2.size
  have hx : w.heap.size ≤ w.heap.size + 1 := by omega
  clear b0 b1 b2 b3 r0 r1 r2 r3 rz bz hb2 hB
  go_wp2_with fail
  refine bodyPost_ret (v := .agg #[.int .u64 base, .int .u64 bt, .string snap, .slice a 0 c]) (by simp [results, Tryd.results31, go_sem, World.cell?_setCell_far, R0, R1, R2, R3]) rfl ?_
  have n0 : ∀ q, a = some q → q.block ≠ w.heap.size := fun q e => by have := (HO.out.far q e).2; omega
  have n1 : ∀ q, a = some q → q.block ≠ w.heap.size + 1 := fun q e => by have := (HO.out.far q e).2; omega
  have hB2 : B ≤ w.heap.size + 1 := by omega
  have hlen : (L.take (i - 1 - base)).length = 0 := by rw [List.length_take, HN.out]; omega
  refine ⟨a, c, ?_, ?_, ?_⟩
  · show _ = Ending.returned (.agg #[.int .u64 base, .int .u64 bt, .string snap, .slice a (L.take (i - 1 - base)).length c])
    rw [hlen]
  · exact (((((((HO.out.later B2).take (i - 1 - base)).set n0 _ _).set n1 _ _).set n1 _ _).set n1 _ _).set n1 _ _)
  · exact (((((B2.mono hBw).setCell hBw _).setCell hB2 _).setCell hB2 _).setCell hB2 _).setCell hB2 _
set_option maxRecDepth 100000 in
set_option maxHeartbeats 4000000 in
theorem cut_hi (B : Nat) (base bt n c : Nat) (snap : ByteArray) (a : Option Addr) (L : List En) (hn : L.length = n) (hl : n ≤ 1024) (hbn : base + n ≤ 1099511627776) (w : World) (hO : Oe B w a c L) (hBw : B ≤ w.heap.size) (i : Nat) (h1 : base < i) (h2 : i ≤ base + n) :
    Calls Tryd.prog 31 #[.agg #[.int .u64 base, .int .u64 bt, .string snap, .slice a n c], .int .u64 i] w (LgP B w ⟨0, 0, base, bt, snap, L.take (i - 1 - base)⟩) := by
  have HN := Lib.hid hn; clear hn
  have HO := Lib.hid hO; clear hO
  obtain ⟨q, hq⟩ : ∃ q, base + n = q := ⟨_, rfl⟩
  have hql : q ≤ 1099511627776 := by omega
  have g1 : (i : Int) ≤ (q : Int) := by omega
  have g2 : ¬ (i : Int) ≤ (base : Int) := by omega
  have g3 : (base : Int) + 1 ≤ (i : Int) := by omega
  have g4 : 0 ≤ (i : Int) - (base : Int) - 1 := by omega
  have g5 : (i : Int) - (base : Int) - 1 ≤ (c : Int) := by have := HO.out.1; have := HN.out; omega
  have hlc : n ≤ c := by have := HO.out.1; have := HN.out; omega
  have HQ := Lib.hid hq; clear hq
  go_enter Tryd.func31, Tryd.ntmps31
  go_wp2_with fail
  generalize hW : ((w.alloc (.cells #[.int .u64 base, .int .u64 bt, .string snap, .slice a n c] 34)).alloc (.cells #[.int .u64 0, .int .u64 0, .string ⟨#[]⟩, .slice none 0 0] 34)) = W
  have b0 : W.cell? ⟨w.heap.size, 0, none⟩ = some (.int .u64 base) := by subst hW; simp [go_sem]
  have b1 : W.cell? ⟨w.heap.size, 1, none⟩ = some (.int .u64 bt) := by subst hW; simp [go_sem]
  have b2 : W.cell? ⟨w.heap.size, 2, none⟩ = some (.string snap) := by subst hW; simp [go_sem]
  have b3 : W.cell? ⟨w.heap.size, 3, none⟩ = some (.slice a n c) := by subst hW; simp [go_sem]
  have r0 : W.cell? ⟨w.heap.size + 1, 0, none⟩ = some (.int .u64 0) := by subst hW; simp [go_sem]
  have r1 : W.cell? ⟨w.heap.size + 1, 1, none⟩ = some (.int .u64 0) := by subst hW; simp [go_sem]
  have r2 : W.cell? ⟨w.heap.size + 1, 2, none⟩ = some (.string ⟨#[]⟩) := by subst hW; simp [go_sem]
  have r3 : W.cell? ⟨w.heap.size + 1, 3, none⟩ = some (.slice none 0 0) := by subst hW; simp [go_sem]
  have rz : ∀ j, W.frozen? ⟨w.heap.size + 1, j, none⟩ = false := by subst hW; intro j; simp [go_sem]
  have bz : ∀ j, W.frozen? ⟨w.heap.size, j, none⟩ = false := by subst hW; intro j; simp [go_sem]
  have hz : w.heap.size + 1 < W.heap.size := by subst hW; simp
  have hB : Below w.heap.size w W := by subst hW; go_grown
  clear hW
  have hz0 : w.heap.size < W.heap.size := by omega
  go_wp2_with fail
  refine (last_any _ _ _ _ _ _ _ (by omega) (by omega)).mono ?_
  rintro e w2 ⟨rfl, hb2⟩
  rw [HQ.out]
  have C0 : w2.cell? ⟨w.heap.size, 0, none⟩ = some (.int .u64 base) := (hb2.cell (p := ⟨w.heap.size, 0, none⟩) hz0).trans b0
  have C1 : w2.cell? ⟨w.heap.size, 1, none⟩ = some (.int .u64 bt) := (hb2.cell (p := ⟨w.heap.size, 1, none⟩) hz0).trans b1
  have C2 : w2.cell? ⟨w.heap.size, 2, none⟩ = some (.string snap) := (hb2.cell (p := ⟨w.heap.size, 2, none⟩) hz0).trans b2
  have C3 : w2.cell? ⟨w.heap.size, 3, none⟩ = some (.slice a n c) := (hb2.cell (p := ⟨w.heap.size, 3, none⟩) hz0).trans b3
  have BZ : ∀ j, w2.frozen? ⟨w.heap.size, j, none⟩ = false := fun j => (hb2.frozen (p := ⟨w.heap.size, j, none⟩) hz0).trans (bz j)
  have R0 : w2.cell? ⟨w.heap.size + 1, 0, none⟩ = some (.int .u64 0) := (hb2.cell (p := ⟨w.heap.size + 1, 0, none⟩) hz).trans r0
  have R1 : w2.cell? ⟨w.heap.size + 1, 1, none⟩ = some (.int .u64 0) := (hb2.cell (p := ⟨w.heap.size + 1, 1, none⟩) hz).trans r1
  have R2 : w2.cell? ⟨w.heap.size + 1, 2, none⟩ = some (.string ⟨#[]⟩) := (hb2.cell (p := ⟨w.heap.size + 1, 2, none⟩) hz).trans r2
  have R3 : w2.cell? ⟨w.heap.size + 1, 3, none⟩ = some (.slice none 0 0) := (hb2.cell (p := ⟨w.heap.size + 1, 3, none⟩) hz).trans r3
  have RZ : ∀ j, w2.frozen? ⟨w.heap.size + 1, j, none⟩ = false := fun j => (hb2.frozen (p := ⟨w.heap.size + 1, j, none⟩) hz).trans (rz j)
  have B2 : Below w.heap.size w w2 := hB.trans (hb2.mono hB.size)
  have hsz : w.heap.size + 1 < w2.heap.size := Nat.lt_of_lt_of_le hz hb2.size
  have hx : w.heap.size ≤ w.heap.size + 1 := by omega
  clear b0 b1 b2 b3 r0 r1 r2 r3 rz bz hb2 hB
  go_wp2_with fail
  refine bodyPost_ret (v := .agg #[.int .u64 base, .int .u64 bt, .string snap, .slice a (i - base - 1) c]) (by simp [results, Tryd.results31, go_sem, World.cell?_setCell_far, R0, R1, R2, R3]) rfl ?_
  have n0 : ∀ q, a = some q → q.block ≠ w.heap.size := fun q e => by have := (HO.out.far q e).2; omega
  have n1 : ∀ q, a = some q → q.block ≠ w.heap.size + 1 := fun q e => by have := (HO.out.far q e).2; omega
  have hB2 : B ≤ w.heap.size + 1 := by omega
  have hlen : (L.take (i - 1 - base)).length = i - base - 1 := by rw [List.length_take, HN.out]; omega
  refine ⟨a, c, ?_, ?_, ?_⟩
  · show _ = Ending.returned (.agg #[.int .u64 base, .int .u64 bt, .string snap, .slice a (L.take (i - 1 - base)).length c])
    rw [hlen]
  · exact (((((((HO.out.later B2).take (i - 1 - base)).set n0 _ _).set n1 _ _).set n1 _ _).set n1 _ _).set n1 _ _)
  · exact (((((B2.mono hBw).setCell hBw _).setCell hB2 _).setCell hB2 _).setCell hB2 _).setCell hB2 _
end Go.Proofs.YtjbhnkigbobhiaaDoor
