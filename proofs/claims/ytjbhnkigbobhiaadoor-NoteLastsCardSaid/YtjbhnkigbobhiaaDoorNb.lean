/- The reference of layer 4: a note's bytes. -/
import Derived.Test.YtjbhnkigbobhiaaDoorNt
import Derived.Test.YtjbhnkigbobhiaaDoorRput
import Derived.Test.YtjbhnkigbobhiaaDoorRns
namespace Go.Proofs.YtjbhnkigbobhiaaDoor
open Go.RowKit

/-- What is sealed of a note. -/
def bodyB (n : Nt) : List UInt8 := UInt8.ofNat n.k.toNat :: (numsB [n.i, n.t, n.v] ++ n.d.data.toList)
/-- A note's bytes. -/
def noteB (n : Nt) : List UInt8 := putB (bodyB n)
theorem ok_k {n : Nt} (h : n.ok) : 1 ≤ n.k ∧ n.k ≤ 4 := by
  obtain ⟨_, _, _, _, h⟩ := h
  rcases h with h | h | h
  · omega
  · rcases h.1 with h | h <;> omega
  · omega
theorem ok_nums {n : Nt} (h : n.ok) : ∀ x ∈ [n.i, n.t, n.v], x < 4611686018427387904 := by
  obtain ⟨a, b, c, _⟩ := h
  intro x hx
  simp only [List.mem_cons, List.not_mem_nil, or_false] at hx
  rcases hx with rfl | rfl | rfl <;> assumption
theorem ok_len {n : Nt} (h : n.ok) : (numsB [n.i, n.t, n.v]).length ≤ 32 := by
  have := preB_le [n.i, n.t, n.v] (ok_nums h) (by show (3 : Nat) ≤ _; omega) 3 (Nat.le_refl _)
  rw [← preB_all]; exact this
theorem body_len {n : Nt} (h : n.ok) : (bodyB n).length ≤ 4129 := by
  have h1 := ok_len h
  have h2 : n.d.size ≤ 4096 := h.2.2.2.1
  unfold bodyB
  rw [List.length_cons, List.length_append, len_data]; omega
theorem mk_body (n : Nt) : (ByteArray.mk [UInt8.ofNat n.k.toNat].toArray ++ ByteArray.mk (numsB [n.i, n.t, n.v]).toArray) ++ n.d = ByteArray.mk (bodyB n).toArray := by
  apply ByteArray.ext; apply Array.toList_inj.1; simp [bodyB]
theorem u64s_3 (w : World) (i t v : Nat) : U64s (w.alloc (.cells #[.int .u64 i, .int .u64 t, .int .u64 v] 22)) w.heap.size 0 [i, t, v] := by
  refine ⟨by simp, fun j hj => ?_⟩
  rw [Nat.zero_add, World.cell?_alloc_at _ _ _ _ rfl]
  match j, hj with
  | 0, _ => rfl
  | 1, _ => rfl
  | 2, _ => rfl
set_option maxHeartbeats 2000000 in
theorem refBytes_yes (n : Nt) (w : World) (hok : n.ok) : Calls Tryd.prog 8 #[.agg #[.int .i64 n.k, .int .u64 n.i, .int .u64 n.t, .int .u64 n.v, .string n.d]] w fun e w' => e = .returned (.tuple #[.string ⟨(noteB n).toArray⟩, .int .i64 0]) ∧ Below w.heap.size w w' := by
  have hB := (okB_ok n).2 hok
  have ⟨k1, k4⟩ := ok_k hok
  have hnum := ok_nums hok
  have hlen := ok_len hok
  have hbl := body_len hok
  have hmk := mk_body n
  have hd : n.d.size ≤ 4096 := hok.2.2.2.1
  have HOK := Lib.hid hok; clear hok
  obtain ⟨bb, hbb⟩ : ∃ bb, bodyB n = bb := ⟨_, rfl⟩
  unfold noteB
  rw [hbb] at hmk hbl ⊢
  obtain ⟨k, i, t, v, d⟩ := n
  simp only at *
  have HMK := Lib.hid hmk; clear hmk
  have HBB := Lib.hid hbb; clear hbb
  have HN := Lib.hid hnum; clear hnum
  obtain ⟨NB, hNB⟩ : ∃ NB, numsB [i, t, v] = NB := ⟨_, rfl⟩
  rw [hNB] at hlen
  have HNB := Lib.hid hNB; clear hNB
  have HB := Lib.hid hB; clear hB
  go_enter Tryd.func8, Tryd.ntmps8
  go_wp2_with fail
  refine (refMay_any _ _ _ _ _ _ (by unfold maxLen; omega)).mono ?_
  rintro e w1 ⟨rfl, hb1⟩
  rw [HB.out]
  have c0 : w1.cell? ⟨w.heap.size, 0, none⟩ = some (.int .i64 k) := (hb1.cell (p := ⟨w.heap.size, 0, none⟩) (by simp)).trans (by simp)
  have c1 : w1.cell? ⟨w.heap.size, 1, none⟩ = some (.int .u64 i) := (hb1.cell (p := ⟨w.heap.size, 1, none⟩) (by simp)).trans (by simp)
  have c2 : w1.cell? ⟨w.heap.size, 2, none⟩ = some (.int .u64 t) := (hb1.cell (p := ⟨w.heap.size, 2, none⟩) (by simp)).trans (by simp)
  have c3 : w1.cell? ⟨w.heap.size, 3, none⟩ = some (.int .u64 v) := (hb1.cell (p := ⟨w.heap.size, 3, none⟩) (by simp)).trans (by simp)
  have c4 : w1.cell? ⟨w.heap.size, 4, none⟩ = some (.string d) := (hb1.cell (p := ⟨w.heap.size, 4, none⟩) (by simp)).trans (by simp)
  have hx : w.heap.size < w1.heap.size := by have := hb1.size; simp at this; omega
  have B1 : Below w.heap.size w w1 := ((Below.refl _ w).alloc (Nat.le_refl _) _).trans (hb1.mono (by simp))
  clear hb1
  go_wp2_with fail
  refine (refNums_any w1.heap.size 0 3 3 [i, t, v] rfl (by decide) HN.out _ (u64s_3 w1 i t v)).mono ?_
  rintro e w2 ⟨rfl, hb2⟩
  rw [HNB.out]
  have d0 : w2.cell? ⟨w.heap.size, 0, none⟩ = some (.int .i64 k) := (hb2.cell (p := ⟨w.heap.size, 0, none⟩) (by simp; omega)).trans ((World.cell?_alloc_past _ _ _ hx).trans c0)
  have d4 : w2.cell? ⟨w.heap.size, 4, none⟩ = some (.string d) := (hb2.cell (p := ⟨w.heap.size, 4, none⟩) (by simp; omega)).trans ((World.cell?_alloc_past _ _ _ hx).trans c4)
  have B2 := (B1.alloc B1.size _).trans (hb2.mono (by simp; omega))
  have hx2 : w.heap.size < w2.heap.size := by have := hb2.size; simp at this; omega
  have hcv := one_byte_at w2 w2.heap.size k rfl
  clear hb2 c0 c1 c2 c3 c4
  go_wp2_with fail
  have hm := HMK.out
  rw [HNB.out] at hm
  rw [show ({ data := #[UInt8.ofNat k.toNat] } : ByteArray) = { data := [UInt8.ofNat k.toNat].toArray } from rfl, hm]
  clear hm hcv
  refine (refPut_any _ _ (by rw [size_arr]; omega)).mono ?_
  rintro e w3 ⟨rfl, hb3⟩
  have B3 := (B2.alloc B2.size _).trans (hb3.mono (by simp; omega))
  clear hb3 d0 d4
  go_wp2_with fail
  go_ret2
  exact ⟨rfl, B3⟩
set_option maxHeartbeats 1000000 in
theorem refBytes_no (n : Nt) (w : World) (hno : ¬ n.ok) (hd : n.d.size ≤ maxLen) : Calls Tryd.prog 8 #[.agg #[.int .i64 n.k, .int .u64 n.i, .int .u64 n.t, .int .u64 n.v, .string n.d]] w fun e w' => e = .returned (.tuple #[.string ⟨#[]⟩, .int .i64 1]) ∧ Below w.heap.size w w' := by
  have hB : okB n = false := by
    cases h : okB n with
    | false => rfl
    | true => exact absurd ((okB_ok n).1 h) hno
  obtain ⟨k, i, t, v, d⟩ := n
  have HB := Lib.hid hB; clear hB
  have HD := Lib.hid hd; clear hd
  go_enter Tryd.func8, Tryd.ntmps8
  go_wp2_with fail
  refine (refMay_any _ _ _ _ _ _ HD.out).mono ?_
  rintro e w1 ⟨rfl, hb1⟩
  rw [HB.out]
  have B1 : Below w.heap.size w w1 := ((Below.refl _ w).alloc (Nat.le_refl _) _).trans (hb1.mono (by simp))
  clear hb1
  go_wp2_with fail
  go_ret2
  exact ⟨rfl, B1⟩
end Go.Proofs.YtjbhnkigbobhiaaDoor
