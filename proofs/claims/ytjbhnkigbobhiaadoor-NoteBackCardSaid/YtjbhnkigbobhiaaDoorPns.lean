/- pack.Num: a number's bytes, for every number of 64 bits. -/
import Derived.Test.YtjbhnkigbobhiaaDoorPlay
import Derived.Lib.Hide
import Derived.Laws.MakeOwn
import Derived.OwnWalk
import Derived.Test.YtjbhnkigbobhiaaDoorPsum
import Derived.Outline
namespace Go.Proofs.YtjbhnkigbobhiaaDoor
open Go.RowKit

theorem num_big (v : Int) (w : World) (h1 : 4611686018427387904 ≤ v) :
    Calls Tryd.prog 43 #[.int .u64 v] w fun e w' => e = .returned (.tuple #[.string ⟨#[]⟩, .int .i64 4]) ∧ w = w' := by
  go_enter Tryd.func43, Tryd.ntmps43
  go_wp2_with (first | (go_at_call 41; refine (size_any _ _ (by omega)).mono ?_; rintro e w' ⟨rfl, rfl⟩; rw [szOf0 h1]))
  go_ret2
  exact ⟨rfl, rfl⟩
set_option maxHeartbeats 1000000 in
theorem num_s (s : Nat) (Z : List Value) (hZ : Hid (Z.length = s)) (hs0 : ((s : Int) == 0) = false)
    (hmk : ∀ w, (Instr.makeSlice 60 (.int .i64 s) (.int .i64 s)).run Tryd.prog w = .ok (.slice (some ⟨w.heap.size, 0, none⟩) s s) (w.alloc (.cells Z.toArray 5)))
    (v : Int) (hs : Hid (szOf v = s)) (w : World) (h0 : 0 ≤ v) (h1 : v < 4611686018427387904) (hT : Tz w) :
    Calls Tryd.prog 43 #[.int .u64 v] w fun e w' => e = .returned (.tuple #[.string ⟨(numB v.toNat).toArray⟩, .int .i64 0]) ∧ Below w.heap.size w w' := by
  have hl : Hid ((numB v.toNat).length = s) := by have := numB_len v h0 h1; have e := hs.out; show _ = _; omega
  go_enter Tryd.func43, Tryd.ntmps43
  go_wp2_with (first | (go_at_call 41; refine (size_any _ _ h0).mono ?_; rintro e w' ⟨rfl, rfl⟩; rw [hs.out]))
  refine (lay_any v _ h0 h1 w.heap.size 0 s s Z (by rw [hl.out]; exact Nat.le_refl _) (by rw [hl.out, hZ.out]; omega) (heap_alloc_new _ _) (hT.below ((Below.refl _ _).alloc hT.n _))).mono ?_
  rintro e w1 ⟨rfl, hg, hb1⟩
  have hf : splice Z 0 ((numB v.toNat).map u8v) = (numB v.toNat).map u8v := by
    unfold splice
    rw [List.take_zero, List.nil_append, List.drop_eq_nil_of_le (by rw [hZ.out, List.length_map, hl.out]; omega), List.append_nil]
  rw [hf] at hb1
  have hconv : (convert 60 9 (.slice (some ⟨w.heap.size, 0, none⟩) s s)).run Tryd.prog w1 = .ok (.string ⟨(numB v.toNat).toArray⟩) w1 := by
    have := run_convert_bytes_back (P := Tryd.prog) w1 60 9 5 ⟨w.heap.size, 0, none⟩ s (numB v.toNat) Tryd.underlying60 Tryd.underlying5 Tryd.underlying9 (fun j hj => by
      rw [addHead, cell_of_row w1 _ j _ _ _ hb1]
      simp [u8v, hj])
    rw [hl.out] at this; exact this
  have HB := Lib.hid ((Below.refl w.heap.size w).alloc (Nat.le_refl _) (.cells Z.toArray 5) |>.grown hg (by simp) (fun k hk => by cases hk; exact Nat.le_refl _))
  clear hf hb1 hg
  go_wp2_with fail
  go_ret2
  exact ⟨rfl, HB.out⟩
theorem mk1 (w : World) : (Instr.makeSlice 60 (.int .i64 1) (.int .i64 1)).run Tryd.prog w = .ok (.slice (some ⟨w.heap.size, 0, none⟩) 1 1) (w.alloc (.cells [.int .u8 0].toArray 5)) := by kernel_rfl
theorem mk2 (w : World) : (Instr.makeSlice 60 (.int .i64 2) (.int .i64 2)).run Tryd.prog w = .ok (.slice (some ⟨w.heap.size, 0, none⟩) 2 2) (w.alloc (.cells [.int .u8 0, .int .u8 0].toArray 5)) := by kernel_rfl
theorem mk4 (w : World) : (Instr.makeSlice 60 (.int .i64 4) (.int .i64 4)).run Tryd.prog w = .ok (.slice (some ⟨w.heap.size, 0, none⟩) 4 4) (w.alloc (.cells [.int .u8 0, .int .u8 0, .int .u8 0, .int .u8 0].toArray 5)) := by kernel_rfl
theorem mk8 (w : World) : (Instr.makeSlice 60 (.int .i64 8) (.int .i64 8)).run Tryd.prog w = .ok (.slice (some ⟨w.heap.size, 0, none⟩) 8 8) (w.alloc (.cells [.int .u8 0, .int .u8 0, .int .u8 0, .int .u8 0, .int .u8 0, .int .u8 0, .int .u8 0, .int .u8 0].toArray 5)) := by kernel_rfl
theorem num_any (v : Int) (w : World) (h0 : 0 ≤ v) (h1 : v < 4611686018427387904) (hT : Tz w) :
    Calls Tryd.prog 43 #[.int .u64 v] w fun e w' => e = .returned (.tuple #[.string ⟨(numB v.toNat).toArray⟩, .int .i64 0]) ∧ Below w.heap.size w w' := by
  by_cases a : v < 64
  · exact num_s 1 _ (Lib.hid rfl) rfl mk1 v (Lib.hid (szOf1 a)) w h0 h1 hT
  by_cases b : v < 16384
  · exact num_s 2 _ (Lib.hid rfl) rfl mk2 v (Lib.hid (szOf2 (by omega) b)) w h0 h1 hT
  by_cases c : v < 1073741824
  · exact num_s 4 _ (Lib.hid rfl) rfl mk4 v (Lib.hid (szOf4 (by omega) c)) w h0 h1 hT
  · exact num_s 8 _ (Lib.hid rfl) rfl mk8 v (Lib.hid (szOf8 (by omega) h1)) w h0 h1 hT
end Go.Proofs.YtjbhnkigbobhiaaDoor
/- pack.Nums: several numbers' bytes, for every list of numbers that may be. -/
namespace Go.Proofs.YtjbhnkigbobhiaaDoor
open Go.RowKit

/-- Numbers' bytes: how many there are, then each. -/
def numsB (L : List Nat) : List UInt8 := numB L.length ++ L.flatMap numB
/-- The first k of them. -/
def preB (L : List Nat) (k : Nat) : List UInt8 := numB L.length ++ (L.take k).flatMap numB
theorem preB_all (L : List Nat) : preB L L.length = numsB L := by unfold preB numsB; rw [List.take_length]
theorem preB_succ (L : List Nat) (k : Nat) (h : k < L.length) : preB L (k + 1) = preB L k ++ numB L[k] := by
  unfold preB; rw [List.take_succ_eq_append_getElem h, List.flatMap_append, List.append_assoc]; simp
theorem numB_pos (n : Nat) (h : n < 4611686018427387904) : 1 ≤ (numB n).length ∧ (numB n).length ≤ 8 := by
  have := numB_len (n : Int) (by omega) (by omega)
  rw [Int.toNat_natCast] at this
  unfold szOf at this
  constructor <;> split at this <;> (try omega) <;> split at this <;> (try omega) <;> split at this <;> (try omega) <;> split at this <;> omega
theorem preB_le (L : List Nat) (h : ∀ v ∈ L, v < 4611686018427387904) (hl : L.length ≤ 1048576) : ∀ k, k ≤ L.length → (preB L k).length ≤ 8 + 8 * k
  | 0, _ => by have := numB_pos L.length (by omega); simp [preB]; omega
  | k + 1, hk => by
    have h1 := preB_le L h hl k (by omega)
    have h2 := numB_pos L[k] (h _ (List.getElem_mem _))
    rw [preB_succ L k (by omega), List.length_append]; omega
theorem preB_mono (L : List Nat) (k : Nat) : (preB L k).length ≤ (numsB L).length := by
  have e : (L.flatMap numB).length = ((L.take k).flatMap numB).length + ((L.drop k).flatMap numB).length := by
    conv => lhs; rw [← List.take_append_drop k L]
    rw [List.flatMap_append, List.length_append]
  unfold preB numsB
  rw [List.length_append, List.length_append, e]; omega
theorem preB_lt (L : List Nat) (_ : ∀ v ∈ L, v < 4611686018427387904) (k : Nat) (hk : k < L.length) : (preB L k).length + (numB L[k]).length ≤ (numsB L).length := by
  have := preB_mono L (k + 1)
  rw [preB_succ L k hk, List.length_append] at this; exact this
/-- The row while it is laid: the bytes so far, then zeros. -/
def rowB (P : List UInt8) (n : Nat) : List Value := P.map u8v ++ List.replicate (n - P.length) (.int .u8 0)
theorem rowB_len (P : List UInt8) (n : Nat) (h : P.length ≤ n) : (rowB P n).length = n := by simp [rowB]; omega
theorem rowB_splice (P Q : List UInt8) (n : Nat) : splice (rowB P n) P.length (Q.map u8v) = rowB (P ++ Q) n := by
  unfold splice rowB
  rw [List.take_left' (by simp), show P.length + (Q.map u8v).length = (P.map u8v).length + Q.length by simp, List.drop_append, List.map_append, List.append_assoc]
  congr 2
  rw [List.drop_eq_nil_of_le (by omega), List.nil_append, List.drop_replicate, List.length_append]
  congr 1
  simp; omega
theorem rowB_all (P : List UInt8) : rowB P P.length = P.map u8v := by simp [rowB]
theorem infoU8 : (Tryd.prog.info? 5).map (fun i => (i.zero, i.size, i.bytes)) = some (some (.int .u8 0), 1, 1) := by kernel_rfl
theorem madeB : ∀ n : Nat, madeCells [Value.int .u8 0].toArray (n * 1) = (List.replicate n (Value.int .u8 0)).toArray := by
  intro n; rw [Nat.mul_one]
  apply Array.ext
  · rw [size_madeCells]; simp
  · intro i h1 h2
    have e : (madeCells [Value.int .u8 0].toArray n)[i]? = some (.int .u8 0) := by
      have h3 : i < n := by rw [size_madeCells] at h1; exact h1
      simp [madeCells, h3, Nat.mod_one]
    rw [Array.getElem?_eq_getElem h1] at e
    rw [Option.some.inj e]; simp
theorem mkB (n : Nat) (w : World) (hn : n ≤ 16777216) : (Instr.makeSlice 60 (.int .i64 n) (.int .i64 n)).run Tryd.prog w = .ok (.slice (some ⟨w.heap.size, 0, none⟩) n n) (w.alloc (.cells (rowB [] n).toArray 5)) := by
  obtain ⟨i0, hi, hz0, hz1, hz2⟩ := info_parts infoU8
  have h := run_makeSlice (P := Tryd.prog) (w := w) 60 5 i0 (.int .u8 0) Tryd.underlying60 hi hz0 .i64 .i64 n n (by omega) (Int.le_refl _) (by rw [hz1]; omega) (by rw [hz2]; omega) (by omega)
  rw [Int.toNat_natCast, hz1] at h
  rw [h, show (Value.int IntKind.u8 0).cells = [Value.int .u8 0].toArray from rfl, madeB]
  simp [rowB]
end Go.Proofs.YtjbhnkigbobhiaaDoor
/- seal.Put. -/
namespace Go.Proofs.YtjbhnkigbobhiaaDoor
open Go.RowKit

theorem put_big (s : ByteArray) (w : World) (hs : 65536 < s.size) :
    Calls Tryd.prog 23 #[.string s] w fun e w' => e = .returned (.tuple #[.string ⟨#[]⟩, .int .i64 4]) ∧ w = w' := by
  go_enter Tryd.func23, Tryd.ntmps23
  go_wp2_with fail
  go_ret2
  exact ⟨rfl, rfl⟩
set_option maxHeartbeats 400000 in
theorem put_any (s : ByteArray) (w : World) (hs : s.size ≤ 65536) (hT : Tz w) :
    Calls Tryd.prog 23 #[.string s] w fun e w' => e = .returned (.tuple #[.string ⟨(putB s.data.toList).toArray⟩, .int .i64 0]) ∧ Below w.heap.size w w' := by
  have hN := numB_le s.size
  have hF := Nat.le_of_eq (len_four (sumOf (numB s.size ++ s.data.toList)))
  have hL : Hid (s.data.toList.length = s.size) := by show _ = _; rw [Array.length_toList]; rfl
  go_enter Tryd.func23, Tryd.ntmps23
  go_wp2_with fail
  refine (num_any _ _ (by omega) (by omega) hT).mono ?_
  rintro e w1 ⟨rfl, hb1⟩
  go_wp2_with fail
  refine (tail_any _ _ (by rw [ByteArray.size_append, size_arr]; unfold maxLen; omega)).mono ?_
  rintro e w3 ⟨rfl, hb3⟩
  go_wp2_with fail
  go_ret2
  refine ⟨retStrI ?_, hb1.trans (hb3.mono hb1.size)⟩
  rw [app_mk, app_mk]
  unfold putB
  rw [hL.out]
end Go.Proofs.YtjbhnkigbobhiaaDoor
/- pack.Nums: the walk. -/
namespace Go.Proofs.YtjbhnkigbobhiaaDoor
open Go.RowKit

/-- A list of numbers in memory. -/
def U64s (w : World) (bk off : Nat) (L : List Nat) : Prop := bk < w.heap.size ∧ ∀ j (h : j < L.length), w.cell? ⟨bk, off + j, none⟩ = some (.int .u64 (L[j] : Nat))
theorem U64s.later {w w' : World} {bk off : Nat} {L : List Nat} (h : U64s w bk off L) (hb : Below w.heap.size w w') : U64s w' bk off L :=
  ⟨Nat.lt_of_lt_of_le h.1 hb.size, fun j hj => (hb.cell (p := ⟨bk, off + j, none⟩) h.1).trans (h.2 j hj)⟩
theorem sz_num (v : Nat) (h : v < 4611686018427387904) : szOf (v : Int) = ((numB v).length : Nat) := by
  have := numB_len (v : Int) (by omega) (by omega)
  rw [Int.toNat_natCast] at this; exact this.symm
set_option maxHeartbeats 2000000 in
theorem nums_any (bk off n cap : Nat) (L : List Nat) (hn : L.length = n) (hl : n ≤ 1048576) (hv : ∀ v ∈ L, v < 4611686018427387904) (w : World) (hU : U64s w bk off L) (hT : Tz w) :
    Calls Tryd.prog 22 #[.slice (some ⟨bk, off, none⟩) n cap] w fun e w' => e = .returned (.tuple #[.string ⟨(numsB L).toArray⟩, .int .i64 0]) ∧ Below w.heap.size w w' := by
  have hpos := numB_pos n (by omega)
  have hle : ∀ k, k ≤ n → (preB L k).length ≤ 8 + 8 * k := fun k hk => preB_le L hv (by omega) k (by omega)
  have HLE := Lib.hid hle; clear hle
  have HV := Lib.hid hv; clear hv
  have HN := Lib.hid hn; clear hn
  have hp0 : preB L 0 = numB n := by unfold preB; rw [HN.out]; simp
  have HP0 := Lib.hid hp0; clear hp0
  have hs0 := sz_num n (by omega)
  go_enter Tryd.func22, Tryd.ntmps22
  go_wp2_with fail
  refine (size_any _ _ (by omega)).mono ?_
  rintro e w' ⟨rfl, rfl⟩
  rw [hs0]
  clear hs0
  go_wp2_with fail
  go_loop [5, 20] (fun t i => ∃ k : Nat, k ≤ n ∧ i = .int .i64 k ∧ t = .int .i64 ((preB L k).length : Nat)) (fun _ i => n - (intOf i).toNat)
  case atStart => exact ⟨0, Nat.zero_le _, rfl, by rw [HP0.out]⟩
  case round =>
    obtain ⟨k, hk, rfl, rfl⟩ := hrel
    by_cases hlt : k < n
    · have hkl : k < L.length := by have := HN.out; omega
      have hc := hU.2 k hkl
      obtain ⟨v, hvk⟩ : ∃ v, L[k] = v := ⟨_, rfl⟩
      rw [hvk] at hc
      have hvb : v < 4611686018427387904 := by rw [← hvk]; exact HV.out _ (List.getElem_mem _)
      have hvp := numB_pos v hvb
      have hnz : (((numB v).length : Int) == 0) = false := by simp; intro e; rw [e] at hvp; simp at hvp
      have hs := sz_num v hvb
      have hpk := HLE.out k hk
      have hps : (preB L (k + 1)).length = (preB L k).length + (numB v).length := by rw [preB_succ L k hkl, List.length_append, hvk]
      have HPS := Lib.hid hps; clear hps
      have HVK := Lib.hid hvk; clear hvk
      generalize hZ : (numB v).length = z at *
      generalize hY : (preB L k).length = y at *
      have HZ := Lib.hid hZ; clear hZ
      have HY := Lib.hid hY; clear hY
      have HS := Lib.hid hs; clear hs
      go_wp2_with fail
      refine (size_any _ _ (by omega)).mono ?_
      rintro e w' ⟨rfl, rfl⟩
      rw [HS.out]
      go_wp2_with fail
      go_round
      case rel => exact ⟨k + 1, by omega, by go_num, by rw [HPS.out]; go_num⟩
      case measure => simp [intOf]; omega
    · obtain rfl : k = n := by omega
      have hm1 := HLE.out k (Nat.le_refl _)
      have hall : preB L k = numsB L := by rw [← HN.out]; exact preB_all L
      obtain ⟨m, hm⟩ : ∃ m, (numsB L).length = m := ⟨_, rfl⟩
      rw [hall, hm] at hm1
      rw [hall, hm]
      have hmk := fun w => mkB m w (by omega)
      have HM := Lib.hid hm; clear hm
      have HALL := Lib.hid hall; clear hall
      clear hlt
      have hpm : (numB k).length ≤ m := by rw [← HM.out, ← HP0.out]; exact preB_mono L 0
      go_wp2_with fail
      refine (lay_any (k : Int) _ (by omega) (by omega) w.heap.size 0 m m (rowB [] m) (by rw [Int.toNat_natCast]; omega) (by rw [Int.toNat_natCast, rowB_len _ _ (Nat.zero_le _)]; omega) (heap_alloc_new _ _) (hT.below ((Below.refl _ _).alloc hT.n _))).mono ?_
      rintro e w1 ⟨rfl, hg, hb1⟩
      rw [Int.toNat_natCast] at *
      have hsp := rowB_splice [] (numB k) m
      simp only [List.length_nil, List.nil_append] at hsp
      rw [hsp] at hb1
      clear hsp
      have B1 : Below w.heap.size w w1 := ((Below.refl w.heap.size w).alloc (Nat.le_refl _) (.cells (rowB [] m).toArray 5)).grown hg (by simp) (fun j hj => by cases hj; exact Nat.le_refl _)
      clear hg hmk
      rw [← HP0.out] at hb1 ⊢
      clear hpos
      go_wp2_with fail
      go_loopw [10, 39] (fun t i wr => ∃ j : Nat, j ≤ k ∧ i = .int .i64 j ∧ t = .int .i64 ((preB L j).length : Nat) ∧ wr.heap[w.heap.size]? = some (.cells (rowB (preB L j) m).toArray 5 (0, 0)) ∧ Below w.heap.size w wr) (fun _ i _ => k - (intOf i).toNat)
      case atStart => exact ⟨0, Nat.zero_le _, rfl, rfl, hb1, B1⟩
      case round =>
        clear hb1 B1
        obtain ⟨j, hj, rfl, rfl, hrow, B⟩ := hrel
        by_cases hlt : j < k
        · have hkl : j < L.length := by have := HN.out; omega
          have hc := (hU.later B).2 j hkl
          have hlt2 := preB_lt L HV.out j hkl
          obtain ⟨v, hvk⟩ : ∃ v, L[j] = v := ⟨_, rfl⟩
          rw [hvk] at hc
          have hvb : v < 4611686018427387904 := by rw [← hvk]; exact HV.out _ (List.getElem_mem _)
          have hvp := numB_pos v hvb
          have hps : preB L (j + 1) = preB L j ++ numB v := by rw [preB_succ L j hkl, hvk]
          rw [HM.out, hvk] at hlt2
          have HPS := Lib.hid hps; clear hps
          have HVK := Lib.hid hvk; clear hvk
          obtain ⟨P, hPd⟩ : ∃ P, preB L j = P := ⟨_, rfl⟩
          rw [hPd] at hrow hlt2 ⊢
          have HPD := Lib.hid hPd; clear hPd
          obtain ⟨y, hY⟩ : ∃ y, P.length = y := ⟨_, rfl⟩
          rw [hY] at hlt2 ⊢
          have hy0 : (0 : Int) ≤ (y : Int) := by omega
          have hy1 : (y : Int) ≤ (m : Int) := by omega
          have hy2 : ¬ y = m := by omega
          have HY := Lib.hid hY; clear hY
          have HR := Lib.hid hrow; clear hrow
          go_wp2_with fail
          refine (lay_any (v : Int) _ (by omega) (by omega) w.heap.size y (m - y) _ (rowB P m) (by rw [Int.toNat_natCast]; omega) (by rw [Int.toNat_natCast, rowB_len _ _ (by have := HY.out; omega)]; omega) HR.out (hT.below (B.mono hT.n))).mono ?_
          rintro e w2 ⟨rfl, hg, hb2⟩
          rw [Int.toNat_natCast] at *
          have hsp := rowB_splice P (numB v) m
          rw [HY.out] at hsp
          rw [hsp] at hb2
          have B2 : Below w.heap.size w w2 := B.grown hg B.size (fun q hq => by cases hq; exact Nat.le_refl _)
          have HB2 := Lib.hid hb2
          have hyv : (P ++ numB v).length = y + (numB v).length := by rw [List.length_append, HY.out]
          have HYV := Lib.hid hyv
          clear hg hsp hc hb2 hyv
          go_wp2_with fail
          go_roundw
          case rel => exact ⟨j + 1, by omega, by go_num, by rw [HPS.out, HPD.out, HYV.out]; go_num, by rw [HPS.out, HPD.out]; exact HB2.out, B2⟩
          case measure => simp [intOf]; omega
        · obtain rfl : j = k := by omega
          rw [HALL.out] at hrow ⊢
          have hrow2 : wr.heap[w.heap.size]? = some (.cells ((numsB L).map u8v).toArray 5 (0, 0)) := by rw [hrow, ← HM.out, rowB_all]
          have hconv : (convert 60 9 (.slice (some ⟨w.heap.size, 0, none⟩) m m)).run Tryd.prog wr = .ok (.string ⟨(numsB L).toArray⟩) wr := by
            have := run_convert_bytes_back (P := Tryd.prog) wr 60 9 5 ⟨w.heap.size, 0, none⟩ m (numsB L) Tryd.underlying60 Tryd.underlying5 Tryd.underlying9 (fun i hi => by
              rw [addHead, cell_of_row wr _ i _ _ _ hrow2]
              simp [u8v, hi])
            rw [HM.out] at this; exact this
          clear hrow hrow2
          go_wp2_with fail
          go_ret2
          exact ⟨rfl, B⟩
end Go.Proofs.YtjbhnkigbobhiaaDoor
