/- pack.Nums: the walk, of any list. -/
import Derived.Test.YtmnakfonfpdneaaDoorJa
import Derived.Test.YtmnakfonfpdneaaDoorGa
import Derived.Lib.Hide
import Derived.Outline
namespace Go.Proofs.YtmnakfonfpdneaaDoor
open Go.RowKit

theorem sz_num (v : Nat) (h : v < 4611686018427387904) : szOf (v : Int) = ((numB v).length : Nat) := by
  have := numB_len (v : Int) (by omega) (by omega)
  rw [Int.toNat_natCast] at this; exact this.symm
set_option maxHeartbeats 2000000 in
theorem nums_any (n cap : Nat) (a : Option Addr) (L : List Nat) (hn : L.length = n) (hl : n ≤ 1048576) (hv : ∀ v ∈ L, v < 4611686018427387904) (w : World) (hU : Us w a L) (hT : Tz w) :
    Calls Tryd.prog 15 #[.slice a n cap] w fun e w' => e = .returned (.tuple #[.string ⟨(numsB L).toArray⟩, .int .i64 0]) ∧ Below w.heap.size w w' := by
  have hpos := numB_pos n (by omega)
  have hle : ∀ k, k ≤ n → (preB L k).length ≤ 8 + 8 * k := fun k hk => preB_le L hv (by omega) k (by omega)
  have HLE := Lib.hid hle; clear hle
  have HV := Lib.hid hv; clear hv
  have HN := Lib.hid hn; clear hn
  have hp0 : preB L 0 = numB n := by unfold preB; rw [HN.out]; simp
  have HP0 := Lib.hid hp0; clear hp0
  have hs0 := sz_num n (by omega)
  go_enter Tryd.func15, Tryd.ntmps15
  go_wp2_with fail
  refine (size_any _ _ (by omega)).mono ?_
  rintro e w' ⟨rfl, rfl⟩
  rw [hs0]
  clear hs0
  go_wp2_with fail
  go_loop [5, 20] (fun t i => ∃ k : Nat, k ≤ n ∧ i = .int .i64 k ∧ t = .int .i64 ((preB L k).length : Nat)) (fun _ i => n - (intOf i).toNat)
  case atStart => exact ⟨0, Nat.zero_le _, rfl, by rw [HP0.out]⟩
  case round =>
    obtain ⟨k, hk, rfl, rfl⟩ := hrel
    by_cases hlt : k < n
    · have hkl : k < L.length := by have := HN.out; omega
      obtain ⟨bk, off, rfl, hbk, hc⟩ := hU k _ (List.getElem?_eq_getElem hkl)
      obtain ⟨v, hvk⟩ : ∃ v, L[k] = v := ⟨_, rfl⟩
      rw [hvk] at hc
      have hvb : v < 4611686018427387904 := by rw [← hvk]; exact HV.out _ (List.getElem_mem _)
      have hvp := numB_pos v hvb
      have hnz : (((numB v).length : Int) == 0) = false := by simp; intro e; rw [e] at hvp; simp at hvp
      have hs := sz_num v hvb
      have hpk := HLE.out k hk
      have hps : (preB L (k + 1)).length = (preB L k).length + (numB v).length := by rw [preB_succ L k hkl, List.length_append, hvk]
      have HPS := Lib.hid hps; clear hps
      have HVK := Lib.hid hvk; clear hvk
      generalize hZ : (numB v).length = z at *
      generalize hY : (preB L k).length = y at *
      have HZ := Lib.hid hZ; clear hZ
      have HY := Lib.hid hY; clear hY
      have HS := Lib.hid hs; clear hs
      go_wp2_with fail
      refine (size_any _ _ (by omega)).mono ?_
      rintro e w' ⟨rfl, rfl⟩
      rw [HS.out]
      go_wp2_with fail
      go_round
      case rel => exact ⟨k + 1, by omega, by go_num, by rw [HPS.out]; go_num⟩
      case measure => simp [intOf]; omega
    · obtain rfl : k = n := by omega
      have hm1 := HLE.out k (Nat.le_refl _)
      have hall : preB L k = numsB L := by rw [← HN.out]; exact preB_all L
      obtain ⟨m, hm⟩ : ∃ m, (numsB L).length = m := ⟨_, rfl⟩
      rw [hall, hm] at hm1
      rw [hall, hm]
      have hmk := fun w => mkB m w (by omega)
      have HM := Lib.hid hm; clear hm
      have HALL := Lib.hid hall; clear hall
      clear hlt
      have hpm : (numB k).length ≤ m := by rw [← HM.out, ← HP0.out]; exact preB_mono L 0
      go_wp2_with fail
      refine (lay_any (k : Int) _ (by omega) (by omega) w.heap.size 0 m m (rowB [] m) (by rw [Int.toNat_natCast]; omega) (by rw [Int.toNat_natCast, rowB_len _ _ (Nat.zero_le _)]; omega) (heap_alloc_new _ _) (hT.below ((Below.refl _ _).alloc hT.n _))).mono ?_
      rintro e w1 ⟨rfl, hg, hb1⟩
      rw [Int.toNat_natCast] at *
      have hsp := rowB_splice [] (numB k) m
      simp only [List.length_nil, List.nil_append] at hsp
      rw [hsp] at hb1
      clear hsp
      have B1 : Below w.heap.size w w1 := ((Below.refl w.heap.size w).alloc (Nat.le_refl _) (.cells (rowB [] m).toArray 5)).grown hg (by simp) (fun j hj => by cases hj; exact Nat.le_refl _)
      clear hg hmk
      rw [← HP0.out] at hb1 ⊢
      clear hpos
      go_wp2_with fail
      go_loopw [10, 39] (fun t i wr => ∃ j : Nat, j ≤ k ∧ i = .int .i64 j ∧ t = .int .i64 ((preB L j).length : Nat) ∧ wr.heap[w.heap.size]? = some (.cells (rowB (preB L j) m).toArray 5 (0, 0)) ∧ Below w.heap.size w wr) (fun _ i _ => k - (intOf i).toNat)
      case atStart => exact ⟨0, Nat.zero_le _, rfl, rfl, hb1, B1⟩
      case round =>
        clear hb1 B1
        obtain ⟨j, hj, rfl, rfl, hrow, B⟩ := hrel
        by_cases hlt : j < k
        · have hkl : j < L.length := by have := HN.out; omega
          obtain ⟨bk, off, rfl, hbk, hc⟩ := (hU.later B) j _ (List.getElem?_eq_getElem hkl)
          have hlt2 := preB_lt L HV.out j hkl
          obtain ⟨v, hvk⟩ : ∃ v, L[j] = v := ⟨_, rfl⟩
          rw [hvk] at hc
          have hvb : v < 4611686018427387904 := by rw [← hvk]; exact HV.out _ (List.getElem_mem _)
          have hvp := numB_pos v hvb
          have hps : preB L (j + 1) = preB L j ++ numB v := by rw [preB_succ L j hkl, hvk]
          rw [HM.out, hvk] at hlt2
          have HPS := Lib.hid hps; clear hps
          have HVK := Lib.hid hvk; clear hvk
          obtain ⟨P, hPd⟩ : ∃ P, preB L j = P := ⟨_, rfl⟩
          rw [hPd] at hrow hlt2 ⊢
          have HPD := Lib.hid hPd; clear hPd
          obtain ⟨y, hY⟩ : ∃ y, P.length = y := ⟨_, rfl⟩
          rw [hY] at hlt2 ⊢
          have hy0 : (0 : Int) ≤ (y : Int) := by omega
          have hy1 : (y : Int) ≤ (m : Int) := by omega
          have hy2 : ¬ y = m := by omega
          have HY := Lib.hid hY; clear hY
          have HR := Lib.hid hrow; clear hrow
          go_wp2_with fail
          refine (lay_any (v : Int) _ (by omega) (by omega) w.heap.size y (m - y) _ (rowB P m) (by rw [Int.toNat_natCast]; omega) (by rw [Int.toNat_natCast, rowB_len _ _ (by have := HY.out; omega)]; omega) HR.out (hT.below (B.mono hT.n))).mono ?_
          rintro e w2 ⟨rfl, hg, hb2⟩
          rw [Int.toNat_natCast] at *
          have hsp := rowB_splice P (numB v) m
          rw [HY.out] at hsp
          rw [hsp] at hb2
          have B2 : Below w.heap.size w w2 := B.grown hg B.size (fun q hq => by cases hq; exact Nat.le_refl _)
          have HB2 := Lib.hid hb2
          have hyv : (P ++ numB v).length = y + (numB v).length := by rw [List.length_append, HY.out]
          have HYV := Lib.hid hyv
          clear hg hsp hc hb2 hyv
          go_wp2_with fail
          go_roundw
          case rel => exact ⟨j + 1, by omega, by go_num, by rw [HPS.out, HPD.out, HYV.out]; go_num, by rw [HPS.out, HPD.out]; exact HB2.out, B2⟩
          case measure => simp [intOf]; omega
        · obtain rfl : j = k := by omega
          rw [HALL.out] at hrow ⊢
          have hrow2 : wr.heap[w.heap.size]? = some (.cells ((numsB L).map u8v).toArray 5 (0, 0)) := by rw [hrow, ← HM.out, rowB_all]
          have hconv : (convert 64 9 (.slice (some ⟨w.heap.size, 0, none⟩) m m)).run Tryd.prog wr = .ok (.string ⟨(numsB L).toArray⟩) wr := by
            have := run_convert_bytes_back (P := Tryd.prog) wr 64 9 5 ⟨w.heap.size, 0, none⟩ m (numsB L) Tryd.underlying64 Tryd.underlying5 Tryd.underlying9 (fun i hi => by
              rw [addHead, cell_of_row wr _ i _ _ _ hrow2]
              simp [u8v, hi])
            rw [HM.out] at this; exact this
          clear hrow hrow2
          go_wp2_with fail
          go_ret2
          exact ⟨rfl, B⟩
end Go.Proofs.YtmnakfonfpdneaaDoor
