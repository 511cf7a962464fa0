/- The reference of layer 1: Nums: several numbers' bytes, of any list. -/
import Derived.Test.YtmnakfonfpdneaaDoorBf
import Derived.Test.YtmnakfonfpdneaaDoorRnum
import Derived.Test.YtmnakfonfpdneaaDoorJb
namespace Go.Proofs.YtmnakfonfpdneaaDoor
open Go.RowKit

/-- string(b) of a buffer. -/
theorem buf_string {w : World} {B : Nat} {v : Value} {l : List UInt8} (h : Buf w B v l) : (convert 64 9 v).run Tryd.prog w = .ok (.string ⟨l.toArray⟩) w := by
  obtain ⟨g, cap, rfl, _, _, _, h1, _⟩ := h
  exact run_convert_bytes_back (P := Tryd.prog) w 64 9 5 ⟨g, 0, none⟩ cap l Tryd.underlying64 Tryd.underlying5 Tryd.underlying9 (fun i hi => by
    rw [addHead]; exact h1 i _ (List.getElem?_eq_getElem hi))
set_option maxHeartbeats 2000000 in
theorem refNums_any (n cap : Nat) (a : Option Addr) (L : List Nat) (hn : L.length = n) (hl : n ≤ 1048576) (hv : ∀ v ∈ L, v < 4611686018427387904) (w : World) (hU : Us w a L) :
    Calls Tryd.prog 17 #[.slice a n cap] w fun e w' => e = .returned (.tuple #[.string ⟨(numsB L).toArray⟩, .int .i64 0]) ∧ Below w.heap.size w w' := by
  have hle : ∀ k, k ≤ n → (preB L k).length ≤ 8 + 8 * k := fun k hk => preB_le L hv (by omega) k (by omega)
  have HLE := Lib.hid hle; clear hle
  have HV := Lib.hid hv; clear hv
  have HN := Lib.hid hn; clear hn
  have hp0 : preB L 0 = numB n := by unfold preB; rw [HN.out]; simp
  have HP0 := Lib.hid hp0; clear hp0
  go_enter Tryd.func17, Tryd.ntmps17
  go_wp2_with fail
  refine (refNum_any _ _ (by omega) (by omega)).mono ?_
  rintro e w1 ⟨rfl, hb1⟩
  rw [Int.toNat_natCast]
  obtain ⟨v, w2, hcv, hbuf, hb2⟩ := buf_conv w1 w.heap.size hb1.size (numB n)
  have B2 := hb1.trans (hb2.mono hb1.size)
  rw [← HP0.out] at hbuf
  clear hb1 hb2
  go_wp2_with fail
  clear hcv
  go_loopw [6, 7] (fun b i wr => ∃ k : Nat, k ≤ n ∧ i = .int .i64 k ∧ Buf wr w.heap.size b (preB L k) ∧ Below w.heap.size w wr) (fun _ i _ => n - (intOf i).toNat)
  case atStart => exact ⟨0, Nat.zero_le _, rfl, hbuf, B2⟩
  case round =>
    clear hbuf B2
    obtain ⟨k, hk, rfl, hbuf, B⟩ := hrel
    by_cases hlt : k < n
    · have hkl : k < L.length := by have := HN.out; omega
      obtain ⟨bk, off, rfl, hbk, hc⟩ := (hU.later B) k _ (List.getElem?_eq_getElem hkl)
      obtain ⟨x, hvk⟩ : ∃ x, L[k] = x := ⟨_, rfl⟩
      rw [hvk] at hc
      have hvb : x < 4611686018427387904 := by rw [← hvk]; exact HV.out _ (List.getElem_mem _)
      have hvp := numB_pos x hvb
      have hpk := HLE.out k hk
      have hps : preB L (k + 1) = preB L k ++ numB x := by rw [preB_succ L k hkl, hvk]
      have HPS := Lib.hid hps; clear hps
      have HVK := Lib.hid hvk; clear hvk
      go_wp2_with fail
      refine (refNum_any _ _ (by omega) (by omega)).mono ?_
      rintro e w3 ⟨rfl, hb3⟩
      rw [Int.toNat_natCast]
      have hbuf3 := hbuf.later hb3
      have B3 := B.trans (hb3.mono B.size)
      clear hbuf hb3 B hc
      go_wp2_with (at_builtin; refine wpList_buf_app rfl _ _ rfl w.heap.size B3.size _ (preB L k) ⟨(numB x).toArray⟩ rfl rfl hbuf3 ?c1 ?_)
      case c1 => rw [size_arr]; omega
      intro v' w4 hbuf4 hB4
      have B4 := hB4 _ B3
      have HB4 := Lib.hid hbuf4
      clear hB4 hbuf4 hbuf3
      go_wp2_with fail
      go_roundw
      case rel => exact ⟨k + 1, by omega, by go_num, by rw [HPS.out]; exact HB4.out, B4⟩
      case measure => simp [intOf]; omega
    · obtain rfl : k = n := by omega
      have hall : preB L k = numsB L := by rw [← HN.out]; exact preB_all L
      rw [hall] at hbuf
      have hstr := buf_string hbuf
      clear hall hbuf
      go_wp2_with fail
      go_ret2
      exact ⟨rfl, B⟩
end Go.Proofs.YtmnakfonfpdneaaDoor
