/- seal.Sum, seal.four. -/
import Derived.Test.YtjbhnkigbobhiaaDoorNt
import Derived.RegionTactic
import Derived.ChangeAlike
import Derived.BigRegion
import Derived.WalkSmall
namespace Go.Proofs.YtjbhnkigbobhiaaDoor
open Go.RowKit

def Half (B : Nat) (t : TypeId) (a b : Int) (w : World) : Prop := w.heap[B]? = some (.cells #[.int .u32 a, .int .u32 b] t (0, 0))
theorem Half.c0 {B t : Nat} {a b : Int} {w : World} (h : Half B t a b w) : w.cell? ⟨B, 0, none⟩ = some (.int .u32 a) := cell_of_row w B 0 _ t (0, 0) h
theorem Half.c1 {B t : Nat} {a b : Int} {w : World} (h : Half B t a b w) : w.cell? ⟨B, 1, none⟩ = some (.int .u32 b) := cell_of_row w B 1 _ t (0, 0) h
theorem Half.fr {B t i : Nat} {a b : Int} {w : World} (h : Half B t a b w) : w.frozen? ⟨B, i, none⟩ = false := by
  unfold Half at h; simp [World.frozen?, h]
theorem Half.set0 {B t : Nat} {a b : Int} {w : World} (h : Half B t a b w) (x : Int) : Half B t x b (w.setCell ⟨B, 0, none⟩ (.int .u32 x)) := by
  unfold Half at h ⊢; simp [World.setCell, Array.getElem?_modify, h]
theorem Half.set1 {B t : Nat} {a b : Int} {w : World} (h : Half B t a b w) (x : Int) : Half B t a x (w.setCell ⟨B, 1, none⟩ (.int .u32 x)) := by
  unfold Half at h ⊢; simp [World.setCell, Array.getElem?_modify, h]
theorem or_half (a b : Nat) (ha : a < 65536) (hb : b < 65536) : Go.bits BinOp.or IntKind.u32 ((b : Int) * 65536) a = ((b * 65536 + a : Nat) : Int) := by
  have e : (b : Int) * 65536 = ((2 ^ 16 * b : Nat) : Int) := by omega
  rw [e, u32_or_nat _ _ (by omega) (by omega), ← Nat.two_pow_add_eq_or_of_lt (by omega)]
  omega
set_option maxHeartbeats 400000 in
theorem sum_any (s : ByteArray) (w : World) (hs : s.size ≤ maxLen) :
    Calls Tryd.prog 61 #[.string s] w fun e w' => e = .returned (.int .u32 (sumOf s.data.toList)) ∧ Below w.heap.size w w' := by
  unfold maxLen at hs
  go_enter Tryd.func61, Tryd.ntmps61
  go_wp2
  go_loopw [8] (fun i wr => ∃ k : Nat, k ≤ s.size ∧ i = .int .i64 k ∧ Half w.heap.size 116 (adlOf (s.data.toList.take k)).1 (adlOf (s.data.toList.take k)).2 wr ∧ Below w.heap.size w wr) (fun i _ => s.size - (intOf i).toNat)
  case atStart =>
    refine ⟨0, Nat.zero_le _, rfl, ?_, ?_⟩
    · exact heap_alloc_new _ _
    · exact (Below.refl _ _).alloc (Nat.le_refl _) _
  case round =>
    obtain ⟨k, hk, rfl, hH, hB⟩ := hrel
    obtain ⟨⟨pa, pb⟩, hP⟩ : ∃ p, adlOf (s.data.toList.take k) = p := ⟨_, rfl⟩
    have hlt1 := adlOf_lt (s.data.toList.take k)
    rw [hP] at hlt1 hH
    obtain ⟨ha, hb⟩ := hlt1
    simp only at ha hb hH
    have c0 := hH.c0
    have c1 := hH.c1
    have f0 := hH.fr (i := 0)
    have f1 := hH.fr (i := 1)
    by_cases hlt : k < s.size
    · have HS : Hid (adlOf (s.data.toList.take (k + 1)) = adl (pa, pb) s[k]) := by show _ = _; rw [take_snoc s k hlt, adlOf_snoc, hP]
      clear hP
      have hc : (s[k].toNat : Int) < 256 := by have := s[k].toNat_lt; omega
      have HB := Lib.hid hB; clear hB
      have HH := Lib.hid hH; clear hH
      go_wp2
      go_region
      go_wp2
      go_roundw
      case rel => 
        refine ⟨k + 1, by omega, by go_num, ?_, ?_⟩
        · rw [HS.out]
          have e1 : (((adl (pa, pb) s[k]).1 : Nat) : Int) = ((pa : Int) + s[k].toNat) % 65521 := by simp [adl]
          have e2 : (((adl (pa, pb) s[k]).2 : Nat) : Int) = ((pb : Int) + (pa + s[k].toNat)) % 65521 := by simp [adl]
          rw [e1, e2]
          exact (HH.out.set0 _).set1 _
        · exact ((HB.out.setCell (Nat.le_refl _) _).setCell (Nat.le_refl _) _).drew
      case measure => simp [intOf]; omega
    · have hke : k = s.size := by omega
      have HE : Hid (adlOf s.data.toList = (pa, pb)) := by show _ = _; rw [← hP, List.take_of_length_le (by simp; omega)]
      have HB := Lib.hid hB; clear hB
      have HH := Lib.hid hH; clear hH
      clear hP hke
      have ho : Go.bits BinOp.or IntKind.u32 ((pb : Int) * 65536) pa = ((pb * 65536 + pa : Nat) : Int) := or_half pa pb (by omega) (by omega)
      go_wp2
      go_ret
      exact ⟨retU32 (by unfold sumOf; rw [HE.out]; first | rfl | simp), HB.out⟩
/-- string(out[:]) of a new array of four bytes. -/
theorem str_arr (w : World) (m : Nat) (t : TypeId) (hm : m = w.heap.size) (ns : List Int) : (convert 60 9 (.slice (some ⟨m, 0, none⟩) ns.length ns.length)).run Tryd.prog (w.alloc (.cells (ns.map (Value.int .u8)).toArray t)) = .ok (.string ⟨(ns.map fun n => UInt8.ofNat n.toNat).toArray⟩) (w.alloc (.cells (ns.map (Value.int .u8)).toArray t)) := by
  subst hm
  rw [run_convert_bytes_string _ 60 9 5 _ _ _ Tryd.underlying60 Tryd.underlying5 Tryd.underlying9]
  have hl := run_loadCells_list (P := Tryd.prog) (w.alloc (.cells (ns.map (Value.int .u8)).toArray t)) ⟨w.heap.size, 0, none⟩ (ns.map (Value.int .u8)) (fun j x hj => by
    rw [addHead]; exact (World.cell?_alloc_new _ _ _ _).trans (by rw [List.getElem?_toArray]; exact hj))
  rw [List.length_map] at hl
  rw [run_bytesToString _ _ ns.length ns.length ns hl, foldl_push_bytes]
  have he0 : ByteArray.empty.data = #[] := rfl
  rw [he0]; simp
theorem four_arr (w : World) (m : Nat) (t : TypeId) (a b c d : Int) (hm : m = w.heap.size) : (convert 60 9 (.slice (some ⟨m, 0, none⟩) 4 4)).run Tryd.prog (w.alloc (.cells #[.int .u8 a, .int .u8 b, .int .u8 c, .int .u8 d] t)) = .ok (.string ⟨[UInt8.ofNat a.toNat, UInt8.ofNat b.toNat, UInt8.ofNat c.toNat, UInt8.ofNat d.toNat].toArray⟩) (w.alloc (.cells #[.int .u8 a, .int .u8 b, .int .u8 c, .int .u8 d] t)) :=
  str_arr w m t hm [a, b, c, d]
theorem fourB_nat (v : Nat) : [UInt8.ofNat (v / 16777216), UInt8.ofNat (v / 65536 % 256), UInt8.ofNat (v / 256 % 256), UInt8.ofNat (v % 256)] = fourB v := by
  have h : ∀ n : Nat, UInt8.ofNat (n % 256) = UInt8.ofNat n := fun n => UInt8.toNat_inj.1 (by simp)
  unfold fourB; rw [h, h, h]
set_option maxHeartbeats 400000 in
theorem tail_any (s : ByteArray) (w : World) (hs : s.size ≤ maxLen) :
    Calls Tryd.prog 44 #[.string s] w fun e w' => e = .returned (.string ⟨(fourB (sumOf s.data.toList)).toArray⟩) ∧ Below w.heap.size w w' := by
  have hc := four_arr
  obtain ⟨v, hv⟩ : ∃ v : Nat, v = sumOf s.data.toList := ⟨_, rfl⟩
  have hv2 : (v : Int) < 4294967296 := by have := sumOf_lt s.data.toList; rw [hv]; exact this
  have HV := Lib.hid hv; clear hv
  go_enter Tryd.func44, Tryd.ntmps44
  go_wp2_with fail
  refine (sum_any _ _ hs).mono ?_
  rintro e w1 ⟨rfl, hb1⟩
  rw [← HV.out]
  go_wp2_with fail
  refine wp_loop_rounds 5 ?_
  iterate 5 (any_goals (rw [rounds_succ]; go_wp2_with fail))
  go_ret
  refine ⟨retS4 ?_, hb1.alloc hb1.size _⟩
  rw [← HV.out]
  exact fourB_nat v
end Go.Proofs.YtjbhnkigbobhiaaDoor
