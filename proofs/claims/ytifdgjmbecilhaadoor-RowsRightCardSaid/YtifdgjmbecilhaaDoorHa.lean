/- Keys, values, puts that may be; the closures of place, with, without: the program's. -/
import Derived.Test.YtifdgjmbecilhaaDoorUf
namespace Go.Proofs.YtifdgjmbecilhaaDoor
open Go.RowKit

theorem toL_data (b : ByteArray) : b.toList = b.data.toList := ByteArray.toList_eq b
theorem bytesLess_lessL : ∀ a b, Op.bytesLess a b = lessL a b
  | _, [] => by simp [Op.bytesLess, lessL]
  | [], _ :: _ => rfl
  | x :: r, y :: s => by
    rw [Op.bytesLess, lessL, bytesLess_lessL r s]
    by_cases h : x = y
    · subst h; simp
    · rw [if_neg h]
      have h2 : (x == y) = false := by simpa using h
      rw [h2, Bool.false_and, Bool.or_false]
      simp [UInt8.lt_iff_toNat_lt]
theorem less_any (a b : ByteArray) : Op.bytesLess a.toList b.toList = lessB a b := by
  rw [toL_data, toL_data, bytesLess_lessL]; rfl
def keyOk (k : ByteArray) : Bool := decide (1 ≤ k.size) && decide (k.size ≤ 16)
set_option maxHeartbeats 1000000 in
theorem mayKey_any (k : ByteArray) (b : Bool) (hb : keyOk k = b) (hk : k.size ≤ 140737488351232) (w : World) :
    Calls Tryd.prog 27 #[.string k] w fun e w' => e = .returned (.bool b) ∧ ∃ q, w' = w.drewN q := by
  have HB := Lib.hid hb
  clear hb
  by_cases h1 : 1 ≤ k.size
  · have g1 : (1 : Int) ≤ (k.size : Int) := by omega
    by_cases h2 : k.size ≤ 16
    · have g2 : (k.size : Int) ≤ 16 := by omega
      obtain rfl : b = true := by rw [← HB.out, keyOk, decide_eq_true h1, decide_eq_true h2]; rfl
      go_enter Tryd.func27, Tryd.ntmps27
      go_wp2_with fail
      go_ret
      exact ⟨by first | rfl | simp, 0, rfl⟩
    · have g2 : ¬ (k.size : Int) ≤ 16 := by omega
      obtain rfl : b = false := by rw [← HB.out, keyOk, decide_eq_false h2, Bool.and_false]
      go_enter Tryd.func27, Tryd.ntmps27
      go_wp2_with fail
      go_ret
      exact ⟨by first | rfl | simp, 0, rfl⟩
  · have g1 : ¬ (1 : Int) ≤ (k.size : Int) := by omega
    obtain rfl : b = false := by rw [← HB.out, keyOk, decide_eq_false h1]; rfl
    go_enter Tryd.func27, Tryd.ntmps27
    go_wp2_with fail
    go_ret
    exact ⟨by first | rfl | simp, 0, rfl⟩
theorem mayVal_any (k : ByteArray) (b : Bool) (hb : decide (k.size ≤ 32) = b) (hk : k.size ≤ 140737488351232) (w : World) :
    Calls Tryd.prog 28 #[.string k] w fun e w' => e = .returned (.bool b) ∧ ∃ q, w' = w.drewN q := by
  have HB := Lib.hid hb
  clear hb
  by_cases h2 : k.size ≤ 32
  · have g2 : (k.size : Int) ≤ 32 := by omega
    obtain rfl : b = true := by rw [← HB.out, decide_eq_true h2]
    go_enter Tryd.func28, Tryd.ntmps28
    go_wp2_with fail
    go_ret
    exact ⟨by first | rfl | simp, 0, rfl⟩
  · have g2 : ¬ (k.size : Int) ≤ 32 := by omega
    obtain rfl : b = false := by rw [← HB.out, decide_eq_false h2]
    go_enter Tryd.func28, Tryd.ntmps28
    go_wp2_with fail
    go_ret
    exact ⟨by first | rfl | simp, 0, rfl⟩
/-- A key in a box. -/
structure Kb (w : World) (h : Nat) (k : ByteArray) : Prop where
  c : w.cell? ⟨h, 0, none⟩ = some (.string k)
  lt : h < w.heap.size
theorem Kb.later {w w' : World} {h : Nat} {k : ByteArray} (H : Kb w h k) (hb : Below w.heap.size w w') : Kb w' h k := ⟨(hb.cell (p := ⟨h, 0, none⟩) H.lt).trans H.c, Nat.lt_of_lt_of_le H.lt hb.size⟩
theorem Kb.grown {w w' : World} {h g : Nat} {k : ByteArray} (H : Kb w h k) (hg : w.grownBy w' (some g)) (hne : h ≠ g) : Kb w' h k := ⟨(World.cell?_of_block (a := ⟨h, 0, none⟩) (hg.block h H.lt (by simpa using hne))).trans H.c, Nat.lt_of_lt_of_le H.lt hg.size⟩
set_option maxHeartbeats 1000000 in
theorem place1_any (x : Ro) (h : Nat) (key : ByteArray) (w : World) (H : Kb w h key) :
    Calls Tryd.prog 46 #[roV x, .pointer (some ⟨h, 0, none⟩)] w fun e w' => e = .returned (.bool (decide (x.key = key))) ∧ Below w.heap.size w w' := by
  obtain ⟨xk, xv, xn⟩ := x
  have B1 : Below w.heap.size w (w.alloc (.cells #[.string xk, .string xv, .int .u64 (xn : Nat)] 26)) := (Below.refl _ _).alloc (Nat.le_refl _) _
  obtain ⟨c, lt⟩ := H.later B1
  have HB := Lib.hid B1
  clear H B1
  unfold roV
  by_cases he : xk = key
  · subst he
    rw [decide_eq_true rfl]
    go_enter Tryd.func46, Tryd.ntmps46
    go_wp2_with fail
    go_ret
    exact ⟨by first | rfl | simp, HB.out⟩
  · rw [decide_eq_false he]
    have g1 := ba_ne he
    have g1' := ba_ne' he
    go_enter Tryd.func46, Tryd.ntmps46
    go_wp2_with fail
    go_ret
    exact ⟨by first | rfl | simp, HB.out⟩
set_option maxHeartbeats 1000000 in
theorem without1_any (x : Ro) (h : Nat) (key : ByteArray) (w : World) (H : Kb w h key) :
    Calls Tryd.prog 48 #[roV x, .pointer (some ⟨h, 0, none⟩)] w fun e w' => e = .returned (.bool (decide (x.key = key))) ∧ Below w.heap.size w w' := by
  obtain ⟨xk, xv, xn⟩ := x
  have B1 : Below w.heap.size w (w.alloc (.cells #[.string xk, .string xv, .int .u64 (xn : Nat)] 26)) := (Below.refl _ _).alloc (Nat.le_refl _) _
  obtain ⟨c, lt⟩ := H.later B1
  have HB := Lib.hid B1
  clear H B1
  unfold roV
  by_cases he : xk = key
  · subst he
    rw [decide_eq_true rfl]
    go_enter Tryd.func48, Tryd.ntmps48
    go_wp2_with fail
    go_ret
    exact ⟨by first | rfl | simp, HB.out⟩
  · rw [decide_eq_false he]
    have g1 := ba_ne he
    have g1' := ba_ne' he
    go_enter Tryd.func48, Tryd.ntmps48
    go_wp2_with fail
    go_ret
    exact ⟨by first | rfl | simp, HB.out⟩
set_option maxHeartbeats 1000000 in
theorem with1_any (x : Ro) (h : Nat) (key : ByteArray) (w : World) (H : Kb w h key) :
    Calls Tryd.prog 49 #[roV x, .pointer (some ⟨h, 0, none⟩)] w fun e w' => e = .returned (.bool (lessB key x.key)) ∧ Below w.heap.size w w' := by
  obtain ⟨xk, xv, xn⟩ := x
  have B1 : Below w.heap.size w (w.alloc (.cells #[.string xk, .string xv, .int .u64 (xn : Nat)] 26)) := (Below.refl _ _).alloc (Nat.le_refl _) _
  obtain ⟨c, lt⟩ := H.later B1
  have HB := Lib.hid B1
  clear H B1
  unfold roV
  by_cases he : xk = key
  · subst he
    have gl : Op.bytesLess xk.toList xk.toList = false := by rw [less_any, lessB_irrefl]
    simp only
    rw [lessB_irrefl]
    go_enter Tryd.func49, Tryd.ntmps49
    go_wp2_with fail
    go_ret
    exact ⟨by first | rfl | simp, HB.out⟩
  · have g1 := ba_ne he
    have g1' := ba_ne' he
    obtain ⟨d, hd⟩ : ∃ d, lessB key xk = d := ⟨_, rfl⟩
    have gl : Op.bytesLess xk.toList key.toList = !d := by
      rw [less_any]
      cases d
      · rcases h : lessB xk key with _ | _
        · exact absurd (lessB_total h hd) he
        · rfl
      · exact lessB_asym hd
    simp only
    rw [hd]
    clear hd
    go_enter Tryd.func49, Tryd.ntmps49
    go_wp2_with fail
    go_ret
    exact ⟨by first | rfl | (simp; done) | (cases d <;> rfl), HB.out⟩
set_option maxHeartbeats 1000000 in
theorem mayPut_any (p : Pu) (b : Bool) (hb : putOk p = b) (hk : p.key.size ≤ 140737488351232) (hv : p.val.size ≤ 140737488351232) (w : World) :
    Calls Tryd.prog 30 #[puV p] w fun e w' => e = .returned (.bool b) ∧ Below w.heap.size w w' := by
  obtain ⟨pk, pv, pg⟩ := p
  simp only at hk hv
  have HB := Lib.hid ((Below.refl w.heap.size w).alloc (Nat.le_refl _) (.cells #[.string pk, .string pv, .bool pg] 37))
  have HP := Lib.hid (show (keyOk pk && (decide (pv.size ≤ 32) && !(pg && decide (0 < pv.size)))) = b by rw [← hb]; simp only [putOk, keyOk, Bool.and_assoc])
  clear hb
  unfold puV
  obtain ⟨k1, h1⟩ : ∃ k1, keyOk pk = k1 := ⟨_, rfl⟩
  obtain ⟨k2, h2⟩ : ∃ k2, decide (pv.size ≤ 32) = k2 := ⟨_, rfl⟩
  have HK := Lib.hid (fun w' => mayKey_any pk k1 h1 hk w')
  have HV := Lib.hid (fun w' => mayVal_any pv k2 h2 hv w')
  rw [h1, h2] at HP
  clear h1 h2
  have fin : ∀ (q : Nat) (W : World), Below w.heap.size w W → Below w.heap.size w (W.drewN q) := fun q W h => below_drewN h q
  cases k1
  · obtain rfl : b = false := HP.out.symm
    go_enter Tryd.func30, Tryd.ntmps30
    go_wp2_with fail
    refine (HK.out _).mono ?_
    rintro e w1 ⟨rfl, q1, rfl⟩
    go_wp2_with fail
    go_ret
    exact ⟨by first | rfl | simp, fin _ _ HB.out⟩
  cases k2
  · obtain rfl : b = false := HP.out.symm
    go_enter Tryd.func30, Tryd.ntmps30
    go_wp2_with fail
    refine (HK.out _).mono ?_
    rintro e w1 ⟨rfl, q1, rfl⟩
    go_wp2_with fail
    refine (HV.out _).mono ?_
    rintro e w2 ⟨rfl, q2, rfl⟩
    go_wp2_with fail
    go_ret
    exact ⟨by first | rfl | simp, fin _ _ HB.out⟩
  cases pg
  · obtain rfl : b = true := HP.out.symm
    go_enter Tryd.func30, Tryd.ntmps30
    go_wp2_with fail
    refine (HK.out _).mono ?_
    rintro e w1 ⟨rfl, q1, rfl⟩
    go_wp2_with fail
    refine (HV.out _).mono ?_
    rintro e w2 ⟨rfl, q2, rfl⟩
    go_wp2_with fail
    go_ret
    exact ⟨by first | rfl | simp, fin _ _ HB.out⟩
  · by_cases hz : pv = ⟨#[]⟩
    · subst hz
      obtain rfl : b = true := by rw [← HP.out]; rfl
      go_enter Tryd.func30, Tryd.ntmps30
      go_wp2_with fail
      refine (HK.out _).mono ?_
      rintro e w1 ⟨rfl, q1, rfl⟩
      go_wp2_with fail
      refine (HV.out _).mono ?_
      rintro e w2 ⟨rfl, q2, rfl⟩
      go_wp2_with fail
      go_ret
      exact ⟨by first | rfl | simp, fin _ _ HB.out⟩
    · have hs : 0 < pv.size := by
        rcases Nat.eq_zero_or_pos pv.size with h | h
        · exact absurd (ByteArray.size_eq_zero_iff.1 h) hz
        · exact h
      obtain rfl : b = false := by rw [← HP.out, decide_eq_true hs]; rfl
      clear HP
      have g2 : ¬ pv.toList = [] := fun h => by
        rw [toL_data] at h
        have h3 : pv.data.toList.length = pv.size := Array.length_toList
        rw [h, List.length_nil] at h3; omega
      have g1 := ba_ne hz
      have g1' := ba_ne' hz
      clear hz
      go_enter Tryd.func30, Tryd.ntmps30
      go_wp2_with fail
      refine (HK.out _).mono ?_
      rintro e w1 ⟨rfl, q1, rfl⟩
      go_wp2_with fail
      refine (HV.out _).mono ?_
      rintro e w2 ⟨rfl, q2, rfl⟩
      go_wp2_with fail
      go_ret
      exact ⟨by first | rfl | (simp [g2]; done), fin _ _ HB.out⟩
end Go.Proofs.YtifdgjmbecilhaaDoor
