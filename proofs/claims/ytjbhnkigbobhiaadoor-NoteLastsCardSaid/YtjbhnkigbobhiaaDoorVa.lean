/- The program's valid and ofKind: which notes may be. -/
import Derived.Test.YtjbhnkigbobhiaaDoorNt
import Derived.Outline
import Derived.WalkLawsBesides
namespace Go.Proofs.YtjbhnkigbobhiaaDoor
open Go.RowKit

set_option maxHeartbeats 4000000 in
theorem pKind_any (k : Int) (i t v : Nat) (d : ByteArray) (w : World) (_h4 : d.size ≤ 4096) :
    Calls Tryd.prog 40 #[.agg #[.int .i64 k, .int .u64 i, .int .u64 t, .int .u64 v, .string d]] w fun e w' => e = .returned (.bool (ntB k i t v d)) ∧ Below w.heap.size w w' := by
  obtain ⟨D, hD⟩ : ∃ D : Bool, D = decide (d.size = 0) := ⟨_, rfl⟩
  have hD2 : d.toList.isEmpty = D ∧ (d.toList == []) = D ∧ decide (d.toList = []) = D := by
    rw [hD]
    by_cases e : d.size = 0
    · rw [empty_of e]; simp [ByteArray.toList_eq]; rfl
    · obtain ⟨a, b, c⟩ := nonempty_of e; simp [a, b, c, e]
  obtain ⟨q1, q2, q3⟩ := hD2
  unfold ntB
  rw [← hD]
  have HD := Lib.hid hD; clear hD
  by_cases k1 : k = 1
  · subst k1
    rw [if_pos rfl]
    go_enter Tryd.func40, Tryd.ntmps40
    go_wp2_with fail
    all_goals
      go_ret
      exact ⟨by simp [*, z_eq], (Below.refl _ _).alloc (Nat.le_refl _) _⟩
  by_cases k2 : k = 2
  · subst k2
    rw [if_neg (by decide), if_pos (by decide)]
    clear k1
    go_enter Tryd.func40, Tryd.ntmps40
    go_wp2_with fail
    all_goals
      go_ret
      exact ⟨by simp [*, z_eq], (Below.refl _ _).alloc (Nat.le_refl _) _⟩
  by_cases k4 : k = 4
  · subst k4
    rw [if_neg (by decide), if_pos (by decide)]
    clear k1 k2
    go_enter Tryd.func40, Tryd.ntmps40
    go_wp2_with fail
    all_goals
      go_ret
      exact ⟨by simp [*, z_eq], (Below.refl _ _).alloc (Nat.le_refl _) _⟩
  by_cases k3 : k = 3
  · subst k3
    rw [if_neg (by decide), if_neg (by decide), if_pos rfl]
    clear k1 k2 k4
    go_enter Tryd.func40, Tryd.ntmps40
    go_wp2_with fail
    all_goals
      go_ret
      exact ⟨by simp [*, z_eq], (Below.refl _ _).alloc (Nat.le_refl _) _⟩
  · rw [if_neg k1, if_neg (by omega), if_neg k3]
    have f1 : (k == 1) = false := by simpa using k1
    have f2 : (k == 2) = false := by simpa using k2
    have f3 : (k == 3) = false := by simpa using k3
    have f4 : (k == 4) = false := by simpa using k4
    clear k1 k2 k3 k4
    go_enter Tryd.func40, Tryd.ntmps40
    go_wp2_with fail
    all_goals
      go_ret
      exact ⟨by simp [*], (Below.refl _ _).alloc (Nat.le_refl _) _⟩
theorem valid_big0 (k : Int) (i t v : Nat) (d : ByteArray) (w : World) (_ : d.size ≤ 140737488355328) (o1 : i < t) (o2 : t < v) (h : 4611686018427387903 < v) :
    Calls Tryd.prog 21 #[.agg #[.int .i64 k, .int .u64 i, .int .u64 t, .int .u64 v, .string d]] w fun e w' => e = .returned (.bool false) ∧ Below w.heap.size w w' := by
  have p1 : (i : Int) < (t : Int) := by omega
  have p2 : (t : Int) < (v : Int) := by omega
  have g : ¬ (v : Int) ≤ 4611686018427387903 := by omega
  clear o1 o2 h
  go_enter Tryd.func21, Tryd.ntmps21
  go_wp2_with fail
  go_ret
  exact ⟨rfl, by go_grown⟩
theorem valid_long0 (k : Int) (i t v : Nat) (d : ByteArray) (w : World) (hd : d.size ≤ 140737488355328) (o1 : i < t) (o2 : t < v) (h : v ≤ 4611686018427387903) (h4 : 4096 < d.size) :
    Calls Tryd.prog 21 #[.agg #[.int .i64 k, .int .u64 i, .int .u64 t, .int .u64 v, .string d]] w fun e w' => e = .returned (.bool false) ∧ Below w.heap.size w w' := by
  have p1 : (i : Int) < (t : Int) := by omega
  have p2 : (t : Int) < (v : Int) := by omega
  have g : (v : Int) ≤ 4611686018427387903 := by omega
  have g4 : ¬ (d.size : Int) ≤ 4096 := by omega
  clear o1 o2 h h4
  go_enter Tryd.func21, Tryd.ntmps21
  go_wp2_with fail
  go_ret
  exact ⟨rfl, by go_grown⟩
theorem valid_kind0 (k : Int) (i t v : Nat) (d : ByteArray) (w : World) (hd : d.size ≤ 140737488355328) (o1 : i < t) (o2 : t < v) (h : v ≤ 4611686018427387903) (h4 : d.size ≤ 4096) :
    Calls Tryd.prog 21 #[.agg #[.int .i64 k, .int .u64 i, .int .u64 t, .int .u64 v, .string d]] w fun e w' => e = .returned (.bool (ntB k i t v d)) ∧ Below w.heap.size w w' := by
  have p1 : (i : Int) < (t : Int) := by omega
  have p2 : (t : Int) < (v : Int) := by omega
  have g : (v : Int) ≤ 4611686018427387903 := by omega
  have g4 : (d.size : Int) ≤ 4096 := by omega
  have H4 := Lib.hid h4
  obtain ⟨q, hq⟩ : ∃ q, ntB k i t v d = q := ⟨_, rfl⟩
  rw [hq]
  have HQ := Lib.hid hq
  clear o1 o2 h h4 hq
  go_enter Tryd.func21, Tryd.ntmps21
  go_wp2_with fail
  refine (pKind_any k i t v d _ H4.out).mono ?_
  rintro e w1 ⟨rfl, hb⟩
  rw [HQ.out]
  have B : Below w.heap.size w w1 := ((Below.refl _ w).alloc (Nat.le_refl _) _).trans (hb.mono (by simp))
  clear hb
  go_wp2_with fail
  go_ret
  exact ⟨rfl, B⟩
theorem valid_big1 (k : Int) (i t v : Nat) (d : ByteArray) (w : World) (_ : d.size ≤ 140737488355328) (o1 : i < t) (o2 : ¬ t < v) (h : 4611686018427387903 < t) :
    Calls Tryd.prog 21 #[.agg #[.int .i64 k, .int .u64 i, .int .u64 t, .int .u64 v, .string d]] w fun e w' => e = .returned (.bool false) ∧ Below w.heap.size w w' := by
  have p1 : (i : Int) < (t : Int) := by omega
  have p2 : ¬ (t : Int) < (v : Int) := by omega
  have g : ¬ (t : Int) ≤ 4611686018427387903 := by omega
  clear o1 o2 h
  go_enter Tryd.func21, Tryd.ntmps21
  go_wp2_with fail
  go_ret
  exact ⟨rfl, by go_grown⟩
theorem valid_long1 (k : Int) (i t v : Nat) (d : ByteArray) (w : World) (hd : d.size ≤ 140737488355328) (o1 : i < t) (o2 : ¬ t < v) (h : t ≤ 4611686018427387903) (h4 : 4096 < d.size) :
    Calls Tryd.prog 21 #[.agg #[.int .i64 k, .int .u64 i, .int .u64 t, .int .u64 v, .string d]] w fun e w' => e = .returned (.bool false) ∧ Below w.heap.size w w' := by
  have p1 : (i : Int) < (t : Int) := by omega
  have p2 : ¬ (t : Int) < (v : Int) := by omega
  have g : (t : Int) ≤ 4611686018427387903 := by omega
  have g4 : ¬ (d.size : Int) ≤ 4096 := by omega
  clear o1 o2 h h4
  go_enter Tryd.func21, Tryd.ntmps21
  go_wp2_with fail
  go_ret
  exact ⟨rfl, by go_grown⟩
theorem valid_kind1 (k : Int) (i t v : Nat) (d : ByteArray) (w : World) (hd : d.size ≤ 140737488355328) (o1 : i < t) (o2 : ¬ t < v) (h : t ≤ 4611686018427387903) (h4 : d.size ≤ 4096) :
    Calls Tryd.prog 21 #[.agg #[.int .i64 k, .int .u64 i, .int .u64 t, .int .u64 v, .string d]] w fun e w' => e = .returned (.bool (ntB k i t v d)) ∧ Below w.heap.size w w' := by
  have p1 : (i : Int) < (t : Int) := by omega
  have p2 : ¬ (t : Int) < (v : Int) := by omega
  have g : (t : Int) ≤ 4611686018427387903 := by omega
  have g4 : (d.size : Int) ≤ 4096 := by omega
  have H4 := Lib.hid h4
  obtain ⟨q, hq⟩ : ∃ q, ntB k i t v d = q := ⟨_, rfl⟩
  rw [hq]
  have HQ := Lib.hid hq
  clear o1 o2 h h4 hq
  go_enter Tryd.func21, Tryd.ntmps21
  go_wp2_with fail
  refine (pKind_any k i t v d _ H4.out).mono ?_
  rintro e w1 ⟨rfl, hb⟩
  rw [HQ.out]
  have B : Below w.heap.size w w1 := ((Below.refl _ w).alloc (Nat.le_refl _) _).trans (hb.mono (by simp))
  clear hb
  go_wp2_with fail
  go_ret
  exact ⟨rfl, B⟩
theorem valid_big2 (k : Int) (i t v : Nat) (d : ByteArray) (w : World) (_ : d.size ≤ 140737488355328) (o1 : ¬ i < t) (o2 : i < v) (h : 4611686018427387903 < v) :
    Calls Tryd.prog 21 #[.agg #[.int .i64 k, .int .u64 i, .int .u64 t, .int .u64 v, .string d]] w fun e w' => e = .returned (.bool false) ∧ Below w.heap.size w w' := by
  have p1 : ¬ (i : Int) < (t : Int) := by omega
  have p2 : (i : Int) < (v : Int) := by omega
  have g : ¬ (v : Int) ≤ 4611686018427387903 := by omega
  clear o1 o2 h
  go_enter Tryd.func21, Tryd.ntmps21
  go_wp2_with fail
  go_ret
  exact ⟨rfl, by go_grown⟩
theorem valid_long2 (k : Int) (i t v : Nat) (d : ByteArray) (w : World) (hd : d.size ≤ 140737488355328) (o1 : ¬ i < t) (o2 : i < v) (h : v ≤ 4611686018427387903) (h4 : 4096 < d.size) :
    Calls Tryd.prog 21 #[.agg #[.int .i64 k, .int .u64 i, .int .u64 t, .int .u64 v, .string d]] w fun e w' => e = .returned (.bool false) ∧ Below w.heap.size w w' := by
  have p1 : ¬ (i : Int) < (t : Int) := by omega
  have p2 : (i : Int) < (v : Int) := by omega
  have g : (v : Int) ≤ 4611686018427387903 := by omega
  have g4 : ¬ (d.size : Int) ≤ 4096 := by omega
  clear o1 o2 h h4
  go_enter Tryd.func21, Tryd.ntmps21
  go_wp2_with fail
  go_ret
  exact ⟨rfl, by go_grown⟩
theorem valid_kind2 (k : Int) (i t v : Nat) (d : ByteArray) (w : World) (hd : d.size ≤ 140737488355328) (o1 : ¬ i < t) (o2 : i < v) (h : v ≤ 4611686018427387903) (h4 : d.size ≤ 4096) :
    Calls Tryd.prog 21 #[.agg #[.int .i64 k, .int .u64 i, .int .u64 t, .int .u64 v, .string d]] w fun e w' => e = .returned (.bool (ntB k i t v d)) ∧ Below w.heap.size w w' := by
  have p1 : ¬ (i : Int) < (t : Int) := by omega
  have p2 : (i : Int) < (v : Int) := by omega
  have g : (v : Int) ≤ 4611686018427387903 := by omega
  have g4 : (d.size : Int) ≤ 4096 := by omega
  have H4 := Lib.hid h4
  obtain ⟨q, hq⟩ : ∃ q, ntB k i t v d = q := ⟨_, rfl⟩
  rw [hq]
  have HQ := Lib.hid hq
  clear o1 o2 h h4 hq
  go_enter Tryd.func21, Tryd.ntmps21
  go_wp2_with fail
  refine (pKind_any k i t v d _ H4.out).mono ?_
  rintro e w1 ⟨rfl, hb⟩
  rw [HQ.out]
  have B : Below w.heap.size w w1 := ((Below.refl _ w).alloc (Nat.le_refl _) _).trans (hb.mono (by simp))
  clear hb
  go_wp2_with fail
  go_ret
  exact ⟨rfl, B⟩
theorem valid_big3 (k : Int) (i t v : Nat) (d : ByteArray) (w : World) (_ : d.size ≤ 140737488355328) (o1 : ¬ i < t) (o2 : ¬ i < v) (h : 4611686018427387903 < i) :
    Calls Tryd.prog 21 #[.agg #[.int .i64 k, .int .u64 i, .int .u64 t, .int .u64 v, .string d]] w fun e w' => e = .returned (.bool false) ∧ Below w.heap.size w w' := by
  have p1 : ¬ (i : Int) < (t : Int) := by omega
  have p2 : ¬ (i : Int) < (v : Int) := by omega
  have g : ¬ (i : Int) ≤ 4611686018427387903 := by omega
  clear o1 o2 h
  go_enter Tryd.func21, Tryd.ntmps21
  go_wp2_with fail
  go_ret
  exact ⟨rfl, by go_grown⟩
theorem valid_long3 (k : Int) (i t v : Nat) (d : ByteArray) (w : World) (hd : d.size ≤ 140737488355328) (o1 : ¬ i < t) (o2 : ¬ i < v) (h : i ≤ 4611686018427387903) (h4 : 4096 < d.size) :
    Calls Tryd.prog 21 #[.agg #[.int .i64 k, .int .u64 i, .int .u64 t, .int .u64 v, .string d]] w fun e w' => e = .returned (.bool false) ∧ Below w.heap.size w w' := by
  have p1 : ¬ (i : Int) < (t : Int) := by omega
  have p2 : ¬ (i : Int) < (v : Int) := by omega
  have g : (i : Int) ≤ 4611686018427387903 := by omega
  have g4 : ¬ (d.size : Int) ≤ 4096 := by omega
  clear o1 o2 h h4
  go_enter Tryd.func21, Tryd.ntmps21
  go_wp2_with fail
  go_ret
  exact ⟨rfl, by go_grown⟩
theorem valid_kind3 (k : Int) (i t v : Nat) (d : ByteArray) (w : World) (hd : d.size ≤ 140737488355328) (o1 : ¬ i < t) (o2 : ¬ i < v) (h : i ≤ 4611686018427387903) (h4 : d.size ≤ 4096) :
    Calls Tryd.prog 21 #[.agg #[.int .i64 k, .int .u64 i, .int .u64 t, .int .u64 v, .string d]] w fun e w' => e = .returned (.bool (ntB k i t v d)) ∧ Below w.heap.size w w' := by
  have p1 : ¬ (i : Int) < (t : Int) := by omega
  have p2 : ¬ (i : Int) < (v : Int) := by omega
  have g : (i : Int) ≤ 4611686018427387903 := by omega
  have g4 : (d.size : Int) ≤ 4096 := by omega
  have H4 := Lib.hid h4
  obtain ⟨q, hq⟩ : ∃ q, ntB k i t v d = q := ⟨_, rfl⟩
  rw [hq]
  have HQ := Lib.hid hq
  clear o1 o2 h h4 hq
  go_enter Tryd.func21, Tryd.ntmps21
  go_wp2_with fail
  refine (pKind_any k i t v d _ H4.out).mono ?_
  rintro e w1 ⟨rfl, hb⟩
  rw [HQ.out]
  have B : Below w.heap.size w w1 := ((Below.refl _ w).alloc (Nat.le_refl _) _).trans (hb.mono (by simp))
  clear hb
  go_wp2_with fail
  go_ret
  exact ⟨rfl, B⟩
/-- valid, for every note. -/
theorem pValid_any (k : Int) (i t v : Nat) (d : ByteArray) (w : World) (hd : d.size ≤ 140737488355328) :
    Calls Tryd.prog 21 #[.agg #[.int .i64 k, .int .u64 i, .int .u64 t, .int .u64 v, .string d]] w fun e w' => e = .returned (.bool (okB ⟨k, i, t, v, d⟩)) ∧ Below w.heap.size w w' := by
  unfold okB
  simp only
  split
  · rename_i h
    by_cases o1 : i < t
    · by_cases o2 : t < v
      · by_cases hm : 4611686018427387903 < v
        · exact valid_big0 k i t v d w hd o1 o2 hm
        · exact valid_long0 k i t v d w hd o1 o2 (by omega) (by omega)
      · by_cases hm : 4611686018427387903 < t
        · exact valid_big1 k i t v d w hd o1 o2 hm
        · exact valid_long1 k i t v d w hd o1 o2 (by omega) (by omega)
    · by_cases o2 : i < v
      · by_cases hm : 4611686018427387903 < v
        · exact valid_big2 k i t v d w hd o1 o2 hm
        · exact valid_long2 k i t v d w hd o1 o2 (by omega) (by omega)
      · by_cases hm : 4611686018427387903 < i
        · exact valid_big3 k i t v d w hd o1 o2 hm
        · exact valid_long3 k i t v d w hd o1 o2 (by omega) (by omega)
  · rename_i h
    by_cases o1 : i < t
    · by_cases o2 : t < v
      · exact valid_kind0 k i t v d w hd o1 o2 (by omega) (by omega)
      · exact valid_kind1 k i t v d w hd o1 o2 (by omega) (by omega)
    · by_cases o2 : i < v
      · exact valid_kind2 k i t v d w hd o1 o2 (by omega) (by omega)
      · exact valid_kind3 k i t v d w hd o1 o2 (by omega) (by omega)
end Go.Proofs.YtjbhnkigbobhiaaDoor
