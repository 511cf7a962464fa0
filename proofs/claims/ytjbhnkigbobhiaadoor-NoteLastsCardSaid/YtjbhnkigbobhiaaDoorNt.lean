/- Layer 2 in plain words: the sum, the sealed text, what is taken, what is told. -/
import Derived.Test.YtjbhnkigbobhiaaDoorPtake
import Derived.Test.YtjbhnkigbobhiaaDoorPb
import Derived.Laws.BytesArg
import Derived.Lib.Hide
import Derived.Handy
namespace Go.Proofs.YtjbhnkigbobhiaaDoor
open Go.RowKit

def adl (p : Nat × Nat) (c : UInt8) : Nat × Nat := ((p.1 + c.toNat) % 65521, (p.2 + (p.1 + c.toNat) % 65521) % 65521)
def adlOf (l : List UInt8) : Nat × Nat := l.foldl adl (1, 0)
def sumOf (l : List UInt8) : Nat := (adlOf l).2 * 65536 + (adlOf l).1
theorem adlOf_snoc (l : List UInt8) (c : UInt8) : adlOf (l ++ [c]) = adl (adlOf l) c := by simp [adlOf]
theorem foldl_adl_lt (l : List UInt8) : ∀ p : Nat × Nat, p.1 < 65521 → p.2 < 65521 → (l.foldl adl p).1 < 65521 ∧ (l.foldl adl p).2 < 65521 := by
  induction l with
  | nil => intro p h1 h2; exact ⟨h1, h2⟩
  | cons c l ih => intro p _ _; exact ih _ (Nat.mod_lt _ (by decide)) (Nat.mod_lt _ (by decide))
theorem adlOf_lt (l : List UInt8) : (adlOf l).1 < 65521 ∧ (adlOf l).2 < 65521 := foldl_adl_lt l _ (by decide) (by decide)
theorem take_snoc (s : ByteArray) (k : Nat) (h : k < s.size) : s.data.toList.take (k + 1) = s.data.toList.take k ++ [s[k]] := by
  rw [List.take_succ_eq_append_getElem (by simpa using h)]; rfl
theorem valU32 {a b : Int} (h : a = b) : Value.int .u32 a = .int .u32 b := by rw [h]
theorem retU32 {a b : Int} (h : a = b) : Ending.returned (.int .u32 a) = .returned (.int .u32 b) := by rw [h]
theorem retS {s t : ByteArray} (h : s = t) : Ending.returned (.string s) = .returned (.string t) := by rw [h]
theorem sumOf_lt (l : List UInt8) : (sumOf l : Int) < 4294967296 := by unfold sumOf; have := adlOf_lt l; omega
theorem numB_le (n : Nat) : (numB n).length ≤ 8 := by
  unfold numB
  split; rw [length_beB]; omega
  split; rw [length_beB]; omega
  split; rw [length_beB]; omega
  rw [length_beB]; omega
theorem app_mk (a : List UInt8) (s : ByteArray) : ByteArray.mk a.toArray ++ s = ByteArray.mk (a ++ s.data.toList).toArray := by
  obtain ⟨⟨l⟩⟩ := s; exact ByteArray.mk_append_mk a l
theorem data_app (s t : ByteArray) : (s ++ t).data.toList = s.data.toList ++ t.data.toList := by simp
/-- A sum's four bytes. -/
def fourB (v : Nat) : List UInt8 := [UInt8.ofNat (v / 16777216), UInt8.ofNat (v / 65536), UInt8.ofNat (v / 256), UInt8.ofNat v]
theorem len_four (v : Nat) : (fourB v).length = 4 := rfl
theorem size_arr (l : List UInt8) : (ByteArray.mk l.toArray).size = l.length := List.size_toArray
theorem len_data (s : ByteArray) : s.data.toList.length = s.size := by rw [Array.length_toList]; rfl
theorem retStrI {s t : ByteArray} {k : IntKind} {e : Int} (h : s = t) : Ending.returned (.tuple #[.string s, .int k e]) = .returned (.tuple #[.string t, .int k e]) := by rw [h]
/-- A sealed text. -/
def putB (l : List UInt8) : List UInt8 := (numB l.length ++ l) ++ fourB (sumOf (numB l.length ++ l))
/-- What is taken: the text, what stands behind it, the error. -/
def tkSeal (b : List UInt8) : List UInt8 × List UInt8 × Nat :=
  if (tkNum b).2.2 ≠ 0 then ([], [], (tkNum b).2.2) else
  if 65536 < (tkNum b).1 then ([], [], 4) else
  if (tkNum b).2.1.length < (tkNum b).1 + 4 then ([], [], 2) else
  if fourB (sumOf (b.take (b.length - (tkNum b).2.1.length + (tkNum b).1))) = ((tkNum b).2.1.drop (tkNum b).1).take 4 then ((tkNum b).2.1.take (tkNum b).1, (tkNum b).2.1.drop ((tkNum b).1 + 4), 0) else ([], [], 3)
/-- string([]byte{..}) of a new block. -/
theorem str_new (w : World) (m : Nat) (hm : m = w.heap.size) (ns : List Int) : (convert 60 9 (.slice (some ⟨m, 0, none⟩) ns.length ns.length)).run Tryd.prog (w.alloc (.cells (ns.map (Value.int .u8)).toArray 5)) = .ok (.string ⟨(ns.map fun n => UInt8.ofNat n.toNat).toArray⟩) (w.alloc (.cells (ns.map (Value.int .u8)).toArray 5)) := by
  subst hm
  rw [run_convert_bytes_string _ 60 9 5 _ _ _ Tryd.underlying60 Tryd.underlying5 Tryd.underlying9]
  have hl := run_loadCells_list (P := Tryd.prog) (w.alloc (.cells (ns.map (Value.int .u8)).toArray 5)) ⟨w.heap.size, 0, none⟩ (ns.map (Value.int .u8)) (fun j x hj => by
    rw [addHead]; exact (World.cell?_alloc_new _ _ _ _).trans (by rw [List.getElem?_toArray]; exact hj))
  rw [List.length_map] at hl
  rw [run_bytesToString _ _ ns.length ns.length ns hl, foldl_push_bytes]
  have he0 : ByteArray.empty.data = #[] := rfl
  rw [he0]; simp
theorem four_new (w : World) (m : Nat) (a b c d : Int) (hm : m = w.heap.size) : (convert 60 9 (.slice (some ⟨m, 0, none⟩) 4 4)).run Tryd.prog (w.alloc (.cells #[.int .u8 a, .int .u8 b, .int .u8 c, .int .u8 d] 5)) = .ok (.string ⟨[UInt8.ofNat a.toNat, UInt8.ofNat b.toNat, UInt8.ofNat c.toNat, UInt8.ofNat d.toNat].toArray⟩) (w.alloc (.cells #[.int .u8 a, .int .u8 b, .int .u8 c, .int .u8 d] 5)) :=
  str_new w m hm [a, b, c, d]
theorem u8_of {x : Int} {n : Nat} (h : x = ((n % 256 : Nat) : Int)) : UInt8.ofNat x.toNat = UInt8.ofNat n := by rw [h, Int.toNat_natCast]; exact UInt8.toNat_inj.1 (by simp)
theorem fourB_is {v : Nat} {a b c d : Int} (ha : a = ((v / 16777216 % 256 : Nat) : Int)) (hb : b = ((v / 65536 % 256 : Nat) : Int)) (hc : c = ((v / 256 % 256 : Nat) : Int)) (hd : d = ((v % 256 : Nat) : Int)) :
    [UInt8.ofNat a.toNat, UInt8.ofNat b.toNat, UInt8.ofNat c.toNat, UInt8.ofNat d.toNat] = fourB v := by
  unfold fourB; rw [u8_of ha, u8_of hb, u8_of hc, u8_of hd]
theorem retS4 {l m : List UInt8} (h : l = m) : Ending.returned (.string ⟨l.toArray⟩) = .returned (.string ⟨m.toArray⟩) := by rw [h]
end Go.Proofs.YtjbhnkigbobhiaaDoor
/- Layer 4 in plain words: notes; and the reference's NoteMay. -/
namespace Go.Proofs.YtjbhnkigbobhiaaDoor
open Go.RowKit

/-- A note. -/
structure Nt where
  k : Int
  i : Nat
  t : Nat
  v : Nat
  d : ByteArray
@[reducible] def Nt.val (n : Nt) : Value := .agg #[.int .i64 n.k, .int .u64 n.i, .int .u64 n.t, .int .u64 n.v, .string n.d]
/-- Which notes may be. -/
def Nt.ok (n : Nt) : Prop := n.i < 4611686018427387904 ∧ n.t < 4611686018427387904 ∧ n.v < 4611686018427387904 ∧ n.d.size ≤ 4096 ∧
  ((n.k = 1 ∧ n.i = 0 ∧ n.d.size = 0) ∨ ((n.k = 2 ∨ n.k = 4) ∧ n.v = 0) ∨ (n.k = 3 ∧ n.t = 0 ∧ n.v = 0 ∧ n.d.size = 0))
theorem empty_of {d : ByteArray} (h : d.size = 0) : d = ⟨#[]⟩ := by
  apply ByteArray.ext; exact Array.eq_empty_of_size_eq_zero h
theorem nonempty_of {d : ByteArray} (h : ¬ d.size = 0) : d.toList.isEmpty = false ∧ (d.toList == []) = false ∧ ¬ d.toList = [] := by
  have e : ¬ d.toList = [] := by
    intro e; apply h; rw [ByteArray.toList_eq] at e
    have := congrArg List.length e; simpa using this
  refine ⟨by simpa using e, by simpa using e, e⟩
set_option maxHeartbeats 2000000 in
theorem refMay_no (k : Int) (i t v : Nat) (d : ByteArray) (w : World) (hd : d.size ≤ maxLen) (h : 4611686018427387903 < i ∨ 4611686018427387903 < t ∨ 4611686018427387903 < v ∨ 4096 < d.size) :
    Calls Tryd.prog 24 #[.agg #[.int .i64 k, .int .u64 i, .int .u64 t, .int .u64 v, .string d]] w fun e w' => e = .returned (.bool false) ∧ Below w.heap.size w w' := by
  unfold maxLen at hd
  by_cases h1 : 4611686018427387903 < i
  · have h1' : (4611686018427387903 : Int) < (i : Int) := by omega
    go_enter Tryd.func24, Tryd.ntmps24
    go_wp2_with fail
    go_ret
    exact ⟨rfl, (Below.refl _ _).alloc (Nat.le_refl _) _⟩
  by_cases h2 : 4611686018427387903 < t
  · have h1' : ¬ (4611686018427387903 : Int) < (i : Int) := by omega
    have h2' : (4611686018427387903 : Int) < (t : Int) := by omega
    go_enter Tryd.func24, Tryd.ntmps24
    go_wp2_with fail
    go_ret
    exact ⟨rfl, (Below.refl _ _).alloc (Nat.le_refl _) _⟩
  by_cases h3 : 4611686018427387903 < v
  · have h1' : ¬ (4611686018427387903 : Int) < (i : Int) := by omega
    have h2' : ¬ (4611686018427387903 : Int) < (t : Int) := by omega
    have h3' : (4611686018427387903 : Int) < (v : Int) := by omega
    go_enter Tryd.func24, Tryd.ntmps24
    go_wp2_with fail
    go_ret
    exact ⟨rfl, (Below.refl _ _).alloc (Nat.le_refl _) _⟩
  · have h4 : 4096 < d.size := by omega
    have h1' : ¬ (4611686018427387903 : Int) < (i : Int) := by omega
    have h2' : ¬ (4611686018427387903 : Int) < (t : Int) := by omega
    have h3' : ¬ (4611686018427387903 : Int) < (v : Int) := by omega
    have h4' : (4096 : Int) < (d.size : Int) := by omega
    go_enter Tryd.func24, Tryd.ntmps24
    go_wp2_with fail
    go_ret
    exact ⟨rfl, (Below.refl _ _).alloc (Nat.le_refl _) _⟩
theorem z_eq (v : Nat) : ((v : Int) == 0) = decide (v = 0) := by by_cases h : v = 0 <;> simp [h]
/-- What a note that isn't too big comes to, by its kind. -/
def ntB (k : Int) (i t v : Nat) (d : ByteArray) : Bool :=
  if k = 1 then decide (i = 0) && decide (d.size = 0) else if k = 2 ∨ k = 4 then decide (v = 0) else if k = 3 then decide (t = 0) && decide (v = 0) && decide (d.size = 0) else false
set_option maxHeartbeats 4000000 in
theorem refMay_yes (k : Int) (i t v : Nat) (d : ByteArray) (w : World) (h1 : ¬ 4611686018427387903 < i) (h2 : ¬ 4611686018427387903 < t) (h3 : ¬ 4611686018427387903 < v) (h4 : ¬ 4096 < d.size) :
    Calls Tryd.prog 24 #[.agg #[.int .i64 k, .int .u64 i, .int .u64 t, .int .u64 v, .string d]] w fun e w' => e = .returned (.bool (ntB k i t v d)) ∧ Below w.heap.size w w' := by
  have h1' : ¬ (4611686018427387903 : Int) < (i : Int) := by omega
  have h2' : ¬ (4611686018427387903 : Int) < (t : Int) := by omega
  have h3' : ¬ (4611686018427387903 : Int) < (v : Int) := by omega
  have h4' : ¬ (4096 : Int) < (d.size : Int) := by omega
  obtain ⟨D, hD⟩ : ∃ D : Bool, D = decide (d.size = 0) := ⟨_, rfl⟩
  have hD2 : d.toList.isEmpty = D ∧ (d.toList == []) = D ∧ decide (d.toList = []) = D := by
    rw [hD]
    by_cases e : d.size = 0
    · rw [empty_of e]; simp [ByteArray.toList_eq]; rfl
    · obtain ⟨a, b, c⟩ := nonempty_of e; simp [a, b, c, e]
  obtain ⟨q1, q2, q3⟩ := hD2
  unfold ntB
  rw [← hD]
  have HD := Lib.hid hD; clear hD
  by_cases k1 : k = 1
  · subst k1
    rw [if_pos rfl]
    go_enter Tryd.func24, Tryd.ntmps24
    go_wp2_with fail
    all_goals
      go_ret
      exact ⟨by simp [*, z_eq], (Below.refl _ _).alloc (Nat.le_refl _) _⟩
  by_cases k2 : k = 2
  · subst k2
    rw [if_neg (by decide), if_pos (by decide)]
    clear k1
    go_enter Tryd.func24, Tryd.ntmps24
    go_wp2_with fail
    all_goals
      go_ret
      exact ⟨by simp [*, z_eq], (Below.refl _ _).alloc (Nat.le_refl _) _⟩
  by_cases k4 : k = 4
  · subst k4
    rw [if_neg (by decide), if_pos (by decide)]
    clear k1 k2
    go_enter Tryd.func24, Tryd.ntmps24
    go_wp2_with fail
    all_goals
      go_ret
      exact ⟨by simp [*, z_eq], (Below.refl _ _).alloc (Nat.le_refl _) _⟩
  by_cases k3 : k = 3
  · subst k3
    rw [if_neg (by decide), if_neg (by decide), if_pos rfl]
    clear k1 k2 k4
    go_enter Tryd.func24, Tryd.ntmps24
    go_wp2_with fail
    all_goals
      go_ret
      exact ⟨by simp [*, z_eq], (Below.refl _ _).alloc (Nat.le_refl _) _⟩
  · rw [if_neg k1, if_neg (by omega), if_neg k3]
    have f1 : (k == 1) = false := by simpa using k1
    have f2 : (k == 2) = false := by simpa using k2
    have f3 : (k == 3) = false := by simpa using k3
    have f4 : (k == 4) = false := by simpa using k4
    clear k1 k2 k3 k4
    go_enter Tryd.func24, Tryd.ntmps24
    go_wp2_with fail
    all_goals
      go_ret
      exact ⟨by simp [*], (Below.refl _ _).alloc (Nat.le_refl _) _⟩
theorem ntB_ok (n : Nt) (h1 : ¬ 4611686018427387903 < n.i) (h2 : ¬ 4611686018427387903 < n.t) (h3 : ¬ 4611686018427387903 < n.v) (h4 : ¬ 4096 < n.d.size) : ntB n.k n.i n.t n.v n.d = true ↔ n.ok := by
  obtain ⟨k, i, t, v, d⟩ := n
  simp only at h1 h2 h3 h4
  unfold ntB Nt.ok
  simp only
  constructor
  · intro h
    refine ⟨by omega, by omega, by omega, by omega, ?_⟩
    split at h
    · simp at h; exact .inl ⟨by assumption, h.1, by rw [h.2]; rfl⟩
    split at h
    · simp at h; exact .inr (.inl ⟨by assumption, h⟩)
    split at h
    · simp at h; exact .inr (.inr ⟨by assumption, h.1.1, h.1.2, by rw [h.2]; rfl⟩)
    · cases h
  · rintro ⟨_, _, _, _, ⟨rfl, rfl, h⟩ | ⟨rfl | rfl, rfl⟩ | ⟨rfl, rfl, rfl, h⟩⟩ <;> simp [*]
/-- NoteMay, for every note: true just where the note may be. -/
def okB (n : Nt) : Bool := if 4611686018427387903 < n.i ∨ 4611686018427387903 < n.t ∨ 4611686018427387903 < n.v ∨ 4096 < n.d.size then false else ntB n.k n.i n.t n.v n.d
theorem okB_ok (n : Nt) : okB n = true ↔ n.ok := by
  unfold okB
  split
  · rename_i h
    constructor
    · intro h; cases h
    · rintro ⟨a, b, c, d, _⟩; exfalso; rcases h with h | h | h | h <;> omega
  · rename_i h
    exact ntB_ok n (fun a => h (.inl a)) (fun a => h (.inr (.inl a))) (fun a => h (.inr (.inr (.inl a)))) (fun a => h (.inr (.inr (.inr a))))
theorem refMay_any (k : Int) (i t v : Nat) (d : ByteArray) (w : World) (hd : d.size ≤ maxLen) :
    Calls Tryd.prog 24 #[.agg #[.int .i64 k, .int .u64 i, .int .u64 t, .int .u64 v, .string d]] w fun e w' => e = .returned (.bool (okB ⟨k, i, t, v, d⟩)) ∧ Below w.heap.size w w' := by
  unfold okB
  split
  · exact refMay_no k i t v d w hd (by assumption)
  · rename_i h
    exact refMay_yes k i t v d w (fun a => h (.inl a)) (fun a => h (.inr (.inl a))) (fun a => h (.inr (.inr (.inl a)))) (fun a => h (.inr (.inr (.inr a))))
end Go.Proofs.YtjbhnkigbobhiaaDoor
