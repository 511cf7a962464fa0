/- Texts and rows as bytes: the mathematics; the document's Text, TakeText. -/
import Derived.Test.YtifdgjmbecilhaaDoorUh
import Derived.Test.YtifdgjmbecilhaaDoorRnum
import Derived.Test.YtifdgjmbecilhaaDoorRtake
import Derived.Test.YtifdgjmbecilhaaDoorBf
namespace Go.Proofs.YtifdgjmbecilhaaDoor
open Go.RowKit

theorem tk_less (s : List UInt8) : (tkNum s).2.1.length ≤ s.length := by
  cases s with
  | nil => exact Nat.le_refl _
  | cons c r =>
    simp only [tkNum]
    by_cases h1 : r.length + 1 < tkLen c
    · rw [if_pos h1]; simp
    · rw [if_neg h1]
      by_cases h2 : szOf (tkVal (c.toNat % 64) (r.take (tkLen c - 1))) = tkLen c
      · rw [if_pos h2]; simp; omega
      · rw [if_neg h2]; simp
theorem mk_app (A B : List UInt8) : (⟨A.toArray⟩ : ByteArray) ++ ⟨B.toArray⟩ = ⟨(A ++ B).toArray⟩ := by
  apply ByteArray.ext; simp [ByteArray.data_append]
theorem sz_arr (L : List UInt8) : (ByteArray.mk L.toArray).size = L.length := by simp [ByteArray.size]
theorem ba_eta (s : ByteArray) : (⟨s.data.toList.toArray⟩ : ByteArray) = s := by cases s; simp
theorem extract_head {s : ByteArray} {l : List UInt8} (h : s.data.toList = l) (n : Nat) : s.extract 0 n = ⟨(l.take n).toArray⟩ := by
  subst h; apply ByteArray.ext
  apply Array.toList_inj.1
  rw [ByteArray.data_extract, Array.toList_extract]
  simp only [List.extract_eq_take_drop]
  simp
/-- A text that begins bytes. -/
def txG (s : List UInt8) : Option (List UInt8 × List UInt8) :=
  if (tkNum s).2.2 ≠ 0 ∨ 4096 < (tkNum s).1 ∨ (tkNum s).2.1.length < (tkNum s).1 then none else some ((tkNum s).2.1.take (tkNum s).1, (tkNum s).2.1.drop (tkNum s).1)
def TtP (s : List UInt8) (w : World) (e : Ending) (w' : World) : Prop := (∃ (b r : List UInt8) (k : Nat), e = .returned (.tuple #[.string ⟨b.toArray⟩, .string ⟨r.toArray⟩, .int .i64 k]) ∧ (k = 0 → txG s = some (b, r)) ∧ (k ≠ 0 → txG s = none) ∧ b.length ≤ s.length ∧ r.length ≤ s.length) ∧ Below w.heap.size w w'
theorem ttP_no {s : List UInt8} {w w' : World} {k : Nat} {K : Int} (hk : K = k) (h0 : k ≠ 0) (h : txG s = none) (hb : Below w.heap.size w w') : TtP s w (.returned (.tuple #[.string ⟨#[]⟩, .string ⟨#[]⟩, .int .i64 K])) w' := by
  subst hk
  exact ⟨⟨[], [], k, rfl, fun h1 => absurd h1 h0, fun _ => h, by simp, by simp⟩, hb⟩
set_option maxRecDepth 100000 in
set_option maxHeartbeats 4000000 in
theorem rTakeText_any (s : List UInt8) (hs : s.length ≤ 140737488355328) (w : World) : Calls Tryd.prog 44 #[.string ⟨s.toArray⟩] w (TtP s w) := by
  obtain ⟨v, q, x, hx⟩ : ∃ v q x, tkNum s = (v, q, x) := ⟨_, _, _, rfl⟩
  have HX := Lib.hid hx
  have hq : q.length ≤ s.length := by have := tk_less s; rw [hx] at this; exact this
  have htx : txG s = if x ≠ 0 ∨ 4096 < v ∨ q.length < v then none else some (q.take v, q.drop v) := by unfold txG; rw [hx]
  have HTX := Lib.hid htx
  have hsz : (ByteArray.mk q.toArray).size = q.length := size_mk q
  clear hx htx
  go_enter Tryd.func44, Tryd.ntmps44
  go_wp2_with fail
  refine (refTake_any ⟨s.toArray⟩ _).mono ?_
  rintro e w1 ⟨rfl, k, rfl⟩
  unfold tkOut
  rw [show (ByteArray.mk s.toArray).data.toList = s from rfl, HX.out]
  have B1 : Below w.heap.size w (w.drewN k) := below_drewN (Below.refl _ _) _
  by_cases h0 : x = 0
  case neg =>
    have g : ((x : Int) == 0) = false := by simp; omega
    have HF := Lib.hid (show txG s = none by rw [HTX.out, if_pos (.inl h0)])
    go_wp2_with fail
    go_ret3
    exact ttP_no rfl h0 HF.out B1
  subst h0
  by_cases h1 : 4096 < v
  · have g : (4096 : Int) < (v : Int) := by omega
    have HF := Lib.hid (show txG s = none by rw [HTX.out, if_pos (.inr (.inl h1))])
    go_wp2_with fail
    go_ret3
    exact ttP_no (k := 4) rfl (by decide) HF.out B1
  have g1 : ¬ (4096 : Int) < (v : Int) := by omega
  by_cases h2 : q.length < v
  · have g : (q.length : Int) < (v : Int) := by omega
    have HF := Lib.hid (show txG s = none by rw [HTX.out, if_pos (.inr (.inr h2))])
    go_wp2_with fail
    go_ret3
    exact ttP_no (k := 2) rfl (by decide) HF.out B1
  · have g : ¬ (q.length : Int) < (v : Int) := by omega
    have HF := Lib.hid (show txG s = some (q.take v, q.drop v) by rw [HTX.out, if_neg (by omega)])
    have e1 := extract_head (s := ⟨q.toArray⟩) (l := q) rfl v
    have e2 := extract_drop (s := ⟨q.toArray⟩) (l := q) rfl v
    rw [hsz] at e2
    have i1 : (0 : Int) ≤ (v : Int) := by omega
    have i2 : (v : Int) ≤ (q.length : Int) := by omega
    have E1 := Lib.hid e1
    have E2 := Lib.hid e2
    go_wp2_with fail
    go_quiet (fail)
    go_wp2_with fail
    go_ret3
    refine ⟨⟨q.take v, q.drop v, 0, ?_, fun _ => HF.out, fun h => absurd rfl h, by rw [List.length_take]; omega, by rw [List.length_drop]; omega⟩, below_drewN B1 _⟩
    first | rfl | (simp [E1.out, E2.out])
/-- A text's bytes. -/
def txB (s : ByteArray) : List UInt8 := numB s.size ++ s.data.toList
set_option maxRecDepth 100000 in
set_option maxHeartbeats 4000000 in
theorem rText_any (s : ByteArray) (hL : s.size ≤ 4096) (w : World) :
    Calls Tryd.prog 40 #[.string s] w fun e w' => e = .returned (.tuple #[.string ⟨(txB s).toArray⟩, .int .i64 0]) ∧ Below w.heap.size w w' := by
  have hN := numB_le s.size
  have hsn := sz_arr (numB s.size)
  have g1 : ¬ (4096 : Int) < (s.size : Int) := by omega
  have w1 : IntKind.u64.wrap (s.size : Int) = (s.size : Int) := IntWalk.u64_in _ (by omega)
  have hcc : ¬ 9223372036854775807 < (numB s.size).length + s.size := by omega
  have HNU := Lib.hid (show ∀ w1, Calls Tryd.prog 39 #[.int .u64 (s.size : Int)] w1 fun e w' => e = .returned (.tuple #[.string ⟨(numB s.size).toArray⟩, .int .i64 0]) ∧ Below w1.heap.size w1 w' from fun w1 => by
    have h := refNum_any (s.size : Int) w1 (by omega) (by omega)
    rw [Int.toNat_natCast] at h; exact h)
  have HE := Lib.hid (show (⟨(numB s.size).toArray⟩ : ByteArray) ++ s = ⟨(txB s).toArray⟩ by unfold txB; rw [← mk_app, ba_eta])
  clear hsn hN
  go_enter Tryd.func40, Tryd.ntmps40
  go_wp2_with fail
  refine (HNU.out _).mono ?_
  rintro e w1 ⟨rfl, hb1⟩
  go_wp2_with fail
  go_ret2
  exact ⟨retStrI HE.out, hb1⟩
/-- Rows' bytes. -/
def roB (x : Ro) : List UInt8 := txB x.key ++ txB x.val ++ numB x.ver
def rosB (L : List Ro) : List UInt8 := L.flatMap roB
def rowsB (L : List Ro) : List UInt8 := numB L.length ++ rosB L
/-- A row that begins bytes. -/
def tkRow (s : List UInt8) : Option (Ro × List UInt8) := match txG s with
  | none => none
  | some (k, a) => match txG a with
    | none => none
    | some (v, b) => if (tkNum b).2.2 = 0 then some (⟨⟨k.toArray⟩, ⟨v.toArray⟩, (tkNum b).1⟩, (tkNum b).2.1) else none
def tkRows : Nat → List UInt8 → Option (List Ro × List UInt8)
  | 0, s => some ([], s)
  | n + 1, s => match tkRow s with
    | none => none
    | some (x, r) => match tkRows n r with
      | none => none
      | some (l, q) => some (x :: l, q)
/-- What Take answers. -/
def takeR (s : List UInt8) : List Ro × List UInt8 × Nat :=
  if (tkNum s).2.2 ≠ 0 ∨ 32 < (tkNum s).1 then ([], [], 3) else match tkRows (tkNum s).1 (tkNum s).2.1 with
    | none => ([], [], 3)
    | some (l, q) => if rightB l then (l, q, 0) else ([], [], 3)
/-- Rows that were taken, ahead of others. -/
def aheadR (l : List Ro) (t : Option (List Ro × List UInt8)) : Option (List Ro × List UInt8) := match t with
  | none => none
  | some (m, q) => some (l ++ m, q)
theorem ahead_nil (t : Option (List Ro × List UInt8)) : aheadR [] t = t := by unfold aheadR; rcases t with _ | ⟨m, q⟩ <;> rfl
theorem ahead_step {l : List Ro} {n : Nat} {s r : List UInt8} {x : Ro} (h : tkRow s = some (x, r)) : aheadR l (tkRows (n + 1) s) = aheadR (l ++ [x]) (tkRows n r) := by
  simp only [tkRows, h]
  rcases tkRows n r with _ | ⟨m, q⟩
  · rfl
  · simp [aheadR]
theorem ahead_no {l : List Ro} {n : Nat} {s : List UInt8} (h : tkRow s = none) : aheadR l (tkRows (n + 1) s) = none := by
  simp only [tkRows, h]; rfl
end Go.Proofs.YtifdgjmbecilhaaDoor
