/- Marks: Mark and Set: the program's and the document's. -/
import Derived.Test.YtoabpakichjieaaGe
namespace Go.Proofs.Ytoabpakichjieaa
open Go.RowKit

/-- The place of the first mark of a node. -/
def PlP (id : Nat) (L : List Mk) (k : Int) : Prop := (k = -1 ∧ ∀ (j : Nat) (y : Mk), L[j]? = some y → y.id ≠ id) ∨ ∃ (j : Nat) (x : Mk), k = (j : Int) ∧ L[j]? = some x ∧ x.id = id ∧ ∀ i, i < j → ∀ y : Mk, L[i]? = some y → y.id ≠ id
/-- A list of marks with a node's number set. -/
def setN (id v : Nat) : List Mk → List Mk
  | [] => [⟨id, v⟩]
  | x :: r => if x.id = id then ⟨id, v⟩ :: r else x :: setN id v r
theorem marks_no {id : Nat} : ∀ {L : List Mk}, (∀ (j : Nat) (y : Mk), L[j]? = some y → y.id ≠ id) → markN id L = (0, false) ∧ ∀ v, setN id v L = L ++ [⟨id, v⟩]
  | [], _ => ⟨rfl, fun _ => rfl⟩
  | x :: r, h => by
    obtain ⟨h1, h2⟩ := marks_no (L := r) (id := id) fun j y hy => h (j + 1) y (by simpa using hy)
    have h0 : x.id ≠ id := h 0 x (by simp)
    exact ⟨by rw [markN, if_neg h0]; exact h1, fun v => by rw [setN, if_neg h0, h2 v]; rfl⟩
theorem marks_yes {id : Nat} : ∀ {j : Nat} {L : List Mk} {x : Mk}, L[j]? = some x → x.id = id → (∀ i, i < j → ∀ y : Mk, L[i]? = some y → y.id ≠ id) → markN id L = (x.n, true) ∧ ∀ v, setN id v L = L.set j ⟨id, v⟩
  | _, [], _, h, _, _ => by simp at h
  | 0, y :: r, x, h, h1, _ => by
    obtain rfl : y = x := by simpa using h
    exact ⟨by rw [markN, if_pos h1], fun v => by rw [setN, if_pos h1]; rfl⟩
  | j + 1, y :: r, x, h, h1, h2 => by
    obtain ⟨h3, h4⟩ := marks_yes (j := j) (L := r) (x := x) (by simpa using h) h1 fun i hi z hz => h2 (i + 1) (by omega) z (by simpa using hz)
    have h0 : y.id ≠ id := h2 0 (by omega) y (by simp)
    exact ⟨by rw [markN, if_neg h0]; exact h3, fun v => by rw [setN, if_neg h0, h4 v]; rfl⟩
set_option maxHeartbeats 1000000 in
theorem place1_any (i n h id : Nat) (w : World) (H : Nb w h id) :
    Calls Try.prog 56 #[.agg #[.int .u64 i, .int .u64 n], .pointer (some ⟨h, 0, none⟩)] w fun e w' => e = .returned (.bool (decide (i = id))) ∧ Below w.heap.size w w' := by
  have H1 := H.later (w' := w.alloc (.cells #[.int .u64 i, .int .u64 n] 42)) ((Below.refl _ _).alloc (Nat.le_refl _) _)
  have B1 := Lib.hid (show Below w.heap.size w (w.alloc (.cells #[.int .u64 i, .int .u64 n] 42)) from (Below.refl _ _).alloc (Nat.le_refl _) _)
  obtain ⟨c, fz, lt⟩ := H1
  clear H
  by_cases he : i = id
  · subst he
    go_enter Try.func56, Try.ntmps56
    go_wp2_with fail
    go_ret
    exact ⟨by simp, B1.out⟩
  · have g : ((i : Int) == (id : Int)) = false := by simp; omega
    go_enter Try.func56, Try.ntmps56
    go_wp2_with fail
    go_ret
    exact ⟨by simp [he], B1.out⟩
/-- What the search answers. -/
def IxP (w : World) (id : Nat) (L : List Mk) (e : Ending) (w' : World) : Prop := ∃ k : Int, e = .returned (.int .i64 k) ∧ PlP id L k ∧ Below w.heap.size w w'
set_option maxHeartbeats 1000000 in
theorem indexM_any (h id n c : Nat) (a : Option Addr) (L : List Mk) (hn : L.length = n) (hl : n ≤ 140737488351232) (w : World) (H : Nb w h id) (hM : Ms w a L) :
    Calls Try.prog 55 #[.slice a n c, .func (.func 56) #[] #[.pointer (some ⟨h, 0, none⟩)]] w (IxP w id L) := by
  have HN := Lib.hid hn
  have HM := Lib.hid hM
  have HH := Lib.hid H
  have HW := Lib.hid (Below.refl w.heap.size w)
  clear hn hM H
  go_enter Try.func55, Try.ntmps55
  go_wp2_with fail
  go_loopw [8] (fun u wr => ∃ k : Nat, k ≤ n ∧ u = .int .i64 k ∧ (∀ i, i < k → ∀ y : Mk, L[i]? = some y → y.id ≠ id) ∧ Below w.heap.size w wr) (fun u _ => n - (intOf u).toNat)
  case atStart => exact ⟨0, Nat.zero_le _, rfl, fun i hi => absurd hi (Nat.not_lt_zero _), HW.out⟩
  case round =>
    obtain ⟨k, hk, rfl, hf, B⟩ := hrel
    have HFB := Lib.hid hf
    clear hf
    by_cases hlt : k < n
    · obtain ⟨x, hx⟩ : ∃ x, L[k]? = some x := ⟨_, List.getElem?_eq_getElem (by rw [HN.out]; exact hlt)⟩
      obtain ⟨b, off, rfl, hb, p0, p1⟩ := HM.out.later B k x hx
      have HNB := Lib.hid (HH.out.later B)
      have HBB := Lib.hid B
      have HX := Lib.hid hx
      have i0 : (0 : Int) ≤ (k : Int) := by omega
      have i1 : (k : Int) < (n : Int) := by omega
      clear hx B
      go_wp2_with fail
      refine (place1_any x.id x.n h id _ HNB.out).mono ?_
      rintro e w2 ⟨rfl, hb2⟩
      have B3 := HBB.out.trans (hb2.mono HBB.out.size)
      have HB3 := Lib.hid B3
      clear hb2 B3
      by_cases he : x.id = id
      · rw [decide_eq_true he]
        have HT := Lib.hid (show PlP id L k from Or.inr ⟨k, x, rfl, HX.out, he, HFB.out⟩)
        clear he
        go_wp2_with fail
        go_ret
        exact ⟨k, rfl, HT.out, HB3.out⟩
      · rw [decide_eq_false he]
        have HT := Lib.hid (show ∀ i, i < k + 1 → ∀ y : Mk, L[i]? = some y → y.id ≠ id from fun i hi y hy => by
          by_cases hik : i = k
          · subst hik; have := HX.out; rw [hy] at this; cases this; exact he
          · exact HFB.out i (by omega) y hy)
        clear he
        go_wp2_with fail
        go_roundw
        case rel => exact ⟨k + 1, by omega, by go_num, HT.out, HB3.out⟩
        case measure => simp [intOf]; omega
    · have HT := Lib.hid (show PlP id L (-1) from Or.inl ⟨rfl, fun j y hy => HFB.out j (by have := (List.getElem?_eq_some_iff.1 hy).1; have := HN.out; omega) y hy⟩)
      go_wp2_with fail
      go_ret
      exact ⟨-1, rfl, HT.out, B⟩
set_option maxHeartbeats 1000000 in
theorem place_any (id n c : Nat) (a : Option Addr) (L : List Mk) (hn : L.length = n) (hl : n ≤ 140737488351232) (w : World) (hM : Ms w a L) :
    Calls Try.prog 44 #[.slice a n c, .int .u64 id] w (IxP w id L) := by
  have B1 := Lib.hid (show Below w.heap.size w (w.alloc (.cells #[.int .u64 id] 22)) from (Below.refl _ _).alloc (Nat.le_refl _) _)
  have HN := Lib.hid (Nb.new (w := w) rfl id 22)
  have HM := Lib.hid (hM.later B1.out)
  clear hM
  go_enter Try.func44, Try.ntmps44
  go_wp2_with fail
  refine (indexM_any w.heap.size id n c a L hn hl _ HN.out HM.out).mono ?_
  rintro e w2 ⟨k, rfl, hk, hb2⟩
  have HK := Lib.hid hk
  have HB := Lib.hid (B1.out.trans (hb2.mono B1.out.size))
  clear hk hb2
  go_wp2_with fail
  go_ret
  exact ⟨k, rfl, HK.out, HB.out⟩
set_option maxHeartbeats 1000000 in
theorem pMark_any (id n c : Nat) (a : Option Addr) (L : List Mk) (hn : L.length = n) (hl : n ≤ 140737488351232) (w : World) (hM : Ms w a L) :
    Calls Try.prog 38 #[.slice a n c, .int .u64 id] w fun e w' => e = .returned (.tuple #[.int .u64 ((markN id L).1 : Nat), .bool (markN id L).2]) ∧ Below w.heap.size w w' := by
  have HN := Lib.hid hn
  have HM := Lib.hid hM
  clear hn hM
  obtain ⟨p, hp⟩ : ∃ p, markN id L = p := ⟨_, rfl⟩
  rw [hp]
  have HP := Lib.hid hp
  clear hp
  go_enter Try.func38, Try.ntmps38
  go_wp2_with fail
  refine (place_any id n c a L HN.out hl _ HM.out).mono ?_
  rintro e w2 ⟨k, rfl, hk, hb2⟩
  have HB := Lib.hid hb2
  rcases hk with ⟨rfl, hno⟩ | ⟨j, x, rfl, hx, he, hno⟩
  · obtain ⟨h1, _⟩ := marks_no hno
    obtain rfl : p = (0, false) := by rw [← HP.out, h1]
    clear h1 hno hb2
    go_wp2_with fail
    go_ret2
    exact ⟨rfl, HB.out⟩
  · obtain ⟨h1, _⟩ := marks_yes hx he hno
    obtain rfl : p = (x.n, true) := by rw [← HP.out, h1]
    have hj : j < n := by have := (List.getElem?_eq_some_iff.1 hx).1; have := HN.out; omega
    obtain ⟨b, off, rfl, hb, p0, p1⟩ := HM.out.later hb2 j x hx
    have i0 : (0 : Int) ≤ (j : Int) := by omega
    have i1 : (j : Int) < (n : Int) := by omega
    clear h1 hno hb2 hx he
    go_wp2_with fail
    go_ret2
    exact ⟨rfl, HB.out⟩
set_option maxHeartbeats 1000000 in
theorem rMark_any (id n c : Nat) (a : Option Addr) (L : List Mk) (hn : L.length = n) (hl : n ≤ 140737488351232) (w : World) (hM : Ms w a L) :
    Calls Try.prog 49 #[.slice a n c, .int .u64 id] w fun e w' => e = .returned (.tuple #[.int .u64 ((markN id L).1 : Nat), .bool (markN id L).2]) ∧ w = w' := by
  have HN := Lib.hid hn
  have HM := Lib.hid hM
  clear hn hM
  obtain ⟨p, hp⟩ : ∃ p, markN id L = p := ⟨_, rfl⟩
  rw [hp]
  have HP := Lib.hid hp
  clear hp
  go_enter Try.func49, Try.ntmps49
  go_wp2_with fail
  go_loop [6] (fun u => ∃ k : Nat, k ≤ n ∧ u = .int .i64 k ∧ (∀ i, i < k → ∀ y : Mk, L[i]? = some y → y.id ≠ id)) (fun u => n - (intOf u).toNat)
  case atStart => exact ⟨0, Nat.zero_le _, rfl, fun i hi => absurd hi (Nat.not_lt_zero _)⟩
  case round =>
    obtain ⟨k, hk, rfl, hf⟩ := hrel
    have HFB := Lib.hid hf
    clear hf
    by_cases hlt : k < n
    · obtain ⟨x, hx⟩ : ∃ x, L[k]? = some x := ⟨_, List.getElem?_eq_getElem (by rw [HN.out]; exact hlt)⟩
      obtain ⟨b, off, rfl, hb, p0, p1⟩ := HM.out k x hx
      have i0 : (0 : Int) ≤ (k : Int) := by omega
      have i1 : (k : Int) < (n : Int) := by omega
      have HX := Lib.hid hx
      clear hx
      obtain ⟨xi, xn⟩ := x
      simp only at p0 p1
      by_cases he : xi = id
      · subst he
        obtain rfl : p = (xn, true) := by rw [← HP.out, (marks_yes HX.out rfl HFB.out).1]
        go_wp2_with fail
        go_ret2
        exact ⟨rfl, rfl⟩
      · have g : ((xi : Int) == (id : Int)) = false := by simp; omega
        have HT := Lib.hid (show ∀ i, i < k + 1 → ∀ y : Mk, L[i]? = some y → y.id ≠ id from fun i hi y hy => by
          by_cases hik : i = k
          · subst hik; have := HX.out; rw [hy] at this; cases this; exact he
          · exact HFB.out i (by omega) y hy)
        clear he
        go_wp2_with fail
        go_round
        case rel => exact ⟨k + 1, by omega, by go_num, HT.out⟩
        case measure => simp [intOf]; omega
    · obtain rfl : p = (0, false) := by rw [← HP.out, (marks_no fun j y hy => HFB.out j (by have := (List.getElem?_eq_some_iff.1 hy).1; have := HN.out; omega) y hy).1]
      go_wp2_with fail
      go_ret2
      exact ⟨rfl, rfl⟩
end Go.Proofs.Ytoabpakichjieaa
