/- slices.BinarySearch at numbers. -/
import Derived.Test.YtmnakfonfpdneaaDoorGx
namespace Go.Proofs.YtmnakfonfpdneaaDoor
open Go.RowKit

/-- A list that does not fall. -/
def Asc (L : List Nat) : Prop := ∀ i j x y : Nat, i ≤ j → L[i]? = some x → L[j]? = some y → x ≤ y
set_option maxHeartbeats 1000000 in
theorem less_any (x y : Nat) (w : World) : Calls Tryd.prog 75 #[.int .u64 x, .int .u64 y] w fun e w' => e = .returned (.bool (decide (x < y))) ∧ w = w' := by
  by_cases h1 : x < y
  · have g1 : (x : Int) < (y : Int) := by omega
    rw [decide_eq_true h1]
    go_enter Tryd.func75, Tryd.ntmps75
    go_wp2_with fail
    refine (isNaN_any x _).mono ?_
    rintro e w2 ⟨rfl, rfl⟩
    go_wp2_with fail
    go_ret
    exact ⟨by simp, rfl⟩
  · have g1 : ¬ (x : Int) < (y : Int) := by omega
    rw [decide_eq_false h1]
    go_enter Tryd.func75, Tryd.ntmps75
    go_wp2_with fail
    refine (isNaN_any x _).mono ?_
    rintro e w2 ⟨rfl, rfl⟩
    go_wp2_with fail
    go_ret
    exact ⟨by simp, rfl⟩
theorem sisNaN_any (x : Nat) (w : World) : Calls Tryd.prog 76 #[.int .u64 x] w fun e w' => e = .returned (.bool false) ∧ w = w' := by
  go_enter Tryd.func76, Tryd.ntmps76
  go_wp2_with fail
  go_ret
  exact ⟨by simp, rfl⟩
/-- What the search answers. -/
def BsP (w : World) (v : Nat) (L : List Nat) (e : Ending) (w' : World) : Prop := ∃ (p : Nat) (b : Bool), e = .returned (.tuple #[.int .i64 p, .bool b]) ∧ p ≤ L.length ∧ (∀ j x : Nat, j < p → L[j]? = some x → x < v) ∧ (∀ j x : Nat, p ≤ j → L[j]? = some x → v ≤ x) ∧ w = w'
set_option maxHeartbeats 4000000 in
theorem search_any (v n c : Nat) (a : Option Addr) (L : List Nat) (hn : L.length = n) (hl : n ≤ 140737488351232) (hs : Asc L) (w : World) (hU : Us w a L) :
    Calls Tryd.prog 64 #[.slice a n c, .int .u64 v] w (BsP w v L) := by
  have HN := Lib.hid hn
  have HU := Lib.hid hU
  have HS := Lib.hid hs
  clear hn hU hs
  go_enter Tryd.func64, Tryd.ntmps64
  go_wp2_with fail
  go_loop [7, 8, 9] (fun i j _ => ∃ lo hi : Nat, lo ≤ hi ∧ hi ≤ n ∧ i = .int .i64 lo ∧ j = .int .i64 hi ∧ (∀ j x : Nat, j < lo → L[j]? = some x → x < v) ∧ (∀ j x : Nat, hi ≤ j → L[j]? = some x → v ≤ x)) (fun i j _ => (intOf j).toNat - (intOf i).toNat)
  case atStart => exact ⟨0, n, Nat.zero_le _, Nat.le_refl _, rfl, rfl, fun j x hj => absurd hj (Nat.not_lt_zero _), fun j x hj hx => by have := (List.getElem?_eq_some_iff.1 hx).1; have := HN.out; omega⟩
  case round =>
    obtain ⟨lo, hi, hlh, hhn, rfl, rfl, h1, h2⟩ := hrel
    have H1 := Lib.hid h1
    have H2 := Lib.hid h2
    clear h1 h2
    by_cases hlt : lo < hi
    · obtain ⟨h, hh⟩ : ∃ h, (lo + hi) / 2 = h := ⟨_, rfl⟩
      have hhi : h < hi := by omega
      have hlo : lo ≤ h := by omega
      obtain ⟨x, hx⟩ : ∃ x, L[h]? = some x := ⟨_, List.getElem?_eq_getElem (by rw [HN.out]; omega)⟩
      obtain ⟨b, off, rfl, hb, p0⟩ := HU.out h x hx
      have i0 : (0 : Int) ≤ (h : Int) := by omega
      have i1 : (h : Int) < (n : Int) := by omega
      have HX := Lib.hid hx
      have e1 : ((lo : Int) + (hi : Int)) / 2 = (h : Int) := by omega
      clear hx hh
      go_wp2_with fail
      refine (less_any x v _).mono ?_
      rintro e w2 ⟨rfl, rfl⟩
      by_cases hxv : x < v
      · rw [decide_eq_true hxv]
        have HT := Lib.hid (show ∀ j y : Nat, j < h + 1 → L[j]? = some y → y < v from fun j y hj hy => by have := HS.out j h y x (by omega) hy HX.out; omega)
        go_wp2_with fail
        go_round
        case rel => exact ⟨h + 1, hi, by omega, by omega, by go_num, rfl, HT.out, H2.out⟩
        case measure => simp [intOf]; omega
      · rw [decide_eq_false hxv]
        have HT := Lib.hid (show ∀ j y : Nat, h ≤ j → L[j]? = some y → v ≤ y from fun j y hj hy => by have := HS.out h j x y hj HX.out hy; omega)
        go_wp2_with fail
        go_round
        case rel => exact ⟨lo, h, by omega, by omega, rfl, rfl, H1.out, HT.out⟩
        case measure => simp [intOf]; omega
    · have hle : lo = hi := by omega
      subst hle
      have HT := Lib.hid (show ∀ b, BsP w v L (.returned (.tuple #[.int .i64 lo, .bool b])) w from fun b => ⟨lo, b, rfl, by rw [HN.out]; exact hhn, H1.out, H2.out, rfl⟩)
      clear hlt
      by_cases hln : lo < n
      · obtain ⟨x, hx⟩ : ∃ x, L[lo]? = some x := ⟨_, List.getElem?_eq_getElem (by rw [HN.out]; exact hln)⟩
        obtain ⟨b, off, rfl, hb, p0⟩ := HU.out lo x hx
        have i0 : (0 : Int) ≤ (lo : Int) := by omega
        have i1 : (lo : Int) < (n : Int) := by omega
        clear hx
        by_cases hxv : x = v
        · subst hxv
          go_wp2_with fail
          go_ret2
          exact HT.out true
        · have g : ((x : Int) == (v : Int)) = false := by simp; omega
          clear hxv
          go_wp2_with fail
          refine (sisNaN_any x _).mono ?_
          rintro e w2 ⟨rfl, rfl⟩
          go_wp2_with fail
          go_ret2
          exact HT.out _
      · go_wp2_with fail
        go_ret2
        exact HT.out _
end Go.Proofs.YtmnakfonfpdneaaDoor
