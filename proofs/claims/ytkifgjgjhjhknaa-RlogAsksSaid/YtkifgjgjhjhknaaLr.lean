/- Right: the program's, with its closure. -/
import Derived.Test.YtkifgjgjhjhknaaLq
namespace Go.Proofs.Ytkifgjgjhjhknaa
open Go.RowKit

/-- Whether a term falls. -/
def fallB : Nat → List En → Bool
  | _, [] => false
  | h, x :: r => decide (x.t < h) || fallB x.t r
theorem fallB_at {h k : Nat} {L : List En} {x : En} (hx : L[k]? = some x) : fallB h (L.drop k) = (decide (x.t < h) || fallB x.t (L.drop (k + 1))) := by
  have hk := (List.getElem?_eq_some_iff.1 hx)
  obtain ⟨hk, rfl⟩ := hk
  rw [List.drop_eq_getElem_cons hk]; rfl
def rightB (g : Lg) : Bool := decide (g.base ≤ 1099511627776) && decide (g.L.length ≤ 1024) && !fallB g.bt g.L
/-- A number in a box of its own. -/
structure Nb (w : World) (h : Nat) (v : Nat) : Prop where
  c : w.cell? ⟨h, 0, none⟩ = some (.int .u64 v)
  fz : w.frozen? ⟨h, 0, none⟩ = false
  lt : h < w.heap.size
theorem Nb.later {w w' : World} {h v : Nat} (H : Nb w h v) (hb : Below w.heap.size w w') : Nb w' h v := ⟨(hb.cell (p := ⟨h, 0, none⟩) H.lt).trans H.c, (hb.frozen (p := ⟨h, 0, none⟩) H.lt).trans H.fz, Nat.lt_of_lt_of_le H.lt hb.size⟩
theorem Nb.put {w : World} {h v : Nat} (H : Nb w h v) (u : Nat) : Nb (w.setCell ⟨h, 0, none⟩ (.int .u64 u)) h u := by
  obtain ⟨c, fz, lt⟩ := H
  exact ⟨by simp [go_sem, c], by simpa using fz, by simpa using lt⟩
/-- The closure. -/
def ClP (w : World) (h t v : Nat) (e : Ending) (w' : World) : Prop := e = .returned (.bool (decide (t < v))) ∧ Nb w' h t ∧ Below h w w'
set_option maxHeartbeats 1000000 in
theorem right1_any (t v h : Nat) (d : ByteArray) (w : World) (H : Nb w h v) :
    Calls Try.prog 31 #[.agg #[.int .u64 t, .string d], .pointer (some ⟨h, 0, none⟩)] w (ClP w h t v) := by
  have H1 := H.later (w' := w.alloc (.cells #[.int .u64 t, .string d] 39)) ((Below.refl _ _).alloc (Nat.le_refl _) _)
  have B1 : Below h w (w.alloc (.cells #[.int .u64 t, .string d] 39)) := (Below.refl _ _).alloc (Nat.le_of_lt H.lt) _
  have x0 : (w.alloc (.cells #[.int .u64 t, .string d] 39)).cell? ⟨w.heap.size, 0, none⟩ = some (.int .u64 t) := by simp [go_sem]
  have hne : h ≠ w.heap.size := by have := H.lt; omega
  have hl := H.lt
  obtain ⟨c, fz, lt⟩ := H1
  have HH := Lib.hid H
  clear H
  go_enter Try.func31, Try.ntmps31
  go_wp2_with fail
  go_ret
  exact ⟨by simp, (HH.out.put t).later ((Below.refl _ _).alloc (Nat.le_refl _) _), ((Below.refl h w).setCell (Nat.le_refl _) _).alloc (by simp; omega) _⟩
/-- What IndexFunc answers. -/
def IxP (w : World) (h : Nat) (f : Bool) (e : Ending) (w' : World) : Prop := ∃ k : Int, e = .returned (.int .i64 k) ∧ (0 ≤ k ↔ f = true) ∧ Below h w w'
set_option maxHeartbeats 2000000 in
theorem index_any (v h n c : Nat) (a : Option Addr) (L : List En) (hn : L.length = n) (hl : n ≤ 140737488351232) (w : World) (H : Nb w h v) (hE : Ents w a L) (hfar : ∀ q, a = some q → 0 < n → q.block < h) :
    Calls Try.prog 37 #[.slice a n c, .func (.func 31) #[] #[.pointer (some ⟨h, 0, none⟩)]] w (IxP w h (fallB v L)) := by
  have HN := Lib.hid hn
  have HE := Lib.hid hE
  have HF := Lib.hid hfar
  clear hn hE hfar
  go_enter Try.func37, Try.ntmps37
  go_wp2_with fail
  go_loopw [8] (fun u wr => ∃ (k v2 : Nat), k ≤ n ∧ u = .int .i64 k ∧ Nb wr h v2 ∧ fallB v L = fallB v2 (L.drop k) ∧ Below h w wr) (fun u _ => n - (intOf u).toNat)
  case atStart => exact ⟨0, v, Nat.zero_le _, rfl, H, rfl, Below.refl _ _⟩
  case round =>
    obtain ⟨k, v2, hk, rfl, H2, hf, B⟩ := hrel
    have HFB := Lib.hid hf
    clear hf
    by_cases hlt : k < n
    · obtain ⟨x, hx⟩ : ∃ x, L[k]? = some x := ⟨_, List.getElem?_eq_getElem (by rw [HN.out]; exact hlt)⟩
      obtain ⟨b, off, rfl, hb, p0, p1⟩ := HE.out k x hx
      have hbh : b < h := HF.out _ rfl (by omega)
      have P0 := (B.cell (p := ⟨b, off + k * 2, none⟩) hbh).trans p0
      have P1 := (B.cell (p := ⟨b, off + k * 2 + 1, none⟩) hbh).trans p1
      have hfa := fallB_at (h := v2) hx
      have HFA := Lib.hid hfa
      have HX := Lib.hid hx
      have HH2 := Lib.hid H2
      have i0 : (0 : Int) ≤ (k : Int) := by omega
      have i1 : (k : Int) < (n : Int) := by omega
      clear hfa hx p0 p1 H2
      go_wp2_with fail
      refine (right1_any x.t v2 h x.d _ HH2.out).mono ?_
      rintro e w2 ⟨rfl, H3, hb3⟩
      have B3 := B.trans hb3
      have HH3 := Lib.hid H3
      clear hb3 H3
      by_cases hfl : x.t < v2
      · have g : decide (x.t < v2) = true := decide_eq_true hfl
        have HT := Lib.hid (show fallB v L = true by rw [HFB.out, HFA.out, g]; rfl)
        go_wp2_with fail
        go_ret
        exact ⟨k, rfl, ⟨fun _ => HT.out, fun _ => by omega⟩, B3⟩
      · have g : decide (x.t < v2) = false := decide_eq_false hfl
        have HT := Lib.hid (show fallB v L = fallB x.t (L.drop (k + 1)) by rw [HFB.out, HFA.out, g]; rfl)
        go_wp2_with fail
        go_roundw
        case rel => exact ⟨k + 1, x.t, by omega, by go_num, HH3.out, HT.out, B3⟩
        case measure => simp [intOf]; omega
    · have HT := Lib.hid (show fallB v L = false by rw [HFB.out, List.drop_eq_nil_of_le (by rw [HN.out]; omega)]; rfl)
      go_wp2_with fail
      go_ret
      exact ⟨-1, rfl, ⟨fun h => by omega, fun h => by rw [HT.out] at h; simp at h⟩, B⟩
set_option maxHeartbeats 2000000 in
theorem contains_any (v h n c : Nat) (a : Option Addr) (L : List En) (hn : L.length = n) (hl : n ≤ 140737488351232) (w : World) (H : Nb w h v) (hE : Ents w a L) (hfar : ∀ q, a = some q → 0 < n → q.block < h) :
    Calls Try.prog 32 #[.slice a n c, .func (.func 31) #[] #[.pointer (some ⟨h, 0, none⟩)]] w fun e w' => e = .returned (.bool (fallB v L)) ∧ Below h w w' := by
  go_enter Try.func32, Try.ntmps32
  go_wp2_with fail
  refine (index_any v h n c a L hn hl _ H hE hfar).mono ?_
  rintro e w2 ⟨k, rfl, hk, hb2⟩
  have HK := Lib.hid hk
  clear hk hE hfar
  go_wp2_with fail
  go_ret
  refine ⟨?_, hb2⟩
  have h := HK.out
  cases hf : fallB v L
  · rw [hf] at h; simp at h; simp; omega
  · rw [hf] at h; simp at h; simp; omega
end Go.Proofs.Ytkifgjgjhjhknaa
