/- Whether a coordinator is right: the program's. -/
import Derived.Test.YtohhkacnjhgamaaPe
import Derived.Test.YtohhkacnjhgamaaPf
import Derived.Test.YtohhkacnjhgamaaPg
namespace Go.Proofs.Ytohhkacnjhgamaa
open Go.RowKit Go.Maps

set_option maxRecDepth 100000 in
set_option maxHeartbeats 4000000 in
theorem wrong_any (y : DlM) (hl : y.x.parts.length ≤ 140737488351232) (w : World) (hP : Nus w y.a y.x.parts) :
    Calls Try.prog 20 #[dlV y] w fun e w' => e = .returned (.bool (!dlOk y.x)) ∧ Below w.heap.size w w' := by
  obtain ⟨⟨⟨ta, ti⟩, p, st⟩, a, c⟩ := y
  simp only at hl hP
  obtain ⟨n, hn⟩ : ∃ n, p.length = n := ⟨_, rfl⟩
  show Calls Try.prog 20 #[.agg #[.int .u64 (ta : Nat), .int .u64 (ti : Nat), .slice a p.length c, .int .i64 st]] w _
  rw [hn] at hl ⊢
  obtain ⟨W, hW⟩ : ∃ W, w.alloc (.cells #[.int .u64 (ta : Nat), .int .u64 (ti : Nat), .slice a n c, .int .i64 st] 31) = W := ⟨_, rfl⟩
  obtain ⟨x1, hx1⟩ : ∃ x, w.heap.size = x := ⟨_, rfl⟩
  have hX : Below w.heap.size w W ∧ W.cell? ⟨x1, 2, none⟩ = some (.slice a n c) ∧ W.cell? ⟨x1, 3, none⟩ = some (.int .i64 st) ∧ x1 < W.heap.size := by
    rw [← hW, ← hx1]
    exact ⟨by go_grown, by simp [go_sem], by simp [go_sem], by simp⟩
  obtain ⟨hB, c2, c3, hlt⟩ := hX
  have HC := Lib.hid (valid_any n c a p hn hl W (hP.later hB))
  have HB := Lib.hid (show Below x1 w W from hx1 ▸ hB)
  have HCC := Lib.hid (And.intro hlt (And.intro c2 c3))
  have HW := Lib.hid hW
  have HX1 := Lib.hid hx1
  obtain ⟨mb, hmb⟩ : ∃ m, mayC p = m := ⟨_, rfl⟩
  obtain ⟨v, hv⟩ : ∃ v, dlOk ⟨⟨ta, ti⟩, p, st⟩ = v := ⟨_, rfl⟩
  rw [hv]
  have HV := Lib.hid (show v = (decide (0 ≤ st ∧ st ≤ 2) && (mb || (decide (n = 0) && decide (st = 2)))) from by rw [← hv, ← hmb, ← hn]; rfl)
  rw [hmb] at HC
  clear hB hW hx1 hmb hv hn hP hlt
  by_cases s1 : st < 0
  · obtain rfl : v = false := by rw [HV.out, decide_eq_false (by omega)]; rfl
    have s1' : decide (st < 0) = true := decide_eq_true s1
    go_enter Try.func20, Try.ntmps20
    go_wp2_with fail
    rw [HW.out, HX1.out]
    go_wp2_with fail
    go_ret
    exact ⟨by first | rfl | simp, HB.out⟩
  have s1' : decide (st < 0) = false := decide_eq_false s1
  by_cases s2 : 2 < st
  · obtain rfl : v = false := by rw [HV.out, decide_eq_false (by omega)]; rfl
    have s2' : decide (2 < st) = true := decide_eq_true s2
    go_enter Try.func20, Try.ntmps20
    go_wp2_with fail
    rw [HW.out, HX1.out]
    go_wp2_with fail
    go_ret
    exact ⟨by first | rfl | simp, HB.out⟩
  have s2' : decide (2 < st) = false := decide_eq_false s2
  have HV2 := Lib.hid (show v = (mb || (decide (n = 0) && decide (st = 2))) from by rw [HV.out, decide_eq_true (show 0 ≤ st ∧ st ≤ 2 by omega), Bool.true_and])
  go_enter Try.func20, Try.ntmps20
  go_wp2_with fail
  rw [HW.out, HX1.out]
  go_wp2_with fail
  refine HC.out.mono ?_
  rintro e w2 ⟨rfl, hb2⟩
  have d2 := (hb2.cell (p := ⟨x1, 2, none⟩) HCC.out.1).trans HCC.out.2.1
  have d3 := (hb2.cell (p := ⟨x1, 3, none⟩) HCC.out.1).trans HCC.out.2.2
  have HB2 := Lib.hid (show Below w.heap.size w w2 from by rw [HX1.out]; exact HB.out.trans (hb2.mono (by have := HB.out.size; have := HX1.out; omega)))
  clear hb2 c2 c3
  cases mb
  case true =>
    obtain rfl : v = true := by rw [HV2.out]; rfl
    go_wp2_with fail
    go_ret
    exact ⟨by first | rfl | simp, HB2.out⟩
  by_cases l0 : 0 < n
  · obtain rfl : v = false := by rw [HV2.out, decide_eq_false (show ¬ n = 0 by omega)]; rfl
    have l1 : decide (0 < n) = true := decide_eq_true l0
    have l2 : decide ((0 : Int) < (n : Int)) = true := decide_eq_true (by omega)
    go_wp2_with fail
    go_ret
    exact ⟨by first | rfl | simp, HB2.out⟩
  obtain rfl : n = 0 := by omega
  by_cases s3 : st = 2
  · subst s3
    obtain rfl : v = true := by rw [HV2.out]; rfl
    go_wp2_with fail
    go_ret
    exact ⟨by first | rfl | simp, HB2.out⟩
  · obtain rfl : v = false := by rw [HV2.out, decide_eq_false s3]; rfl
    have s4 : (st == 2) = false := by simpa using s3
    have s5 : (st != 2) = true := by simpa using s3
    go_wp2_with fail
    go_ret
    exact ⟨by first | rfl | simp, HB2.out⟩
/-- Where the first one lies of which f is true. -/
def FsG {α : Type} (f : α → Bool) (L : List α) (k : Int) : Prop := (k = -1 ∧ ∀ x ∈ L, f x = false) ∨ ∃ (j : Nat) (x : α), k = (j : Int) ∧ L[j]? = some x ∧ f x = true ∧ ∀ i, i < j → ∀ y : α, L[i]? = some y → f y = false
/-- What a closure over deals answers. -/
def ClD (fn : Nat) (caps : Array Value) (f : Dl → Bool) : Prop := ∀ (y : DlM) (w' : World), y.x.parts.length ≤ 140737488351232 → Nus w' y.a y.x.parts → Calls Try.prog fn (#[dlV y] ++ caps) w' fun e w2 => e = .returned (.bool (f y.x)) ∧ Below w'.heap.size w' w2
set_option maxRecDepth 100000 in
set_option maxHeartbeats 2000000 in
theorem indexD_any (fn : Nat) (caps : Array Value) (f : Dl → Bool) (n c : Nat) (a : Option Addr) (L : List DlM) (hn : L.length = n) (hl : n ≤ 140737488351232) (hs : ∀ y ∈ L, y.x.parts.length ≤ 140737488351232) (w : World) (hR : ∀ (y : DlM) (w : World), (callFunc fn (#[dlV y] ++ caps)).run Try.prog w = .ok (.enter fn (#[dlV y] ++ caps)) w) (H : ClD fn caps f) (hM : Rw 4 dlC w a L) (hP : ∀ y ∈ L, Nus w y.a y.x.parts) :
    Calls Try.prog 31 #[.slice a n c, .func (.func fn) #[] caps] w fun e w' => (∃ k : Int, e = .returned (.int .i64 k) ∧ FsG (fun y : DlM => f y.x) L k) ∧ Below w.heap.size w w' := by
  have HN := Lib.hid hn
  have HM := Lib.hid hM
  have HC := Lib.hid H
  have HS := Lib.hid hs
  have HP := Lib.hid hP
  have hR2 : ∀ (ta ti : Nat) (a : Option Addr) (n c : Nat) (st : Int) (w : World), (callFunc fn (#[.agg #[.int .u64 (ta : Nat), .int .u64 (ti : Nat), .slice a n c, .int .i64 st]] ++ caps)).run Try.prog w = .ok (.enter fn (#[.agg #[.int .u64 (ta : Nat), .int .u64 (ti : Nat), .slice a n c, .int .i64 st]] ++ caps)) w := fun ta ti a n c st w => by
    have := hR ⟨⟨⟨ta, ti⟩, List.replicate n 0, st⟩, a, c⟩ w
    simpa [dlV] using this
  clear hn hM H hs hP hR
  go_enter Try.func31, Try.ntmps31
  go_wp2_with fail
  go_loopw [8] (fun u wr => ∃ k : Nat, k ≤ n ∧ u = .int .i64 k ∧ (∀ i, i < k → ∀ y : DlM, L[i]? = some y → f y.x = false) ∧ Below w.heap.size w wr) (fun u _ => n - (intOf u).toNat)
  case atStart => exact ⟨0, Nat.zero_le _, rfl, fun i hi => absurd hi (Nat.not_lt_zero _), Below.refl _ _⟩
  case round =>
    obtain ⟨k, hk, rfl, hf, B⟩ := hrel
    have HFB := Lib.hid hf
    clear hf
    by_cases hlt : k < n
    · obtain ⟨y, hy⟩ : ∃ x, L[k]? = some x := ⟨_, List.getElem?_eq_getElem (by rw [HN.out]; exact hlt)⟩
      obtain ⟨b, off, rfl, hb, p0, p1, p2, p3⟩ := Dlm.cells (HM.out.later B) hy
      have HBB := Lib.hid B
      have HY := Lib.hid hy
      have hym := List.mem_of_getElem? hy
      have HCY := Lib.hid (HC.out y wr (HS.out y hym) ((HP.out y hym).later B))
      have i0 : (0 : Int) ≤ (k : Int) := by omega
      have i1 : (k : Int) < (n : Int) := by omega
      clear hy B hym
      obtain ⟨⟨⟨ta, ti⟩, yp, ys⟩, ya, yc⟩ := y
      simp only at p0 p1 p2 p3
      go_wp2_with fail
      refine HCY.out.mono ?_
      rintro e w2 ⟨rfl, hb2⟩
      have HB3 := Lib.hid (HBB.out.trans (hb2.mono HBB.out.size))
      clear hb2
      by_cases he : f ⟨⟨ta, ti⟩, yp, ys⟩ = true
      · rw [he]
        have HT := Lib.hid (show FsG (fun y : DlM => f y.x) L k from Or.inr ⟨k, _, rfl, HY.out, he, fun i hi z hz => HFB.out i hi z hz⟩)
        clear he
        go_wp2_with fail
        go_ret
        exact ⟨⟨k, rfl, HT.out⟩, HB3.out⟩
      · have he : f ⟨⟨ta, ti⟩, yp, ys⟩ = false := by simpa using he
        rw [he]
        have HT := Lib.hid (show ∀ i, i < k + 1 → ∀ y : DlM, L[i]? = some y → f y.x = false from fun i hi y hy => by
          by_cases hik : i = k
          · subst hik; have := HY.out; rw [hy] at this; cases this; exact he
          · exact HFB.out i (by omega) y hy)
        clear he
        go_wp2_with fail
        go_roundw
        case rel => exact ⟨k + 1, by omega, by go_num, HT.out, HB3.out⟩
        case measure => simp [intOf]; omega
    · have HT := Lib.hid (show FsG (fun y : DlM => f y.x) L (-1) from Or.inl ⟨rfl, fun y hy => by
        obtain ⟨j, hj⟩ := List.mem_iff_getElem?.1 hy
        exact HFB.out j (by have := (List.getElem?_eq_some_iff.1 hj).1; have := HN.out; omega) y hj⟩)
      go_wp2_with fail
      go_ret
      exact ⟨⟨-1, rfl, HT.out⟩, B⟩
set_option maxRecDepth 100000 in
set_option maxHeartbeats 2000000 in
theorem containsD_any (n c : Nat) (a : Option Addr) (L : List DlM) (hn : L.length = n) (hl : n ≤ 140737488351232) (hs : ∀ y ∈ L, y.x.parts.length ≤ 140737488351232) (w : World) (hM : Rw 4 dlC w a L) (hP : ∀ y ∈ L, Nus w y.a y.x.parts) :
    Calls Try.prog 22 #[.slice a n c, .func (.func 20) #[] #[]] w fun e w' => e = .returned (.bool (!(L.map fun y => y.x).all dlOk)) ∧ Below w.heap.size w w' := by
  have HI := Lib.hid (indexD_any 20 #[] (fun d => !dlOk d) n c a L hn hl hs w (fun y w => by kernel_rfl) (fun y w' h1 h2 => wrong_any y h1 w' h2) hM hP)
  clear hn hs hM hP
  go_enter Try.func22, Try.ntmps22
  go_wp2_with fail
  refine HI.out.mono ?_
  rintro e w2 ⟨⟨k, rfl, hk⟩, hb2⟩
  have HB := Lib.hid hb2
  clear hb2
  rcases hk with ⟨rfl, h⟩ | ⟨j, x, rfl, h1, h2, _⟩
  · have HT := Lib.hid (show (!(L.map fun y => y.x).all dlOk) = false from by
      rw [List.all_map, Bool.not_eq_false', List.all_eq_true]
      intro y hy
      have := h y hy
      simpa using this)
    clear h
    go_wp2_with fail
    go_ret
    exact ⟨by rw [HT.out]; first | rfl | simp, HB.out⟩
  · have HT := Lib.hid (show (!(L.map fun y => y.x).all dlOk) = true from by
      rw [List.all_map, Bool.not_eq_true', List.all_eq_false]
      exact ⟨x, List.mem_of_getElem? h1, by simpa using h2⟩)
    have i0 : decide ((0 : Int) ≤ (j : Int)) = true := decide_eq_true (by omega)
    clear h1 h2
    go_wp2_with fail
    go_ret
    exact ⟨by rw [HT.out]; first | rfl | simp, HB.out⟩
end Go.Proofs.Ytohhkacnjhgamaa
