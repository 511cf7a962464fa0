/- Elder, Has; the closures of Ask and Has: the program's. -/
import Derived.Test.YtfidgnhinllhlaaNa
namespace Go.Proofs.Ytfidgnhinllhlaa
open Go.RowKit

set_option maxHeartbeats 1000000 in
theorem pElder_any (a b : Tx) (w : World) : Calls Try.prog 20 #[txV a, txV b] w fun e w' => e = .returned (.bool (eldT a b)) ∧ Below w.heap.size w w' := by
  obtain ⟨a1, a2⟩ := a
  obtain ⟨b1, b2⟩ := b
  obtain ⟨r, hr⟩ : ∃ r, eldT ⟨a1, a2⟩ ⟨b1, b2⟩ = r := ⟨_, rfl⟩
  rw [hr]
  have HW := Lib.hid (show Below w.heap.size w ((w.alloc (.cells #[.int .u64 (a1 : Nat), .int .u64 (a2 : Nat)] 25)).alloc (.cells #[.int .u64 (b1 : Nat), .int .u64 (b2 : Nat)] 25)) by go_grown)
  by_cases h : a1 = b1
  · subst h
    by_cases h2 : a2 < b2
    · obtain rfl : r = true := by rw [← hr]; simp [eldT, h2]
      have g : (a2 : Int) < (b2 : Int) := by omega
      clear hr
      go_enter Try.func20, Try.ntmps20
      go_wp2_with fail
      go_ret
      exact ⟨by first | rfl | simp, HW.out⟩
    · obtain rfl : r = false := by rw [← hr]; simp [eldT, h2]
      have g : ¬ (a2 : Int) < (b2 : Int) := by omega
      clear hr
      go_enter Try.func20, Try.ntmps20
      go_wp2_with fail
      go_ret
      exact ⟨by first | rfl | simp, HW.out⟩
  · have g0 := int_ne h
    by_cases h2 : a1 < b1
    · obtain rfl : r = true := by rw [← hr]; simp [eldT, h, h2]
      have g : (a1 : Int) < (b1 : Int) := by omega
      clear hr
      go_enter Try.func20, Try.ntmps20
      go_wp2_with fail
      go_ret
      exact ⟨by first | rfl | simp, HW.out⟩
    · obtain rfl : r = false := by rw [← hr]; simp [eldT, h, h2]
      have g : ¬ (a1 : Int) < (b1 : Int) := by omega
      clear hr
      go_enter Try.func20, Try.ntmps20
      go_wp2_with fail
      go_ret
      exact ⟨by first | rfl | simp, HW.out⟩
set_option maxRecDepth 100000 in
set_option maxHeartbeats 2000000 in
theorem has1_any (x : Ho) (h1 h2 h3 : Nat) (t : Tx) (key : ByteArray) (wb : Bool) (w : World) (H1 : TxBox w h1 t) (H2 : B1 w h2 (.string key)) (H3 : B1 w h3 (.bool wb)) :
    Calls Try.prog 31 #[hoV x, .pointer (some ⟨h1, 0, none⟩), .pointer (some ⟨h2, 0, none⟩), .pointer (some ⟨h3, 0, none⟩)] w fun e w' => e = .returned (.bool (decide (x.t = t) && (decide (x.key = key) && (x.wr || !wb)))) ∧ Below w.heap.size w w' := by
  obtain ⟨xk, ⟨xa, xi⟩, xw⟩ := x
  obtain ⟨ta, ti⟩ := t
  have BV : Below w.heap.size w (w.alloc (.cells #[.string xk, .int .u64 (xa : Nat), .int .u64 (xi : Nat), .bool xw] 45)) := (Below.refl _ _).alloc (Nat.le_refl _) _
  obtain ⟨_, q0, q1⟩ := H1.later BV
  obtain ⟨k0, _⟩ := H2.later BV
  obtain ⟨b0, _⟩ := H3.later BV
  have HB := Lib.hid BV
  clear H1 H2 H3 BV
  simp only at q0 q1
  by_cases he : (⟨xa, xi⟩ : Tx) = ⟨ta, ti⟩
  · cases he
    by_cases he2 : xk = key
    · subst he2
      rw [decide_eq_true rfl, decide_eq_true rfl, Bool.true_and, Bool.true_and]
      cases xw <;> cases wb
      all_goals
        go_enter Try.func31, Try.ntmps31
        go_wp2_with fail
        go_ret
        exact ⟨by first | rfl | simp, HB.out⟩
    · have g1 := ba_ne he2
      have g2 := ba_ne' he2
      rw [decide_eq_false he2, Bool.false_and, Bool.and_false]
      go_enter Try.func31, Try.ntmps31
      go_wp2_with fail
      go_ret
      exact ⟨by first | rfl | simp, HB.out⟩
  · rw [decide_eq_false he, Bool.false_and]
    rcases tx_ne he with g | ⟨rfl, g⟩
    all_goals
      go_enter Try.func31, Try.ntmps31
      go_wp2_with fail
      go_ret
      exact ⟨by first | rfl | simp, HB.out⟩
set_option maxRecDepth 100000 in
set_option maxHeartbeats 2000000 in
theorem ask1_any (x : Ho) (h1 h2 : Nat) (t : Tx) (key : ByteArray) (w : World) (H1 : TxBox w h1 t) (H2 : B1 w h2 (.string key)) :
    Calls Try.prog 23 #[hoV x, .pointer (some ⟨h1, 0, none⟩), .pointer (some ⟨h2, 0, none⟩)] w fun e w' => e = .returned (.bool (decide (x.t = t) && decide (x.key = key))) ∧ Below w.heap.size w w' := by
  obtain ⟨xk, ⟨xa, xi⟩, xw⟩ := x
  obtain ⟨ta, ti⟩ := t
  have BV : Below w.heap.size w (w.alloc (.cells #[.string xk, .int .u64 (xa : Nat), .int .u64 (xi : Nat), .bool xw] 45)) := (Below.refl _ _).alloc (Nat.le_refl _) _
  obtain ⟨_, q0, q1⟩ := H1.later BV
  obtain ⟨k0, _⟩ := H2.later BV
  have HB := Lib.hid BV
  clear H1 H2 BV
  simp only at q0 q1
  by_cases he : (⟨xa, xi⟩ : Tx) = ⟨ta, ti⟩
  · cases he
    by_cases he2 : xk = key
    · subst he2
      rw [decide_eq_true rfl, decide_eq_true rfl, Bool.true_and]
      go_enter Try.func23, Try.ntmps23
      go_wp2_with fail
      go_ret
      exact ⟨by first | rfl | simp, HB.out⟩
    · have g1 := ba_ne he2
      have g2 := ba_ne' he2
      rw [decide_eq_false he2, Bool.and_false]
      go_enter Try.func23, Try.ntmps23
      go_wp2_with fail
      go_ret
      exact ⟨by first | rfl | simp, HB.out⟩
  · rw [decide_eq_false he, Bool.false_and]
    rcases tx_ne he with g | ⟨rfl, g⟩
    all_goals
      go_enter Try.func23, Try.ntmps23
      go_wp2_with fail
      go_ret
      exact ⟨by first | rfl | simp, HB.out⟩
set_option maxRecDepth 100000 in
set_option maxHeartbeats 2000000 in
theorem ask2_any (x : Ho) (h1 h2 h3 : Nat) (t : Tx) (key : ByteArray) (wb : Bool) (w : World) (H1 : TxBox w h1 t) (H2 : B1 w h2 (.string key)) (H3 : B1 w h3 (.bool wb)) :
    Calls Try.prog 26 #[hoV x, .pointer (some ⟨h2, 0, none⟩), .pointer (some ⟨h1, 0, none⟩), .pointer (some ⟨h3, 0, none⟩)] w fun e w' => e = .returned (.bool (inW x t key wb)) ∧ Below w.heap.size w w' := by
  obtain ⟨xk, ⟨xa, xi⟩, xw⟩ := x
  obtain ⟨ta, ti⟩ := t
  have BV : Below w.heap.size w (w.alloc (.cells #[.string xk, .int .u64 (xa : Nat), .int .u64 (xi : Nat), .bool xw] 45)) := (Below.refl _ _).alloc (Nat.le_refl _) _
  obtain ⟨_, q0, q1⟩ := H1.later BV
  obtain ⟨k0, _⟩ := H2.later BV
  obtain ⟨b0, _⟩ := H3.later BV
  have HB := Lib.hid BV
  clear H1 H2 H3 BV
  simp only at q0 q1
  unfold inW
  by_cases he2 : xk = key
  · subst he2
    by_cases he : (⟨xa, xi⟩ : Tx) = ⟨ta, ti⟩
    · cases he
      simp only [decide_true, Bool.true_and, Bool.not_true, Bool.false_and]
      go_enter Try.func26, Try.ntmps26
      go_wp2_with fail
      go_ret
      exact ⟨by first | rfl | simp, HB.out⟩
    · simp only [decide_true, decide_eq_false he, Bool.true_and, Bool.not_false]
      rcases tx_ne he with g | ⟨rfl, g⟩
      all_goals
        cases xw <;> cases wb
        all_goals
          go_enter Try.func26, Try.ntmps26
          go_wp2_with fail
          go_ret
          exact ⟨by first | rfl | simp, HB.out⟩
  · have g1 := ba_ne he2
    have g2 := ba_ne' he2
    simp only [decide_eq_false he2, Bool.false_and]
    go_enter Try.func26, Try.ntmps26
    go_wp2_with fail
    go_ret
    exact ⟨by first | rfl | simp, HB.out⟩
theorem hasH_any (t : Tx) (key : ByteArray) (wb : Bool) : ∀ L : List Ho, hasH t key wb L = L.any fun x => decide (x.t = t) && (decide (x.key = key) && (x.wr || !wb))
  | [] => rfl
  | x :: r => by rw [hasH, hasH_any t key wb r, List.any_cons]
theorem fsG_any {α : Type} {f : α → Bool} {L : List α} {k : Int} (h : FsG f L k) : L.any f = decide (0 ≤ k) := by
  rcases h with ⟨rfl, h⟩ | ⟨j, x, rfl, hx, hf, _⟩
  · rw [List.any_eq_false.2 (fun x hx => by rw [h x hx]; simp)]; rfl
  · rw [List.any_eq_true.2 ⟨x, List.mem_of_getElem? hx, hf⟩, decide_eq_true (by omega)]
set_option maxRecDepth 100000 in
set_option maxHeartbeats 1000000 in
theorem contains_any (fn : Nat) (caps : Array Value) (f : Ho → Bool) (n c : Nat) (a : Option Addr) (L : List Ho) (hn : L.length = n) (hl : n ≤ 140737488351232) (hs : smallH L) (w : World) (hR : ∀ (x : Ho) (w : World), (callFunc fn (#[.agg #[.string x.key, .int .u64 (x.t.age : Nat), .int .u64 (x.t.id : Nat), .bool x.wr]] ++ caps)).run Try.prog w = .ok (.enter fn (#[.agg #[.string x.key, .int .u64 (x.t.age : Nat), .int .u64 (x.t.id : Nat), .bool x.wr]] ++ caps)) w) (H : ClF fn caps f w) (hM : Hos w a L) :
    Calls Try.prog 30 #[.slice a n c, .func (.func fn) #[] caps] w fun e w' => e = .returned (.bool (L.any f)) ∧ Below w.heap.size w w' := by
  have HI := Lib.hid (index_any fn caps f n c a L hn hl hs w hR H hM)
  clear hn H hM hR hs
  go_enter Try.func30, Try.ntmps30
  go_wp2_with fail
  refine HI.out.mono ?_
  rintro e w2 ⟨⟨k, rfl, hk⟩, hb2⟩
  have HQ := Lib.hid (fsG_any hk)
  have HB2 := Lib.hid hb2
  clear hk hb2
  by_cases h0 : (0 : Int) ≤ k
  · have HQ2 := Lib.hid (HQ.out.trans (decide_eq_true h0))
    go_wp2_with fail
    go_ret
    exact ⟨by rw [HQ2.out]; first | rfl | (simp; omega), HB2.out⟩
  · have HQ2 := Lib.hid (HQ.out.trans (decide_eq_false h0))
    go_wp2_with fail
    go_ret
    exact ⟨by rw [HQ2.out]; first | rfl | (simp; omega), HB2.out⟩
theorem has1_run (p1 p2 p3 : Value) (x : Ho) (w : World) : (callFunc 31 (#[.agg #[.string x.key, .int .u64 (x.t.age : Nat), .int .u64 (x.t.id : Nat), .bool x.wr]] ++ #[p1, p2, p3])).run Try.prog w = .ok (.enter 31 (#[.agg #[.string x.key, .int .u64 (x.t.age : Nat), .int .u64 (x.t.id : Nat), .bool x.wr]] ++ #[p1, p2, p3])) w := by kernel_rfl
theorem ask1_run (p1 p2 : Value) (x : Ho) (w : World) : (callFunc 23 (#[.agg #[.string x.key, .int .u64 (x.t.age : Nat), .int .u64 (x.t.id : Nat), .bool x.wr]] ++ #[p1, p2])).run Try.prog w = .ok (.enter 23 (#[.agg #[.string x.key, .int .u64 (x.t.age : Nat), .int .u64 (x.t.id : Nat), .bool x.wr]] ++ #[p1, p2])) w := by kernel_rfl
set_option maxRecDepth 100000 in
set_option maxHeartbeats 1000000 in
theorem pHas_any (n c : Nat) (a : Option Addr) (L : List Ho) (t : Tx) (key : ByteArray) (wb : Bool) (hn : L.length = n) (hl : n ≤ 140737488351232) (hs : smallH L) (w : World) (hM : Hos w a L) :
    Calls Try.prog 16 #[.slice a n c, txV t, .string key, .bool wb] w fun e w' => e = .returned (.bool (hasH t key wb L)) ∧ Below w.heap.size w w' := by
  rw [hasH_any]
  obtain ⟨ta, ti⟩ := t
  obtain ⟨W, hW⟩ : ∃ W, ((w.alloc (.cells #[.int .u64 (ta : Nat), .int .u64 (ti : Nat)] 25)).alloc (.cells #[.string key] 9)).alloc (.cells #[.bool wb] 4) = W := ⟨_, rfl⟩
  have hB : Below w.heap.size w W := by subst hW; go_grown
  have h1 : TxBox W w.heap.size ⟨ta, ti⟩ := by subst hW; exact ⟨by simp; omega, by simp [go_sem], by simp [go_sem]⟩
  have h2 : B1 W (w.heap.size + 1) (.string key) := by subst hW; exact ⟨by simp [go_sem], by simp⟩
  have h3 : B1 W (w.heap.size + 2) (.bool wb) := by subst hW; exact ⟨by simp [go_sem], by simp⟩
  have HC := Lib.hid (contains_any 31 #[.pointer (some ⟨w.heap.size, 0, none⟩), .pointer (some ⟨w.heap.size + 1, 0, none⟩), .pointer (some ⟨w.heap.size + 2, 0, none⟩)] _ n c a L hn hl hs W (has1_run _ _ _) (fun x w' _ hb => has1_any x _ _ _ ⟨ta, ti⟩ key wb w' (h1.later hb) (h2.later hb) (h3.later hb)) (hM.later hB))
  have HB := Lib.hid hB
  have HW := Lib.hid hW
  clear hn hM hB h1 h2 h3 hW hs
  go_enter Try.func16, Try.ntmps16
  go_wp2_with fail
  try rw [HW.out]
  refine HC.out.mono ?_
  rintro e w2 ⟨rfl, hb2⟩
  have HB2 := Lib.hid (HB.out.trans (hb2.mono HB.out.size))
  clear hb2
  go_wp2_with fail
  go_ret
  exact ⟨rfl, HB2.out⟩
end Go.Proofs.Ytfidgnhinllhlaa
