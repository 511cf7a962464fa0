/- What Ask answers, in memory. -/
import Derived.Test.YthgnecggdlamfaaVf
namespace Go.Proofs.Ythgnecggdlamfaa
open Go.RowKit

/-- What Ask answers, in memory. -/
def AkP (w : World) (r : List Ho × List Tx × Nat) (e : Ending) (w' : World) : Prop := ∃ (a : Option Addr) (c : Nat) (a2 : Option Addr) (c2 : Nat), e = .returned (.tuple #[.slice a r.1.length c, .slice a2 r.2.1.length c2, .int .i64 (r.2.2 : Nat)]) ∧ Hos w' a r.1 ∧ r.1.length ≤ c ∧ c ≤ maxLen ∧ Txs w' a2 r.2.1 ∧ Below w.heap.size w w'
end Go.Proofs.Ythgnecggdlamfaa
/- The closures of Ask and Has; slices.IndexFunc over any closure; Has, Elder: the program's. -/
namespace Go.Proofs.Ythgnecggdlamfaa
open Go.RowKit

/-- Where the first one lies of which f is true. -/
def FsG {α : Type} (f : α → Bool) (L : List α) (k : Int) : Prop := (k = -1 ∧ ∀ x ∈ L, f x = false) ∨ ∃ (j : Nat) (x : α), k = (j : Int) ∧ L[j]? = some x ∧ f x = true ∧ ∀ i, i < j → ∀ y : α, L[i]? = some y → f y = false
/-- One value in a box. -/
structure B1 (w : World) (h : Nat) (v : Value) : Prop where
  c : w.cell? ⟨h, 0, none⟩ = some v
  lt : h < w.heap.size
theorem B1.later {w w' : World} {h : Nat} {v : Value} (H : B1 w h v) (hb : Below w.heap.size w w') : B1 w' h v := ⟨(hb.cell (p := ⟨h, 0, none⟩) H.lt).trans H.c, Nat.lt_of_lt_of_le H.lt hb.size⟩
theorem B1.grown {w w' : World} {h g : Nat} {v : Value} (H : B1 w h v) (hg : w.grownBy w' (some g)) (hne : h ≠ g) : B1 w' h v := ⟨(World.cell?_of_block (a := ⟨h, 0, none⟩) (hg.block h H.lt (by simpa using hne))).trans H.c, Nat.lt_of_lt_of_le H.lt hg.size⟩
theorem TxBox.grown {w w' : World} {h g : Nat} {x : Tx} (H : TxBox w h x) (hg : w.grownBy w' (some g)) (hne : h ≠ g) : TxBox w' h x := ⟨Nat.lt_of_lt_of_le H.lt hg.size, (World.cell?_of_block (a := ⟨h, 0, none⟩) (hg.block h H.lt (by simpa using hne))).trans H.c0, (World.cell?_of_block (a := ⟨h, 1, none⟩) (hg.block h H.lt (by simpa using hne))).trans H.c1⟩
/-- What a closure over locks answers, whatever comes behind a world. -/
def ClF (fn : Nat) (caps : Array Value) (f : Ho → Bool) (w : World) : Prop := ∀ (x : Ho) (w' : World), okA x.key x.t → Below w.heap.size w w' → Calls Try.prog fn (#[hoV x] ++ caps) w' fun e w2 => e = .returned (.bool (f x)) ∧ Below w'.heap.size w' w2
theorem ClF.later {fn : Nat} {caps : Array Value} {f : Ho → Bool} {w w' : World} (h : ClF fn caps f w) (hb : Below w.heap.size w w') : ClF fn caps f w' := fun x w2 ho h2 => h x w2 ho (hb.trans (h2.mono hb.size))
set_option maxRecDepth 100000 in
set_option maxHeartbeats 2000000 in
theorem index_any (fn : Nat) (caps : Array Value) (f : Ho → Bool) (n c : Nat) (a : Option Addr) (L : List Ho) (hn : L.length = n) (hl : n ≤ 140737488351232) (hs : smallH L) (w : World) (hR : ∀ (x : Ho) (w : World), (callFunc fn (#[.agg #[.string x.key, .int .u64 (x.t.age : Nat), .int .u64 (x.t.id : Nat), .bool x.wr]] ++ caps)).run Try.prog w = .ok (.enter fn (#[.agg #[.string x.key, .int .u64 (x.t.age : Nat), .int .u64 (x.t.id : Nat), .bool x.wr]] ++ caps)) w) (H : ClF fn caps f w) (hM : Hos w a L) :
    Calls Try.prog 62 #[.slice a n c, .func (.func fn) #[] caps] w fun e w' => (∃ k : Int, e = .returned (.int .i64 k) ∧ FsG f L k) ∧ Below w.heap.size w w' := by
  have HN := Lib.hid hn
  have HM := Lib.hid hM
  have HC := Lib.hid H
  have HS := Lib.hid hs
  clear hn hM H hs
  go_enter Try.func62, Try.ntmps62
  go_wp2_with fail
  go_loopw [8] (fun u wr => ∃ k : Nat, k ≤ n ∧ u = .int .i64 k ∧ (∀ i, i < k → ∀ y : Ho, L[i]? = some y → f y = false) ∧ Below w.heap.size w wr) (fun u _ => n - (intOf u).toNat)
  case atStart => exact ⟨0, Nat.zero_le _, rfl, fun i hi => absurd hi (Nat.not_lt_zero _), Below.refl _ _⟩
  case round =>
    obtain ⟨k, hk, rfl, hf, B⟩ := hrel
    have HFB := Lib.hid hf
    clear hf
    by_cases hlt : k < n
    · obtain ⟨x, hx⟩ : ∃ x, L[k]? = some x := ⟨_, List.getElem?_eq_getElem (by rw [HN.out]; exact hlt)⟩
      obtain ⟨b, off, rfl, hb, p0, p1, p2, p3⟩ := Hos.cells (HM.out.later B) hx
      have HBB := Lib.hid B
      have HX := Lib.hid hx
      have hxo := HS.out x (List.mem_of_getElem? hx)
      have i0 : (0 : Int) ≤ (k : Int) := by omega
      have i1 : (k : Int) < (n : Int) := by omega
      clear hx B
      go_wp2_with fail
      refine (HC.out x _ hxo HBB.out).mono ?_
      rintro e w2 ⟨rfl, hb2⟩
      have HB3 := Lib.hid (HBB.out.trans (hb2.mono HBB.out.size))
      clear hb2
      by_cases he : f x = true
      · rw [he]
        have HT := Lib.hid (show FsG f L k from Or.inr ⟨k, x, rfl, HX.out, he, HFB.out⟩)
        clear he
        go_wp2_with fail
        go_ret
        exact ⟨⟨k, rfl, HT.out⟩, HB3.out⟩
      · have he : f x = false := by simpa using he
        rw [he]
        have HT := Lib.hid (show ∀ i, i < k + 1 → ∀ y : Ho, L[i]? = some y → f y = false from fun i hi y hy => by
          by_cases hik : i = k
          · subst hik; have := HX.out; rw [hy] at this; cases this; exact he
          · exact HFB.out i (by omega) y hy)
        clear he
        go_wp2_with fail
        go_roundw
        case rel => exact ⟨k + 1, by omega, by go_num, HT.out, HB3.out⟩
        case measure => simp [intOf]; omega
    · have HT := Lib.hid (show FsG f L (-1) from Or.inl ⟨rfl, fun y hy => by
        obtain ⟨j, hj⟩ := List.mem_iff_getElem?.1 hy
        exact HFB.out j (by have := (List.getElem?_eq_some_iff.1 hj).1; have := HN.out; omega) y hj⟩)
      go_wp2_with fail
      go_ret
      exact ⟨⟨-1, rfl, HT.out⟩, B⟩
end Go.Proofs.Ythgnecggdlamfaa
/- Elder, Has; the closures of Ask and Has: the program's. -/
namespace Go.Proofs.Ythgnecggdlamfaa
open Go.RowKit

set_option maxHeartbeats 1000000 in
theorem pElder_any (a b : Tx) (w : World) : Calls Try.prog 82 #[txV a, txV b] w fun e w' => e = .returned (.bool (eldT a b)) ∧ Below w.heap.size w w' := by
  obtain ⟨a1, a2⟩ := a
  obtain ⟨b1, b2⟩ := b
  obtain ⟨r, hr⟩ : ∃ r, eldT ⟨a1, a2⟩ ⟨b1, b2⟩ = r := ⟨_, rfl⟩
  rw [hr]
  have HW := Lib.hid (show Below w.heap.size w ((w.alloc (.cells #[.int .u64 (a1 : Nat), .int .u64 (a2 : Nat)] 30)).alloc (.cells #[.int .u64 (b1 : Nat), .int .u64 (b2 : Nat)] 30)) by go_grown)
  by_cases h : a1 = b1
  · subst h
    by_cases h2 : a2 < b2
    · obtain rfl : r = true := by rw [← hr]; simp [eldT, h2]
      have g : (a2 : Int) < (b2 : Int) := by omega
      clear hr
      go_enter Try.func82, Try.ntmps82
      go_wp2_with fail
      go_ret
      exact ⟨by first | rfl | simp, HW.out⟩
    · obtain rfl : r = false := by rw [← hr]; simp [eldT, h2]
      have g : ¬ (a2 : Int) < (b2 : Int) := by omega
      clear hr
      go_enter Try.func82, Try.ntmps82
      go_wp2_with fail
      go_ret
      exact ⟨by first | rfl | simp, HW.out⟩
  · have g0 := int_ne h
    by_cases h2 : a1 < b1
    · obtain rfl : r = true := by rw [← hr]; simp [eldT, h, h2]
      have g : (a1 : Int) < (b1 : Int) := by omega
      clear hr
      go_enter Try.func82, Try.ntmps82
      go_wp2_with fail
      go_ret
      exact ⟨by first | rfl | simp, HW.out⟩
    · obtain rfl : r = false := by rw [← hr]; simp [eldT, h, h2]
      have g : ¬ (a1 : Int) < (b1 : Int) := by omega
      clear hr
      go_enter Try.func82, Try.ntmps82
      go_wp2_with fail
      go_ret
      exact ⟨by first | rfl | simp, HW.out⟩
set_option maxRecDepth 100000 in
set_option maxHeartbeats 2000000 in
theorem has1_any (x : Ho) (h1 h2 h3 : Nat) (t : Tx) (key : ByteArray) (wb : Bool) (w : World) (H1 : TxBox w h1 t) (H2 : B1 w h2 (.string key)) (H3 : B1 w h3 (.bool wb)) :
    Calls Try.prog 101 #[hoV x, .pointer (some ⟨h1, 0, none⟩), .pointer (some ⟨h2, 0, none⟩), .pointer (some ⟨h3, 0, none⟩)] w fun e w' => e = .returned (.bool (decide (x.t = t) && (decide (x.key = key) && (x.wr || !wb)))) ∧ Below w.heap.size w w' := by
  obtain ⟨xk, ⟨xa, xi⟩, xw⟩ := x
  obtain ⟨ta, ti⟩ := t
  have BV : Below w.heap.size w (w.alloc (.cells #[.string xk, .int .u64 (xa : Nat), .int .u64 (xi : Nat), .bool xw] 75)) := (Below.refl _ _).alloc (Nat.le_refl _) _
  obtain ⟨_, q0, q1⟩ := H1.later BV
  obtain ⟨k0, _⟩ := H2.later BV
  obtain ⟨b0, _⟩ := H3.later BV
  have HB := Lib.hid BV
  clear H1 H2 H3 BV
  simp only at q0 q1
  by_cases he : (⟨xa, xi⟩ : Tx) = ⟨ta, ti⟩
  · cases he
    by_cases he2 : xk = key
    · subst he2
      rw [decide_eq_true rfl, decide_eq_true rfl, Bool.true_and, Bool.true_and]
      cases xw <;> cases wb
      all_goals
        go_enter Try.func101, Try.ntmps101
        go_wp2_with fail
        go_ret
        exact ⟨by first | rfl | simp, HB.out⟩
    · have g1 := ba_ne he2
      have g2 := ba_ne' he2
      rw [decide_eq_false he2, Bool.false_and, Bool.and_false]
      go_enter Try.func101, Try.ntmps101
      go_wp2_with fail
      go_ret
      exact ⟨by first | rfl | simp, HB.out⟩
  · rw [decide_eq_false he, Bool.false_and]
    rcases tx_ne he with g | ⟨rfl, g⟩
    all_goals
      go_enter Try.func101, Try.ntmps101
      go_wp2_with fail
      go_ret
      exact ⟨by first | rfl | simp, HB.out⟩
set_option maxRecDepth 100000 in
set_option maxHeartbeats 2000000 in
theorem ask1_any (x : Ho) (h1 h2 : Nat) (t : Tx) (key : ByteArray) (w : World) (H1 : TxBox w h1 t) (H2 : B1 w h2 (.string key)) :
    Calls Try.prog 61 #[hoV x, .pointer (some ⟨h1, 0, none⟩), .pointer (some ⟨h2, 0, none⟩)] w fun e w' => e = .returned (.bool (decide (x.t = t) && decide (x.key = key))) ∧ Below w.heap.size w w' := by
  obtain ⟨xk, ⟨xa, xi⟩, xw⟩ := x
  obtain ⟨ta, ti⟩ := t
  have BV : Below w.heap.size w (w.alloc (.cells #[.string xk, .int .u64 (xa : Nat), .int .u64 (xi : Nat), .bool xw] 75)) := (Below.refl _ _).alloc (Nat.le_refl _) _
  obtain ⟨_, q0, q1⟩ := H1.later BV
  obtain ⟨k0, _⟩ := H2.later BV
  have HB := Lib.hid BV
  clear H1 H2 BV
  simp only at q0 q1
  by_cases he : (⟨xa, xi⟩ : Tx) = ⟨ta, ti⟩
  · cases he
    by_cases he2 : xk = key
    · subst he2
      rw [decide_eq_true rfl, decide_eq_true rfl, Bool.true_and]
      go_enter Try.func61, Try.ntmps61
      go_wp2_with fail
      go_ret
      exact ⟨by first | rfl | simp, HB.out⟩
    · have g1 := ba_ne he2
      have g2 := ba_ne' he2
      rw [decide_eq_false he2, Bool.and_false]
      go_enter Try.func61, Try.ntmps61
      go_wp2_with fail
      go_ret
      exact ⟨by first | rfl | simp, HB.out⟩
  · rw [decide_eq_false he, Bool.false_and]
    rcases tx_ne he with g | ⟨rfl, g⟩
    all_goals
      go_enter Try.func61, Try.ntmps61
      go_wp2_with fail
      go_ret
      exact ⟨by first | rfl | simp, HB.out⟩
set_option maxRecDepth 100000 in
set_option maxHeartbeats 2000000 in
theorem ask2_any (x : Ho) (h1 h2 h3 : Nat) (t : Tx) (key : ByteArray) (wb : Bool) (w : World) (H1 : TxBox w h1 t) (H2 : B1 w h2 (.string key)) (H3 : B1 w h3 (.bool wb)) :
    Calls Try.prog 63 #[hoV x, .pointer (some ⟨h2, 0, none⟩), .pointer (some ⟨h1, 0, none⟩), .pointer (some ⟨h3, 0, none⟩)] w fun e w' => e = .returned (.bool (inW x t key wb)) ∧ Below w.heap.size w w' := by
  obtain ⟨xk, ⟨xa, xi⟩, xw⟩ := x
  obtain ⟨ta, ti⟩ := t
  have BV : Below w.heap.size w (w.alloc (.cells #[.string xk, .int .u64 (xa : Nat), .int .u64 (xi : Nat), .bool xw] 75)) := (Below.refl _ _).alloc (Nat.le_refl _) _
  obtain ⟨_, q0, q1⟩ := H1.later BV
  obtain ⟨k0, _⟩ := H2.later BV
  obtain ⟨b0, _⟩ := H3.later BV
  have HB := Lib.hid BV
  clear H1 H2 H3 BV
  simp only at q0 q1
  unfold inW
  by_cases he2 : xk = key
  · subst he2
    by_cases he : (⟨xa, xi⟩ : Tx) = ⟨ta, ti⟩
    · cases he
      simp only [decide_true, Bool.true_and, Bool.not_true, Bool.false_and]
      go_enter Try.func63, Try.ntmps63
      go_wp2_with fail
      go_ret
      exact ⟨by first | rfl | simp, HB.out⟩
    · simp only [decide_true, decide_eq_false he, Bool.true_and, Bool.not_false]
      rcases tx_ne he with g | ⟨rfl, g⟩
      all_goals
        cases xw <;> cases wb
        all_goals
          go_enter Try.func63, Try.ntmps63
          go_wp2_with fail
          go_ret
          exact ⟨by first | rfl | simp, HB.out⟩
  · have g1 := ba_ne he2
    have g2 := ba_ne' he2
    simp only [decide_eq_false he2, Bool.false_and]
    go_enter Try.func63, Try.ntmps63
    go_wp2_with fail
    go_ret
    exact ⟨by first | rfl | simp, HB.out⟩
theorem hasH_any (t : Tx) (key : ByteArray) (wb : Bool) : ∀ L : List Ho, hasH t key wb L = L.any fun x => decide (x.t = t) && (decide (x.key = key) && (x.wr || !wb))
  | [] => rfl
  | x :: r => by rw [hasH, hasH_any t key wb r, List.any_cons]
theorem fsG_any {α : Type} {f : α → Bool} {L : List α} {k : Int} (h : FsG f L k) : L.any f = decide (0 ≤ k) := by
  rcases h with ⟨rfl, h⟩ | ⟨j, x, rfl, hx, hf, _⟩
  · rw [List.any_eq_false.2 (fun x hx => by rw [h x hx]; simp)]; rfl
  · rw [List.any_eq_true.2 ⟨x, List.mem_of_getElem? hx, hf⟩, decide_eq_true (by omega)]
set_option maxRecDepth 100000 in
set_option maxHeartbeats 1000000 in
theorem contains_any (fn : Nat) (caps : Array Value) (f : Ho → Bool) (n c : Nat) (a : Option Addr) (L : List Ho) (hn : L.length = n) (hl : n ≤ 140737488351232) (hs : smallH L) (w : World) (hR : ∀ (x : Ho) (w : World), (callFunc fn (#[.agg #[.string x.key, .int .u64 (x.t.age : Nat), .int .u64 (x.t.id : Nat), .bool x.wr]] ++ caps)).run Try.prog w = .ok (.enter fn (#[.agg #[.string x.key, .int .u64 (x.t.age : Nat), .int .u64 (x.t.id : Nat), .bool x.wr]] ++ caps)) w) (H : ClF fn caps f w) (hM : Hos w a L) :
    Calls Try.prog 100 #[.slice a n c, .func (.func fn) #[] caps] w fun e w' => e = .returned (.bool (L.any f)) ∧ Below w.heap.size w w' := by
  have HI := Lib.hid (index_any fn caps f n c a L hn hl hs w hR H hM)
  clear hn H hM hR hs
  go_enter Try.func100, Try.ntmps100
  go_wp2_with fail
  refine HI.out.mono ?_
  rintro e w2 ⟨⟨k, rfl, hk⟩, hb2⟩
  have HQ := Lib.hid (fsG_any hk)
  have HB2 := Lib.hid hb2
  clear hk hb2
  by_cases h0 : (0 : Int) ≤ k
  · have HQ2 := Lib.hid (HQ.out.trans (decide_eq_true h0))
    go_wp2_with fail
    go_ret
    exact ⟨by rw [HQ2.out]; first | rfl | (simp; omega), HB2.out⟩
  · have HQ2 := Lib.hid (HQ.out.trans (decide_eq_false h0))
    go_wp2_with fail
    go_ret
    exact ⟨by rw [HQ2.out]; first | rfl | (simp; omega), HB2.out⟩
theorem has1_run (p1 p2 p3 : Value) (x : Ho) (w : World) : (callFunc 101 (#[.agg #[.string x.key, .int .u64 (x.t.age : Nat), .int .u64 (x.t.id : Nat), .bool x.wr]] ++ #[p1, p2, p3])).run Try.prog w = .ok (.enter 101 (#[.agg #[.string x.key, .int .u64 (x.t.age : Nat), .int .u64 (x.t.id : Nat), .bool x.wr]] ++ #[p1, p2, p3])) w := by kernel_rfl
theorem ask1_run (p1 p2 : Value) (x : Ho) (w : World) : (callFunc 61 (#[.agg #[.string x.key, .int .u64 (x.t.age : Nat), .int .u64 (x.t.id : Nat), .bool x.wr]] ++ #[p1, p2])).run Try.prog w = .ok (.enter 61 (#[.agg #[.string x.key, .int .u64 (x.t.age : Nat), .int .u64 (x.t.id : Nat), .bool x.wr]] ++ #[p1, p2])) w := by kernel_rfl
set_option maxRecDepth 100000 in
set_option maxHeartbeats 1000000 in
theorem pHas_any (n c : Nat) (a : Option Addr) (L : List Ho) (t : Tx) (key : ByteArray) (wb : Bool) (hn : L.length = n) (hl : n ≤ 140737488351232) (hs : smallH L) (w : World) (hM : Hos w a L) :
    Calls Try.prog 92 #[.slice a n c, txV t, .string key, .bool wb] w fun e w' => e = .returned (.bool (hasH t key wb L)) ∧ Below w.heap.size w w' := by
  rw [hasH_any]
  obtain ⟨ta, ti⟩ := t
  obtain ⟨W, hW⟩ : ∃ W, ((w.alloc (.cells #[.int .u64 (ta : Nat), .int .u64 (ti : Nat)] 30)).alloc (.cells #[.string key] 9)).alloc (.cells #[.bool wb] 4) = W := ⟨_, rfl⟩
  have hB : Below w.heap.size w W := by subst hW; go_grown
  have h1 : TxBox W w.heap.size ⟨ta, ti⟩ := by subst hW; exact ⟨by simp; omega, by simp [go_sem], by simp [go_sem]⟩
  have h2 : B1 W (w.heap.size + 1) (.string key) := by subst hW; exact ⟨by simp [go_sem], by simp⟩
  have h3 : B1 W (w.heap.size + 2) (.bool wb) := by subst hW; exact ⟨by simp [go_sem], by simp⟩
  have HC := Lib.hid (contains_any 101 #[.pointer (some ⟨w.heap.size, 0, none⟩), .pointer (some ⟨w.heap.size + 1, 0, none⟩), .pointer (some ⟨w.heap.size + 2, 0, none⟩)] _ n c a L hn hl hs W (has1_run _ _ _) (fun x w' _ hb => has1_any x _ _ _ ⟨ta, ti⟩ key wb w' (h1.later hb) (h2.later hb) (h3.later hb)) (hM.later hB))
  have HB := Lib.hid hB
  have HW := Lib.hid hW
  clear hn hM hB h1 h2 h3 hW hs
  go_enter Try.func92, Try.ntmps92
  go_wp2_with fail
  try rw [HW.out]
  refine HC.out.mono ?_
  rintro e w2 ⟨rfl, hb2⟩
  have HB2 := Lib.hid (HB.out.trans (hb2.mono HB.out.size))
  clear hb2
  go_wp2_with fail
  go_ret
  exact ⟨rfl, HB2.out⟩
end Go.Proofs.Ythgnecggdlamfaa
