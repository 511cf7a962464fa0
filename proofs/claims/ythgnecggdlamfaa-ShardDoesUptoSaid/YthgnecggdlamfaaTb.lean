/- IndexFunc over any closure: open transactions, ended ones, puts; where a transaction is; tooLate, full. -/
import Derived.Test.YthgnecggdlamfaaTa
import Derived.Test.YthgnecggdlamfaaNd
namespace Go.Proofs.Ythgnecggdlamfaa
open Go.RowKit

@[reducible] def soV (x : SopM) : Value := .agg #[.int .u64 (x.x.t.age : Nat), .int .u64 (x.x.t.id : Nat), .bool x.x.fm, .bool x.x.wd, .slice x.a x.x.puts.length x.c]
@[reducible] def sdV (x : Sdn) : Value := .agg #[.int .u64 (x.t.age : Nat), .int .u64 (x.t.id : Nat), .bool x.cm]
/-- What a closure over open transactions answers, while blocks from B on may change. -/
def ClO (B fn : Nat) (caps : Array Value) (f : SopM → Bool) (L : List SopM) (w : World) : Prop := ∀ x ∈ L, ∀ w' : World, Below B w w' → Calls Try.prog fn (#[soV x] ++ caps) w' fun e w2 => e = .returned (.bool (f x)) ∧ Below w'.heap.size w' w2
set_option maxRecDepth 100000 in
set_option maxHeartbeats 2000000 in
theorem indexO_any (fn : Nat) (caps : Array Value) (f : SopM → Bool) (n c : Nat) (a : Option Addr) (L : List SopM) (hn : L.length = n) (hl : n ≤ 140737488351232) (w : World) (hR : ∀ (x : SopM) (w : World), (callFunc fn (#[.agg #[.int .u64 (x.x.t.age : Nat), .int .u64 (x.x.t.id : Nat), .bool x.x.fm, .bool x.x.wd, .slice x.a x.x.puts.length x.c]] ++ caps)).run Try.prog w = .ok (.enter fn (#[.agg #[.int .u64 (x.x.t.age : Nat), .int .u64 (x.x.t.id : Nat), .bool x.x.fm, .bool x.x.wd, .slice x.a x.x.puts.length x.c]] ++ caps)) w) (H : ClO w.heap.size fn caps f L w) (hM : Rw 5 sopC w a L) :
    Calls Try.prog 67 #[.slice a n c, .func (.func fn) #[] caps] w fun e w' => (∃ k : Int, e = .returned (.int .i64 k) ∧ FsG f L k) ∧ Below w.heap.size w w' := by
  have HN := Lib.hid hn
  have HM := Lib.hid hM
  have HC := Lib.hid H
  clear hn hM H
  go_enter Try.func67, Try.ntmps67
  go_wp2_with fail
  go_loopw [8] (fun u wr => ∃ k : Nat, k ≤ n ∧ u = .int .i64 k ∧ (∀ i, i < k → ∀ y : SopM, L[i]? = some y → f y = false) ∧ Below w.heap.size w wr) (fun u _ => n - (intOf u).toNat)
  case atStart => exact ⟨0, Nat.zero_le _, rfl, fun i hi => absurd hi (Nat.not_lt_zero _), Below.refl _ _⟩
  case round =>
    obtain ⟨k, hk, rfl, hf, B⟩ := hrel
    have HFB := Lib.hid hf
    clear hf
    by_cases hlt : k < n
    · obtain ⟨x, hx⟩ : ∃ x, L[k]? = some x := ⟨_, List.getElem?_eq_getElem (by rw [HN.out]; exact hlt)⟩
      obtain ⟨b, off, rfl, hb, p0, p1, p2, p3, p4⟩ := Sop.cells (HM.out.later B) hx
      have HBB := Lib.hid B
      have HX := Lib.hid hx
      have hxm := List.mem_of_getElem? hx
      have i0 : (0 : Int) ≤ (k : Int) := by omega
      have i1 : (k : Int) < (n : Int) := by omega
      clear hx B
      go_wp2_with fail
      refine (HC.out x hxm _ HBB.out).mono ?_
      rintro e w2 ⟨rfl, hb2⟩
      have HB3 := Lib.hid (HBB.out.trans (hb2.mono HBB.out.size))
      clear hb2
      by_cases he : f x = true
      · rw [he]
        have HT := Lib.hid (show FsG f L k from Or.inr ⟨k, x, rfl, HX.out, he, HFB.out⟩)
        clear he
        go_wp2_with fail
        go_ret
        exact ⟨⟨k, rfl, HT.out⟩, HB3.out⟩
      · have he : f x = false := by simpa using he
        rw [he]
        have HT := Lib.hid (show ∀ i, i < k + 1 → ∀ y : SopM, L[i]? = some y → f y = false from fun i hi y hy => by
          by_cases hik : i = k
          · subst hik; have := HX.out; rw [hy] at this; cases this; exact he
          · exact HFB.out i (by omega) y hy)
        clear he
        go_wp2_with fail
        go_roundw
        case rel => exact ⟨k + 1, by omega, by go_num, HT.out, HB3.out⟩
        case measure => simp [intOf]; omega
    · have HT := Lib.hid (show FsG f L (-1) from Or.inl ⟨rfl, fun y hy => by
        obtain ⟨j, hj⟩ := List.mem_iff_getElem?.1 hy
        exact HFB.out j (by have := (List.getElem?_eq_some_iff.1 hj).1; have := HN.out; omega) y hj⟩)
      go_wp2_with fail
      go_ret
      exact ⟨⟨-1, rfl, HT.out⟩, B⟩
/-- What a closure over ended transactions answers, while blocks from B on may change. -/
def ClD (B fn : Nat) (caps : Array Value) (f : Sdn → Bool) (L : List Sdn) (w : World) : Prop := ∀ x ∈ L, ∀ w' : World, Below B w w' → Calls Try.prog fn (#[sdV x] ++ caps) w' fun e w2 => e = .returned (.bool (f x)) ∧ Below w'.heap.size w' w2
set_option maxRecDepth 100000 in
set_option maxHeartbeats 2000000 in
theorem indexDn_any (fn : Nat) (caps : Array Value) (f : Sdn → Bool) (n c : Nat) (a : Option Addr) (L : List Sdn) (hn : L.length = n) (hl : n ≤ 140737488351232) (w : World) (hR : ∀ (x : Sdn) (w : World), (callFunc fn (#[.agg #[.int .u64 (x.t.age : Nat), .int .u64 (x.t.id : Nat), .bool x.cm]] ++ caps)).run Try.prog w = .ok (.enter fn (#[.agg #[.int .u64 (x.t.age : Nat), .int .u64 (x.t.id : Nat), .bool x.cm]] ++ caps)) w) (H : ClD w.heap.size fn caps f L w) (hM : Rw 3 sdnC w a L) :
    Calls Try.prog 58 #[.slice a n c, .func (.func fn) #[] caps] w fun e w' => (∃ k : Int, e = .returned (.int .i64 k) ∧ FsG f L k) ∧ Below w.heap.size w w' := by
  have HN := Lib.hid hn
  have HM := Lib.hid hM
  have HC := Lib.hid H
  clear hn hM H
  go_enter Try.func58, Try.ntmps58
  go_wp2_with fail
  go_loopw [8] (fun u wr => ∃ k : Nat, k ≤ n ∧ u = .int .i64 k ∧ (∀ i, i < k → ∀ y : Sdn, L[i]? = some y → f y = false) ∧ Below w.heap.size w wr) (fun u _ => n - (intOf u).toNat)
  case atStart => exact ⟨0, Nat.zero_le _, rfl, fun i hi => absurd hi (Nat.not_lt_zero _), Below.refl _ _⟩
  case round =>
    obtain ⟨k, hk, rfl, hf, B⟩ := hrel
    have HFB := Lib.hid hf
    clear hf
    by_cases hlt : k < n
    · obtain ⟨x, hx⟩ : ∃ x, L[k]? = some x := ⟨_, List.getElem?_eq_getElem (by rw [HN.out]; exact hlt)⟩
      obtain ⟨b, off, rfl, hb, p0, p1, p2⟩ := Sdn.cells (HM.out.later B) hx
      have HBB := Lib.hid B
      have HX := Lib.hid hx
      have hxm := List.mem_of_getElem? hx
      have i0 : (0 : Int) ≤ (k : Int) := by omega
      have i1 : (k : Int) < (n : Int) := by omega
      clear hx B
      go_wp2_with fail
      refine (HC.out x hxm _ HBB.out).mono ?_
      rintro e w2 ⟨rfl, hb2⟩
      have HB3 := Lib.hid (HBB.out.trans (hb2.mono HBB.out.size))
      clear hb2
      by_cases he : f x = true
      · rw [he]
        have HT := Lib.hid (show FsG f L k from Or.inr ⟨k, x, rfl, HX.out, he, HFB.out⟩)
        clear he
        go_wp2_with fail
        go_ret
        exact ⟨⟨k, rfl, HT.out⟩, HB3.out⟩
      · have he : f x = false := by simpa using he
        rw [he]
        have HT := Lib.hid (show ∀ i, i < k + 1 → ∀ y : Sdn, L[i]? = some y → f y = false from fun i hi y hy => by
          by_cases hik : i = k
          · subst hik; have := HX.out; rw [hy] at this; cases this; exact he
          · exact HFB.out i (by omega) y hy)
        clear he
        go_wp2_with fail
        go_roundw
        case rel => exact ⟨k + 1, by omega, by go_num, HT.out, HB3.out⟩
        case measure => simp [intOf]; omega
    · have HT := Lib.hid (show FsG f L (-1) from Or.inl ⟨rfl, fun y hy => by
        obtain ⟨j, hj⟩ := List.mem_iff_getElem?.1 hy
        exact HFB.out j (by have := (List.getElem?_eq_some_iff.1 hj).1; have := HN.out; omega) y hj⟩)
      go_wp2_with fail
      go_ret
      exact ⟨⟨-1, rfl, HT.out⟩, B⟩
/-- What a closure over puts answers, while blocks from B on may change. -/
def ClU (B fn : Nat) (caps : Array Value) (f : Pu → Bool) (L : List Pu) (w : World) : Prop := ∀ x ∈ L, ∀ w' : World, Below B w w' → Calls Try.prog fn (#[puV x] ++ caps) w' fun e w2 => e = .returned (.bool (f x)) ∧ Below w'.heap.size w' w2
set_option maxRecDepth 100000 in
set_option maxHeartbeats 2000000 in
theorem indexU_any (fn : Nat) (caps : Array Value) (f : Pu → Bool) (n c : Nat) (a : Option Addr) (L : List Pu) (hn : L.length = n) (hl : n ≤ 140737488351232) (w : World) (hR : ∀ (x : Pu) (w : World), (callFunc fn (#[.agg #[.string x.key, .string x.val, .bool x.gone]] ++ caps)).run Try.prog w = .ok (.enter fn (#[.agg #[.string x.key, .string x.val, .bool x.gone]] ++ caps)) w) (H : ClU w.heap.size fn caps f L w) (hM : Pus w a L) :
    Calls Try.prog 99 #[.slice a n c, .func (.func fn) #[] caps] w fun e w' => (∃ k : Int, e = .returned (.int .i64 k) ∧ FsG f L k) ∧ Below w.heap.size w w' := by
  have HN := Lib.hid hn
  have HM := Lib.hid hM
  have HC := Lib.hid H
  clear hn hM H
  go_enter Try.func99, Try.ntmps99
  go_wp2_with fail
  go_loopw [8] (fun u wr => ∃ k : Nat, k ≤ n ∧ u = .int .i64 k ∧ (∀ i, i < k → ∀ y : Pu, L[i]? = some y → f y = false) ∧ Below w.heap.size w wr) (fun u _ => n - (intOf u).toNat)
  case atStart => exact ⟨0, Nat.zero_le _, rfl, fun i hi => absurd hi (Nat.not_lt_zero _), Below.refl _ _⟩
  case round =>
    obtain ⟨k, hk, rfl, hf, B⟩ := hrel
    have HFB := Lib.hid hf
    clear hf
    by_cases hlt : k < n
    · obtain ⟨x, hx⟩ : ∃ x, L[k]? = some x := ⟨_, List.getElem?_eq_getElem (by rw [HN.out]; exact hlt)⟩
      obtain ⟨b, off, rfl, hb, p0, p1, p2⟩ := Pus.cells (HM.out.later B) hx
      have HBB := Lib.hid B
      have HX := Lib.hid hx
      have hxm := List.mem_of_getElem? hx
      have i0 : (0 : Int) ≤ (k : Int) := by omega
      have i1 : (k : Int) < (n : Int) := by omega
      clear hx B
      go_wp2_with fail
      refine (HC.out x hxm _ HBB.out).mono ?_
      rintro e w2 ⟨rfl, hb2⟩
      have HB3 := Lib.hid (HBB.out.trans (hb2.mono HBB.out.size))
      clear hb2
      by_cases he : f x = true
      · rw [he]
        have HT := Lib.hid (show FsG f L k from Or.inr ⟨k, x, rfl, HX.out, he, HFB.out⟩)
        clear he
        go_wp2_with fail
        go_ret
        exact ⟨⟨k, rfl, HT.out⟩, HB3.out⟩
      · have he : f x = false := by simpa using he
        rw [he]
        have HT := Lib.hid (show ∀ i, i < k + 1 → ∀ y : Pu, L[i]? = some y → f y = false from fun i hi y hy => by
          by_cases hik : i = k
          · subst hik; have := HX.out; rw [hy] at this; cases this; exact he
          · exact HFB.out i (by omega) y hy)
        clear he
        go_wp2_with fail
        go_roundw
        case rel => exact ⟨k + 1, by omega, by go_num, HT.out, HB3.out⟩
        case measure => simp [intOf]; omega
    · have HT := Lib.hid (show FsG f L (-1) from Or.inl ⟨rfl, fun y hy => by
        obtain ⟨j, hj⟩ := List.mem_iff_getElem?.1 hy
        exact HFB.out j (by have := (List.getElem?_eq_some_iff.1 hj).1; have := HN.out; omega) y hj⟩)
      go_wp2_with fail
      go_ret
      exact ⟨⟨-1, rfl, HT.out⟩, B⟩
set_option maxRecDepth 100000 in
set_option maxHeartbeats 1000000 in
theorem openAt1_any (x : SopM) (h : Nat) (t : Tx) (w : World) (H : TxBox w h t) :
    Calls Try.prog 68 #[soV x, .pointer (some ⟨h, 0, none⟩)] w fun e w' => e = .returned (.bool (decide (x.x.t = t))) ∧ Below w.heap.size w w' := by
  obtain ⟨⟨⟨xa, xi⟩, xf, xw, xp⟩, pa, pc⟩ := x
  obtain ⟨ta, ti⟩ := t
  have BV : Below w.heap.size w (w.alloc (.cells #[.int .u64 (xa : Nat), .int .u64 (xi : Nat), .bool xf, .bool xw, .slice pa xp.length pc] 48)) := (Below.refl _ _).alloc (Nat.le_refl _) _
  obtain ⟨_, q0, q1⟩ := H.later BV
  have HB := Lib.hid BV
  clear H BV
  simp only at q0 q1
  by_cases he : (⟨xa, xi⟩ : Tx) = ⟨ta, ti⟩
  · cases he
    rw [decide_eq_true rfl]
    go_enter Try.func68, Try.ntmps68
    go_wp2_with fail
    go_ret
    exact ⟨by first | rfl | simp, HB.out⟩
  · rw [decide_eq_false he]
    have hcase : (¬ xa = ta) ∨ (¬ xi = ti) := by
      by_cases h1 : xa = ta
      · right; intro h2; exact he (by rw [h1, h2])
      · exact .inl h1
    clear he
    go_enter Try.func68, Try.ntmps68
    rcases hcase with h1 | h1
    · have g1 : ((xa : Int) == (ta : Int)) = false := by simp; omega
      go_wp2_with fail
      go_ret
      exact ⟨by first | rfl | (simp; omega), HB.out⟩
    · have g1 : ((xi : Int) == (ti : Int)) = false := by simp; omega
      go_wp2_with fail
      go_ret
      exact ⟨by first | rfl | (simp; omega), HB.out⟩
theorem openAt1_run (p1 : Value) (x : SopM) (w : World) : (callFunc 68 (#[.agg #[.int .u64 (x.x.t.age : Nat), .int .u64 (x.x.t.id : Nat), .bool x.x.fm, .bool x.x.wd, .slice x.a x.x.puts.length x.c]] ++ #[p1])).run Try.prog w = .ok (.enter 68 (#[.agg #[.int .u64 (x.x.t.age : Nat), .int .u64 (x.x.t.id : Nat), .bool x.x.fm, .bool x.x.wd, .slice x.a x.x.puts.length x.c]] ++ #[p1])) w := by kernel_rfl
set_option maxRecDepth 100000 in
set_option maxHeartbeats 1000000 in
theorem rel1_any (x : SopM) (h : Nat) (t : Tx) (w : World) (H : TxBox w h t) :
    Calls Try.prog 77 #[soV x, .pointer (some ⟨h, 0, none⟩)] w fun e w' => e = .returned (.bool (decide (x.x.t = t))) ∧ Below w.heap.size w w' := by
  obtain ⟨⟨⟨xa, xi⟩, xf, xw, xp⟩, pa, pc⟩ := x
  obtain ⟨ta, ti⟩ := t
  have BV : Below w.heap.size w (w.alloc (.cells #[.int .u64 (xa : Nat), .int .u64 (xi : Nat), .bool xf, .bool xw, .slice pa xp.length pc] 48)) := (Below.refl _ _).alloc (Nat.le_refl _) _
  obtain ⟨_, q0, q1⟩ := H.later BV
  have HB := Lib.hid BV
  clear H BV
  simp only at q0 q1
  by_cases he : (⟨xa, xi⟩ : Tx) = ⟨ta, ti⟩
  · cases he
    rw [decide_eq_true rfl]
    go_enter Try.func77, Try.ntmps77
    go_wp2_with fail
    go_ret
    exact ⟨by first | rfl | simp, HB.out⟩
  · rw [decide_eq_false he]
    have hcase : (¬ xa = ta) ∨ (¬ xi = ti) := by
      by_cases h1 : xa = ta
      · right; intro h2; exact he (by rw [h1, h2])
      · exact .inl h1
    clear he
    go_enter Try.func77, Try.ntmps77
    rcases hcase with h1 | h1
    · have g1 : ((xa : Int) == (ta : Int)) = false := by simp; omega
      go_wp2_with fail
      go_ret
      exact ⟨by first | rfl | (simp; omega), HB.out⟩
    · have g1 : ((xi : Int) == (ti : Int)) = false := by simp; omega
      go_wp2_with fail
      go_ret
      exact ⟨by first | rfl | (simp; omega), HB.out⟩
theorem rel1_run (p1 : Value) (x : SopM) (w : World) : (callFunc 77 (#[.agg #[.int .u64 (x.x.t.age : Nat), .int .u64 (x.x.t.id : Nat), .bool x.x.fm, .bool x.x.wd, .slice x.a x.x.puts.length x.c]] ++ #[p1])).run Try.prog w = .ok (.enter 77 (#[.agg #[.int .u64 (x.x.t.age : Nat), .int .u64 (x.x.t.id : Nat), .bool x.x.fm, .bool x.x.wd, .slice x.a x.x.puts.length x.c]] ++ #[p1])) w := by kernel_rfl
set_option maxRecDepth 100000 in
set_option maxHeartbeats 1000000 in
theorem doneAt1_any (x : Sdn) (h : Nat) (t : Tx) (w : World) (H : TxBox w h t) :
    Calls Try.prog 59 #[sdV x, .pointer (some ⟨h, 0, none⟩)] w fun e w' => e = .returned (.bool (decide (x.t = t))) ∧ Below w.heap.size w w' := by
  obtain ⟨⟨xa, xi⟩, xc⟩ := x
  obtain ⟨ta, ti⟩ := t
  have BV : Below w.heap.size w (w.alloc (.cells #[.int .u64 (xa : Nat), .int .u64 (xi : Nat), .bool xc] 68)) := (Below.refl _ _).alloc (Nat.le_refl _) _
  obtain ⟨_, q0, q1⟩ := H.later BV
  have HB := Lib.hid BV
  clear H BV
  simp only at q0 q1
  by_cases he : (⟨xa, xi⟩ : Tx) = ⟨ta, ti⟩
  · cases he
    rw [decide_eq_true rfl]
    go_enter Try.func59, Try.ntmps59
    go_wp2_with fail
    go_ret
    exact ⟨by first | rfl | simp, HB.out⟩
  · rw [decide_eq_false he]
    have hcase : (¬ xa = ta) ∨ (¬ xi = ti) := by
      by_cases h1 : xa = ta
      · right; intro h2; exact he (by rw [h1, h2])
      · exact .inl h1
    clear he
    go_enter Try.func59, Try.ntmps59
    rcases hcase with h1 | h1
    · have g1 : ((xa : Int) == (ta : Int)) = false := by simp; omega
      go_wp2_with fail
      go_ret
      exact ⟨by first | rfl | (simp; omega), HB.out⟩
    · have g1 : ((xi : Int) == (ti : Int)) = false := by simp; omega
      go_wp2_with fail
      go_ret
      exact ⟨by first | rfl | (simp; omega), HB.out⟩
theorem doneAt1_run (p1 : Value) (x : Sdn) (w : World) : (callFunc 59 (#[.agg #[.int .u64 (x.t.age : Nat), .int .u64 (x.t.id : Nat), .bool x.cm]] ++ #[p1])).run Try.prog w = .ok (.enter 59 (#[.agg #[.int .u64 (x.t.age : Nat), .int .u64 (x.t.id : Nat), .bool x.cm]] ++ #[p1])) w := by kernel_rfl
theorem kixS_first (t : Tx) : ∀ (O : List Sop) (i j : Nat) (x : Sop), O[j]? = some x → x.t = t → (∀ k, k < j → ∀ y : Sop, O[k]? = some y → ¬ y.t = t) → kixS t i O = some (i + j)
  | [], _, _, _, h, _, _ => by simp at h
  | z :: r, i, 0, x, h, hx, _ => by simp only [List.getElem?_cons_zero, Option.some.injEq] at h; subst h; rw [kixS, if_pos hx]; rfl
  | z :: r, i, j + 1, x, h, hx, hl => by
    rw [kixS, if_neg (hl 0 (by omega) z rfl), kixS_first t r (i + 1) j x (by simpa using h) hx fun k hk y hy => hl (k + 1) (by omega) y (by simpa using hy)]
    congr 1; omega
theorem kixS_none (t : Tx) : ∀ (O : List Sop) (i : Nat), (∀ x ∈ O, ¬ x.t = t) → kixS t i O = none
  | [], _, _ => rfl
  | z :: r, i, h => by rw [kixS, if_neg (h z (by simp)), kixS_none t r _ fun x hx => h x (by simp [hx])]
theorem oixS_first (t : Tx) : ∀ (O : List Sdn) (i j : Nat) (x : Sdn), O[j]? = some x → x.t = t → (∀ k, k < j → ∀ y : Sdn, O[k]? = some y → ¬ y.t = t) → oixS t i O = some (i + j)
  | [], _, _, _, h, _, _ => by simp at h
  | z :: r, i, 0, x, h, hx, _ => by simp only [List.getElem?_cons_zero, Option.some.injEq] at h; subst h; rw [oixS, if_pos hx]; rfl
  | z :: r, i, j + 1, x, h, hx, hl => by
    rw [oixS, if_neg (hl 0 (by omega) z rfl), oixS_first t r (i + 1) j x (by simpa using h) hx fun k hk y hy => hl (k + 1) (by omega) y (by simpa using hy)]
    congr 1; omega
theorem oixS_none (t : Tx) : ∀ (O : List Sdn) (i : Nat), (∀ x ∈ O, ¬ x.t = t) → oixS t i O = none
  | [], _, _ => rfl
  | z :: r, i, h => by rw [oixS, if_neg (h z (by simp)), oixS_none t r _ fun x hx => h x (by simp [hx])]
theorem fsG_kix {t : Tx} {M : List SopM} {O : List Sop} (hO : M.map (fun y => y.x) = O) {k : Int} (h : FsG (fun y : SopM => decide (y.x.t = t)) M k) : k = ixI (kixS t 0 O) := by
  subst hO
  rcases h with ⟨rfl, h⟩ | ⟨j, x, rfl, hx, hf, hl⟩
  · rw [kixS_none t _ 0 fun x hx => by
      obtain ⟨y, hy, rfl⟩ := List.mem_map.1 hx
      simpa using h y hy]
    rfl
  · rw [kixS_first t _ 0 j x.x (by rw [List.getElem?_map, hx]; rfl) (by simpa using hf) fun i hi y hy => by
      rw [List.getElem?_map] at hy
      obtain ⟨z, hz, rfl⟩ := Option.map_eq_some_iff.1 hy
      simpa using hl i hi z hz]
    simp [ixI]
theorem fsG_oix {t : Tx} {M : List Sdn} {k : Int} (h : FsG (fun y : Sdn => decide (y.t = t)) M k) : k = ixI (oixS t 0 M) := by
  rcases h with ⟨rfl, h⟩ | ⟨j, x, rfl, hx, hf, hl⟩
  · rw [oixS_none t _ 0 fun x hx => by simpa using h x hx]
    rfl
  · rw [oixS_first t _ 0 j x hx (by simpa using hf) fun i hi y hy => by simpa using hl i hi y hy]
    simp [ixI]
set_option maxRecDepth 100000 in
set_option maxHeartbeats 2000000 in
theorem openAt_any (s : Sh) (A : Sad) (t : Tx) (w : World) (hM : ShM w s A) (hl : s.opn.length ≤ 140737488351232) :
    Calls Try.prog 45 #[shV s A, txV t] w fun e w' => e = .returned (.int .i64 (ixI (kixS t 0 s.opn))) ∧ Below w.heap.size w w' := by
  obtain ⟨ta, ti⟩ := t
  obtain ⟨W, hW⟩ : ∃ W, (w.alloc (.cells #[.slice A.ra s.rows.length A.rc, .slice A.ha s.holds.length A.hc, .slice A.oa s.opn.length A.oc, .slice A.da s.done.length A.dc, .int .u64 (s.ver : Nat)] 28)).alloc (.cells #[.int .u64 (ta : Nat), .int .u64 (ti : Nat)] 30) = W := ⟨_, rfl⟩
  obtain ⟨x2, hx2⟩ : ∃ x, w.heap.size = x := ⟨_, rfl⟩
  have hBX : Below w.heap.size w W ∧ W.cell? ⟨x2, 2, none⟩ = some (.slice A.oa s.opn.length A.oc) ∧ TxBox W (x2 + 1) ⟨ta, ti⟩ := by
    rw [← hW, ← hx2]
    exact ⟨by go_grown, by simp [go_sem], ⟨by simp, by simp [go_sem], by simp [go_sem]⟩⟩
  obtain ⟨hB, c2, hT⟩ := hBX
  have HI := Lib.hid (indexO_any 68 #[.pointer (some ⟨x2 + 1, 0, none⟩)] (fun y => decide (y.x.t = ⟨ta, ti⟩)) s.opn.length A.oc A.oa A.om hM.olen hl W (openAt1_run _) (fun x _ w' hb => openAt1_any x _ ⟨ta, ti⟩ w' (hT.later hb)) (hM.opn.later hB))
  have HE := Lib.hid (fun k (h : FsG (fun y => decide (y.x.t = (⟨ta, ti⟩ : Tx))) A.om k) => fsG_kix hM.om h)
  have HB := Lib.hid hB
  have HW := Lib.hid hW
  have HX2 := Lib.hid hx2
  clear hM hB hT hW hx2 hl
  go_enter Try.func45, Try.ntmps45
  go_wp2_with fail
  rw [HW.out, HX2.out]
  refine HI.out.mono ?_
  rintro e w1 ⟨⟨k, rfl, hk⟩, hb1⟩
  have HK := Lib.hid (HE.out k hk)
  have HB1 := Lib.hid (HB.out.trans (hb1.mono HB.out.size))
  clear hk hb1 c2
  go_wp2_with fail
  go_ret
  exact ⟨by rw [HK.out]; first | rfl | simp, HB1.out⟩
set_option maxRecDepth 100000 in
set_option maxHeartbeats 2000000 in
theorem doneAt_any (s : Sh) (A : Sad) (t : Tx) (w : World) (hM : ShM w s A) (hl : s.done.length ≤ 140737488351232) :
    Calls Try.prog 39 #[shV s A, txV t] w fun e w' => e = .returned (.int .i64 (ixI (oixS t 0 s.done))) ∧ Below w.heap.size w w' := by
  obtain ⟨ta, ti⟩ := t
  obtain ⟨W, hW⟩ : ∃ W, (w.alloc (.cells #[.slice A.ra s.rows.length A.rc, .slice A.ha s.holds.length A.hc, .slice A.oa s.opn.length A.oc, .slice A.da s.done.length A.dc, .int .u64 (s.ver : Nat)] 28)).alloc (.cells #[.int .u64 (ta : Nat), .int .u64 (ti : Nat)] 30) = W := ⟨_, rfl⟩
  obtain ⟨x2, hx2⟩ : ∃ x, w.heap.size = x := ⟨_, rfl⟩
  have hBX : Below w.heap.size w W ∧ W.cell? ⟨x2, 3, none⟩ = some (.slice A.da s.done.length A.dc) ∧ TxBox W (x2 + 1) ⟨ta, ti⟩ := by
    rw [← hW, ← hx2]
    exact ⟨by go_grown, by simp [go_sem], ⟨by simp, by simp [go_sem], by simp [go_sem]⟩⟩
  obtain ⟨hB, c2, hT⟩ := hBX
  have HI := Lib.hid (indexDn_any 59 #[.pointer (some ⟨x2 + 1, 0, none⟩)] (fun y => decide (y.t = ⟨ta, ti⟩)) s.done.length A.dc A.da s.done rfl hl W (doneAt1_run _) (fun x _ w' hb => doneAt1_any x _ ⟨ta, ti⟩ w' (hT.later hb)) (hM.done.later hB))
  have HE := Lib.hid (fun k (h : FsG (fun y => decide (y.t = (⟨ta, ti⟩ : Tx))) s.done k) => fsG_oix h)
  have HB := Lib.hid hB
  have HW := Lib.hid hW
  have HX2 := Lib.hid hx2
  clear hM hB hT hW hx2 hl
  go_enter Try.func39, Try.ntmps39
  go_wp2_with fail
  rw [HW.out, HX2.out]
  refine HI.out.mono ?_
  rintro e w1 ⟨⟨k, rfl, hk⟩, hb1⟩
  have HK := Lib.hid (HE.out k hk)
  have HB1 := Lib.hid (HB.out.trans (hb1.mono HB.out.size))
  clear hk hb1 c2
  go_wp2_with fail
  go_ret
  exact ⟨by rw [HK.out]; first | rfl | simp, HB1.out⟩
set_option maxRecDepth 100000 in
theorem tooLate_any (x : Sdn) (w : World) :
    Calls Try.prog 40 #[sdV x] w fun e w' => e = .returned (ansV (ansC 13 x.cm)) ∧ Below w.heap.size w w' := by
  obtain ⟨⟨xa, xi⟩, xc⟩ := x
  go_enter Try.func40, Try.ntmps40
  go_wp2_with fail
  refine bodyPost_ret (v := ansV (ansC 13 xc)) (by simp [results, Try.results40, go_sem, ansC]) rfl ?_
  exact ⟨rfl, by go_grown⟩
set_option maxRecDepth 100000 in
theorem full_any (s : Sh) (A : Sad) (w : World) (h1 : s.opn.length ≤ 140737488351232) (h2 : s.done.length ≤ 140737488351232) :
    Calls Try.prog 60 #[shV s A] w fun e w' => e = .returned (.bool (decide (64 ≤ s.opn.length + s.done.length))) ∧ Below w.heap.size w w' := by
  rw [show shV s A = .agg #[.slice A.ra s.rows.length A.rc, .slice A.ha s.holds.length A.hc, .slice A.oa s.opn.length A.oc, .slice A.da s.done.length A.dc, .int .u64 (s.ver : Nat)] from rfl]
  generalize s.opn.length = n at *
  generalize s.done.length = m at *
  by_cases h : 64 ≤ n + m
  · rw [decide_eq_true h]
    go_enter Try.func60, Try.ntmps60
    go_wp2_with fail
    go_ret
    exact ⟨by first | rfl | (simp; omega), by go_grown⟩
  · rw [decide_eq_false h]
    go_enter Try.func60, Try.ntmps60
    go_wp2_with fail
    go_ret
    exact ⟨by first | rfl | (simp; omega), by go_grown⟩
end Go.Proofs.Ythgnecggdlamfaa
