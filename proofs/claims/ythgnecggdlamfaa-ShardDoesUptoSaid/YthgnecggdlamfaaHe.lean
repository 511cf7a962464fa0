/- Where a row lies: slices.IndexFunc at the closures of place, with, without; place, Get: the program's. -/
import Derived.Test.YthgnecggdlamfaaHa
import Derived.Test.YthgnecggdlamfaaUg
import Derived.Test.YthgnecggdlamfaaTa
namespace Go.Proofs.Ythgnecggdlamfaa
open Go.RowKit

/-- Where the first one lies of which f is true. -/
def FsI (f : Ro → Bool) (L : List Ro) (k : Int) : Prop := (k = -1 ∧ ∀ x ∈ L, f x = false) ∨ ∃ (j : Nat) (x : Ro), k = (j : Int) ∧ L[j]? = some x ∧ f x = true ∧ ∀ i, i < j → ∀ y : Ro, L[i]? = some y → f y = false
set_option maxRecDepth 100000 in
set_option maxHeartbeats 2000000 in
theorem indexP_any (h n c : Nat) (key : ByteArray) (a : Option Addr) (L : List Ro) (hn : L.length = n) (hl : n ≤ 140737488351232) (w : World) (H : Kb w h key) (hM : Ros w a L) :
    Calls Try.prog 86 #[.slice a n c, .func (.func 87) #[] #[.pointer (some ⟨h, 0, none⟩)]] w fun e w' => (∃ k : Int, e = .returned (.int .i64 k) ∧ FsI (fun x => decide (x.key = key)) L k) ∧ Below w.heap.size w w' := by
  obtain ⟨f, hf⟩ : ∃ f : Ro → Bool, (fun x => decide (x.key = key)) = f := ⟨_, rfl⟩
  have HN := Lib.hid hn
  have HM := Lib.hid hM
  have HH := Lib.hid H
  have HC := Lib.hid (fun (x : Ro) w' (h' : Kb w' h key) => place1_any x h key w' h')
  have HFX := Lib.hid (fun x : Ro => congrFun hf x)
  rw [hf]
  clear hn hM H hf
  go_enter Try.func86, Try.ntmps86
  go_wp2_with fail
  go_loopw [8] (fun u wr => ∃ k : Nat, k ≤ n ∧ u = .int .i64 k ∧ (∀ i, i < k → ∀ y : Ro, L[i]? = some y → f y = false) ∧ Below w.heap.size w wr) (fun u _ => n - (intOf u).toNat)
  case atStart => exact ⟨0, Nat.zero_le _, rfl, fun i hi => absurd hi (Nat.not_lt_zero _), Below.refl _ _⟩
  case round =>
    obtain ⟨k, hk, rfl, hf, B⟩ := hrel
    have HFB := Lib.hid hf
    clear hf
    by_cases hlt : k < n
    · obtain ⟨x, hx⟩ : ∃ x, L[k]? = some x := ⟨_, List.getElem?_eq_getElem (by rw [HN.out]; exact hlt)⟩
      obtain ⟨b, off, rfl, hb, p0, p1, p2⟩ := Ros.cells (HM.out.later B) hx
      have HNB := Lib.hid (HH.out.later B)
      have HBB := Lib.hid B
      have HX := Lib.hid hx
      have i0 : (0 : Int) ≤ (k : Int) := by omega
      have i1 : (k : Int) < (n : Int) := by omega
      clear hx B
      go_wp2_with fail
      refine (HC.out x _ HNB.out).mono ?_
      rintro e w2 ⟨rfl, hb2⟩
      have HB3 := Lib.hid (HBB.out.trans (hb2.mono HBB.out.size))
      have hfx := HFX.out x
      try simp only at hfx
      rw [hfx]
      clear hb2 hfx
      by_cases he : f x = true
      · rw [he]
        have HT := Lib.hid (show FsI f L k from Or.inr ⟨k, x, rfl, HX.out, he, HFB.out⟩)
        clear he
        go_wp2_with fail
        go_ret
        exact ⟨⟨k, rfl, HT.out⟩, HB3.out⟩
      · have he : f x = false := by simpa using he
        rw [he]
        have HT := Lib.hid (show ∀ i, i < k + 1 → ∀ y : Ro, L[i]? = some y → f y = false from fun i hi y hy => by
          by_cases hik : i = k
          · subst hik; have := HX.out; rw [hy] at this; cases this; exact he
          · exact HFB.out i (by omega) y hy)
        clear he
        go_wp2_with fail
        go_roundw
        case rel => exact ⟨k + 1, by omega, by go_num, HT.out, HB3.out⟩
        case measure => simp [intOf]; omega
    · have HT := Lib.hid (show FsI f L (-1) from Or.inl ⟨rfl, fun y hy => by
        obtain ⟨j, hj⟩ := List.mem_iff_getElem?.1 hy
        exact HFB.out j (by have := (List.getElem?_eq_some_iff.1 hj).1; have := HN.out; omega) y hj⟩)
      go_wp2_with fail
      go_ret
      exact ⟨⟨-1, rfl, HT.out⟩, B⟩
set_option maxRecDepth 100000 in
set_option maxHeartbeats 2000000 in
theorem indexD_any (h n c : Nat) (key : ByteArray) (a : Option Addr) (L : List Ro) (hn : L.length = n) (hl : n ≤ 140737488351232) (w : World) (H : Kb w h key) (hM : Ros w a L) :
    Calls Try.prog 86 #[.slice a n c, .func (.func 103) #[] #[.pointer (some ⟨h, 0, none⟩)]] w fun e w' => (∃ k : Int, e = .returned (.int .i64 k) ∧ FsI (fun x => decide (x.key = key)) L k) ∧ Below w.heap.size w w' := by
  obtain ⟨f, hf⟩ : ∃ f : Ro → Bool, (fun x => decide (x.key = key)) = f := ⟨_, rfl⟩
  have HN := Lib.hid hn
  have HM := Lib.hid hM
  have HH := Lib.hid H
  have HC := Lib.hid (fun (x : Ro) w' (h' : Kb w' h key) => without1_any x h key w' h')
  have HFX := Lib.hid (fun x : Ro => congrFun hf x)
  rw [hf]
  clear hn hM H hf
  go_enter Try.func86, Try.ntmps86
  go_wp2_with fail
  go_loopw [8] (fun u wr => ∃ k : Nat, k ≤ n ∧ u = .int .i64 k ∧ (∀ i, i < k → ∀ y : Ro, L[i]? = some y → f y = false) ∧ Below w.heap.size w wr) (fun u _ => n - (intOf u).toNat)
  case atStart => exact ⟨0, Nat.zero_le _, rfl, fun i hi => absurd hi (Nat.not_lt_zero _), Below.refl _ _⟩
  case round =>
    obtain ⟨k, hk, rfl, hf, B⟩ := hrel
    have HFB := Lib.hid hf
    clear hf
    by_cases hlt : k < n
    · obtain ⟨x, hx⟩ : ∃ x, L[k]? = some x := ⟨_, List.getElem?_eq_getElem (by rw [HN.out]; exact hlt)⟩
      obtain ⟨b, off, rfl, hb, p0, p1, p2⟩ := Ros.cells (HM.out.later B) hx
      have HNB := Lib.hid (HH.out.later B)
      have HBB := Lib.hid B
      have HX := Lib.hid hx
      have i0 : (0 : Int) ≤ (k : Int) := by omega
      have i1 : (k : Int) < (n : Int) := by omega
      clear hx B
      go_wp2_with fail
      refine (HC.out x _ HNB.out).mono ?_
      rintro e w2 ⟨rfl, hb2⟩
      have HB3 := Lib.hid (HBB.out.trans (hb2.mono HBB.out.size))
      have hfx := HFX.out x
      try simp only at hfx
      rw [hfx]
      clear hb2 hfx
      by_cases he : f x = true
      · rw [he]
        have HT := Lib.hid (show FsI f L k from Or.inr ⟨k, x, rfl, HX.out, he, HFB.out⟩)
        clear he
        go_wp2_with fail
        go_ret
        exact ⟨⟨k, rfl, HT.out⟩, HB3.out⟩
      · have he : f x = false := by simpa using he
        rw [he]
        have HT := Lib.hid (show ∀ i, i < k + 1 → ∀ y : Ro, L[i]? = some y → f y = false from fun i hi y hy => by
          by_cases hik : i = k
          · subst hik; have := HX.out; rw [hy] at this; cases this; exact he
          · exact HFB.out i (by omega) y hy)
        clear he
        go_wp2_with fail
        go_roundw
        case rel => exact ⟨k + 1, by omega, by go_num, HT.out, HB3.out⟩
        case measure => simp [intOf]; omega
    · have HT := Lib.hid (show FsI f L (-1) from Or.inl ⟨rfl, fun y hy => by
        obtain ⟨j, hj⟩ := List.mem_iff_getElem?.1 hy
        exact HFB.out j (by have := (List.getElem?_eq_some_iff.1 hj).1; have := HN.out; omega) y hj⟩)
      go_wp2_with fail
      go_ret
      exact ⟨⟨-1, rfl, HT.out⟩, B⟩
set_option maxRecDepth 100000 in
set_option maxHeartbeats 2000000 in
theorem indexW_any (h n c : Nat) (key : ByteArray) (a : Option Addr) (L : List Ro) (hn : L.length = n) (hl : n ≤ 140737488351232) (w : World) (H : Kb w h key) (hM : Ros w a L) :
    Calls Try.prog 86 #[.slice a n c, .func (.func 104) #[] #[.pointer (some ⟨h, 0, none⟩)]] w fun e w' => (∃ k : Int, e = .returned (.int .i64 k) ∧ FsI (fun x => lessB key x.key) L k) ∧ Below w.heap.size w w' := by
  obtain ⟨f, hf⟩ : ∃ f : Ro → Bool, (fun x => lessB key x.key) = f := ⟨_, rfl⟩
  have HN := Lib.hid hn
  have HM := Lib.hid hM
  have HH := Lib.hid H
  have HC := Lib.hid (fun (x : Ro) w' (h' : Kb w' h key) => with1_any x h key w' h')
  have HFX := Lib.hid (fun x : Ro => congrFun hf x)
  rw [hf]
  clear hn hM H hf
  go_enter Try.func86, Try.ntmps86
  go_wp2_with fail
  go_loopw [8] (fun u wr => ∃ k : Nat, k ≤ n ∧ u = .int .i64 k ∧ (∀ i, i < k → ∀ y : Ro, L[i]? = some y → f y = false) ∧ Below w.heap.size w wr) (fun u _ => n - (intOf u).toNat)
  case atStart => exact ⟨0, Nat.zero_le _, rfl, fun i hi => absurd hi (Nat.not_lt_zero _), Below.refl _ _⟩
  case round =>
    obtain ⟨k, hk, rfl, hf, B⟩ := hrel
    have HFB := Lib.hid hf
    clear hf
    by_cases hlt : k < n
    · obtain ⟨x, hx⟩ : ∃ x, L[k]? = some x := ⟨_, List.getElem?_eq_getElem (by rw [HN.out]; exact hlt)⟩
      obtain ⟨b, off, rfl, hb, p0, p1, p2⟩ := Ros.cells (HM.out.later B) hx
      have HNB := Lib.hid (HH.out.later B)
      have HBB := Lib.hid B
      have HX := Lib.hid hx
      have i0 : (0 : Int) ≤ (k : Int) := by omega
      have i1 : (k : Int) < (n : Int) := by omega
      clear hx B
      go_wp2_with fail
      refine (HC.out x _ HNB.out).mono ?_
      rintro e w2 ⟨rfl, hb2⟩
      have HB3 := Lib.hid (HBB.out.trans (hb2.mono HBB.out.size))
      have hfx := HFX.out x
      try simp only at hfx
      rw [hfx]
      clear hb2 hfx
      by_cases he : f x = true
      · rw [he]
        have HT := Lib.hid (show FsI f L k from Or.inr ⟨k, x, rfl, HX.out, he, HFB.out⟩)
        clear he
        go_wp2_with fail
        go_ret
        exact ⟨⟨k, rfl, HT.out⟩, HB3.out⟩
      · have he : f x = false := by simpa using he
        rw [he]
        have HT := Lib.hid (show ∀ i, i < k + 1 → ∀ y : Ro, L[i]? = some y → f y = false from fun i hi y hy => by
          by_cases hik : i = k
          · subst hik; have := HX.out; rw [hy] at this; cases this; exact he
          · exact HFB.out i (by omega) y hy)
        clear he
        go_wp2_with fail
        go_roundw
        case rel => exact ⟨k + 1, by omega, by go_num, HT.out, HB3.out⟩
        case measure => simp [intOf]; omega
    · have HT := Lib.hid (show FsI f L (-1) from Or.inl ⟨rfl, fun y hy => by
        obtain ⟨j, hj⟩ := List.mem_iff_getElem?.1 hy
        exact HFB.out j (by have := (List.getElem?_eq_some_iff.1 hj).1; have := HN.out; omega) y hj⟩)
      go_wp2_with fail
      go_ret
      exact ⟨⟨-1, rfl, HT.out⟩, B⟩
theorem Kb.new (w : World) (k : ByteArray) (T : TypeId) : Kb (w.alloc (.cells #[.string k] T)) w.heap.size k := ⟨by simp [go_sem], by simp⟩
set_option maxHeartbeats 1000000 in
theorem place_any (key : ByteArray) (n c : Nat) (a : Option Addr) (L : List Ro) (hn : L.length = n) (hl : n ≤ 140737488351232) (w : World) (hM : Ros w a L) :
    Calls Try.prog 69 #[.slice a n c, .string key] w fun e w' => (∃ k : Int, e = .returned (.int .i64 k) ∧ FsI (fun x => decide (x.key = key)) L k) ∧ Below w.heap.size w w' := by
  obtain ⟨W, hW⟩ : ∃ W, w.alloc (.cells #[.string key] 9) = W := ⟨_, rfl⟩
  have HK := Lib.hid (show Kb W w.heap.size key from hW ▸ Kb.new w key _)
  have B1 : Below w.heap.size w W := hW ▸ (Below.refl _ _).alloc (Nat.le_refl _) _
  have HB := Lib.hid B1
  have HM := Lib.hid (hM.later B1)
  clear hM B1
  go_enter Try.func69, Try.ntmps69
  go_wp2_with fail
  refine (indexP_any w.heap.size n c key a L hn hl W HK.out HM.out).mono ?_
  rintro e w2 ⟨⟨k, rfl, hk⟩, hb2⟩
  have HF := Lib.hid hk
  have HB2 := Lib.hid (HB.out.trans (hb2.mono HB.out.size))
  clear hk hb2
  go_wp2_with fail
  go_ret
  exact ⟨⟨k, rfl, HF.out⟩, HB2.out⟩
theorem getR_first (key : ByteArray) : ∀ (L : List Ro) (j : Nat) (x : Ro), L[j]? = some x → x.key = key → (∀ i, i < j → ∀ y : Ro, L[i]? = some y → y.key ≠ key) → getR key L = some x
  | [], j, x, h, _, _ => by simp at h
  | z :: r, 0, x, h, hx, _ => by obtain rfl : z = x := by simpa using h
                                 simp [getR, hx]
  | z :: r, j + 1, x, h, hx, hlt => by
    have hz : ¬ z.key = key := hlt 0 (by omega) z rfl
    rw [getR, if_neg hz]
    exact getR_first key r j x (by simpa using h) hx fun i hi y hy => hlt (i + 1) (by omega) y (by simpa using hy)
theorem getR_no (key : ByteArray) (L : List Ro) (h : ∀ x ∈ L, ¬ x.key = key) : getR key L = none := by
  induction L with
  | nil => rfl
  | cons z r ih => rw [getR, if_neg (h z (by simp))]; exact ih fun x hx => h x (by simp [hx])
set_option maxHeartbeats 1000000 in
theorem pGet_any (key : ByteArray) (n c : Nat) (a : Option Addr) (L : List Ro) (hn : L.length = n) (hl : n ≤ 140737488351232) (w : World) (hM : Ros w a L) :
    Calls Try.prog 46 #[.slice a n c, .string key] w fun e w' => e = .returned (.tuple #[roV ((getR key L).getD z0), .bool (getR key L).isSome]) ∧ Below w.heap.size w w' := by
  have HN := Lib.hid hn
  obtain ⟨W, hW⟩ : ∃ W, w.alloc (.cells #[.string ⟨#[]⟩, .string ⟨#[]⟩, .int .u64 0] 50) = W := ⟨_, rfl⟩
  obtain ⟨x4, hx4⟩ : ∃ x4, w.heap.size = x4 := ⟨_, rfl⟩
  have HR : B3 W x4 (.string ⟨#[]⟩) (.string ⟨#[]⟩) (.int .u64 0) := hW ▸ B3.new hx4.symm _ _ _ _
  have B1 : Below w.heap.size w W := hW ▸ (Below.refl _ _).alloc (Nat.le_refl _) _
  have hfz : ∀ o, W.frozen? ⟨x4, o, none⟩ = false := fun o => by rw [← hW, ← hx4]; exact World.frozen?_alloc_at (w := w) _ _ w.heap.size o rfl
  have HB := Lib.hid B1
  have HM := Lib.hid (hM.later B1)
  have HX := Lib.hid hx4
  clear hM B1 hn
  go_enter Try.func46, Try.ntmps46
  go_wp2_with fail
  refine (place_any key n c a L HN.out hl W HM.out).mono ?_
  rintro e w2 ⟨⟨k, rfl, hk⟩, hb2⟩
  have HB2 := Lib.hid (HB.out.trans (hb2.mono HB.out.size))
  have HM2 := Lib.hid (HM.out.later hb2)
  obtain ⟨c0, c1, c2, lt⟩ := HR.later hb2
  have z0' : w2.frozen? ⟨x4, 0, none⟩ = false := (World.frozen?_of_block (a := ⟨x4, 0, none⟩) (hb2.block x4 HR.lt)).trans (hfz 0)
  have z1 : w2.frozen? ⟨x4, 1, none⟩ = false := (World.frozen?_of_block (a := ⟨x4, 1, none⟩) (hb2.block x4 HR.lt)).trans (hfz 1)
  have z2 : w2.frozen? ⟨x4, 2, none⟩ = false := (World.frozen?_of_block (a := ⟨x4, 2, none⟩) (hb2.block x4 HR.lt)).trans (hfz 2)
  have HS := Lib.hid (show ∀ u v z : Value, Below w.heap.size w (((w2.setCell ⟨x4, 0, none⟩ u).setCell ⟨x4, 1, none⟩ v).setCell ⟨x4, 2, none⟩ z) from fun u v z =>
    (((HB2.out.setCell (p := ⟨x4, 0, none⟩) (Nat.le_of_eq hx4) u).setCell (p := ⟨x4, 1, none⟩) (Nat.le_of_eq hx4) v).setCell (p := ⟨x4, 2, none⟩) (Nat.le_of_eq hx4) z))
  clear hb2 HR hfz
  rcases hk with ⟨rfl, hall⟩ | ⟨j, x, rfl, hx, hfx, hlt⟩
  · have HG := Lib.hid (getR_no key L fun y hy => of_decide_eq_false (hall y hy))
    clear hall
    go_wp2_with fail
    exact bodyPost_ret (v := .tuple #[roV z0, .bool false]) (by simp [results, Try.results46, go_sem, z0, c0, c1, c2]) rfl ⟨by rw [HG.out]; rfl, HS.out _ _ _⟩
  · have HG := Lib.hid (getR_first key L j x hx (of_decide_eq_true hfx) fun i hi y hy => of_decide_eq_false (hlt i hi y hy))
    obtain ⟨b, off, rfl, hb, p0, p1, p2⟩ := Ros.cells HM2.out hx
    have hjn := (List.getElem?_eq_some_iff.1 hx).1
    have hjn2 : j < n := by have := HN.out; omega
    have i0 : (0 : Int) ≤ (j : Int) := by omega
    have i1 : (j : Int) < (n : Int) := by omega
    have i2 : ¬ (j : Int) < 0 := by omega
    clear hx hfx hlt hjn
    obtain ⟨xk, xv, xn⟩ := x
    simp only at p0 p1 p2
    go_wp2_with fail
    exact bodyPost_ret (v := .tuple #[roV ⟨xk, xv, xn⟩, .bool true]) (by simp [results, Try.results46, go_sem, c0, c1, c2]) rfl ⟨by rw [HG.out]; rfl, HS.out _ _ _⟩
end Go.Proofs.Ythgnecggdlamfaa
/- A list without a key: slices.Clone, slices.DeleteFunc, without: the program's. -/
namespace Go.Proofs.Ythgnecggdlamfaa
open Go.RowKit

set_option maxHeartbeats 1000000 in
/-- slices.Clone. -/
theorem cloneR_any (n c : Nat) (a : Option Addr) (L : List Ro) (hn : L.length = n) (hl : n * 40 ≤ 140737488355328) (w : World) (hM : Ros w a L) :
    Calls Try.prog 34 #[.slice a n c] w (ClP 50 3 roC w L) := by
  cases a with
  | none =>
    have hL : L = [] := by
      cases L with
      | nil => rfl
      | cons x r => obtain ⟨b, off, e, _⟩ := hM.addr (by simp); cases e
    subst hL
    clear hl hn hM
    have q22 : ∀ (w : World) (a : Option Addr) (n c n' c' : Nat), (binOp .eql 22 (.slice a n c) (.slice none n' c')).run Try.prog w = .ok (.bool a.isNone) w := fun w a n c n' c' => Lib.run_eql_slice_nil w _ _ a n c n' c' Try.underlying22
    go_enter Try.func34, Try.ntmps34
    go_wp2_with fail
    go_ret
    exact ⟨_, rfl, Cq.nil _ _ none, Below.refl _ _⟩
  | some p =>
    have B0 : Below w.heap.size w (w.alloc (.cells #[] 50)) := (Below.refl _ _).alloc (Nat.le_refl _) _
    obtain ⟨v', w', hr, hc, hb⟩ := app_rw roT w.heap.size (w.alloc (.cells #[] 50)) 22 (.slice (some ⟨w.heap.size, 0, none⟩) 0 0) [] (Cq.nil _ _ _) (some p) n c L hn (hM.later B0) (by simpa using hl) (by simp)
    have HR := Lib.hid hr
    have HC := Lib.hid (And.intro hc (B0.trans hb))
    clear hr hc hb hM hn B0 hl
    have q22 : ∀ (w : World) (a : Option Addr) (n c n' c' : Nat), (binOp .eql 22 (.slice a n c) (.slice none n' c')).run Try.prog w = .ok (.bool a.isNone) w := fun w a n c n' c' => Lib.run_eql_slice_nil w _ _ a n c n' c' Try.underlying22
    go_enter Try.func34, Try.ntmps34
    go_wp2_with (at_builtin; refine Lib.wpList_append_run _ rfl _ _ 22 22 rfl (.slice (some ⟨w.heap.size, 0, none⟩) 0 0) (.slice (some p) n c) rfl rfl _ _ HR.out ?_)
    go_wp2_with fail
    go_ret
    exact ⟨_, rfl, HC.out.1, HC.out.2⟩
/-- How far a row has been gone through: what stays of the first j, others, the rest as it was. -/
structure Ks {α : Type} (kp : α → Bool) (L C : List α) (i j : Nat) : Prop where
  lt : i < j
  le : j ≤ L.length
  len : C.length = L.length
  hd : C.take i = (L.take j).filter kp
  tl : ∀ t, j ≤ t → C[t]? = L[t]?
theorem Ks.start {α : Type} {kp : α → Bool} {L : List α} {j : Nat} {x : α} (hx : L[j]? = some x) (h1 : kp x = false) (h2 : ∀ i, i < j → ∀ y : α, L[i]? = some y → kp y = true) : Ks kp L L j (j + 1) := by
  have hj := (List.getElem?_eq_some_iff.1 hx).1
  refine ⟨Nat.lt_succ_self _, hj, rfl, ?_, fun t _ => rfl⟩
  rw [List.take_add_one, hx, List.filter_append]
  have e1 : (L.take j).filter kp = L.take j := List.filter_eq_self.2 fun y hy => by
    obtain ⟨i, hi⟩ := List.mem_iff_getElem?.1 hy
    have hl := (List.getElem?_eq_some_iff.1 hi).1
    rw [List.length_take] at hl
    rw [List.getElem?_take_of_lt (by omega)] at hi
    exact h2 i (by omega) y hi
  rw [e1]; simp [h1]
theorem Ks.skip {α : Type} {kp : α → Bool} {L C : List α} {i j : Nat} {x : α} (h : Ks kp L C i j) (hx : L[j]? = some x) (h1 : kp x = false) : Ks kp L C i (j + 1) := by
  have hj := (List.getElem?_eq_some_iff.1 hx).1
  refine ⟨Nat.lt_succ_of_lt h.lt, hj, h.len, ?_, fun t ht => h.tl t (by omega)⟩
  rw [h.hd, List.take_add_one, hx, List.filter_append]; simp [h1]
theorem Ks.keep {α : Type} {kp : α → Bool} {L C : List α} {i j : Nat} {x : α} (h : Ks kp L C i j) (hx : L[j]? = some x) (h1 : kp x = true) : Ks kp L (C.set i x) (i + 1) (j + 1) := by
  have hj := (List.getElem?_eq_some_iff.1 hx).1
  have hi : i < C.length := by have := h.lt; have := h.len; omega
  refine ⟨Nat.succ_lt_succ h.lt, hj, by rw [List.length_set]; exact h.len, ?_, fun t ht => ?_⟩
  · rw [List.take_add_one, List.take_set_of_le (Nat.le_refl _), List.getElem?_set, if_pos rfl, if_pos hi, h.hd, List.take_add_one, hx, List.filter_append]; simp [h1]
  · rw [List.getElem?_set, if_neg (by have := h.lt; omega)]; exact h.tl t (by omega)
theorem Ks.done {α : Type} {kp : α → Bool} {L C : List α} {i j : Nat} (h : Ks kp L C i j) (hj : j = L.length) : C.take i = L.filter kp := by
  rw [h.hd, hj, List.take_length]
theorem delR_filter (key : ByteArray) : ∀ L : List Ro, delR key L = L.filter fun x => !decide (x.key = key)
  | [] => rfl
  | x :: r => by
    rw [delR, delR_filter key r, List.filter_cons]
    by_cases h : x.key = key
    · simp [h]
    · simp [h]
theorem zeroRo (w : World) : (zeroValue 50).run Try.prog w = .ok (.agg #[.string ⟨#[]⟩, .string ⟨#[]⟩, .int .u64 0]) w := Try.zeroValue50 w
/-- Rows at the head of a block. -/
abbrev HdR (w : World) (g n : Nat) (C : List Ro) : Prop := Hd 50 3 roC w g n C
theorem HdR.cells {w : World} {g n : Nat} {C : List Ro} (h : HdR w g n C) {j : Nat} {x : Ro} (hx : C[j]? = some x) : w.cell? ⟨g, j * 3, none⟩ = some (.string x.key) ∧ w.cell? ⟨g, j * 3 + 1, none⟩ = some (.string x.val) ∧ w.cell? ⟨g, j * 3 + 2, none⟩ = some (.int .u64 (x.ver : Nat)) :=
  ⟨h.c j x hx 0 _ rfl, h.c j x hx 1 _ rfl, h.c j x hx 2 _ rfl⟩
/-- What with, without answer. -/
def WrP (w : World) (M : List Ro) (e : Ending) (w' : World) : Prop := ∃ a c, e = .returned (.slice a M.length c) ∧ Ros w' a M ∧ (0 < M.length → ∀ q, a = some q → w.heap.size ≤ q.block) ∧ M.length ≤ c ∧ c ≤ maxLen ∧ Below w.heap.size w w'
/-- What slices.DeleteFunc, slices.Insert answer. -/
def DrP (B : Nat) (w : World) (M : List Ro) (e : Ending) (w' : World) : Prop := ∃ a c, e = .returned (.slice a M.length c) ∧ Ros w' a M ∧ (0 < M.length → ∀ q, a = some q → B ≤ q.block) ∧ M.length ≤ c ∧ c ≤ maxLen ∧ Below B w w'
set_option maxRecDepth 100000 in
set_option maxHeartbeats 4000000 in
theorem deleteR_any (B h n c : Nat) (key : ByteArray) (a : Option Addr) (L : List Ro) (hn : L.length = n) (hl : n ≤ 140737488351232) (w : World) (hB : B ≤ w.heap.size) (H : Kb w h key) (hlt : h < B) (hC : CqR B w (.slice a n c) L) :
    Calls Try.prog 102 #[.slice a n c, .func (.func 103) #[] #[.pointer (some ⟨h, 0, none⟩)]] w (DrP B w (delR key L)) := by
  rw [delR_filter]
  obtain ⟨kp, hkp⟩ : ∃ kp : Ro → Bool, (fun x : Ro => !decide (x.key = key)) = kp := ⟨_, rfl⟩
  have hkp2 : ∀ x : Ro, decide (x.key = key) = !kp x := fun x => by rw [← hkp]; simp
  rw [hkp]
  have HKP := Lib.hid hkp2
  obtain ⟨a0, c0, e0, hM, hfa, hlc, hmx⟩ := hC.form roT
  injection e0 with ea en ec
  subst ea ec
  have HF := Lib.hid (show ∀ w', Below w.heap.size w w' → L.filter kp = L → DrP B w (L.filter kp) (.returned (.slice a n c)) w' from fun w' hb e => by rw [e]; exact ⟨a, c, by rw [hn], hM.later hb, hfa, hlc, hmx, hb.mono hB⟩)
  have HR := Lib.hid (show 0 < n → ∃ g, a = some ⟨g, 0, none⟩ ∧ B ≤ g ∧ HdR w g c L from fun h0 => by
    obtain ⟨g, c', e, h1, _, _, h3⟩ := Hd.of roT hC (by rw [hn]; exact h0)
    injection e with ea en ec
    subst ea ec
    exact ⟨g, rfl, h1, h3⟩)
  have HN := Lib.hid hn
  have HM := Lib.hid hM
  have HG := Lib.hid H
  have hnc : n ≤ c := by omega
  have HMX := Lib.hid hmx
  clear hn hM H hC hfa en hkp hkp2 hlc hmx
  go_enter Try.func102, Try.ntmps102
  go_wp2_with fail
  refine (indexD_any h n c key a L HN.out hl _ HG.out HM.out).mono ?_
  rintro e w1 ⟨⟨k, rfl, hk⟩, hb⟩
  rcases hk with ⟨rfl, hall⟩ | ⟨j0, x0, rfl, hx0, hg0, hlt0⟩
  · have HE := HF.out w1 hb (List.filter_eq_self.2 fun x hx => by have h1 : decide (x.key = key) = false := hall x hx; rw [HKP.out x] at h1; simpa using h1)
    have HE := Lib.hid HE
    clear hb hall
    go_wp2_with fail
    go_ret
    exact HE.out
  · have hg0 : kp x0 = false := by have h1 : decide (x0.key = key) = true := hg0; rw [HKP.out x0] at h1; simpa using h1
    have hlt0 : ∀ i, i < j0 → ∀ y : Ro, L[i]? = some y → kp y = true := fun i hi y hy => by have h1 : decide (y.key = key) = false := hlt0 i hi y hy; rw [HKP.out y] at h1; simpa using h1
    have hj0 := (List.getElem?_eq_some_iff.1 hx0).1
    obtain ⟨g, rfl, hBg, hR⟩ := HR.out (by have := HN.out; omega)
    have HK0 := Lib.hid (Ks.start hx0 hg0 hlt0)
    have HR1 := Lib.hid (hR.later hb)
    have HG1 := Lib.hid (HG.out.later hb)
    have HB1 := Lib.hid (hb.mono hB)
    have hgh : h ≠ g := by omega
    have hj0n : j0 < n := by have := HN.out; omega
    have i0 : ¬ (j0 : Int) = -1 := by omega
    have i0' : ((j0 : Int) == -1) = false := by first | (simp; done) | (simp; omega)
    clear hb hR hx0 hg0 hlt0 hj0
    go_wp2_with fail
    go_loopw [5, 6] (fun u v wr => ∃ (i j : Nat) (C : List Ro), u = .int .i64 i ∧ v = .int .i64 j ∧ Ks kp L C i j ∧ HdR wr g c C ∧ Kb wr h key ∧ Below B w wr) (fun _ v _ => n - (intOf v).toNat)
    case atStart => exact ⟨j0, j0 + 1, L, rfl, by go_num, HK0.out, HR1.out, HG1.out, HB1.out⟩
    case round =>
      obtain ⟨i, j, C, rfl, rfl, hks, hr, hgn, hb⟩ := hrel
      have hij := hks.lt
      have hjn : j ≤ n := by have := hks.le; have := HN.out; omega
      have HKS := Lib.hid hks
      have HRR := Lib.hid hr
      have HGG := Lib.hid hgn
      have HBB := Lib.hid hb
      clear hks hr hgn hb
      by_cases hlt : j < n
      · obtain ⟨x, hx⟩ : ∃ x, L[j]? = some x := ⟨_, List.getElem?_eq_getElem (by rw [HN.out]; exact hlt)⟩
        obtain ⟨p0, p1, p2⟩ := HRR.out.cells ((HKS.out.tl j (Nat.le_refl _)).trans hx)
        have HX := Lib.hid hx
        have i2 : (0 : Int) ≤ (j : Int) := by omega
        have i3 : (j : Int) < (n : Int) := by omega
        have i4 : (0 : Int) ≤ (i : Int) := by omega
        have i5 : (i : Int) < (n : Int) := by omega
        clear hx
        obtain ⟨W1, hW1⟩ : ∃ W1, wr.alloc (.cells #[.string x.key, .string x.val, .int .u64 (x.ver : Nat)] 50) = W1 := ⟨_, rfl⟩
        obtain ⟨x7, hx7⟩ : ∃ x7, wr.heap.size = x7 := ⟨_, rfl⟩
        have BV : Below wr.heap.size wr W1 := hW1 ▸ (Below.refl _ _).alloc (Nat.le_refl _) _
        have HV : B3 W1 x7 (.string x.key) (.string x.val) (.int .u64 (x.ver : Nat)) := hW1 ▸ B3.new hx7.symm _ _ _ _
        have HVV := Lib.hid HV
        obtain ⟨v0, v1, v2, _⟩ := HV
        have HBV := Lib.hid (HBB.out.trans (BV.mono (Nat.le_trans hB HBB.out.size)))
        have HRV := Lib.hid (HRR.out.later BV)
        have HGV := Lib.hid (HGG.out.later BV)
        clear BV
        go_wp2_with fail
        refine (without1_any x h key _ HGV.out).mono ?_
        rintro e w2 ⟨rfl, hb2⟩
        rw [HKP.out x]
        have HB2 := Lib.hid (HBV.out.trans (hb2.mono (Nat.le_trans hB HBV.out.size)))
        have HR2 := Lib.hid (HRV.out.later hb2)
        have HG2 := Lib.hid (HGV.out.later hb2)
        obtain ⟨u0, u1, u2, _⟩ := HVV.out.later hb2
        clear hb2 p0 p1 p2 v0 v1 v2
        by_cases he : kp x = false
        · rw [he]
          have HT := Lib.hid (HKS.out.skip HX.out he)
          clear he
          go_wp2_with fail
          go_roundw
          case rel => exact ⟨i, j + 1, C, rfl, by go_num, HT.out, HR2.out, HG2.out, HB2.out⟩
          case measure => simp [intOf]; omega
        · have he : kp x = true := by simpa using he
          rw [he]
          have HT := Lib.hid (HKS.out.keep HX.out he)
          clear he
          have hiC : i < C.length := by have := HKS.out.len; have := HN.out; omega
          obtain ⟨q0, q1, q2⟩ := HdR.cells HR2.out (List.getElem?_eq_getElem hiC)
          have z0 := HR2.out.fz (i * 3)
          have z1 := HR2.out.fz (i * 3 + 1)
          have z2 := HR2.out.fz (i * 3 + 2)
          have HP := Lib.hid (HR2.out.put roT hiC x)
          have HG3 := Lib.hid (HG2.out.grown (sc_grown (roC x) (i * 3) w2) hgh)
          have HB3 := Lib.hid (HB2.out.grown (sc_grown (roC x) (i * 3) w2) (Nat.le_trans hB HB2.out.size) (fun k e => by cases e; exact hBg))
          generalize C[i].key = o0 at q0
          generalize C[i].val = o1 at q1
          generalize C[i].ver = o2 at q2
          go_wp2_with fail
          go_roundw
          case rel => exact ⟨i + 1, j + 1, C.set i x, by go_num, by go_num, HT.out, HP.out, HG3.out, HB3.out⟩
          case measure => simp [intOf]; omega
      · have hjn' : j = n := by omega
        subst hjn'
        have hin : i ≤ j := by omega
        have hCl : C.length = j := by have := HKS.out.len; have := HN.out; omega
        have HD := Lib.hid (HKS.out.done HN.out.symm)
        obtain ⟨w3, hcl, hg3, hk3⟩ := clearH roT (by decide) zeroRo HRR.out (i := i) (m := j - i) (c := c - i) (by omega)
        have hlen : (C.take i).length = i := by rw [List.length_take]; omega
        have HE := Lib.hid (show DrP B w (L.filter kp) (.returned (.slice (some ⟨g, 0, none⟩) i c)) w3 from by
          rw [← HD.out]
          exact ⟨some ⟨g, 0, none⟩, c, by rw [hlen], hk3.row, fun _ q e => by cases e; exact hBg, by omega, HMX.out, HBB.out.grown hg3 (Nat.le_trans hB HBB.out.size) (fun k e => by cases e; exact hBg)⟩)
        have i2 : ¬ (j : Int) < (j : Int) := by omega
        have i4 : (0 : Int) ≤ (i : Int) := by omega
        have i5 : (i : Int) ≤ (j : Int) := by omega
        have i6 : (j : Int) ≤ (c : Int) := by omega
        have i7 : (i : Int) ≤ (c : Int) := by omega
        clear hg3 hk3 hCl hlen
        go_wp2_with fail
        go_ret
        exact HE.out
set_option maxHeartbeats 1000000 in
theorem without_any (key : ByteArray) (n c : Nat) (a : Option Addr) (L : List Ro) (hn : L.length = n) (hl : n * 40 ≤ 140737488351232) (w : World) (hU : Ros w a L) :
    Calls Try.prog 95 #[.slice a n c, .string key] w (WrP w (delR key L)) := by
  obtain ⟨W, hW⟩ : ∃ W, w.alloc (.cells #[.string key] 9) = W := ⟨_, rfl⟩
  have HK := Lib.hid (show Kb W w.heap.size key from hW ▸ Kb.new w key _)
  have B1 : Below w.heap.size w W := hW ▸ (Below.refl _ _).alloc (Nat.le_refl _) _
  have HB := Lib.hid B1
  have HM := Lib.hid (hU.later B1)
  have hz : W.heap.size = w.heap.size + 1 := by rw [← hW]; simp
  have HZ := Lib.hid hz
  have HN := Lib.hid hn
  clear hU B1 hn hz
  go_enter Try.func95, Try.ntmps95
  go_wp2_with fail
  refine (cloneR_any n c a L HN.out (by omega) W HM.out).mono ?_
  rintro e w1 ⟨v1, rfl, hc1, hb1⟩
  obtain ⟨a1, c1, rfl, _⟩ := hc1.form roT
  have HC := Lib.hid hc1
  have HB1 := Lib.hid (HB.out.trans (hb1.mono HB.out.size))
  have K1 := Lib.hid (HK.out.later hb1)
  have HS := Lib.hid hb1.size
  clear hc1 hb1
  rw [HN.out] at HC ⊢
  go_wp2_with fail
  refine (deleteR_any W.heap.size w.heap.size n c1 key a1 L HN.out (by omega) w1 HS.out K1.out (by have := HZ.out; omega) HC.out).mono ?_
  rintro e w3 ⟨a3, c3, rfl, hU3, hf3, hl3, hm3, hb3⟩
  have HF := Lib.hid (show WrP w (delR key L) (.returned (.slice a3 (delR key L).length c3)) w3 from ⟨a3, c3, rfl, hU3, fun h q e => by have := hf3 h q e; have := HZ.out; omega, hl3, hm3, HB1.out.trans (hb3.mono HB.out.size)⟩)
  clear hU3 hb3 hf3 hl3 hm3
  generalize (Value.slice a3 (delR key L).length c3) = R at *
  go_wp2_with fail
  go_ret
  exact HF.out
end Go.Proofs.Ythgnecggdlamfaa
