/- Where a row lies: slices.IndexFunc at the closures of place, with, without; place, Get: the program's. -/
import Derived.Test.YtifdgjmbecilhaaDoorHa
import Derived.Test.YtifdgjmbecilhaaDoorUg
namespace Go.Proofs.YtifdgjmbecilhaaDoor
open Go.RowKit

/-- Where the first one lies of which f is true. -/
def FsI (f : Ro → Bool) (L : List Ro) (k : Int) : Prop := (k = -1 ∧ ∀ x ∈ L, f x = false) ∨ ∃ (j : Nat) (x : Ro), k = (j : Int) ∧ L[j]? = some x ∧ f x = true ∧ ∀ i, i < j → ∀ y : Ro, L[i]? = some y → f y = false
set_option maxRecDepth 100000 in
set_option maxHeartbeats 2000000 in
theorem indexP_any (h n c : Nat) (key : ByteArray) (a : Option Addr) (L : List Ro) (hn : L.length = n) (hl : n ≤ 140737488351232) (w : World) (H : Kb w h key) (hM : Ros w a L) :
    Calls Tryd.prog 45 #[.slice a n c, .func (.func 46) #[] #[.pointer (some ⟨h, 0, none⟩)]] w fun e w' => (∃ k : Int, e = .returned (.int .i64 k) ∧ FsI (fun x => decide (x.key = key)) L k) ∧ Below w.heap.size w w' := by
  obtain ⟨f, hf⟩ : ∃ f : Ro → Bool, (fun x => decide (x.key = key)) = f := ⟨_, rfl⟩
  have HN := Lib.hid hn
  have HM := Lib.hid hM
  have HH := Lib.hid H
  have HC := Lib.hid (fun (x : Ro) w' (h' : Kb w' h key) => place1_any x h key w' h')
  have HFX := Lib.hid (fun x : Ro => congrFun hf x)
  rw [hf]
  clear hn hM H hf
  go_enter Tryd.func45, Tryd.ntmps45
  go_wp2_with fail
  go_loopw [8] (fun u wr => ∃ k : Nat, k ≤ n ∧ u = .int .i64 k ∧ (∀ i, i < k → ∀ y : Ro, L[i]? = some y → f y = false) ∧ Below w.heap.size w wr) (fun u _ => n - (intOf u).toNat)
  case atStart => exact ⟨0, Nat.zero_le _, rfl, fun i hi => absurd hi (Nat.not_lt_zero _), Below.refl _ _⟩
  case round =>
    obtain ⟨k, hk, rfl, hf, B⟩ := hrel
    have HFB := Lib.hid hf
    clear hf
    by_cases hlt : k < n
    · obtain ⟨x, hx⟩ : ∃ x, L[k]? = some x := ⟨_, List.getElem?_eq_getElem (by rw [HN.out]; exact hlt)⟩
      obtain ⟨b, off, rfl, hb, p0, p1, p2⟩ := Ros.cells (HM.out.later B) hx
      have HNB := Lib.hid (HH.out.later B)
      have HBB := Lib.hid B
      have HX := Lib.hid hx
      have i0 : (0 : Int) ≤ (k : Int) := by omega
      have i1 : (k : Int) < (n : Int) := by omega
      clear hx B
      go_wp2_with fail
      refine (HC.out x _ HNB.out).mono ?_
      rintro e w2 ⟨rfl, hb2⟩
      have HB3 := Lib.hid (HBB.out.trans (hb2.mono HBB.out.size))
      have hfx := HFX.out x
      try simp only at hfx
      rw [hfx]
      clear hb2 hfx
      by_cases he : f x = true
      · rw [he]
        have HT := Lib.hid (show FsI f L k from Or.inr ⟨k, x, rfl, HX.out, he, HFB.out⟩)
        clear he
        go_wp2_with fail
        go_ret
        exact ⟨⟨k, rfl, HT.out⟩, HB3.out⟩
      · have he : f x = false := by simpa using he
        rw [he]
        have HT := Lib.hid (show ∀ i, i < k + 1 → ∀ y : Ro, L[i]? = some y → f y = false from fun i hi y hy => by
          by_cases hik : i = k
          · subst hik; have := HX.out; rw [hy] at this; cases this; exact he
          · exact HFB.out i (by omega) y hy)
        clear he
        go_wp2_with fail
        go_roundw
        case rel => exact ⟨k + 1, by omega, by go_num, HT.out, HB3.out⟩
        case measure => simp [intOf]; omega
    · have HT := Lib.hid (show FsI f L (-1) from Or.inl ⟨rfl, fun y hy => by
        obtain ⟨j, hj⟩ := List.mem_iff_getElem?.1 hy
        exact HFB.out j (by have := (List.getElem?_eq_some_iff.1 hj).1; have := HN.out; omega) y hj⟩)
      go_wp2_with fail
      go_ret
      exact ⟨⟨-1, rfl, HT.out⟩, B⟩
set_option maxRecDepth 100000 in
set_option maxHeartbeats 2000000 in
theorem indexD_any (h n c : Nat) (key : ByteArray) (a : Option Addr) (L : List Ro) (hn : L.length = n) (hl : n ≤ 140737488351232) (w : World) (H : Kb w h key) (hM : Ros w a L) :
    Calls Tryd.prog 45 #[.slice a n c, .func (.func 48) #[] #[.pointer (some ⟨h, 0, none⟩)]] w fun e w' => (∃ k : Int, e = .returned (.int .i64 k) ∧ FsI (fun x => decide (x.key = key)) L k) ∧ Below w.heap.size w w' := by
  obtain ⟨f, hf⟩ : ∃ f : Ro → Bool, (fun x => decide (x.key = key)) = f := ⟨_, rfl⟩
  have HN := Lib.hid hn
  have HM := Lib.hid hM
  have HH := Lib.hid H
  have HC := Lib.hid (fun (x : Ro) w' (h' : Kb w' h key) => without1_any x h key w' h')
  have HFX := Lib.hid (fun x : Ro => congrFun hf x)
  rw [hf]
  clear hn hM H hf
  go_enter Tryd.func45, Tryd.ntmps45
  go_wp2_with fail
  go_loopw [8] (fun u wr => ∃ k : Nat, k ≤ n ∧ u = .int .i64 k ∧ (∀ i, i < k → ∀ y : Ro, L[i]? = some y → f y = false) ∧ Below w.heap.size w wr) (fun u _ => n - (intOf u).toNat)
  case atStart => exact ⟨0, Nat.zero_le _, rfl, fun i hi => absurd hi (Nat.not_lt_zero _), Below.refl _ _⟩
  case round =>
    obtain ⟨k, hk, rfl, hf, B⟩ := hrel
    have HFB := Lib.hid hf
    clear hf
    by_cases hlt : k < n
    · obtain ⟨x, hx⟩ : ∃ x, L[k]? = some x := ⟨_, List.getElem?_eq_getElem (by rw [HN.out]; exact hlt)⟩
      obtain ⟨b, off, rfl, hb, p0, p1, p2⟩ := Ros.cells (HM.out.later B) hx
      have HNB := Lib.hid (HH.out.later B)
      have HBB := Lib.hid B
      have HX := Lib.hid hx
      have i0 : (0 : Int) ≤ (k : Int) := by omega
      have i1 : (k : Int) < (n : Int) := by omega
      clear hx B
      go_wp2_with fail
      refine (HC.out x _ HNB.out).mono ?_
      rintro e w2 ⟨rfl, hb2⟩
      have HB3 := Lib.hid (HBB.out.trans (hb2.mono HBB.out.size))
      have hfx := HFX.out x
      try simp only at hfx
      rw [hfx]
      clear hb2 hfx
      by_cases he : f x = true
      · rw [he]
        have HT := Lib.hid (show FsI f L k from Or.inr ⟨k, x, rfl, HX.out, he, HFB.out⟩)
        clear he
        go_wp2_with fail
        go_ret
        exact ⟨⟨k, rfl, HT.out⟩, HB3.out⟩
      · have he : f x = false := by simpa using he
        rw [he]
        have HT := Lib.hid (show ∀ i, i < k + 1 → ∀ y : Ro, L[i]? = some y → f y = false from fun i hi y hy => by
          by_cases hik : i = k
          · subst hik; have := HX.out; rw [hy] at this; cases this; exact he
          · exact HFB.out i (by omega) y hy)
        clear he
        go_wp2_with fail
        go_roundw
        case rel => exact ⟨k + 1, by omega, by go_num, HT.out, HB3.out⟩
        case measure => simp [intOf]; omega
    · have HT := Lib.hid (show FsI f L (-1) from Or.inl ⟨rfl, fun y hy => by
        obtain ⟨j, hj⟩ := List.mem_iff_getElem?.1 hy
        exact HFB.out j (by have := (List.getElem?_eq_some_iff.1 hj).1; have := HN.out; omega) y hj⟩)
      go_wp2_with fail
      go_ret
      exact ⟨⟨-1, rfl, HT.out⟩, B⟩
set_option maxRecDepth 100000 in
set_option maxHeartbeats 2000000 in
theorem indexW_any (h n c : Nat) (key : ByteArray) (a : Option Addr) (L : List Ro) (hn : L.length = n) (hl : n ≤ 140737488351232) (w : World) (H : Kb w h key) (hM : Ros w a L) :
    Calls Tryd.prog 45 #[.slice a n c, .func (.func 49) #[] #[.pointer (some ⟨h, 0, none⟩)]] w fun e w' => (∃ k : Int, e = .returned (.int .i64 k) ∧ FsI (fun x => lessB key x.key) L k) ∧ Below w.heap.size w w' := by
  obtain ⟨f, hf⟩ : ∃ f : Ro → Bool, (fun x => lessB key x.key) = f := ⟨_, rfl⟩
  have HN := Lib.hid hn
  have HM := Lib.hid hM
  have HH := Lib.hid H
  have HC := Lib.hid (fun (x : Ro) w' (h' : Kb w' h key) => with1_any x h key w' h')
  have HFX := Lib.hid (fun x : Ro => congrFun hf x)
  rw [hf]
  clear hn hM H hf
  go_enter Tryd.func45, Tryd.ntmps45
  go_wp2_with fail
  go_loopw [8] (fun u wr => ∃ k : Nat, k ≤ n ∧ u = .int .i64 k ∧ (∀ i, i < k → ∀ y : Ro, L[i]? = some y → f y = false) ∧ Below w.heap.size w wr) (fun u _ => n - (intOf u).toNat)
  case atStart => exact ⟨0, Nat.zero_le _, rfl, fun i hi => absurd hi (Nat.not_lt_zero _), Below.refl _ _⟩
  case round =>
    obtain ⟨k, hk, rfl, hf, B⟩ := hrel
    have HFB := Lib.hid hf
    clear hf
    by_cases hlt : k < n
    · obtain ⟨x, hx⟩ : ∃ x, L[k]? = some x := ⟨_, List.getElem?_eq_getElem (by rw [HN.out]; exact hlt)⟩
      obtain ⟨b, off, rfl, hb, p0, p1, p2⟩ := Ros.cells (HM.out.later B) hx
      have HNB := Lib.hid (HH.out.later B)
      have HBB := Lib.hid B
      have HX := Lib.hid hx
      have i0 : (0 : Int) ≤ (k : Int) := by omega
      have i1 : (k : Int) < (n : Int) := by omega
      clear hx B
      go_wp2_with fail
      refine (HC.out x _ HNB.out).mono ?_
      rintro e w2 ⟨rfl, hb2⟩
      have HB3 := Lib.hid (HBB.out.trans (hb2.mono HBB.out.size))
      have hfx := HFX.out x
      try simp only at hfx
      rw [hfx]
      clear hb2 hfx
      by_cases he : f x = true
      · rw [he]
        have HT := Lib.hid (show FsI f L k from Or.inr ⟨k, x, rfl, HX.out, he, HFB.out⟩)
        clear he
        go_wp2_with fail
        go_ret
        exact ⟨⟨k, rfl, HT.out⟩, HB3.out⟩
      · have he : f x = false := by simpa using he
        rw [he]
        have HT := Lib.hid (show ∀ i, i < k + 1 → ∀ y : Ro, L[i]? = some y → f y = false from fun i hi y hy => by
          by_cases hik : i = k
          · subst hik; have := HX.out; rw [hy] at this; cases this; exact he
          · exact HFB.out i (by omega) y hy)
        clear he
        go_wp2_with fail
        go_roundw
        case rel => exact ⟨k + 1, by omega, by go_num, HT.out, HB3.out⟩
        case measure => simp [intOf]; omega
    · have HT := Lib.hid (show FsI f L (-1) from Or.inl ⟨rfl, fun y hy => by
        obtain ⟨j, hj⟩ := List.mem_iff_getElem?.1 hy
        exact HFB.out j (by have := (List.getElem?_eq_some_iff.1 hj).1; have := HN.out; omega) y hj⟩)
      go_wp2_with fail
      go_ret
      exact ⟨⟨-1, rfl, HT.out⟩, B⟩
theorem Kb.new (w : World) (k : ByteArray) (T : TypeId) : Kb (w.alloc (.cells #[.string k] T)) w.heap.size k := ⟨by simp [go_sem], by simp⟩
set_option maxHeartbeats 1000000 in
theorem place_any (key : ByteArray) (n c : Nat) (a : Option Addr) (L : List Ro) (hn : L.length = n) (hl : n ≤ 140737488351232) (w : World) (hM : Ros w a L) :
    Calls Tryd.prog 26 #[.slice a n c, .string key] w fun e w' => (∃ k : Int, e = .returned (.int .i64 k) ∧ FsI (fun x => decide (x.key = key)) L k) ∧ Below w.heap.size w w' := by
  obtain ⟨W, hW⟩ : ∃ W, w.alloc (.cells #[.string key] 9) = W := ⟨_, rfl⟩
  have HK := Lib.hid (show Kb W w.heap.size key from hW ▸ Kb.new w key _)
  have B1 : Below w.heap.size w W := hW ▸ (Below.refl _ _).alloc (Nat.le_refl _) _
  have HB := Lib.hid B1
  have HM := Lib.hid (hM.later B1)
  clear hM B1
  go_enter Tryd.func26, Tryd.ntmps26
  go_wp2_with fail
  refine (indexP_any w.heap.size n c key a L hn hl W HK.out HM.out).mono ?_
  rintro e w2 ⟨⟨k, rfl, hk⟩, hb2⟩
  have HF := Lib.hid hk
  have HB2 := Lib.hid (HB.out.trans (hb2.mono HB.out.size))
  clear hk hb2
  go_wp2_with fail
  go_ret
  exact ⟨⟨k, rfl, HF.out⟩, HB2.out⟩
theorem getR_first (key : ByteArray) : ∀ (L : List Ro) (j : Nat) (x : Ro), L[j]? = some x → x.key = key → (∀ i, i < j → ∀ y : Ro, L[i]? = some y → y.key ≠ key) → getR key L = some x
  | [], j, x, h, _, _ => by simp at h
  | z :: r, 0, x, h, hx, _ => by obtain rfl : z = x := by simpa using h
                                 simp [getR, hx]
  | z :: r, j + 1, x, h, hx, hlt => by
    have hz : ¬ z.key = key := hlt 0 (by omega) z rfl
    rw [getR, if_neg hz]
    exact getR_first key r j x (by simpa using h) hx fun i hi y hy => hlt (i + 1) (by omega) y (by simpa using hy)
theorem getR_no (key : ByteArray) (L : List Ro) (h : ∀ x ∈ L, ¬ x.key = key) : getR key L = none := by
  induction L with
  | nil => rfl
  | cons z r ih => rw [getR, if_neg (h z (by simp))]; exact ih fun x hx => h x (by simp [hx])
set_option maxHeartbeats 1000000 in
theorem pGet_any (key : ByteArray) (n c : Nat) (a : Option Addr) (L : List Ro) (hn : L.length = n) (hl : n ≤ 140737488351232) (w : World) (hM : Ros w a L) :
    Calls Tryd.prog 11 #[.slice a n c, .string key] w fun e w' => e = .returned (.tuple #[roV ((getR key L).getD z0), .bool (getR key L).isSome]) ∧ Below w.heap.size w w' := by
  have HN := Lib.hid hn
  obtain ⟨W, hW⟩ : ∃ W, w.alloc (.cells #[.string ⟨#[]⟩, .string ⟨#[]⟩, .int .u64 0] 26) = W := ⟨_, rfl⟩
  obtain ⟨x4, hx4⟩ : ∃ x4, w.heap.size = x4 := ⟨_, rfl⟩
  have HR : B3 W x4 (.string ⟨#[]⟩) (.string ⟨#[]⟩) (.int .u64 0) := hW ▸ B3.new hx4.symm _ _ _ _
  have B1 : Below w.heap.size w W := hW ▸ (Below.refl _ _).alloc (Nat.le_refl _) _
  have hfz : ∀ o, W.frozen? ⟨x4, o, none⟩ = false := fun o => by rw [← hW, ← hx4]; exact World.frozen?_alloc_at (w := w) _ _ w.heap.size o rfl
  have HB := Lib.hid B1
  have HM := Lib.hid (hM.later B1)
  have HX := Lib.hid hx4
  clear hM B1 hn
  go_enter Tryd.func11, Tryd.ntmps11
  go_wp2_with fail
  refine (place_any key n c a L HN.out hl W HM.out).mono ?_
  rintro e w2 ⟨⟨k, rfl, hk⟩, hb2⟩
  have HB2 := Lib.hid (HB.out.trans (hb2.mono HB.out.size))
  have HM2 := Lib.hid (HM.out.later hb2)
  obtain ⟨c0, c1, c2, lt⟩ := HR.later hb2
  have z0' : w2.frozen? ⟨x4, 0, none⟩ = false := (World.frozen?_of_block (a := ⟨x4, 0, none⟩) (hb2.block x4 HR.lt)).trans (hfz 0)
  have z1 : w2.frozen? ⟨x4, 1, none⟩ = false := (World.frozen?_of_block (a := ⟨x4, 1, none⟩) (hb2.block x4 HR.lt)).trans (hfz 1)
  have z2 : w2.frozen? ⟨x4, 2, none⟩ = false := (World.frozen?_of_block (a := ⟨x4, 2, none⟩) (hb2.block x4 HR.lt)).trans (hfz 2)
  have HS := Lib.hid (show ∀ u v z : Value, Below w.heap.size w (((w2.setCell ⟨x4, 0, none⟩ u).setCell ⟨x4, 1, none⟩ v).setCell ⟨x4, 2, none⟩ z) from fun u v z =>
    (((HB2.out.setCell (p := ⟨x4, 0, none⟩) (Nat.le_of_eq hx4) u).setCell (p := ⟨x4, 1, none⟩) (Nat.le_of_eq hx4) v).setCell (p := ⟨x4, 2, none⟩) (Nat.le_of_eq hx4) z))
  clear hb2 HR hfz
  rcases hk with ⟨rfl, hall⟩ | ⟨j, x, rfl, hx, hfx, hlt⟩
  · have HG := Lib.hid (getR_no key L fun y hy => of_decide_eq_false (hall y hy))
    clear hall
    go_wp2_with fail
    exact bodyPost_ret (v := .tuple #[roV z0, .bool false]) (by simp [results, Tryd.results11, go_sem, z0, c0, c1, c2]) rfl ⟨by rw [HG.out]; rfl, HS.out _ _ _⟩
  · have HG := Lib.hid (getR_first key L j x hx (of_decide_eq_true hfx) fun i hi y hy => of_decide_eq_false (hlt i hi y hy))
    obtain ⟨b, off, rfl, hb, p0, p1, p2⟩ := Ros.cells HM2.out hx
    have hjn := (List.getElem?_eq_some_iff.1 hx).1
    have hjn2 : j < n := by have := HN.out; omega
    have i0 : (0 : Int) ≤ (j : Int) := by omega
    have i1 : (j : Int) < (n : Int) := by omega
    have i2 : ¬ (j : Int) < 0 := by omega
    clear hx hfx hlt hjn
    obtain ⟨xk, xv, xn⟩ := x
    simp only at p0 p1 p2
    go_wp2_with fail
    exact bodyPost_ret (v := .tuple #[roV ⟨xk, xv, xn⟩, .bool true]) (by simp [results, Tryd.results11, go_sem, c0, c1, c2]) rfl ⟨by rw [HG.out]; rfl, HS.out _ _ _⟩
end Go.Proofs.YtifdgjmbecilhaaDoor
