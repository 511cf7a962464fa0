/- What the laws of layer 11 need of the program, in one place; shown. -/
import Derived.Test.YtifdgjmbecilhaaDoorUl
namespace Go.Proofs.YtifdgjmbecilhaaDoor
open Go.RowKit

/-- The program's contracts: TT is what they need of the tables. -/
structure PRows (TT : World → Prop) : Prop where
  below : ∀ {w w' : World}, TT w → Below w.heap.size w w' → TT w'
  right : ∀ (n c : Nat) (a : Option Addr) (L : List Ro), L.length = n → n ≤ 140737488351232 → smallR L → ∀ w : World, TT w → Ros w a L →
    Calls Tryd.prog 13 #[.slice a n c] w fun e w' => e = .returned (.bool (rightB L)) ∧ Below w.heap.size w w'
  get : ∀ (key : ByteArray) (n c : Nat) (a : Option Addr) (L : List Ro), L.length = n → n ≤ 140737488351232 → key.size ≤ 140737488351232 → smallR L → ∀ w : World, TT w → Ros w a L →
    Calls Tryd.prog 11 #[.slice a n c, .string key] w fun e w' => e = .returned (.tuple #[roV ((getR key L).getD z0), .bool (getR key L).isSome]) ∧ Below w.heap.size w w'
  fits : ∀ (n c : Nat) (a : Option Addr) (P : List Pu), P.length = n → n ≤ 140737488351232 → smallP P → ∀ w : World, TT w → Pus w a P →
    Calls Tryd.prog 15 #[.slice a n c] w fun e w' => e = .returned (.int .i64 (fitsX P : Nat)) ∧ Below w.heap.size w w'
  do_ : ∀ (n c ver : Nat) (a : Option Addr) (L : List Ro) (p : Pu), L.length = n → n ≤ c → c ≤ maxLen → n * 40 ≤ 140737488351232 → smallR L → p.key.size ≤ 140737488351232 → p.val.size ≤ 140737488351232 → ver < 18446744073709551616 → ∀ w : World, TT w → Ros w a L →
    Calls Tryd.prog 17 #[.slice a n c, puV p, .int .u64 ver] w (AlP w (doR L p ver))
  all : ∀ (n c m e ver : Nat) (a a2 : Option Addr) (L : List Ro) (P : List Pu), L.length = n → n ≤ c → c ≤ maxLen → n * 40 ≤ 140737488351232 → smallR L → P.length = m → m * 40 ≤ 140737488351232 → smallP P → ver < 18446744073709551616 → ∀ w : World, TT w → Ros w a L → Pus w a2 P →
    Calls Tryd.prog 20 #[.slice a n c, .slice a2 m e, .int .u64 ver] w (AlP w (allR L P ver))
  bytes : ∀ (n c : Nat) (a : Option Addr) (L : List Ro), L.length = n → n ≤ 140737488351232 → smallR L → ∀ w : World, TT w → Ros w a L →
    Calls Tryd.prog 22 #[.slice a n c] w fun e w' => e = .returned (.tuple #[.string ⟨(byR L).toArray⟩, .int .i64 (erR L : Nat)]) ∧ Below w.heap.size w w'
  take : ∀ s : List UInt8, s.length ≤ 140737488355328 → ∀ w : World, TT w → Calls Tryd.prog 24 #[.string ⟨s.toArray⟩] w (TrP w (takeR s))
def exP : List Pu := [⟨⟨#[98]⟩, ⟨#[49]⟩, false⟩, ⟨⟨#[97]⟩, ⟨#[50]⟩, false⟩]
def exR : List Ro := [⟨⟨#[97]⟩, ⟨#[50]⟩, 7⟩, ⟨⟨#[98]⟩, ⟨#[49]⟩, 7⟩]
theorem ex_all : allR [] exP 7 = (exR, 0) := by rfl
theorem ex_bytes : byR exR = [2, 1, 97, 1, 50, 7, 1, 98, 1, 49, 7] := by decide
theorem ex_er : erR exR = 0 := by decide
theorem exP_small : smallP exP := fun x hx => by
  simp only [exP, List.mem_cons, List.not_mem_nil, or_false] at hx
  rcases hx with rfl | rfl <;> exact ⟨by decide, by decide⟩
theorem exR_small : smallR exR := fun x hx => by
  simp only [exR, List.mem_cons, List.not_mem_nil, or_false] at hx
  rcases hx with rfl | rfl <;> exact ⟨by decide, by decide⟩
set_option maxRecDepth 100000 in
set_option maxHeartbeats 4000000 in
theorem shown_any {TT : World → Prop} (P : PRows TT) (w : World) (hT : TT w) : Calls Tryd.prog 10 #[] w fun e w' => e = .returned (.bool true) ∧ Below w.heap.size w w' := by
  obtain ⟨W, hW⟩ : ∃ W, W = w.alloc (.cells #[.string ⟨#[98]⟩, .string ⟨#[49]⟩, .bool false, .string ⟨#[97]⟩, .string ⟨#[50]⟩, .bool false] 37) := ⟨_, rfl⟩
  have hB : Below w.heap.size w W := by rw [hW]; go_grown
  have hP : Pus W (some ⟨w.heap.size, 0, none⟩) exP := fun j x hx => by
    refine ⟨_, 0, rfl, by rw [hW]; simp, fun i u hu => ?_⟩
    rw [hW]
    have hj := (List.getElem?_eq_some_iff.1 hx).1
    have hj2 : j = 0 ∨ j = 1 := by simp [exP] at hj; omega
    rcases hj2 with rfl | rfl
    · simp [exP] at hx; subst hx
      have hi : i = 0 ∨ i = 1 ∨ i = 2 := by have := (List.getElem?_eq_some_iff.1 hu).1; simp [puC] at this; omega
      rcases hi with rfl | rfl | rfl <;> (simp [puC] at hu; subst hu; simp [go_sem])
    · simp [exP] at hx; subst hx
      have hi : i = 0 ∨ i = 1 ∨ i = 2 := by have := (List.getElem?_eq_some_iff.1 hu).1; simp [puC] at this; omega
      rcases hi with rfl | rfl | rfl <;> (simp [puC] at hu; subst hu; simp [go_sem])
  have C1 := Lib.hid (P.all 0 0 2 2 7 none (some ⟨w.heap.size, 0, none⟩) [] exP rfl (Nat.le_refl _) (by decide) (by decide) (fun x hx => by simp at hx) rfl (by decide) exP_small (by decide) W (P.below hT hB) (Rw.nil _) hP)
  rw [ex_all] at C1
  have HW := Lib.hid hW
  have HB := Lib.hid hB
  have HP := Lib.hid P
  clear hW hP hB P
  go_enter Tryd.func10, Tryd.ntmps10
  go_wp2_with fail
  rw [← HW.out]
  clear HW
  refine C1.out.mono ?_
  rintro e w1 ⟨a1, c1, rfl, hR1, hb1⟩
  have HB1 := Lib.hid (HB.out.trans (hb1.mono HB.out.size))
  have HR1 := Lib.hid hR1
  have C2 := Lib.hid (HP.out.bytes 2 c1 a1 exR rfl (by decide) exR_small w1 (HP.out.below hT HB1.out) hR1)
  rw [ex_bytes, ex_er] at C2
  clear hR1 hb1 C1 HB
  go_wp2_with fail
  refine C2.out.mono ?_
  rintro e w2 ⟨rfl, hb2⟩
  have HB2 := Lib.hid (HB1.out.trans (hb2.mono HB1.out.size))
  obtain ⟨b, off, rfl, _, p0, p1, p2⟩ := Ros.cells (HR1.out.later hb2) (k := 0) (x := ⟨⟨#[97]⟩, ⟨#[50]⟩, 7⟩) rfl
  simp only [Nat.zero_mul, Nat.add_zero] at p0 p1 p2
  clear hb2 C2
  go_wp2_with fail
  go_ret
  exact ⟨by first | rfl | simp, HB2.out⟩
end Go.Proofs.YtifdgjmbecilhaaDoor
