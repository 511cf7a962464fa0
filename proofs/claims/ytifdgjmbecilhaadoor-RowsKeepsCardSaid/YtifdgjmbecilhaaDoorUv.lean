/- The law RowsRight. -/
import Derived.Test.YtifdgjmbecilhaaDoorUm
import Derived.Test.YtifdgjmbecilhaaDoorUr
namespace Go.Proofs.YtifdgjmbecilhaaDoor
open Go.RowKit

/-- A row in a box. -/
structure RoBox (w : World) (b : Nat) (k v : ByteArray) (n : Nat) : Prop where
  lt : b < w.heap.size
  c0 : w.cell? ⟨b, 0, none⟩ = some (.string k)
  c1 : w.cell? ⟨b, 1, none⟩ = some (.string v)
  c2 : w.cell? ⟨b, 2, none⟩ = some (.int .u64 (n : Nat))
theorem RoBox.later {w w' : World} {b : Nat} {k v : ByteArray} {n : Nat} (h : RoBox w b k v n) (hb : Below w.heap.size w w') : RoBox w' b k v n :=
  ⟨Nat.lt_of_lt_of_le h.lt hb.size, (hb.cell (p := ⟨b, 0, none⟩) h.lt).trans h.c0, (hb.cell (p := ⟨b, 1, none⟩) h.lt).trans h.c1, (hb.cell (p := ⟨b, 2, none⟩) h.lt).trans h.c2⟩
theorem robox {w W : World} {k v : ByteArray} {n : Nat} (hW : w.alloc (.cells #[.string k, .string v, .int .u64 (n : Nat)] 26) = W) : Below w.heap.size w W ∧ RoBox W w.heap.size k v n := by
  subst hW
  exact ⟨by go_grown, by simp, by simp [go_sem], by simp [go_sem], by simp [go_sem]⟩
set_option maxRecDepth 100000 in
set_option maxHeartbeats 1000000 in
theorem law_RowsRight {TT : World → Prop} (P : PRows TT) (n c : Nat) (a : Option Addr) (L : List Ro) (key : ByteArray) (hk : key.size ≤ 140737488351232) (w : World) (I : RoIn w a n c L) (hT : TT w) :
    Calls Tryd.prog 3 #[.slice a n c, .string key] w fun e w' => e = .returned (.bool true) ∧ Below w.heap.size w w' := by
  have HG := Lib.hid (fun w' (hb : Below w.heap.size w w') => P.get key n c a L I.hlen I.n hk I.small w' (P.below hT hb) (I.mem.later hb))
  have HR := Lib.hid (fun w' (hb : Below w.heap.size w w') => rGet_any key n c a L I.hlen I.n w' (I.mem.later hb))
  have HG2 := Lib.hid (fun w' (hb : Below w.heap.size w w') => P.right n c a L I.hlen I.n I.small w' (P.below hT hb) (I.mem.later hb))
  have HR2 := Lib.hid (fun w' (hb : Below w.heap.size w w') => rRight_any n c a L I.hlen I.n I.small w' (I.mem.later hb))
  have HS := Lib.hid (shown_any P w hT)
  obtain ⟨b, hb⟩ : ∃ b, rightB L = b := ⟨_, rfl⟩
  obtain ⟨⟨xk, xv, xn⟩, hx⟩ : ∃ x, (getR key L).getD z0 = x := ⟨_, rfl⟩
  obtain ⟨i, hi⟩ : ∃ i, (getR key L).isSome = i := ⟨_, rfl⟩
  rw [hb] at HG2 HR2
  rw [hx, hi] at HG HR
  clear hb hx hi P I hT hk
  go_enter Tryd.func3, Tryd.ntmps3
  go_wp2_with fail
  refine HS.out.mono ?_
  rintro e w1 ⟨rfl, hb1⟩
  have HB1 := Lib.hid hb1
  clear hb1
  go_wp2_with fail
  refine (HG.out _ HB1.out).mono ?_
  rintro e w2 ⟨rfl, hb2⟩
  have HB2 := Lib.hid (HB1.out.trans (hb2.mono HB1.out.size))
  clear hb2
  go_wp2_with fail
  generalize hW : w2.alloc (.cells #[.string xk, .string xv, .int .u64 (xn : Nat)] 26) = W2
  obtain ⟨g2, B2⟩ := robox hW
  obtain ⟨x2, hx2⟩ : ∃ x, w2.heap.size = x := ⟨_, rfl⟩
  have HB3 := Lib.hid (HB2.out.trans (g2.mono HB2.out.size))
  rw [hx2] at B2 ⊢
  clear g2 hW hx2
  refine (HR.out _ HB3.out).mono ?_
  rintro e w3 ⟨rfl, hb3⟩
  have HB4 := Lib.hid (HB3.out.trans (hb3.mono HB3.out.size))
  have B3 := Lib.hid (B2.later hb3)
  clear hb3 B2
  go_wp2_with fail
  generalize hW : w3.alloc (.cells #[.string xk, .string xv, .int .u64 (xn : Nat)] 26) = W3
  obtain ⟨g2, D3⟩ := robox hW
  obtain ⟨x3, hx3⟩ : ∃ x, w3.heap.size = x := ⟨_, rfl⟩
  have B4 := Lib.hid (B3.out.later g2)
  have HB5 := Lib.hid (HB4.out.trans (g2.mono HB4.out.size))
  rw [hx3] at D3 ⊢
  clear g2 hW hx3
  refine (HG2.out _ HB5.out).mono ?_
  rintro e w4 ⟨rfl, hb4⟩
  have HB6 := Lib.hid (HB5.out.trans (hb4.mono HB5.out.size))
  have D4 := Lib.hid (D3.later hb4)
  have B5 := Lib.hid (B4.out.later hb4)
  clear hb4 D3
  go_wp2_with fail
  refine (HR2.out _ HB6.out).mono ?_
  rintro e w5 ⟨rfl, hb5⟩
  have HB7 := Lib.hid (HB6.out.trans (hb5.mono HB6.out.size))
  obtain ⟨_, p0, p1, p2⟩ := D4.out.later hb5
  obtain ⟨_, q0, q1, q2⟩ := B5.out.later hb5
  clear hb5
  go_wp2_with fail
  go_ret
  exact ⟨by first | rfl | simp, HB7.out⟩
end Go.Proofs.YtifdgjmbecilhaaDoor
