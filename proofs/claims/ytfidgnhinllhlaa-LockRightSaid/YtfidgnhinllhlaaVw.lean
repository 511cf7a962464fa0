/- The document's example of layer 12. -/
import Derived.Test.YtfidgnhinllhlaaVs
namespace Go.Proofs.Ytfidgnhinllhlaa
open Go.RowKit

def keyA : ByteArray := ⟨#[97]⟩
theorem ex_1 : askH [] ⟨2, 0⟩ ⟨#[97]⟩ false [] = ([⟨⟨#[97]⟩, ⟨2, 0⟩, false⟩], [], 0) := by rfl
theorem ex_2 : askH [⟨⟨#[97]⟩, ⟨2, 0⟩, false⟩] ⟨1, 0⟩ ⟨#[97]⟩ true [] = ([⟨⟨#[97]⟩, ⟨1, 0⟩, true⟩], [⟨2, 0⟩], 0) := by rfl
theorem ex_3 : askH [⟨⟨#[97]⟩, ⟨1, 0⟩, true⟩] ⟨3, 0⟩ ⟨#[97]⟩ false [] = ([⟨⟨#[97]⟩, ⟨1, 0⟩, true⟩], [], 11) := by rfl
theorem small_1 (t : Tx) (b : Bool) (h : okX t) : smallH [⟨⟨#[97]⟩, t, b⟩] := fun x hx => by
  obtain rfl : x = ⟨⟨#[97]⟩, t, b⟩ := by simpa using hx
  exact ⟨(by decide : (1 : Nat) ≤ 140737488351232), h⟩
set_option maxRecDepth 100000 in
set_option maxHeartbeats 4000000 in
theorem shown_any {TT : World → Prop} (P : PLocks TT) (w : World) (hT : TT w) : Calls Try.prog 9 #[] w fun e w' => e = .returned (.bool true) ∧ Below w.heap.size w w' := by
  have C1 := Lib.hid (P.ask 0 0 0 0 none none [] ⟨2, 0⟩ ⟨#[97]⟩ false [] rfl (Nat.le_refl _) (by decide) (by decide) (fun x hx => by simp at hx) ⟨by decide, by decide, by decide⟩ rfl (by decide) (fun x hx => by simp at hx) w hT (Rw.nil _) (Rw.nil _))
  rw [ex_1] at C1
  have HP := Lib.hid P
  have HT := Lib.hid hT
  clear hT P
  go_enter Try.func9, Try.ntmps9
  go_wp2_with fail
  refine C1.out.mono ?_
  rintro e w1 ⟨a1, c1, b1, d1, rfl, hR1, hc1, hm1, _, hb1⟩
  have HB1 := Lib.hid hb1
  have C2 := Lib.hid (HP.out.ask 1 c1 0 0 a1 none [⟨⟨#[97]⟩, ⟨2, 0⟩, false⟩] ⟨1, 0⟩ ⟨#[97]⟩ true [] rfl hc1 hm1 (by decide) (small_1 _ _ ⟨by decide, by decide⟩) ⟨by decide, by decide, by decide⟩ rfl (by decide) (fun x hx => by simp at hx) w1 (HP.out.below HT.out hb1) hR1 (Rw.nil _))
  rw [ex_2] at C2
  clear hR1 hc1 hm1 hb1 C1
  go_wp2_with fail
  refine C2.out.mono ?_
  rintro e w2 ⟨a2, c2, b2, d2, rfl, hR2, hc2, hm2, hX2, hb2⟩
  have HB2 := Lib.hid (HB1.out.trans (hb2.mono HB1.out.size))
  have C3 := Lib.hid (HP.out.ask 1 c2 0 0 a2 none [⟨⟨#[97]⟩, ⟨1, 0⟩, true⟩] ⟨3, 0⟩ ⟨#[97]⟩ false [] rfl hc2 hm2 (by decide) (small_1 _ _ ⟨by decide, by decide⟩) ⟨by decide, by decide, by decide⟩ rfl (by decide) (fun x hx => by simp at hx) w2 (HP.out.below HT.out HB2.out) hR2 (Rw.nil _))
  rw [ex_3] at C3
  have HR2 := Lib.hid hR2
  have HX2 := Lib.hid hX2
  clear hR2 hc2 hm2 hb2 hX2 C2
  go_wp2_with fail
  refine C3.out.mono ?_
  rintro e w3 ⟨a3, c3, b3, d3, rfl, _, _, _, _, hb3⟩
  have HB3 := Lib.hid (HB2.out.trans (hb3.mono HB2.out.size))
  obtain ⟨b, off, rfl, _, p0, p1, p2, p3⟩ := Hos.cells (HR2.out.later hb3) (k := 0) rfl
  obtain ⟨b', off', rfl, _, q0, q1⟩ := Txs.cells (HX2.out.later hb3) (k := 0) rfl
  simp only [Nat.zero_mul, Nat.add_zero] at p0 p1 p2 p3 q0 q1
  clear hb3 C3
  go_wp2_with fail
  go_ret
  exact ⟨by first | rfl | simp, HB3.out⟩
end Go.Proofs.Ytfidgnhinllhlaa
