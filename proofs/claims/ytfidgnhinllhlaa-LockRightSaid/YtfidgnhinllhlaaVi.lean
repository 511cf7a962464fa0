/- The law LockAsks. -/
import Derived.Test.YtfidgnhinllhlaaVg
import Derived.Test.YtfidgnhinllhlaaVy
namespace Go.Proofs.Ytfidgnhinllhlaa
open Go.RowKit

theorem ask_out (L : List Ho) (t : Tx) (key : ByteArray) (wr : Bool) (firm : List Tx) : (askH L t key wr firm).2.1.length ≤ L.length := by
  unfold askH
  split
  · simp
  rcases hw : wayH t key wr firm [] L with _ | out
  · simp
  · have := way_len L [] out hw
    rw [List.length_nil, Nat.zero_add] at this
    simp only
    split
    · exact this
    split
    · simp
    · exact this
set_option maxRecDepth 100000 in
set_option maxHeartbeats 4000000 in
theorem law_LockAsks {TT : World → Prop} (P : PLocks TT) (n c m d : Nat) (a b : Option Addr) (L : List Ho) (x : As) (F : List Tx) (hk : okA x.key x.t) (w : World) (I : HoIn w a n c L) (J : TxIn w b m d F) (hT : TT w) :
    Calls Try.prog 3 #[.slice a n c, asV x, .slice b m d] w fun e w' => e = .returned (.bool true) ∧ Below w.heap.size w w' := by
  have HS := Lib.hid (fun w' (hb : Below w.heap.size w w') => shown_any P w' (P.below hT hb))
  have HAK := Lib.hid (fun w' (hb : Below w.heap.size w w') => P.ask n c m d a b L x.t x.key x.wr F I.hlen I.hcap I.hmax I.room I.small hk J.hlen J.room J.ok w' (P.below hT hb) (I.mem.later hb) (J.mem.later hb))
  have HRK := Lib.hid (fun w' (hb : Below w.heap.size w w') => rAsk_any n c m d a b L x.t x.key x.wr F I.hlen I.hcap I.hmax I.room J.hlen J.room w' (I.mem.later hb) (J.mem.later hb))
  have hl1 := ask_len L x.t x.key x.wr F
  have hl2 := ask_out L x.t x.key x.wr F
  rw [I.hlen] at hl1 hl2
  have hroom := I.room
  obtain ⟨⟨M, O, k⟩, hM⟩ : ∃ r, askH L x.t x.key x.wr F = r := ⟨_, rfl⟩
  rw [hM] at HAK HRK hl1 hl2
  simp only at hl1 hl2
  obtain ⟨⟨xa, xi⟩, xk, xw⟩ := x
  clear hM P I J hT hk
  obtain ⟨W, hW⟩ : ∃ W, w.alloc (.cells #[.int .u64 (xa : Nat), .int .u64 (xi : Nat), .string xk, .bool xw] 27) = W := ⟨_, rfl⟩
  obtain ⟨hB, hX⟩ := asbox hW
  obtain ⟨x0, hx0⟩ : ∃ x, w.heap.size = x := ⟨_, rfl⟩
  rw [hx0] at hX
  have HB0 := Lib.hid hB
  have HX := Lib.hid hX
  have HW := Lib.hid hW
  have HX0 := Lib.hid hx0
  clear hB hX hW hx0
  go_enter Try.func3, Try.ntmps3
  go_wp2_with fail
  rw [HW.out, HX0.out]
  refine (HS.out _ HB0.out).mono ?_
  rintro e w1 ⟨rfl, hb1⟩
  have HB1 := Lib.hid (HB0.out.trans (hb1.mono HB0.out.size))
  have HX1 := Lib.hid (HX.out.later hb1)
  obtain ⟨_, q0, q1, q2, q3⟩ := HX1.out
  simp only at q0 q1 q2 q3
  clear hb1
  go_wp2_with fail
  refine (HAK.out _ HB1.out).mono ?_
  rintro e w2 ⟨a1, c1, a2, c2, rfl, m1, _, _, t1, hb2⟩
  have HB2 := Lib.hid (HB1.out.trans (hb2.mono HB1.out.size))
  have M1 := Lib.hid m1
  have T1 := Lib.hid t1
  have HX2 := Lib.hid (HX1.out.later hb2)
  clear hb2 q0 q1 q2 q3 m1 t1
  obtain ⟨_, q0, q1, q2, q3⟩ := HX2.out
  simp only at q0 q1 q2 q3
  go_wp2_with fail
  refine (HRK.out _ HB2.out).mono ?_
  rintro e w3 ⟨a3, c3, a4, c4, rfl, m2, _, _, t2, hb3⟩
  have HB3 := Lib.hid (HB2.out.trans (hb3.mono HB2.out.size))
  have HSM := Lib.hid (rSame_any M.length c1 c3 a1 a3 M rfl (by omega) w3 (M1.out.later hb3) m2)
  have HST := Lib.hid (fun w' (h : Below w3.heap.size w3 w') => rSameTx_any O.length c2 c4 a2 a4 O rfl (by omega) w' ((T1.out.later hb3).later h) (t2.later h))
  clear hb3 m2 t2 q0 q1 q2 q3
  go_wp2_with fail
  refine HSM.out.mono ?_
  rintro e w4 ⟨rfl, hb4⟩
  have HB4 := Lib.hid (HB3.out.trans (hb4.mono HB3.out.size))
  have HB34 := Lib.hid hb4
  clear hb4
  go_wp2_with fail
  refine (HST.out _ HB34.out).mono ?_
  rintro e w5 ⟨rfl, hb5⟩
  have HB5 := Lib.hid (HB4.out.trans (hb5.mono HB4.out.size))
  clear hb5
  go_wp2_with fail
  go_ret
  exact ⟨by first | rfl | simp, HB5.out⟩
end Go.Proofs.Ytfidgnhinllhlaa
