/- The law LockTells. -/
import Derived.Test.YtfidgnhinllhlaaVy
import Derived.Test.YtfidgnhinllhlaaVf
namespace Go.Proofs.Ytfidgnhinllhlaa
open Go.RowKit

theorem keepT {w0 w w' : World} {x y : Nat} {v0 v1 v2 v3 u0 u1 : Value} (h : w.cell? ⟨x, 0, none⟩ = some v0 ∧ w.cell? ⟨x, 1, none⟩ = some v1 ∧ w.cell? ⟨x, 2, none⟩ = some v2 ∧ w.cell? ⟨x, 3, none⟩ = some v3 ∧ w.cell? ⟨y, 0, none⟩ = some u0 ∧ w.cell? ⟨y, 1, none⟩ = some u1 ∧ x < w.heap.size ∧ y < w.heap.size ∧ Below w0.heap.size w0 w) (hb : Below w.heap.size w w') :
    w'.cell? ⟨x, 0, none⟩ = some v0 ∧ w'.cell? ⟨x, 1, none⟩ = some v1 ∧ w'.cell? ⟨x, 2, none⟩ = some v2 ∧ w'.cell? ⟨x, 3, none⟩ = some v3 ∧ w'.cell? ⟨y, 0, none⟩ = some u0 ∧ w'.cell? ⟨y, 1, none⟩ = some u1 ∧ x < w'.heap.size ∧ y < w'.heap.size ∧ Below w0.heap.size w0 w' := by
  obtain ⟨a0, a1, a2, a3, c0, c1, hl, hx, hB⟩ := h
  have f : ∀ j v, w.cell? ⟨x, j, none⟩ = some v → w'.cell? ⟨x, j, none⟩ = some v := fun j v e => (hb.cell (p := ⟨x, j, none⟩) hl).trans e
  have g : ∀ j v, w.cell? ⟨y, j, none⟩ = some v → w'.cell? ⟨y, j, none⟩ = some v := fun j v e => (hb.cell (p := ⟨y, j, none⟩) hx).trans e
  exact ⟨f _ _ a0, f _ _ a1, f _ _ a2, f _ _ a3, g _ _ c0, g _ _ c1, Nat.lt_of_lt_of_le hl hb.size, Nat.lt_of_lt_of_le hx hb.size, hB.trans (hb.mono hB.size)⟩
set_option maxRecDepth 100000 in
set_option maxHeartbeats 4000000 in
theorem law_LockTells {TT : World → Prop} (P : PLocks TT) (n c : Nat) (a : Option Addr) (L : List Ho) (x : As) (t : Tx) (hk : okA x.key x.t) (ht : okX t) (w : World) (I : HoIn w a n c L) (hT : TT w) :
    Calls Try.prog 4 #[.slice a n c, asV x, txV t] w fun e w' => e = .returned (.bool true) ∧ Below w.heap.size w w' := by
  have hnb : n ≤ 140737488351232 := by have := I.room; omega
  have HS := Lib.hid (fun w' (hb : Below w.heap.size w w') => shown_any P w' (P.below hT hb))
  have D1 := Lib.hid (fun w' (hb : Below w.heap.size w w') => P.drop n c a L t I.hlen I.hcap I.hmax I.room I.small ht w' (P.below hT hb) (I.mem.later hb))
  have D2 := Lib.hid (fun w' (hb : Below w.heap.size w w') => rDrop_any n c a L t I.hlen I.room w' (I.mem.later hb))
  have H1 := Lib.hid (fun w' (hb : Below w.heap.size w w') => P.has n c a L x.t x.key x.wr I.hlen hnb I.small hk.1 w' (P.below hT hb) (I.mem.later hb))
  have H2 := Lib.hid (fun w' (hb : Below w.heap.size w w') => rHas_any n c a L x.t x.key x.wr I.hlen hnb w' (I.mem.later hb))
  have R1 := Lib.hid (fun w' (hb : Below w.heap.size w w') => P.right n c a L I.hlen I.room I.small w' (P.below hT hb) (I.mem.later hb))
  have R2 := Lib.hid (fun w' (hb : Below w.heap.size w w') => rRight_any n c a L I.hlen hnb w' (I.mem.later hb))
  have E1 := Lib.hid (fun w' (hb : Below w.heap.size w w') => P.elder x.t t w' (P.below hT hb))
  have E2 := Lib.hid (fun w' => rElder_any x.t t w')
  have hlen : (dropH t L).length ≤ 140737488351232 := Nat.le_trans (dropH_len t L) (by rw [I.hlen]; exact hnb)
  obtain ⟨M, hM⟩ : ∃ M, dropH t L = M := ⟨_, rfl⟩
  obtain ⟨h, hh⟩ : ∃ h, hasH x.t x.key x.wr L = h := ⟨_, rfl⟩
  obtain ⟨r, hr⟩ : ∃ r, rightH L = r := ⟨_, rfl⟩
  obtain ⟨z, hz⟩ : ∃ z, eldT x.t t = z := ⟨_, rfl⟩
  rw [hM] at D1 D2 hlen
  rw [hh] at H1 H2
  rw [hr] at R1 R2
  rw [hz] at E1 E2
  have HSM := Lib.hid (fun (a1 a2 : Option Addr) (c1 c2 : Nat) w' (h1 : Hos w' a1 M) (h2 : Hos w' a2 M) => rSame_any M.length c1 c2 a1 a2 M rfl hlen w' h1 h2)
  obtain ⟨⟨xa, xi⟩, xk, xw⟩ := x
  obtain ⟨ta, ti⟩ := t
  clear hM hh hr hz P I hT hk ht hlen
  have HC : Hid (∀ W, (w.alloc (.cells #[.int .u64 (xa : Nat), .int .u64 (xi : Nat), .string xk, .bool xw] 27)).alloc (.cells #[.int .u64 (ta : Nat), .int .u64 (ti : Nat)] 25) = W → Below w.heap.size w W ∧ AsBox W w.heap.size ⟨⟨xa, xi⟩, xk, xw⟩ ∧ TxBox W (w.heap.size + 1) ⟨ta, ti⟩) := Lib.hid (fun W hW => by
    obtain ⟨g1, B1⟩ := asbox (w := w) (a := xa) (i := xi) (k := xk) (g := xw) rfl
    obtain ⟨g2, B2⟩ := txbox hW
    exact ⟨g1.trans (g2.mono g1.size), B1.later g2, by simpa using B2⟩)
  obtain ⟨x0, hx0⟩ : ∃ x, w.heap.size = x := ⟨_, rfl⟩
  have HX0 := Lib.hid hx0
  clear hx0
  go_enter Try.func4, Try.ntmps4
  go_wp2_with fail
  generalize hW : (w.alloc (.cells #[.int .u64 (xa : Nat), .int .u64 (xi : Nat), .string xk, .bool xw] 27)).alloc (.cells #[.int .u64 (ta : Nat), .int .u64 (ti : Nat)] 25) = W
  obtain ⟨hB, T1, T2⟩ := HC.out W hW
  rw [HX0.out] at T1 T2 ⊢
  clear HC hW
  refine (HS.out _ hB).mono ?_
  rintro e w1 ⟨rfl, hb1⟩
  obtain ⟨l0, q0, q1, q2, q3⟩ := T1.later hb1
  obtain ⟨l1, r0, r1⟩ := T2.later hb1
  have S0 := Lib.hid (And.intro q0 (And.intro q1 (And.intro q2 (And.intro q3 (And.intro r0 (And.intro r1 (And.intro l0 (And.intro l1 (hB.trans (hb1.mono hB.size))))))))))
  simp only at S0
  clear hB T1 T2 hb1 q0 q1 q2 q3 r0 r1 l0 l1
  go_wp2_with fail
  go_upto_region 2 with (fail)
  have S1 := keepT S0.out (Below.refl _ _).drew
  clear S0
  go_region_held3 (fun w' => w'.cell? ⟨x0, 0, none⟩ = some (.int .u64 (xa : Nat)) ∧ w'.cell? ⟨x0, 1, none⟩ = some (.int .u64 (xi : Nat)) ∧ w'.cell? ⟨x0, 2, none⟩ = some (.string xk) ∧ w'.cell? ⟨x0, 3, none⟩ = some (.bool xw) ∧ w'.cell? ⟨x0 + 1, 0, none⟩ = some (.int .u64 (ta : Nat)) ∧ w'.cell? ⟨x0 + 1, 1, none⟩ = some (.int .u64 (ti : Nat)) ∧ x0 < w'.heap.size ∧ x0 + 1 < w'.heap.size ∧ Below w.heap.size w w')
    (first | (with_reducible assumption) | go_keep)
    (first
      | (go_at_call 14; (with_reducible refine (D1.out _ S1.2.2.2.2.2.2.2.2).mono ?_); rintro e2 w2 ⟨a1, c1, rfl, hR1, _, _, hb2⟩; have S2 := keepT S1 hb2)
      | (go_at_call 15; (with_reducible refine (D2.out _ S2.2.2.2.2.2.2.2.2).mono ?_); rintro e3 w3 ⟨a2, c2, rfl, hR2, _, _, hb3⟩; have S3 := keepT S2 hb3)
      | (go_at_call 12; (with_reducible refine (HSM.out a1 a2 c1 c2 _ (hR1.later hb3) hR2).mono ?_); rintro e4 w4 ⟨rfl, hb4⟩; have S4 := keepT S3 hb4))
  all_goals
    have HS4 := Lib.hid S4
    clear S1 S2 S3 S4 hR1 hR2 hb2 hb3 hb4 D1 D2 HSM
    obtain ⟨q0, q1, q2, q3, r0, r1, _, _, hB4⟩ := HS4.out
    go_wp2_with fail
    refine (H1.out _ hB4).mono ?_
    rintro e5 w5 ⟨rfl, hb5⟩
    have S5 := Lib.hid (keepT HS4.out hb5)
    clear hb5 hB4 q0 q1 q2 q3 r0 r1 HS4
    go_upto_region 4 with (fail)
    have S6 := keepT S5.out (Below.refl _ _).drew
    clear S5
    go_region_held3 (fun w' => w'.cell? ⟨x0, 0, none⟩ = some (.int .u64 (xa : Nat)) ∧ w'.cell? ⟨x0, 1, none⟩ = some (.int .u64 (xi : Nat)) ∧ w'.cell? ⟨x0, 2, none⟩ = some (.string xk) ∧ w'.cell? ⟨x0, 3, none⟩ = some (.bool xw) ∧ w'.cell? ⟨x0 + 1, 0, none⟩ = some (.int .u64 (ta : Nat)) ∧ w'.cell? ⟨x0 + 1, 1, none⟩ = some (.int .u64 (ti : Nat)) ∧ x0 < w'.heap.size ∧ x0 + 1 < w'.heap.size ∧ Below w.heap.size w w')
      (first | (with_reducible assumption) | go_keep)
      (first
        | (go_at_call 17; (with_reducible refine (H2.out _ S6.2.2.2.2.2.2.2.2).mono ?_); rintro e6 w6 ⟨rfl, hb6⟩; have S7 := keepT S6 hb6)
        | (go_at_call 18; (with_reducible refine (R1.out _ S7.2.2.2.2.2.2.2.2).mono ?_); rintro e7 w7 ⟨rfl, hb7⟩; have S8 := keepT S7 hb7)
        | (go_at_call 19; (with_reducible refine (R2.out _ S8.2.2.2.2.2.2.2.2).mono ?_); rintro e8 w8 ⟨rfl, hb8⟩; have S9 := keepT S8 hb8)
        | (go_at_call 20; (with_reducible refine (E1.out _ S9.2.2.2.2.2.2.2.2).mono ?_); rintro e9 w9 ⟨rfl, hb9⟩; have S10 := keepT S9 hb9)
        | (go_at_call 21; (with_reducible refine (E2.out _).mono ?_); rintro e10 w10 ⟨rfl, hb10⟩; have S11 := keepT S10 hb10))
    all_goals
      have HB := Lib.hid S11.2.2.2.2.2.2.2.2
      clear S6 S7 S8 S9 S10 S11 hb6 hb7 hb8 hb9 hb10
      go_wp2_with fail
      go_ret
      exact ⟨by first | rfl | simp, HB.out⟩
end Go.Proofs.Ytfidgnhinllhlaa
