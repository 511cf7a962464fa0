/- LeaseUntil. -/
import Derived.Test.YtoabpakichjieaaEp
import Derived.Test.YtoabpakichjieaaEr
namespace Go.Proofs.Ytoabpakichjieaa
open Go.RowKit

theorem markN_lt {B : Nat} (h0 : 0 < B) : ∀ (v : Nat) (M : List Mk), (∀ x ∈ M, x.n < B) → (markN v M).1 < B
  | _, [], _ => h0
  | v, x :: r, h => by
    simp only [markN]
    split
    · exact h x (by simp)
    · exact markN_lt h0 v r fun y hy => h y (by simp [hy])
theorem setN_lt {B : Nat} (id u : Nat) (hu : u < B) : ∀ (M : List Mk), (∀ x ∈ M, x.n < B) → ∀ x ∈ setN id u M, x.n < B
  | [], _, x, hx => by simp [setN] at hx; subst hx; exact hu
  | y :: r, h, x, hx => by
    simp only [setN] at hx
    split at hx
    · rcases List.mem_cons.1 hx with e | e
      · subst e; exact hu
      · exact h x (by simp [e])
    · rcases List.mem_cons.1 hx with e | e
      · subst e; exact h _ (by simp)
      · exact setN_lt id u hu r (fun y hy => h y (by simp [hy])) x e
theorem ag_lt {V : List Nat} {M : List Mk} {id now : Nat} (hM : ∀ x ∈ M, x.id < 18446744073709551616 ∧ x.n < 18446744073709551616) (hn : now < 18446744073709551616) : agL (mks V (setN id now M)) < 18446744073709551616 := by
  rcases Nat.eq_zero_or_pos V.length with h | h
  · rw [List.length_eq_zero_iff.1 h]; show agL [] < _; rw [agL_nil]; decide
  · have hm := agL_mem (D := mks V (setN id now M)) (by simp [mks]; omega)
    obtain ⟨v, _, he⟩ := List.mem_map.1 hm
    rw [← he]
    exact markN_lt (by decide) _ _ (setN_lt id now hn M fun x hx => (hM x hx).2)
set_option maxRecDepth 100000 in
set_option maxHeartbeats 4000000 in
theorem law_LeaseUntil (n c n2 c2 m e : Nat) (a a2 a3 : Option Addr) (V Lr : List Nat) (M : List Mk) (id now s dr : Nat) (_ : id < 18446744073709551616) (hnow : now < 18446744073709551616) (hs : s < 18446744073709551616) (hd : dr < 18446744073709551616) (w : World) (hI : CfIn w n c a a2 V n2 c2 Lr m e a3 M) :
    Calls Try.prog 5 #[.agg #[.slice a n c, .slice a2 n2 c2, .int .u64 id, .int .u64 now, .slice a3 m e, .int .u64 s, .int .u64 dr]] w fun e w' => e = .returned (.bool true) ∧ Below w.heap.size w w' := by
  obtain ⟨b, hb⟩ : ∃ b, bnd s dr = b := ⟨_, rfl⟩
  obtain ⟨k, hk⟩ : ∃ k, agL (mks V (setN id now M)) = k := ⟨_, rfl⟩
  have hkb : k < 18446744073709551616 := by rw [← hk]; exact ag_lt hI.nums3 hnow
  have HC := Lib.hid hI.cf
  have HU := Lib.hid hI.mem2
  have U1 := Lib.hid (fun (w' : World) (h : CfM w' n c a a2 V m e a3 M) => pUntil_any n c n2 c2 m e a a2 a3 V M id now s dr b k hs hd hb hk hkb w' h)
  have U2 := Lib.hid (fun (w' : World) (h : CfM w' n c a a2 V m e a3 M) => rUntil_any n c n2 c2 m e a a2 a3 V M id now s dr b k hs hd hb hk hkb w' h)
  have H1 := Lib.hid (fun (w' : World) (h : CfM w' n c a a2 V m e a3 M) (h2 : Us w' a2 Lr) => pHolds_any n c n2 c2 m e a a2 a3 V Lr M id now s dr b k hs hd hb hk hkb w' h hI.hlen2 hI.room2 h2)
  have H2 := Lib.hid (fun (w' : World) (h : CfM w' n c a a2 V m e a3 M) (h2 : Us w' a2 Lr) => rHolds_any n c n2 c2 m e a a2 a3 V Lr M id now s dr b k hs hd hb hk hkb w' h hI.hlen2 hI.room2 h2)
  obtain ⟨u, hu⟩ : ∃ u, untl b k = u := ⟨_, rfl⟩
  obtain ⟨q, hq⟩ : ∃ q, holdsB V Lr id now u = q := ⟨_, rfl⟩
  rw [hu] at U1 U2 H1 H2
  rw [hq] at H1 H2
  have C0 := Lib.hid (Cb.new (w := w.alloc (.cells #[.slice a n c, .slice a2 n2 c2, .int .u64 id, .int .u64 now, .slice a3 m e, .int .u64 s, .int .u64 dr] 32)) (x := w.heap.size + 1) (by simp) (.slice a n c) (.slice a2 n2 c2) 29)
  have HB0 := Lib.hid (show Below w.heap.size w ((w.alloc (.cells #[.slice a n c, .slice a2 n2 c2, .int .u64 id, .int .u64 now, .slice a3 m e, .int .u64 s, .int .u64 dr] 32)).alloc (.cells #[.slice a n c, .slice a2 n2 c2] 29)) by go_grown)
  clear hI hb hk hkb hu hq
  go_enter Try.func5, Try.ntmps5
  go_upto_region 7 with (fail)
  generalize (w.alloc (.cells #[.slice a n c, .slice a2 n2 c2, .int .u64 id, .int .u64 now, .slice a3 m e, .int .u64 s, .int .u64 dr] 32)).alloc (.cells #[.slice a n c, .slice a2 n2 c2] 29) = W at *
  go_wp2_with fail
  refine (shown_any _).mono ?_
  rintro e1 w1 ⟨rfl, hb1⟩
  have HB1 := Lib.hid (HB0.out.trans (hb1.mono HB0.out.size))
  have HC1 := Lib.hid (C0.out.later hb1)
  clear hb1 C0 HB0
  obtain ⟨c0, c1, _, _⟩ := HC1.out
  go_wp2_with fail
  refine (U1.out _ (HC.out.later HB1.out)).mono ?_
  rintro e1 w2 ⟨rfl, hb2⟩
  have HB2 := Lib.hid (HB1.out.trans (hb2.mono HB1.out.size))
  have HC2 := Lib.hid (HC1.out.later hb2)
  clear hb2 c0 c1 HC1 HB1
  obtain ⟨c0, c1, _, _⟩ := HC2.out
  go_wp2_with fail
  refine (H1.out _ (HC.out.later HB2.out) (HU.out.later HB2.out)).mono ?_
  rintro e1 w3 ⟨rfl, hb3⟩
  have HB3 := Lib.hid (HB2.out.trans (hb3.mono HB2.out.size))
  have HC3 := Lib.hid (HC2.out.later hb3)
  clear hb3 c0 c1 HC2 HB2
  obtain ⟨c0, c1, _, _⟩ := HC3.out
  go_wp2_with fail
  refine (U2.out _ (HC.out.later HB3.out)).mono ?_
  rintro e1 w4 ⟨rfl, hb4⟩
  have HB4 := Lib.hid (HB3.out.trans (hb4.mono HB3.out.size))
  have HC4 := Lib.hid (HC3.out.later hb4)
  clear hb4 c0 c1 HC3 HB3
  obtain ⟨c0, c1, _, _⟩ := HC4.out
  go_wp2_with fail
  refine (H2.out _ (HC.out.later HB4.out) (HU.out.later HB4.out)).mono ?_
  rintro e1 w5 ⟨rfl, hb5⟩
  have HB5 := Lib.hid (HB4.out.trans (hb5.mono HB4.out.size))
  clear hb5 c0 c1
  go_wp2_with fail
  go_ret
  exact ⟨by first | rfl | simp, HB5.out⟩
end Go.Proofs.Ytoabpakichjieaa
