/- Whether the lease holds: the program's Holds, and the document's. -/
import Derived.Test.YtoabpakichjieaaEm
import Derived.Test.YtoabpakichjieaaGd
namespace Go.Proofs.Ytoabpakichjieaa
open Go.RowKit

set_option maxHeartbeats 1000000 in
theorem holds1_any (v id h : Nat) (w : World) (H : Nb w h id) :
    Calls Try.prog 27 #[.int .u64 v, .pointer (some ⟨h, 0, none⟩)] w fun e w' => e = .returned (.bool (decide (v = id))) ∧ w = w' := by
  obtain ⟨c, fz, lt⟩ := H
  by_cases e : v = id
  · subst e
    rw [decide_eq_true rfl]
    go_enter Try.func27, Try.ntmps27
    go_wp2_with fail
    go_ret
    exact ⟨by first | rfl | simp, rfl⟩
  · have g : ((v : Int) == (id : Int)) = false := by simp; omega
    rw [decide_eq_false e]
    go_enter Try.func27, Try.ntmps27
    go_wp2_with fail
    go_ret
    exact ⟨by first | rfl | simp, rfl⟩
set_option maxHeartbeats 1000000 in
theorem indexH_any (h id n c : Nat) (a : Option Addr) (L : List Nat) (hn : L.length = n) (hl : n ≤ 140737488351232) (w : World) (H : Nb w h id) (hU : Us w a L) :
    Calls Try.prog 48 #[.slice a n c, .func (.func 27) #[] #[.pointer (some ⟨h, 0, none⟩)]] w fun e w' => (∃ k : Int, e = .returned (.int .i64 k) ∧ (0 ≤ k ↔ hasN id L = true)) ∧ w = w' := by
  have HN := Lib.hid hn
  have HU := Lib.hid hU
  have HH := Lib.hid H
  clear hn hU H
  go_enter Try.func48, Try.ntmps48
  go_wp2_with fail
  go_loop [8] (fun u => ∃ k : Nat, k ≤ n ∧ u = .int .i64 k ∧ hasN id L = hasN id (L.drop k)) (fun u => n - (intOf u).toNat)
  case atStart => exact ⟨0, Nat.zero_le _, rfl, rfl⟩
  case round =>
    obtain ⟨k, hk, rfl, hf⟩ := hrel
    have HFB := Lib.hid hf
    clear hf
    by_cases hlt : k < n
    · obtain ⟨y, hx⟩ : ∃ y, L[k]? = some y := ⟨_, List.getElem?_eq_getElem (by rw [HN.out]; exact hlt)⟩
      have i0 : (0 : Int) ≤ (k : Int) := by omega
      have i1 : (k : Int) < (n : Int) := by omega
      obtain ⟨b, off, rfl, hb, p0⟩ := HU.out k y hx
      have HFA := Lib.hid (HFB.out.trans (hasN_at (v := id) hx))
      clear hx
      obtain ⟨h', hh⟩ : ∃ h', decide (y = id) = h' := ⟨_, rfl⟩
      have HD := Lib.hid hh
      clear hh
      go_wp2_with fail
      refine (holds1_any y id h _ HH.out).mono ?_
      rintro e w2 ⟨rfl, rfl⟩
      rw [HD.out]
      cases h'
      · have HT := Lib.hid (show hasN id L = hasN id (L.drop (k + 1)) by rw [HFA.out, HD.out]; rfl)
        go_wp2_with fail
        go_round
        case rel => exact ⟨k + 1, by omega, by go_num, HT.out⟩
        case measure => simp [intOf]; omega
      · have HT := Lib.hid (show hasN id L = true by rw [HFA.out, HD.out]; rfl)
        go_wp2_with fail
        go_ret
        exact ⟨⟨k, rfl, ⟨fun _ => HT.out, fun _ => by omega⟩⟩, rfl⟩
    · have HT := Lib.hid (show hasN id L = false by rw [HFB.out, List.drop_eq_nil_of_le (by rw [HN.out]; omega)]; rfl)
      go_wp2_with fail
      go_ret
      exact ⟨⟨-1, rfl, ⟨fun h => by omega, fun h => by rw [HT.out] at h; simp at h⟩⟩, rfl⟩
set_option maxHeartbeats 1000000 in
theorem containsH_any (h id n c : Nat) (a : Option Addr) (L : List Nat) (hn : L.length = n) (hl : n ≤ 140737488351232) (w : World) (H : Nb w h id) (hU : Us w a L) :
    Calls Try.prog 29 #[.slice a n c, .func (.func 27) #[] #[.pointer (some ⟨h, 0, none⟩)]] w fun e w' => e = .returned (.bool (hasN id L)) ∧ w = w' := by
  go_enter Try.func29, Try.ntmps29
  go_wp2_with fail
  refine (indexH_any h id n c a L hn hl _ H hU).mono ?_
  rintro e w2 ⟨⟨k, rfl, hk⟩, rfl⟩
  have HK := Lib.hid hk
  clear hk hU H
  go_wp2_with fail
  go_ret
  exact ⟨by rw [← ge_of_iff HK.out]; first | rfl | simp, rfl⟩
/-- Whether it holds. -/
def holdsB (V Lr : List Nat) (id now u : Nat) : Bool := mayB V Lr && (hasN id V && decide (now < u))
set_option maxRecDepth 100000 in
set_option maxHeartbeats 4000000 in
theorem pHolds_any (n c n2 c2 m d : Nat) (a a2 a3 : Option Addr) (V Lr : List Nat) (L : List Mk) (id now s dr b k : Nat) (hs : s < 18446744073709551616) (hd : dr < 18446744073709551616) (hb : bnd s dr = b) (hk : agL (mks V (setN id now L)) = k) (hkb : k < 18446744073709551616) (w : World) (hC : CfM w n c a a2 V m d a3 L) (hn2 : Lr.length = n2) (hl2 : n2 ≤ 140737488351232) (hU : Us w a2 Lr) :
    Calls Try.prog 15 #[.agg #[.slice a n c, .slice a2 n2 c2], .int .u64 id, .int .u64 now, .slice a3 m d, .int .u64 s, .int .u64 dr] w fun e w' => e = .returned (.bool (holdsB V Lr id now (untl b k))) ∧ Below w.heap.size w w' := by
  have HC := Lib.hid hC
  have HU := Lib.hid hU
  have C0 := Lib.hid ((Cb.new (w := w) rfl (.slice a n c) (.slice a2 n2 c2) 29).past (.cells #[.int .u64 id] 22))
  have N0 := Lib.hid (Nb.new (w := w.alloc (.cells #[.slice a n c, .slice a2 n2 c2] 29)) (x := w.heap.size + 1) (by simp) id 22)
  have HB0 := Lib.hid (show Below w.heap.size w ((w.alloc (.cells #[.slice a n c, .slice a2 n2 c2] 29)).alloc (.cells #[.int .u64 id] 22)) by go_grown)
  obtain ⟨u, hu⟩ : ∃ u, untl b k = u := ⟨_, rfl⟩
  obtain ⟨m1, hm1⟩ : ∃ m1, mayB V Lr = m1 := ⟨_, rfl⟩
  obtain ⟨m2, hm2⟩ : ∃ m2, hasN id V = m2 := ⟨_, rfl⟩
  have U := Lib.hid (fun (w' : World) (h : CfM w' n c a a2 V m d a3 L) => pUntil_any n c n2 c2 m d a a2 a3 V L id now s dr b k hs hd hb hk hkb w' h)
  have P1 := Lib.hid (fun (w' : World) (h : CfM w' n c a a2 V m d a3 L) (h2 : Us w' a2 Lr) => pMay_any n c n2 c2 a a2 V Lr h.hn (by have := h.hl; omega) hn2 hl2 w' h.hV h2)
  have P2 := Lib.hid (fun (w' : World) (h : CfM w' n c a a2 V m d a3 L) (x : Nat) (h2 : Nb w' x id) => containsH_any x id n c a V h.hn (by have := h.hl; omega) w' h2 h.hV)
  rw [hu] at U
  rw [hm1] at P1
  rw [hm2] at P2
  have HR := Lib.hid (show holdsB V Lr id now (untl b k) = (m1 && (m2 && decide (now < u))) by unfold holdsB; rw [hm1, hm2, hu])
  rw [HR.out]
  clear hC hU hb hk hu hm1 hm2 HR
  go_enter Try.func15, Try.ntmps15
  go_upto_region 2 with (fail)
  generalize (w.alloc (.cells #[.slice a n c, .slice a2 n2 c2] 29)).alloc (.cells #[.int .u64 id] 22) = W at *
  obtain ⟨c0, c1, cf, cl⟩ := C0.out
  go_wp2_with fail
  refine (P1.out _ (HC.out.later HB0.out) (HU.out.later HB0.out)).mono ?_
  rintro e w1 ⟨rfl, hb1⟩
  have HB1 := Lib.hid (HB0.out.trans (hb1.mono HB0.out.size))
  have C1 := Lib.hid (C0.out.later hb1)
  have N1 := Lib.hid (N0.out.later hb1)
  clear hb1 c0 c1 cf cl C0 N0
  obtain ⟨c0, c1, cf, cl⟩ := C1.out
  obtain ⟨n0, n1, n2⟩ := N1.out
  cases m1
  · go_wp2_with fail
    go_ret
    exact ⟨by first | rfl | simp, HB1.out⟩
  go_wp2_with fail
  refine (P2.out _ (HC.out.later HB1.out) _ N1.out).mono ?_
  rintro e w2 ⟨rfl, rfl⟩
  cases m2
  · go_wp2_with fail
    go_ret
    exact ⟨by first | rfl | simp, HB1.out⟩
  go_wp2_with fail
  refine (U.out _ (HC.out.later HB1.out)).mono ?_
  rintro e w3 ⟨rfl, hb3⟩
  have HB3 := Lib.hid (HB1.out.trans (hb3.mono HB1.out.size))
  clear hb3 c0 c1 cf cl n0 n1 n2
  by_cases hlt : now < u
  · have g : (now : Int) < (u : Int) := by omega
    go_wp2_with fail
    go_ret
    exact ⟨by rw [decide_eq_true hlt]; first | rfl | simp, HB3.out⟩
  · have g : ¬ (now : Int) < (u : Int) := by omega
    go_wp2_with fail
    go_ret
    exact ⟨by rw [decide_eq_false hlt]; first | rfl | simp, HB3.out⟩
set_option maxRecDepth 100000 in
set_option maxHeartbeats 4000000 in
theorem rHolds_any (n c n2 c2 m d : Nat) (a a2 a3 : Option Addr) (V Lr : List Nat) (L : List Mk) (id now s dr b k : Nat) (hs : s < 18446744073709551616) (hd : dr < 18446744073709551616) (hb : bnd s dr = b) (hk : agL (mks V (setN id now L)) = k) (hkb : k < 18446744073709551616) (w : World) (hC : CfM w n c a a2 V m d a3 L) (hn2 : Lr.length = n2) (hl2 : n2 ≤ 140737488351232) (hU : Us w a2 Lr) :
    Calls Try.prog 17 #[.agg #[.slice a n c, .slice a2 n2 c2], .int .u64 id, .int .u64 now, .slice a3 m d, .int .u64 s, .int .u64 dr] w fun e w' => e = .returned (.bool (holdsB V Lr id now (untl b k))) ∧ Below w.heap.size w w' := by
  have HC := Lib.hid hC
  have HU := Lib.hid hU
  have C0 := Lib.hid (Cb.new (w := w) rfl (.slice a n c) (.slice a2 n2 c2) 29)
  have HB0 := Lib.hid (show Below w.heap.size w (w.alloc (.cells #[.slice a n c, .slice a2 n2 c2] 29)) by go_grown)
  obtain ⟨u, hu⟩ : ∃ u, untl b k = u := ⟨_, rfl⟩
  obtain ⟨m1, hm1⟩ : ∃ m1, mayB V Lr = m1 := ⟨_, rfl⟩
  obtain ⟨m2, hm2⟩ : ∃ m2, hasN id V = m2 := ⟨_, rfl⟩
  have U := Lib.hid (fun (w' : World) (h : CfM w' n c a a2 V m d a3 L) => rUntil_any n c n2 c2 m d a a2 a3 V L id now s dr b k hs hd hb hk hkb w' h)
  have P1 := Lib.hid (fun (w' : World) (h : CfM w' n c a a2 V m d a3 L) (h2 : Us w' a2 Lr) => rMay_any n c n2 c2 a a2 V Lr h.hn (by have := h.hl; omega) hn2 hl2 w' h.hV h2)
  have P2 := Lib.hid (fun (w' : World) (h : CfM w' n c a a2 V m d a3 L) => rHas_any id n c a V h.hn (by have := h.hl; omega) w' h.hV)
  rw [hu] at U
  rw [hm1] at P1
  rw [hm2] at P2
  have HR := Lib.hid (show holdsB V Lr id now (untl b k) = (m1 && (m2 && decide (now < u))) by unfold holdsB; rw [hm1, hm2, hu])
  rw [HR.out]
  clear hC hU hb hk hu hm1 hm2 HR
  go_enter Try.func17, Try.ntmps17
  go_upto_region 1 with (fail)
  generalize w.alloc (.cells #[.slice a n c, .slice a2 n2 c2] 29) = W at *
  obtain ⟨c0, c1, cf, cl⟩ := C0.out
  go_wp2_with fail
  refine (P1.out _ (HC.out.later HB0.out) (HU.out.later HB0.out)).mono ?_
  rintro e w1 ⟨rfl, hb1⟩
  have HB1 := Lib.hid (HB0.out.trans (hb1.mono HB0.out.size))
  have C1 := Lib.hid (C0.out.later hb1)
  clear hb1 c0 c1 cf cl C0
  obtain ⟨c0, c1, cf, cl⟩ := C1.out
  go_wp2_with fail
  refine (P2.out _ (HC.out.later HB1.out)).mono ?_
  rintro e w2 ⟨rfl, rfl⟩
  cases m1
  · go_wp2_with fail
    go_ret
    exact ⟨by first | rfl | simp, HB1.out⟩
  cases m2
  · go_wp2_with fail
    go_ret
    exact ⟨by first | rfl | simp, HB1.out⟩
  go_wp2_with fail
  refine (U.out _ (HC.out.later HB1.out)).mono ?_
  rintro e w3 ⟨rfl, hb3⟩
  have HB3 := Lib.hid (HB1.out.trans (hb3.mono HB1.out.size))
  clear hb3 c0 c1 cf cl
  by_cases hlt : now < u
  · have g : (now : Int) < (u : Int) := by omega
    go_wp2_with fail
    go_ret
    exact ⟨by rw [decide_eq_true hlt]; first | rfl | simp, HB3.out⟩
  · have g : ¬ (now : Int) < (u : Int) := by omega
    go_wp2_with fail
    go_ret
    exact ⟨by rw [decide_eq_false hlt]; first | rfl | simp, HB3.out⟩
end Go.Proofs.Ytoabpakichjieaa
