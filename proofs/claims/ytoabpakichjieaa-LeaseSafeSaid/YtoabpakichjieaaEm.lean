/- How long the leader may believe: the program's Until, and the document's. -/
import Derived.Test.YtoabpakichjieaaEl
import Derived.Test.YtoabpakichjieaaEj
import Derived.Test.YtoabpakichjieaaGn
import Derived.Test.YtoabpakichjieaaGz
namespace Go.Proofs.Ytoabpakichjieaa
open Go.RowKit

/-- How long, of the bound and what a majority has. -/
def untl (b k : Nat) : Nat := if b = 0 ∨ k = 0 then 0 else min 18446744073709551615 (k + b)
/-- What Set answers, as a slice. -/
def SetQ (w : World) (M : List Mk) (e : Ending) (w' : World) : Prop := ∃ (a : Option Addr) (c : Nat), e = .returned (.slice a M.length c) ∧ Ms w' a M ∧ Below w.heap.size w w'
theorem setQ_of {w : World} {M : List Mk} {e : Ending} {w' : World} (h : SetP w M e w') : SetQ w M e w' := by
  obtain ⟨v, rfl, hc, hb⟩ := h
  obtain ⟨a1, c1, rfl, hM1, _⟩ := hc.form
  exact ⟨a1, c1, rfl, hM1, hb⟩
/-- A configuration in a box, beside all that was there. -/
theorem keepCf {w0 w w' : World} {x : Nat} {u v : Value} (h : w.cell? ⟨x, 0, none⟩ = some u ∧ w.cell? ⟨x, 1, none⟩ = some v ∧ x < w.heap.size ∧ Below w0.heap.size w0 w) (hb : Below w.heap.size w w') :
    w'.cell? ⟨x, 0, none⟩ = some u ∧ w'.cell? ⟨x, 1, none⟩ = some v ∧ x < w'.heap.size ∧ Below w0.heap.size w0 w' :=
  ⟨(hb.cell (p := ⟨x, 0, none⟩) h.2.2.1).trans h.1, (hb.cell (p := ⟨x, 1, none⟩) h.2.2.1).trans h.2.1, Nat.lt_of_lt_of_le h.2.2.1 hb.size, h.2.2.2.trans (hb.mono h.2.2.2.size)⟩
theorem newCf (w : World) (u v : Value) (T : TypeId) : (w.alloc (.cells #[u, v] T)).cell? ⟨w.heap.size, 0, none⟩ = some u ∧ (w.alloc (.cells #[u, v] T)).cell? ⟨w.heap.size, 1, none⟩ = some v ∧ w.heap.size < (w.alloc (.cells #[u, v] T)).heap.size ∧ Below w.heap.size w (w.alloc (.cells #[u, v] T)) :=
  ⟨by simp [go_sem], by simp [go_sem], by simp, (Below.refl _ _).alloc (Nat.le_refl _) _⟩
theorem setN_len (id u : Nat) (L : List Mk) : (setN id u L).length ≤ L.length + 1 := by
  induction L with
  | nil => simp [setN]
  | cons x r ih => simp only [setN]; split <;> simp <;> omega
/-- A group, and acks, in memory, and how many they are. -/
structure CfM (w : World) (n c : Nat) (a a2 : Option Addr) (V : List Nat) (m d : Nat) (a3 : Option Addr) (L : List Mk) : Prop where
  hn : V.length = n
  hl : n * 8 ≤ 140737488351232
  hm : L.length = m
  hl2 : m * 16 ≤ 140737488351232
  hV : Us w a V
  hM : Ms w a3 L
theorem CfM.later {w w' : World} {n c m d : Nat} {a a2 a3 : Option Addr} {V : List Nat} {L : List Mk} (h : CfM w n c a a2 V m d a3 L) (hb : Below w.heap.size w w') : CfM w' n c a a2 V m d a3 L :=
  ⟨h.hn, h.hl, h.hm, h.hl2, h.hV.later hb, h.hM.later hb⟩
set_option maxRecDepth 100000 in
set_option maxHeartbeats 4000000 in
theorem pUntil_any (n c n2 c2 m d : Nat) (a a2 a3 : Option Addr) (V : List Nat) (L : List Mk) (id now s dr b k : Nat) (hs : s < 18446744073709551616) (hd : dr < 18446744073709551616) (hb : bnd s dr = b) (hk : agL (mks V (setN id now L)) = k) (hkb : k < 18446744073709551616) (w : World) (hC : CfM w n c a a2 V m d a3 L) :
    Calls Try.prog 14 #[.agg #[.slice a n c, .slice a2 n2 c2], .int .u64 id, .int .u64 now, .slice a3 m d, .int .u64 s, .int .u64 dr] w fun e w' => e = .returned (.int .u64 (untl b k : Nat)) ∧ Below w.heap.size w w' := by
  have hbb : b ≤ s := by rw [← hb]; exact bnd_le s dr
  have HC := Lib.hid hC
  obtain ⟨x, hx, hS0⟩ : ∃ x, w.heap.size = x ∧ ((w.alloc (.cells #[.slice a n c, .slice a2 n2 c2] 29)).cell? ⟨x, 0, none⟩ = some (.slice a n c) ∧ (w.alloc (.cells #[.slice a n c, .slice a2 n2 c2] 29)).cell? ⟨x, 1, none⟩ = some (.slice a2 n2 c2) ∧ x < (w.alloc (.cells #[.slice a n c, .slice a2 n2 c2] 29)).heap.size ∧ Below w.heap.size w (w.alloc (.cells #[.slice a n c, .slice a2 n2 c2] 29))) := ⟨_, rfl, newCf ..⟩
  have S0 := Lib.hid hS0
  have HX := Lib.hid hx
  clear hx hS0
  have B := Lib.hid (fun w => pBound_any s dr hs hd w)
  rw [hb] at B
  have HK := Lib.hid hk
  obtain ⟨r, hr⟩ : ∃ r, untl b k = r := ⟨_, rfl⟩
  rw [hr]
  have HR := Lib.hid hr
  obtain ⟨M, hMM⟩ : ∃ M, setN id now L = M := ⟨_, rfl⟩
  have hml : M.length ≤ m + 1 := by rw [← hMM, ← hC.hm]; exact setN_len _ _ _
  have P1 := Lib.hid (fun (w' : World) (h : CfM w' n c a a2 V m d a3 L) => (pSet_any id now m d a3 L h.hm h.hl2 w' h.hM).mono fun _ _ hh => setQ_of hh)
  have hm140 : M.length ≤ 140737488351232 := by have := hC.hl2; omega
  have P2 := Lib.hid (fun (w' : World) (h : CfM w' n c a a2 V m d a3 L) (a1 : Option Addr) (c1 : Nat) (hM1 : Ms w' a1 M) => pAgreed_any n c n2 c2 M.length c1 a a2 a1 V M h.hn h.hl rfl hm140 w' h.hV hM1)
  rw [hMM] at P1 HK
  have P2' := Lib.hid (fun (w' : World) (h : CfM w' n c a a2 V m d a3 L) (a1 : Option Addr) (c1 : Nat) (hM1 : Ms w' a1 M) => by
    have := P2.out w' h a1 c1 hM1
    rw [HK.out] at this; exact this)
  clear hC hb hk hr hMM hml hm140 P2 HK
  go_enter Try.func14, Try.ntmps14
  go_wp2_with fail
  refine (B.out _).mono ?_
  rintro e w1 ⟨rfl, hb1⟩
  have S1 := Lib.hid (keepCf S0.out hb1)
  go_upto_region 2 with (fail)
  clear hb1 S0
  have S1 := keepCf S1.out (Below.refl _ _).drew
  rw [HX.out]
  go_wp2_with fail
  go_region_held3 (fun w' => w'.cell? ⟨x, 0, none⟩ = some (.slice a n c) ∧ w'.cell? ⟨x, 1, none⟩ = some (.slice a2 n2 c2) ∧ x < w'.heap.size ∧ Below w.heap.size w w')
    (first | (with_reducible assumption) | go_keep)
    (first
      | (go_at_call 26; (with_reducible refine (P1.out _ (HC.out.later S1.2.2.2)).mono ?_); rintro e w2 ⟨a1, c1, rfl, hM1, hb2⟩; have S2 := keepCf S1 hb2)
      | (go_at_call 25; (with_reducible refine (P2'.out _ (HC.out.later S2.2.2.2) a1 c1 hM1).mono ?_); rintro e w3 ⟨rfl, hb3⟩; have S3 := keepCf S2 hb3))
  all_goals
    have HB := Lib.hid S3.2.2.2
    clear S1 S2 S3 hM1
    by_cases h0 : b = 0
    · subst h0
      have hr0 : r = 0 := by rw [← HR.out]; exact if_pos (.inl rfl)
      subst hr0
      go_wp2_with fail
      go_ret
      exact ⟨by first | rfl | simp, HB.out⟩
    have g0 : ((b : Int) == 0) = false := by simpa using h0
    by_cases h1 : k = 0
    · subst h1
      have hr0 : r = 0 := by rw [← HR.out]; exact if_pos (.inr rfl)
      subst hr0
      go_wp2_with fail
      go_ret
      exact ⟨by first | rfl | simp, HB.out⟩
    have g1 : ((k : Int) == 0) = false := by simpa using h1
    have hrr : r = min 18446744073709551615 (k + b) := by rw [← HR.out]; exact if_neg (by omega)
    have E1 : IntKind.u64.wrap (18446744073709551615 - (k : Int)) = 18446744073709551615 - (k : Int) := by rw [IntKind.wrap_u64]; omega
    have E3 := Lib.hid (show (k : Int) + min (b : Int) (18446744073709551615 - (k : Int)) = (r : Int) by omega)
    clear hrr
    go_wp2_with fail
    go_ret
    exact ⟨show Ending.returned (.int .u64 ((k : Int) + min (b : Int) (18446744073709551615 - (k : Int)))) = .returned (.int .u64 (r : Int)) by rw [E3.out], HB.out⟩
set_option maxRecDepth 100000 in
set_option maxHeartbeats 4000000 in
theorem rUntil_any (n c n2 c2 m d : Nat) (a a2 a3 : Option Addr) (V : List Nat) (L : List Mk) (id now s dr b k : Nat) (hs : s < 18446744073709551616) (hd : dr < 18446744073709551616) (hb : bnd s dr = b) (hk : agL (mks V (setN id now L)) = k) (hkb : k < 18446744073709551616) (w : World) (hC : CfM w n c a a2 V m d a3 L) :
    Calls Try.prog 16 #[.agg #[.slice a n c, .slice a2 n2 c2], .int .u64 id, .int .u64 now, .slice a3 m d, .int .u64 s, .int .u64 dr] w fun e w' => e = .returned (.int .u64 (untl b k : Nat)) ∧ Below w.heap.size w w' := by
  have hbb : b ≤ s := by rw [← hb]; exact bnd_le s dr
  have HC := Lib.hid hC
  obtain ⟨x, hx, hS0⟩ : ∃ x, w.heap.size = x ∧ ((w.alloc (.cells #[.slice a n c, .slice a2 n2 c2] 29)).cell? ⟨x, 0, none⟩ = some (.slice a n c) ∧ (w.alloc (.cells #[.slice a n c, .slice a2 n2 c2] 29)).cell? ⟨x, 1, none⟩ = some (.slice a2 n2 c2) ∧ x < (w.alloc (.cells #[.slice a n c, .slice a2 n2 c2] 29)).heap.size ∧ Below w.heap.size w (w.alloc (.cells #[.slice a n c, .slice a2 n2 c2] 29))) := ⟨_, rfl, newCf ..⟩
  have S0 := Lib.hid hS0
  have HX := Lib.hid hx
  clear hx hS0
  have B := Lib.hid (fun w => rBound_any s dr hs hd w)
  rw [hb] at B
  have HK := Lib.hid hk
  obtain ⟨r, hr⟩ : ∃ r, untl b k = r := ⟨_, rfl⟩
  rw [hr]
  have HR := Lib.hid hr
  obtain ⟨M, hMM⟩ : ∃ M, setN id now L = M := ⟨_, rfl⟩
  have hml : M.length ≤ m + 1 := by rw [← hMM, ← hC.hm]; exact setN_len _ _ _
  have P1 := Lib.hid (fun (w' : World) (h : CfM w' n c a a2 V m d a3 L) => (rSet_any id now m d a3 L h.hm h.hl2 w' h.hM).mono fun _ _ hh => setQ_of hh)
  have hm140 : M.length ≤ 140737488351232 := by have := hC.hl2; omega
  have P2 := Lib.hid (fun (w' : World) (h : CfM w' n c a a2 V m d a3 L) (a1 : Option Addr) (c1 : Nat) (hM1 : Ms w' a1 M) => rAgreed_any n c n2 c2 M.length c1 a a2 a1 V M h.hn (by have := h.hl; omega) rfl hm140 w' h.hV hM1)
  rw [hMM] at P1 HK
  have P2' := Lib.hid (fun (w' : World) (h : CfM w' n c a a2 V m d a3 L) (a1 : Option Addr) (c1 : Nat) (hM1 : Ms w' a1 M) => by
    have := P2.out w' h a1 c1 hM1
    rw [HK.out] at this; exact this)
  clear hC hb hk hr hMM hml hm140 P2 HK
  go_enter Try.func16, Try.ntmps16
  go_upto_region 1 with (fail)
  have S1 := keepCf S0.out (Below.refl _ _).drew
  rw [HX.out]
  go_wp2_with fail
  go_region_held3 (fun w' => w'.cell? ⟨x, 0, none⟩ = some (.slice a n c) ∧ w'.cell? ⟨x, 1, none⟩ = some (.slice a2 n2 c2) ∧ x < w'.heap.size ∧ Below w.heap.size w w')
    (first | (with_reducible assumption) | go_keep)
    (first
      | (go_at_call 31; (with_reducible refine (P1.out _ (HC.out.later S1.2.2.2)).mono ?_); rintro e w2 ⟨a1, c1, rfl, hM1, hb2⟩; have S2 := keepCf S1 hb2)
      | (go_at_call 30; (with_reducible refine (P2'.out _ (HC.out.later S2.2.2.2) a1 c1 hM1).mono ?_); rintro e w3 ⟨rfl, hb3⟩; have S3 := keepCf S2 hb3))
  all_goals
    have HB3 := Lib.hid S3.2.2.2
    clear S1 S2 S3 hM1
    go_wp2_with fail
    refine (B.out _).mono ?_
    rintro e w4 ⟨rfl, hb4⟩
    have HB := Lib.hid (HB3.out.trans (hb4.mono HB3.out.size))
    clear hb4
    by_cases h1 : k = 0
    · subst h1
      have hr0 : r = 0 := by rw [← HR.out]; exact if_pos (.inr rfl)
      subst hr0
      go_wp2_with fail
      go_ret
      exact ⟨by first | rfl | simp, HB.out⟩
    have g1 : ((k : Int) == 0) = false := by simpa using h1
    by_cases h0 : b = 0
    · subst h0
      have hr0 : r = 0 := by rw [← HR.out]; exact if_pos (.inl rfl)
      subst hr0
      go_wp2_with fail
      go_ret
      exact ⟨by first | rfl | simp, HB.out⟩
    have g0 : ((b : Int) == 0) = false := by simpa using h0
    have hrr : r = min 18446744073709551615 (k + b) := by rw [← HR.out]; exact if_neg (by omega)
    have E1 : IntKind.u64.wrap (18446744073709551615 - (b : Int)) = 18446744073709551615 - (b : Int) := by rw [IntKind.wrap_u64]; omega
    by_cases hm : 18446744073709551615 - (b : Int) < (k : Int)
    · have E3 := Lib.hid (show (18446744073709551615 : Int) = (r : Int) by omega)
      clear hrr
      go_wp2_with fail
      go_ret
      exact ⟨show Ending.returned (.int .u64 18446744073709551615) = .returned (.int .u64 (r : Int)) by rw [E3.out], HB.out⟩
    · have E3 := Lib.hid (show (k : Int) + (b : Int) = (r : Int) by omega)
      clear hrr
      go_wp2_with fail
      go_ret
      exact ⟨show Ending.returned (.int .u64 ((k : Int) + (b : Int))) = .returned (.int .u64 (r : Int)) by rw [E3.out], HB.out⟩
end Go.Proofs.Ytoabpakichjieaa
