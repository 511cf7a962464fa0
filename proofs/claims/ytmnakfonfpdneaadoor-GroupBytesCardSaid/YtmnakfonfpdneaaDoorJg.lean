/- GroupBytes: bytes of configurations, and configurations of bytes. -/
import Derived.Test.YtmnakfonfpdneaaDoorJf
import Derived.Test.YtmnakfonfpdneaaDoorIa
import Derived.Test.YtmnakfonfpdneaaDoorJs
namespace Go.Proofs.YtmnakfonfpdneaaDoor
open Go.RowKit

theorem tkNum_small (n : Nat) (h : n < 64) (r : List UInt8) : tkNum (numB n ++ r) = (n, r, 0) := by
  have e : numB n = [UInt8.ofNat n] := by rw [numB_1 h]; simp [beB]
  have hn : (UInt8.ofNat n).toNat = n := by simp; omega
  have hv : tkVal ((UInt8.ofNat n).toNat % 64) [] = n := by simp only [tkVal, List.foldl_nil, hn]; omega
  have h2 := tkNum_ok (c := UInt8.ofNat n) (bs := []) (r := r) (n := 1) (by unfold tkLen; rw [hn, show n / 64 = 0 by omega]) rfl (by rw [hv, szOf1 (by omega)]; rfl)
  rw [hv] at h2
  rw [e]; exact h2
theorem tkEach_flat : ∀ (L : List Nat) (r : List UInt8), (∀ x ∈ L, x < 64) → tkEach L.length (L.flatMap numB ++ r) = (L, r, 0)
  | [], r, _ => rfl
  | x :: L, r, h => by
    have e1 := tkNum_small x (h x (by simp)) (L.flatMap numB ++ r)
    have e2 := tkEach_flat L r (fun y hy => h y (by simp [hy]))
    rw [List.flatMap_cons, List.append_assoc, List.length_cons]
    unfold tkEach
    rw [e1]
    simp only
    rw [if_neg (by simp), e2]
    simp
theorem tkNums_flat (M : Nat) (L : List Nat) (r : List UInt8) (hM : L.length ≤ M) (h64 : L.length < 64) (h : ∀ x ∈ L, x < 64) : tkNums M (numsB L ++ r) = (L, r, 0) := by
  unfold tkNums numsB
  rw [List.append_assoc, tkNum_small L.length h64]
  simp only
  rw [if_neg (by simp), if_neg (by omega)]
  exact tkEach_flat L r h
theorem may_tiny {V L : List Nat} (h : mayB V L = true) : (V.length ≤ 7 ∧ L.length ≤ 3) ∧ (∀ x ∈ V, x < 64) ∧ ∀ x ∈ L, x < 64 := by
  obtain ⟨⟨_, h1, h2⟩, h3, _, h4, _⟩ := mayB_iff.1 h
  exact ⟨⟨h1, h2⟩, fun x hx => by have := (h3 x hx).2; omega, fun x hx => by have := (h4 x hx).2; omega⟩
/-- What was laid is taken. -/
theorem tkG_back {V L : List Nat} (h : mayB V L = true) : tkG (byG V L) = ((V, L), 0) := by
  obtain ⟨⟨h1, h2⟩, h3, h4⟩ := may_tiny h
  have e1 : tkNums 7 (numsB V ++ numsB L) = (V, numsB L, 0) := tkNums_flat 7 V (numsB L) h1 (by omega) h3
  have e2 : tkNums 3 (numsB L) = (L, [], 0) := by have := tkNums_flat 3 L [] h2 (by omega) h4; rw [List.append_nil] at this; exact this
  unfold byG
  rw [h, if_pos rfl]
  unfold tkG
  rw [e1]
  simp only
  rw [e2]
  simp [h]
/-- With a byte more it isn't. -/
theorem tkG_more {V L : List Nat} (h : mayB V L = true) : tkG (byG V L ++ [0]) = (([], []), 3) := by
  obtain ⟨⟨h1, h2⟩, h3, h4⟩ := may_tiny h
  have e1 : tkNums 7 (numsB V ++ numsB L ++ [0]) = (V, numsB L ++ [0], 0) := by rw [List.append_assoc]; exact tkNums_flat 7 V (numsB L ++ [0]) h1 (by omega) h3
  have e2 : tkNums 3 (numsB L ++ [0]) = (L, [0], 0) := tkNums_flat 3 L [0] h2 (by omega) h4
  unfold byG
  rw [h, if_pos rfl]
  unfold tkG
  rw [e1]
  simp only
  rw [e2]
  simp
theorem tkG_len (s : List UInt8) : (tkG s).1.1.length ≤ 7 ∧ (tkG s).1.2.length ≤ 3 := by
  unfold tkG
  split
  · simp
  · split
    · simp
    · exact ⟨nums_len 7 s, nums_len 3 _⟩
set_option maxRecDepth 100000 in
set_option maxHeartbeats 4000000 in
theorem lawB (n c n2 c2 : Nat) (a a2 : Option Addr) (V L : List Nat) (s : List UInt8) (hn : V.length = n) (hl : n ≤ 140737488351232) (hn2 : L.length = n2) (hl2 : n2 ≤ 140737488351232) (hs : s.length ≤ 140737488351232) (w : World) (hV : Us w a V) (hU : Us w a2 L) (hT : Tz w) :
    Calls Tryd.prog 3 #[.agg #[.slice a n c, .slice a2 n2 c2], .string ⟨s.toArray⟩] w fun e w' => e = .returned (.bool true) ∧ Below w.heap.size w w' := by
  have B0 : Below w.heap.size w (w.alloc (.cells #[.slice a n c, .slice a2 n2 c2] 24)) := (Below.refl _ _).alloc (Nat.le_refl _) _
  have HC := Lib.hid (Cb.new (w := w) rfl (.slice a n c) (.slice a2 n2 c2) 24)
  have HV := Lib.hid (hV.later B0)
  have HU := Lib.hid (hU.later B0)
  have HT := Lib.hid (hT.below (B0.mono hT.n))
  have HTN := Lib.hid hT.n
  have HB := Lib.hid B0
  have HN := Lib.hid hn
  have HN2 := Lib.hid hn2
  obtain ⟨S, hS⟩ : ∃ S, (⟨(byG V L).toArray⟩ : ByteArray) = S := ⟨_, rfl⟩
  obtain ⟨er, her⟩ : ∃ k, erG V L = k := ⟨_, rfl⟩
  obtain ⟨r, hr⟩ : ∃ r, tkG s = r := ⟨_, rfl⟩
  have hrl := tkG_len s
  rw [hr] at hrl
  obtain ⟨⟨X, Y⟩, k⟩ := r
  simp only at hrl
  obtain ⟨m, hm⟩ : ∃ m, X.length = m := ⟨_, rfl⟩
  obtain ⟨m2, hm2⟩ : ∃ m, Y.length = m := ⟨_, rfl⟩
  rw [hm, hm2] at hrl
  have HS := Lib.hid hS
  have HER := Lib.hid her
  have HR := Lib.hid hr
  have HRL := Lib.hid hrl
  have HM := Lib.hid hm
  have HM2 := Lib.hid hm2
  clear hn hn2 hV hU hT B0 hS her hr hrl hm hm2
  go_enter Tryd.func3, Tryd.ntmps3
  go_wp2_with fail
  refine (shown_any _).mono ?_
  rintro e w1 ⟨rfl, hb1⟩
  have HC1 := Lib.hid (HC.out.later hb1)
  have HV1 := Lib.hid (HV.out.later hb1)
  have HU1 := Lib.hid (HU.out.later hb1)
  have HT1 := Lib.hid (HT.out.below (hb1.mono HT.out.n))
  have HB1 := Lib.hid (HB.out.trans (hb1.mono HB.out.size))
  clear hb1 HC HV HU HT HB
  obtain ⟨c0, c1, _, _⟩ := HC1.out
  go_wp2_with fail
  refine (pBytes_any n c n2 c2 a a2 V L HN.out hl HN2.out hl2 _ HV1.out HU1.out HT1.out).mono ?_
  rintro e w2 ⟨rfl, hb2⟩
  rw [HS.out, HER.out]
  have HC2 := Lib.hid (HC1.out.later hb2)
  have HV2 := Lib.hid (HV1.out.later hb2)
  have HU2 := Lib.hid (HU1.out.later hb2)
  have HB2 := Lib.hid (HB1.out.trans (hb2.mono HB1.out.size))
  clear hb2 HC1 HV1 HU1 HT1 HB1 c0 c1
  obtain ⟨c0, c1, _, _⟩ := HC2.out
  go_wp2_with fail
  refine (rBytes_any n c n2 c2 a a2 V L HN.out hl HN2.out hl2 _ HV2.out HU2.out).mono ?_
  rintro e w3 ⟨rfl, hb3⟩
  rw [HS.out, HER.out]
  have HB3 := Lib.hid (HB2.out.trans (hb3.mono HB2.out.size))
  clear hb3 HC2 HV2 HU2 HB2 c0 c1
  go_wp2_with fail
  refine (pTake_any s hs _).mono ?_
  intro e w4 h4
  rw [HR.out] at h4
  obtain ⟨a3, c3, a4, c4, rfl, hX, hY, _, _, hb4⟩ := h4
  simp only at hX hY ⊢
  rw [HM.out, HM2.out]
  have HB4 := Lib.hid (HB3.out.trans (hb4.mono HB3.out.size))
  have HX4 := Lib.hid hX
  have HY4 := Lib.hid hY
  clear hb4 hX hY HB3
  have HG := Lib.hid ((Below.refl w4.heap.size w4).alloc (Nat.le_refl _) (.cells #[.slice a3 m c3, .slice a4 m2 c4] 24))
  have HD4 := Lib.hid (Cb.new (w := w4) rfl (.slice a3 m c3) (.slice a4 m2 c4) 24)
  go_wp2_with fail
  refine (rTake_any s hs _).mono ?_
  intro e w5 h5
  rw [HR.out] at h5
  obtain ⟨a5, c5, a6, c6, rfl, hX5, hY5, _, _, hb5⟩ := h5
  simp only at hX5 hY5 ⊢
  rw [HM.out, HM2.out]
  have hb45 : Below w4.heap.size w4 w5 := HG.out.trans (hb5.mono HG.out.size)
  have HB5 := Lib.hid (HB4.out.trans (hb45.mono HB4.out.size))
  have HX5 := Lib.hid (HX4.out.later hb45)
  have HY5 := Lib.hid (HY4.out.later hb45)
  have HP5 := Lib.hid hX5
  have HQ5 := Lib.hid hY5
  have HD5 := Lib.hid (HD4.out.later hb5)
  clear hb5 hb45 hX5 hY5 HG HD4 HX4 HY4 HB4
  have HG := Lib.hid ((Below.refl w5.heap.size w5).alloc (Nat.le_refl _) (.cells #[.slice a5 m c5, .slice a6 m2 c6] 24))
  have HD6 := Lib.hid (HD5.out.past (.cells #[.slice a5 m c5, .slice a6 m2 c6] 24))
  have HE6 := Lib.hid (Cb.new (w := w5) rfl (.slice a5 m c5) (.slice a6 m2 c6) 24)
  obtain ⟨d0, d1, _, _⟩ := HD6.out
  obtain ⟨e0, e1, _, _⟩ := HE6.out
  go_wp2_with fail
  refine (rSame_any m c3 m2 c4 c5 c6 a3 a5 a4 a6 X Y HM.out (by have := HRL.out; omega) HM2.out (by have := HRL.out; omega) _ (HX5.out.later HG.out) (HY5.out.later HG.out) (HP5.out.later HG.out) (HQ5.out.later HG.out)).mono ?_
  rintro e w6 ⟨rfl, hb6⟩
  have hb56 : Below w5.heap.size w5 w6 := HG.out.trans (hb6.mono HG.out.size)
  have HB6 := Lib.hid (HB5.out.trans (hb56.mono HB5.out.size))
  clear hb6 hb56 d0 d1 e0 e1
  go_wp2_with fail
  go_ret
  exact ⟨by first | rfl | simp, HB6.out⟩
theorem law_GroupBytes (n c n2 c2 : Nat) (a a2 : Option Addr) (V L : List Nat) (s : ByteArray) (hn : V.length = n) (hl : n ≤ 140737488351232) (hn2 : L.length = n2) (hl2 : n2 ≤ 140737488351232) (hs : s.size ≤ 140737488351232) (w : World) (hV : Us w a V) (hU : Us w a2 L) (hT : Tz w) :
    Calls Tryd.prog 3 #[.agg #[.slice a n c, .slice a2 n2 c2], .string s] w fun e w' => e = .returned (.bool true) ∧ Below w.heap.size w w' := by
  obtain ⟨⟨l⟩⟩ := s
  exact lawB n c n2 c2 a a2 V L l hn hl hn2 hl2 hs w hV hU hT
end Go.Proofs.YtmnakfonfpdneaaDoor
