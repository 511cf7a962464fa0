/- BallotTurns: what has won, or is lost, stays so, whatever voices come behind. -/
import Derived.Test.YtmcmanjniloeaaaWk
namespace Go.Proofs.Ytmcmanjniloeaaa
open Go.RowKit Go.Maps

theorem vcF_say (i j : Nat) (y : Bool) (L : List Vo) (h : vcF j L ≠ 0) : vcF j (sayL L i y) = vcF j L := by
  unfold sayL; split
  · rfl
  · rw [vcF_snoc, if_neg h]
theorem mostB_mono {V I J : List Nat} (h : ∀ x ∈ I, x ∈ J) (hm : mostB V I = true) : mostB V J = true := by
  unfold mostB at hm ⊢
  simp only [decide_eq_true_eq] at hm ⊢
  refine Nat.le_trans hm ?_
  rw [← fr_len, ← fr_len]
  refine nodup_le (fr_nodup V I _ (Nat.le_refl _)) fun x hx => ?_
  have h1 := (fr_mem V I x I.length (Nat.le_refl _)).1 hx
  rw [List.take_length] at h1
  refine (fr_mem V J x J.length (Nat.le_refl _)).2 ⟨h1.1, ?_⟩
  rw [List.take_length]; exact h _ h1.2
theorem grN_say (V : List Nat) (L : List Vo) (i : Nat) (y : Bool) : ∀ x ∈ grN V L, x ∈ grN V (sayL L i y) := fun x hx => by
  obtain ⟨h1, h2⟩ := List.mem_filter.1 hx
  have h3 : vcF x L = 1 := by simpa using h2
  exact List.mem_filter.2 ⟨h1, by rw [vcF_say i x y L (by omega), h3]; rfl⟩
theorem filt_le {p q : Nat → Bool} : ∀ (V : List Nat), (∀ x, p x = true → q x = true) → (V.filter p).length ≤ (V.filter q).length
  | [], _ => Nat.le_refl _
  | x :: r, h => by
    have ih := filt_le r h
    simp only [List.filter_cons]
    by_cases hp : p x = true
    · simp only [hp, h x hp, ↓reduceIte, List.length_cons]; omega
    · by_cases hq : q x = true
      · simp only [hp, hq, ↓reduceIte, List.length_cons]; simp; omega
      · simp only [hp, hq]; simpa using ih
theorem otN_say (V : List Nat) (L : List Vo) (i : Nat) (y : Bool) : otN V (sayL L i y) ≤ otN V L :=
  filt_le V fun x hx => by
    simp only [decide_eq_true_eq] at hx ⊢
    intro h; apply hx; rw [vcF_say i x y L (by omega), h]
theorem gr_ot (V : List Nat) (L : List Vo) : (grN V L).length ≤ otN V L :=
  filt_le V fun x hx => by
    simp only [decide_eq_true_eq] at hx ⊢
    omega
theorem most_small {V I : List Nat} (h : I.length < V.length / 2 + 1) : mostB V I = false := by
  unfold mostB
  have := cntK_le V I I.length
  simp; omega
theorem cntV_won (V : List Nat) (L : List Vo) (i : Nat) (y : Bool) (h : cntV V L = 1) : cntV V (sayL L i y) = 1 := by
  have h1 : mostB V (grN V L) = true := by
    cases hm : mostB V (grN V L)
    · unfold cntV at h; rw [hm] at h; simp at h; split at h <;> simp at h
    · rfl
  unfold cntV; rw [mostB_mono (grN_say V L i y) h1]; rfl
theorem cntV_lost (V : List Nat) (L : List Vo) (i : Nat) (y : Bool) (h : cntV V L = 2) : cntV V (sayL L i y) = 2 := by
  have h1 : otN V L < V.length / 2 + 1 := by
    unfold cntV at h
    split at h
    · simp at h
    · split at h
      · assumption
      · simp at h
  have h2 := otN_say V L i y
  have h3 := gr_ot V (sayL L i y)
  unfold cntV
  rw [most_small (V := V) (I := grN V (sayL L i y)) (by omega), if_pos (show otN V (sayL L i y) < V.length / 2 + 1 by omega)]
  rfl
theorem cntV_le (V : List Nat) (L : List Vo) : cntV V L ≤ 2 := by
  unfold cntV; split
  · omega
  · split <;> omega
theorem cntV_stays (V : List Nat) (L : List Vo) (i : Nat) (y : Bool) : cntV V L = 0 ∨ cntV V (sayL L i y) = cntV V L := by
  have h := cntV_le V L
  have h3 : cntV V L = 0 ∨ cntV V L = 1 ∨ cntV V L = 2 := by omega
  rcases h3 with h | h | h
  · exact .inl h
  · exact .inr (by rw [cntV_won V L i y h, h])
  · exact .inr (by rw [cntV_lost V L i y h, h])
theorem sayL_nums {L : List Vo} {i : Nat} {y : Bool} (h : ∀ x ∈ L, x.id < 18446744073709551616) (hi : i < 18446744073709551616) : ∀ x ∈ sayL L i y, x.id < 18446744073709551616 := by
  unfold sayL; split
  · exact h
  · intro x hx
    rcases List.mem_append.1 hx with hx | hx
    · exact h x hx
    · obtain rfl : x = ⟨i, y⟩ := by simpa using hx
      exact hi
set_option maxRecDepth 100000 in
set_option maxHeartbeats 8000000 in
theorem law_BallotTurns (n c n2 c2 m d q e : Nat) (a a2 a3 a4 : Option Addr) (V : List Nat) (L M : List Vo) (hn : V.length = n) (hl : n * 8 ≤ 140737488351232) (hm : L.length = m) (hq : M.length = q) (hmq : m + q ≤ 1048576) (hb1 : ∀ x ∈ V, x < 18446744073709551616) (hb2 : ∀ x ∈ L, x.id < 18446744073709551616) (hb3 : ∀ x ∈ M, x.id < 18446744073709551616) (w : World) (hV : Us w a V) (hE : Vs w a3 L) (hF : Vs w a4 M) :
    Calls Try.prog 7 #[.agg #[.slice a n c, .slice a2 n2 c2], .slice a3 m d, .slice a4 q e] w fun e w' => e = .returned (.bool true) ∧ Below w.heap.size w w' := by
  have HW0 := Lib.hid (show Below w.heap.size w (w.alloc (.cells #[.slice a n c, .slice a2 n2 c2] 41)) by go_grown)
  have HC0 := Lib.hid (Cb.new (w := w) rfl (.slice a n c) (.slice a2 n2 c2) 41)
  have HV := Lib.hid hV
  have HE := Lib.hid hE
  have HF := Lib.hid hF
  have HN := Lib.hid hn
  have HM := Lib.hid hm
  have HQ := Lib.hid hq
  have HB1 := Lib.hid hb1
  have HB2 := Lib.hid hb2
  have HB3 := Lib.hid hb3
  clear hV hE hF hn hm hq hb1 hb2 hb3
  go_enter Try.func7, Try.ntmps7
  go_wp2_with fail
  generalize w.alloc (.cells #[.slice a n c, .slice a2 n2 c2] 41) = W at *
  refine (shown_any _).mono ?_
  rintro e1 w1 ⟨rfl, hb1⟩
  have HC1 := Lib.hid (HC0.out.later hb1)
  have HW1 := Lib.hid (HW0.out.trans (hb1.mono HW0.out.size))
  clear hb1 HC0 HW0
  obtain ⟨c0, c1, cz, cl⟩ := HC1.out
  go_wp2_with fail
  refine (pCount_any n c n2 c2 m d a a2 a3 V L HN.out hl HM.out (by omega) HB1.out HB2.out _ (HV.out.later HW1.out) (HE.out.later HW1.out)).mono ?_
  rintro e2 w2 ⟨rfl, hb2⟩
  have HC2 := Lib.hid (HC1.out.later hb2)
  have HW2 := Lib.hid (HW1.out.trans (hb2.mono HW1.out.size))
  clear hb2 c0 c1 cz cl HC1 HW1
  go_wp2_with fail
  go_loopw [1, 8, 9] (fun lv nv i wr => ∃ (k m : Nat) (d : Nat) (a3 : Option Addr) (L : List Vo), k ≤ q ∧ i = .int .i64 k ∧ lv = .slice a3 m d ∧ L.length = m ∧ m + (q - k) ≤ 1048576 ∧ nv = .int .i64 (cntV V L : Nat) ∧ (∀ x ∈ L, x.id < 18446744073709551616) ∧ Vs wr a3 L ∧ Cb wr w.heap.size (.slice a n c) (.slice a2 n2 c2) ∧ Below w.heap.size w wr) (fun _ _ i _ => q - (intOf i).toNat)
  case atStart => exact ⟨0, m, d, a3, L, Nat.zero_le _, rfl, rfl, HM.out, by omega, rfl, HB2.out, HE.out.later HW2.out, HC2.out, HW2.out⟩
  case round =>
    obtain ⟨k, m', d', a', L', hk, rfl, rfl, hm', hmk, rfl, hnums, hL, hC, hB⟩ := hrel
    have HM' := Lib.hid hm'
    have HNU := Lib.hid hnums
    have HL := Lib.hid hL
    have HC := Lib.hid hC
    have HB := Lib.hid hB
    clear hm' hnums hL hC hB
    have hcl := cntV_le V L'
    by_cases hlt : k < q
    · obtain ⟨x, hx⟩ : ∃ x, M[k]? = some x := ⟨_, List.getElem?_eq_getElem (by rw [HQ.out]; exact hlt)⟩
      have i0 : (0 : Int) ≤ (k : Int) := by omega
      have i1 : (k : Int) < (q : Int) := by omega
      have hxb := HB3.out x (List.mem_of_getElem? hx)
      obtain ⟨b, off, rfl, hb, p0, p1⟩ := (HF.out.later HB.out).vo hx
      obtain ⟨xi, xy⟩ := x
      simp only at p0 p1 hxb
      clear hx
      go_wp2_with fail
      refine (pSay_any xi m' d' xy a' L' HM'.out (by omega) _ HL.out).mono ?_
      rintro e3 w3 ⟨v3, rfl, hc3, hb3⟩
      obtain ⟨a5, c5, rfl, hL5, _, _, _⟩ := hc3.form voT
      have hln := sayL_len L' xi xy
      rw [HM'.out] at hln
      obtain ⟨m5, hm5⟩ : ∃ m, (sayL L' xi xy).length = m := ⟨_, rfl⟩
      rw [hm5] at hln
      have HM5 := Lib.hid hm5
      have HL5 := Lib.hid hL5
      have HC3 := Lib.hid (HC.out.later hb3)
      have HB5 := Lib.hid (HB.out.trans (Below.mono hb3 HB.out.size))
      have HNU5 := Lib.hid (sayL_nums (y := xy) HNU.out hxb)
      have hst := cntV_stays V L' xi xy
      rw [hm5]
      clear hc3 hb3 hm5 hL5 p0 p1
      obtain ⟨c0, c1, cz, cl⟩ := HC3.out
      go_wp2_with fail
      refine (pCount_any n c n2 c2 m5 c5 a a2 a5 V (sayL L' xi xy) HN.out hl HM5.out (by omega) HB1.out HNU5.out _ (HV.out.later HB5.out) HL5.out).mono ?_
      rintro e4 w4 ⟨rfl, hb4⟩
      have HC4 := Lib.hid (HC3.out.later hb4)
      have HB6 := Lib.hid (HB5.out.trans (hb4.mono HB5.out.size))
      have HL6 := Lib.hid (HL5.out.later hb4)
      clear hb4 c0 c1 cz cl
      rcases hst with h0 | h0
      · rw [h0]
        go_wp2_with fail
        go_roundw
        case rel => exact ⟨k + 1, m5, c5, a5, sayL L' xi xy, by omega, by go_num, rfl, HM5.out, by omega, rfl, HNU5.out, HL6.out, HC4.out, HB6.out⟩
        case measure => simp [intOf]; omega
      · have HH := Lib.hid h0
        rw [h0]
        clear h0
        obtain ⟨z, hz⟩ : ∃ z, cntV V L' = z := ⟨_, rfl⟩
        have HZ := Lib.hid hz
        rw [hz] at hcl ⊢
        clear hz
        have h3 : z = 0 ∨ z = 1 ∨ z = 2 := by omega
        rcases h3 with rfl | rfl | rfl
        all_goals
          go_wp2_with fail
          go_roundw
          case rel => exact ⟨k + 1, m5, c5, a5, sayL L' xi xy, by omega, by go_num, rfl, HM5.out, by omega, by simp [HH.out, HZ.out], HNU5.out, HL6.out, HC4.out, HB6.out⟩
          case measure => simp [intOf]; omega
    · obtain ⟨z, hz⟩ : ∃ z, cntV V L' = z := ⟨_, rfl⟩
      rw [hz] at hcl ⊢
      clear hz
      have h3 : z = 0 ∨ z = 1 ∨ z = 2 := by omega
      rcases h3 with rfl | rfl | rfl
      all_goals
        go_wp2_with fail
        go_ret
        exact ⟨by first | rfl | simp, HB.out⟩
end Go.Proofs.Ytmcmanjniloeaaa
