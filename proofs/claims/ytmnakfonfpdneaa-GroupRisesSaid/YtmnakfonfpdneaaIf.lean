/- What is agreed is had by a majority, and does not fall: in plain words, and the statement. -/
import Derived.Test.YtmnakfonfpdneaaIe
import Derived.Deep.CutBlock
import Derived.Deep.DeepCutAuto
namespace Go.Proofs.Ytmnakfonfpdneaa
open Go.RowKit

/-- Those who have g. -/
def hasL (g : Nat) (M : List Mk) (V : List Nat) : List Nat := V.filter fun x => decide (g ≤ (markN x M).1)
theorem hasL_len (g : Nat) (M : List Mk) (V : List Nat) : (hasL g M V).length = geC g (mks V M) := by
  unfold hasL geC mks
  rw [List.countP_map, ← List.countP_eq_length_filter]; rfl
theorem pairwise_nodup {V : List Nat} (h : V.Pairwise (· < ·)) : V.Nodup := h.imp (fun h e => by omega)
theorem rises_most {V L : List Nat} {M : List Mk} (hm : mayB V L = true) : mostB V (hasL (agL (mks V M)) M V) = true := by
  obtain ⟨⟨m1, _, _⟩, _, m5, _⟩ := mayB_iff.1 hm
  unfold mostB
  refine decide_eq_true ?_
  have hl : (mks V M).length = V.length := by simp [mks]
  have hc : V.length / 2 + 1 ≤ (hasL (agL (mks V M)) M V).length := by
    rw [hasL_len]
    rcases (le_agL (mks V M) (agL (mks V M))).1 (Nat.le_refl _) with h0 | h0
    · have : geC (agL (mks V M)) (mks V M) = (mks V M).length := by
        unfold geC; exact List.countP_eq_length.2 fun x _ => by rw [h0]; simp
      rw [this, hl]; omega
    · rw [hl] at h0; exact h0
  refine Nat.le_trans hc ?_
  rw [← fr_len]
  have hn : (hasL (agL (mks V M)) M V).Nodup := (pairwise_nodup m5).filter _
  refine nodup_le hn fun x hx => ?_
  have := fr_mem V (hasL (agL (mks V M)) M V) x _ (Nat.le_refl _)
  rw [List.take_length] at this
  exact this.2 ⟨(List.mem_filter.1 hx).1, hx⟩
theorem markN_set {id u x : Nat} : ∀ {M : List Mk}, (markN x (setN id u M)).1 = if x = id then u else (markN x M).1
  | [] => by
    by_cases h : x = id
    · subst h; simp [setN, markN]
    · simp [setN, markN, h, Ne.symm h]
  | y :: r => by
    have ih := markN_set (id := id) (u := u) (x := x) (M := r)
    by_cases hy : y.id = id
    · rw [setN, if_pos hy]
      by_cases h : x = id
      · subst h; simp [markN]
      · have h2 : ¬ y.id = x := fun e => h (by rw [← e, hy])
        have h3 : ¬ id = x := fun e => h e.symm
        simp [markN, h, h2, h3]
    · rw [setN, if_neg hy]
      by_cases h2 : y.id = x
      · have h : ¬ x = id := fun e => hy (by rw [h2, e])
        simp [markN, h2, h]
      · simp only [markN, if_neg h2]; exact ih
theorem rises_mono {V : List Nat} {M : List Mk} {id u : Nat} (h : (markN id M).1 ≤ u) : agL (mks V M) ≤ agL (mks V (setN id u M)) := by
  refine agL_mono (by simp [mks]) fun j x y hx hy => ?_
  unfold mks at hx hy
  rw [List.getElem?_map] at hx hy
  cases hv : V[j]? with
  | none => rw [hv] at hx; cases hx
  | some v =>
    rw [hv] at hx hy
    simp only [Option.map_some, Option.some.injEq] at hx hy
    rw [markN_set] at hy
    by_cases e : v = id
    · subst e; rw [if_pos rfl] at hy; omega
    · rw [if_neg e] at hy; omega
theorem setN_len (id u : Nat) : ∀ L : List Mk, (setN id u L).length ≤ L.length + 1
  | [] => by simp [setN]
  | x :: r => by have := setN_len id u r; simp only [setN]; split <;> simp <;> omega
theorem keepD {w w1 w2 : World} {u v : Value} (h : w1.cell? ⟨w.heap.size + 1, 0, none⟩ = some u ∧ w1.cell? ⟨w.heap.size + 1, 1, none⟩ = some v ∧ w.heap.size + 1 < w1.heap.size ∧ Below w.heap.size w w1) (hb : Below w1.heap.size w1 w2) :
    w2.cell? ⟨w.heap.size + 1, 0, none⟩ = some u ∧ w2.cell? ⟨w.heap.size + 1, 1, none⟩ = some v ∧ w.heap.size + 1 < w2.heap.size ∧ Below w.heap.size w w2 := by
  obtain ⟨h0, h1, h2, h3⟩ := h
  exact ⟨(hb.cell (p := ⟨w.heap.size + 1, 0, none⟩) h2).trans h0, (hb.cell (p := ⟨w.heap.size + 1, 1, none⟩) h2).trans h1, Nat.lt_of_lt_of_le h2 hb.size, h3.trans (hb.mono h3.size)⟩
set_option maxRecDepth 100000 in
set_option maxHeartbeats 8000000 in
theorem law_GroupRises (id mo n c n2 c2 m d : Nat) (a a2 a3 : Option Addr) (V L : List Nat) (M : List Mk) (hn : V.length = n) (hl : n * 8 ≤ 140737488351232) (hn2 : L.length = n2) (hl2 : n2 ≤ 140737488351232) (hm : M.length = m) (hl3 : m * 16 ≤ 140737488351232)
    (hb1 : ∀ x ∈ V, x < 18446744073709551616) (hb2 : ∀ x ∈ M, x.id < 18446744073709551616 ∧ x.n < 18446744073709551616) (hmo : mo < 18446744073709551616) (w : World) (hV : Us w a V) (hU : Us w a2 L) (hM : Ms w a3 M) :
    Calls Try.prog 8 #[.agg #[.slice a n c, .slice a2 n2 c2, .slice a3 m d, .int .u64 id, .int .u64 mo]] w fun e w' => e = .returned (.bool true) ∧ Below w.heap.size w w' := by
  have B0 : Below w.heap.size w ((w.alloc (.cells #[.slice a n c, .slice a2 n2 c2, .slice a3 m d, .int .u64 id, .int .u64 mo] 52)).alloc (.cells #[.slice a n c, .slice a2 n2 c2] 24)) := by go_grown
  have C0 := Cb.new (w := w.alloc (.cells #[.slice a n c, .slice a2 n2 c2, .slice a3 m d, .int .u64 id, .int .u64 mo] 52)) rfl (.slice a n c) (.slice a2 n2 c2) 24
  have es : (w.alloc (.cells #[.slice a n c, .slice a2 n2 c2, .slice a3 m d, .int .u64 id, .int .u64 mo] 52)).heap.size = w.heap.size + 1 := by simp
  rw [es] at C0
  have HC := Lib.hid C0
  have HB0 := Lib.hid B0
  have HN := Lib.hid hn
  have HN2 := Lib.hid hn2
  have HML := Lib.hid hm
  have HL := Lib.hid hl
  have HL3 := Lib.hid hl3
  have HV := Lib.hid hV
  have HU := Lib.hid hU
  have HM := Lib.hid hM
  have HQ1 := Lib.hid hb1
  have HQ2 := Lib.hid hb2
  have hn47 : n ≤ 140737488351232 := by omega
  have hm47 : m + 1 ≤ 140737488351232 := by omega
  obtain ⟨g, hg⟩ : ∃ g, agL (mks V M) = g := ⟨_, rfl⟩
  have HG := Lib.hid hg
  clear hn hn2 hm hl hl3 hV hU hM hb1 hb2 hg es B0 C0
  go_enter Try.func8, Try.ntmps8
  go_wp2_with fail
  refine (shown_any _).mono ?_
  rintro e w1 ⟨rfl, hb1⟩
  have HC1 := Lib.hid (HC.out.later hb1)
  have HB1 := Lib.hid (HB0.out.trans (hb1.mono HB0.out.size))
  clear hb1 HC HB0
  obtain ⟨c0, c1, _, _⟩ := HC1.out
  go_wp2_with fail
  refine (pAgreed_any n c n2 c2 m d a a2 a3 V M HN.out HL.out HML.out (by omega) _ (HV.out.later HB1.out) (HM.out.later HB1.out)).mono ?_
  rintro e w2 ⟨rfl, hb2⟩
  rw [HG.out]
  have HC2 := Lib.hid (HC1.out.later hb2)
  have HB2 := Lib.hid (HB1.out.trans (hb2.mono HB1.out.size))
  clear hb2 c0 c1 HC1
  go_wp2_with fail
  go_loopw [9, 10, 11, 12] (fun v i _ _ wr => ∃ (k q : Nat) (O : List Nat) (a5 : Option Addr) (c5 : Nat), k ≤ n ∧ i = .int .i64 k ∧ v = .slice a5 q c5 ∧ O.length = q ∧ q ≤ k ∧ CqU (w.heap.size + 1 + 1) wr (.slice a5 q c5) O ∧ O = hasL g M (V.take k) ∧ Cb wr (w.heap.size + 1) (.slice a n c) (.slice a2 n2 c2) ∧ Below w.heap.size w wr) (fun _ i _ _ _ => n - (intOf i).toNat)
  case atStart => exact ⟨0, 0, [], none, 0, Nat.zero_le _, rfl, rfl, rfl, Nat.zero_le _, CqU.nil _ _ none, rfl, HC2.out, HB2.out⟩
  case round =>
    obtain ⟨k, q, O, a5, c5, hk, rfl, rfl, hq, hqk, hC, hO, hCb, hB⟩ := hrel
    have HQ := Lib.hid hq
    have HCq := Lib.hid hC
    have HO := Lib.hid hO
    have HCb := Lib.hid hCb
    have HB := Lib.hid hB
    obtain ⟨c0, c1, _, _⟩ := hCb
    clear hq hC hO
    by_cases hlt : k < n
    · obtain ⟨x, hx⟩ : ∃ x, V[k]? = some x := ⟨_, List.getElem?_eq_getElem (by rw [HN.out]; exact hlt)⟩
      have i0 : (0 : Int) ≤ (k : Int) := by omega
      have i1 : (k : Int) < (n : Int) := by omega
      obtain ⟨b, off, rfl, hb, p0⟩ := HV.out.later hB k x hx
      have HX := Lib.hid hx
      obtain ⟨p, hp⟩ : ∃ p, markN x M = p := ⟨_, rfl⟩
      have HP := Lib.hid hp
      clear hx hB hp
      obtain ⟨pv, pb⟩ := p
      go_wp2_with fail
      refine (pMark_any x m d a3 M HML.out (by omega) _ (HM.out.later HB.out)).mono ?_
      rintro e w3 ⟨rfl, hb3⟩
      rw [HP.out]
      have HCq3 := Lib.hid (HCq.out.later hb3)
      have HCb3 := Lib.hid (HCb.out.later hb3)
      have HB3 := Lib.hid (HB.out.trans (hb3.mono HB.out.size))
      clear hb3 c0 c1 p0 hb
      obtain ⟨c0, c1, _, _⟩ := HCb3.out
      by_cases hge : g ≤ pv
      · have gg : (g : Int) ≤ (pv : Int) := by omega
        have HT := Lib.hid (show O ++ [x] = hasL g M (V.take (k + 1)) by rw [take_snoc HX.out, HO.out]; simp [hasL, HP.out, hge])
        obtain ⟨b', off', e', hb', p0⟩ := HV.out.later HB3.out k x HX.out
        cases e'
        obtain ⟨a6, c6, w6, hr6, hc6, hb6, he6⟩ := appOne (w.heap.size + 1 + 1) w3 a5 q c5 x O HCq3.out HQ.out (by have := HL.out; omega) HCb3.out.lt
        have HR6 := Lib.hid hr6
        have HC6 := Lib.hid hc6
        have HE6 := Lib.hid he6
        have HB6 := Lib.hid (HB3.out.trans (hb6.mono (by omega)))
        have HCb6 := Lib.hid (show Cb w6 (w.heap.size + 1) (.slice (some ⟨b, off, none⟩) n c) (.slice a2 n2 c2) from HCb3.out.under (Nat.lt_succ_self _) hb6)
        clear hr6 hc6 hb6 he6 hge
        go_wp2_with (at_builtin; refine Lib.wpList_append_run _ rfl _ _ 22 22 rfl (.slice a5 q c5) (.slice (some ⟨w3.heap.size, 0, none⟩) 1 1) rfl rfl _ _ HR6.out ?_)
        go_roundw
        case rel => exact ⟨k + 1, q + 1, O ++ [x], a6, c6, by omega, by go_num, rfl, HE6.out, by omega, HC6.out, HT.out, HCb6.out, HB6.out⟩
        case measure => simp [intOf]; omega
      · have gg : ¬ (g : Int) ≤ (pv : Int) := by omega
        have HT := Lib.hid (show O = hasL g M (V.take (k + 1)) by rw [take_snoc HX.out, HO.out]; simp [hasL, HP.out, hge])
        clear hge
        go_wp2_with fail
        go_roundw
        case rel => exact ⟨k + 1, q, O, a5, c5, by omega, by go_num, rfl, HQ.out, by omega, HCq3.out, HT.out, HCb3.out, HB3.out⟩
        case measure => simp [intOf]; omega
    · have hkn : k = n := by omega
      subst hkn
      have hOV : O = hasL g M V := by rw [HO.out, List.take_of_length_le (by rw [HN.out]; exact Nat.le_refl _)]
      obtain ⟨a7, c7, e7, hU7, _⟩ := HCq.out.form
      injection e7 with ea eb ec
      subst ea
      clear eb ec
      have HU7 := Lib.hid hU7
      have HOV := Lib.hid hOV
      clear hU7 hOV hB hlt
      obtain ⟨x1, hx1⟩ : ∃ x, mostB V O = x := ⟨_, rfl⟩
      have HX1 := Lib.hid hx1
      obtain ⟨mb, hmb⟩ : ∃ x, mayB V L = x := ⟨_, rfl⟩
      have HMB := Lib.hid hmb
      obtain ⟨p, hp⟩ : ∃ p, markN id M = p := ⟨_, rfl⟩
      have HP := Lib.hid hp
      clear hx1 hmb hp
      obtain ⟨pv, pb⟩ := p
      go_wp2_with fail
      refine (pMost_any k c n2 c2 q c5 a a2 a5 V O HN.out hn47 HQ.out (by omega) HQ1.out (fun x hx => by rw [HOV.out] at hx; exact HQ1.out x (List.mem_filter.1 hx).1) _ (HV.out.later HB.out) HU7.out).mono ?_
      rintro e w3 ⟨rfl, hb3⟩
      rw [HX1.out]
      have HC3 := Lib.hid (HCb.out.later hb3)
      have HB3 := Lib.hid (HB.out.trans (hb3.mono HB.out.size))
      clear hb3 c0 c1
      obtain ⟨c0, c1, _, _⟩ := HC3.out
      go_wp2_with fail
      refine (pMay_any k c n2 c2 a a2 V L HN.out hn47 HN2.out hl2 _ (HV.out.later HB3.out) (HU.out.later HB3.out)).mono ?_
      rintro e w4 ⟨rfl, hb4⟩
      rw [HMB.out]
      have HC4 := Lib.hid (HC3.out.later hb4)
      have HB4 := Lib.hid (HB3.out.trans (hb4.mono HB3.out.size))
      clear hb4 c0 c1
      go_wp2_with fail
      refine (pMark_any id m d a3 M HML.out (by omega) _ (HM.out.later HB4.out)).mono ?_
      rintro e w5 ⟨rfl, hb5⟩
      rw [HP.out]
      have HC5 := Lib.hid (HC4.out.later hb5)
      have HB5 := Lib.hid (HB4.out.trans (hb5.mono HB4.out.size))
      clear hb5
      obtain ⟨c0, c1, _, cl⟩ := HC5.out
      have hpv : pv < 18446744073709551616 := by
        have hp := HP.out
        have : ∀ M : List Mk, (∀ x ∈ M, x.id < 18446744073709551616 ∧ x.n < 18446744073709551616) → (markN id M).1 < 18446744073709551616 := by
          intro M
          induction M with
          | nil => intro _; show 0 < 18446744073709551616; omega
          | cons y r ih =>
            intro h
            simp only [markN]
            split
            · exact (h y List.mem_cons_self).2
            · exact ih fun x hx => h x (List.mem_cons_of_mem _ hx)
        have := this M HQ2.out
        rw [hp] at this; exact this
      obtain ⟨u, hu, hu2, hu3⟩ : ∃ u : Nat, IntKind.u64.wrap ((pv : Int) + (mo : Int)) = (u : Int) ∧ (u < 18446744073709551616) ∧ True := by
        by_cases hov : pv + mo < 18446744073709551616
        · exact ⟨pv + mo, by rw [IntWalk.u64_in _ (by omega)]; omega, hov, trivial⟩
        · exact ⟨pv + mo - 18446744073709551616, by simp [IntKind.wrap, IntKind.bits, IntKind.signed]; omega, by omega, trivial⟩
      clear hu3
      have HMX := Lib.hid hu
      go_upto_if 74 with (fail)
      go_cut [17] (fun zv wx => ∃ z : Nat, zv = .int .u64 z ∧ pv ≤ z ∧ wx = w5)
      case first =>
        by_cases hlt : u < pv
        · have g1 : (u : Int) < (pv : Int) := by omega
          go_wp2_with fail
          go_meet
          exact ⟨pv, rfl, Nat.le_refl _, rfl⟩
        · have g1 : ¬ (u : Int) < (pv : Int) := by omega
          have hz : pv ≤ u := by omega
          have HZ1 := Lib.hid hz
          clear hlt hz
          go_wp2_with fail
          go_meet
          exact ⟨u, rfl, HZ1.out, rfl⟩
      case rest =>
        obtain ⟨z, rfl, hz, hw⟩ := hcut
        have hw' := hw.symm
        subst hw'
        have HZ1 := Lib.hid hz
        clear hz
        go_wp2_with fail
        cases mb
        · obtain ⟨Z, hZ⟩ : ∃ Z, setN id z M = Z := ⟨_, rfl⟩
          obtain ⟨h2, hh2⟩ : ∃ x, agL (mks V Z) = x := ⟨_, rfl⟩
          have hle : g ≤ h2 := by rw [← hh2, ← hZ, ← HG.out]; exact rises_mono (by rw [HP.out]; exact HZ1.out)
          have gle : (g : Int) ≤ (h2 : Int) := by omega
          have HZ := Lib.hid hZ
          have HH2 := Lib.hid hh2
          have HZL := Lib.hid (show Z.length ≤ m + 1 by rw [← hZ, ← HML.out]; exact setN_len _ _ _)
          clear hZ hh2 hle
          clear c0 c1 cl
          obtain ⟨c0, c1, _, cl⟩ := HC5.out
          first
            | (go_region_with (first
                | (go_at_call 23; (with_reducible refine (pSet_any id z m d a3 M HML.out HL3.out _ (HM.out.later HB5.out.drew)).mono ?_); rintro e w6 ⟨v4, rfl, hc4, hb6⟩; rw [HZ.out] at hc4; obtain ⟨a8, c8, rfl, hU8, _⟩ := hc4.form; have HU8 := Lib.hid hU8; have HB6 := Lib.hid (HB5.out.drew.trans (hb6.mono HB5.out.size)); have HC6 := Lib.hid ((HC5.out.later (Below.refl _ _).drew).later hb6); clear hc4 hU8 c0 c1 cl; obtain ⟨c0, c1, _, cl⟩ := HC6.out)
                | (go_at_call 15; (with_reducible refine (pAgreed_any k c n2 c2 Z.length c8 a a2 a8 V Z HN.out HL.out rfl (by have := HZL.out; omega) _ (HV.out.later HB6.out) HU8.out).mono ?_); rintro e w7 ⟨rfl, hb7⟩; rw [HH2.out]; have HB7 := Lib.hid (HB6.out.trans (hb7.mono HB6.out.size)))))
            | fail
          all_goals
            go_wp2_with fail
            go_ret
            exact ⟨by first | rfl | (simp [Act.put]; done) | simp, HB7.out⟩
        · obtain rfl : x1 = true := by rw [← HX1.out, HOV.out, ← HG.out]; exact rises_most HMB.out
          obtain ⟨Z, hZ⟩ : ∃ Z, setN id z M = Z := ⟨_, rfl⟩
          obtain ⟨h2, hh2⟩ : ∃ x, agL (mks V Z) = x := ⟨_, rfl⟩
          have hle : g ≤ h2 := by rw [← hh2, ← hZ, ← HG.out]; exact rises_mono (by rw [HP.out]; exact HZ1.out)
          have gle : (g : Int) ≤ (h2 : Int) := by omega
          have HZ := Lib.hid hZ
          have HH2 := Lib.hid hh2
          have HZL := Lib.hid (show Z.length ≤ m + 1 by rw [← hZ, ← HML.out]; exact setN_len _ _ _)
          clear hZ hh2 hle
          have K1 : w5.drew.cell? ⟨w.heap.size + 1, 0, none⟩ = some (.slice a k c) ∧ w5.drew.cell? ⟨w.heap.size + 1, 1, none⟩ = some (.slice a2 n2 c2) ∧ w.heap.size + 1 < w5.drew.heap.size ∧ Below w.heap.size w w5.drew := ⟨c0, c1, cl, HB5.out.drew⟩
          clear c0 c1 cl
          first
            | (go_region_held3 (fun w' => w'.cell? ⟨w.heap.size + 1, 0, none⟩ = some (.slice a k c) ∧ w'.cell? ⟨w.heap.size + 1, 1, none⟩ = some (.slice a2 n2 c2) ∧ w.heap.size + 1 < w'.heap.size ∧ Below w.heap.size w w')
              (first | (with_reducible assumption) | go_keep)
              (first
                | (go_at_call 23; (with_reducible refine (pSet_any id z m d a3 M HML.out HL3.out _ (HM.out.later K1.2.2.2)).mono ?_); rintro e w6 ⟨v4, rfl, hc4, hb6⟩; rw [HZ.out] at hc4; obtain ⟨a8, c8, rfl, hU8, _⟩ := hc4.form; have HU8 := Lib.hid hU8; have K2 := keepD K1 hb6; clear hc4 hU8)
                | (go_at_call 15; (with_reducible refine (pAgreed_any k c n2 c2 Z.length c8 a a2 a8 V Z HN.out HL.out rfl (by have := HZL.out; omega) _ (HV.out.later K2.2.2.2) HU8.out).mono ?_); rintro e w7 ⟨rfl, hb7⟩; rw [HH2.out]; have K3 := keepD K2 hb7)))
            | fail
          all_goals
            have B9 := K3.2.2.2
            clear K1 K2 K3
            go_wp2_with fail
            go_ret
            exact ⟨by simp, B9⟩
end Go.Proofs.Ytmnakfonfpdneaa
