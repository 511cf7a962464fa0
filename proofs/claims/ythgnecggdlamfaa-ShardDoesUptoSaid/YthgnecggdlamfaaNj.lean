/- Ask: the program's walk. -/
import Derived.Test.YthgnecggdlamfaaTd
namespace Go.Proofs.Ythgnecggdlamfaa
open Go.RowKit Go.Maps

/-- What Ask answers: lists of the call's own. -/
def AkQ (w : World) (r : List Ho × List Tx × Nat) (e : Ending) (w' : World) : Prop := ∃ (a : Option Addr) (c : Nat) (a2 : Option Addr) (c2 : Nat), e = .returned (.tuple #[.slice a r.1.length c, .slice a2 r.2.1.length c2, .int .i64 (r.2.2 : Nat)]) ∧ Hos w' a r.1 ∧ (0 < r.1.length → ∀ q, a = some q → w.heap.size ≤ q.block) ∧ r.1.length ≤ c ∧ c ≤ maxLen ∧ Txs w' a2 r.2.1 ∧ Below w.heap.size w w'
/-- The three boxes that Ask lays. -/
structure Bx3 (W : World) (h : Nat) (t : Tx) (key : ByteArray) (wb : Bool) : Prop where
  t : TxBox W h t
  k : B1 W (h + 1) (.string key)
  b : B1 W (h + 1 + 1) (.bool wb)
theorem Bx3.later {w w' : World} {h : Nat} {t : Tx} {key : ByteArray} {wb : Bool} (H : Bx3 w h t key wb) (hb : Below w.heap.size w w') : Bx3 w' h t key wb := ⟨H.t.later hb, H.k.later hb, H.b.later hb⟩
theorem Bx3.new {w W : World} {ta ti : Nat} {key : ByteArray} {wb : Bool} (hW : ((w.alloc (.cells #[.int .u64 (ta : Nat), .int .u64 (ti : Nat)] 30)).alloc (.cells #[.string key] 9)).alloc (.cells #[.bool wb] 4) = W) : Below w.heap.size w W ∧ Bx3 W w.heap.size ⟨ta, ti⟩ key wb := by
  subst hW
  exact ⟨by go_grown, ⟨by simp; omega, by simp [go_sem], by simp [go_sem]⟩, ⟨by simp [go_sem], by simp⟩, ⟨by simp [go_sem], by simp⟩⟩
/-- What IndexFunc answers. -/
def IxP (f : Ho → Bool) (L : List Ho) (w : World) (e : Ending) (w' : World) : Prop := (∃ k : Int, e = .returned (.int .i64 k) ∧ FsG f L k) ∧ Below w.heap.size w w'
set_option maxRecDepth 100000 in
set_option maxHeartbeats 8000000 in
theorem pAsk_any (n c m d : Nat) (a b : Option Addr) (L : List Ho) (t : Tx) (key : ByteArray) (wb : Bool) (F : List Tx) (hn : L.length = n) (hl : n * 40 ≤ 140737488351232) (hs : smallH L) (ht : okA key t) (hm : F.length = m) (hl2 : m * 16 ≤ 140737488351232) (ho : ∀ x ∈ F, okX x) (w : World) (hL : Hos w a L) (hF : Txs w b F) :
    Calls Try.prog 42 #[.slice a n c, txV t, .string key, .bool wb, .slice b m d] w (AkQ w (askH L t key wb F)) := by
  obtain ⟨ta, ti⟩ := t
  obtain ⟨W, hW⟩ : ∃ W, ((w.alloc (.cells #[.int .u64 (ta : Nat), .int .u64 (ti : Nat)] 30)).alloc (.cells #[.string key] 9)).alloc (.cells #[.bool wb] 4) = W := ⟨_, rfl⟩
  obtain ⟨hB, hX⟩ := Bx3.new hW
  obtain ⟨x6, hx6⟩ : ∃ x, w.heap.size = x := ⟨_, rfl⟩
  rw [hx6] at hX
  have HIX := Lib.hid (fun (w' : World) (h : Below W.heap.size W w') (n' c' : Nat) (a' : Option Addr) (M : List Ho) (h1 : M.length = n') (h2 : n' ≤ 140737488351232) (h3 : smallH M) (h4 : Hos w' a' M) =>
    (show Calls Try.prog 62 #[.slice a' n' c', .func (.func 61) #[] #[.pointer (some ⟨x6, 0, none⟩), .pointer (some ⟨x6 + 1, 0, none⟩)]] w' (IxP (ownH ⟨ta, ti⟩ key) M w') from
      index_any 61 #[.pointer (some ⟨x6, 0, none⟩), .pointer (some ⟨x6 + 1, 0, none⟩)] (ownH ⟨ta, ti⟩ key) n' c' a' M h1 h2 h3 w' (ask1_run _ _) (fun x w2 _ hb => ask1_any x _ _ ⟨ta, ti⟩ key w2 ((hX.later h).later hb).t ((hX.later h).later hb).k) h4))
  have HWN := Lib.hid (fun (w' : World) (h : Below W.heap.size W w') =>
    (show Calls Try.prog 64 #[.slice a n c, txV ⟨ta, ti⟩, .func (.func 63) #[] #[.pointer (some ⟨x6 + 1, 0, none⟩), .pointer (some ⟨x6, 0, none⟩), .pointer (some ⟨x6 + 1 + 1, 0, none⟩)], .slice b m d] w' (WnP w' (wayH ⟨ta, ti⟩ key wb F [] L)) from
      wounds_any 63 #[.pointer (some ⟨x6 + 1, 0, none⟩), .pointer (some ⟨x6, 0, none⟩), .pointer (some ⟨x6 + 1 + 1, 0, none⟩)] n c m d a b L ⟨ta, ti⟩ key wb F hn hl hs hm hl2 ho w' (ask2_run _ _ _) (fun x w2 _ hb => ask2_any x _ _ _ ⟨ta, ti⟩ key wb w2 ((hX.later h).later hb).t ((hX.later h).later hb).k ((hX.later h).later hb).b) ((hL.later hB).later h) ((hF.later hB).later h)))
  have HCN := Lib.hid (fun (w' : World) (h : Below W.heap.size W w') => cloneH_any n c a L hn (by omega) w' ((hL.later hB).later h))
  have HWO := Lib.hid (fun (w' : World) (h : Below W.heap.size W w') (m' d' : Nat) (b' : Option Addr) (O : List Tx) (h1 : O.length = m') (h2 : m' * 16 ≤ 140737488351232) (h3 : ∀ x ∈ O, okX x) (h4 : Txs w' b' O) =>
    (show Calls Try.prog 65 #[.slice a n c, .slice b' m' d'] w' (OwH w'.heap.size w' (restH O L)) from withoutH_any n c m' d' a b' L O hn hl hs h1 h2 h3 w' ((hL.later hB).later h) h4))
  obtain ⟨r, hr⟩ : ∃ r, askH L ⟨ta, ti⟩ key wb F = r := ⟨_, rfl⟩
  rw [hr]
  have HEND := Lib.hid (fun (w1 w2 : World) (v : Value) (code : Nat) (h0 : r = (L, [], code)) (h1 : Below W.heap.size W w1) (hc : Cq 75 4 hoC w1.heap.size w2 v L) (hb : Below w1.heap.size w1 w2) => (show AkQ w r (.returned (.tuple #[v, .slice none 0 0, .int .i64 (code : Nat)])) w2 from by
    obtain ⟨a', c', rfl, hM, q0, q1, q2⟩ := hc.form hoT
    rw [h0]
    exact ⟨a', c', none, 0, rfl, hM, fun h q hq => Nat.le_trans hB.size (Nat.le_trans h1.size (q0 h q hq)), q1, q2, Rw.nil _, hB.trans ((h1.trans (hb.mono h1.size)).mono hB.size)⟩))
  have HAS := Lib.hid hr
  have HLW := Lib.hid (hL.later hB)
  have HB := Lib.hid hB
  have HTX := Lib.hid hX
  have HN := Lib.hid hn
  have HS := Lib.hid hs
  have HT := Lib.hid ht
  have HW := Lib.hid hW
  have HX6 := Lib.hid hx6
  have HWO2 := Lib.hid (fun (O : List Tx) (h : wayH ⟨ta, ti⟩ key wb F [] L = some O) => way_ok L [] O hs (by simp) h)
  have HWO3 := Lib.hid (fun (O : List Tx) (h : wayH ⟨ta, ti⟩ key wb F [] L = some O) => way_len L [] O h)
  clear hB hX hL hF hn hm ho hs ht hW hx6 hr
  go_enter Try.func42, Try.ntmps42
  go_wp2_with fail
  rw [HW.out, HX6.out]
  refine (HIX.out W (Below.refl _ _) n c a L HN.out (by omega) HS.out HLW.out).mono ?_
  rintro e w1 ⟨⟨k, rfl, hk⟩, hb1⟩
  have HB1 := Lib.hid hb1
  have hcase : (hadH L (idxH ⟨ta, ti⟩ key 0 L) wb = false ∧ k = -1) ∨ ∃ (j : Nat) (x : Ho), k = (j : Int) ∧ L[j]? = some x ∧ hadH L (idxH ⟨ta, ti⟩ key 0 L) wb = (x.wr || !wb) := by
    rcases hk with ⟨rfl, h⟩ | ⟨j, x, rfl, hx, hf, hl⟩
    · exact .inl ⟨by rw [idxN_none L 0 h]; rfl, rfl⟩
    · refine .inr ⟨j, x, rfl, hx, ?_⟩
      rw [idxN_at L 0 j x hx hf hl, Nat.zero_add]
      simp only [hadH, hx]
  clear hk hb1
  rcases hcase with ⟨hhad, rfl⟩ | ⟨j, x, rfl, hx, hhad⟩
  case inl =>
    have HH := Lib.hid hhad
    clear hhad
    obtain ⟨⟨_, t0, t1⟩, _, _⟩ := HTX.out.later HB1.out
    simp only at t0 t1
    go_wp2_with fail
    clear t0 t1
    refine (HWN.out w1 HB1.out).mono ?_
    rintro e w2 ⟨hr2, hb2⟩
    have HB2 := Lib.hid (HB1.out.trans (hb2.mono HB1.out.size))
    clear hb2
    rcases hr2 with ⟨out, v, hw, rfl, hq⟩ | ⟨hw, rfl⟩
    case inr =>
      have HE := Lib.hid (HAS.out.symm.trans (ask_busy HH.out hw))
      clear hw
      go_wp2_with fail
      refine (HCN.out w2 HB2.out).mono ?_
      rintro e w3 ⟨v3, rfl, hc3, hb3⟩
      have HF := Lib.hid (HEND.out w2 w3 v3 11 HE.out HB2.out hc3 hb3)
      clear hc3 hb3
      go_wp2_with fail
      go_ret3
      exact HF.out
    obtain ⟨a2, c2, rfl, hO2, _, hOc, hOm⟩ := hq.form txT
    have HWY := Lib.hid hw
    have hol := HWO3.out out hw
    simp only [List.length_nil, Nat.zero_add] at hol
    have hml := restN_len out L
    have HO2 := Lib.hid hO2
    have hnn := HN.out
    have HCO := Lib.hid (HWO.out w2 HB2.out out.length c2 a2 out rfl (by omega) (HWO2.out out hw) hO2)
    have HMS := Lib.hid (rest_small (out := out) HS.out)
    obtain ⟨M, hM⟩ : ∃ M, restH out L = M := ⟨_, rfl⟩
    rw [hM] at HCO hml HMS
    have HMM := Lib.hid hM
    clear hw hq hO2 hM
    go_wp2_with fail
    refine HCO.out.mono ?_
    rintro e w3 ⟨v3, rfl, hc3, hb3⟩
    obtain ⟨a3, c3, rfl, hM3, _, hMc, hMm⟩ := hc3.form hoT
    have HB3 := Lib.hid (HB2.out.trans (hb3.mono HB2.out.size))
    have HC3 := Lib.hid hc3
    have HB23 := Lib.hid hb3
    have HCI := Lib.hid (HIX.out w3 HB3.out M.length c3 a3 M rfl (by omega) HMS.out hM3)
    clear hc3 hb3 hM3
    go_wp2_with fail
    refine HCI.out.mono ?_
    rintro e w4 ⟨⟨k2, rfl, hk2⟩, hb4⟩
    have HB4 := Lib.hid (HB3.out.trans (hb4.mono HB3.out.size))
    have HC4 := Lib.hid (HC3.out.later hb4)
    have HB24 := Lib.hid (HB23.out.trans (hb4.mono HB23.out.size))
    clear hb4
    rcases hk2 with ⟨rfl, hno⟩ | ⟨j2, y, rfl, hy, hfy, hly⟩
    · have hask := HAS.out.symm.trans (ask_not HH.out HWY.out (by rw [HMM.out]; exact hno))
      rw [HMM.out] at hask
      clear hno
      by_cases h48 : 48 ≤ M.length
      · rw [if_pos h48] at hask
        have HE := Lib.hid hask
        have g48 : (48 : Int) ≤ (M.length : Int) := by omega
        clear hask
        go_wp2_with fail
        refine (HCN.out w4 HB4.out).mono ?_
        rintro e w5 ⟨v5, rfl, hc5, hb5⟩
        have HF := Lib.hid (HEND.out w4 w5 v5 5 HE.out HB4.out hc5 hb5)
        clear hc5 hb5
        go_wp2_with fail
        go_ret3
        exact HF.out
      · rw [if_neg h48] at hask
        have g48 : ¬ (48 : Int) ≤ (M.length : Int) := by omega
        obtain ⟨⟨_, t0, t1⟩, ⟨k0, _⟩, ⟨b0, _⟩⟩ := HTX.out.later HB4.out
        simp only at t0 t1
        obtain ⟨a6, c6, w6, hr6, hc6, hb6⟩ := appH w2.heap.size w4 _ M HC4.out ⟨key, ⟨ta, ti⟩, wb⟩ (by omega) HB24.out.size
        have HR6 := Lib.hid hr6
        have HF := Lib.hid (show AkQ w r (.returned (.tuple #[.slice a6 (M.length + 1) c6, .slice a2 out.length c2, .int .i64 (0 : Nat)])) w6 from by
          obtain ⟨a7, c7, e7, hR7, h70, h71, h72⟩ := hc6.form hoT
          rw [List.length_append, List.length_singleton] at e7 h71
          cases e7
          rw [hask]
          refine ⟨a6, c6, a2, c2, by rw [List.length_append, List.length_singleton], hR7, fun _ q hq => Nat.le_trans HB.out.size (Nat.le_trans HB2.out.size (h70 (by simp) q hq)), by rw [List.length_append, List.length_singleton]; exact h71, h72, HO2.out.later (HB24.out.trans hb6), ?_⟩
          exact HB.out.trans ((HB2.out.trans ((HB24.out.trans hb6).mono HB2.out.size)).mono HB.out.size))
        clear hr6 hc6 hb6 hask
        go_wp2_with (at_builtin; refine Lib.wpList_append_run _ rfl _ _ 23 23 rfl _ (.slice (some ⟨w4.heap.size, 0, none⟩) 1 1) rfl rfl _ _ HR6.out ?_)
        go_ret3
        exact HF.out
    · have hask := HAS.out.symm.trans (ask_raise HH.out HWY.out (by rw [HMM.out]; exact hy) hfy (by rw [HMM.out]; exact hly))
      rw [HMM.out] at hask
      have hj2 := (List.getElem?_eq_some_iff.1 hy).1
      obtain ⟨g, c', e', hBg, _, _, hd⟩ := Hd.of hoT HC4.out (by omega)
      injection e' with ea en ec
      subst ea ec
      obtain ⟨_, _, _, q3⟩ := HdH.cells hd hy
      have z3 := hd.fz (j2 * 4 + 3)
      have hput := hd.put1 hoT (o := 3) (y := ⟨y.key, y.t, true⟩) (u := .bool true) hy rfl (fun t ht => by rcases t with _ | _ | _ | _ | t <;> first | rfl | exact absurd rfl ht)
      have hbs : Below w2.heap.size w2 (w4.setCell ⟨g, j2 * 4 + 3, none⟩ (.bool true)) := HB24.out.setCell (p := ⟨g, j2 * 4 + 3, none⟩) hBg _
      have HF := Lib.hid (show AkQ w r (.returned (.tuple #[.slice (some ⟨g, 0, none⟩) M.length c3, .slice a2 out.length c2, .int .i64 (0 : Nat)])) (w4.setCell ⟨g, j2 * 4 + 3, none⟩ (.bool true)) from by
        rw [hask]
        refine ⟨_, c3, a2, c2, by rw [List.length_set], hput.row, fun _ q hq => by cases hq; exact Nat.le_trans HB.out.size (Nat.le_trans HB2.out.size hBg), by rw [List.length_set]; exact hMc, hMm, HO2.out.later hbs, ?_⟩
        exact HB.out.trans ((HB2.out.trans (hbs.mono HB2.out.size)).mono HB.out.size))
      have i0 : (0 : Int) ≤ (j2 : Int) := by omega
      have i1 : (j2 : Int) < (M.length : Int) := by omega
      clear hask hy hfy hly hd hput hbs hj2 hBg
      go_wp2_with fail
      go_ret3
      exact HF.out
  obtain ⟨b', off, rfl, hb, _, _, _, p3⟩ := Hos.cells (HLW.out.later HB1.out) hx
  have hjn := (List.getElem?_eq_some_iff.1 hx).1
  have hjn2 : j < n := by have := HN.out; omega
  have i0 : (0 : Int) ≤ (j : Int) := by omega
  have i1 : (j : Int) < (n : Int) := by omega
  obtain ⟨_, _, ⟨b0, _⟩⟩ := HTX.out.later HB1.out
  obtain ⟨xk, xt, xw⟩ := x
  simp only at p3 hhad
  clear hx hjn
  cases xw
  · cases wb
    · simp only [Bool.not_false, Bool.or_true] at hhad
      have HE := Lib.hid (HAS.out.symm.trans (ask_had hhad))
      clear hhad
      go_wp2_with fail
      refine (HCN.out w1 HB1.out).mono ?_
      rintro e w3 ⟨v3, rfl, hc3, hb3⟩
      have HF := Lib.hid (HEND.out w1 w3 v3 0 HE.out HB1.out hc3 hb3)
      clear hc3 hb3
      go_wp2_with fail
      go_ret3
      exact HF.out
    · simp only [Bool.not_true, Bool.or_false] at hhad
      have HH := Lib.hid hhad
      clear hhad
      obtain ⟨⟨_, t0, t1⟩, _, _⟩ := HTX.out.later HB1.out
      simp only at t0 t1
      go_wp2_with fail
      clear t0 t1
      refine (HWN.out w1 HB1.out).mono ?_
      rintro e w2 ⟨hr2, hb2⟩
      have HB2 := Lib.hid (HB1.out.trans (hb2.mono HB1.out.size))
      clear hb2
      rcases hr2 with ⟨out, v, hw, rfl, hq⟩ | ⟨hw, rfl⟩
      case inr =>
        have HE := Lib.hid (HAS.out.symm.trans (ask_busy HH.out hw))
        clear hw
        go_wp2_with fail
        refine (HCN.out w2 HB2.out).mono ?_
        rintro e w3 ⟨v3, rfl, hc3, hb3⟩
        have HF := Lib.hid (HEND.out w2 w3 v3 11 HE.out HB2.out hc3 hb3)
        clear hc3 hb3
        go_wp2_with fail
        go_ret3
        exact HF.out
      obtain ⟨a2, c2, rfl, hO2, _, hOc, hOm⟩ := hq.form txT
      have HWY := Lib.hid hw
      have hol := HWO3.out out hw
      simp only [List.length_nil, Nat.zero_add] at hol
      have hml := restN_len out L
      have HO2 := Lib.hid hO2
      have hnn := HN.out
      have HCO := Lib.hid (HWO.out w2 HB2.out out.length c2 a2 out rfl (by omega) (HWO2.out out hw) hO2)
      have HMS := Lib.hid (rest_small (out := out) HS.out)
      obtain ⟨M, hM⟩ : ∃ M, restH out L = M := ⟨_, rfl⟩
      rw [hM] at HCO hml HMS
      have HMM := Lib.hid hM
      clear hw hq hO2 hM
      go_wp2_with fail
      refine HCO.out.mono ?_
      rintro e w3 ⟨v3, rfl, hc3, hb3⟩
      obtain ⟨a3, c3, rfl, hM3, _, hMc, hMm⟩ := hc3.form hoT
      have HB3 := Lib.hid (HB2.out.trans (hb3.mono HB2.out.size))
      have HC3 := Lib.hid hc3
      have HB23 := Lib.hid hb3
      have HCI := Lib.hid (HIX.out w3 HB3.out M.length c3 a3 M rfl (by omega) HMS.out hM3)
      clear hc3 hb3 hM3
      go_wp2_with fail
      refine HCI.out.mono ?_
      rintro e w4 ⟨⟨k2, rfl, hk2⟩, hb4⟩
      have HB4 := Lib.hid (HB3.out.trans (hb4.mono HB3.out.size))
      have HC4 := Lib.hid (HC3.out.later hb4)
      have HB24 := Lib.hid (HB23.out.trans (hb4.mono HB23.out.size))
      clear hb4
      rcases hk2 with ⟨rfl, hno⟩ | ⟨j2, y, rfl, hy, hfy, hly⟩
      · have hask := HAS.out.symm.trans (ask_not HH.out HWY.out (by rw [HMM.out]; exact hno))
        rw [HMM.out] at hask
        clear hno
        by_cases h48 : 48 ≤ M.length
        · rw [if_pos h48] at hask
          have HE := Lib.hid hask
          have g48 : (48 : Int) ≤ (M.length : Int) := by omega
          clear hask
          go_wp2_with fail
          refine (HCN.out w4 HB4.out).mono ?_
          rintro e w5 ⟨v5, rfl, hc5, hb5⟩
          have HF := Lib.hid (HEND.out w4 w5 v5 5 HE.out HB4.out hc5 hb5)
          clear hc5 hb5
          go_wp2_with fail
          go_ret3
          exact HF.out
        · rw [if_neg h48] at hask
          have g48 : ¬ (48 : Int) ≤ (M.length : Int) := by omega
          obtain ⟨⟨_, t0, t1⟩, ⟨k0, _⟩, ⟨b0, _⟩⟩ := HTX.out.later HB4.out
          simp only at t0 t1
          obtain ⟨a6, c6, w6, hr6, hc6, hb6⟩ := appH w2.heap.size w4 _ M HC4.out ⟨key, ⟨ta, ti⟩, true⟩ (by omega) HB24.out.size
          have HR6 := Lib.hid hr6
          have HF := Lib.hid (show AkQ w r (.returned (.tuple #[.slice a6 (M.length + 1) c6, .slice a2 out.length c2, .int .i64 (0 : Nat)])) w6 from by
            obtain ⟨a7, c7, e7, hR7, h70, h71, h72⟩ := hc6.form hoT
            rw [List.length_append, List.length_singleton] at e7 h71
            cases e7
            rw [hask]
            refine ⟨a6, c6, a2, c2, by rw [List.length_append, List.length_singleton], hR7, fun _ q hq => Nat.le_trans HB.out.size (Nat.le_trans HB2.out.size (h70 (by simp) q hq)), by rw [List.length_append, List.length_singleton]; exact h71, h72, HO2.out.later (HB24.out.trans hb6), ?_⟩
            exact HB.out.trans ((HB2.out.trans ((HB24.out.trans hb6).mono HB2.out.size)).mono HB.out.size))
          clear hr6 hc6 hb6 hask
          go_wp2_with (at_builtin; refine Lib.wpList_append_run _ rfl _ _ 23 23 rfl _ (.slice (some ⟨w4.heap.size, 0, none⟩) 1 1) rfl rfl _ _ HR6.out ?_)
          go_ret3
          exact HF.out
      · have hask := HAS.out.symm.trans (ask_raise HH.out HWY.out (by rw [HMM.out]; exact hy) hfy (by rw [HMM.out]; exact hly))
        rw [HMM.out] at hask
        have hj2 := (List.getElem?_eq_some_iff.1 hy).1
        obtain ⟨g, c', e', hBg, _, _, hd⟩ := Hd.of hoT HC4.out (by omega)
        injection e' with ea en ec
        subst ea ec
        obtain ⟨_, _, _, q3⟩ := HdH.cells hd hy
        have z3 := hd.fz (j2 * 4 + 3)
        have hput := hd.put1 hoT (o := 3) (y := ⟨y.key, y.t, true⟩) (u := .bool true) hy rfl (fun t ht => by rcases t with _ | _ | _ | _ | t <;> first | rfl | exact absurd rfl ht)
        have hbs : Below w2.heap.size w2 (w4.setCell ⟨g, j2 * 4 + 3, none⟩ (.bool true)) := HB24.out.setCell (p := ⟨g, j2 * 4 + 3, none⟩) hBg _
        have HF := Lib.hid (show AkQ w r (.returned (.tuple #[.slice (some ⟨g, 0, none⟩) M.length c3, .slice a2 out.length c2, .int .i64 (0 : Nat)])) (w4.setCell ⟨g, j2 * 4 + 3, none⟩ (.bool true)) from by
          rw [hask]
          refine ⟨_, c3, a2, c2, by rw [List.length_set], hput.row, fun _ q hq => by cases hq; exact Nat.le_trans HB.out.size (Nat.le_trans HB2.out.size hBg), by rw [List.length_set]; exact hMc, hMm, HO2.out.later hbs, ?_⟩
          exact HB.out.trans ((HB2.out.trans (hbs.mono HB2.out.size)).mono HB.out.size))
        have i0 : (0 : Int) ≤ (j2 : Int) := by omega
        have i1 : (j2 : Int) < (M.length : Int) := by omega
        clear hask hy hfy hly hd hput hbs hj2 hBg
        go_wp2_with fail
        go_ret3
        exact HF.out
  · simp only [Bool.true_or] at hhad
    have HE := Lib.hid (HAS.out.symm.trans (ask_had hhad))
    clear hhad
    go_wp2_with fail
    refine (HCN.out w1 HB1.out).mono ?_
    rintro e w3 ⟨v3, rfl, hc3, hb3⟩
    have HF := Lib.hid (HEND.out w1 w3 v3 0 HE.out HB1.out hc3 hb3)
    clear hc3 hb3
    go_wp2_with fail
    go_ret3
    exact HF.out
end Go.Proofs.Ythgnecggdlamfaa
