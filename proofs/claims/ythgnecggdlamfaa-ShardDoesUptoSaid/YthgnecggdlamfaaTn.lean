/- Whether puts are the same; whether a transaction may be prepared: the program's. -/
import Derived.Test.YthgnecggdlamfaaTq
import Derived.Test.YthgnecggdlamfaaTf
namespace Go.Proofs.Ythgnecggdlamfaa
open Go.RowKit

set_option maxRecDepth 100000 in
set_option maxHeartbeats 4000000 in
theorem equalU_any (n c m d : Nat) (a b : Option Addr) (P Q : List Pu) (hn : P.length = n) (hl : n ≤ 140737488351232) (hm : Q.length = m) (hl2 : m ≤ 140737488351232) (w : World) (hP : Pus w a P) (hQ : Pus w b Q) :
    Calls Try.prog 70 #[.slice a n c, .slice b m d] w fun e w' => e = .returned (.bool (samPs P Q)) ∧ Below w.heap.size w w' := by
  have HN := Lib.hid hn
  have HM := Lib.hid hm
  have HP := Lib.hid hP
  have HQ := Lib.hid hQ
  by_cases hnm : n = m
  case neg =>
    have HE := Lib.hid (samPs_len P Q (by rw [hn, hm]; exact hnm))
    have g := int_ne hnm
    have gn : ((n : Int) != (m : Int)) = true := by simp; omega
    clear hn hm hP hQ hnm
    go_enter Try.func70, Try.ntmps70
    go_wp2_with fail
    go_ret
    exact ⟨by rw [HE.out]; first | rfl | simp, Below.refl _ _⟩
  subst hnm
  obtain ⟨r, hr⟩ : ∃ r, samPs P Q = r := ⟨_, rfl⟩
  rw [hr]
  have HR := Lib.hid (show samPs (P.drop 0) (Q.drop 0) = r from hr)
  clear hn hm hP hQ hr
  go_enter Try.func70, Try.ntmps70
  go_wp2_with fail
  go_loopw [13] (fun u wr => ∃ k : Nat, k ≤ n ∧ u = .int .i64 k ∧ samPs (P.drop k) (Q.drop k) = r ∧ Below w.heap.size w wr) (fun u _ => n - (intOf u).toNat)
  case atStart => exact ⟨0, Nat.zero_le _, rfl, HR.out, Below.refl _ _⟩
  case round =>
    obtain ⟨k, hk, rfl, hf, hB⟩ := hrel
    have HF := Lib.hid hf
    have HB := Lib.hid hB
    clear hf
    by_cases hlt : k < n
    · obtain ⟨x, hx⟩ : ∃ x, P[k]? = some x := ⟨_, List.getElem?_eq_getElem (by rw [HN.out]; exact hlt)⟩
      obtain ⟨y, hy⟩ : ∃ y, Q[k]? = some y := ⟨_, List.getElem?_eq_getElem (by rw [HM.out]; exact hlt)⟩
      have i0 : (0 : Int) ≤ (k : Int) := by omega
      have i1 : (k : Int) < (n : Int) := by omega
      have HA := Lib.hid (HF.out.symm.trans (samPs_at hx hy))
      obtain ⟨b1, off, rfl, _, p0, p1, p2⟩ := Pus.cells (HP.out.later hB) hx
      obtain ⟨b2, off2, rfl, _, q0, q1, q2⟩ := Pus.cells (HQ.out.later hB) hy
      obtain ⟨xk, xv, xg⟩ := x
      obtain ⟨yk, yv, yg⟩ := y
      simp only at p0 p1 p2 q0 q1 q2 HA
      clear hx hy hB
      by_cases h1 : xk = yk
      case neg =>
        obtain rfl : r = false := by rw [HA.out]; simp [samP, h1]
        have g1 := ba_ne h1
        have g2 := ba_ne' h1
        go_wp2_with fail
        go_quiet (fail)
        go_wp2_with fail
        go_ret
        exact ⟨by first | rfl | simp, below_drewN HB.out _⟩
      subst h1
      by_cases h2 : xv = yv
      case neg =>
        obtain rfl : r = false := by rw [HA.out]; simp [samP, h2]
        have g1 := ba_ne h2
        have g2 := ba_ne' h2
        go_wp2_with fail
        go_quiet (fail)
        go_wp2_with fail
        go_ret
        exact ⟨by first | rfl | simp, below_drewN HB.out _⟩
      subst h2
      by_cases h3 : xg = yg
      case neg =>
        have g1 : (xg == yg) = false := by simpa using h3
        obtain rfl : r = false := by rw [HA.out]; simp [samP, g1]
        go_wp2_with fail
        go_quiet (fail)
        go_wp2_with fail
        go_ret
        exact ⟨by first | rfl | simp, below_drewN HB.out _⟩
      subst h3
      have HT := Lib.hid (show samPs (P.drop (k + 1)) (Q.drop (k + 1)) = r by rw [HA.out]; simp [samP])
      go_wp2_with fail
      go_quiet (fail)
      go_wp2_with fail
      go_roundw
      case rel => exact ⟨k + 1, by omega, by go_num, HT.out, below_drewN HB.out _⟩
      case measure => simp [intOf]; omega
    · have i1 : ¬ (k : Int) < (n : Int) := by omega
      obtain rfl : r = true := by rw [← HF.out, List.drop_eq_nil_of_le (by rw [HN.out]; omega), List.drop_eq_nil_of_le (by rw [HM.out]; omega)]; rfl
      go_wp2_with fail
      go_ret
      exact ⟨by first | rfl | simp, HB.out⟩
/-- Why a transaction may not be prepared. -/
def mayP (s : Sh) (x : Sop) (P : List Pu) : Nat :=
  if x.wd then 12
  else if x.fm then (if samPs x.puts P then 0 else 9)
  else if fitsX P ≠ 0 then fitsX P
  else if P.all (fun p => hasH x.t p.key true s.holds) = false then 9
  else if 32 < keysN s P then 5 else 0
set_option maxRecDepth 100000 in
set_option maxHeartbeats 4000000 in
theorem mayPrepare_any (s : Sh) (A : Sad) (y : SopM) (m d : Nat) (b : Option Addr) (P : List Pu) (hm : P.length = m) (hl2 : m ≤ 140737488351232) (hsP : smlP P) (hy : y.x.puts.length ≤ 140737488351232) (zs : SzS s) (w : World) (hM : ShM w s A) (hY : Pus w y.a y.x.puts) (hP : Pus w b P) :
    Calls Try.prog 47 #[shV s A, soV y, .slice b m d] w fun e w' => e = .returned (.int .i64 (mayP s y.x P : Nat)) ∧ Below w.heap.size w w' := by
  obtain ⟨W, hW⟩ : ∃ W, (w.alloc (.cells #[.slice A.ra s.rows.length A.rc, .slice A.ha s.holds.length A.hc, .slice A.oa s.opn.length A.oc, .slice A.da s.done.length A.dc, .int .u64 (s.ver : Nat)] 28)).alloc (.cells #[.int .u64 (y.x.t.age : Nat), .int .u64 (y.x.t.id : Nat), .bool y.x.fm, .bool y.x.wd, .slice y.a y.x.puts.length y.c] 48) = W := ⟨_, rfl⟩
  obtain ⟨x2, hx2⟩ : ∃ x, w.heap.size = x := ⟨_, rfl⟩
  have hX : Below w.heap.size w W ∧ BS W x2 s A ∧ (x2 + 1 < W.heap.size ∧ W.cell? ⟨x2 + 1, 0, none⟩ = some (.int .u64 (y.x.t.age : Nat)) ∧ W.cell? ⟨x2 + 1, 1, none⟩ = some (.int .u64 (y.x.t.id : Nat)) ∧ W.cell? ⟨x2 + 1, 2, none⟩ = some (.bool y.x.fm) ∧ W.cell? ⟨x2 + 1, 3, none⟩ = some (.bool y.x.wd) ∧ W.cell? ⟨x2 + 1, 4, none⟩ = some (.slice y.a y.x.puts.length y.c)) := by
    subst hW hx2
    refine ⟨by go_grown, ⟨(KB.new5 rfl _ _ _ _ _ _).later ((Below.refl _ _).alloc (Nat.le_refl _) _), by simp [go_sem], by simp [go_sem], by simp [go_sem], by simp [go_sem], by simp [go_sem]⟩, ⟨by simp, by simp [go_sem], by simp [go_sem], by simp [go_sem], by simp [go_sem], by simp [go_sem]⟩⟩
  obtain ⟨hB, hS, hO⟩ := hX
  have HEQ := Lib.hid (fun w' (h : Below W.heap.size W w') => equalU_any y.x.puts.length y.c m d y.a b y.x.puts P rfl hy hm hl2 w' ((hY.later hB).later h) ((hP.later hB).later h))
  have HFI := Lib.hid (fun w' (h : Below W.heap.size W w') => pFits_any m d b P hm hl2 hsP w' ((hP.later hB).later h))
  have HOW := Lib.hid (fun w' (h : Below W.heap.size W w') => owns_any s.holds.length A.hc m d A.ha b s.holds y.x.t P rfl (by have := zs.hlen; omega) zs.hold hm hl2 hsP w' ((hM.holds.later hB).later h) ((hP.later hB).later h))
  have HCR := Lib.hid (fun (hf : fitsX P = 0) w' (h : Below W.heap.size W w') => crowded_any s A m d b P hm hl2 hsP zs (by
    have h8 := (fits_small hf).1
    have hk := zs.keys
    have h9 := putK_len P
    simp only [allK, List.length_append, putK, List.filter_nil, List.map_nil, List.length_nil] at hk ⊢
    simp only [putK] at h9
    omega) w' ((hM.later hB).later h) ((hP.later hB).later h))
  have HB := Lib.hid hB
  have HS := Lib.hid hS
  have HO := Lib.hid hO
  have HW := Lib.hid hW
  have HX2 := Lib.hid hx2
  obtain ⟨r, hr⟩ : ∃ r, mayP s y.x P = r := ⟨_, rfl⟩
  rw [hr]
  have HR := Lib.hid hr
  obtain ⟨⟨⟨ya, yi⟩, yf, yw, yp⟩, pa, pc⟩ := y
  obtain ⟨_, o0, o1, o2, o3, o4⟩ := hO
  simp only at o0 o1 o2 o3 o4 HEQ HOW
  clear hM zs hB hW hx2 hr hY hP hm hsP hS
  cases yw
  case true =>
    obtain rfl : r = 12 := by rw [← HR.out]; simp [mayP]
    go_enter Try.func47, Try.ntmps47
    go_wp2_with fail
    try rw [HW.out]
    go_wp2_with fail
    go_ret
    exact ⟨by first | rfl | simp, HB.out⟩
  cases yf
  case true =>
    obtain ⟨e, he⟩ : ∃ e, samPs yp P = e := ⟨_, rfl⟩
    rw [he] at HEQ
    have HRE := Lib.hid (show r = if e then 0 else 9 from by rw [← HR.out]; simp only [mayP, Bool.false_eq_true, if_false, if_true, he])
    clear he
    go_enter Try.func47, Try.ntmps47
    go_wp2_with fail
    rw [HW.out]
    refine (HEQ.out W (Below.refl _ _)).mono ?_
    rintro e1 w1 ⟨rfl, hb1⟩
    have HB1 := Lib.hid (HB.out.trans (hb1.mono HB.out.size))
    clear hb1
    cases e
    · obtain rfl : r = 9 := HRE.out
      go_wp2_with fail
      go_ret
      exact ⟨by first | rfl | simp, HB1.out⟩
    · obtain rfl : r = 0 := HRE.out
      go_wp2_with fail
      go_ret
      exact ⟨by first | rfl | simp, HB1.out⟩
  have HRE := Lib.hid (show r = if fitsX P ≠ 0 then fitsX P else if P.all (fun p => hasH ⟨ya, yi⟩ p.key true s.holds) = false then 9 else if 32 < keysN s P then 5 else 0 from by rw [← HR.out]; simp only [mayP, Bool.false_eq_true, if_false])
  obtain ⟨f, hf⟩ : ∃ f, fitsX P = f := ⟨_, rfl⟩
  rw [hf] at HRE HFI HCR
  clear hf
  go_enter Try.func47, Try.ntmps47
  go_wp2_with fail
  rw [HW.out]
  refine (HFI.out W (Below.refl _ _)).mono ?_
  rintro e1 w1 ⟨rfl, hb1⟩
  have HBW := Lib.hid hb1
  have HB1 := Lib.hid (HB.out.trans (hb1.mono HB.out.size))
  by_cases hf0 : f = 0
  case neg =>
    obtain rfl : r = f := by rw [HRE.out, if_pos hf0]
    have g1 : ((r : Int) == 0) = false := by simp; omega
    have g2 : ((r : Int) != 0) = true := by simp; omega
    clear hf0 hb1
    go_wp2_with fail
    go_ret
    exact ⟨by first | rfl | simp, HB1.out⟩
  subst hf0
  obtain ⟨_, c0, c1, c2, c3, c4⟩ := HS.out.later hb1
  have d := fun i v (e : W.cell? ⟨x2 + 1, i, none⟩ = some v) => (hb1.cell (p := ⟨x2 + 1, i, none⟩) HO.out.1).trans e
  have o0' := d _ _ o0
  have o1' := d _ _ o1
  have HRF := Lib.hid (show r = if P.all (fun p => hasH ⟨ya, yi⟩ p.key true s.holds) = false then 9 else if 32 < keysN s P then 5 else 0 from by rw [HRE.out, if_neg (by simp)])
  clear hb1 d
  rw [HX2.out]
  go_wp2_with fail
  refine (HOW.out w1 HBW.out).mono ?_
  rintro e2 w2 ⟨rfl, hb2⟩
  have HB2 := Lib.hid (HB1.out.trans (hb2.mono HB1.out.size))
  have HBW2 := Lib.hid (HBW.out.trans (hb2.mono HBW.out.size))
  obtain ⟨ow, how⟩ : ∃ o, (P.all fun p => hasH ⟨ya, yi⟩ p.key true s.holds) = o := ⟨_, rfl⟩
  rw [how] at HRF ⊢
  clear how c0 c1 c2 c3 c4 o0 o1 o2 o3 o4 o0' o1'
  obtain ⟨_, c0, c1, c2, c3, c4⟩ := HS.out.later HBW2.out
  cases ow
  · obtain rfl : r = 9 := by rw [HRF.out, if_pos rfl]
    clear hb2
    go_wp2_with fail
    go_ret
    exact ⟨by first | rfl | simp, HB2.out⟩
  have HRG := Lib.hid (show r = if 32 < keysN s P then 5 else 0 from by rw [HRF.out, if_neg (by simp)])
  clear hb2
  go_wp2_with fail
  refine (HCR.out (by first | rfl | trivial) w2 HBW2.out).mono ?_
  rintro e3 w3 ⟨rfl, hb3⟩
  have HB3 := Lib.hid (HB2.out.trans (hb3.mono HB2.out.size))
  clear hb3 c0 c1 c2 c3 c4
  by_cases h32 : 32 < keysN s P
  · rw [decide_eq_true h32]
    obtain rfl : r = 5 := by rw [HRG.out, if_pos h32]
    clear h32
    go_wp2_with fail
    go_ret
    exact ⟨by first | rfl | simp, HB3.out⟩
  · rw [decide_eq_false h32]
    obtain rfl : r = 0 := by rw [HRG.out, if_neg h32]
    clear h32
    go_wp2_with fail
    go_ret
    exact ⟨by first | rfl | simp, HB3.out⟩
/-- Puts that are the same are one. -/
theorem samPs_eq : ∀ (P Q : List Pu), samPs P Q = true → P = Q
  | [], [], _ => rfl
  | [], _ :: _, h => by simp [samPs] at h
  | _ :: _, [], h => by simp [samPs] at h
  | x :: r, y :: s, h => by
    simp only [samPs, samP, Bool.and_eq_true, decide_eq_true_eq, beq_iff_eq] at h
    obtain ⟨⟨h1, h2, h3⟩, h4⟩ := h
    rw [samPs_eq r s h4]
    obtain ⟨xk, xv, xg⟩ := x
    obtain ⟨yk, yv, yg⟩ := y
    simp only at h1 h2 h3
    rw [h1, h2, h3]
theorem prp_set (t : Tx) (P : List Pu) : ∀ (O : List Sop) (i j : Nat) (x : Sop), kixS t i O = some (i + j) → O[j]? = some x → O.set j ⟨x.t, true, x.wd, P⟩ = prpS t P O
  | [], _, _, _, h, _ => by simp [kixS] at h
  | z :: r, i, j, x, h, hx => by
    simp only [kixS] at h
    by_cases hz : z.t = t
    · rw [if_pos hz] at h
      obtain rfl : j = 0 := by have := Option.some.inj h; omega
      simp only [List.getElem?_cons_zero, Option.some.injEq] at hx
      subst hx
      rw [prpS, if_pos hz]; rfl
    · rw [if_neg hz] at h
      cases j with
      | zero =>
        exfalso
        rcases kix_kno t r (i + 1) with ⟨h1, _⟩ | ⟨k, _, h1, _⟩
        · rw [h1] at h; cases h
        · rw [h1] at h; have := Option.some.inj h; omega
      | succ j =>
        rw [prpS, if_neg hz, List.set_cons_succ, prp_set t P r (i + 1) j x (by rw [h]; congr 1; omega) (by simpa using hx)]
theorem prp_self (t : Tx) (P : List Pu) : ∀ (O : List Sop) (x : Sop), knoS t O = some x → x.fm = true → x.puts = P → prpS t P O = O
  | [], _, h, _, _ => by simp [knoS] at h
  | z :: r, x, h, hf, hp => by
    simp only [knoS] at h
    by_cases hz : z.t = t
    · rw [if_pos hz] at h
      obtain rfl := Option.some.inj h
      rw [prpS, if_pos hz]
      obtain ⟨zt, zf, zw, zp⟩ := z
      simp only at hf hp
      rw [hf, hp]
    · rw [if_neg hz] at h
      rw [prpS, if_neg hz, prp_self t P r x h hf hp]
theorem prep_over {s : Sh} {o : Odr} {c : Bool} (h : ovrS o.t s.done = some c) : prepS s o = (s, ansC 13 c) := by unfold prepS; rw [h]
theorem prep_none {s : Sh} {o : Odr} (h : ovrS o.t s.done = none) (h2 : knoS o.t s.opn = none) : prepS s o = (s, ansE 7) := by unfold prepS; rw [h, h2]
theorem kno_t {t : Tx} : ∀ {O : List Sop} {x : Sop}, knoS t O = some x → x.t = t
  | [], _, h => by simp [knoS] at h
  | z :: r, x, h => by
    simp only [knoS] at h
    by_cases hz : z.t = t
    · rw [if_pos hz] at h; obtain rfl := Option.some.inj h; exact hz
    · rw [if_neg hz] at h; exact kno_t h
theorem prep_may {s : Sh} {o : Odr} {x : Sop} (h : ovrS o.t s.done = none) (h2 : knoS o.t s.opn = some x) : prepS s o = if mayP s x o.puts ≠ 0 then (s, ansE (mayP s x o.puts)) else (⟨s.rows, s.holds, prpS o.t o.puts s.opn, s.done, s.ver⟩, ansE 0) := by
  have ht := kno_t h2
  unfold prepS mayP
  rw [h, h2]
  simp only [ht]
  by_cases h3 : x.wd = true
  · simp [h3]
  · by_cases h4 : x.fm = true
    · by_cases h5 : samPs x.puts o.puts = true
      · simp [h3, h4, h5, prp_self o.t o.puts s.opn x h2 h4 (samPs_eq _ _ h5)]
      · simp [h3, h4, h5]
    · by_cases h6 : fitsX o.puts = 0
      · by_cases h7 : (o.puts.all fun p => hasH o.t p.key true s.holds) = false
        · simp only [h3, h4, h6, h7]; simp
        · by_cases h8 : 32 < keysN s o.puts
          · simp only [h3, h4, h6, h7, h8]; simp
          · simp only [h3, h4, h6, h7, h8]; simp
      · simp [h3, h4, h6]
end Go.Proofs.Ythgnecggdlamfaa
