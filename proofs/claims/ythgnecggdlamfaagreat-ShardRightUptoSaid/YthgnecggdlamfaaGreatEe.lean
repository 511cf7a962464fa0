/- Whether two open ones are the same; EqualFunc over open ones; Same: the program's. -/
import Derived.Test.YthgnecggdlamfaaGreatEc
import Derived.Test.YthgnecggdlamfaaGreatEd
namespace Go.Proofs.YthgnecggdlamfaaGreat
open Go.RowKit Go.Maps

set_option maxRecDepth 100000 in
set_option maxHeartbeats 4000000 in
theorem sameOp_any (x y : SopM) (hx : x.x.puts.length ≤ 140737488351232) (hy : y.x.puts.length ≤ 140737488351232) (w : World) (hP : Pus w x.a x.x.puts) (hQ : Pus w y.a y.x.puts) :
    Calls Tryz.prog 27 #[soV x, soV y] w fun e w' => e = .returned (.bool (samOp x.x y.x)) ∧ Below w.heap.size w w' := by
  obtain ⟨⟨⟨xa, xi⟩, xf, xw, xp⟩, pa, pc⟩ := x
  obtain ⟨⟨⟨ya, yi⟩, yf, yw, yp⟩, qa, qc⟩ := y
  simp only at hx hy hP hQ
  obtain ⟨nx, hnx⟩ : ∃ n, xp.length = n := ⟨_, rfl⟩
  obtain ⟨ny, hny⟩ : ∃ n, yp.length = n := ⟨_, rfl⟩
  obtain ⟨W, hW⟩ : ∃ W, (w.alloc (.cells #[.int .u64 (xa : Nat), .int .u64 (xi : Nat), .bool xf, .bool xw, .slice pa xp.length pc] 50)).alloc (.cells #[.int .u64 (ya : Nat), .int .u64 (yi : Nat), .bool yf, .bool yw, .slice qa yp.length qc] 50) = W := ⟨_, rfl⟩
  obtain ⟨x2, hx2⟩ : ∃ x, w.heap.size = x := ⟨_, rfl⟩
  have hX : Below w.heap.size w W ∧ (W.cell? ⟨x2, 0, none⟩ = some (.int .u64 (xa : Nat)) ∧ W.cell? ⟨x2, 1, none⟩ = some (.int .u64 (xi : Nat)) ∧ W.cell? ⟨x2, 2, none⟩ = some (.bool xf) ∧ W.cell? ⟨x2, 3, none⟩ = some (.bool xw) ∧ W.cell? ⟨x2, 4, none⟩ = some (.slice pa xp.length pc)) ∧ (W.cell? ⟨x2 + 1, 0, none⟩ = some (.int .u64 (ya : Nat)) ∧ W.cell? ⟨x2 + 1, 1, none⟩ = some (.int .u64 (yi : Nat)) ∧ W.cell? ⟨x2 + 1, 2, none⟩ = some (.bool yf) ∧ W.cell? ⟨x2 + 1, 3, none⟩ = some (.bool yw) ∧ W.cell? ⟨x2 + 1, 4, none⟩ = some (.slice qa yp.length qc)) := by
    rw [← hW, ← hx2]
    exact ⟨by go_grown, ⟨by simp [go_sem], by simp [go_sem], by simp [go_sem], by simp [go_sem], by simp [go_sem]⟩, ⟨by simp [go_sem], by simp [go_sem], by simp [go_sem], by simp [go_sem], by simp [go_sem]⟩⟩
  obtain ⟨hB, ⟨c0, c1, c2, c3, c4⟩, ⟨d0, d1, d2, d3, d4⟩⟩ := hX
  have HEQ := Lib.hid (equalU_any nx pc ny qc pa qa xp yp hnx (by omega) hny (by omega) W (hP.later hB) (hQ.later hB))
  obtain ⟨z, hz⟩ : ∃ z, samPs xp yp = z := ⟨_, rfl⟩
  obtain ⟨r, hr⟩ : ∃ r, samOp ⟨⟨xa, xi⟩, xf, xw, xp⟩ ⟨⟨ya, yi⟩, yf, yw, yp⟩ = r := ⟨_, rfl⟩
  simp only
  rw [hr]
  rw [hz] at HEQ
  show Calls Tryz.prog 27 #[.agg #[.int .u64 (xa : Nat), .int .u64 (xi : Nat), .bool xf, .bool xw, .slice pa xp.length pc], .agg #[.int .u64 (ya : Nat), .int .u64 (yi : Nat), .bool yf, .bool yw, .slice qa yp.length qc]] w _
  have HR := Lib.hid (show (z && (decide ((⟨xa, xi⟩ : Tx) = ⟨ya, yi⟩) && (xf == yf && xw == yw))) = r from by rw [← hr, ← hz]; rfl)
  have HB := Lib.hid hB
  rw [hnx] at c4 hW ⊢
  rw [hny] at d4 hW ⊢
  clear hr hz hB hP hQ hx hy hnx hny
  by_cases he : (⟨xa, xi⟩ : Tx) = ⟨ya, yi⟩
  case neg =>
    obtain rfl : r = false := by rw [← HR.out, decide_eq_false he]; simp
    have hcase : (¬ xa = ya) ∨ (¬ xi = yi) := by
      by_cases h1 : xa = ya
      · right; intro h2; exact he (by rw [h1, h2])
      · exact .inl h1
    clear he
    go_enter Tryz.func27, Tryz.ntmps27
    rcases hcase with h1 | h1
    · have g1 : ((xa : Int) == (ya : Int)) = false := by simp; omega
      go_wp2_with fail
      go_ret
      exact ⟨by first | rfl | simp, by first | exact HB.out | (rw [← hx2]; exact HB.out)⟩
    · have g1 : ((xi : Int) == (yi : Int)) = false := by simp; omega
      go_wp2_with fail
      go_ret
      exact ⟨by first | rfl | simp, by first | exact HB.out | (rw [← hx2]; exact HB.out)⟩
  injection he with e1 e2
  subst e1 e2
  by_cases hf : xf = yf
  case neg =>
    have g1 : (xf == yf) = false := by simpa using hf
    obtain rfl : r = false := by rw [← HR.out, g1]; simp
    go_enter Tryz.func27, Tryz.ntmps27
    go_wp2_with fail
    go_ret
    exact ⟨by first | rfl | simp, by first | exact HB.out | (rw [← hx2]; exact HB.out)⟩
  subst hf
  by_cases hw : xw = yw
  case neg =>
    have g1 : (xw == yw) = false := by simpa using hw
    obtain rfl : r = false := by rw [← HR.out, g1]; simp
    go_enter Tryz.func27, Tryz.ntmps27
    go_wp2_with fail
    go_ret
    exact ⟨by first | rfl | simp, by first | exact HB.out | (rw [← hx2]; exact HB.out)⟩
  subst hw
  obtain rfl : r = z := by rw [← HR.out]; simp
  go_enter Tryz.func27, Tryz.ntmps27
  go_wp2_with fail
  refine HEQ.out.mono ?_
  rintro e w2 ⟨rfl, hb2⟩
  have HB2 := Lib.hid (HB.out.trans (hb2.mono HB.out.size))
  clear hb2
  go_wp2_with fail
  go_ret
  exact ⟨by first | rfl | simp, by first | exact HB2.out | (rw [← hx2]; exact HB2.out)⟩
theorem same1_run (x y : SopM) (w : World) : (callFunc 27 #[.agg #[.int .u64 (x.x.t.age : Nat), .int .u64 (x.x.t.id : Nat), .bool x.x.fm, .bool x.x.wd, .slice x.a x.x.puts.length x.c], .agg #[.int .u64 (y.x.t.age : Nat), .int .u64 (y.x.t.id : Nat), .bool y.x.fm, .bool y.x.wd, .slice y.a y.x.puts.length y.c]]).run Tryz.prog w = .ok (.enter 27 #[.agg #[.int .u64 (x.x.t.age : Nat), .int .u64 (x.x.t.id : Nat), .bool x.x.fm, .bool x.x.wd, .slice x.a x.x.puts.length x.c], .agg #[.int .u64 (y.x.t.age : Nat), .int .u64 (y.x.t.id : Nat), .bool y.x.fm, .bool y.x.wd, .slice y.a y.x.puts.length y.c]]) w := by kernel_rfl
theorem samOp_map {M N : List SopM} : ∀ {P Q : List Sop}, M.map (fun y => y.x) = P → N.map (fun y => y.x) = Q → samL (fun x y : SopM => samOp x.x y.x) M N = samL samOp P Q := by
  induction M generalizing N with
  | nil => intro P Q h1 h2; subst h1 h2; cases N <;> rfl
  | cons x M ih =>
    intro P Q h1 h2
    subst h1 h2
    cases N with
    | nil => rfl
    | cons y N => simp only [List.map_cons, samL, ih rfl rfl]
set_option maxRecDepth 100000 in
set_option maxHeartbeats 4000000 in
theorem equalO_any (n c m d : Nat) (a b : Option Addr) (P Q : List SopM) (hn : P.length = n) (hl : n ≤ 140737488351232) (hm : Q.length = m) (hl2 : m ≤ 140737488351232) (w : World) (hP : Rw 5 sopC w a P) (hQ : Rw 5 sopC w b Q) (hpP : ∀ y ∈ P, y.x.puts.length ≤ 140737488351232 ∧ Pus w y.a y.x.puts) (hpQ : ∀ y ∈ Q, y.x.puts.length ≤ 140737488351232 ∧ Pus w y.a y.x.puts) :
    Calls Tryz.prog 31 #[.slice a n c, .slice b m d, .func (.func 27) #[] #[]] w fun e w' => e = .returned (.bool (samL (fun x y : SopM => samOp x.x y.x) P Q)) ∧ Below w.heap.size w w' := by
  have HN := Lib.hid hn
  have HM := Lib.hid hm
  have HP := Lib.hid hP
  have HQ := Lib.hid hQ
  have HPP := Lib.hid hpP
  have HPQ := Lib.hid hpQ
  have hR := same1_run
  obtain ⟨sam, hsam⟩ : ∃ f, (fun x y : SopM => samOp x.x y.x) = f := ⟨_, rfl⟩
  have HS := Lib.hid (fun x y : SopM => (show sam x y = samOp x.x y.x by rw [← hsam]))
  rw [hsam]
  by_cases hnm : n = m
  case neg =>
    have HE := Lib.hid (samL_len sam P Q (by rw [hn, hm]; exact hnm))
    have g := int_ne hnm
    have gn : ((n : Int) != (m : Int)) = true := by simp; omega
    clear hn hm hP hQ hnm hpP hpQ hsam
    go_enter Tryz.func31, Tryz.ntmps31
    go_wp2_with fail
    go_ret
    exact ⟨by rw [HE.out]; first | rfl | simp, Below.refl _ _⟩
  subst hnm
  obtain ⟨r, hr⟩ : ∃ r, samL sam P Q = r := ⟨_, rfl⟩
  rw [hr]
  have HR := Lib.hid (show samL sam (P.drop 0) (Q.drop 0) = r from hr)
  clear hn hm hP hQ hr hpP hpQ hsam
  go_enter Tryz.func31, Tryz.ntmps31
  go_wp2_with fail
  go_loopw [17] (fun u wr => ∃ k : Nat, k ≤ n ∧ u = .int .i64 k ∧ samL sam (P.drop k) (Q.drop k) = r ∧ Below w.heap.size w wr) (fun u _ => n - (intOf u).toNat)
  case atStart => exact ⟨0, Nat.zero_le _, rfl, HR.out, Below.refl _ _⟩
  case round =>
    obtain ⟨k, hk, rfl, hf, hB⟩ := hrel
    have HF := Lib.hid hf
    have HB := Lib.hid hB
    clear hf
    by_cases hlt : k < n
    · obtain ⟨x, hx⟩ : ∃ x, P[k]? = some x := ⟨_, List.getElem?_eq_getElem (by rw [HN.out]; exact hlt)⟩
      obtain ⟨y, hy⟩ : ∃ y, Q[k]? = some y := ⟨_, List.getElem?_eq_getElem (by rw [HM.out]; exact hlt)⟩
      have i0 : (0 : Int) ≤ (k : Int) := by omega
      have i1 : (k : Int) < (n : Int) := by omega
      have HA := Lib.hid (HF.out.symm.trans ((samL_at hx hy).trans (by rw [HS.out])))
      have hXM := HPP.out x (List.mem_of_getElem? hx)
      have hYM := HPQ.out y (List.mem_of_getElem? hy)
      obtain ⟨b1, off, rfl, hb1, p0, p1, p2, p3, p4⟩ := Sop.cells (HP.out.later hB) hx
      obtain ⟨b2, off2, rfl, hb2, q0, q1, q2, q3, q4⟩ := Sop.cells (HQ.out.later hB) hy
      obtain ⟨W1, hW1⟩ : ∃ W, wr.alloc (.cells #[.int .u64 (x.x.t.age : Nat), .int .u64 (x.x.t.id : Nat), .bool x.x.fm, .bool x.x.wd, .slice x.a x.x.puts.length x.c] 50) = W := ⟨_, rfl⟩
      obtain ⟨x5, hx5⟩ : ∃ x, wr.heap.size = x := ⟨_, rfl⟩
      have hs1 : W1.heap.size = x5 + 1 := by rw [← hW1, ← hx5]; simp
      obtain ⟨W2, hW2⟩ : ∃ W, W1.alloc (.cells #[.int .u64 (y.x.t.age : Nat), .int .u64 (y.x.t.id : Nat), .bool y.x.fm, .bool y.x.wd, .slice y.a y.x.puts.length y.c] 50) = W := ⟨_, rfl⟩
      have B1v : Below wr.heap.size wr W1 := hW1 ▸ (Below.refl _ _).alloc (Nat.le_refl _) _
      have B2v : Below W1.heap.size W1 W2 := hW2 ▸ (Below.refl _ _).alloc (Nat.le_refl _) _
      have B3v := B1v.trans (B2v.mono B1v.size)
      have k0 := (B1v.cell (p := ⟨b2, off2 + k * 5, none⟩) hb2).trans q0
      have k1 := (B1v.cell (p := ⟨b2, off2 + k * 5 + 1, none⟩) hb2).trans q1
      have k2 := (B1v.cell (p := ⟨b2, off2 + k * 5 + 2, none⟩) hb2).trans q2
      have k3 := (B1v.cell (p := ⟨b2, off2 + k * 5 + 3, none⟩) hb2).trans q3
      have k4 := (B1v.cell (p := ⟨b2, off2 + k * 5 + 4, none⟩) hb2).trans q4
      have hV : (W2.cell? ⟨x5, 0, none⟩ = some (.int .u64 (x.x.t.age : Nat)) ∧ W2.cell? ⟨x5, 1, none⟩ = some (.int .u64 (x.x.t.id : Nat)) ∧ W2.cell? ⟨x5, 2, none⟩ = some (.bool x.x.fm) ∧ W2.cell? ⟨x5, 3, none⟩ = some (.bool x.x.wd) ∧ W2.cell? ⟨x5, 4, none⟩ = some (.slice x.a x.x.puts.length x.c)) ∧ (W2.cell? ⟨x5 + 1, 0, none⟩ = some (.int .u64 (y.x.t.age : Nat)) ∧ W2.cell? ⟨x5 + 1, 1, none⟩ = some (.int .u64 (y.x.t.id : Nat)) ∧ W2.cell? ⟨x5 + 1, 2, none⟩ = some (.bool y.x.fm) ∧ W2.cell? ⟨x5 + 1, 3, none⟩ = some (.bool y.x.wd) ∧ W2.cell? ⟨x5 + 1, 4, none⟩ = some (.slice y.a y.x.puts.length y.c)) := by
        rw [← hW2, ← hs1, ← hW1, ← hx5]
        exact ⟨⟨by simp [go_sem], by simp [go_sem], by simp [go_sem], by simp [go_sem], by simp [go_sem]⟩, ⟨by simp [go_sem], by simp [go_sem], by simp [go_sem], by simp [go_sem], by simp [go_sem]⟩⟩
      obtain ⟨⟨u0, u1, u2, u3, u4⟩, ⟨v0, v1, v2, v3, v4⟩⟩ := hV
      have HBV := Lib.hid (HB.out.trans (B3v.mono HB.out.size))
      have HSO := Lib.hid (sameOp_any x y hXM.1 hYM.1 W2 (hXM.2.later HBV.out) (hYM.2.later HBV.out))
      obtain ⟨z, hz⟩ : ∃ z, samOp x.x y.x = z := ⟨_, rfl⟩
      rw [hz] at HSO HA
      clear hx hy hB hz hXM hYM B1v B2v B3v hb1 hb2 q0 q1 q2 q3 q4
      go_wp2_with fail
      refine HSO.out.mono ?_
      rintro e w3 ⟨rfl, hb3⟩
      have HB3 := Lib.hid (HBV.out.trans (hb3.mono HBV.out.size))
      clear hb3 p0 p1 p2 p3 p4 k0 k1 k2 k3 k4 u0 u1 u2 u3 u4 v0 v1 v2 v3 v4
      cases z
      case false =>
        obtain rfl : r = false := by rw [HA.out]; rfl
        go_wp2_with fail
        go_ret
        exact ⟨by first | rfl | simp, HB3.out⟩
      have HT := Lib.hid (show samL sam (P.drop (k + 1)) (Q.drop (k + 1)) = r by rw [HA.out]; rfl)
      go_wp2_with fail
      go_roundw
      case rel => exact ⟨k + 1, by omega, by go_num, HT.out, HB3.out⟩
      case measure => simp [intOf]; omega
    · have i1 : ¬ (k : Int) < (n : Int) := by omega
      obtain rfl : r = true := by rw [← HF.out, List.drop_eq_nil_of_le (by rw [HN.out]; omega), List.drop_eq_nil_of_le (by rw [HM.out]; omega)]; rfl
      go_wp2_with fail
      go_ret
      exact ⟨by first | rfl | simp, HB.out⟩
set_option maxRecDepth 100000 in
set_option maxHeartbeats 8000000 in
theorem pSameS_any (s : Sh) (A : Sad) (t : Sh) (B : Sad) (w : World) (hM : ShM w s A) (zs : SzS s) (hN : ShM w t B) (zt : SzS t) :
    Calls Tryz.prog 7 #[shV s A, shV t B] w fun e w' => e = .returned (.bool (samS s t)) ∧ Below w.heap.size w w' := by
  obtain ⟨W, hW⟩ : ∃ W, (w.alloc (.cells #[.slice A.ra s.rows.length A.rc, .slice A.ha s.holds.length A.hc, .slice A.oa s.opn.length A.oc, .slice A.da s.done.length A.dc, .int .u64 (s.ver : Nat)] 28)).alloc (.cells #[.slice B.ra t.rows.length B.rc, .slice B.ha t.holds.length B.hc, .slice B.oa t.opn.length B.oc, .slice B.da t.done.length B.dc, .int .u64 (t.ver : Nat)] 28) = W := ⟨_, rfl⟩
  obtain ⟨x2, hx2⟩ : ∃ x, w.heap.size = x := ⟨_, rfl⟩
  have hX : Below w.heap.size w W ∧ (x2 < W.heap.size ∧ W.cell? ⟨x2, 0, none⟩ = some (.slice A.ra s.rows.length A.rc) ∧ W.cell? ⟨x2, 1, none⟩ = some (.slice A.ha s.holds.length A.hc) ∧ W.cell? ⟨x2, 2, none⟩ = some (.slice A.oa s.opn.length A.oc) ∧ W.cell? ⟨x2, 3, none⟩ = some (.slice A.da s.done.length A.dc) ∧ W.cell? ⟨x2, 4, none⟩ = some (.int .u64 (s.ver : Nat))) ∧ (x2 + 1 < W.heap.size ∧ W.cell? ⟨x2 + 1, 0, none⟩ = some (.slice B.ra t.rows.length B.rc) ∧ W.cell? ⟨x2 + 1, 1, none⟩ = some (.slice B.ha t.holds.length B.hc) ∧ W.cell? ⟨x2 + 1, 2, none⟩ = some (.slice B.oa t.opn.length B.oc) ∧ W.cell? ⟨x2 + 1, 3, none⟩ = some (.slice B.da t.done.length B.dc) ∧ W.cell? ⟨x2 + 1, 4, none⟩ = some (.int .u64 (t.ver : Nat))) := by
    rw [← hW, ← hx2]
    exact ⟨by go_grown, ⟨by simp; omega, by simp [go_sem], by simp [go_sem], by simp [go_sem], by simp [go_sem], by simp [go_sem]⟩, ⟨by simp, by simp [go_sem], by simp [go_sem], by simp [go_sem], by simp [go_sem], by simp [go_sem]⟩⟩
  obtain ⟨hB, hC, hD⟩ := hX
  have z1 := zs.rlen
  have z2 := zs.hlen
  have z3 := zs.olen
  have z4 := zs.dlen
  have y1 := zt.rlen
  have y2 := zt.hlen
  have y3 := zt.olen
  have y4 := zt.dlen
  have hPU : ∀ w' : World, Below W.heap.size W w' → ∀ y ∈ A.om, y.x.puts.length ≤ 140737488351232 ∧ Pus w' y.a y.x.puts := fun w' h y hy => ⟨by
    have := (zs.opn y.x (by rw [← hM.om]; exact List.mem_map.2 ⟨y, hy, rfl⟩)).2.1
    omega, ((hM.later hB).later h).puts y hy⟩
  have hPV : ∀ w' : World, Below W.heap.size W w' → ∀ y ∈ B.om, y.x.puts.length ≤ 140737488351232 ∧ Pus w' y.a y.x.puts := fun w' h y hy => ⟨by
    have := (zt.opn y.x (by rw [← hN.om]; exact List.mem_map.2 ⟨y, hy, rfl⟩)).2.1
    omega, ((hN.later hB).later h).puts y hy⟩
  have RO := Lib.hid (equalRo_any s.rows.length A.rc t.rows.length B.rc A.ra B.ra s.rows t.rows rfl (by omega) rfl (by omega) W (hM.later hB).rows (hN.later hB).rows)
  have HO := Lib.hid (fun w' (h : Below W.heap.size W w') => equalHo_any s.holds.length A.hc t.holds.length B.hc A.ha B.ha s.holds t.holds rfl (by omega) rfl (by omega) w' ((hM.later hB).later h).holds ((hN.later hB).later h).holds)
  have OP := Lib.hid (fun w' (h : Below W.heap.size W w') => equalO_any s.opn.length A.oc t.opn.length B.oc A.oa B.oa A.om B.om hM.olen (by omega) hN.olen (by omega) w' ((hM.later hB).later h).opn ((hN.later hB).later h).opn (hPU w' h) (hPV w' h))
  have DN := Lib.hid (fun w' (h : Below W.heap.size W w') => equalDn_any s.done.length A.dc t.done.length B.dc A.da B.da s.done t.done rfl (by omega) rfl (by omega) w' ((hM.later hB).later h).done ((hN.later hB).later h).done)
  rw [samOp_map hM.om hN.om] at OP
  obtain ⟨e1, he1⟩ : ∃ e, samL samRo s.rows t.rows = e := ⟨_, rfl⟩
  obtain ⟨e2, he2⟩ : ∃ e, samL samHo s.holds t.holds = e := ⟨_, rfl⟩
  obtain ⟨e3, he3⟩ : ∃ e, samL samOp s.opn t.opn = e := ⟨_, rfl⟩
  obtain ⟨e4, he4⟩ : ∃ e, samL samDn s.done t.done = e := ⟨_, rfl⟩
  have HR := Lib.hid (show samS s t = (e1 && (e2 && (decide (s.ver = t.ver) && (e3 && e4)))) from by rw [← he1, ← he2, ← he3, ← he4]; rfl)
  obtain ⟨v, hv⟩ : ∃ v, samS s t = v := ⟨_, rfl⟩
  rw [hv] at HR ⊢
  rw [he1] at RO
  rw [he2] at HO
  rw [he3] at OP
  rw [he4] at DN
  show Calls Tryz.prog 7 #[.agg #[.slice A.ra s.rows.length A.rc, .slice A.ha s.holds.length A.hc, .slice A.oa s.opn.length A.oc, .slice A.da s.done.length A.dc, .int .u64 (s.ver : Nat)], .agg #[.slice B.ra t.rows.length B.rc, .slice B.ha t.holds.length B.hc, .slice B.oa t.opn.length B.oc, .slice B.da t.done.length B.dc, .int .u64 (t.ver : Nat)]] w _
  generalize s.rows.length = n1 at *
  generalize s.holds.length = n2 at *
  generalize s.opn.length = n3 at *
  generalize s.done.length = n4 at *
  generalize t.rows.length = m1 at *
  generalize t.holds.length = m2 at *
  generalize t.opn.length = m3 at *
  generalize t.done.length = m4 at *
  obtain ⟨sv, hsv⟩ : ∃ x, s.ver = x := ⟨_, rfl⟩
  obtain ⟨tv, htv⟩ : ∃ x, t.ver = x := ⟨_, rfl⟩
  rw [hsv] at hC hW HR ⊢
  rw [htv] at hD hW HR ⊢
  have HC := Lib.hid hC
  have HD := Lib.hid hD
  have HB := Lib.hid hB
  have HE := Lib.hid (fun w' (h : Below W.heap.size W w') => hB.trans (h.mono hB.size))
  clear hv he1 he2 he3 he4 hM zs hN zt hB z1 z2 z3 z4 y1 y2 y3 y4 hPU hPV hsv htv
  obtain ⟨_, c0, c1, c2, c3, c4⟩ := hC
  obtain ⟨_, d0, d1, d2, d3, d4⟩ := hD
  by_cases hver : sv = tv
  case neg =>
    have g1 : ((sv : Int) == (tv : Int)) = false := by simp; omega
    obtain rfl : v = false := by rw [HR.out, decide_eq_false hver]; simp
    go_enter Tryz.func7, Tryz.ntmps7
    go_wp2_with fail
    go_ret
    exact ⟨by first | rfl | simp, by first | exact HB.out | (rw [← hx2]; exact HB.out)⟩
  subst hver
  go_enter Tryz.func7, Tryz.ntmps7
  go_wp2_with fail
  refine RO.out.mono ?_
  rintro e w2 ⟨rfl, hb2⟩
  have HB2 := Lib.hid hb2
  have HC2 := Lib.hid (keepC HC.out hb2)
  have HD2 := Lib.hid (keepC HD.out hb2)
  clear hb2 c0 c1 c2 c3 c4 d0 d1 d2 d3 d4 hW
  cases e1
  case false =>
    obtain rfl : v = false := by rw [HR.out]; rfl
    go_wp2_with fail
    go_ret
    exact ⟨by first | rfl | simp, by first | exact HE.out _ HB2.out | (rw [← hx2]; exact HE.out _ HB2.out)⟩
  obtain ⟨_, c0, c1, c2, c3, c4⟩ := HC2.out
  obtain ⟨_, d0, d1, d2, d3, d4⟩ := HD2.out
  go_wp2_with fail
  refine (HO.out w2 HB2.out).mono ?_
  rintro e w3 ⟨rfl, hb3⟩
  have HB3 := Lib.hid (HB2.out.trans (hb3.mono HB2.out.size))
  have HC3 := Lib.hid (keepC HC2.out hb3)
  have HD3 := Lib.hid (keepC HD2.out hb3)
  clear hb3 c0 c1 c2 c3 c4 d0 d1 d2 d3 d4
  cases e2
  case false =>
    obtain rfl : v = false := by rw [HR.out]; rfl
    go_wp2_with fail
    go_ret
    exact ⟨by first | rfl | simp, by first | exact HE.out _ HB3.out | (rw [← hx2]; exact HE.out _ HB3.out)⟩
  obtain ⟨_, c0, c1, c2, c3, c4⟩ := HC3.out
  obtain ⟨_, d0, d1, d2, d3, d4⟩ := HD3.out
  go_wp2_with fail
  refine (OP.out w3 HB3.out).mono ?_
  rintro e w4 ⟨rfl, hb4⟩
  have HB4 := Lib.hid (HB3.out.trans (hb4.mono HB3.out.size))
  have HC4 := Lib.hid (keepC HC3.out hb4)
  have HD4 := Lib.hid (keepC HD3.out hb4)
  clear hb4 c0 c1 c2 c3 c4 d0 d1 d2 d3 d4
  cases e3
  case false =>
    obtain rfl : v = false := by rw [HR.out]; simp
    go_wp2_with fail
    go_ret
    exact ⟨by first | rfl | simp, by first | exact HE.out _ HB4.out | (rw [← hx2]; exact HE.out _ HB4.out)⟩
  obtain ⟨_, c0, c1, c2, c3, c4⟩ := HC4.out
  obtain ⟨_, d0, d1, d2, d3, d4⟩ := HD4.out
  go_wp2_with fail
  refine (DN.out w4 HB4.out).mono ?_
  rintro e w5 ⟨rfl, hb5⟩
  have HB5 := Lib.hid (HB4.out.trans (hb5.mono HB4.out.size))
  clear hb5 c0 c1 c2 c3 c4 d0 d1 d2 d3 d4
  have HV := Lib.hid (show v = e4 from by rw [HR.out]; simp)
  go_wp2_with fail
  go_ret
  exact ⟨by rw [HV.out]; first | rfl | simp, by first | exact HE.out _ HB5.out | (rw [← hx2]; exact HE.out _ HB5.out)⟩
end Go.Proofs.YthgnecggdlamfaaGreat
