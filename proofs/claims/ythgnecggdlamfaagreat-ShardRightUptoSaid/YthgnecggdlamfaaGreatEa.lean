/- Whether all transactions are distinct: the program's; the shard's Right as the program goes. -/
import Derived.Test.YthgnecggdlamfaaGreatTf

namespace Go.Proofs.YthgnecggdlamfaaGreat
open Go.RowKit Go.Maps

/-- Each is not among those ahead of it. -/
def dsF : List Tx → List Tx → Bool
  | _, [] => true
  | p, x :: r => !amT x p && dsF (p ++ [x]) r
theorem dsF_nodup : ∀ (r p : List Tx), p.Nodup → (dsF p r = true ↔ (p ++ r).Nodup)
  | [], p, h => by simp [dsF, h]
  | x :: r, p, h => by
    by_cases hx : x ∈ p
    · have e : amT x p = true := (amT_iff x p).2 hx
      rw [dsF, e]
      simp only [Bool.not_true, Bool.false_and, Bool.false_eq_true, false_iff]
      intro hn
      exact (List.nodup_append.1 hn).2.2 x hx x (by simp) rfl
    · have e : amT x p = false := by
        cases hc : amT x p
        · rfl
        · exact absurd ((amT_iff x p).1 hc) hx
      have hp : (p ++ [x]).Nodup := by
        rw [List.nodup_append]
        exact ⟨h, by simp, fun a ha b hb => by simp only [List.mem_singleton] at hb; subst hb; exact fun e2 => hx (e2 ▸ ha)⟩
      rw [dsF, e, Bool.not_false, Bool.true_and, dsF_nodup r _ hp, List.append_assoc, List.singleton_append]
theorem amT_all {α : Type} (f : α → Tx) (t : Tx) : ∀ (p : List α), (p.all fun y => !decide (f y = t)) = !amT t (p.map f)
  | [] => rfl
  | y :: p => by
    have ih := amT_all f t p
    simp only [List.all_cons, List.map_cons, amT, ih, Bool.not_or]
theorem fstS_ds : ∀ (r p : List Sop) (i : Nat), fstS i p r = dsF (p.map fun y => y.t) (r.map fun y => y.t)
  | [], _, _ => rfl
  | x :: r, p, i => by
    rw [fstS, List.map_cons, dsF, fstS_ds r (p ++ [x]) (i + 1), amT_all (fun y : Sop => y.t) x.t p, List.map_append]; rfl
theorem fstD_ds : ∀ (r p : List Sdn), fstD p r = dsF (p.map fun y => y.t) (r.map fun y => y.t)
  | [], _ => rfl
  | x :: r, p => by
    rw [fstD, List.map_cons, dsF, fstD_ds r (p ++ [x]), amT_all (fun y : Sdn => y.t) x.t p, List.map_append]; rfl
/-- All transactions that a shard names. -/
def txsS (s : Sh) : List Tx := s.opn.map (fun y => y.t) ++ s.done.map fun y => y.t
theorem ovr_amT (t : Tx) : ∀ (D : List Sdn), (ovrS t D).isNone = !amT t (D.map fun y => y.t)
  | [] => rfl
  | x :: r => by
    have ih := ovr_amT t r
    rw [ovrS, List.map_cons, amT]
    by_cases h : x.t = t
    · simp [h]
    · simp [h, ih]
/-- One open, without asking whether it is over. -/
def roL (L : List Ho) (x : Sop) : Bool := if x.fm then !x.wd && (decide (fitsX x.puts = 0) && x.puts.all fun p => hasH x.t p.key true L) else decide (x.puts.length = 0)
def roB (s : Sh) (x : Sop) : Bool := roL s.holds x
theorem opOk_ro (s : Sh) (x : Sop) : opOk s x = ((ovrS x.t s.done).isNone && roB s x) := by
  unfold opOk roB roL
  congr 1
  cases x.fm
  · by_cases h : x.puts.length = 0
    · rw [List.length_eq_zero_iff] at h
      rw [h]
      simp [fitsX, fitF]
    · simp [h]
  · simp
theorem all_and {α : Type} (f g : α → Bool) : ∀ L : List α, (L.all fun x => f x && g x) = (L.all f && L.all g)
  | [] => rfl
  | x :: r => by
    simp only [List.all_cons, all_and f g r]
    cases f x <;> cases g x <;> cases r.all f <;> cases r.all g <;> rfl
theorem ds_both (A B : List Tx) : dsF [] (A ++ B) = (dsF [] A && (dsF [] B && A.all fun t => !amT t B)) := by
  rw [Bool.eq_iff_iff]
  simp only [Bool.and_eq_true, dsF_nodup _ [] List.nodup_nil, List.nil_append, List.nodup_append, List.all_eq_true]
  constructor
  · rintro ⟨h1, h2, h3⟩
    refine ⟨h1, h2, fun t ht => ?_⟩
    cases hc : amT t B
    · rfl
    · exact absurd rfl (h3 t ht t ((amT_iff t B).1 hc))
  · rintro ⟨h1, h2, h3⟩
    refine ⟨h1, h2, fun t ht b hb e => ?_⟩
    subst e
    have := h3 t ht
    rw [(amT_iff t B).2 hb] at this
    exact absurd this (by decide)
theorem rightS_prog (s : Sh) : rightS s = (decide (s.opn.length + s.done.length ≤ 64) && (rightB s.rows && (rightH s.holds && (dsF [] (txsS s) && (s.opn.all (roB s) && ((s.holds.all fun h => (knoS h.t s.opn).any fun x => !x.wd) && decide (keysN s [] ≤ 32))))))) := by
  unfold rightS txsS
  rw [fstS_ds, fstD_ds, ds_both, List.map_nil, List.map_nil]
  rw [show s.opn.all (opOk s) = (s.opn.all (fun x => !amT x.t (s.done.map fun y => y.t)) && s.opn.all (roB s)) by
    rw [← all_and]; congr 1; funext x; rw [opOk_ro, ovr_amT]]
  rw [List.all_map, show (s.opn.all ((fun t => !amT t (s.done.map fun y => y.t)) ∘ fun y => y.t)) = s.opn.all (fun x => !amT x.t (s.done.map fun y => y.t)) from rfl]
  generalize rightB s.rows = b1
  generalize rightH s.holds = b2
  generalize decide (s.opn.length + s.done.length ≤ 64) = b3
  generalize decide (keysN s [] ≤ 32) = b4
  generalize dsF [] (s.opn.map fun y => y.t) = b5
  generalize s.opn.all (fun x => !amT x.t (s.done.map fun y => y.t)) = b6
  generalize s.opn.all (roB s) = b7
  generalize dsF [] (s.done.map fun y => y.t) = b8
  generalize (s.holds.all fun h => (knoS h.t s.opn).any fun x => !x.wd) = b9
  cases b1 <;> cases b2 <;> cases b3 <;> cases b4 <;> cases b5 <;> cases b6 <;> cases b7 <;> cases b8 <;> cases b9 <;> rfl
theorem dsF_at {T : List Tx} {k : Nat} {x : Tx} (hx : T[k]? = some x) : dsF (T.take k) (T.drop k) = (!amT x (T.take k) && dsF (T.take (k + 1)) (T.drop (k + 1))) := by
  obtain ⟨hk, e⟩ := List.getElem?_eq_some_iff.1 hx
  rw [List.drop_eq_getElem_cons hk, e, dsF, takeP_snoc hx]
theorem SX.cell {w : World} {b n : Nat} {D : DataW Unit} (h : SX w b n D) {p : Addr} {v : Value} (hc : w.cell? p = some v) : p.block ≠ b := by
  obtain ⟨es, clock, h1, _⟩ := h
  intro e
  unfold World.cell? at hc
  rw [e, h1] at hc
  simp at hc
theorem KC.grow {w w' : World} {b n : Nat} {D : DataW Unit} (hK : SX w b n D) (h : w.grownBy w' (some b)) : KC w w' :=
  ⟨h.size, fun p v e => (World.cell?_of_block (a := p) (h.block p.block (cell_lt e) (by simpa using SX.cell hK e))).trans e⟩
set_option maxRecDepth 100000 in
set_option maxHeartbeats 8000000 in
theorem distinct_any (s : Sh) (A : Sad) (w : World) (hM : ShM w s A) (hl : s.opn.length + s.done.length ≤ 64) (hoO : ∀ x ∈ s.opn, okX x.t) (hoD : ∀ x ∈ s.done, okX x.t) :
    Calls Tryz.prog 17 #[shV s A] w fun e w' => e = .returned (.bool (dsF [] (txsS s))) ∧ Below w.heap.size w w' := by
  have hmm := @run_makeMap Tryz.prog
  obtain ⟨no, hno⟩ : ∃ n, s.opn.length = n := ⟨_, rfl⟩
  obtain ⟨nd, hnd⟩ : ∃ n, s.done.length = n := ⟨_, rfl⟩
  obtain ⟨W0, hW0⟩ : ∃ W, w.alloc (.cells #[.slice A.ra s.rows.length A.rc, .slice A.ha s.holds.length A.hc, .slice A.oa s.opn.length A.oc, .slice A.da s.done.length A.dc, .int .u64 (s.ver : Nat)] 28) = W := ⟨_, rfl⟩
  obtain ⟨x1, hx1⟩ : ∃ x, w.heap.size = x := ⟨_, rfl⟩
  have hs0 : W0.heap.size = x1 + 1 := by rw [← hW0, ← hx1]; simp
  obtain ⟨W, hW⟩ : ∃ W, W0.alloc (.map #[] 0) = W := ⟨_, rfl⟩
  have hB0 : Below w.heap.size w W0 := hW0 ▸ (Below.refl _ _).alloc (Nat.le_refl _) _
  have hB1 : Below W0.heap.size W0 W := hW ▸ (Below.refl _ _).alloc (Nat.le_refl _) _
  have hB : Below w.heap.size w W := hB0.trans (hB1.mono hB0.size)
  have hM0 : SX W (x1 + 1) 0 (.map []) := by
    rw [← hs0, ← hW]; exact World.ownsMap_made (H := Unit) W0 Tryz.prog 33 unitElem
  have hc : W.cell? ⟨x1, 2, none⟩ = some (.slice A.oa no A.oc) ∧ W.cell? ⟨x1, 3, none⟩ = some (.slice A.da nd A.dc) := by
    have h0 : W0.cell? ⟨x1, 2, none⟩ = some (.slice A.oa no A.oc) ∧ W0.cell? ⟨x1, 3, none⟩ = some (.slice A.da nd A.dc) := by rw [← hW0, ← hx1, ← hno, ← hnd]; exact ⟨by simp [go_sem], by simp [go_sem]⟩
    exact ⟨(hB1.cell (p := ⟨x1, 2, none⟩) (by simp; omega)).trans h0.1, (hB1.cell (p := ⟨x1, 3, none⟩) (by simp; omega)).trans h0.2⟩
  obtain ⟨c2, c3⟩ := hc
  have hsW : W.heap.size = x1 + 1 + 1 := by rw [← hW, ← hs0]; simp
  have HTO := Lib.hid (fun (k : Nat) (x : Sop) (h : s.opn[k]? = some x) => (show (txsS s)[k]? = some x.t by
    unfold txsS
    rw [List.getElem?_append_left (by rw [List.length_map]; exact (List.getElem?_eq_some_iff.1 h).1), List.getElem?_map, h]; rfl))
  have HTD := Lib.hid (fun (k : Nat) (x : Sdn) (h : s.done[k]? = some x) => (show (txsS s)[no + k]? = some x.t by
    unfold txsS
    rw [List.getElem?_append_right (by rw [List.length_map, hno]; omega), List.length_map, hno, Nat.add_sub_cancel_left, List.getElem?_map, h]; rfl))
  have HTL := Lib.hid (show (txsS s).length = no + nd by unfold txsS; rw [List.length_append, List.length_map, List.length_map, hno, hnd])
  rw [hno, hnd] at hl
  obtain ⟨T, hT⟩ : ∃ T, txsS s = T := ⟨_, rfl⟩
  rw [hT] at HTO HTD HTL ⊢
  obtain ⟨r, hr⟩ : ∃ r, dsF [] T = r := ⟨_, rfl⟩
  rw [hr]
  have HR := Lib.hid (show dsF (T.take 0) (T.drop 0) = r from hr)
  have HM := Lib.hid (hM.later hB)
  have HNO := Lib.hid hno
  have HND := Lib.hid hnd
  have HOO := Lib.hid hoO
  have HOD := Lib.hid hoD
  have HM0 := Lib.hid hM0
  have HB := Lib.hid hB
  have HC3 := Lib.hid c3
  have HX1 := Lib.hid hx1
  have HSW := Lib.hid hsW
  rw [show shV s A = .agg #[.slice A.ra s.rows.length A.rc, .slice A.ha s.holds.length A.hc, .slice A.oa s.opn.length A.oc, .slice A.da s.done.length A.dc, .int .u64 (s.ver : Nat)] from rfl, hno, hnd]
  rw [hno, hnd] at hW0
  clear hT hr hM hno hnd hoO hoD hM0 hB0 hB1 hB hsW c3
  go_enter Tryz.func17, Tryz.ntmps17
  go_wp2_with fail
  clear hmm hW0 hW hs0 hx1 c2
  go_loopw [12] (fun i wr => ∃ (k q : Nat) (D : DataW Unit), k ≤ no ∧ i = .int .i64 k ∧ q ≤ k ∧ SX wr (x1 + 1) q D ∧ HX D (fun t => amT t (T.take k)) ∧ dsF (T.take k) (T.drop k) = r ∧ W.grownBy wr (some (x1 + 1))) (fun i _ => no - (intOf i).toNat)
  case atStart => exact ⟨0, 0, _, Nat.zero_le _, rfl, Nat.le_refl _, HM0.out, fun x _ => rfl, HR.out, grown_of (Below.refl _ _)⟩
  case round =>
    obtain ⟨k, q, D, hk, rfl, hmk, hown, hD, hds, hgw⟩ := hrel
    have HD := Lib.hid hD
    have HW := Lib.hid hown
    have HG := Lib.hid hgw
    have HDS := Lib.hid hds
    clear hD hown hgw hds
    by_cases hlt : k < no
    · obtain ⟨y, hy⟩ : ∃ y, A.om[k]? = some y := ⟨_, List.getElem?_eq_getElem (by rw [HM.out.olen, HNO.out]; exact hlt)⟩
      have hx : s.opn[k]? = some y.x := by rw [← HM.out.om, List.getElem?_map, hy]; rfl
      have i0 : (0 : Int) ≤ (k : Int) := by omega
      have i1 : (k : Int) < (no : Int) := by omega
      have hxo := HOO.out y.x (List.mem_of_getElem? hx)
      have HTK := Lib.hid (fun t => amT_take (HTO.out k y.x hx) t)
      have hat := HDS.out.symm.trans (dsF_at (HTO.out k y.x hx))
      obtain ⟨b', off, e, hb, p0, p1, p2, p3, p4⟩ := Sop.cells (rw_keep HM.out.opn (KC.grow HM0.out HG.out)) hy
      obtain ⟨oo, hoo⟩ : ∃ o, A.oa = o := ⟨_, rfl⟩
      rw [hoo] at e
      rw [hoo]
      subst e
      have HOA := Lib.hid hoo
      clear hx hy hoo
      obtain ⟨⟨⟨ya, yi⟩, yf, yw, yp⟩, pa, pc⟩ := y
      simp only at p0 p1 p2 p3 p4 HTK hat hxo
      obtain ⟨W1, hW1⟩ : ∃ W1, wr.alloc (.cells #[.int .u64 (ya : Nat), .int .u64 (yi : Nat), .bool yf, .bool yw, .slice pa yp.length pc] 50) = W1 := ⟨_, rfl⟩
      obtain ⟨x5, hx5⟩ : ∃ x5, wr.heap.size = x5 := ⟨_, rfl⟩
      have BV : Below wr.heap.size wr W1 := hW1 ▸ (Below.refl _ _).alloc (Nat.le_refl _) _
      have hV : W1.cell? ⟨x5, 0, none⟩ = some (.int .u64 (ya : Nat)) ∧ W1.cell? ⟨x5, 1, none⟩ = some (.int .u64 (yi : Nat)) := by
        rw [← hW1, ← hx5]; exact ⟨by simp [go_sem], by simp [go_sem]⟩
      obtain ⟨v0, v1⟩ := hV
      have HOV := Lib.hid (SX_later HW.out BV)
      have HGV := Lib.hid (grown_trans HG.out (grown_of BV))
      clear BV
      have HAD := Lib.hid (addT_any (x1 + 1) q ⟨ya, yi⟩ D _ hxo (by omega) W1 HOV.out HD.out)
      obtain ⟨b0, hb0⟩ : ∃ b, amT ⟨ya, yi⟩ (T.take k) = b := ⟨_, rfl⟩
      rw [hb0] at hat
      have HAT := Lib.hid hat
      have HB0 := Lib.hid hb0
      clear hat hb0
      go_wp2_with fail
      refine HAD.out.mono ?_
      rintro e w2 ⟨D2, he, ⟨m2, hm2, hO2⟩, hD2, hg2⟩
      obtain rfl : e = .returned (.bool (!b0)) := he.trans (by rw [← HB0.out])
      have HG2 := Lib.hid (grown_trans HGV.out hg2)
      have HO2 := Lib.hid hO2
      have HD2 := Lib.hid (show HX D2 (fun t => amT t (T.take (k + 1))) from fun t ht => (hD2 t ht).trans (HTK.out t).symm)
      clear hO2 hD2 hg2 p0 p1 p2 p3 p4 v0 v1
      cases b0
      case true =>
        obtain rfl : r = false := by rw [HAT.out]; rfl
        go_wp2_with fail
        go_ret
        exact ⟨by first | rfl | simp, HB.out.grown HG2.out HB.out.size (fun k e => by cases e; have := HX1.out; omega)⟩
      have HRE := Lib.hid (show dsF (T.take (k + 1)) (T.drop (k + 1)) = r from by rw [HAT.out]; rfl)
      go_wp2_with fail
      go_roundw
      case rel => exact ⟨k + 1, m2, D2, by omega, by go_num, by omega, HO2.out, HD2.out, HRE.out, HG2.out⟩
      case measure => simp [intOf]; omega
    · have i1 : ¬ (k : Int) < (no : Int) := by omega
      obtain rfl : k = no := by omega
      have c3 := (KC.grow HM0.out HG.out).c _ _ HC3.out
      go_wp2_with fail
      clear c3
      obtain ⟨ws, hws⟩ : ∃ x, x = wr := ⟨_, rfl⟩
      rw [← hws] at HG HW ⊢
      clear hws
      go_loopw [25] (fun i wr => ∃ (j q : Nat) (D : DataW Unit), j ≤ nd ∧ i = .int .i64 j ∧ q ≤ k + j ∧ SX wr (x1 + 1) q D ∧ HX D (fun t => amT t (T.take (k + j))) ∧ dsF (T.take (k + j)) (T.drop (k + j)) = r ∧ W.grownBy wr (some (x1 + 1))) (fun i _ => nd - (intOf i).toNat)
      case atStart => exact ⟨0, q, D, Nat.zero_le _, rfl, hmk, HW.out, HD.out, HDS.out, HG.out⟩
      case round =>
        obtain ⟨j, q, D, hj, rfl, hmk, hown, hD, hds, hgw⟩ := hrel
        have HD := Lib.hid hD
        have HW := Lib.hid hown
        have HG := Lib.hid hgw
        have HDS := Lib.hid hds
        clear hD hown hgw hds
        by_cases hlt : j < nd
        · obtain ⟨y, hy⟩ : ∃ y, s.done[j]? = some y := ⟨_, List.getElem?_eq_getElem (by rw [HND.out]; exact hlt)⟩
          have i2 : (0 : Int) ≤ (j : Int) := by omega
          have i3 : (j : Int) < (nd : Int) := by omega
          have hxo := HOD.out y (List.mem_of_getElem? hy)
          have HTK := Lib.hid (fun t => amT_take (HTD.out j y hy) t)
          have hat := HDS.out.symm.trans (dsF_at (HTD.out j y hy))
          obtain ⟨b', off, e, hb, p0, p1, p2⟩ := Sdn.cells (rw_keep HM.out.done (KC.grow HM0.out HG.out)) hy
          obtain ⟨oo, hoo⟩ : ∃ o, A.da = o := ⟨_, rfl⟩
          rw [hoo] at e
          rw [hoo]
          subst e
          have HOA := Lib.hid hoo
          clear hy hoo
          obtain ⟨⟨ya, yi⟩, yc⟩ := y
          simp only at p0 p1 p2 HTK hat hxo
          obtain ⟨W1, hW1⟩ : ∃ W1, wr.alloc (.cells #[.int .u64 (ya : Nat), .int .u64 (yi : Nat), .bool yc] 64) = W1 := ⟨_, rfl⟩
          obtain ⟨x5, hx5⟩ : ∃ x5, wr.heap.size = x5 := ⟨_, rfl⟩
          have BV : Below wr.heap.size wr W1 := hW1 ▸ (Below.refl _ _).alloc (Nat.le_refl _) _
          have hV : W1.cell? ⟨x5, 0, none⟩ = some (.int .u64 (ya : Nat)) ∧ W1.cell? ⟨x5, 1, none⟩ = some (.int .u64 (yi : Nat)) := by
            rw [← hW1, ← hx5]; exact ⟨by simp [go_sem], by simp [go_sem]⟩
          obtain ⟨v0, v1⟩ := hV
          have HOV := Lib.hid (SX_later HW.out BV)
          have HGV := Lib.hid (grown_trans HG.out (grown_of BV))
          clear BV
          have HAD := Lib.hid (addT_any (x1 + 1) q ⟨ya, yi⟩ D _ hxo (by omega) W1 HOV.out HD.out)
          obtain ⟨b0, hb0⟩ : ∃ b, amT ⟨ya, yi⟩ (T.take (k + j)) = b := ⟨_, rfl⟩
          rw [hb0] at hat
          have HAT := Lib.hid hat
          have HB0 := Lib.hid hb0
          clear hat hb0
          go_wp2_with fail
          refine HAD.out.mono ?_
          rintro e w2 ⟨D2, he, ⟨m2, hm2, hO2⟩, hD2, hg2⟩
          obtain rfl : e = .returned (.bool (!b0)) := he.trans (by rw [← HB0.out])
          have HG2 := Lib.hid (grown_trans HGV.out hg2)
          have HO2 := Lib.hid hO2
          have HD2 := Lib.hid (show HX D2 (fun t => amT t (T.take (k + (j + 1)))) from fun t ht => (hD2 t ht).trans (HTK.out t).symm)
          clear hO2 hD2 hg2 p0 p1 p2 v0 v1
          cases b0
          case true =>
            obtain rfl : r = false := by rw [HAT.out]; rfl
            go_wp2_with fail
            go_ret
            exact ⟨by first | rfl | simp, HB.out.grown HG2.out HB.out.size (fun k e => by cases e; have := HX1.out; omega)⟩
          have HRE := Lib.hid (show dsF (T.take (k + (j + 1))) (T.drop (k + (j + 1))) = r from by rw [HAT.out]; rfl)
          go_wp2_with fail
          go_roundw
          case rel => exact ⟨j + 1, m2, D2, by omega, by go_num, by omega, HO2.out, HD2.out, HRE.out, HG2.out⟩
          case measure => simp [intOf]; omega
        · have i3 : ¬ (j : Int) < (nd : Int) := by omega
          obtain rfl : r = true := by
            rw [← HDS.out, List.drop_eq_nil_of_le (by rw [HTL.out]; omega)]; rfl
          go_wp2_with fail
          go_ret
          exact ⟨by first | rfl | simp, HB.out.grown HG.out HB.out.size (fun k e => by cases e; have := HX1.out; omega)⟩
end Go.Proofs.YthgnecggdlamfaaGreat
