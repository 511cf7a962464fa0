/- What an order is answered; added, outcome: the program's. -/
import Derived.Test.YtohhkacnjhgamaaPi
namespace Go.Proofs.Ytohhkacnjhgamaa
open Go.RowKit Go.Maps

/-- An answer as Go has it. -/
@[reducible] def anV (n : Nat) (b : Bool) : Value := .agg #[.int .i64 (n : Nat), .string ⟨#[]⟩, .int .u64 0, .bool false, .bool b]
abbrev anK : List Nat := [3, 4, 2, 5, 5]
@[reducible] def set5a (w1 : World) (x : Nat) (v0 v1 v2 v3 v4 : Value) : World := ((((w1.setCell ⟨x, 0, none⟩ v0).setCell ⟨x, 1, none⟩ v1).setCell ⟨x, 2, none⟩ v2).setCell ⟨x, 3, none⟩ v3).setCell ⟨x, 4, none⟩ v4
theorem set5a_grown (w : World) (x : Nat) (v0 v1 v2 v3 v4 : Value) : w.grownBy (set5a w x v0 v1 v2 v3 v4) (some x) := by
  unfold set5a
  exact grown_trans (sc_one _ _ _ _) (grown_trans (sc_one _ _ _ _) (grown_trans (sc_one _ _ _ _) (grown_trans (sc_one _ _ _ _) (sc_one _ _ _ _))))
theorem nofit_c : NoFit dlC [1] := by
  intro y o h
  have h0 := h 0 _ rfl
  have h1 := h 1 _ rfl
  rcases o with _ | o <;> simp [kdV] at h0 h1
theorem nofit_a : NoFit dlC anK := by
  intro y o h
  have h0 := h 0 _ rfl
  have h1 := h 1 _ rfl
  have h2 := h 2 _ rfl
  match o, h0, h1, h2 with
  | 0, h0, h1, h2 => simp [kdV] at h0 h1 h2
  | 1, h0, h1, h2 => simp [kdV] at h0 h1 h2
  | 2, h0, h1, h2 => simp [kdV] at h0 h1 h2
  | 3, h0, h1, h2 => simp [kdV] at h0 h1 h2
  | 4, h0, h1, h2 => simp [kdV] at h0 h1 h2
  | o + 5, h0, h1, h2 => simp at h0
/-- The boxes of a call's results, a coordinator and an answer. -/
structure RcB (w : World) (x4 x5 : Nat) : Prop where
  s : KB w x4 [1]
  a : KB w x5 anK
  l5 : x4 < x5
theorem RcB.later {w w' : World} {x4 x5 : Nat} (h : RcB w x4 x5) (hb : Below w.heap.size w w') : RcB w' x4 x5 := ⟨h.s.later hb, h.a.later hb, h.l5⟩
theorem RcB.grown {w w' : World} {x4 x5 g : Nat} (h : RcB w x4 x5) (hg : w.grownBy w' (some g)) (h4 : x4 ≠ g) (h5 : x5 ≠ g) : RcB w' x4 x5 := ⟨h.s.grownK hg h4, h.a.grownK hg h5, h.l5⟩
/-- Both laid. -/
@[reducible] def finW (w : World) (x4 x5 : Nat) (L : List Dl) (A : Cad) (n : Nat) (b : Bool) : World := set5a (w.setCell ⟨x4, 0, none⟩ (.slice A.a L.length A.c)) x5 (.int .i64 (n : Nat)) (.string ⟨#[]⟩) (.int .u64 0) (.bool false) (.bool b)
theorem RcB.fin {w : World} {x4 x5 : Nat} (h : RcB w x4 x5) {L : List Dl} {A : Cad} (hM : CoM w L A) (n : Nat) (b : Bool) (hp : ∀ y ∈ A.om, NE y.a x4 ∧ NE y.a x5) :
    CoM (finW w x4 x5 L A n b) L A ∧ (∀ g, Below g w w → g ≤ x4 → Below g w (finW w x4 x5 L A n b)) ∧ w.heap.size ≤ (finW w x4 x5 L A n b).heap.size := by
  have g1 := sc_one w x4 0 (.slice A.a L.length A.c)
  have g2 := set5a_grown (w.setCell ⟨x4, 0, none⟩ (.slice A.a L.length A.c)) x5 (.int .i64 (n : Nat)) (.string ⟨#[]⟩) (.int .u64 0) (.bool false) (.bool b)
  have m1 := hM.grown g1 (Rw.notin hM.row h.s nofit_c) (fun y hy => (hp y hy).1.nb _)
  have k5 := h.a.grownK g1 (by have := h.l5; omega)
  have m2 := m1.grown g2 (Rw.notin m1.row k5 nofit_a) (fun y hy => (hp y hy).2.nb _)
  refine ⟨m2, fun g h0 hg => ?_, Nat.le_trans g1.size g2.size⟩
  have hl := h.l5
  exact (((((h0.setCell hg _).setCell (by simp only; omega) _).setCell (by simp only; omega) _).setCell (by simp only; omega) _).setCell (by simp only; omega) _).setCell (by simp only; omega) _
/-- What a way of an order answers: deals in memory, an error, what is told; the parts lie from a block on. -/
def DcP (B : Nat) (w : World) (r : List Dl × Nat × Bool) (e : Ending) (w' : World) : Prop := ∃ A, e = .returned (.tuple #[coV r.1 A, anV r.2.1 r.2.2]) ∧ CoM w' r.1 A ∧ (∀ y ∈ A.om, LI y.a B w'.heap.size) ∧ Below B w w'
/-- Beside it: of what was there only the deals' own block may be written. -/
def AdP (B : Nat) (w : World) (A0 : Cad) (y : DlM) (r : List Dl × Nat × Bool) (e : Ending) (w' : World) : Prop := (∃ A, e = .returned (.tuple #[coV r.1 A, anV r.2.1 r.2.2]) ∧ CoM w' r.1 A ∧ (A.om = A0.om ∨ A.om = A0.om ++ [y]) ∧ Below B w w') ∧ ∃ q, w.grownBy w' q ∧ ∀ g, q = some g → ∃ p, A0.a = some p ∧ p.block = g
theorem grown_some {w w' : World} {r : Option Nat} (h : w.grownBy w' r) : ∃ g, w.grownBy w' (some g) ∧ (r = some g ∨ w'.heap.size ≤ g) := by
  cases r with
  | some g => exact ⟨g, h, .inl rfl⟩
  | none => exact ⟨w'.heap.size, ⟨h.os, h.tape, h.output, h.size, fun k hk _ => h.block k hk (by simp)⟩, .inr (Nat.le_refl _)⟩
theorem grown_none {w w' : World} (h : Below w.heap.size w w') : w.grownBy w' none := ⟨h.os, h.tape, h.output, h.size, fun k hk _ => h.block k hk⟩
set_option maxRecDepth 100000 in
set_option maxHeartbeats 8000000 in
theorem added_any (B : Nat) (L : List Dl) (A : Cad) (y : DlM) (w : World) (hC : CoC B w L A) (hB : B ≤ w.heap.size) (hy : Nus w y.a y.x.parts) (hyl : LI y.a B w.heap.size) (hyc : y.x.parts.length ≤ y.c ∧ y.c ≤ maxLen) (hne : ∀ q, A.a = some q → NE y.a q.block) :
    Calls Try.prog 33 #[coV L A, dlV y] w (AdP B w A y (if 64 ≤ L.length then (L, 5, false) else (L ++ [y.x], 0, false))) := by
  obtain ⟨n, hn⟩ : ∃ n, L.length = n := ⟨_, rfl⟩
  obtain ⟨⟨⟨ta, ti⟩, p, st⟩, ya, yc⟩ := y
  simp only at hy hyl hyc hne ⊢
  show Calls Try.prog 33 #[.agg #[.slice A.a L.length A.c], .agg #[.int .u64 (ta : Nat), .int .u64 (ti : Nat), .slice ya p.length yc, .int .i64 st]] w _
  obtain ⟨W, hW⟩ : ∃ W, (((w.alloc (.cells #[.slice A.a n A.c] 24)).alloc (.cells #[.int .u64 (ta : Nat), .int .u64 (ti : Nat), .slice ya p.length yc, .int .i64 st] 31)).alloc (.cells #[.slice none 0 0] 24)).alloc (.cells #[.int .i64 0, .string ⟨#[]⟩, .int .u64 0, .bool false, .bool false] 41) = W := ⟨_, rfl⟩
  obtain ⟨x, hx⟩ : ∃ x, w.heap.size = x := ⟨_, rfl⟩
  have hX : Below w.heap.size w W ∧ KB W x [1] ∧ W.cell? ⟨x, 0, none⟩ = some (.slice A.a n A.c) ∧ DB W (x + 1) ⟨⟨⟨ta, ti⟩, p, st⟩, ya, yc⟩ ∧ RcB W (x + 1 + 1) (x + 1 + 1 + 1) ∧ W.heap.size = x + 1 + 1 + 1 + 1 := by
    rw [← hW, ← hx]
    have b1 : ∀ (w : World) (o : Obj), Below w.heap.size w (w.alloc o) := fun w o => (Below.refl _ _).alloc (Nat.le_refl _) _
    refine ⟨by go_grown, (((KB.new1 rfl _ _).later (b1 _ _)).later (b1 _ _)).later (b1 _ _), by simp [go_sem], ((DB.new (by simp) ⟨⟨⟨ta, ti⟩, p, st⟩, ya, yc⟩ _).later (b1 _ _)).later (b1 _ _), ⟨(KB.new1 (by simp) _ _).later (b1 _ _), KB.new5 (by simp) _ _ _ _ _ _, by omega⟩, by simp⟩
  obtain ⟨hBW, k1, c0, hD, hR, hs⟩ := hX
  have HB := Lib.hid hBW
  have HR := Lib.hid hR
  have HC := Lib.hid (hC.later hBW)
  have HS := Lib.hid hs
  have HN := Lib.hid hn
  have HX := Lib.hid hx
  have HW := Lib.hid hW
  have HK1 := Lib.hid k1
  have HYL := Lib.hid hyl
  have HYC := Lib.hid hyc
  have HBB := Lib.hid hB
  have HNE := Lib.hid hne
  have HY := Lib.hid (hy.later hBW)
  have HLP := Lib.hid hC.lp
  have kf := k1.fz
  obtain ⟨_, d0, d1, d2, d3⟩ := hD
  simp only at d0 d1 d2 d3
  rw [hn]
  clear hBW hR hn hx hW k1 hyl hyc hB hy hne
  by_cases h64 : 64 ≤ n
  · have g : (64 : Int) ≤ (n : Int) := by omega
    have gd : decide ((64 : Int) ≤ (n : Int)) = true := decide_eq_true g
    rw [if_pos h64]
    obtain ⟨u0, e0⟩ := HR.out.s.so 0 (by decide)
    obtain ⟨v0, f0⟩ := HR.out.a.so 0 (by decide)
    obtain ⟨v1, f1⟩ := HR.out.a.so 1 (by decide)
    obtain ⟨v2, f2⟩ := HR.out.a.so 2 (by decide)
    obtain ⟨v3, f3⟩ := HR.out.a.so 3 (by decide)
    obtain ⟨v4, f4⟩ := HR.out.a.so 4 (by decide)
    have z4 := HR.out.s.fz
    have z5 := HR.out.a.fz
    have HFIN := Lib.hid (show AdP B w A ⟨⟨⟨ta, ti⟩, p, st⟩, ya, yc⟩ (L, 5, false) (.returned (.tuple #[.agg #[.slice A.a n A.c], anV 5 false])) (finW W (x + 1 + 1) (x + 1 + 1 + 1) L A 5 false) from by
      have hx := HX.out
      obtain ⟨m1, m2, m3⟩ := HR.out.fin HC.out.m 5 false (fun y hy => ⟨(HLP.out y hy).ne (.inr (by omega)), (HLP.out y hy).ne (.inr (by omega))⟩)
      have hb : Below w.heap.size w (finW W (x + 1 + 1) (x + 1 + 1 + 1) L A 5 false) := HB.out.trans (m2 _ (Below.refl _ _) (by omega))
      refine ⟨⟨A, by rw [← HN.out], m1, .inl rfl, hb.mono HBB.out⟩, none, grown_none hb, fun g e => by cases e⟩)
    simp only [finW, set5a, HN.out] at HFIN
    clear HB HR HC HS HK1 HYL HYC HBB HNE HY HLP d0 d1 d2 d3
    go_enter Try.func33, Try.ntmps33
    go_upto_region 1 with (fail)
    rw [HW.out, HX.out]
    go_wp2_with fail
    refine bodyPost_ret (v := .tuple #[.agg #[.slice A.a n A.c], anV 5 false]) (by simp [results, Try.results33, go_sem, e0, f0, f1, f2, f3, f4]) rfl ?_
    exact HFIN.out
  have g : ¬ (64 : Int) ≤ (n : Int) := by omega
  have gd : decide ((64 : Int) ≤ (n : Int)) = false := decide_eq_false g
  rw [if_neg h64]
  have hr1 := rw_one (k := 4) (f := dlC) W rfl ⟨⟨⟨ta, ti⟩, p, st⟩, ya, yc⟩ (os := #[.int .u64 (ta : Nat), .int .u64 (ti : Nat), .slice ya p.length yc, .int .i64 st]) rfl 31
  have B3 : Below W.heap.size W (W.alloc (.cells #[.int .u64 (ta : Nat), .int .u64 (ti : Nat), .slice ya p.length yc, .int .i64 st] 31)) := (Below.refl _ _).alloc (Nat.le_refl _) _
  have hcq := (HC.out.row).later B3
  rw [HN.out] at hcq
  have hol : A.om.length = n := by rw [HC.out.m.olen, HN.out]
  obtain ⟨v', w', hr, hcn, _, r, hg, hgr⟩ := app_rwG dlT B _ 22 (.slice A.a n A.c) A.om hcq _ 1 1 [⟨⟨⟨ta, ti⟩, p, st⟩, ya, yc⟩] rfl hr1 (by rw [hol]; omega) (by have := HBB.out; have := HB.out.size; have := B3.size; omega)
  obtain ⟨a', c', rfl, R', _, m1, M1⟩ := hcn.form dlT
  rw [List.length_append, List.length_singleton, hol] at hr m1
  rw [HS.out] at hr
  have HRUN := Lib.hid hr
  have hgb : ∀ g, r = some g → ∃ n' c', A.a = some ⟨g, 0, none⟩ := fun g e => by
    obtain ⟨_, n', c', e2⟩ := hgr g e
    injection e2 with e2 _ _
    exact ⟨n', c', e2⟩
  have hlo := HC.out.lo
  have hxs := HX.out
  have hsw := HS.out
  obtain ⟨g, hG, hgA⟩ := grown_some hg
  have hgq : (∃ q, A.a = some q ∧ q.block = g) ∨ w'.heap.size ≤ g := by
    rcases hgA with e | e
    · obtain ⟨_, _, e2⟩ := hgb g e
      exact .inl ⟨_, e2, rfl⟩
    · exact .inr e
  have hgx : g < x ∨ w'.heap.size ≤ g := by
    rcases hgq with ⟨q, e, rfl⟩ | e
    · exact .inl (by have := hC.lo q e; omega)
    · exact .inr e
  have h5 := hG.size
  have h3 := B3.size
  have hsz3 : x + 1 + 1 + 1 + 1 ≤ w'.heap.size := by omega
  have hne1 : ∀ y ∈ A.om, NE y.a g := fun y hy => by
    rcases hgq with ⟨q, e, rfl⟩ | e
    · exact hC.so q e y hy
    · exact (hC.lp y hy).ne (.inr (by omega))
  have hne2 : NE ya g := by
    rcases hgq with ⟨q, e, rfl⟩ | e
    · exact HNE.out q e
    · exact HYL.out.ne (.inr (by omega))
  have kx : KB w' x [1] := (HK1.out.later B3).grownK hG (by omega)
  have rc : RcB w' (x + 1 + 1) (x + 1 + 1 + 1) := (HR.out.later B3).grown hG (by omega) (by omega)
  obtain ⟨V, hV⟩ : ∃ V, w'.setCell ⟨x, 0, none⟩ (.slice a' (n + 1) c') = V := ⟨_, rfl⟩
  have gV : w'.grownBy V (some x) := hV ▸ sc_one _ _ _ _
  have rcV : RcB V (x + 1 + 1) (x + 1 + 1 + 1) := rc.grown gV (by omega) (by omega)
  have hCoM : CoM V (L ++ [⟨⟨ta, ti⟩, p, st⟩]) ⟨a', c', A.om ++ [⟨⟨⟨ta, ti⟩, p, st⟩, ya, yc⟩]⟩ := by
    refine ⟨by simp [HC.out.m.om], rw_grown R' gV (Rw.notin R' kx nofit_c), fun y hy => ?_, ?_, fun y hy => ?_⟩
    · rcases List.mem_append.1 hy with hy | hy
      · exact rw_grown (rw_grown ((HC.out.m.parts y hy).later B3) hG ((hne1 y hy).nb _)) gV (((hC.lp y hy).ne (.inr (by omega))).nb _)
      · obtain rfl : y = ⟨⟨⟨ta, ti⟩, p, st⟩, ya, yc⟩ := by simpa using hy
        exact rw_grown (rw_grown (HY.out.later B3) hG (hne2.nb _)) gV ((HYL.out.ne (.inr (by omega))).nb _)
    · rw [List.length_append, List.length_singleton, HN.out]; exact ⟨m1, M1⟩
    · rcases List.mem_append.1 hy with hy | hy
      · exact HC.out.m.pp y hy
      · obtain rfl : y = ⟨⟨⟨ta, ti⟩, p, st⟩, ya, yc⟩ := by simpa using hy
        exact HYC.out
  have hlp : ∀ y ∈ A.om ++ [⟨⟨⟨ta, ti⟩, p, st⟩, ya, yc⟩], LI y.a B w.heap.size := fun y hy => by
    rcases List.mem_append.1 hy with hy | hy
    · exact hC.lp y hy
    · obtain rfl : y = ⟨⟨⟨ta, ti⟩, p, st⟩, ya, yc⟩ := by simpa using hy
      exact HYL.out
  have hgrow : w.grownBy V (some g) := by
    have b0 := HB.out.trans (B3.mono HB.out.size)
    have q1 : w.grownBy w' (some g) := grown_trans (grown_of b0) hG
    refine ⟨q1.os.trans rfl |> fun _ => gV.os.trans q1.os, gV.tape.trans q1.tape, gV.output.trans q1.output, Nat.le_trans q1.size gV.size, fun k hk hne => (gV.block k (Nat.lt_of_lt_of_le hk q1.size) (by simp; omega)).trans (q1.block k hk hne)⟩
  have HFIN := Lib.hid (show AdP B w A ⟨⟨⟨ta, ti⟩, p, st⟩, ya, yc⟩ (L ++ [⟨⟨ta, ti⟩, p, st⟩], 0, false) (.returned (.tuple #[.agg #[.slice a' (n + 1) c'], anV 0 false])) (finW V (x + 1 + 1) (x + 1 + 1 + 1) (L ++ [⟨⟨ta, ti⟩, p, st⟩]) ⟨a', c', A.om ++ [⟨⟨⟨ta, ti⟩, p, st⟩, ya, yc⟩]⟩ 0 false) from by
    obtain ⟨n1, n2, n3⟩ := rcV.fin hCoM 0 false (fun y hy => ⟨(hlp y hy).ne (.inr (by omega)), (hlp y hy).ne (.inr (by omega))⟩)
    have bF : Below w.heap.size V (finW V (x + 1 + 1) (x + 1 + 1 + 1) (L ++ [⟨⟨ta, ti⟩, p, st⟩]) ⟨a', c', A.om ++ [⟨⟨⟨ta, ti⟩, p, st⟩, ya, yc⟩]⟩ 0 false) := n2 _ (Below.refl _ _) (by omega)
    have hbB := HBB.out
    have hBg : B ≤ g := by
      rcases hgq with ⟨q, e, rfl⟩ | e
      · exact (hC.lo q e).1
      · omega
    have hBel : Below B w V := (Below.refl B w).grown hgrow hbB (fun k e => by cases e; exact hBg)
    refine ⟨⟨_, by simp [HN.out], n1, .inr rfl, hBel.trans (bF.mono hbB)⟩, ?_⟩
    have hfr : w.grownBy (finW V (x + 1 + 1) (x + 1 + 1 + 1) (L ++ [⟨⟨ta, ti⟩, p, st⟩]) ⟨a', c', A.om ++ [⟨⟨⟨ta, ti⟩, p, st⟩, ya, yc⟩]⟩ 0 false) (some g) :=
      ⟨bF.os.trans hgrow.os, bF.tape.trans hgrow.tape, bF.output.trans hgrow.output, Nat.le_trans hgrow.size n3, fun k hk hne => (bF.block k hk).trans (hgrow.block k hk hne)⟩
    rcases hgq with ⟨q, e, e2⟩ | e
    · exact ⟨some g, hfr, fun k e3 => by cases e3; exact ⟨q, e, e2⟩⟩
    · exact ⟨none, ⟨hfr.os, hfr.tape, hfr.output, hfr.size, fun k hk _ => hfr.block k hk (by simp; omega)⟩, fun k e3 => by cases e3⟩)
  obtain ⟨u0, e0⟩ := rcV.s.so 0 (by decide)
  obtain ⟨v0, f0⟩ := rcV.a.so 0 (by decide)
  obtain ⟨v1, f1⟩ := rcV.a.so 1 (by decide)
  obtain ⟨v2, f2⟩ := rcV.a.so 2 (by decide)
  obtain ⟨v3, f3⟩ := rcV.a.so 3 (by decide)
  obtain ⟨v4, f4⟩ := rcV.a.so 4 (by decide)
  have z4 := rcV.s.fz
  have z5 := rcV.a.fz
  obtain ⟨ux, ex⟩ := kx.so 0 (by decide)
  have zx := kx.fz
  have HV := Lib.hid hV
  have hVc : V.cell? ⟨x, 0, none⟩ = some (.slice a' (n + 1) c') := by rw [← hV]; simp [go_sem, ex]
  simp only [finW, set5a, List.length_append, List.length_singleton, HN.out] at HFIN
  clear HB HR HC HK1 HYL HYC HBB HNE HY HLP hr1 B3 hcq hcn hr hg hgr hgb hlo hG hgA hgq hgx h5 h3 hsz3 hne1 hne2 kx rc gV rcV hCoM hlp hgrow hV R' m1 M1 hxs hol
  go_enter Try.func33, Try.ntmps33
  go_upto_region 1 with (fail)
  rw [HW.out, HX.out]
  go_upto_region 4 with (at_builtin; refine Lib.wpList_append_run _ rfl _ _ 22 22 rfl (.slice A.a n A.c) (.slice (some ⟨x + 1 + 1 + 1 + 1, 0, none⟩) 1 1) rfl rfl _ _ HRUN.out ?_)
  rw [HV.out]
  clear ex zx
  go_wp2_with fail
  refine bodyPost_ret (v := .tuple #[.agg #[.slice a' (n + 1) c'], anV 0 false]) (by simp [results, Try.results33, go_sem, e0, f0, f1, f2, f3, f4]) rfl ?_
  exact HFIN.out
end Go.Proofs.Ytohhkacnjhgamaa
