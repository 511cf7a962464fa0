/- Changes: the program's Next. -/
import Derived.Test.YtmnakfonfpdneaaDoorHo
namespace Go.Proofs.YtmnakfonfpdneaaDoor
open Go.RowKit

theorem risesF_iff {L : List Nat} : ∀ {p : Nat}, risesF p L = true ↔ (∀ x ∈ L, p < x ∧ x ≤ 63) ∧ L.Pairwise (· < ·) := by
  induction L with
  | nil => intro p; simp [risesF]
  | cons x r ih =>
    intro p
    simp only [risesF, Bool.and_eq_true, decide_eq_true_eq, ih (p := x), List.pairwise_cons, List.mem_cons]
    constructor
    · rintro ⟨⟨h1, h2⟩, h3, h4⟩
      refine ⟨?_, fun y hy => (h3 y hy).1, h4⟩
      rintro y (rfl | hy)
      · exact ⟨h1, h2⟩
      · have := h3 y hy; exact ⟨by omega, this.2⟩
    · rintro ⟨h1, h2, h3⟩
      exact ⟨h1 x (.inl rfl), fun y hy => ⟨h2 y hy, (h1 y (.inr hy)).2⟩, h3⟩
theorem asc_of_pairwise {L : List Nat} (h : L.Pairwise (· < ·)) : Asc L := fun i j x y hij hx hy => by
  obtain ⟨hi, rfl⟩ := List.getElem?_eq_some_iff.1 hx
  obtain ⟨hj, rfl⟩ := List.getElem?_eq_some_iff.1 hy
  rcases Nat.lt_or_ge i j with h2 | h2
  · exact Nat.le_of_lt (List.pairwise_iff_getElem.1 h i j hi hj h2)
  · obtain rfl : i = j := by omega
    exact Nat.le_refl _
theorem bothN_iff {V L : List Nat} : bothN V L = true ↔ ∃ x ∈ L, x ∈ V := by
  induction L with
  | nil => simp [bothN]
  | cons y r ih => simp only [bothN, Bool.or_eq_true, ih, hasN_iff, List.mem_cons, exists_eq_or_imp]
/-- What may be, in plain words. -/
theorem mayB_iff {V L : List Nat} : mayB V L = true ↔ (0 < V.length ∧ V.length ≤ 7 ∧ L.length ≤ 3) ∧ (∀ x ∈ V, 0 < x ∧ x ≤ 63) ∧ V.Pairwise (· < ·) ∧ (∀ x ∈ L, 0 < x ∧ x ≤ 63) ∧ L.Pairwise (· < ·) ∧ ∀ x ∈ L, x ∉ V := by
  unfold mayB membB
  simp only [Bool.and_eq_true, decide_eq_true_eq, risesF_iff, Bool.not_eq_true']
  constructor
  · rintro ⟨⟨⟨h1, h2, h3, h4⟩, h5, h6, h7⟩, h8⟩
    refine ⟨⟨h1, h2, h5⟩, h3, h4, h6, h7, fun x hx hv => ?_⟩
    have := bothN_iff.2 ⟨x, hx, hv⟩
    rw [h8] at this; cases this
  · rintro ⟨⟨h1, h2, h5⟩, h3, h4, h6, h7, h8⟩
    refine ⟨⟨⟨h1, h2, h3, h4⟩, h5, h6, h7⟩, ?_⟩
    cases hb : bothN V L with
    | false => rfl
    | true => obtain ⟨x, hx, hv⟩ := bothN_iff.1 hb; exact absurd hv (h8 x hx)
/-- A configuration behind a change. -/
def nxtF (V L : List Nat) (kind : Int) (id : Nat) : (List Nat × List Nat) × Int :=
  if mayB V L && decide (1 ≤ id ∧ id ≤ 63) then (if kind = 1 then lrnF id V L else if kind = 2 then votF id V L else if kind = 3 then levF id V L else (([], []), 1)) else (([], []), 1)
/-- The answer laid into the third box. -/
theorem nx_laid {w w1 w2 : World} {r : (List Nat × List Nat) × Int} {x : Nat} (hx : w.heap.size ≤ x) (hx1 : x < w1.heap.size) (hB1 : Below w.heap.size w w1) {e : Ending} (h : NxF w1 r e w2) :
    ∃ (a : Option Addr) (m c : Nat) (a2 : Option Addr) (m2 c2 : Nat), e = .returned (.tuple #[.agg #[.slice a m c, .slice a2 m2 c2], .int .i64 r.2]) ∧ NxF w r (.returned (.tuple #[.agg #[.slice a m c, .slice a2 m2 c2], .int .i64 r.2])) ((w2.setCell ⟨x, 0, none⟩ (.slice a m c)).setCell ⟨x, 1, none⟩ (.slice a2 m2 c2)) ∧ Below w1.heap.size w1 w2 := by
  obtain ⟨a, c, a2, c2, rfl, h1, h2, h3, h4, h5⟩ := h
  refine ⟨_, _, _, _, _, _, rfl, ⟨a, c, a2, c2, rfl, ?_, ?_, fun h q e => Nat.le_trans hB1.size (h3 h q e), fun h q e => Nat.le_trans hB1.size (h4 h q e), ?_⟩, h5⟩
  · exact (h1.set' (fun h q e => by have := h3 h q e; omega) _ _).set' (fun h q e => by have := h3 h q e; omega) _ _
  · exact (h2.set' (fun h q e => by have := h4 h q e; omega) _ _).set' (fun h q e => by have := h4 h q e; omega) _ _
  · exact ((hB1.trans (h5.mono hB1.size)).setCell hx _).setCell hx _
set_option maxRecDepth 100000 in
set_option maxHeartbeats 4000000 in
theorem pNext_any (id n c n2 c2 : Nat) (kd : Int) (a a2 : Option Addr) (V L : List Nat) (hn : V.length = n) (hl : n ≤ 140737488351232) (hn2 : L.length = n2) (hl2 : n2 ≤ 140737488351232) (w : World) (hV : Us w a V) (hU : Us w a2 L) :
    Calls Tryd.prog 13 #[.agg #[.slice a n c, .slice a2 n2 c2], .agg #[.int .i64 kd, .int .u64 id]] w (NxF w (nxtF V L kd id)) := by
  have B0 : Below w.heap.size w (((w.alloc (.cells #[.slice a n c, .slice a2 n2 c2] 24)).alloc (.cells #[.int .i64 kd, .int .u64 id] 45)).alloc (.cells #[.slice none 0 0, .slice none 0 0] 24)) := by go_grown
  have C0 := ((Cb.new (w := w) rfl (.slice a n c) (.slice a2 n2 c2) 24).past (.cells #[.int .i64 kd, .int .u64 id] 45)).past (.cells #[.slice none 0 0, .slice none 0 0] 24)
  have X0 := (Cb.new (w := w.alloc (.cells #[.slice a n c, .slice a2 n2 c2] 24)) rfl (.int .i64 kd) (.int .u64 id) 45).past (.cells #[.slice none 0 0, .slice none 0 0] 24)
  have D0 := Cb.new (w := (w.alloc (.cells #[.slice a n c, .slice a2 n2 c2] 24)).alloc (.cells #[.int .i64 kd, .int .u64 id] 45)) rfl (.slice none 0 0) (.slice none 0 0) 24
  have es : (w.alloc (.cells #[.slice a n c, .slice a2 n2 c2] 24)).heap.size = w.heap.size + 1 := by simp
  have es2 : ((w.alloc (.cells #[.slice a n c, .slice a2 n2 c2] 24)).alloc (.cells #[.int .i64 kd, .int .u64 id] 45)).heap.size = w.heap.size + 1 + 1 := by simp
  rw [es] at X0
  rw [es2] at D0
  have HV := Lib.hid (hV.later B0)
  have HU := Lib.hid (hU.later B0)
  have HN := Lib.hid hn
  have HN2 := Lib.hid hn2
  have HB := Lib.hid B0
  have HC := Lib.hid C0
  have HX := Lib.hid X0
  have HD := Lib.hid D0
  obtain ⟨r, hr⟩ : ∃ r, nxtF V L kd id = r := ⟨_, rfl⟩
  rw [hr]
  have HR := Lib.hid hr
  clear hV hU hn hn2 hr es es2 B0 X0 D0
  obtain ⟨mb, hmb⟩ : ∃ m, mayB V L = m := ⟨_, rfl⟩
  have HMB := Lib.hid hmb
  clear hmb
  go_enter Tryd.func13, Tryd.ntmps13
  go_wp2_with fail
  generalize hW : ((w.alloc (.cells #[.slice a n c, .slice a2 n2 c2] 24)).alloc (.cells #[.int .i64 kd, .int .u64 id] 45)).alloc (.cells #[.slice none 0 0, .slice none 0 0] 24) = W at *
  clear hW
  obtain ⟨c0, c1, _, _⟩ := C0
  go_wp2_with fail
  clear c0 c1
  refine (pMay_any n c n2 c2 a a2 V L HN.out hl HN2.out hl2 _ HV.out HU.out).mono ?_
  rintro e w1 ⟨rfl, hb1⟩
  rw [HMB.out]
  have HC1 := Lib.hid (HC.out.later hb1)
  have HX1 := Lib.hid (HX.out.later hb1)
  have HD1 := Lib.hid (HD.out.later hb1)
  have HB1 := Lib.hid (HB.out.trans (hb1.mono HB.out.size))
  have HV1 := Lib.hid (HV.out.later hb1)
  have HU1 := Lib.hid (HU.out.later hb1)
  clear hb1 HC HX HD HV HU HB
  obtain ⟨x0, x1, _, _⟩ := HX1.out
  obtain ⟨d0, d1, dz, dl⟩ := HD1.out
  cases mb
  case false =>
    have HT := Lib.hid (show r = (([], []), 1) by rw [← HR.out]; unfold nxtF; rw [HMB.out]; rfl)
    go_wp2_with fail
    refine bodyPost_ret (v := .tuple #[.agg #[.slice none 0 0, .slice none 0 0], .int .i64 1]) (by simp [results, Tryd.results13, go_sem, d0, d1]) rfl ?_
    exact nx_no HT.out ((HB1.out.setCell (by show w.heap.size ≤ w.heap.size + 1 + 1; omega) _).setCell (by show w.heap.size ≤ w.heap.size + 1 + 1; omega) _)
  obtain ⟨⟨m1, m2, m3⟩, m4, m5, m6, m7, m8⟩ := mayB_iff.1 HMB.out
  have HM := Lib.hid (And.intro m1 (And.intro m2 (And.intro m3 (And.intro m5 (And.intro m7 m8)))))
  clear m1 m2 m3 m4 m5 m6 m7 m8
  go_wp2_with fail
  refine (pMayId_any id _).mono ?_
  rintro e w2 ⟨rfl, rfl⟩
  by_cases hid : 1 ≤ id ∧ id ≤ 63
  case neg =>
    have HT := Lib.hid (show r = (([], []), 1) by rw [← HR.out]; unfold nxtF; rw [HMB.out, decide_eq_false hid]; rfl)
    rw [decide_eq_false hid]
    clear hid
    go_wp2_with fail
    refine bodyPost_ret (v := .tuple #[.agg #[.slice none 0 0, .slice none 0 0], .int .i64 1]) (by simp [results, Tryd.results13, go_sem, d0, d1]) rfl ?_
    exact nx_no HT.out ((HB1.out.setCell (by show w.heap.size ≤ w.heap.size + 1 + 1; omega) _).setCell (by show w.heap.size ≤ w.heap.size + 1 + 1; omega) _)
  rw [decide_eq_true hid]
  have HRR := Lib.hid (show (if kd = 1 then lrnF id V L else if kd = 2 then votF id V L else if kd = 3 then levF id V L else (([], []), 1)) = r by rw [← HR.out]; unfold nxtF; rw [HMB.out, decide_eq_true hid]; rfl)
  clear hid
  obtain ⟨c0, c1, _, _⟩ := HC1.out
  by_cases k1 : kd = 1
  · subst k1
    have HT := Lib.hid (show lrnF id V L = r by rw [← HRR.out]; rfl)
    go_wp2_with fail
    refine (learn_any id n c n2 c2 a a2 V L HN.out (by have := HM.out; have := HN.out; omega) HN2.out (by have := HM.out; have := HN2.out; omega) (asc_of_pairwise HM.out.2.2.2.2.1) _ HV1.out HU1.out).mono ?_
    intro e w3 hnx
    obtain ⟨ua, um, uc, va, vm, vc, rfl, hnx2, hb3⟩ := nx_laid (x := w.heap.size + 1 + 1) (by omega) dl HB1.out hnx
    have HF := Lib.hid (show NxF w r (.returned (.tuple #[.agg #[.slice ua um uc, .slice va vm vc], .int .i64 r.2])) ((w3.setCell ⟨w.heap.size + 1 + 1, 0, none⟩ (.slice ua um uc)).setCell ⟨w.heap.size + 1 + 1, 1, none⟩ (.slice va vm vc)) from HT.out ▸ hnx2)
    rw [HT.out]
    have HD3 := HD1.out.later hb3
    clear hnx hnx2 hb3 d0 d1 dz dl c0 c1 x0 x1
    obtain ⟨d0, d1, dz, dl⟩ := HD3
    obtain ⟨rr, hrr⟩ : ∃ rr, r.2 = rr := ⟨_, rfl⟩
    rw [hrr] at HF ⊢
    clear hrr
    go_wp2_with fail
    refine bodyPost_ret (v := .tuple #[.agg #[.slice ua um uc, .slice va vm vc], .int .i64 rr]) (by simp [results, Tryd.results13, go_sem, d0, d1]) rfl ?_
    exact HF.out
  have g1 : (kd == 1) = false := by simpa using k1
  by_cases k2 : kd = 2
  · subst k2
    have HT := Lib.hid (show votF id V L = r by rw [← HRR.out]; rfl)
    clear k1
    go_wp2_with fail
    refine (vote_any id n c n2 c2 a a2 V L HN.out (by have := HM.out; have := HN.out; omega) HN2.out (by have := HM.out; have := HN2.out; omega) (asc_of_pairwise HM.out.2.2.2.1) (fun h => HM.out.2.2.2.2.2 id (hasN_iff.1 h)) _ HV1.out HU1.out).mono ?_
    intro e w3 hnx
    obtain ⟨ua, um, uc, va, vm, vc, rfl, hnx2, hb3⟩ := nx_laid (x := w.heap.size + 1 + 1) (by omega) dl HB1.out hnx
    have HF := Lib.hid (show NxF w r (.returned (.tuple #[.agg #[.slice ua um uc, .slice va vm vc], .int .i64 r.2])) ((w3.setCell ⟨w.heap.size + 1 + 1, 0, none⟩ (.slice ua um uc)).setCell ⟨w.heap.size + 1 + 1, 1, none⟩ (.slice va vm vc)) from HT.out ▸ hnx2)
    rw [HT.out]
    have HD3 := HD1.out.later hb3
    clear hnx hnx2 hb3 d0 d1 dz dl c0 c1 x0 x1
    obtain ⟨d0, d1, dz, dl⟩ := HD3
    obtain ⟨rr, hrr⟩ : ∃ rr, r.2 = rr := ⟨_, rfl⟩
    rw [hrr] at HF ⊢
    clear hrr
    go_wp2_with fail
    refine bodyPost_ret (v := .tuple #[.agg #[.slice ua um uc, .slice va vm vc], .int .i64 rr]) (by simp [results, Tryd.results13, go_sem, d0, d1]) rfl ?_
    exact HF.out
  have g2 : (kd == 2) = false := by simpa using k2
  by_cases k3 : kd = 3
  · subst k3
    have HT := Lib.hid (show levF id V L = r by rw [← HRR.out]; rfl)
    clear k1 k2
    go_wp2_with fail
    refine (leave_any id n c n2 c2 a a2 V L HN.out (by have := HM.out; have := HN.out; omega) HN2.out (by have := HM.out; have := HN2.out; omega) _ HV1.out HU1.out).mono ?_
    intro e w3 hnx
    obtain ⟨ua, um, uc, va, vm, vc, rfl, hnx2, hb3⟩ := nx_laid (x := w.heap.size + 1 + 1) (by omega) dl HB1.out hnx
    have HF := Lib.hid (show NxF w r (.returned (.tuple #[.agg #[.slice ua um uc, .slice va vm vc], .int .i64 r.2])) ((w3.setCell ⟨w.heap.size + 1 + 1, 0, none⟩ (.slice ua um uc)).setCell ⟨w.heap.size + 1 + 1, 1, none⟩ (.slice va vm vc)) from HT.out ▸ hnx2)
    rw [HT.out]
    have HD3 := HD1.out.later hb3
    clear hnx hnx2 hb3 d0 d1 dz dl c0 c1 x0 x1
    obtain ⟨d0, d1, dz, dl⟩ := HD3
    obtain ⟨rr, hrr⟩ : ∃ rr, r.2 = rr := ⟨_, rfl⟩
    rw [hrr] at HF ⊢
    clear hrr
    go_wp2_with fail
    refine bodyPost_ret (v := .tuple #[.agg #[.slice ua um uc, .slice va vm vc], .int .i64 rr]) (by simp [results, Tryd.results13, go_sem, d0, d1]) rfl ?_
    exact HF.out
  have g3 : (kd == 3) = false := by simpa using k3
  have HT := Lib.hid (show r = (([], []), 1) by rw [← HRR.out, if_neg k1, if_neg k2, if_neg k3])
  clear k1 k2 k3
  go_wp2_with fail
  refine bodyPost_ret (v := .tuple #[.agg #[.slice none 0 0, .slice none 0 0], .int .i64 1]) (by simp [results, Tryd.results13, go_sem, d0, d1]) rfl ?_
  exact nx_no HT.out ((HB1.out.setCell (by show w.heap.size ≤ w.heap.size + 1 + 1; omega) _).setCell (by show w.heap.size ≤ w.heap.size + 1 + 1; omega) _)
end Go.Proofs.YtmnakfonfpdneaaDoor
