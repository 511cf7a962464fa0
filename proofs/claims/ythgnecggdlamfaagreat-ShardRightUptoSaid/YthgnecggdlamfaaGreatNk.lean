/- Right: the program's. -/
import Derived.Test.YthgnecggdlamfaaGreatNc
import Derived.Test.YthgnecggdlamfaaGreatNg
import Derived.Test.YthgnecggdlamfaaGreatVg
namespace Go.Proofs.YthgnecggdlamfaaGreat
open Go.RowKit Go.Maps

theorem besH_iff (x : Ho) (i : Nat) : ∀ (r : List Ho) (k : Nat), besH x i k r = true ↔ ∀ (j : Nat) (y : Ho), r[j]? = some y → ¬ (inW y x.t x.key x.wr = true ∨ (i ≠ k + j ∧ x.t = y.t ∧ x.key = y.key))
  | [], k => by simp [besH]
  | z :: r, k => by
    rw [besH]
    by_cases h : inW z x.t x.key x.wr = true ∨ (i ≠ k ∧ x.t = z.t ∧ x.key = z.key)
    · rw [if_pos h]
      exact ⟨fun e => (by cases e), fun e => absurd h (e 0 z rfl)⟩
    · rw [if_neg h, besH_iff x i r (k + 1)]
      refine ⟨fun e j y hy => ?_, fun e j y hy => ?_⟩
      · cases j with
        | zero => obtain rfl : z = y := by simpa using hy
                  exact h
        | succ j => have := e j y (by simpa using hy); rwa [Nat.add_assoc, Nat.add_comm 1 j] at this
      · have := e (j + 1) y (by simpa using hy); rwa [Nat.add_assoc, Nat.add_comm 1 j]
theorem rightF_iff (L : List Ho) : ∀ (r : List Ho) (i : Nat), rightF L i r = true ↔ ∀ (j : Nat) (x : Ho), r[j]? = some x → besH x (i + j) 0 L = true
  | [], i => by simp [rightF]
  | z :: r, i => by
    rw [rightF]
    cases h : besH z i 0 L
    · refine ⟨fun e => by simp at e, fun e => ?_⟩
      have := e 0 z rfl
      rw [Nat.add_zero, h] at this; cases this
    · rw [if_pos rfl, rightF_iff L r (i + 1)]
      refine ⟨fun e j y hy => ?_, fun e j y hy => ?_⟩
      · cases j with
        | zero => obtain rfl : z = y := by simpa using hy
                  exact h
        | succ j => have := e j y (by simpa using hy); rwa [Nat.add_assoc, Nat.add_comm 1 j] at this
      · have := e (j + 1) y (by simpa using hy); rwa [Nat.add_assoc, Nat.add_comm 1 j]
theorem inW_iff {y : Ho} {t : Tx} {k : ByteArray} {w : Bool} : inW y t k w = true ↔ y.key = k ∧ y.t ≠ t ∧ (y.wr || w) = true := by
  unfold inW
  simp only [Bool.and_eq_true, decide_eq_true_eq, Bool.not_eq_true', decide_eq_false_iff_not]
theorem right_iff (L : List Ho) : rightH L = true ↔ goodH L := by
  unfold rightH goodH
  rw [rightF_iff, List.pairwise_iff_getElem]
  constructor
  · intro h i j hi hj hij he
    have h1 := (besH_iff L[i] (0 + i) L 0).1 (h i L[i] (List.getElem?_eq_getElem hi)) j L[j] (List.getElem?_eq_getElem hj)
    have hne : L[i].t ≠ L[j].t := fun e => h1 (.inr ⟨by omega, e, he⟩)
    have h2 : ¬ (L[j].wr || L[i].wr) = true := fun e => h1 (.inl (inW_iff.2 ⟨he.symm, fun e2 => hne e2.symm, e⟩))
    refine ⟨hne, ?_, ?_⟩
    · cases hw : L[i].wr
      · rfl
      · exact absurd (by rw [hw, Bool.or_true]) h2
    · cases hw : L[j].wr
      · rfl
      · exact absurd (by rw [hw, Bool.true_or]) h2
  · intro h i x hx
    obtain ⟨hi, rfl⟩ := List.getElem?_eq_some_iff.1 hx
    rw [besH_iff]
    intro j y hy
    obtain ⟨hj, rfl⟩ := List.getElem?_eq_some_iff.1 hy
    rintro (h1 | ⟨h1, h2, h3⟩)
    · obtain ⟨e1, e2, e3⟩ := inW_iff.1 h1
      rcases Nat.lt_trichotomy i j with hij | hij | hij
      · obtain ⟨_, g1, g2⟩ := h i j hi hj hij e1.symm
        rw [g1, g2] at e3; cases e3
      · subst hij; exact e2 rfl
      · obtain ⟨_, g1, g2⟩ := h j i hj hi hij e1
        rw [g1, g2] at e3; cases e3
    · rcases Nat.lt_trichotomy i j with hij | hij | hij
      · exact (h i j hi hj hij h3).1 h2
      · omega
      · exact (h j i hj hi hij h3.symm).1 h2.symm
/-- Keys that are held, that are written; owners. -/
def kI (P : List Ho) (y : ByteArray) : Bool := P.any fun x => decide (x.key = y)
def wI (P : List Ho) (y : ByteArray) : Bool := P.any fun x => x.wr && decide (x.key = y)
def oI (P : List Ho) (t : Tx) (y : ByteArray) : Bool := P.any fun x => decide (x.t = t ∧ x.key = y)
/-- Whether one more may stand behind others. -/
def fitH (P : List Ho) (x : Ho) : Prop := ∀ y ∈ P, y.key = x.key → y.t ≠ x.t ∧ y.wr = false ∧ x.wr = false
theorem good_snoc {P : List Ho} {x : Ho} : goodH (P ++ [x]) ↔ goodH P ∧ fitH P x := by
  unfold goodH fitH
  rw [List.pairwise_append]
  refine ⟨fun ⟨h1, _, h2⟩ => ⟨h1, fun y hy => h2 y hy x (by simp)⟩, fun ⟨h1, h2⟩ => ⟨h1, by simp, fun y hy z hz => ?_⟩⟩
  obtain rfl : z = x := by simpa using hz
  exact h2 y hy
theorem fit_alone {P : List Ho} {x : Ho} (h : kI P x.key = false) : fitH P x := fun y hy e => by
  have := List.any_eq_false.1 h y hy
  simp [e] at this
theorem fit_beside {P : List Ho} {x : Ho} (hx : x.wr = false) (h : wI P x.key = false) (h2 : oI P x.t x.key = false) : fitH P x := fun y hy e => by
  have h3 := List.any_eq_false.1 h y hy
  have h4 := List.any_eq_false.1 h2 y hy
  simp [e] at h3 h4
  exact ⟨h4, h3, hx⟩
theorem not_wr {P : List Ho} {x : Ho} (h : kI P x.key = true) (hx : x.wr = true) : ¬ fitH P x := fun hf => by
  obtain ⟨y, hy, e⟩ := List.any_eq_true.1 h
  have := (hf y hy (of_decide_eq_true e)).2.2
  rw [hx] at this; cases this
theorem not_written {P : List Ho} {x : Ho} (h : wI P x.key = true) : ¬ fitH P x := fun hf => by
  obtain ⟨y, hy, e⟩ := List.any_eq_true.1 h
  simp only [Bool.and_eq_true, decide_eq_true_eq] at e
  have := (hf y hy e.2).2.1
  rw [e.1] at this; cases this
theorem not_owned {P : List Ho} {x : Ho} (h : oI P x.t x.key = true) : ¬ fitH P x := fun hf => by
  obtain ⟨y, hy, e⟩ := List.any_eq_true.1 h
  have e := of_decide_eq_true e
  exact (hf y hy e.2).1 e.1
theorem alone_own {P : List Ho} {x : Ho} (h : kI P x.key = false) : oI P x.t x.key = false := by
  refine List.any_eq_false.2 fun y hy => ?_
  have := List.any_eq_false.1 h y hy
  simp at this
  simp [this]
theorem kI_snoc (P : List Ho) (x : Ho) (y : ByteArray) : kI (P ++ [x]) y = (kI P y || decide (x.key = y)) := by simp [kI]
theorem wI_snoc (P : List Ho) (x : Ho) (y : ByteArray) : wI (P ++ [x]) y = (wI P y || (x.wr && decide (x.key = y))) := by simp [wI]
theorem oI_snoc (P : List Ho) (x : Ho) (t : Tx) (y : ByteArray) : oI (P ++ [x]) t y = (oI P t y || decide (x.t = t ∧ x.key = y)) := by simp [oI]
theorem right_no {L : List Ho} {k : Nat} {x : Ho} (hx : L[k]? = some x) (h : ¬ fitH (L.take k) x) : rightH L = false := by
  cases hr : rightH L
  · rfl
  · have h1 := (right_iff L).1 hr
    have h2 : goodH (L.take (k + 1)) := h1.sublist (List.take_sublist _ _)
    rw [List.take_add_one, hx] at h2
    exact absurd (good_snoc.1 h2).2 h
theorem good_step {L : List Ho} {k : Nat} {x : Ho} (hx : L[k]? = some x) (h1 : goodH (L.take k)) (h : fitH (L.take k) x) : goodH (L.take (k + 1)) := by
  rw [List.take_add_one, hx]; exact good_snoc.2 ⟨h1, h⟩
theorem take_snocH {P : List Ho} {k : Nat} {x : Ho} (hx : P[k]? = some x) : P.take (k + 1) = P.take k ++ [x] := by rw [List.take_add_one, hx]; rfl
set_option maxRecDepth 100000 in
set_option maxHeartbeats 8000000 in
theorem pRightH_any (n c : Nat) (a : Option Addr) (L : List Ho) (hn : L.length = n) (hl : n * 40 ≤ 140737488351232) (hs : smallH L) (w : World) (hM : Hos w a L) :
    Calls Tryz.prog 11 #[.slice a n c] w fun e w' => e = .returned (.bool (rightH L)) ∧ Below w.heap.size w w' := by
  have hmm := @run_makeMap Tryz.prog
  have HN := Lib.hid hn
  have HM := Lib.hid hM
  have HSM := Lib.hid hs
  have HNO := Lib.hid (fun (k : Nat) (x : Ho) (hx : L[k]? = some x) (h : ¬ fitH (L.take k) x) => right_no hx h)
  have HYES := Lib.hid (fun (h : goodH L) => (right_iff L).2 h)
  obtain ⟨r, hr⟩ : ∃ r, rightH L = r := ⟨_, rfl⟩
  rw [hr] at HNO HYES ⊢
  clear hn hM hs hr
  obtain ⟨q1, hq1⟩ : ∃ q, w.heap.size = q := ⟨_, rfl⟩
  obtain ⟨W1, hW1⟩ : ∃ W1, w.alloc (.map #[] 0) = W1 := ⟨_, rfl⟩
  obtain ⟨W2, hW2⟩ : ∃ W2, W1.alloc (.map #[] 0) = W2 := ⟨_, rfl⟩
  obtain ⟨W3, hW3⟩ : ∃ W3, W2.alloc (.map #[] 0) = W3 := ⟨_, rfl⟩
  have z1 : W1.heap.size = q1 + 1 := by rw [← hW1, ← hq1]; simp
  have z2 : W2.heap.size = q1 + 1 + 1 := by rw [← hW2]; simp [z1]
  have z3 : W3.heap.size = q1 + 1 + 1 + 1 := by rw [← hW3]; simp [z2]
  have m1 : SS W1 q1 0 (.map []) := by rw [← hW1, ← hq1]; exact World.ownsMap_made (H := Unit) w Tryz.prog 9 unitElem
  have m2 : SS W2 (q1 + 1) 0 (.map []) := by rw [← hW2, ← z1]; exact World.ownsMap_made (H := Unit) W1 Tryz.prog 9 unitElem
  have m3 : SW W3 (q1 + 1 + 1) 0 (.map []) := by rw [← hW3, ← z2]; exact World.ownsMap_made (H := Unit) W2 Tryz.prog 79 unitElem
  have b1 : Below w.heap.size w W1 := hW1 ▸ (Below.refl _ _).alloc (Nat.le_refl _) _
  have b2 : Below W1.heap.size W1 W2 := hW2 ▸ (Below.refl _ _).alloc (Nat.le_refl _) _
  have b3 : Below W2.heap.size W2 W3 := hW3 ▸ (Below.refl _ _).alloc (Nat.le_refl _) _
  have HM1 := Lib.hid (SS_later (SS_later m1 b2) b3)
  have HM2 := Lib.hid (SS_later m2 b3)
  have HM3 := Lib.hid m3
  have HB0 := Lib.hid ((b1.trans (b2.mono b1.size)).trans (b3.mono (b1.trans (b2.mono b1.size)).size))
  have HZ := Lib.hid z3
  have HEQ := Lib.hid (show ((w.alloc (.map #[] 0)).alloc (.map #[] 0)).alloc (.map #[] 0) = W3 by rw [hW1, hW2, hW3])
  have HQ1 := Lib.hid hq1
  have hz3 := z3
  clear hW1 hW2 hW3 z1 z2 z3 m1 m2 m3 b1 b2 b3 W1 W2 hq1
  go_enter Tryz.func11, Tryz.ntmps11
  go_wp2_with fail
  clear hmm
  rw [HEQ.out, HQ1.out]
  go_loopw [14] (fun i wr => ∃ (k m1 m2 m3 : Nat) (D1 D2 D3 : DataW Unit), k ≤ n ∧ i = .int .i64 k ∧ m1 ≤ k ∧ m2 ≤ k ∧ m3 ≤ k ∧ SS wr q1 m1 D1 ∧ SS wr (q1 + 1) m2 D2 ∧ SW wr (q1 + 1 + 1) m3 D3 ∧ HS D1 (fun y => kI (L.take k) y) ∧ HS D2 (fun y => wI (L.take k) y) ∧ HW D3 (fun t y => oI (L.take k) t y) ∧ goodH (L.take k) ∧ W3.heap.size ≤ wr.heap.size ∧ Below w.heap.size w wr) (fun i _ => n - (intOf i).toNat)
  case atStart => exact ⟨0, 0, 0, 0, _, _, _, Nat.zero_le _, rfl, Nat.le_refl _, Nat.le_refl _, Nat.le_refl _, HM1.out, HM2.out, HM3.out, (fun x _ => rfl), (fun x _ => rfl), (fun x y _ => rfl), good_nil, Nat.le_refl _, HB0.out⟩
  case round =>
    obtain ⟨k, m1, m2, m3, D1, D2, D3, hk, rfl, hm1, hm2, hm3, hS1, hS2, hS3, hD1, hD2, hD3, hg, hsw, hBw⟩ := hrel
    have HS1 := Lib.hid hS1
    have HS2 := Lib.hid hS2
    have HS3 := Lib.hid hS3
    have HD1 := Lib.hid hD1
    have HD2 := Lib.hid hD2
    have HD3 := Lib.hid hD3
    have HG := Lib.hid hg
    have HBW := Lib.hid hBw
    clear hS1 hS2 hS3 hD1 hD2 hD3 hg hBw
    by_cases hlt : k < n
    case neg =>
      have i1 : ¬ (k : Int) < (n : Int) := by omega
      obtain rfl : r = true := HYES.out (by have := HG.out; rw [List.take_of_length_le (by rw [HN.out]; omega)] at this; exact this)
      go_wp2_with fail
      go_ret
      exact ⟨by first | rfl | simp, HBW.out⟩
    obtain ⟨x, hx⟩ : ∃ x, L[k]? = some x := ⟨_, List.getElem?_eq_getElem (by rw [HN.out]; exact hlt)⟩
    have i0 : (0 : Int) ≤ (k : Int) := by omega
    have i1 : (k : Int) < (n : Int) := by omega
    have hxo := HSM.out x (List.mem_of_getElem? hx)
    have HNX := Lib.hid (fun h => HNO.out k x hx h)
    have HST := Lib.hid (fun h => good_step hx HG.out h)
    have hT := take_snocH hx
    have HTK := Lib.hid (fun y => (congrArg (fun P => kI P y) hT).trans (kI_snoc _ x y))
    have HTW := Lib.hid (fun y => (congrArg (fun P => wI P y) hT).trans (wI_snoc _ x y))
    have HTO := Lib.hid (fun t y => (congrArg (fun P => oI P t y) hT).trans (oI_snoc _ x t y))
    obtain ⟨b', off, rfl, hb, p0, p1, p2, p3⟩ := Hos.cells (HM.out.later HBW.out) hx
    clear hx hT HG
    obtain ⟨P, hP⟩ : ∃ P, L.take k = P := ⟨_, rfl⟩
    rw [hP] at HNX HST HD1 HD2 HD3 HTK HTW HTO
    clear hP
    obtain ⟨xk, ⟨xa, xi⟩, xw⟩ := x
    simp only at p0 p1 p2 p3 HTK HTW HTO hxo
    have FA := Lib.hid (fun h => fit_alone (P := P) (x := ⟨xk, ⟨xa, xi⟩, xw⟩) h)
    have FB := Lib.hid (fun h1 h2 h3 => fit_beside (P := P) (x := ⟨xk, ⟨xa, xi⟩, xw⟩) h1 h2 h3)
    have NW := Lib.hid (fun h1 h2 => not_wr (P := P) (x := ⟨xk, ⟨xa, xi⟩, xw⟩) h1 h2)
    have NR := Lib.hid (fun h1 => not_written (P := P) (x := ⟨xk, ⟨xa, xi⟩, xw⟩) h1)
    have NO := Lib.hid (fun h1 => not_owned (P := P) (x := ⟨xk, ⟨xa, xi⟩, xw⟩) h1)
    have AO := Lib.hid (fun h1 => alone_own (P := P) (x := ⟨xk, ⟨xa, xi⟩, xw⟩) h1)
    simp only at FA FB NW NR NO AO
    obtain ⟨V, hV1⟩ : ∃ V, wr.alloc (.cells #[.string xk, .int .u64 (xa : Nat), .int .u64 (xi : Nat), .bool xw] 54) = V := ⟨_, rfl⟩
    obtain ⟨BV, hV⟩ := hobox hV1
    obtain ⟨x7, hx7⟩ : ∃ x7, wr.heap.size = x7 := ⟨_, rfl⟩
    rw [hx7] at hV
    have h17 : q1 + 1 + 1 < x7 := by omega
    have HV := Lib.hid hV
    obtain ⟨_, v0, v1, v2, v3⟩ := hV
    simp only at v0 v1 v2 v3
    have HB1 := Lib.hid (HBW.out.trans (BV.mono HBW.out.size))
    have hsv := BV.size
    have hqs := Nat.le_of_eq HQ1.out
    have HS1 := Lib.hid (SS_later HS1.out BV)
    have HS2 := Lib.hid (SS_later HS2.out BV)
    have HS3 := Lib.hid (SW_later HS3.out BV)
    clear BV HBW
    have HAD := Lib.hid (addS_any q1 m1 xk D1 (fun y => kI P y) hxo.1 (by omega) V HS1.out HD1.out)
    go_wp2_with fail
    refine HAD.out.mono ?_
    rintro e w2 ⟨E1, rfl, ⟨l1, hl1, hO1⟩, hE1, hg2⟩
    simp only
    have HB2 := Lib.hid (HB1.out.trans (below_of (by omega) (by have := HB1.out.size; omega) hg2))
    have HS1 := Lib.hid hO1
    have HS2 := Lib.hid (SS_grown HS2.out hg2 (by omega))
    have HS3 := Lib.hid (SW_grown HS3.out hg2 (by omega))
    have HV2 := Lib.hid (HV.out.grown hg2 (by omega))
    have HE1 := Lib.hid (show HS E1 (fun y => kI (L.take (k + 1)) y) from fun y hy => (hE1 y hy).trans (HTK.out y).symm)
    have hs2 := hg2.size
    clear hO1 hE1 hg2 v0 v1 v2 v3 p0 p1 p2 p3 HAD HV HB1 HTK
    obtain ⟨_, v0, v1, v2, v3⟩ := HV2.out
    simp only at v0 v1 v2 v3
    obtain ⟨y1, hy1⟩ : ∃ y, kI P xk = y := ⟨_, rfl⟩
    rw [hy1] at FA NW AO ⊢
    clear hy1
    cases y1
    case false =>
      have HF := Lib.hid (HST.out (FA.out rfl))
      have HAO := Lib.hid (AO.out rfl)
      cases xw
      case false =>
        have HAD := Lib.hid (addW_any (q1 + 1 + 1) m3 ⟨xa, xi⟩ xk D3 (fun t y => oI P t y) hxo (by omega) w2 HS3.out HD3.out)
        go_wp2_with fail
        refine HAD.out.mono ?_
        rintro e w4 ⟨E3, rfl, ⟨l3, hl3, hO3⟩, hE3, hg4⟩
        simp only
        have HB4 := Lib.hid (HB2.out.trans (below_of (by omega) (by have := HB2.out.size; omega) hg4))
        have HS1 := Lib.hid (SS_grown HS1.out hg4 (by omega))
        have HS2 := Lib.hid (SS_grown HS2.out hg4 (by omega))
        have HS3 := Lib.hid hO3
        have HV4 := Lib.hid (HV2.out.grown hg4 (by omega))
        have HE3 := Lib.hid (show HW E3 (fun t y => oI (L.take (k + 1)) t y) from fun t y hy => (hE3 t y hy).trans (HTO.out t y).symm)
        have hs4 := hg4.size
        clear hO3 hE3 hg4 v0 v1 v2 v3 HAD HV2 HB2 HTO
        obtain ⟨_, v0, v1, v2, v3⟩ := HV4.out
        simp only at v0 v1 v2 v3
        rw [HAO.out]
        have HE2 := Lib.hid (show HS D2 (fun y => wI (L.take (k + 1)) y) from fun y hy => by rw [HD2.out y hy]; exact ((HTW.out y).trans (by simp)).symm)
        go_wp2_with fail
        go_roundw
        case rel => exact ⟨k + 1, l1, m2, l3, E1, D2, E3, by omega, by go_num, by omega, by omega, by omega, HS1.out, HS2.out, HS3.out, HE1.out, HE2.out, HE3.out, HF.out, by omega, HB4.out⟩
        case measure => simp [intOf]; omega
      case true =>
        have HAD := Lib.hid (addW_any (q1 + 1 + 1) m3 ⟨xa, xi⟩ xk D3 (fun t y => oI P t y) hxo (by omega) w2 HS3.out HD3.out)
        go_wp2_with fail
        refine HAD.out.mono ?_
        rintro e w4 ⟨E3, rfl, ⟨l3, hl3, hO3⟩, hE3, hg4⟩
        simp only
        have HB4 := Lib.hid (HB2.out.trans (below_of (by omega) (by have := HB2.out.size; omega) hg4))
        have HS1 := Lib.hid (SS_grown HS1.out hg4 (by omega))
        have HS2 := Lib.hid (SS_grown HS2.out hg4 (by omega))
        have HS3 := Lib.hid hO3
        have HV4 := Lib.hid (HV2.out.grown hg4 (by omega))
        have HE3 := Lib.hid (show HW E3 (fun t y => oI (L.take (k + 1)) t y) from fun t y hy => (hE3 t y hy).trans (HTO.out t y).symm)
        have hs4 := hg4.size
        clear hO3 hE3 hg4 v0 v1 v2 v3 HAD HV2 HB2 HTO
        obtain ⟨_, v0, v1, v2, v3⟩ := HV4.out
        simp only at v0 v1 v2 v3
        rw [HAO.out]
        have HAD := Lib.hid (addS_any (q1 + 1) m2 xk D2 (fun y => wI P y) hxo.1 (by omega) w4 HS2.out HD2.out)
        go_wp2_with fail
        refine HAD.out.mono ?_
        rintro e w5 ⟨E2, rfl, ⟨l2, hl2, hO2⟩, hE2, hg5⟩
        simp only
        have HB5 := Lib.hid (HB4.out.trans (below_of (by omega) (by have := HB4.out.size; omega) hg5))
        have HS1 := Lib.hid (SS_grown HS1.out hg5 (by omega))
        have HS2 := Lib.hid hO2
        have HS3 := Lib.hid (SW_grown HS3.out hg5 (by omega))
        have HE2 := Lib.hid (show HS E2 (fun y => wI (L.take (k + 1)) y) from fun y hy => by rw [hE2 y hy]; exact ((HTW.out y).trans (by simp)).symm)
        have hs5 := hg5.size
        clear hO2 hE2 hg5 v0 v1 v2 v3 HAD HB4 HTW
        go_wp2_with fail
        go_roundw
        case rel => exact ⟨k + 1, l1, l2, l3, E1, E2, E3, by omega, by go_num, by omega, by omega, by omega, HS1.out, HS2.out, HS3.out, HE1.out, HE2.out, HE3.out, HF.out, by omega, HB5.out⟩
        case measure => simp [intOf]; omega
    cases xw
    case true =>
      have hrn := HNX.out (NW.out rfl rfl)
      subst hrn
      go_wp2_with fail
      go_ret
      exact ⟨by first | rfl | simp, HB2.out⟩
    have HCH := Lib.hid (show Calls Tryz.prog 43 #[.map (some (q1 + 1)), .string xk] w2 (fun e w' => e = .returned (.bool (wI P xk)) ∧ Below w2.heap.size w2 w') from hasS_any (q1 + 1) m2 xk D2 (fun y => wI P y) hxo.1 w2 HS2.out HD2.out)
    obtain ⟨y2, hy2⟩ : ∃ y, wI P xk = y := ⟨_, rfl⟩
    rw [hy2] at FB NR HCH
    clear hy2
    go_wp2_with fail
    refine HCH.out.mono ?_
    rintro e w3 ⟨rfl, hb3⟩
    have HB2 := Lib.hid (HB2.out.trans (hb3.mono HB2.out.size))
    have HS1 := Lib.hid (SS_later HS1.out hb3)
    have HS2 := Lib.hid (SS_later HS2.out hb3)
    have HS3 := Lib.hid (SW_later HS3.out hb3)
    have HV2 := Lib.hid (HV2.out.later hb3)
    have hs3 := hb3.size
    clear hb3 v0 v1 v2 v3 HCH
    cases y2
    case true =>
      have hrn := HNX.out (NR.out rfl)
      subst hrn
      go_wp2_with fail
      go_ret
      exact ⟨by first | rfl | simp, HB2.out⟩
    obtain ⟨_, v0, v1, v2, v3⟩ := HV2.out
    simp only at v0 v1 v2 v3
    have HAD := Lib.hid (addW_any (q1 + 1 + 1) m3 ⟨xa, xi⟩ xk D3 (fun t y => oI P t y) hxo (by omega) w3 HS3.out HD3.out)
    go_wp2_with fail
    refine HAD.out.mono ?_
    rintro e w4 ⟨E3, rfl, ⟨l3, hl3, hO3⟩, hE3, hg4⟩
    simp only
    have HB4 := Lib.hid (HB2.out.trans (below_of (by omega) (by have := HB2.out.size; omega) hg4))
    have HS1 := Lib.hid (SS_grown HS1.out hg4 (by omega))
    have HS2 := Lib.hid (SS_grown HS2.out hg4 (by omega))
    have HS3 := Lib.hid hO3
    have HV4 := Lib.hid (HV2.out.grown hg4 (by omega))
    have HE3 := Lib.hid (show HW E3 (fun t y => oI (L.take (k + 1)) t y) from fun t y hy => (hE3 t y hy).trans (HTO.out t y).symm)
    have hs4 := hg4.size
    clear hO3 hE3 hg4 v0 v1 v2 v3 HAD HV2 HB2 HTO
    obtain ⟨_, v0, v1, v2, v3⟩ := HV4.out
    simp only at v0 v1 v2 v3
    obtain ⟨y3, hy3⟩ : ∃ y, oI P ⟨xa, xi⟩ xk = y := ⟨_, rfl⟩
    rw [hy3] at FB NO ⊢
    clear hy3
    cases y3
    case true =>
      have hrn := HNX.out (NO.out rfl)
      subst hrn
      go_wp2_with fail
      go_ret
      exact ⟨by first | rfl | simp, HB4.out⟩
    have HF := Lib.hid (HST.out (FB.out (by first | rfl | trivial) (by first | rfl | trivial) (by first | rfl | trivial)))
    have HE2 := Lib.hid (show HS D2 (fun y => wI (L.take (k + 1)) y) from fun y hy => by rw [HD2.out y hy]; exact ((HTW.out y).trans (by simp)).symm)
    go_wp2_with fail
    go_roundw
    case rel => exact ⟨k + 1, l1, m2, l3, E1, D2, E3, by omega, by go_num, by omega, by omega, by omega, HS1.out, HS2.out, HS3.out, HE1.out, HE2.out, HE3.out, HF.out, by omega, HB4.out⟩
    case measure => simp [intOf]; omega
end Go.Proofs.YthgnecggdlamfaaGreat
