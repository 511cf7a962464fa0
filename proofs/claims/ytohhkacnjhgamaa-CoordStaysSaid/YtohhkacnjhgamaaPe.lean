/- Where the transactions' deals lie, as a map: the program's places. -/
import Derived.Test.YtohhkacnjhgamaaPk
import Derived.Test.YtohhkacnjhgamaaOb
namespace Go.Proofs.Ytohhkacnjhgamaa
open Go.RowKit Go.Maps

theorem pix_snoc (t : Tx) (x : Dl) : ∀ (L : List Dl) (i : Nat), pixC t i (L ++ [x]) = match pixC t i L with | some k => some k | none => if x.t = t then some (i + L.length) else none
  | [], i => by simp [pixC]
  | y :: r, i => by
    rw [List.cons_append, pixC, pixC]
    by_cases h : y.t = t
    · rw [if_pos h, if_pos h]
    · rw [if_neg h, if_neg h, pix_snoc t x r (i + 1), List.length_cons, show i + 1 + r.length = i + (r.length + 1) by omega]
theorem pix_lt {t : Tx} : ∀ {L : List Dl} {i k : Nat}, pixC t i L = some k → i ≤ k ∧ k < i + L.length
  | [], _, _, h => by simp [pixC] at h
  | y :: r, i, k, h => by
    rw [pixC] at h
    split at h
    · obtain rfl := Option.some.inj h; simp
    · have := pix_lt h; rw [List.length_cons]; omega
theorem pix_none {t : Tx} {L : List Dl} (h : pixC t 0 L = none) : fndC t L = none := by
  rcases pix_fnd t L 0 with ⟨_, h2⟩ | ⟨j, x, h1, _, _⟩
  · exact h2
  · rw [h] at h1; cases h1
theorem pix_some {t : Tx} {L : List Dl} {k : Nat} (h : pixC t 0 L = some k) : ∃ x, L[k]? = some x ∧ fndC t L = some x := by
  rcases pix_fnd t L 0 with ⟨h1, _⟩ | ⟨j, x, h1, h2, h3⟩
  · rw [h] at h1; cases h1
  · rw [h, Nat.zero_add] at h1
    obtain rfl := Option.some.inj h1
    exact ⟨x, h2, h3⟩
/-- How many transactions there are. -/
def CtC (L : List Dl) (m : Nat) : Prop := m ≤ L.length ∧ (m = L.length ↔ dstC [] L = true)
theorem ct_nil : CtC [] 0 := ⟨Nat.le_refl _, by simp [dstC]⟩
theorem dst_snoc (L : List Dl) (x : Dl) : dstC [] (L ++ [x]) = true ↔ dstC [] L = true ∧ fndC x.t L = none := by
  rw [dst_nodup _ [] List.nodup_nil, dst_nodup _ [] List.nodup_nil, List.nil_append, List.nil_append, List.map_append, List.nodup_append]
  constructor
  · rintro ⟨h1, _, h3⟩
    refine ⟨h1, ?_⟩
    cases hf : fndC x.t L with
    | none => rfl
    | some d => exact absurd (fnd_t hf) (h3 d.t (List.mem_map.2 ⟨d, fnd_mem hf, rfl⟩) x.t (by simp))
  · rintro ⟨h1, h2⟩
    refine ⟨h1, by simp, fun a ha b hb e => ?_⟩
    obtain rfl : b = x.t := by simpa using hb
    subst e; exact fnd_none h2 ha
theorem ct_new {L : List Dl} {m : Nat} (h : CtC L m) {x : Dl} (hx : fndC x.t L = none) : CtC (L ++ [x]) (m + 1) := by
  refine ⟨by simp; exact h.1, ?_⟩
  rw [dst_snoc, List.length_append, List.length_singleton, ← h.2]
  simp [hx]
theorem ct_old {L : List Dl} {m : Nat} (h : CtC L m) {x d : Dl} (hx : fndC x.t L = some d) : CtC (L ++ [x]) m := by
  have := h.1
  refine ⟨by simp; omega, ?_⟩
  rw [dst_snoc, List.length_append, List.length_singleton, hx]
  simp; omega
/-- A map from transactions to numbers; what it holds. -/
abbrev TI (w : World) (b n : Nat) (D : DataW Unit) : Prop := w.ownsMap Try.prog 27 (plainElem (H := Unit) Try.prog 3) b n D
theorem TI_under {w w' : World} {b n B : Nat} {D : DataW Unit} (h : TI w b n D) (hb : Below B w w') (hlt : b < B) : TI w' b n D := by
  obtain ⟨es, clock, h1, r⟩ := h
  exact ⟨es, clock, by rw [hb.block b hlt]; exact h1, r⟩
theorem TI_later {w w' : World} {b n : Nat} {D : DataW Unit} (h : TI w b n D) (hb : Below w.heap.size w w') : TI w' b n D := TI_under h hb h.lt
def HPl (D : DataW Unit) (L : List Dl) : Prop := ∀ (t : Tx), okX t → Maps.has D (ktx t) = (pixC t 0 L).isSome ∧ ∀ k, pixC t 0 L = some k → D.atKey (ktx t) (.lit (.int .i64 0)) = .lit (.int .i64 (k : Nat))
theorem hp_nil : HPl (.map []) [] := fun t _ => ⟨by simp [Maps.has, pixC], fun k h => by simp [pixC] at h⟩
theorem hp_old {D : DataW Unit} {L : List Dl} (h : HPl D L) {x : Dl} {j : Nat} (hx : pixC x.t 0 L = some j) : HPl D (L ++ [x]) := fun t ho => by
  obtain ⟨h1, h2⟩ := h t ho
  rw [pix_snoc]
  cases hp : pixC t 0 L with
  | some k => rw [hp] at h1 h2; exact ⟨h1, h2⟩
  | none =>
    have : ¬ x.t = t := by rintro rfl; rw [hp] at hx; cases hx
    rw [hp] at h1 h2
    simp only [this, ↓reduceIte]
    exact ⟨h1, fun k e => by cases e⟩
theorem hp_new {D : DataW Unit} {L : List Dl} (h : HPl D L) (hI : IsMap D) {x : Dl} (hx : pixC x.t 0 L = none) (ho : okX x.t) : HPl (D.put (ktx x.t) (.lit (.int .i64 (L.length : Nat)))) (L ++ [x]) := fun t h2 => by
  rw [pix_snoc]
  by_cases he : x.t = t
  · subst he
    rw [has_put_same hI (ktx_lit _ ho), atKey_put_same hI (ktx_lit _ ho), hx]
    simp
  · rw [has_put_other (ktx_ne h2 ho (fun e => he e.symm)), atKey_put_other (ktx_ne h2 ho (fun e => he e.symm))]
    obtain ⟨h3, h4⟩ := h t h2
    cases hp : pixC t 0 L with
    | some k => rw [hp] at h3 h4; exact ⟨h3, h4⟩
    | none =>
      rw [hp] at h3 h4
      simp only [he, ↓reduceIte]
      exact ⟨h3, fun k e => by cases e⟩
theorem zeroIntL (w : World) : (zeroValue 3).run Try.prog w = .ok (.int .i64 0) w := by kernel_rfl
/-- What a look-up tells. -/
theorem look_run {w : World} {b n : Nat} {D : DataW Unit} {L : List Dl} (h : TI w b n D) (hD : HPl D L) {t : Tx} (ho : okX t) :
    ∃ v : Int, (Instr.lookup 51 (.map (some b)) (.agg #[.int .u64 (t.age : Nat), .int .u64 (t.id : Nat)]) true).run Try.prog w = .ok (.tuple #[.int .i64 v, .bool (pixC t 0 L).isSome]) w ∧ ∀ k, pixC t 0 L = some k → v = (k : Nat) := by
  obtain ⟨v, ps, hr, hv⟩ := h.look_ok keyedTx Try.underlying51 (zeroIntL w) (plainElem_int Try.underlying3 (by decide)) (keyTx t ho)
  obtain ⟨c, rfl, hc, _⟩ := plainElem_int_inv Try.underlying3 hv
  obtain ⟨h1, h2⟩ := hD t ho
  refine ⟨c, by rw [← h1]; exact hr, fun k hk => ?_⟩
  have h3 := h2 k hk
  injection hc with hc _
  rw [h3] at hc
  injection hc with hc
  injection hc with _ hc
  exact hc.symm
theorem run_makeHint (k : IntKind) (n : Int) (w : World) : (Instr.makeMap 51 (some (.int k n))).run Try.prog w = .ok (.map (some w.heap.size)) (w.alloc (.map #[] 0)) := by
  simp [Instr.makeMap, run_underlying Try.underlying51, asInt, asIntOf, Result.andThen]
/-- What places answers. -/
def PlP (w : World) (L : List Dl) (e : Ending) (w' : World) : Prop := ∃ b n D, e = .returned (.map (some b)) ∧ TI w' b n D ∧ HPl D L ∧ CtC L (Maps.size D) ∧ w.heap.size ≤ b ∧ Below w.heap.size w w'
theorem take_snocD {α : Type} {L : List α} {k : Nat} {x : α} (h : L[k]? = some x) : L.take (k + 1) = L.take k ++ [x] := by rw [List.take_add_one, h]; rfl
set_option maxRecDepth 100000 in
set_option maxHeartbeats 8000000 in
theorem places_any (L : List Dl) (A : Cad) (w : World) (hM : CoM w L A) (hl : L.length ≤ 140737488351232) (ho : ∀ x ∈ L, okX x.t) :
    Calls Try.prog 17 #[coV L A] w (PlP w L) := by
  have hmm := run_makeHint
  obtain ⟨n, hn⟩ : ∃ n, L.length = n := ⟨_, rfl⟩
  show Calls Try.prog 17 #[.agg #[.slice A.a L.length A.c]] w _
  obtain ⟨W0, hW0⟩ : ∃ W, w.alloc (.cells #[.slice A.a L.length A.c] 24) = W := ⟨_, rfl⟩
  obtain ⟨x1, hx1⟩ : ∃ x, w.heap.size = x := ⟨_, rfl⟩
  have hs0 : W0.heap.size = x1 + 1 := by rw [← hW0, ← hx1]; simp
  obtain ⟨W, hW⟩ : ∃ W, W0.alloc (.map #[] 0) = W := ⟨_, rfl⟩
  have hB0 : Below w.heap.size w W0 := hW0 ▸ (Below.refl _ _).alloc (Nat.le_refl _) _
  have hB1 : Below W0.heap.size W0 W := hW ▸ (Below.refl _ _).alloc (Nat.le_refl _) _
  have hB : Below w.heap.size w W := hB0.trans (hB1.mono hB0.size)
  have hM0 : TI W (x1 + 1) 0 (.map []) := by
    rw [← hs0, ← hW]; exact World.ownsMap_made (H := Unit) W0 Try.prog 27 (plainElem Try.prog 3)
  have hc : W.cell? ⟨x1, 0, none⟩ = some (.slice A.a n A.c) := by
    have h0 : W0.cell? ⟨x1, 0, none⟩ = some (.slice A.a n A.c) := by rw [← hW0, ← hx1, ← hn]; simp [go_sem]
    exact (hB1.cell (p := ⟨x1, 0, none⟩) (by simp; omega)).trans h0
  have hc00 : W0.cell? ⟨x1, 0, none⟩ = some (.slice A.a n A.c) := by rw [← hW0, ← hx1, ← hn]; simp [go_sem]
  have HM := Lib.hid hM
  have HN := Lib.hid hn
  have HOK := Lib.hid ho
  have HM0 := Lib.hid hM0
  have HB := Lib.hid hB
  have HW0 := Lib.hid hW0
  have HW := Lib.hid hW
  have HX1 := Lib.hid hx1
  have HS0 := Lib.hid hs0
  rw [hn] at HW0 hl ⊢
  clear hM hn ho hM0 hB hB0 hB1 hW0 hW hx1 hs0
  go_enter Try.func17, Try.ntmps17
  go_wp2_with fail
  rw [HW0.out, HX1.out]
  go_wp2_with fail
  rw [HW.out]
  clear hc00
  go_wp2_with fail
  clear hc
  go_loopw [15] (fun iv wr => ∃ (k m : Nat) (D : DataW Unit), k ≤ n ∧ iv = .int .i64 k ∧ m ≤ k ∧ TI wr (x1 + 1) m D ∧ HPl D (L.take k) ∧ CtC (L.take k) (Maps.size D) ∧ Below w.heap.size w wr ∧ Below (x1 + 1) W wr) (fun iv _ => n - (intOf iv).toNat)
  case atStart => exact ⟨0, 0, _, Nat.zero_le _, rfl, Nat.le_refl _, HM0.out, hp_nil, ct_nil, HB.out, Below.refl _ _⟩
  case round =>
    obtain ⟨k, m, D, hk, rfl, hmk, hown, hD, hct, hB, hBW⟩ := hrel
    have HO := Lib.hid hown
    have HD := Lib.hid hD
    have HCT := Lib.hid hct
    have HBR := Lib.hid hB
    have HBW := Lib.hid hBW
    clear hown hD hct hB hBW
    by_cases hlt : k < n
    case neg =>
      obtain rfl : k = n := by omega
      have i1 : ¬ (k : Int) < (k : Int) := by omega
      have HT := Lib.hid (show HPl D L ∧ CtC L (Maps.size D) by
        have h1 := HD.out
        have h2 := HCT.out
        rw [List.take_of_length_le (by rw [HN.out]; exact Nat.le_refl _)] at h1 h2
        exact ⟨h1, h2⟩)
      go_wp2_with fail
      go_ret
      exact ⟨x1 + 1, m, D, rfl, HO.out, HT.out.1, HT.out.2, by have := HX1.out; omega, HBR.out⟩
    obtain ⟨x, hx⟩ : ∃ x, L[k]? = some x := ⟨_, List.getElem?_eq_getElem (by rw [HN.out]; exact hlt)⟩
    obtain ⟨y, hy⟩ : ∃ y, A.om[k]? = some y := ⟨_, List.getElem?_eq_getElem (by rw [HM.out.olen, HN.out]; exact hlt)⟩
    have hyx : y.x = x := by
      have h1 : (A.om.map fun y => y.x)[k]? = some y.x := by rw [List.getElem?_map, hy]; rfl
      rw [HM.out.om, hx] at h1
      exact (Option.some.inj h1).symm
    have hox := HOK.out x (List.mem_of_getElem? hx)
    have HTK := Lib.hid (take_snocD hx)
    have hlen : (L.take k).length = k := by rw [List.length_take, HN.out]; omega
    obtain ⟨b, off, ha, hb, p0, p1, p2, p3⟩ := Dlm.cells (HM.out.row.later HBR.out) hy
    subst hyx
    obtain ⟨⟨⟨ta, ti⟩, yp, ys⟩, ya, yc⟩ := y
    simp only at p0 p1 p2 p3 hox HTK hx
    have i0 : (0 : Int) ≤ (k : Int) := by omega
    have i1 : (k : Int) < (n : Int) := by omega
    rw [ha] at *
    obtain ⟨W1, hW1⟩ : ∃ V, wr.alloc (.cells #[.int .u64 (ta : Nat), .int .u64 (ti : Nat), .slice ya yp.length yc, .int .i64 ys] 31) = V := ⟨_, rfl⟩
    obtain ⟨x5, hx5⟩ : ∃ z, wr.heap.size = z := ⟨_, rfl⟩
    have B1 : Below wr.heap.size wr W1 := hW1 ▸ (Below.refl _ _).alloc (Nat.le_refl _) _
    have hV : W1.cell? ⟨x5, 0, none⟩ = some (.int .u64 (ta : Nat)) ∧ W1.cell? ⟨x5, 1, none⟩ = some (.int .u64 (ti : Nat)) := by
      rw [← hW1, ← hx5]; exact ⟨by simp [go_sem], by simp [go_sem]⟩
    have hO1 := TI_later HO.out B1
    have HO1 := Lib.hid hO1
    have HB1 := Lib.hid B1
    obtain ⟨v, hlk, hv⟩ := look_run hO1 HD.out hox
    have HV := Lib.hid hv
    have HHX := Lib.hid hx
    have HHO := Lib.hid hox
    obtain ⟨v0, v1⟩ := hV
    have HXL := Lib.hid (show x1 + 1 < wr.heap.size from HO.out.lt)
    clear hx hy hb B1 hO1 hv hox
    subst hx5
    subst hW1
    rcases hp : pixC ⟨ta, ti⟩ 0 (L.take k) with _ | j
    · rw [hp] at hlk
      simp only [Option.isSome_none] at hlk
      have hkey := keyTx ⟨ta, ti⟩ HHO.out
      have hwf : (Lit.int .i64 (k : Nat)).wf = true := by
        simp [Lit.wf, IntKind.min, IntKind.max, IntKind.signed, IntKind.bits]; omega
      have HEL := Lib.hid (plainElem_int (H := Unit) (P := Try.prog) Try.underlying3 hwf)
      have HND := Lib.hid (show HPl (D.put (ktx ⟨ta, ti⟩) (.lit (.int .i64 (k : Nat)))) (L.take (k + 1)) ∧ CtC (L.take (k + 1)) (Maps.size (D.put (ktx ⟨ta, ti⟩) (.lit (.int .i64 (k : Nat))))) from by
        rw [HTK.out]
        refine ⟨?_, ?_⟩
        · have := hp_new (x := ⟨⟨ta, ti⟩, yp, ys⟩) HD.out HO.out.isMap hp HHO.out
          rw [hlen] at this; exact this
        · rw [size_put (HO.out.tidy keyedTx), (HD.out ⟨ta, ti⟩ HHO.out).1, hp]
          exact ct_new (x := ⟨⟨ta, ti⟩, yp, ys⟩) HCT.out (pix_none hp))
      have HMX := Lib.hid (show m < maxLen by unfold maxLen; omega)
      clear hp hlen hwf
      go_wp2_with (first | (at_mapUpdate; refine wpList_mapUpdate_own _ rfl _ _ _ 51 rfl 27 3 keyedTx Try.underlying51 (plainElem (H := Unit) Try.prog 3) (x1 + 1) m _ rfl HO1.out HMX.out _ _ _ rfl rfl hkey _ [] HEL.out ?_; intro w3 hown3 hgrow3) | go_in)
      have HO3 := Lib.hid hown3
      have HG3 := Lib.hid hgrow3
      clear hown3 hgrow3 hkey hlk v0 v1
      go_wp2_with fail
      go_roundw
      case rel => exact ⟨k + 1, m + 1, _, by omega, by go_num, by omega, HO3.out, HND.out.1, HND.out.2, (HBR.out.trans (HB1.out.mono HBR.out.size)).grown HG3.out (Nat.le_trans HBR.out.size HB1.out.size) (fun k e => by cases e; have := HX1.out; omega), (HBW.out.trans (HB1.out.mono (by have := HXL.out; omega))).grown HG3.out (by have := HXL.out; have := HB1.out.size; omega) (fun k e => by cases e; omega)⟩
      case measure => simp [intOf]; omega
    · rw [hp] at hlk
      simp only [Option.isSome_some] at hlk
      have HND := Lib.hid (show HPl D (L.take (k + 1)) ∧ CtC (L.take (k + 1)) (Maps.size D) from by
        rw [HTK.out]
        obtain ⟨d, _, hd⟩ := pix_some hp
        exact ⟨hp_old (x := ⟨⟨ta, ti⟩, yp, ys⟩) HD.out hp, ct_old (x := ⟨⟨ta, ti⟩, yp, ys⟩) HCT.out hd⟩)
      clear hp hlen
      go_wp2_with fail
      go_roundw
      case rel => exact ⟨k + 1, m, D, by omega, by go_num, by omega, HO1.out, HND.out.1, HND.out.2, HBR.out.trans (HB1.out.mono HBR.out.size), HBW.out.trans (HB1.out.mono (by have := HXL.out; omega))⟩
      case measure => simp [intOf]; omega
end Go.Proofs.Ytohhkacnjhgamaa
