/- Changes: the document's Next. -/
import Derived.Test.YtmnakfonfpdneaaHp
import Derived.Deep.RegionLaw
import Derived.Deep.RegionWith
namespace Go.Proofs.Ytmnakfonfpdneaa
open Go.RowKit

theorem step_app {w : World} {ops : Array Oper} {o : Oper} {a : Act} {K : Act → World → Prop} {Q : Exit → Act → World → Prop} {E : Prop} (hgd : o.guard = none) (s x : Operand) (t : TypeId)
    (ho : o.op = .call { callee := .builtin .append, args := #[s, x], argTypes := #[t, t] }) (vs vx : Value) (hs : a.eval s = vs) (hx : a.eval x = vx) (Post : Value → World → Prop)
    (hr : ∃ v' w', (Builtin.append_ #[t, t] o.type #[vs, vx]).run Try.prog w = .ok v' w' ∧ Post v' w') (h : ∀ v' w', Post v' w' → K (a.put o.dst v') w') :
    if Region.wanted o (yielded ops a.tmps) = true then Oper.wp Try.prog o a w K Q else E := by
  have hw : Region.wanted o (yielded ops a.tmps) = true := by simp [Region.wanted, hgd]
  rw [if_pos hw]
  obtain ⟨v', w', hr, hp⟩ := hr
  unfold Oper.wp execOp
  simp only [ho, resolve, invoke, builtin, Sem.run_bind, Sem.run_pure, Result.andThen_ok, List.map_toArray, List.map_cons, List.map_nil, hs, hx, hr]
  exact h v' w' hp
theorem keepQ {w w1 w2 : World} {u v p : Value} (h : w1.cell? ⟨w.heap.size, 0, none⟩ = some u ∧ w1.cell? ⟨w.heap.size, 1, none⟩ = some v ∧ w1.cell? ⟨w.heap.size + 1, 1, none⟩ = some p ∧ w.heap.size + 1 + 1 < w1.heap.size ∧ Below w.heap.size w w1) (hb : Below w1.heap.size w1 w2) :
    w2.cell? ⟨w.heap.size, 0, none⟩ = some u ∧ w2.cell? ⟨w.heap.size, 1, none⟩ = some v ∧ w2.cell? ⟨w.heap.size + 1, 1, none⟩ = some p ∧ w.heap.size + 1 + 1 < w2.heap.size ∧ Below w.heap.size w w2 := by
  obtain ⟨h0, h1, h2, h3, h4⟩ := h
  exact ⟨(hb.cell (p := ⟨w.heap.size, 0, none⟩) (by simp; omega)).trans h0, (hb.cell (p := ⟨w.heap.size, 1, none⟩) (by simp; omega)).trans h1, (hb.cell (p := ⟨w.heap.size + 1, 1, none⟩) (by simp; omega)).trans h2, Nat.lt_of_lt_of_le h3 hb.size, h4.trans (hb.mono h4.size)⟩
theorem below_ad (w : World) (o : Obj) : Below w.drew.heap.size w.drew (w.alloc o).drew := by
  have h : Below w.drew.heap.size w.drew (w.drew.alloc o) := (Below.refl _ _).alloc (Nat.le_refl _) o
  exact h
theorem three_below {w w' : World} (h : Below w.heap.size w w') (u v : Value) : Below w.heap.size w ((w'.setCell ⟨w.heap.size + 1 + 1, 0, none⟩ u).setCell ⟨w.heap.size + 1 + 1, 1, none⟩ v) := (h.setCell (by show w.heap.size ≤ w.heap.size + 1 + 1; omega) u).setCell (by show w.heap.size ≤ w.heap.size + 1 + 1; omega) v
theorem keepU {w w1 : World} {u v k : Value} (h : w1.cell? ⟨w.heap.size, 0, none⟩ = some u ∧ w1.cell? ⟨w.heap.size, 1, none⟩ = some v ∧ w1.cell? ⟨w.heap.size + 1, 1, none⟩ = some k ∧ w.heap.size + 1 + 1 < w1.heap.size ∧ Below w.heap.size w w1) (p q : Value) :
    ((w1.setCell ⟨w.heap.size + 1 + 1, 0, none⟩ p).setCell ⟨w.heap.size + 1 + 1, 1, none⟩ q).cell? ⟨w.heap.size, 0, none⟩ = some u ∧ ((w1.setCell ⟨w.heap.size + 1 + 1, 0, none⟩ p).setCell ⟨w.heap.size + 1 + 1, 1, none⟩ q).cell? ⟨w.heap.size, 1, none⟩ = some v ∧ ((w1.setCell ⟨w.heap.size + 1 + 1, 0, none⟩ p).setCell ⟨w.heap.size + 1 + 1, 1, none⟩ q).cell? ⟨w.heap.size + 1, 1, none⟩ = some k ∧ w.heap.size + 1 + 1 < ((w1.setCell ⟨w.heap.size + 1 + 1, 0, none⟩ p).setCell ⟨w.heap.size + 1 + 1, 1, none⟩ q).heap.size ∧ Below w.heap.size w ((w1.setCell ⟨w.heap.size + 1 + 1, 0, none⟩ p).setCell ⟨w.heap.size + 1 + 1, 1, none⟩ q) := by
  obtain ⟨h0, h1, h2, h3, h4⟩ := h
  have hne : w.heap.size + 1 + 1 ≠ w.heap.size := by omega
  have hne2 : w.heap.size + 1 + 1 ≠ w.heap.size + 1 := by omega
  exact ⟨(World.cell?_setCell_far _ _ _ _ hne).trans ((World.cell?_setCell_far _ _ _ _ hne).trans h0), (World.cell?_setCell_far _ _ _ _ hne).trans ((World.cell?_setCell_far _ _ _ _ hne).trans h1), (World.cell?_setCell_far _ _ _ _ hne2).trans ((World.cell?_setCell_far _ _ _ _ hne2).trans h2), by simpa using h3, three_below h4 p q⟩
theorem us_three {w w1 : World} {a : Option Addr} {L : List Nat} (h : Us w1 a L) (hne : 0 < L.length → ∀ q, a = some q → q.block ≠ w.heap.size + 1 + 1) (p q : Value) : Us ((w1.setCell ⟨w.heap.size + 1 + 1, 0, none⟩ p).setCell ⟨w.heap.size + 1 + 1, 1, none⟩ q) a L := (h.set' hne 0 p).set' hne 1 q
set_option maxRecDepth 100000 in
set_option maxHeartbeats 8000000 in
theorem rNext_any (id n c n2 c2 : Nat) (kd : Int) (a a2 : Option Addr) (V L : List Nat) (hn : V.length = n) (hl : n ≤ 140737488351232) (hn2 : L.length = n2) (hl2 : n2 ≤ 140737488351232) (w : World) (hV : Us w a V) (hU : Us w a2 L) :
    Calls Try.prog 18 #[.agg #[.slice a n c, .slice a2 n2 c2], .agg #[.int .i64 kd, .int .u64 id]] w (NxF w (nxtF V L kd id)) := by
  have B0 : Below w.heap.size w (((w.alloc (.cells #[.slice a n c, .slice a2 n2 c2] 24)).alloc (.cells #[.int .i64 kd, .int .u64 id] 34)).alloc (.cells #[.slice none 0 0, .slice none 0 0] 24)) := by go_grown
  have C0 := ((Cb.new (w := w) rfl (.slice a n c) (.slice a2 n2 c2) 24).past (.cells #[.int .i64 kd, .int .u64 id] 34)).past (.cells #[.slice none 0 0, .slice none 0 0] 24)
  have X0 := (Cb.new (w := w.alloc (.cells #[.slice a n c, .slice a2 n2 c2] 24)) rfl (.int .i64 kd) (.int .u64 id) 34).past (.cells #[.slice none 0 0, .slice none 0 0] 24)
  have D0 := Cb.new (w := (w.alloc (.cells #[.slice a n c, .slice a2 n2 c2] 24)).alloc (.cells #[.int .i64 kd, .int .u64 id] 34)) rfl (.slice none 0 0) (.slice none 0 0) 24
  have es : (w.alloc (.cells #[.slice a n c, .slice a2 n2 c2] 24)).heap.size = w.heap.size + 1 := by simp
  have es2 : ((w.alloc (.cells #[.slice a n c, .slice a2 n2 c2] 24)).alloc (.cells #[.int .i64 kd, .int .u64 id] 34)).heap.size = w.heap.size + 1 + 1 := by simp
  rw [es] at X0
  rw [es2] at D0
  have HV := Lib.hid (hV.later B0)
  have HU := Lib.hid (hU.later B0)
  have HN := Lib.hid hn
  have HN2 := Lib.hid hn2
  have HB := Lib.hid B0
  have HC := Lib.hid C0
  have HX := Lib.hid X0
  have HD := Lib.hid D0
  obtain ⟨r, hr⟩ : ∃ r, nxtF V L kd id = r := ⟨_, rfl⟩
  rw [hr]
  obtain ⟨mb, hmb⟩ : ∃ m, mayB V L = m := ⟨_, rfl⟩
  obtain ⟨x, hx⟩ : ∃ x, hasN id V = x := ⟨_, rfl⟩
  obtain ⟨y, hy⟩ : ∃ y, hasN id L = y := ⟨_, rfl⟩
  have HR := Lib.hid (show (if mb && decide (1 ≤ id ∧ id ≤ 63) then (if kd = 1 then lrnF id V L else if kd = 2 then votF id V L else if kd = 3 then levF id V L else (([], []), 1)) else (([], []), 1)) = r by rw [← hr, ← hmb]; rfl)
  have HMB := Lib.hid hmb
  have HXX := Lib.hid hx
  have HYY := Lib.hid hy
  have HLF := Lib.hid (show (lrnF id V L = if x || y then (([], []), 8) else if 3 ≤ n2 then (([], []), 5) else ((V, putN id L), 0)) ∧ (votF id V L = if !y then (([], []), 7) else if 7 ≤ n then (([], []), 5) else ((putN id V, lessN id L), 0)) ∧ (levF id V L = if !x && !y then (([], []), 7) else if x && decide (n = 1) then (([], []), 5) else ((lessN id V, lessN id L), 0)) by
    rw [← hx, ← hy, ← hn, ← hn2]; exact ⟨rfl, rfl, rfl⟩)
  clear hV hU hn hn2 hr es es2 B0 X0 D0 hmb hx hy
  go_enter Try.func18, Try.ntmps18
  go_wp2_with fail
  generalize hW : ((w.alloc (.cells #[.slice a n c, .slice a2 n2 c2] 24)).alloc (.cells #[.int .i64 kd, .int .u64 id] 34)).alloc (.cells #[.slice none 0 0, .slice none 0 0] 24) = W at *
  clear hW
  obtain ⟨c0, c1, _, _⟩ := C0
  go_wp2_with fail
  clear c0 c1
  refine (rMay_any n c n2 c2 a a2 V L HN.out hl HN2.out hl2 _ HV.out HU.out).mono ?_
  rintro e w1 ⟨rfl, hb1⟩
  rw [HMB.out]
  have HC1 := Lib.hid (HC.out.later hb1)
  have HX1 := Lib.hid (HX.out.later hb1)
  have HD1 := Lib.hid (HD.out.later hb1)
  have HB1 := Lib.hid (HB.out.trans (hb1.mono HB.out.size))
  have HV1 := Lib.hid (HV.out.later hb1)
  have HU1 := Lib.hid (HU.out.later hb1)
  clear hb1 HC HX HD HV HU HB
  obtain ⟨c0, c1, _, _⟩ := HC1.out
  obtain ⟨x0, x1, _, _⟩ := HX1.out
  obtain ⟨d0, d1, dz, dl⟩ := HD1.out
  go_wp2_with fail
  refine (rHas_any id n c a V HN.out hl _ HV1.out).mono ?_
  rintro e w2 ⟨rfl, rfl⟩
  rw [HXX.out]
  go_wp2_with fail
  refine (rHas_any id n2 c2 a2 L HN2.out hl2 _ HU1.out).mono ?_
  rintro e w2 ⟨rfl, rfl⟩
  rw [HYY.out]
  cases mb
  case false =>
    have HT := Lib.hid (show r = (([], []), 1) by rw [← HR.out]; rfl)
    go_wp2_with fail
    refine bodyPost_ret (v := .tuple #[.agg #[.slice none 0 0, .slice none 0 0], .int .i64 1]) (by simp [results, Try.results18, go_sem, d0, d1]) rfl ?_
    exact nx_no HT.out (three_below HB1.out _ _)
  by_cases h1 : id < 1
  · have g : (id : Int) < 1 := by omega
    have HT := Lib.hid (show r = (([], []), 1) by rw [← HR.out, decide_eq_false (by omega)]; rfl)
    go_wp2_with fail
    refine bodyPost_ret (v := .tuple #[.agg #[.slice none 0 0, .slice none 0 0], .int .i64 1]) (by simp [results, Try.results18, go_sem, d0, d1]) rfl ?_
    exact nx_no HT.out (three_below HB1.out _ _)
  have gh1 : ¬ (id : Int) < 1 := by omega
  by_cases h2 : 63 < id
  · have g : (63 : Int) < (id : Int) := by omega
    have HT := Lib.hid (show r = (([], []), 1) by rw [← HR.out, decide_eq_false (by omega)]; rfl)
    go_wp2_with fail
    refine bodyPost_ret (v := .tuple #[.agg #[.slice none 0 0, .slice none 0 0], .int .i64 1]) (by simp [results, Try.results18, go_sem, d0, d1]) rfl ?_
    exact nx_no HT.out (three_below HB1.out _ _)
  have gh2 : ¬ (63 : Int) < (id : Int) := by omega
  have HR2 := Lib.hid (show (if kd = 1 then lrnF id V L else if kd = 2 then votF id V L else if kd = 3 then levF id V L else (([], []), 1)) = r by rw [← HR.out, decide_eq_true (by omega)]; rfl)
  by_cases h3 : kd < 1
  · have g : kd < 1 := h3
    have HT := Lib.hid (show r = (([], []), 1) by rw [← HR2.out, if_neg (by omega), if_neg (by omega), if_neg (by omega)])
    go_wp2_with fail
    refine bodyPost_ret (v := .tuple #[.agg #[.slice none 0 0, .slice none 0 0], .int .i64 1]) (by simp [results, Try.results18, go_sem, d0, d1]) rfl ?_
    exact nx_no HT.out (three_below HB1.out _ _)
  by_cases h4 : 3 < kd
  · have g : 3 < kd := h4
    have HT := Lib.hid (show r = (([], []), 1) by rw [← HR2.out, if_neg (by omega), if_neg (by omega), if_neg (by omega)])
    go_wp2_with fail
    refine bodyPost_ret (v := .tuple #[.agg #[.slice none 0 0, .slice none 0 0], .int .i64 1]) (by simp [results, Try.results18, go_sem, d0, d1]) rfl ?_
    exact nx_no HT.out (three_below HB1.out _ _)
  by_cases k1 : kd = 1
  · subst k1
    have HL1 := Lib.hid (show (if x || y then (([], []), 8) else if 3 ≤ n2 then (([], []), 5) else ((V, putN id L), 0)) = r by rw [← HR2.out, if_pos rfl, HLF.out.1])
    clear h3 h4
    cases x
    case true =>
      have HT := Lib.hid (show r = (([], []), 8) by rw [← HL1.out]; rfl)
      go_wp2_with fail
      refine bodyPost_ret (v := .tuple #[.agg #[.slice none 0 0, .slice none 0 0], .int .i64 8]) (by simp [results, Try.results18, go_sem, d0, d1]) rfl ?_
      exact nx_no HT.out (three_below HB1.out _ _)
    cases y
    case true =>
      have HT := Lib.hid (show r = (([], []), 8) by rw [← HL1.out]; rfl)
      go_wp2_with fail
      refine bodyPost_ret (v := .tuple #[.agg #[.slice none 0 0, .slice none 0 0], .int .i64 8]) (by simp [results, Try.results18, go_sem, d0, d1]) rfl ?_
      exact nx_no HT.out (three_below HB1.out _ _)
    by_cases h5 : 3 ≤ n2
    · have g : (3 : Int) ≤ (n2 : Int) := by omega
      have HT := Lib.hid (show r = (([], []), 5) by rw [← HL1.out, if_pos h5]; rfl)
      go_wp2_with fail
      refine bodyPost_ret (v := .tuple #[.agg #[.slice none 0 0, .slice none 0 0], .int .i64 5]) (by simp [results, Try.results18, go_sem, d0, d1]) rfl ?_
      exact nx_no HT.out (three_below HB1.out _ _)
    have g : ¬ (3 : Int) ≤ (n2 : Int) := by omega
    have HT := Lib.hid (show r = ((V, putN id L), 0) by rw [← HL1.out, if_neg h5]; rfl)
    have hnl : (([] : List Nat).length + n) * 8 ≤ 140737488355328 := by have := (mayB_iff.1 HMB.out).1; have := HN.out; simp; omega
    have HNL := Lib.hid hnl
    clear h5 hnl
    go_wp2_with fail
    have K1 : w1.drew.cell? ⟨w.heap.size, 0, none⟩ = some (.slice a n c) ∧ w1.drew.cell? ⟨w.heap.size, 1, none⟩ = some (.slice a2 n2 c2) ∧ w1.drew.cell? ⟨w.heap.size + 1, 1, none⟩ = some (.int .u64 (id : Nat)) ∧ w.heap.size + 1 + 1 < w1.drew.heap.size ∧ Below w.heap.size w w1.drew := ⟨c0, c1, x1, dl, HB1.out.drew⟩
    have D1 := Lib.hid (HD1.out.later (Below.refl _ _).drew)
    have hdl : w.heap.size + 1 + 1 < w1.heap.size := dl
    clear c0 c1 d0 d1 dz dl x0 x1
    go_region_held3 (fun w' => w'.cell? ⟨w.heap.size, 0, none⟩ = some (.slice a n c) ∧ w'.cell? ⟨w.heap.size, 1, none⟩ = some (.slice a2 n2 c2) ∧ w'.cell? ⟨w.heap.size + 1, 1, none⟩ = some (.int .u64 (id : Nat)) ∧ w.heap.size + 1 + 1 < w'.heap.size ∧ Below w.heap.size w w')
      (first | (with_reducible assumption) | (with_reducible exact keepU K3 _ _) | (with_reducible exact keepQ K1 (below_ad _ _)) | go_keep)
      (first
        | (refine step_app (by rfl) _ _ _ (by rfl) _ _ (by rfl) (by rfl) _ (appU w1.heap.size _ _ _ [] (CqU.nil _ _ _) a n c V HN.out (HV1.out.later ?_) HNL.out ?_) ?_; (· (go_grown; done)); (· (simp; done)); intro v1 w2 hp; obtain ⟨a3, c3, hv, hU3, hf3, _⟩ := hp.1.form; rw [List.nil_append] at hv hU3 hf3; rw [HN.out] at hv; subst hv; have HU3 := Lib.hid (And.intro hU3 hf3); have hba : Below w1.drew.heap.size w1.drew w2 := Below.trans (below_ad _ _) hp.2; have HBA := Lib.hid hba; have K2 := keepQ K1 hba; have D2 := Lib.hid (D1.out.later hba); clear hp hU3 hf3 hba)
        | (go_at_call 39; (with_reducible refine (rPut_any id n2 c2 a2 L HN2.out (by omega) _ ((HU1.out.later (Below.refl _ _).drew).later HBA.out)).mono ?_); rintro e w3 ⟨a4, c4, rfl, hU4, hf4, hb3⟩; have HU4 := Lib.hid (And.intro hU4 hf4); have HBC := Lib.hid hb3; have K3 := keepQ K2 hb3; obtain ⟨d0, d1, dz, dl⟩ := D2.out.later hb3; clear hU4 hf4 hb3))
    have HQ := Lib.hid (show NxF w r (.returned (.tuple #[.agg #[(Value.slice a3 n c3), (Value.slice a4 (putN id L).length c4)], .int .i64 0])) ((w3.setCell ⟨w.heap.size + 1 + 1, 0, none⟩ (Value.slice a3 n c3)).setCell ⟨w.heap.size + 1 + 1, 1, none⟩ (Value.slice a4 (putN id L).length c4)) from
      nx_yes HT.out HN.out rfl (us_three (HU3.out.1.later HBC.out) (fun h q e => by have := HU3.out.2 h q e; omega) _ _) (us_three HU4.out.1 (fun h q e => by have := HU4.out.2 h q e; have := K2.2.2.2.1; omega) _ _) (fun h q e => by have := HU3.out.2 h q e; omega) (fun h q e => by have := HU4.out.2 h q e; have := K2.2.2.2.1; omega) (three_below K3.2.2.2.2 _ _))
    clear K1 K2 K3
    generalize (Value.slice a3 n c3) = R3 at *
    generalize (Value.slice a4 (putN id L).length c4) = R4 at *
    go_wp2_with fail
    refine bodyPost_ret (v := .tuple #[.agg #[R3, R4], .int .i64 0]) (by simp [results, Try.results18, go_sem, d0, d1]) rfl ?_
    exact HQ.out
  have g1 : (kd == 1) = false := by simpa using k1
  by_cases k2 : kd = 2
  · subst k2
    have HL2 := Lib.hid (show (if !y then (([], []), 7) else if 7 ≤ n then (([], []), 5) else ((putN id V, lessN id L), 0)) = r by rw [← HR2.out, if_neg (show ¬ (2 : Int) = 1 by decide), if_pos rfl, HLF.out.2.1])
    clear h3 h4 k1
    cases y
    case false =>
      have HT := Lib.hid (show r = (([], []), 7) by rw [← HL2.out]; rfl)
      go_wp2_with fail
      refine bodyPost_ret (v := .tuple #[.agg #[.slice none 0 0, .slice none 0 0], .int .i64 7]) (by simp [results, Try.results18, go_sem, d0, d1]) rfl ?_
      exact nx_no HT.out (three_below HB1.out _ _)
    by_cases h5 : 7 ≤ n
    · have g : (7 : Int) ≤ (n : Int) := by omega
      have HT := Lib.hid (show r = (([], []), 5) by rw [← HL2.out, if_pos h5]; rfl)
      go_wp2_with fail
      refine bodyPost_ret (v := .tuple #[.agg #[.slice none 0 0, .slice none 0 0], .int .i64 5]) (by simp [results, Try.results18, go_sem, d0, d1]) rfl ?_
      exact nx_no HT.out (three_below HB1.out _ _)
    have g : ¬ (7 : Int) ≤ (n : Int) := by omega
    have HT := Lib.hid (show r = ((putN id V, lessN id L), 0) by rw [← HL2.out, if_neg h5]; rfl)
    have HM := Lib.hid (show V.length ≤ 7 ∧ L.length ≤ 3 from ⟨(mayB_iff.1 HMB.out).1.2.1, (mayB_iff.1 HMB.out).1.2.2⟩)
    clear h5
    go_wp2_with fail
    have K1 : w1.drew.cell? ⟨w.heap.size, 0, none⟩ = some (.slice a n c) ∧ w1.drew.cell? ⟨w.heap.size, 1, none⟩ = some (.slice a2 n2 c2) ∧ w1.drew.cell? ⟨w.heap.size + 1, 1, none⟩ = some (.int .u64 (id : Nat)) ∧ w.heap.size + 1 + 1 < w1.drew.heap.size ∧ Below w.heap.size w w1.drew := ⟨c0, c1, x1, dl, HB1.out.drew⟩
    have D1 := Lib.hid (HD1.out.later (Below.refl _ _).drew)
    have hdl : w.heap.size + 1 + 1 < w1.heap.size := dl
    clear c0 c1 d0 d1 dz dl x0 x1
    go_region_held3 (fun w' => w'.cell? ⟨w.heap.size, 0, none⟩ = some (.slice a n c) ∧ w'.cell? ⟨w.heap.size, 1, none⟩ = some (.slice a2 n2 c2) ∧ w'.cell? ⟨w.heap.size + 1, 1, none⟩ = some (.int .u64 (id : Nat)) ∧ w.heap.size + 1 + 1 < w'.heap.size ∧ Below w.heap.size w w')
      (first | (with_reducible assumption) | (with_reducible exact keepU K3 _ _) | go_keep)
      (first
        | (go_at_call 39; (with_reducible refine (rPut_any id n c a V HN.out (by have := HM.out.1; have := HN.out; omega) _ (HV1.out.later (Below.refl _ _).drew)).mono ?_); rintro e w2 ⟨a3, c3, rfl, hU3, hf3, hb2⟩; have HU3 := Lib.hid (And.intro hU3 hf3); have HBA := Lib.hid hb2; have K2 := keepQ K1 hb2; have D2 := Lib.hid (D1.out.later hb2); clear hU3 hf3 hb2)
        | (go_at_call 40; (with_reducible refine (rLess_any id n2 c2 a2 L HN2.out (by have := HM.out.2; have := HN2.out; omega) _ ((HU1.out.later (Below.refl _ _).drew).later HBA.out)).mono ?_); rintro e w3 ⟨a4, c4, rfl, hU4, hf4, hb3⟩; have HU4 := Lib.hid (And.intro hU4 hf4); have HBC := Lib.hid hb3; have K3 := keepQ K2 hb3; obtain ⟨d0, d1, dz, dl⟩ := D2.out.later hb3; clear hU4 hf4 hb3))
    have HQ := Lib.hid (show NxF w r (.returned (.tuple #[.agg #[(Value.slice a3 (putN id V).length c3), (Value.slice a4 (lessN id L).length c4)], .int .i64 0])) ((w3.setCell ⟨w.heap.size + 1 + 1, 0, none⟩ (Value.slice a3 (putN id V).length c3)).setCell ⟨w.heap.size + 1 + 1, 1, none⟩ (Value.slice a4 (lessN id L).length c4)) from
      nx_yes HT.out rfl rfl (us_three (HU3.out.1.later HBC.out) (fun h q e => by have := HU3.out.2 h q e; omega) _ _) (us_three HU4.out.1 (fun h q e => by have := HU4.out.2 h q e; have := K2.2.2.2.1; omega) _ _) (fun h q e => by have := HU3.out.2 h q e; omega) (fun h q e => by have := HU4.out.2 h q e; have := K2.2.2.2.1; omega) (three_below K3.2.2.2.2 _ _))
    clear K1 K2 K3
    generalize (Value.slice a3 (putN id V).length c3) = R3 at *
    generalize (Value.slice a4 (lessN id L).length c4) = R4 at *
    go_wp2_with fail
    refine bodyPost_ret (v := .tuple #[.agg #[R3, R4], .int .i64 0]) (by simp [results, Try.results18, go_sem, d0, d1]) rfl ?_
    exact HQ.out
  have g2 : (kd == 2) = false := by simpa using k2
  obtain rfl : kd = 3 := by omega
  have HL3 := Lib.hid (show (if !x && !y then (([], []), 7) else if x && decide (n = 1) then (([], []), 5) else ((lessN id V, lessN id L), 0)) = r by rw [← HR2.out, if_neg (show ¬ (3 : Int) = 1 by decide), if_neg (show ¬ (3 : Int) = 2 by decide), if_pos rfl, HLF.out.2.2])
  have HM := Lib.hid (show V.length ≤ 7 ∧ L.length ≤ 3 from ⟨(mayB_iff.1 HMB.out).1.2.1, (mayB_iff.1 HMB.out).1.2.2⟩)
  clear h3 h4 k1 k2
  cases x
  · cases y
    case false =>
      have HT := Lib.hid (show r = (([], []), 7) by rw [← HL3.out]; rfl)
      go_wp2_with fail
      refine bodyPost_ret (v := .tuple #[.agg #[.slice none 0 0, .slice none 0 0], .int .i64 7]) (by simp [results, Try.results18, go_sem, d0, d1]) rfl ?_
      exact nx_no HT.out (three_below HB1.out _ _)
    have HT := Lib.hid (show r = ((lessN id V, lessN id L), 0) by rw [← HL3.out]; rfl)
    go_wp2_with fail
    have K1 : w1.drew.cell? ⟨w.heap.size, 0, none⟩ = some (.slice a n c) ∧ w1.drew.cell? ⟨w.heap.size, 1, none⟩ = some (.slice a2 n2 c2) ∧ w1.drew.cell? ⟨w.heap.size + 1, 1, none⟩ = some (.int .u64 (id : Nat)) ∧ w.heap.size + 1 + 1 < w1.drew.heap.size ∧ Below w.heap.size w w1.drew := ⟨c0, c1, x1, dl, HB1.out.drew⟩
    have D1 := Lib.hid (HD1.out.later (Below.refl _ _).drew)
    have hdl : w.heap.size + 1 + 1 < w1.heap.size := dl
    clear c0 c1 d0 d1 dz dl x0 x1
    go_region_held3 (fun w' => w'.cell? ⟨w.heap.size, 0, none⟩ = some (.slice a n c) ∧ w'.cell? ⟨w.heap.size, 1, none⟩ = some (.slice a2 n2 c2) ∧ w'.cell? ⟨w.heap.size + 1, 1, none⟩ = some (.int .u64 (id : Nat)) ∧ w.heap.size + 1 + 1 < w'.heap.size ∧ Below w.heap.size w w')
      (first | (with_reducible assumption) | (with_reducible exact keepU K3 _ _) | go_keep)
      (first
        | (go_at_call_of 40 (Value.slice a n c); (with_reducible refine (rLess_any id n c a V HN.out (by have := HM.out.1; have := HN.out; omega) _ (HV1.out.later (Below.refl _ _).drew)).mono ?_); rintro e w2 ⟨a3, c3, rfl, hU3, hf3, hb2⟩; have HU3 := Lib.hid (And.intro hU3 hf3); have HBA := Lib.hid hb2; have K2 := keepQ K1 hb2; have D2 := Lib.hid (D1.out.later hb2); clear hU3 hf3 hb2)
        | (go_at_call_of 40 (Value.slice a2 n2 c2); (with_reducible refine (rLess_any id n2 c2 a2 L HN2.out (by have := HM.out.2; have := HN2.out; omega) _ ((HU1.out.later (Below.refl _ _).drew).later HBA.out)).mono ?_); rintro e w3 ⟨a4, c4, rfl, hU4, hf4, hb3⟩; have HU4 := Lib.hid (And.intro hU4 hf4); have HBC := Lib.hid hb3; have K3 := keepQ K2 hb3; obtain ⟨d0, d1, dz, dl⟩ := D2.out.later hb3; clear hU4 hf4 hb3))
    have HQ := Lib.hid (show NxF w r (.returned (.tuple #[.agg #[(Value.slice a3 (lessN id V).length c3), (Value.slice a4 (lessN id L).length c4)], .int .i64 0])) ((w3.setCell ⟨w.heap.size + 1 + 1, 0, none⟩ (Value.slice a3 (lessN id V).length c3)).setCell ⟨w.heap.size + 1 + 1, 1, none⟩ (Value.slice a4 (lessN id L).length c4)) from
      nx_yes HT.out rfl rfl (us_three (HU3.out.1.later HBC.out) (fun h q e => by have := HU3.out.2 h q e; omega) _ _) (us_three HU4.out.1 (fun h q e => by have := HU4.out.2 h q e; have := K2.2.2.2.1; omega) _ _) (fun h q e => by have := HU3.out.2 h q e; omega) (fun h q e => by have := HU4.out.2 h q e; have := K2.2.2.2.1; omega) (three_below K3.2.2.2.2 _ _))
    clear K1 K2 K3
    generalize (Value.slice a3 (lessN id V).length c3) = R3 at *
    generalize (Value.slice a4 (lessN id L).length c4) = R4 at *
    go_wp2_with fail
    refine bodyPost_ret (v := .tuple #[.agg #[R3, R4], .int .i64 0]) (by simp [results, Try.results18, go_sem, d0, d1]) rfl ?_
    exact HQ.out
  · by_cases h5 : n = 1
    · have g : ((n : Int) == 1) = true := by simp; omega
      have HT := Lib.hid (show r = (([], []), 5) by rw [← HL3.out, decide_eq_true h5]; rfl)
      go_wp2_with fail
      refine bodyPost_ret (v := .tuple #[.agg #[.slice none 0 0, .slice none 0 0], .int .i64 5]) (by simp [results, Try.results18, go_sem, d0, d1]) rfl ?_
      exact nx_no HT.out (three_below HB1.out _ _)
    have g : ((n : Int) == 1) = false := by simp; omega
    have HT := Lib.hid (show r = ((lessN id V, lessN id L), 0) by rw [← HL3.out, decide_eq_false h5]; simp)
    clear h5
    go_wp2_with fail
    have K1 : w1.drew.cell? ⟨w.heap.size, 0, none⟩ = some (.slice a n c) ∧ w1.drew.cell? ⟨w.heap.size, 1, none⟩ = some (.slice a2 n2 c2) ∧ w1.drew.cell? ⟨w.heap.size + 1, 1, none⟩ = some (.int .u64 (id : Nat)) ∧ w.heap.size + 1 + 1 < w1.drew.heap.size ∧ Below w.heap.size w w1.drew := ⟨c0, c1, x1, dl, HB1.out.drew⟩
    have D1 := Lib.hid (HD1.out.later (Below.refl _ _).drew)
    have hdl : w.heap.size + 1 + 1 < w1.heap.size := dl
    clear c0 c1 d0 d1 dz dl x0 x1
    go_region_held3 (fun w' => w'.cell? ⟨w.heap.size, 0, none⟩ = some (.slice a n c) ∧ w'.cell? ⟨w.heap.size, 1, none⟩ = some (.slice a2 n2 c2) ∧ w'.cell? ⟨w.heap.size + 1, 1, none⟩ = some (.int .u64 (id : Nat)) ∧ w.heap.size + 1 + 1 < w'.heap.size ∧ Below w.heap.size w w')
      (first | (with_reducible assumption) | (with_reducible exact keepU K3 _ _) | go_keep)
      (first
        | (go_at_call_of 40 (Value.slice a n c); (with_reducible refine (rLess_any id n c a V HN.out (by have := HM.out.1; have := HN.out; omega) _ (HV1.out.later (Below.refl _ _).drew)).mono ?_); rintro e w2 ⟨a3, c3, rfl, hU3, hf3, hb2⟩; have HU3 := Lib.hid (And.intro hU3 hf3); have HBA := Lib.hid hb2; have K2 := keepQ K1 hb2; have D2 := Lib.hid (D1.out.later hb2); clear hU3 hf3 hb2)
        | (go_at_call_of 40 (Value.slice a2 n2 c2); (with_reducible refine (rLess_any id n2 c2 a2 L HN2.out (by have := HM.out.2; have := HN2.out; omega) _ ((HU1.out.later (Below.refl _ _).drew).later HBA.out)).mono ?_); rintro e w3 ⟨a4, c4, rfl, hU4, hf4, hb3⟩; have HU4 := Lib.hid (And.intro hU4 hf4); have HBC := Lib.hid hb3; have K3 := keepQ K2 hb3; obtain ⟨d0, d1, dz, dl⟩ := D2.out.later hb3; clear hU4 hf4 hb3))
    have HQ := Lib.hid (show NxF w r (.returned (.tuple #[.agg #[(Value.slice a3 (lessN id V).length c3), (Value.slice a4 (lessN id L).length c4)], .int .i64 0])) ((w3.setCell ⟨w.heap.size + 1 + 1, 0, none⟩ (Value.slice a3 (lessN id V).length c3)).setCell ⟨w.heap.size + 1 + 1, 1, none⟩ (Value.slice a4 (lessN id L).length c4)) from
      nx_yes HT.out rfl rfl (us_three (HU3.out.1.later HBC.out) (fun h q e => by have := HU3.out.2 h q e; omega) _ _) (us_three HU4.out.1 (fun h q e => by have := HU4.out.2 h q e; have := K2.2.2.2.1; omega) _ _) (fun h q e => by have := HU3.out.2 h q e; omega) (fun h q e => by have := HU4.out.2 h q e; have := K2.2.2.2.1; omega) (three_below K3.2.2.2.2 _ _))
    clear K1 K2 K3
    generalize (Value.slice a3 (lessN id V).length c3) = R3 at *
    generalize (Value.slice a4 (lessN id L).length c4) = R4 at *
    go_wp2_with fail
    refine bodyPost_ret (v := .tuple #[.agg #[R3, R4], .int .i64 0]) (by simp [results, Try.results18, go_sem, d0, d1]) rfl ?_
    exact HQ.out
end Go.Proofs.Ytmnakfonfpdneaa
