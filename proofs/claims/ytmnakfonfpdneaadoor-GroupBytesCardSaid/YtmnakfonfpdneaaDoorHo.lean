/- The program's changes: vote and leave. -/
import Derived.Test.YtmnakfonfpdneaaDoorHn
namespace Go.Proofs.YtmnakfonfpdneaaDoor
open Go.RowKit

set_option maxRecDepth 100000 in
set_option maxHeartbeats 4000000 in
theorem vote_any (id n c n2 c2 : Nat) (a a2 : Option Addr) (V L : List Nat) (hn : V.length = n) (hl : n ≤ 7) (hn2 : L.length = n2) (hl2 : n2 ≤ 3) (hs2 : Asc V) (hidv : hasN id L = true → id ∉ V) (w : World) (hV : Us w a V) (hU : Us w a2 L) :
    Calls Tryd.prog 31 #[.agg #[.slice a n c, .slice a2 n2 c2], .int .u64 id] w (NxF w (votF id V L)) := by
  have B0 : Below w.heap.size w ((w.alloc (.cells #[.slice a n c, .slice a2 n2 c2] 24)).alloc (.cells #[.slice none 0 0, .slice none 0 0] 24)) := by go_grown
  have C0 := (Cb.new (w := w) rfl (.slice a n c) (.slice a2 n2 c2) 24).past (.cells #[.slice none 0 0, .slice none 0 0] 24)
  have D0 := Cb.new (w := w.alloc (.cells #[.slice a n c, .slice a2 n2 c2] 24)) rfl (.slice none 0 0) (.slice none 0 0) 24
  have es : (w.alloc (.cells #[.slice a n c, .slice a2 n2 c2] 24)).heap.size = w.heap.size + 1 := by simp
  rw [es] at D0
  have HV := Lib.hid (hV.later B0)
  have HU := Lib.hid (hU.later B0)
  have HN := Lib.hid hn
  have HN2 := Lib.hid hn2
  have HS2 := Lib.hid hs2
  have HB := Lib.hid B0
  obtain ⟨y, hy⟩ : ∃ y, hasN id L = y := ⟨_, rfl⟩
  obtain ⟨r, hr⟩ : ∃ r, votF id V L = r := ⟨_, rfl⟩
  have HR := Lib.hid (show (if !y then (([], []), 7) else if 7 ≤ n then (([], []), 5) else ((putN id V, lessN id L), 0)) = r by rw [← hy, ← hn, ← hr]; rfl)
  rw [hr]
  rw [hy] at hidv
  have HIV := Lib.hid hidv
  have HY := Lib.hid hy
  clear hV hU hn hn2 hs2 hy hr es B0 hidv
  go_enter Tryd.func31, Tryd.ntmps31
  go_wp2_with fail
  generalize hW : (w.alloc (.cells #[.slice a n c, .slice a2 n2 c2] 24)).alloc (.cells #[.slice none 0 0, .slice none 0 0] 24) = W at *
  clear hW
  obtain ⟨c0, c1, fz, lt⟩ := C0
  obtain ⟨d0, d1, dz, dl⟩ := D0
  go_wp2_with fail
  refine (pContains_any id n2 c2 a2 L HN2.out (by omega) _ HU.out).mono ?_
  rintro e w1 ⟨rfl, rfl⟩
  rw [HY.out]
  cases y
  case false =>
    have HT := Lib.hid (show r = (([], []), 7) by rw [← HR.out]; rfl)
    go_wp2_with fail
    refine bodyPost_ret (v := .tuple #[.agg #[.slice none 0 0, .slice none 0 0], .int .i64 7]) (by simp [results, Tryd.results31, go_sem, d0, d1]) rfl ?_
    exact nx_no HT.out (two_below HB.out _ _)
  by_cases h3 : 7 ≤ n
  · have g : (7 : Int) ≤ (n : Int) := by omega
    have HT := Lib.hid (show r = (([], []), 5) by rw [← HR.out, if_pos h3]; rfl)
    clear h3
    go_wp2_with fail
    refine bodyPost_ret (v := .tuple #[.agg #[.slice none 0 0, .slice none 0 0], .int .i64 5]) (by simp [results, Tryd.results31, go_sem, d0, d1]) rfl ?_
    exact nx_no HT.out (two_below HB.out _ _)
  have g : ¬ (7 : Int) ≤ (n : Int) := by omega
  have HT := Lib.hid (show r = ((putN id V, lessN id L), 0) by rw [← HR.out, if_neg h3]; rfl)
  have HIDV := Lib.hid (HIV.out rfl)
  clear h3
  go_wp2_with fail
  have K1 : W.drew.cell? ⟨w.heap.size, 0, none⟩ = some (.slice a n c) ∧ W.drew.cell? ⟨w.heap.size, 1, none⟩ = some (.slice a2 n2 c2) ∧ w.heap.size + 1 < W.drew.heap.size ∧ Below w.heap.size w W.drew := ⟨c0, c1, dl, HB.out.drew⟩
  have D1 := Lib.hid ((Cb.mk d0 d1 dz dl).later (Below.refl _ _).drew)
  clear c0 c1 d0 d1 dz dl fz lt
  go_region_held3 (fun w' => w'.cell? ⟨w.heap.size, 0, none⟩ = some (.slice a n c) ∧ w'.cell? ⟨w.heap.size, 1, none⟩ = some (.slice a2 n2 c2) ∧ w.heap.size + 1 < w'.heap.size ∧ Below w.heap.size w w')
    (first | (with_reducible assumption) | (with_reducible exact keepT K3 _ _) | go_keep)
    (first
      | (go_at_call 48; (with_reducible refine (with_any id n c a V HN.out (by omega) HS2.out HIDV.out _ (HV.out.later (Below.refl _ _).drew)).mono ?_); rintro e w2 ⟨a3, c3, rfl, hU3, hf3, hb2⟩; have HU3 := Lib.hid (And.intro hU3 hf3); have HBA := Lib.hid hb2; have K2 := keepB K1 hb2; have D2 := Lib.hid (D1.out.later hb2))
      | (go_at_call 49; (with_reducible refine (without_any id n2 c2 a2 L HN2.out (by omega) _ ((HU.out.later (Below.refl _ _).drew).later HBA.out)).mono ?_); rintro e w3 ⟨a4, c4, rfl, hU4, hf4, hb3⟩; have HU4 := Lib.hid (And.intro hU4 hf4); have HBC := Lib.hid hb3; have K3 := keepB K2 hb3; obtain ⟨d0, d1, dz, dl⟩ := D2.out.later hb3))
  have HQ := Lib.hid (show NxF w r (.returned (.tuple #[.agg #[.slice a3 (putN id V).length c3, .slice a4 (lessN id L).length c4], .int .i64 0])) ((w3.setCell ⟨w.heap.size + 1, 0, none⟩ (.slice a3 (putN id V).length c3)).setCell ⟨w.heap.size + 1, 1, none⟩ (.slice a4 (lessN id L).length c4)) from
    nx_yes HT.out rfl rfl (us_two' (HU3.out.1.later HBC.out) (fun h q e => by have := HU3.out.2 h q e; have := K1.2.2.1; omega) _ _) (us_two' HU4.out.1 (fun h q e => by have := HU4.out.2 h q e; have := K2.2.2.1; omega) _ _) (fun h q e => by have := HU3.out.2 h q e; have := K1.2.2.1; omega) (fun h q e => by have := HU4.out.2 h q e; have := K2.2.2.1; omega) (two_below K3.2.2.2 _ _))
  clear K1 K2 K3 hU3 hU4 hf3 hf4 hb2 hb3
  generalize (Value.slice a3 (putN id V).length c3) = R3 at *
  generalize (Value.slice a4 (lessN id L).length c4) = R4 at *
  go_wp2_with fail
  refine bodyPost_ret (v := .tuple #[.agg #[R3, R4], .int .i64 0]) (by simp [results, Tryd.results31, go_sem, d0, d1]) rfl ?_
  exact HQ.out
set_option maxRecDepth 100000 in
set_option maxHeartbeats 4000000 in
theorem leave_any (id n c n2 c2 : Nat) (a a2 : Option Addr) (V L : List Nat) (hn : V.length = n) (hl : n ≤ 7) (hn2 : L.length = n2) (hl2 : n2 ≤ 3) (w : World) (hV : Us w a V) (hU : Us w a2 L) :
    Calls Tryd.prog 32 #[.agg #[.slice a n c, .slice a2 n2 c2], .int .u64 id] w (NxF w (levF id V L)) := by
  have B0 : Below w.heap.size w ((w.alloc (.cells #[.slice a n c, .slice a2 n2 c2] 24)).alloc (.cells #[.slice none 0 0, .slice none 0 0] 24)) := by go_grown
  have C0 := (Cb.new (w := w) rfl (.slice a n c) (.slice a2 n2 c2) 24).past (.cells #[.slice none 0 0, .slice none 0 0] 24)
  have D0 := Cb.new (w := w.alloc (.cells #[.slice a n c, .slice a2 n2 c2] 24)) rfl (.slice none 0 0) (.slice none 0 0) 24
  have es : (w.alloc (.cells #[.slice a n c, .slice a2 n2 c2] 24)).heap.size = w.heap.size + 1 := by simp
  rw [es] at D0
  have HV := Lib.hid (hV.later B0)
  have HU := Lib.hid (hU.later B0)
  have HN := Lib.hid hn
  have HN2 := Lib.hid hn2
  have HB := Lib.hid B0
  obtain ⟨x, hx⟩ : ∃ x, hasN id V = x := ⟨_, rfl⟩
  obtain ⟨y, hy⟩ : ∃ y, hasN id L = y := ⟨_, rfl⟩
  obtain ⟨r, hr⟩ : ∃ r, levF id V L = r := ⟨_, rfl⟩
  have HR := Lib.hid (show (if !x && !y then (([], []), 7) else if x && decide (n = 1) then (([], []), 5) else ((lessN id V, lessN id L), 0)) = r by rw [← hx, ← hy, ← hn, ← hr]; rfl)
  rw [hr]
  have HX := Lib.hid hx
  have HY := Lib.hid hy
  clear hV hU hn hn2 hx hy hr es B0
  go_enter Tryd.func32, Tryd.ntmps32
  go_wp2_with fail
  generalize hW : (w.alloc (.cells #[.slice a n c, .slice a2 n2 c2] 24)).alloc (.cells #[.slice none 0 0, .slice none 0 0] 24) = W at *
  clear hW
  obtain ⟨c0, c1, fz, lt⟩ := C0
  obtain ⟨d0, d1, dz, dl⟩ := D0
  go_wp2_with fail
  refine (pContains_any id n c a V HN.out (by omega) _ HV.out).mono ?_
  rintro e w1 ⟨rfl, rfl⟩
  rw [HX.out]
  cases x
  · -- no voter
    go_wp2_with fail
    refine (pContains_any id n2 c2 a2 L HN2.out (by omega) _ HU.out).mono ?_
    rintro e w1 ⟨rfl, rfl⟩
    rw [HY.out]
    cases y
    case false =>
      have HT := Lib.hid (show r = (([], []), 7) by rw [← HR.out]; rfl)
      go_wp2_with fail
      refine bodyPost_ret (v := .tuple #[.agg #[.slice none 0 0, .slice none 0 0], .int .i64 7]) (by simp [results, Tryd.results32, go_sem, d0, d1]) rfl ?_
      exact nx_no HT.out (two_below HB.out _ _)
    have HT := Lib.hid (show r = ((lessN id V, lessN id L), 0) by rw [← HR.out]; rfl)
    go_wp2_with fail
    have K1 : W.drew.cell? ⟨w.heap.size, 0, none⟩ = some (.slice a n c) ∧ W.drew.cell? ⟨w.heap.size, 1, none⟩ = some (.slice a2 n2 c2) ∧ w.heap.size + 1 < W.drew.heap.size ∧ Below w.heap.size w W.drew := ⟨c0, c1, dl, HB.out.drew⟩
    have D1 := Lib.hid ((Cb.mk d0 d1 dz dl).later (Below.refl _ _).drew)
    clear c0 c1 d0 d1 dz dl fz lt
    go_region_held3 (fun w' => w'.cell? ⟨w.heap.size, 0, none⟩ = some (.slice a n c) ∧ w'.cell? ⟨w.heap.size, 1, none⟩ = some (.slice a2 n2 c2) ∧ w.heap.size + 1 < w'.heap.size ∧ Below w.heap.size w w')
      (first | (with_reducible assumption) | (with_reducible exact keepT K3 _ _) | go_keep)
      (first
        | (go_at_call_of 49 (Value.slice a n c); (with_reducible refine (without_any id n c a V HN.out (by omega) _ (HV.out.later (Below.refl _ _).drew)).mono ?_); rintro e w2 ⟨a3, c3, rfl, hU3, hf3, hb2⟩; have HU3 := Lib.hid (And.intro hU3 hf3); have HBA := Lib.hid hb2; have K2 := keepB K1 hb2; have D2 := Lib.hid (D1.out.later hb2))
        | (go_at_call_of 49 (Value.slice a2 n2 c2); (with_reducible refine (without_any id n2 c2 a2 L HN2.out (by omega) _ ((HU.out.later (Below.refl _ _).drew).later HBA.out)).mono ?_); rintro e w3 ⟨a4, c4, rfl, hU4, hf4, hb3⟩; have HU4 := Lib.hid (And.intro hU4 hf4); have HBC := Lib.hid hb3; have K3 := keepB K2 hb3; obtain ⟨d0, d1, dz, dl⟩ := D2.out.later hb3))
    have HQ := Lib.hid (show NxF w r (.returned (.tuple #[.agg #[.slice a3 (lessN id V).length c3, .slice a4 (lessN id L).length c4], .int .i64 0])) ((w3.setCell ⟨w.heap.size + 1, 0, none⟩ (.slice a3 (lessN id V).length c3)).setCell ⟨w.heap.size + 1, 1, none⟩ (.slice a4 (lessN id L).length c4)) from
      nx_yes HT.out rfl rfl (us_two' (HU3.out.1.later HBC.out) (fun h q e => by have := HU3.out.2 h q e; have := K1.2.2.1; omega) _ _) (us_two' HU4.out.1 (fun h q e => by have := HU4.out.2 h q e; have := K2.2.2.1; omega) _ _) (fun h q e => by have := HU3.out.2 h q e; have := K1.2.2.1; omega) (fun h q e => by have := HU4.out.2 h q e; have := K2.2.2.1; omega) (two_below K3.2.2.2 _ _))
    clear K1 K2 K3 hU3 hU4 hf3 hf4 hb2 hb3
    generalize (Value.slice a3 (lessN id V).length c3) = R3 at *
    generalize (Value.slice a4 (lessN id L).length c4) = R4 at *
    go_wp2_with fail
    refine bodyPost_ret (v := .tuple #[.agg #[R3, R4], .int .i64 0]) (by simp [results, Tryd.results32, go_sem, d0, d1]) rfl ?_
    exact HQ.out
  · by_cases h3 : n = 1
    · have g : ((n : Int) == 1) = true := by simp; omega
      have HT := Lib.hid (show r = (([], []), 5) by rw [← HR.out, decide_eq_true h3]; rfl)
      clear h3
      go_wp2_with fail
      refine bodyPost_ret (v := .tuple #[.agg #[.slice none 0 0, .slice none 0 0], .int .i64 5]) (by simp [results, Tryd.results32, go_sem, d0, d1]) rfl ?_
      exact nx_no HT.out (two_below HB.out _ _)
    have g : ((n : Int) == 1) = false := by simp; omega
    have HT := Lib.hid (show r = ((lessN id V, lessN id L), 0) by rw [← HR.out, decide_eq_false h3]; rfl)
    clear h3
    go_wp2_with fail
    have K1 : W.drew.cell? ⟨w.heap.size, 0, none⟩ = some (.slice a n c) ∧ W.drew.cell? ⟨w.heap.size, 1, none⟩ = some (.slice a2 n2 c2) ∧ w.heap.size + 1 < W.drew.heap.size ∧ Below w.heap.size w W.drew := ⟨c0, c1, dl, HB.out.drew⟩
    have D1 := Lib.hid ((Cb.mk d0 d1 dz dl).later (Below.refl _ _).drew)
    clear c0 c1 d0 d1 dz dl fz lt
    go_region_held3 (fun w' => w'.cell? ⟨w.heap.size, 0, none⟩ = some (.slice a n c) ∧ w'.cell? ⟨w.heap.size, 1, none⟩ = some (.slice a2 n2 c2) ∧ w.heap.size + 1 < w'.heap.size ∧ Below w.heap.size w w')
      (first | (with_reducible assumption) | (with_reducible exact keepT K3 _ _) | go_keep)
      (first
        | (go_at_call_of 49 (Value.slice a n c); (with_reducible refine (without_any id n c a V HN.out (by omega) _ (HV.out.later (Below.refl _ _).drew)).mono ?_); rintro e w2 ⟨a3, c3, rfl, hU3, hf3, hb2⟩; have HU3 := Lib.hid (And.intro hU3 hf3); have HBA := Lib.hid hb2; have K2 := keepB K1 hb2; have D2 := Lib.hid (D1.out.later hb2))
        | (go_at_call_of 49 (Value.slice a2 n2 c2); (with_reducible refine (without_any id n2 c2 a2 L HN2.out (by omega) _ ((HU.out.later (Below.refl _ _).drew).later HBA.out)).mono ?_); rintro e w3 ⟨a4, c4, rfl, hU4, hf4, hb3⟩; have HU4 := Lib.hid (And.intro hU4 hf4); have HBC := Lib.hid hb3; have K3 := keepB K2 hb3; obtain ⟨d0, d1, dz, dl⟩ := D2.out.later hb3))
    have HQ := Lib.hid (show NxF w r (.returned (.tuple #[.agg #[.slice a3 (lessN id V).length c3, .slice a4 (lessN id L).length c4], .int .i64 0])) ((w3.setCell ⟨w.heap.size + 1, 0, none⟩ (.slice a3 (lessN id V).length c3)).setCell ⟨w.heap.size + 1, 1, none⟩ (.slice a4 (lessN id L).length c4)) from
      nx_yes HT.out rfl rfl (us_two' (HU3.out.1.later HBC.out) (fun h q e => by have := HU3.out.2 h q e; have := K1.2.2.1; omega) _ _) (us_two' HU4.out.1 (fun h q e => by have := HU4.out.2 h q e; have := K2.2.2.1; omega) _ _) (fun h q e => by have := HU3.out.2 h q e; have := K1.2.2.1; omega) (fun h q e => by have := HU4.out.2 h q e; have := K2.2.2.1; omega) (two_below K3.2.2.2 _ _))
    clear K1 K2 K3 hU3 hU4 hf3 hf4 hb2 hb3
    generalize (Value.slice a3 (lessN id V).length c3) = R3 at *
    generalize (Value.slice a4 (lessN id L).length c4) = R4 at *
    go_wp2_with fail
    refine bodyPost_ret (v := .tuple #[.agg #[R3, R4], .int .i64 0]) (by simp [results, Tryd.results32, go_sem, d0, d1]) rfl ?_
    exact HQ.out
end Go.Proofs.YtmnakfonfpdneaaDoor
