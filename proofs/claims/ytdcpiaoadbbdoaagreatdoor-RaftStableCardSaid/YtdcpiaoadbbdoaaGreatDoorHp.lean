/- The program's changes: vote and leave. -/
import Derived.Test.YtdcpiaoadbbdoaaGreatDoorRtake
import Derived.Test.YtdcpiaoadbbdoaaGreatDoorHn
set_option maxRecDepth 100000
set_option maxHeartbeats 16000000
namespace Go.Proofs.YtdcpiaoadbbdoaaGreatDoor
open Go.RowKit

theorem vote_any (id n c n2 c2 : Nat) (a a2 : Option Addr) (V L : List Nat) (hn : V.length = n) (hl : n ≤ 7) (hn2 : L.length = n2) (hl2 : n2 ≤ 3) (hs2 : Asc V) (hidv : hasN id L = true → id ∉ V) (w : World) (hV : Us w a V) (hU : Us w a2 L) :
 Calls Tryz.prog 74 #[.agg #[.slice a n c, .slice a2 n2 c2], .int .u64 id] w (NxF w (votF id V L)) := by
 have B0 : Below w.heap.size w ((w.alloc (.cells #[.slice a n c, .slice a2 n2 c2] 25)).alloc (.cells #[.slice none 0 0, .slice none 0 0] 25)) := by go_grown
 have C0 := (Cb.new (w := w) rfl (.slice a n c) (.slice a2 n2 c2) 25).past (.cells #[.slice none 0 0, .slice none 0 0] 25)
 have D0 := Cb.new (w := w.alloc (.cells #[.slice a n c, .slice a2 n2 c2] 25)) rfl (.slice none 0 0) (.slice none 0 0) 25
 have es : (w.alloc (.cells #[.slice a n c, .slice a2 n2 c2] 25)).heap.size = w.heap.size + 1 := by simp
 rw [es] at D0
 have HV := hI_ (hV.later B0)
 have HU := hI_ (hU.later B0)
 have HN := hI_ hn
 have HN2 := hI_ hn2
 have HS2 := hI_ hs2
 have HB := hI_ B0
 obtain ⟨y, hy⟩ : ∃ y, hasN id L = y := ⟨_, rfl⟩
 obtain ⟨r, hr⟩ : ∃ r, votF id V L = r := ⟨_, rfl⟩
 have HR := hI_ (show (if !y then (([], []), 7) else if 7 ≤ n then (([], []), 5) else ((putN id V, lessN id L), 0)) = r by rw [← hy, ← hn, ← hr]; rfl)
 rw [hr]
 rw [hy] at hidv
 have HIV := hI_ hidv
 have HY := hI_ hy
 clear hV hU hn hn2 hs2 hy hr es B0 hidv
 go_enter Tryz.func74, Tryz.ntmps74
 go_wp2_with fail
 generalize hW : (w.alloc (.cells #[.slice a n c, .slice a2 n2 c2] 25)).alloc (.cells #[.slice none 0 0, .slice none 0 0] 25) = W at *
 clear hW
 obtain ⟨c0, c1, fz, lt⟩ := C0
 obtain ⟨d0, d1, dz, dl⟩ := D0
 go_wp2_with fail
 refine (pContains_any id n2 c2 a2 L HN2.out (by omega) _ HU.out).mono ?_
 rintro e w1 ⟨rfl, rfl⟩
 rw [HY.out]
 cases y
 case false =>
  have HT := hI_ (show r = (([], []), 7) by rw [← HR.out]; rfl)
  go_wp2_with fail
  refine bodyPost_ret (v := .tuple #[.agg #[.slice none 0 0, .slice none 0 0], .int .i64 7]) (by simp [results, Tryz.results74, go_sem, d0, d1]) rfl ?_
  exact nx_no HT.out (two_below HB.out _ _)
 by_cases h3 : 7 ≤ n
 · have g : (7 : Int) ≤ (n : Int) := by omega
   have HT := hI_ (show r = (([], []), 5) by rw [← HR.out, if_pos h3]; rfl)
   clear h3
   go_wp2_with fail
   refine bodyPost_ret (v := .tuple #[.agg #[.slice none 0 0, .slice none 0 0], .int .i64 5]) (by simp [results, Tryz.results74, go_sem, d0, d1]) rfl ?_
   exact nx_no HT.out (two_below HB.out _ _)
 have g : ¬ (7 : Int) ≤ (n : Int) := by omega
 have HT := hI_ (show r = ((putN id V, lessN id L), 0) by rw [← HR.out, if_neg h3]; rfl)
 have HIDV := hI_ (HIV.out rfl)
 clear h3
 go_wp2_with fail
 have K1 : W.drew.cell? ⟨w.heap.size, 0, none⟩ = some (.slice a n c) ∧ W.drew.cell? ⟨w.heap.size, 1, none⟩ = some (.slice a2 n2 c2) ∧ w.heap.size + 1 < W.drew.heap.size ∧ Below w.heap.size w W.drew := ⟨c0, c1, dl, HB.out.drew⟩
 have D1 := hI_ ((Cb.mk d0 d1 dz dl).later (Below.refl _ _).drew)
 clear c0 c1 d0 d1 dz dl fz lt
 go_region_held3 (fun w' => w'.cell? ⟨w.heap.size, 0, none⟩ = some (.slice a n c) ∧ w'.cell? ⟨w.heap.size, 1, none⟩ = some (.slice a2 n2 c2) ∧ w.heap.size + 1 < w'.heap.size ∧ Below w.heap.size w w')
  (first | (with_reducible assumption) | (with_reducible exact keepT K3 _ _) | go_keep)
  (first
   | (go_at_call 128; (with_reducible refine (with_any id n c a V HN.out (by omega) HS2.out HIDV.out _ (HV.out.later (Below.refl _ _).drew)).mono ?_); rintro e w2 ⟨a3, c3, rfl, hU3, hf3, hb2⟩; have HU3 := hI_ (And.intro hU3 hf3); have HBA := hI_ hb2; have K2 := keepB K1 hb2; have D2 := hI_ (D1.out.later hb2))
   | (go_at_call 129; (with_reducible refine (without_any id n2 c2 a2 L HN2.out (by omega) _ ((HU.out.later (Below.refl _ _).drew).later HBA.out)).mono ?_); rintro e w3 ⟨a4, c4, rfl, hU4, hf4, hb3⟩; have HU4 := hI_ (And.intro hU4 hf4); have HBC := hI_ hb3; have K3 := keepB K2 hb3; obtain ⟨d0, d1, dz, dl⟩ := D2.out.later hb3))
 have HQ := hI_ (show NxF w r (.returned (.tuple #[.agg #[.slice a3 (putN id V).length c3, .slice a4 (lessN id L).length c4], .int .i64 0])) ((w3.setCell ⟨w.heap.size + 1, 0, none⟩ (.slice a3 (putN id V).length c3)).setCell ⟨w.heap.size + 1, 1, none⟩ (.slice a4 (lessN id L).length c4)) from
  nx_yes HT.out rfl rfl (us_two' (HU3.out.1.later HBC.out) (fun h q e => by have := HU3.out.2 h q e; have := K1.2.2.1; omega) _ _) (us_two' HU4.out.1 (fun h q e => by have := HU4.out.2 h q e; have := K2.2.2.1; omega) _ _) (fun h q e => by have := HU3.out.2 h q e; have := K1.2.2.1; omega) (fun h q e => by have := HU4.out.2 h q e; have := K2.2.2.1; omega) (two_below K3.2.2.2 _ _))
 clear K1 K2 K3 hU3 hU4 hf3 hf4 hb2 hb3
 generalize (Value.slice a3 (putN id V).length c3) = R3 at *
 generalize (Value.slice a4 (lessN id L).length c4) = R4 at *
 go_wp2_with fail
 refine bodyPost_ret (v := .tuple #[.agg #[R3, R4], .int .i64 0]) (by simp [results, Tryz.results74, go_sem, d0, d1]) rfl ?_
 exact HQ.out
theorem leave_any (id n c n2 c2 : Nat) (a a2 : Option Addr) (V L : List Nat) (hn : V.length = n) (hl : n ≤ 7) (hn2 : L.length = n2) (hl2 : n2 ≤ 3) (w : World) (hV : Us w a V) (hU : Us w a2 L) :
 Calls Tryz.prog 75 #[.agg #[.slice a n c, .slice a2 n2 c2], .int .u64 id] w (NxF w (levF id V L)) := by
 have B0 : Below w.heap.size w ((w.alloc (.cells #[.slice a n c, .slice a2 n2 c2] 25)).alloc (.cells #[.slice none 0 0, .slice none 0 0] 25)) := by go_grown
 have C0 := (Cb.new (w := w) rfl (.slice a n c) (.slice a2 n2 c2) 25).past (.cells #[.slice none 0 0, .slice none 0 0] 25)
 have D0 := Cb.new (w := w.alloc (.cells #[.slice a n c, .slice a2 n2 c2] 25)) rfl (.slice none 0 0) (.slice none 0 0) 25
 have es : (w.alloc (.cells #[.slice a n c, .slice a2 n2 c2] 25)).heap.size = w.heap.size + 1 := by simp
 rw [es] at D0
 have HV := hI_ (hV.later B0)
 have HU := hI_ (hU.later B0)
 have HN := hI_ hn
 have HN2 := hI_ hn2
 have HB := hI_ B0
 obtain ⟨x, hx⟩ : ∃ x, hasN id V = x := ⟨_, rfl⟩
 obtain ⟨y, hy⟩ : ∃ y, hasN id L = y := ⟨_, rfl⟩
 obtain ⟨r, hr⟩ : ∃ r, levF id V L = r := ⟨_, rfl⟩
 have HR := hI_ (show (if !x && !y then (([], []), 7) else if x && decide (n = 1) then (([], []), 5) else ((lessN id V, lessN id L), 0)) = r by rw [← hx, ← hy, ← hn, ← hr]; rfl)
 rw [hr]
 have HX := hI_ hx
 have HY := hI_ hy
 clear hV hU hn hn2 hx hy hr es B0
 go_enter Tryz.func75, Tryz.ntmps75
 go_wp2_with fail
 generalize hW : (w.alloc (.cells #[.slice a n c, .slice a2 n2 c2] 25)).alloc (.cells #[.slice none 0 0, .slice none 0 0] 25) = W at *
 clear hW
 obtain ⟨c0, c1, fz, lt⟩ := C0
 obtain ⟨d0, d1, dz, dl⟩ := D0
 go_wp2_with fail
 refine (pContains_any id n c a V HN.out (by omega) _ HV.out).mono ?_
 rintro e w1 ⟨rfl, rfl⟩
 rw [HX.out]
 cases x
 · -- no voter
   go_wp2_with fail
   refine (pContains_any id n2 c2 a2 L HN2.out (by omega) _ HU.out).mono ?_
   rintro e w1 ⟨rfl, rfl⟩
   rw [HY.out]
   cases y
   case false =>
    have HT := hI_ (show r = (([], []), 7) by rw [← HR.out]; rfl)
    go_wp2_with fail
    refine bodyPost_ret (v := .tuple #[.agg #[.slice none 0 0, .slice none 0 0], .int .i64 7]) (by simp [results, Tryz.results75, go_sem, d0, d1]) rfl ?_
    exact nx_no HT.out (two_below HB.out _ _)
   have HT := hI_ (show r = ((lessN id V, lessN id L), 0) by rw [← HR.out]; rfl)
   go_wp2_with fail
   have K1 : W.drew.cell? ⟨w.heap.size, 0, none⟩ = some (.slice a n c) ∧ W.drew.cell? ⟨w.heap.size, 1, none⟩ = some (.slice a2 n2 c2) ∧ w.heap.size + 1 < W.drew.heap.size ∧ Below w.heap.size w W.drew := ⟨c0, c1, dl, HB.out.drew⟩
   have D1 := hI_ ((Cb.mk d0 d1 dz dl).later (Below.refl _ _).drew)
   clear c0 c1 d0 d1 dz dl fz lt
   go_region_held3 (fun w' => w'.cell? ⟨w.heap.size, 0, none⟩ = some (.slice a n c) ∧ w'.cell? ⟨w.heap.size, 1, none⟩ = some (.slice a2 n2 c2) ∧ w.heap.size + 1 < w'.heap.size ∧ Below w.heap.size w w')
    (first | (with_reducible assumption) | (with_reducible exact keepT K3 _ _) | go_keep)
    (first
     | (go_at_call_of 129 (Value.slice a n c); (with_reducible refine (without_any id n c a V HN.out (by omega) _ (HV.out.later (Below.refl _ _).drew)).mono ?_); rintro e w2 ⟨a3, c3, rfl, hU3, hf3, hb2⟩; have HU3 := hI_ (And.intro hU3 hf3); have HBA := hI_ hb2; have K2 := keepB K1 hb2; have D2 := hI_ (D1.out.later hb2))
     | (go_at_call_of 129 (Value.slice a2 n2 c2); (with_reducible refine (without_any id n2 c2 a2 L HN2.out (by omega) _ ((HU.out.later (Below.refl _ _).drew).later HBA.out)).mono ?_); rintro e w3 ⟨a4, c4, rfl, hU4, hf4, hb3⟩; have HU4 := hI_ (And.intro hU4 hf4); have HBC := hI_ hb3; have K3 := keepB K2 hb3; obtain ⟨d0, d1, dz, dl⟩ := D2.out.later hb3))
   have HQ := hI_ (show NxF w r (.returned (.tuple #[.agg #[.slice a3 (lessN id V).length c3, .slice a4 (lessN id L).length c4], .int .i64 0])) ((w3.setCell ⟨w.heap.size + 1, 0, none⟩ (.slice a3 (lessN id V).length c3)).setCell ⟨w.heap.size + 1, 1, none⟩ (.slice a4 (lessN id L).length c4)) from
    nx_yes HT.out rfl rfl (us_two' (HU3.out.1.later HBC.out) (fun h q e => by have := HU3.out.2 h q e; have := K1.2.2.1; omega) _ _) (us_two' HU4.out.1 (fun h q e => by have := HU4.out.2 h q e; have := K2.2.2.1; omega) _ _) (fun h q e => by have := HU3.out.2 h q e; have := K1.2.2.1; omega) (fun h q e => by have := HU4.out.2 h q e; have := K2.2.2.1; omega) (two_below K3.2.2.2 _ _))
   clear K1 K2 K3 hU3 hU4 hf3 hf4 hb2 hb3
   generalize (Value.slice a3 (lessN id V).length c3) = R3 at *
   generalize (Value.slice a4 (lessN id L).length c4) = R4 at *
   go_wp2_with fail
   refine bodyPost_ret (v := .tuple #[.agg #[R3, R4], .int .i64 0]) (by simp [results, Tryz.results75, go_sem, d0, d1]) rfl ?_
   exact HQ.out
 · by_cases h3 : n = 1
   · have g : ((n : Int) == 1) = true := by simp; omega
     have HT := hI_ (show r = (([], []), 5) by rw [← HR.out, decide_eq_true h3]; rfl)
     clear h3
     go_wp2_with fail
     refine bodyPost_ret (v := .tuple #[.agg #[.slice none 0 0, .slice none 0 0], .int .i64 5]) (by simp [results, Tryz.results75, go_sem, d0, d1]) rfl ?_
     exact nx_no HT.out (two_below HB.out _ _)
   have g : ((n : Int) == 1) = false := by simp; omega
   have HT := hI_ (show r = ((lessN id V, lessN id L), 0) by rw [← HR.out, decide_eq_false h3]; rfl)
   clear h3
   go_wp2_with fail
   have K1 : W.drew.cell? ⟨w.heap.size, 0, none⟩ = some (.slice a n c) ∧ W.drew.cell? ⟨w.heap.size, 1, none⟩ = some (.slice a2 n2 c2) ∧ w.heap.size + 1 < W.drew.heap.size ∧ Below w.heap.size w W.drew := ⟨c0, c1, dl, HB.out.drew⟩
   have D1 := hI_ ((Cb.mk d0 d1 dz dl).later (Below.refl _ _).drew)
   clear c0 c1 d0 d1 dz dl fz lt
   go_region_held3 (fun w' => w'.cell? ⟨w.heap.size, 0, none⟩ = some (.slice a n c) ∧ w'.cell? ⟨w.heap.size, 1, none⟩ = some (.slice a2 n2 c2) ∧ w.heap.size + 1 < w'.heap.size ∧ Below w.heap.size w w')
    (first | (with_reducible assumption) | (with_reducible exact keepT K3 _ _) | go_keep)
    (first
     | (go_at_call_of 129 (Value.slice a n c); (with_reducible refine (without_any id n c a V HN.out (by omega) _ (HV.out.later (Below.refl _ _).drew)).mono ?_); rintro e w2 ⟨a3, c3, rfl, hU3, hf3, hb2⟩; have HU3 := hI_ (And.intro hU3 hf3); have HBA := hI_ hb2; have K2 := keepB K1 hb2; have D2 := hI_ (D1.out.later hb2))
     | (go_at_call_of 129 (Value.slice a2 n2 c2); (with_reducible refine (without_any id n2 c2 a2 L HN2.out (by omega) _ ((HU.out.later (Below.refl _ _).drew).later HBA.out)).mono ?_); rintro e w3 ⟨a4, c4, rfl, hU4, hf4, hb3⟩; have HU4 := hI_ (And.intro hU4 hf4); have HBC := hI_ hb3; have K3 := keepB K2 hb3; obtain ⟨d0, d1, dz, dl⟩ := D2.out.later hb3))
   have HQ := hI_ (show NxF w r (.returned (.tuple #[.agg #[.slice a3 (lessN id V).length c3, .slice a4 (lessN id L).length c4], .int .i64 0])) ((w3.setCell ⟨w.heap.size + 1, 0, none⟩ (.slice a3 (lessN id V).length c3)).setCell ⟨w.heap.size + 1, 1, none⟩ (.slice a4 (lessN id L).length c4)) from
    nx_yes HT.out rfl rfl (us_two' (HU3.out.1.later HBC.out) (fun h q e => by have := HU3.out.2 h q e; have := K1.2.2.1; omega) _ _) (us_two' HU4.out.1 (fun h q e => by have := HU4.out.2 h q e; have := K2.2.2.1; omega) _ _) (fun h q e => by have := HU3.out.2 h q e; have := K1.2.2.1; omega) (fun h q e => by have := HU4.out.2 h q e; have := K2.2.2.1; omega) (two_below K3.2.2.2 _ _))
   clear K1 K2 K3 hU3 hU4 hf3 hf4 hb2 hb3
   generalize (Value.slice a3 (lessN id V).length c3) = R3 at *
   generalize (Value.slice a4 (lessN id L).length c4) = R4 at *
   go_wp2_with fail
   refine bodyPost_ret (v := .tuple #[.agg #[R3, R4], .int .i64 0]) (by simp [results, Tryz.results75, go_sem, d0, d1]) rfl ?_
   exact HQ.out

theorem asc_of_pairwise {L : List Nat} (h : L.Pairwise (· < ·)) : Asc L := fun i j x y hij hx hy => by
 obtain ⟨hi, rfl⟩ := List.getElem?_eq_some_iff.1 hx
 obtain ⟨hj, rfl⟩ := List.getElem?_eq_some_iff.1 hy
 rcases Nat.lt_or_ge i j with h2 | h2
 · exact Nat.le_of_lt (List.pairwise_iff_getElem.1 h i j hi hj h2)
 · obtain rfl : i = j := by omega
   exact Nat.le_refl _
def nxtF (V L : List Nat) (kind : Int) (id : Nat) : (List Nat × List Nat) × Int :=
 if mayB V L && decide (1 ≤ id ∧ id ≤ 63) then (if kind = 1 then lrnF id V L else if kind = 2 then votF id V L else if kind = 3 then levF id V L else (([], []), 1)) else (([], []), 1)
theorem nx_laid {w w1 w2 : World} {r : (List Nat × List Nat) × Int} {x : Nat} (hx : w.heap.size ≤ x) (hx1 : x < w1.heap.size) (hB1 : Below w.heap.size w w1) {e : Ending} (h : NxF w1 r e w2) :
 ∃ (a : Option Addr) (m c : Nat) (a2 : Option Addr) (m2 c2 : Nat), e = .returned (.tuple #[.agg #[.slice a m c, .slice a2 m2 c2], .int .i64 r.2]) ∧ NxF w r (.returned (.tuple #[.agg #[.slice a m c, .slice a2 m2 c2], .int .i64 r.2])) ((w2.setCell ⟨x, 0, none⟩ (.slice a m c)).setCell ⟨x, 1, none⟩ (.slice a2 m2 c2)) ∧ Below w1.heap.size w1 w2 := by
 obtain ⟨a, c, a2, c2, rfl, h1, h2, h3, h4, h5⟩ := h
 refine ⟨_, _, _, _, _, _, rfl, ⟨a, c, a2, c2, rfl, ?_, ?_, fun h q e => Nat.le_trans hB1.size (h3 h q e), fun h q e => Nat.le_trans hB1.size (h4 h q e), ?_⟩, h5⟩
 · exact (h1.set' (fun h q e => by have := h3 h q e; omega) _ _).set' (fun h q e => by have := h3 h q e; omega) _ _
 · exact (h2.set' (fun h q e => by have := h4 h q e; omega) _ _).set' (fun h q e => by have := h4 h q e; omega) _ _
 · exact ((hB1.trans (h5.mono hB1.size)).setCell hx _).setCell hx _
theorem pNext_any (id n c n2 c2 : Nat) (kd : Int) (a a2 : Option Addr) (V L : List Nat) (hn : V.length = n) (hl : n ≤ 140737488351232) (hn2 : L.length = n2) (hl2 : n2 ≤ 140737488351232) (w : World) (hV : Us w a V) (hU : Us w a2 L) :
 Calls Tryz.prog 25 #[.agg #[.slice a n c, .slice a2 n2 c2], .agg #[.int .i64 kd, .int .u64 id]] w (NxF w (nxtF V L kd id)) := by
 have B0 : Below w.heap.size w (((w.alloc (.cells #[.slice a n c, .slice a2 n2 c2] 25)).alloc (.cells #[.int .i64 kd, .int .u64 id] 36)).alloc (.cells #[.slice none 0 0, .slice none 0 0] 25)) := by go_grown
 have C0 := ((Cb.new (w := w) rfl (.slice a n c) (.slice a2 n2 c2) 25).past (.cells #[.int .i64 kd, .int .u64 id] 36)).past (.cells #[.slice none 0 0, .slice none 0 0] 25)
 have X0 := (Cb.new (w := w.alloc (.cells #[.slice a n c, .slice a2 n2 c2] 25)) rfl (.int .i64 kd) (.int .u64 id) 36).past (.cells #[.slice none 0 0, .slice none 0 0] 25)
 have D0 := Cb.new (w := (w.alloc (.cells #[.slice a n c, .slice a2 n2 c2] 25)).alloc (.cells #[.int .i64 kd, .int .u64 id] 36)) rfl (.slice none 0 0) (.slice none 0 0) 25
 have es : (w.alloc (.cells #[.slice a n c, .slice a2 n2 c2] 25)).heap.size = w.heap.size + 1 := by simp
 have es2 : ((w.alloc (.cells #[.slice a n c, .slice a2 n2 c2] 25)).alloc (.cells #[.int .i64 kd, .int .u64 id] 36)).heap.size = w.heap.size + 1 + 1 := by simp
 rw [es] at X0
 rw [es2] at D0
 have HV := hI_ (hV.later B0)
 have HU := hI_ (hU.later B0)
 have HN := hI_ hn
 have HN2 := hI_ hn2
 have HB := hI_ B0
 have HC := hI_ C0
 have HX := hI_ X0
 have HD := hI_ D0
 obtain ⟨r, hr⟩ : ∃ r, nxtF V L kd id = r := ⟨_, rfl⟩
 rw [hr]
 have HR := hI_ hr
 clear hV hU hn hn2 hr es es2 B0 X0 D0
 obtain ⟨mb, hmb⟩ : ∃ m, mayB V L = m := ⟨_, rfl⟩
 have HMB := hI_ hmb
 clear hmb
 go_enter Tryz.func25, Tryz.ntmps25
 go_wp2_with fail
 generalize hW : ((w.alloc (.cells #[.slice a n c, .slice a2 n2 c2] 25)).alloc (.cells #[.int .i64 kd, .int .u64 id] 36)).alloc (.cells #[.slice none 0 0, .slice none 0 0] 25) = W at *
 clear hW
 obtain ⟨c0, c1, _, _⟩ := C0
 go_wp2_with fail
 clear c0 c1
 refine (pMay_any n c n2 c2 a a2 V L HN.out hl HN2.out hl2 _ HV.out HU.out).mono ?_
 rintro e w1 ⟨rfl, hb1⟩
 rw [HMB.out]
 have HC1 := hI_ (HC.out.later hb1)
 have HX1 := hI_ (HX.out.later hb1)
 have HD1 := hI_ (HD.out.later hb1)
 have HB1 := hI_ (HB.out.trans (hb1.mono HB.out.size))
 have HV1 := hI_ (HV.out.later hb1)
 have HU1 := hI_ (HU.out.later hb1)
 clear hb1 HC HX HD HV HU HB
 obtain ⟨x0, x1, _, _⟩ := HX1.out
 obtain ⟨d0, d1, dz, dl⟩ := HD1.out
 cases mb
 case false =>
  have HT := hI_ (show r = (([], []), 1) by rw [← HR.out]; unfold nxtF; rw [HMB.out]; rfl)
  go_wp2_with fail
  refine bodyPost_ret (v := .tuple #[.agg #[.slice none 0 0, .slice none 0 0], .int .i64 1]) (by simp [results, Tryz.results25, go_sem, d0, d1]) rfl ?_
  exact nx_no HT.out ((HB1.out.setCell (by show w.heap.size ≤ w.heap.size + 1 + 1; omega) _).setCell (by show w.heap.size ≤ w.heap.size + 1 + 1; omega) _)
 obtain ⟨⟨m1, m2, m3⟩, m4, m5, m6, m7, m8⟩ := mayB_iff.1 HMB.out
 have HM := hI_ (And.intro m1 (And.intro m2 (And.intro m3 (And.intro m5 (And.intro m7 m8)))))
 clear m1 m2 m3 m4 m5 m6 m7 m8
 go_wp2_with fail
 refine (pMayId_any id _).mono ?_
 rintro e w2 ⟨rfl, rfl⟩
 by_cases hid : 1 ≤ id ∧ id ≤ 63
 case neg =>
  have HT := hI_ (show r = (([], []), 1) by rw [← HR.out]; unfold nxtF; rw [HMB.out, decide_eq_false hid]; rfl)
  rw [decide_eq_false hid]
  clear hid
  go_wp2_with fail
  refine bodyPost_ret (v := .tuple #[.agg #[.slice none 0 0, .slice none 0 0], .int .i64 1]) (by simp [results, Tryz.results25, go_sem, d0, d1]) rfl ?_
  exact nx_no HT.out ((HB1.out.setCell (by show w.heap.size ≤ w.heap.size + 1 + 1; omega) _).setCell (by show w.heap.size ≤ w.heap.size + 1 + 1; omega) _)
 rw [decide_eq_true hid]
 have HRR := hI_ (show (if kd = 1 then lrnF id V L else if kd = 2 then votF id V L else if kd = 3 then levF id V L else (([], []), 1)) = r by rw [← HR.out]; unfold nxtF; rw [HMB.out, decide_eq_true hid]; rfl)
 clear hid
 obtain ⟨c0, c1, _, _⟩ := HC1.out
 by_cases k1 : kd = 1
 · subst k1
   have HT := hI_ (show lrnF id V L = r by rw [← HRR.out]; rfl)
   go_wp2_with fail
   refine (learn_any id n c n2 c2 a a2 V L HN.out (by have := HM.out; have := HN.out; omega) HN2.out (by have := HM.out; have := HN2.out; omega) (asc_of_pairwise HM.out.2.2.2.2.1) _ HV1.out HU1.out).mono ?_
   intro e w3 hnx
   obtain ⟨ua, um, uc, va, vm, vc, rfl, hnx2, hb3⟩ := nx_laid (x := w.heap.size + 1 + 1) (by omega) dl HB1.out hnx
   have HF := hI_ (show NxF w r (.returned (.tuple #[.agg #[.slice ua um uc, .slice va vm vc], .int .i64 r.2])) ((w3.setCell ⟨w.heap.size + 1 + 1, 0, none⟩ (.slice ua um uc)).setCell ⟨w.heap.size + 1 + 1, 1, none⟩ (.slice va vm vc)) from HT.out ▸ hnx2)
   rw [HT.out]
   have HD3 := HD1.out.later hb3
   clear hnx hnx2 hb3 d0 d1 dz dl c0 c1 x0 x1
   obtain ⟨d0, d1, dz, dl⟩ := HD3
   obtain ⟨rr, hrr⟩ : ∃ rr, r.2 = rr := ⟨_, rfl⟩
   rw [hrr] at HF ⊢
   clear hrr
   go_wp2_with fail
   refine bodyPost_ret (v := .tuple #[.agg #[.slice ua um uc, .slice va vm vc], .int .i64 rr]) (by simp [results, Tryz.results25, go_sem, d0, d1]) rfl ?_
   exact HF.out
 have g1 : (kd == 1) = false := by simpa using k1
 by_cases k2 : kd = 2
 · subst k2
   have HT := hI_ (show votF id V L = r by rw [← HRR.out]; rfl)
   clear k1
   go_wp2_with fail
   refine (vote_any id n c n2 c2 a a2 V L HN.out (by have := HM.out; have := HN.out; omega) HN2.out (by have := HM.out; have := HN2.out; omega) (asc_of_pairwise HM.out.2.2.2.1) (fun h => HM.out.2.2.2.2.2 id (hasN_iff.1 h)) _ HV1.out HU1.out).mono ?_
   intro e w3 hnx
   obtain ⟨ua, um, uc, va, vm, vc, rfl, hnx2, hb3⟩ := nx_laid (x := w.heap.size + 1 + 1) (by omega) dl HB1.out hnx
   have HF := hI_ (show NxF w r (.returned (.tuple #[.agg #[.slice ua um uc, .slice va vm vc], .int .i64 r.2])) ((w3.setCell ⟨w.heap.size + 1 + 1, 0, none⟩ (.slice ua um uc)).setCell ⟨w.heap.size + 1 + 1, 1, none⟩ (.slice va vm vc)) from HT.out ▸ hnx2)
   rw [HT.out]
   have HD3 := HD1.out.later hb3
   clear hnx hnx2 hb3 d0 d1 dz dl c0 c1 x0 x1
   obtain ⟨d0, d1, dz, dl⟩ := HD3
   obtain ⟨rr, hrr⟩ : ∃ rr, r.2 = rr := ⟨_, rfl⟩
   rw [hrr] at HF ⊢
   clear hrr
   go_wp2_with fail
   refine bodyPost_ret (v := .tuple #[.agg #[.slice ua um uc, .slice va vm vc], .int .i64 rr]) (by simp [results, Tryz.results25, go_sem, d0, d1]) rfl ?_
   exact HF.out
 have g2 : (kd == 2) = false := by simpa using k2
 by_cases k3 : kd = 3
 · subst k3
   have HT := hI_ (show levF id V L = r by rw [← HRR.out]; rfl)
   clear k1 k2
   go_wp2_with fail
   refine (leave_any id n c n2 c2 a a2 V L HN.out (by have := HM.out; have := HN.out; omega) HN2.out (by have := HM.out; have := HN2.out; omega) _ HV1.out HU1.out).mono ?_
   intro e w3 hnx
   obtain ⟨ua, um, uc, va, vm, vc, rfl, hnx2, hb3⟩ := nx_laid (x := w.heap.size + 1 + 1) (by omega) dl HB1.out hnx
   have HF := hI_ (show NxF w r (.returned (.tuple #[.agg #[.slice ua um uc, .slice va vm vc], .int .i64 r.2])) ((w3.setCell ⟨w.heap.size + 1 + 1, 0, none⟩ (.slice ua um uc)).setCell ⟨w.heap.size + 1 + 1, 1, none⟩ (.slice va vm vc)) from HT.out ▸ hnx2)
   rw [HT.out]
   have HD3 := HD1.out.later hb3
   clear hnx hnx2 hb3 d0 d1 dz dl c0 c1 x0 x1
   obtain ⟨d0, d1, dz, dl⟩ := HD3
   obtain ⟨rr, hrr⟩ : ∃ rr, r.2 = rr := ⟨_, rfl⟩
   rw [hrr] at HF ⊢
   clear hrr
   go_wp2_with fail
   refine bodyPost_ret (v := .tuple #[.agg #[.slice ua um uc, .slice va vm vc], .int .i64 rr]) (by simp [results, Tryz.results25, go_sem, d0, d1]) rfl ?_
   exact HF.out
 have g3 : (kd == 3) = false := by simpa using k3
 have HT := hI_ (show r = (([], []), 1) by rw [← HRR.out, if_neg k1, if_neg k2, if_neg k3])
 clear k1 k2 k3
 go_wp2_with fail
 refine bodyPost_ret (v := .tuple #[.agg #[.slice none 0 0, .slice none 0 0], .int .i64 1]) (by simp [results, Tryz.results25, go_sem, d0, d1]) rfl ?_
 exact nx_no HT.out ((HB1.out.setCell (by show w.heap.size ≤ w.heap.size + 1 + 1; omega) _).setCell (by show w.heap.size ≤ w.heap.size + 1 + 1; omega) _)
end Go.Proofs.YtdcpiaoadbbdoaaGreatDoor
