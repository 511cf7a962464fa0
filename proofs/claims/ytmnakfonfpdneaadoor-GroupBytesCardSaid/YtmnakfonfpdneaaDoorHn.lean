/- The program's changes: learn. -/
import Derived.Test.YtmnakfonfpdneaaDoorHk
import Derived.Test.YtmnakfonfpdneaaDoorGd
import Derived.Deep.RegionHeld3
namespace Go.Proofs.YtmnakfonfpdneaaDoor
open Go.RowKit

/-- What a change answers. -/
def NxP (w : World) (V L : List Nat) (k : Int) (e : Ending) (w' : World) : Prop := ∃ a c a2 c2, e = .returned (.tuple #[.agg #[.slice a V.length c, .slice a2 L.length c2], .int .i64 k]) ∧ Us w' a V ∧ Us w' a2 L ∧ (0 < V.length → ∀ q, a = some q → w.heap.size ≤ q.block) ∧ (0 < L.length → ∀ q, a2 = some q → w.heap.size ≤ q.block) ∧ Below w.heap.size w w'
theorem keepB {w w1 w2 : World} {u v : Value} (h : w1.cell? ⟨w.heap.size, 0, none⟩ = some u ∧ w1.cell? ⟨w.heap.size, 1, none⟩ = some v ∧ w.heap.size + 1 < w1.heap.size ∧ Below w.heap.size w w1) (hb : Below w1.heap.size w1 w2) :
    w2.cell? ⟨w.heap.size, 0, none⟩ = some u ∧ w2.cell? ⟨w.heap.size, 1, none⟩ = some v ∧ w.heap.size + 1 < w2.heap.size ∧ Below w.heap.size w w2 := by
  obtain ⟨h0, h1, h2, h3⟩ := h
  exact ⟨(hb.cell (p := ⟨w.heap.size, 0, none⟩) (by simp; omega)).trans h0, (hb.cell (p := ⟨w.heap.size, 1, none⟩) (by simp; omega)).trans h1, Nat.lt_of_lt_of_le h2 hb.size, h3.trans (hb.mono h3.size)⟩
def NxF (w : World) (r : (List Nat × List Nat) × Int) (e : Ending) (w' : World) : Prop := NxP w r.1.1 r.1.2 r.2 e w'
def lrnF (id : Nat) (V L : List Nat) : (List Nat × List Nat) × Int := if hasN id V || hasN id L then (([], []), 8) else if 3 ≤ L.length then (([], []), 5) else ((V, putN id L), 0)
def votF (id : Nat) (V L : List Nat) : (List Nat × List Nat) × Int := if !hasN id L then (([], []), 7) else if 7 ≤ V.length then (([], []), 5) else ((putN id V, lessN id L), 0)
def levF (id : Nat) (V L : List Nat) : (List Nat × List Nat) × Int := if !hasN id V && !hasN id L then (([], []), 7) else if hasN id V && decide (V.length = 1) then (([], []), 5) else ((lessN id V, lessN id L), 0)
/-- A refusal. -/
theorem nx_no {w w' : World} {r : (List Nat × List Nat) × Int} {k : Int} (h : r = (([], []), k)) (hb : Below w.heap.size w w') : NxF w r (.returned (.tuple #[.agg #[.slice none 0 0, .slice none 0 0], .int .i64 k])) w' := by
  subst h; exact ⟨none, 0, none, 0, rfl, Us.nil _ _, Us.nil _ _, fun h => absurd h (Nat.not_lt_zero _), fun h => absurd h (Nat.not_lt_zero _), hb⟩
theorem nx_yes {w w' : World} {r : (List Nat × List Nat) × Int} {V L : List Nat} {a a2 : Option Addr} {n c n2 c2 : Nat} (h : r = ((V, L), 0)) (hn : V.length = n) (hn2 : L.length = n2) (h1 : Us w' a V) (h2 : Us w' a2 L) (h3 : 0 < V.length → ∀ q, a = some q → w.heap.size ≤ q.block) (h4 : 0 < L.length → ∀ q, a2 = some q → w.heap.size ≤ q.block) (hb : Below w.heap.size w w') : NxF w r (.returned (.tuple #[.agg #[.slice a n c, .slice a2 n2 c2], .int .i64 0])) w' := by
  subst h hn hn2; exact ⟨a, c, a2, c2, rfl, h1, h2, h3, h4, hb⟩
theorem not_has {id : Nat} {L : List Nat} (h : hasN id L = false) : id ∉ L := hasN_not.1 h
/-- Two stores into the second box. -/
theorem two_below {w w' : World} (h : Below w.heap.size w w') (u v : Value) : Below w.heap.size w ((w'.setCell ⟨w.heap.size + 1, 0, none⟩ u).setCell ⟨w.heap.size + 1, 1, none⟩ v) := (h.setCell (Nat.le_succ _) u).setCell (Nat.le_succ _) v
theorem keepT {w w1 : World} {u v : Value} (h : w1.cell? ⟨w.heap.size, 0, none⟩ = some u ∧ w1.cell? ⟨w.heap.size, 1, none⟩ = some v ∧ w.heap.size + 1 < w1.heap.size ∧ Below w.heap.size w w1) (p q : Value) :
    ((w1.setCell ⟨w.heap.size + 1, 0, none⟩ p).setCell ⟨w.heap.size + 1, 1, none⟩ q).cell? ⟨w.heap.size, 0, none⟩ = some u ∧ ((w1.setCell ⟨w.heap.size + 1, 0, none⟩ p).setCell ⟨w.heap.size + 1, 1, none⟩ q).cell? ⟨w.heap.size, 1, none⟩ = some v ∧ w.heap.size + 1 < ((w1.setCell ⟨w.heap.size + 1, 0, none⟩ p).setCell ⟨w.heap.size + 1, 1, none⟩ q).heap.size ∧ Below w.heap.size w ((w1.setCell ⟨w.heap.size + 1, 0, none⟩ p).setCell ⟨w.heap.size + 1, 1, none⟩ q) := by
  obtain ⟨h0, h1, h2, h3⟩ := h
  have hne : w.heap.size + 1 ≠ w.heap.size := by omega
  exact ⟨(World.cell?_setCell_far _ _ _ _ hne).trans ((World.cell?_setCell_far _ _ _ _ hne).trans h0), (World.cell?_setCell_far _ _ _ _ hne).trans ((World.cell?_setCell_far _ _ _ _ hne).trans h1), by simpa using h2, two_below h3 p q⟩
/-- What two stores leave of lists elsewhere. -/
theorem us_two' {w w1 : World} {a : Option Addr} {L : List Nat} (h : Us w1 a L) (hne : 0 < L.length → ∀ q, a = some q → q.block ≠ w.heap.size + 1) (p q : Value) : Us ((w1.setCell ⟨w.heap.size + 1, 0, none⟩ p).setCell ⟨w.heap.size + 1, 1, none⟩ q) a L := (h.set' hne 0 p).set' hne 1 q
set_option maxRecDepth 100000 in
set_option maxHeartbeats 4000000 in
theorem learn_any (id n c n2 c2 : Nat) (a a2 : Option Addr) (V L : List Nat) (hn : V.length = n) (hl : n ≤ 7) (hn2 : L.length = n2) (hl2 : n2 ≤ 3) (hs2 : Asc L) (w : World) (hV : Us w a V) (hU : Us w a2 L) :
    Calls Tryd.prog 30 #[.agg #[.slice a n c, .slice a2 n2 c2], .int .u64 id] w (NxF w (lrnF id V L)) := by
  have B0 : Below w.heap.size w ((w.alloc (.cells #[.slice a n c, .slice a2 n2 c2] 24)).alloc (.cells #[.slice none 0 0, .slice none 0 0] 24)) := by go_grown
  have C0 := (Cb.new (w := w) rfl (.slice a n c) (.slice a2 n2 c2) 24).past (.cells #[.slice none 0 0, .slice none 0 0] 24)
  have D0 := Cb.new (w := w.alloc (.cells #[.slice a n c, .slice a2 n2 c2] 24)) rfl (.slice none 0 0) (.slice none 0 0) 24
  have es : (w.alloc (.cells #[.slice a n c, .slice a2 n2 c2] 24)).heap.size = w.heap.size + 1 := by simp
  rw [es] at D0
  have HV := Lib.hid (hV.later B0)
  have HU := Lib.hid (hU.later B0)
  have HN := Lib.hid hn
  have HN2 := Lib.hid hn2
  have HS2 := Lib.hid hs2
  have HB := Lib.hid B0
  obtain ⟨x, hx⟩ : ∃ x, hasN id V = x := ⟨_, rfl⟩
  obtain ⟨y, hy⟩ : ∃ y, hasN id L = y := ⟨_, rfl⟩
  obtain ⟨r, hr⟩ : ∃ r, lrnF id V L = r := ⟨_, rfl⟩
  have HR := Lib.hid (show (if x || y then (([], []), 8) else if 3 ≤ n2 then (([], []), 5) else ((V, putN id L), 0)) = r by rw [← hx, ← hy, ← hn2, ← hr]; rfl)
  rw [hr]
  have HX := Lib.hid hx
  have HY := Lib.hid hy
  clear hV hU hn hn2 hs2 hx hy hr es B0
  go_enter Tryd.func30, Tryd.ntmps30
  go_wp2_with fail
  generalize hW : (w.alloc (.cells #[.slice a n c, .slice a2 n2 c2] 24)).alloc (.cells #[.slice none 0 0, .slice none 0 0] 24) = W at *
  clear hW
  obtain ⟨c0, c1, fz, lt⟩ := C0
  obtain ⟨d0, d1, dz, dl⟩ := D0
  go_wp2_with fail
  refine (pContains_any id n c a V HN.out (by omega) _ HV.out).mono ?_
  rintro e w1 ⟨rfl, rfl⟩
  rw [HX.out]
  cases x
  case true =>
    have HT := Lib.hid (show r = (([], []), 8) by rw [← HR.out]; rfl)
    go_wp2_with fail
    refine bodyPost_ret (v := .tuple #[.agg #[.slice none 0 0, .slice none 0 0], .int .i64 8]) (by simp [results, Tryd.results30, go_sem, d0, d1]) rfl ?_
    exact nx_no HT.out (two_below HB.out _ _)
  go_wp2_with fail
  refine (pContains_any id n2 c2 a2 L HN2.out (by omega) _ HU.out).mono ?_
  rintro e w1 ⟨rfl, rfl⟩
  rw [HY.out]
  cases y
  case true =>
    have HT := Lib.hid (show r = (([], []), 8) by rw [← HR.out]; rfl)
    go_wp2_with fail
    refine bodyPost_ret (v := .tuple #[.agg #[.slice none 0 0, .slice none 0 0], .int .i64 8]) (by simp [results, Tryd.results30, go_sem, d0, d1]) rfl ?_
    exact nx_no HT.out (two_below HB.out _ _)
  by_cases h3 : 3 ≤ n2
  · have g : (3 : Int) ≤ (n2 : Int) := by omega
    have HT := Lib.hid (show r = (([], []), 5) by rw [← HR.out, if_pos h3]; rfl)
    clear h3
    go_wp2_with fail
    refine bodyPost_ret (v := .tuple #[.agg #[.slice none 0 0, .slice none 0 0], .int .i64 5]) (by simp [results, Tryd.results30, go_sem, d0, d1]) rfl ?_
    exact nx_no HT.out (two_below HB.out _ _)
  have g : ¬ (3 : Int) ≤ (n2 : Int) := by omega
  have HT := Lib.hid (show r = ((V, putN id L), 0) by rw [← HR.out, if_neg h3]; rfl)
  clear h3
  go_wp2_with fail
  have K1 : W.drew.cell? ⟨w.heap.size, 0, none⟩ = some (.slice a n c) ∧ W.drew.cell? ⟨w.heap.size, 1, none⟩ = some (.slice a2 n2 c2) ∧ w.heap.size + 1 < W.drew.heap.size ∧ Below w.heap.size w W.drew := ⟨c0, c1, dl, HB.out.drew⟩
  have D1 := Lib.hid ((Cb.mk d0 d1 dz dl).later (Below.refl _ _).drew)
  clear c0 c1 d0 d1 dz dl fz lt
  go_region_held3 (fun w' => w'.cell? ⟨w.heap.size, 0, none⟩ = some (.slice a n c) ∧ w'.cell? ⟨w.heap.size, 1, none⟩ = some (.slice a2 n2 c2) ∧ w.heap.size + 1 < w'.heap.size ∧ Below w.heap.size w w')
    (first | (with_reducible assumption) | (with_reducible exact keepT K3 _ _) | go_keep)
    (first
      | (go_at_call 47; (with_reducible refine (cloneU_any n c a V HN.out (by omega) _ (HV.out.later (Below.refl _ _).drew)).mono ?_); rintro e w2 ⟨v1, rfl, hc1, hb2⟩; obtain ⟨a3, c3, rfl, hU3, hf3, _⟩ := hc1.form; have HU3 := Lib.hid (And.intro hU3 hf3); have HBA := Lib.hid hb2; have K2 := keepB K1 hb2; have D2 := Lib.hid (D1.out.later hb2); rw [HN.out])
      | (go_at_call 48; (with_reducible refine (with_any id n2 c2 a2 L HN2.out (by omega) HS2.out (not_has HY.out) _ ((HU.out.later (Below.refl _ _).drew).later HBA.out)).mono ?_); rintro e w3 ⟨a4, c4, rfl, hU4, hf4, hb3⟩; have HU4 := Lib.hid (And.intro hU4 hf4); have HBC := Lib.hid hb3; have K3 := keepB K2 hb3; obtain ⟨d0, d1, dz, dl⟩ := D2.out.later hb3))
  have HQ := Lib.hid (show NxF w r (.returned (.tuple #[.agg #[.slice a3 n c3, .slice a4 (putN id L).length c4], .int .i64 0])) ((w3.setCell ⟨w.heap.size + 1, 0, none⟩ (.slice a3 n c3)).setCell ⟨w.heap.size + 1, 1, none⟩ (.slice a4 (putN id L).length c4)) from
    nx_yes HT.out HN.out rfl (us_two' (HU3.out.1.later HBC.out) (fun h q e => by have := HU3.out.2 h q e; have := K1.2.2.1; omega) _ _) (us_two' HU4.out.1 (fun h q e => by have := HU4.out.2 h q e; have := K2.2.2.1; omega) _ _) (fun h q e => by have := HU3.out.2 h q e; have := K1.2.2.1; omega) (fun h q e => by have := HU4.out.2 h q e; have := K2.2.2.1; omega) (two_below K3.2.2.2 _ _))
  clear K1 K2 K3 hU3 hU4 hf3 hf4 hb2 hb3 hc1
  generalize (Value.slice a3 n c3) = R3 at *
  generalize (Value.slice a4 (putN id L).length c4) = R4 at *
  go_wp2_with fail
  refine bodyPost_ret (v := .tuple #[.agg #[R3, R4], .int .i64 0]) (by simp [results, Tryd.results30, go_sem, d0, d1]) rfl ?_
  exact HQ.out
end Go.Proofs.YtmnakfonfpdneaaDoor
