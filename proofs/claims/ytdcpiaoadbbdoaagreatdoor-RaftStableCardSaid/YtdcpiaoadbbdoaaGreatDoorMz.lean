/- The reference of layer 4: May: the loop over the entries. -/
import Derived.Test.YtdcpiaoadbbdoaaGreatDoorRtake
import Derived.Test.YtdcpiaoadbbdoaaGreatDoorZk
import Derived.IntWalk
set_option maxRecDepth 100000
set_option maxHeartbeats 16000000
namespace Go.Proofs.YtdcpiaoadbbdoaaGreatDoor
open Go.RowKit

theorem may_l1 (term vote base bt n c : Nat) (snap : ByteArray) (a : Option Addr) (L : List En) (hn : L.length = n) (hD : ∀ x ∈ L, x.d.size ≤ 140737488351232) (w : World) (hE : Ents w a L) (h1 : ¬ 4611686018427387903 < term) (h2 : ¬ 4611686018427387903 < vote) (h3 : ¬ 1099511627776 < base) (h4 : ¬ 1024 < n) (h5 : ¬ 1099511627776 < base + n) (h6 : ¬ 4096 < snap.size) (h7 : ¬ term < bt) (h8 : ¬ base = 0) :
 Calls Tryz.prog 20 #[.agg #[.int .u64 term, .int .u64 vote, .int .u64 base, .int .u64 bt, .string snap, .slice a n c]] w (MayP (stOk term vote base bt snap L) w) := by
 have gb : ((base : Int) == 0) = false := by simp [h8]
 have HN := hI_ hn; clear hn
 have g1 : ¬ (4611686018427387903 : Int) < (term : Int) := by omega
 have g2 : ¬ (4611686018427387903 : Int) < (vote : Int) := by omega
 have g3 : ¬ (1099511627776 : Int) < (base : Int) := by omega
 have g4 : ¬ (1024 : Int) < (n : Int) := by omega
 have g5 : ¬ (1099511627776 : Int) < ((base + n : Nat) : Int) := by omega
 have g6 : ¬ (4096 : Int) < (snap.size : Int) := by omega
 have g7 : ¬ (term : Int) < (bt : Int) := by omega
 go_enter Tryz.func20, Tryz.ntmps20
 go_wp2_with fail
 have hB : Below w.heap.size w ((w.alloc (.cells #[.int .u64 term, .int .u64 vote, .int .u64 base, .int .u64 bt, .string snap, .slice a n c] 30)).alloc (.cells #[.int .u64 base, .int .u64 bt, .string snap, .slice a n c] 28)) := by go_grown
 refine (refLast_any _ _ _ _ _ _ _ (by omega) (by omega)).mono ?_
 rintro e w1 ⟨rfl, hb1⟩
 have x0 : w1.cell? ⟨w.heap.size, 0, none⟩ = some (.int .u64 term) := (hb1.cell (p := ⟨w.heap.size, 0, none⟩) (by simp; omega)).trans (by simp [go_sem])
 have y0 : w1.cell? ⟨w.heap.size + 1, 0, none⟩ = some (.int .u64 base) := (hb1.cell (p := ⟨w.heap.size + 1, 0, none⟩) (by simp)).trans (by simp [go_sem])
 have y1 : w1.cell? ⟨w.heap.size + 1, 1, none⟩ = some (.int .u64 bt) := (hb1.cell (p := ⟨w.heap.size + 1, 1, none⟩) (by simp)).trans (by simp [go_sem])
 have y2 : w1.cell? ⟨w.heap.size + 1, 2, none⟩ = some (.string snap) := (hb1.cell (p := ⟨w.heap.size + 1, 2, none⟩) (by simp)).trans (by simp [go_sem])
 have y3 : w1.cell? ⟨w.heap.size + 1, 3, none⟩ = some (.slice a n c) := (hb1.cell (p := ⟨w.heap.size + 1, 3, none⟩) (by simp)).trans (by simp [go_sem])
 have hz1 : w.heap.size + 1 < w1.heap.size := by have := hb1.size; simp at this; omega
 have B1 := hB.trans (hb1.mono hB.size)
 clear hb1 hB
 go_wp2_with fail
 have g := hE.later B1
 have HD := hI_ hD; clear hD
 go_loopw [4] (fun i wr => ∃ k : Nat, k ≤ n ∧ i = .int .i64 k ∧ (∀ j, j < k → entOk term bt L j) ∧ Below w1.heap.size w1 wr) (fun i _ => n - (intOf i).toNat)
 case atStart => exact ⟨0, Nat.zero_le _, rfl, fun j h => absurd h (Nat.not_lt_zero j), Below.refl _ _⟩
 case round =>
  obtain ⟨k, hk, rfl, hok, B⟩ := hrel
  have BA := B1.trans (B.mono B1.size)
  have X0 := (B.cell (p := ⟨w.heap.size, 0, none⟩) (by show w.heap.size < _; omega)).trans x0
  have Y1 := (B.cell (p := ⟨w.heap.size + 1, 1, none⟩) hz1).trans y1
  have Y3 := (B.cell (p := ⟨w.heap.size + 1, 3, none⟩) hz1).trans y3
  have hz2 : w.heap.size + 1 < wr.heap.size := Nat.lt_of_lt_of_le hz1 B.size
  have hz3 : w.heap.size < wr.heap.size := by omega
  by_cases hlt : k < n
  · have hkl : k < L.length := by have := HN.out; omega
    obtain ⟨x, hx⟩ : ∃ x, L[k]? = some x := ⟨_, List.getElem?_eq_getElem hkl⟩
    obtain ⟨b, off, rfl, hbb, p0, p1⟩ := (g.later B) k x hx
    have hxd : x.d.size ≤ 140737488351232 := HD.out x (List.mem_of_getElem? hx)
    have hprev : 0 < k → ∃ y, L[k - 1]? = some y ∧ wr.cell? ⟨b, off + (k - 1) * 2, none⟩ = some (.int .u64 (y.t : Nat)) := fun h0 => by
     obtain ⟨y, hy⟩ : ∃ y, L[k - 1]? = some y := ⟨_, List.getElem?_eq_getElem (by omega)⟩
     obtain ⟨b', off', e, _, q0, _⟩ := (g.later B) (k - 1) y hy
     cases e
     exact ⟨y, hy, q0⟩
    have HPV := hI_ hprev; clear hprev
    have i0 : (0 : Int) ≤ (k : Int) := by omega
    have i1 : (k : Int) < (n : Int) := by omega
    have HX := hI_ hx; clear hx
    obtain ⟨T, D⟩ := x
    simp only at p0 p1 hxd
    clear x0 y0 y1 y2 y3
    have HOKS := hI_ hok; clear hok
    by_cases c1 : term < T
    · have hno : ¬ stOk term vote base bt snap L := by
       rintro ⟨_, _, _, _, _, _, _, _, h⟩
       have := (h k _ HX.out).1; simp only at this; omega
      have HNO := hI_ hno; clear hno
      have d1 : (term : Int) < (T : Int) := by omega
      go_wp2_with fail
      go_quiet (fail)
      go_wp2_with fail
      go_ret
      exact mayP_no HNO.out (below_drewN (BA.alloc BA.size _) _)
    by_cases c2 : T < bt
    · have hno : ¬ stOk term vote base bt snap L := by
       rintro ⟨_, _, _, _, _, _, _, _, h⟩
       have := (h k _ HX.out).2.1; simp only at this; omega
      have HNO := hI_ hno; clear hno
      have d1 : ¬ (term : Int) < (T : Int) := by omega
      have d2 : (T : Int) < (bt : Int) := by omega
      go_wp2_with fail
      go_quiet (fail)
      go_wp2_with fail
      go_ret
      exact mayP_no HNO.out (below_drewN (BA.alloc BA.size _) _)
    by_cases k0 : 0 < k
    · obtain ⟨y, hy, p2⟩ := HPV.out k0
      have d1 : ¬ (term : Int) < (T : Int) := by omega
      have d2 : ¬ (T : Int) < (bt : Int) := by omega
      have d3 : (0 : Int) < (k : Int) := by omega
      have HY := hI_ hy; clear hy
      have e1 : IntKind.i64.wrap ((k : Int) - 1) = (k : Int) - 1 := IntWalk.i64_in _ (by omega)
      have e2 : (0 : Int) ≤ (k : Int) - 1 := by omega
      have e2' : (1 : Int) ≤ (k : Int) := by omega
      have e3 : ((k : Int) - 1).toNat = k - 1 := by omega
      have e4 : (k : Int) - 1 < (n : Int) := by omega
      by_cases c3 : T < y.t
      · have hno : ¬ stOk term vote base bt snap L := by
         rintro ⟨_, _, _, _, _, _, _, _, h⟩
         have := (h k _ HX.out).2.2.1 y k0 HY.out; simp only at this; omega
        have HNO := hI_ hno; clear hno
        have d4 : (T : Int) < (y.t : Int) := by omega
        go_wp2_with fail
        go_quiet (fail)
        go_wp2_with fail
        go_ret
        exact mayP_no HNO.out (below_drewN (BA.alloc BA.size _) _)
      by_cases c4 : 4096 < D.size
      · have hno : ¬ stOk term vote base bt snap L := by
         rintro ⟨_, _, _, _, _, _, _, _, h⟩
         have := (h k _ HX.out).2.2.2; simp only at this; omega
        have HNO := hI_ hno; clear hno
        have d4 : ¬ (T : Int) < (y.t : Int) := by omega
        have d5 : (4096 : Int) < (D.size : Int) := by omega
        go_wp2_with fail
        go_quiet (fail)
        go_wp2_with fail
        go_ret
        exact mayP_no HNO.out (below_drewN (BA.alloc BA.size _) _)
      · have d4 : ¬ (T : Int) < (y.t : Int) := by omega
        have d5 : ¬ (4096 : Int) < (D.size : Int) := by omega
        have hok2 : ∀ j, j < k + 1 → entOk term bt L j := fun j hj => by
         rcases Nat.lt_succ_iff_lt_or_eq.1 hj with h | rfl
         · exact HOKS.out j h
         · intro z hz
           obtain rfl := Option.some.inj (HX.out.symm.trans hz)
           exact ⟨by show T ≤ term; omega, by show bt ≤ T; omega, fun z' _ hz' => by obtain rfl := Option.some.inj (HY.out.symm.trans hz'); show y.t ≤ T; omega, by show D.size ≤ 4096; omega⟩
        have HOK := hI_ hok2; clear hok2
        go_wp2_with fail
        go_quiet (fail)
        go_wp2_with fail
        go_roundw
        case rel => exact ⟨k + 1, by omega, by go_num, HOK.out, below_drewN (B.alloc B.size _) _⟩
        case measure => simp [intOf]; omega
    · have d1 : ¬ (term : Int) < (T : Int) := by omega
      have d2 : ¬ (T : Int) < (bt : Int) := by omega
      obtain rfl : k = 0 := by omega
      simp only [Nat.zero_mul, Nat.add_zero] at p0 p1
      by_cases c4 : 4096 < D.size
      · have hno : ¬ stOk term vote base bt snap L := by
         rintro ⟨_, _, _, _, _, _, _, _, h⟩
         have := (h 0 _ HX.out).2.2.2; simp only at this; omega
        have HNO := hI_ hno; clear hno
        have d5 : (4096 : Int) < (D.size : Int) := by omega
        go_wp2_with fail
        go_quiet (fail)
        go_wp2_with fail
        go_ret
        exact mayP_no HNO.out (below_drewN (BA.alloc BA.size _) _)
      · have d5 : ¬ (4096 : Int) < (D.size : Int) := by omega
        have hok2 : ∀ j, j < 0 + 1 → entOk term bt L j := fun j hj => by
         rcases Nat.lt_succ_iff_lt_or_eq.1 hj with h | rfl
         · exact HOKS.out j h
         · intro z hz
           obtain rfl := Option.some.inj (HX.out.symm.trans hz)
           exact ⟨by show T ≤ term; omega, by show bt ≤ T; omega, fun _ h0 _ => absurd h0 (Nat.lt_irrefl 0), by show D.size ≤ 4096; omega⟩
        have HOK := hI_ hok2; clear hok2
        go_wp2_with fail
        go_quiet (fail)
        go_wp2_with fail
        go_roundw
        case rel => exact ⟨1, by omega, by go_num, HOK.out, below_drewN (B.alloc B.size _) _⟩
        case measure => simp [intOf]; omega
  · have hyes : stOk term vote base bt snap L := ⟨by omega, by omega, by omega, by rw [HN.out]; omega, by rw [HN.out]; omega, by omega, by omega, fun h => absurd h h8, fun j => by
     by_cases hj : j < k
     · exact hok j hj
     · intro z hz
       have := (List.getElem?_eq_some_iff.1 hz).1
       have := HN.out; omega⟩
    have HY := hI_ hyes; clear hyes hok
    go_wp2_with fail
    go_ret
    exact mayP_yes HY.out BA
theorem may_l0 (term vote base bt n c : Nat) (snap : ByteArray) (a : Option Addr) (L : List En) (hn : L.length = n) (hD : ∀ x ∈ L, x.d.size ≤ 140737488351232) (w : World) (hE : Ents w a L) (h1 : ¬ 4611686018427387903 < term) (h2 : ¬ 4611686018427387903 < vote) (h3 : ¬ 1099511627776 < base) (h4 : ¬ 1024 < n) (h5 : ¬ 1099511627776 < base + n) (h6 : ¬ 4096 < snap.size) (h7 : ¬ term < bt) (h8 : base = 0) (h9 : ¬ 0 < bt) (h10 : ¬ 0 < snap.size) :
 Calls Tryz.prog 20 #[.agg #[.int .u64 term, .int .u64 vote, .int .u64 base, .int .u64 bt, .string snap, .slice a n c]] w (MayP (stOk term vote base bt snap L) w) := by
 have gb : ((base : Int) == 0) = true := by simp [h8]
 have gc : ¬ (0 : Int) < (bt : Int) := by omega
 have gd : ¬ (0 : Int) < (snap.size : Int) := by omega
 clear h8
 have HN := hI_ hn; clear hn
 have g1 : ¬ (4611686018427387903 : Int) < (term : Int) := by omega
 have g2 : ¬ (4611686018427387903 : Int) < (vote : Int) := by omega
 have g3 : ¬ (1099511627776 : Int) < (base : Int) := by omega
 have g4 : ¬ (1024 : Int) < (n : Int) := by omega
 have g5 : ¬ (1099511627776 : Int) < ((base + n : Nat) : Int) := by omega
 have g6 : ¬ (4096 : Int) < (snap.size : Int) := by omega
 have g7 : ¬ (term : Int) < (bt : Int) := by omega
 go_enter Tryz.func20, Tryz.ntmps20
 go_wp2_with fail
 have hB : Below w.heap.size w ((w.alloc (.cells #[.int .u64 term, .int .u64 vote, .int .u64 base, .int .u64 bt, .string snap, .slice a n c] 30)).alloc (.cells #[.int .u64 base, .int .u64 bt, .string snap, .slice a n c] 28)) := by go_grown
 refine (refLast_any _ _ _ _ _ _ _ (by omega) (by omega)).mono ?_
 rintro e w1 ⟨rfl, hb1⟩
 have x0 : w1.cell? ⟨w.heap.size, 0, none⟩ = some (.int .u64 term) := (hb1.cell (p := ⟨w.heap.size, 0, none⟩) (by simp; omega)).trans (by simp [go_sem])
 have y0 : w1.cell? ⟨w.heap.size + 1, 0, none⟩ = some (.int .u64 base) := (hb1.cell (p := ⟨w.heap.size + 1, 0, none⟩) (by simp)).trans (by simp [go_sem])
 have y1 : w1.cell? ⟨w.heap.size + 1, 1, none⟩ = some (.int .u64 bt) := (hb1.cell (p := ⟨w.heap.size + 1, 1, none⟩) (by simp)).trans (by simp [go_sem])
 have y2 : w1.cell? ⟨w.heap.size + 1, 2, none⟩ = some (.string snap) := (hb1.cell (p := ⟨w.heap.size + 1, 2, none⟩) (by simp)).trans (by simp [go_sem])
 have y3 : w1.cell? ⟨w.heap.size + 1, 3, none⟩ = some (.slice a n c) := (hb1.cell (p := ⟨w.heap.size + 1, 3, none⟩) (by simp)).trans (by simp [go_sem])
 have hz1 : w.heap.size + 1 < w1.heap.size := by have := hb1.size; simp at this; omega
 have B1 := hB.trans (hb1.mono hB.size)
 clear hb1 hB
 go_wp2_with fail
 have g := hE.later B1
 have HD := hI_ hD; clear hD
 go_loopw [4] (fun i wr => ∃ k : Nat, k ≤ n ∧ i = .int .i64 k ∧ (∀ j, j < k → entOk term bt L j) ∧ Below w1.heap.size w1 wr) (fun i _ => n - (intOf i).toNat)
 case atStart => exact ⟨0, Nat.zero_le _, rfl, fun j h => absurd h (Nat.not_lt_zero j), Below.refl _ _⟩
 case round =>
  obtain ⟨k, hk, rfl, hok, B⟩ := hrel
  have BA := B1.trans (B.mono B1.size)
  have X0 := (B.cell (p := ⟨w.heap.size, 0, none⟩) (by show w.heap.size < _; omega)).trans x0
  have Y1 := (B.cell (p := ⟨w.heap.size + 1, 1, none⟩) hz1).trans y1
  have Y3 := (B.cell (p := ⟨w.heap.size + 1, 3, none⟩) hz1).trans y3
  have hz2 : w.heap.size + 1 < wr.heap.size := Nat.lt_of_lt_of_le hz1 B.size
  have hz3 : w.heap.size < wr.heap.size := by omega
  by_cases hlt : k < n
  · have hkl : k < L.length := by have := HN.out; omega
    obtain ⟨x, hx⟩ : ∃ x, L[k]? = some x := ⟨_, List.getElem?_eq_getElem hkl⟩
    obtain ⟨b, off, rfl, hbb, p0, p1⟩ := (g.later B) k x hx
    have hxd : x.d.size ≤ 140737488351232 := HD.out x (List.mem_of_getElem? hx)
    have hprev : 0 < k → ∃ y, L[k - 1]? = some y ∧ wr.cell? ⟨b, off + (k - 1) * 2, none⟩ = some (.int .u64 (y.t : Nat)) := fun h0 => by
     obtain ⟨y, hy⟩ : ∃ y, L[k - 1]? = some y := ⟨_, List.getElem?_eq_getElem (by omega)⟩
     obtain ⟨b', off', e, _, q0, _⟩ := (g.later B) (k - 1) y hy
     cases e
     exact ⟨y, hy, q0⟩
    have HPV := hI_ hprev; clear hprev
    have i0 : (0 : Int) ≤ (k : Int) := by omega
    have i1 : (k : Int) < (n : Int) := by omega
    have HX := hI_ hx; clear hx
    obtain ⟨T, D⟩ := x
    simp only at p0 p1 hxd
    clear x0 y0 y1 y2 y3
    have HOKS := hI_ hok; clear hok
    by_cases c1 : term < T
    · have hno : ¬ stOk term vote base bt snap L := by
       rintro ⟨_, _, _, _, _, _, _, _, h⟩
       have := (h k _ HX.out).1; simp only at this; omega
      have HNO := hI_ hno; clear hno
      have d1 : (term : Int) < (T : Int) := by omega
      go_wp2_with fail
      go_quiet (fail)
      go_wp2_with fail
      go_ret
      exact mayP_no HNO.out (below_drewN (BA.alloc BA.size _) _)
    by_cases c2 : T < bt
    · exfalso; omega
    by_cases k0 : 0 < k
    · obtain ⟨y, hy, p2⟩ := HPV.out k0
      have d1 : ¬ (term : Int) < (T : Int) := by omega
      have d2 : ¬ (T : Int) < (bt : Int) := by omega
      have d3 : (0 : Int) < (k : Int) := by omega
      have HY := hI_ hy; clear hy
      have e1 : IntKind.i64.wrap ((k : Int) - 1) = (k : Int) - 1 := IntWalk.i64_in _ (by omega)
      have e2 : (0 : Int) ≤ (k : Int) - 1 := by omega
      have e2' : (1 : Int) ≤ (k : Int) := by omega
      have e3 : ((k : Int) - 1).toNat = k - 1 := by omega
      have e4 : (k : Int) - 1 < (n : Int) := by omega
      by_cases c3 : T < y.t
      · have hno : ¬ stOk term vote base bt snap L := by
         rintro ⟨_, _, _, _, _, _, _, _, h⟩
         have := (h k _ HX.out).2.2.1 y k0 HY.out; simp only at this; omega
        have HNO := hI_ hno; clear hno
        have d4 : (T : Int) < (y.t : Int) := by omega
        go_wp2_with fail
        go_quiet (fail)
        go_wp2_with fail
        go_ret
        exact mayP_no HNO.out (below_drewN (BA.alloc BA.size _) _)
      by_cases c4 : 4096 < D.size
      · have hno : ¬ stOk term vote base bt snap L := by
         rintro ⟨_, _, _, _, _, _, _, _, h⟩
         have := (h k _ HX.out).2.2.2; simp only at this; omega
        have HNO := hI_ hno; clear hno
        have d4 : ¬ (T : Int) < (y.t : Int) := by omega
        have d5 : (4096 : Int) < (D.size : Int) := by omega
        go_wp2_with fail
        go_quiet (fail)
        go_wp2_with fail
        go_ret
        exact mayP_no HNO.out (below_drewN (BA.alloc BA.size _) _)
      · have d4 : ¬ (T : Int) < (y.t : Int) := by omega
        have d5 : ¬ (4096 : Int) < (D.size : Int) := by omega
        have hok2 : ∀ j, j < k + 1 → entOk term bt L j := fun j hj => by
         rcases Nat.lt_succ_iff_lt_or_eq.1 hj with h | rfl
         · exact HOKS.out j h
         · intro z hz
           obtain rfl := Option.some.inj (HX.out.symm.trans hz)
           exact ⟨by show T ≤ term; omega, by show bt ≤ T; omega, fun z' _ hz' => by obtain rfl := Option.some.inj (HY.out.symm.trans hz'); show y.t ≤ T; omega, by show D.size ≤ 4096; omega⟩
        have HOK := hI_ hok2; clear hok2
        go_wp2_with fail
        go_quiet (fail)
        go_wp2_with fail
        go_roundw
        case rel => exact ⟨k + 1, by omega, by go_num, HOK.out, below_drewN (B.alloc B.size _) _⟩
        case measure => simp [intOf]; omega
    · have d1 : ¬ (term : Int) < (T : Int) := by omega
      have d2 : ¬ (T : Int) < (bt : Int) := by omega
      obtain rfl : k = 0 := by omega
      simp only [Nat.zero_mul, Nat.add_zero] at p0 p1
      by_cases c4 : 4096 < D.size
      · have hno : ¬ stOk term vote base bt snap L := by
         rintro ⟨_, _, _, _, _, _, _, _, h⟩
         have := (h 0 _ HX.out).2.2.2; simp only at this; omega
        have HNO := hI_ hno; clear hno
        have d5 : (4096 : Int) < (D.size : Int) := by omega
        go_wp2_with fail
        go_quiet (fail)
        go_wp2_with fail
        go_ret
        exact mayP_no HNO.out (below_drewN (BA.alloc BA.size _) _)
      · have d5 : ¬ (4096 : Int) < (D.size : Int) := by omega
        have hok2 : ∀ j, j < 0 + 1 → entOk term bt L j := fun j hj => by
         rcases Nat.lt_succ_iff_lt_or_eq.1 hj with h | rfl
         · exact HOKS.out j h
         · intro z hz
           obtain rfl := Option.some.inj (HX.out.symm.trans hz)
           exact ⟨by show T ≤ term; omega, by show bt ≤ T; omega, fun _ h0 _ => absurd h0 (Nat.lt_irrefl 0), by show D.size ≤ 4096; omega⟩
        have HOK := hI_ hok2; clear hok2
        go_wp2_with fail
        go_quiet (fail)
        go_wp2_with fail
        go_roundw
        case rel => exact ⟨1, by omega, by go_num, HOK.out, below_drewN (B.alloc B.size _) _⟩
        case measure => simp [intOf]; omega
  · have hyes : stOk term vote base bt snap L := ⟨by omega, by omega, by omega, by rw [HN.out]; omega, by rw [HN.out]; omega, by omega, by omega, fun h => ⟨by omega, by omega⟩, fun j => by
     by_cases hj : j < k
     · exact hok j hj
     · intro z hz
       have := (List.getElem?_eq_some_iff.1 hz).1
       have := HN.out; omega⟩
    have HY := hI_ hyes; clear hyes hok
    go_wp2_with fail
    go_ret
    exact mayP_yes HY.out BA
theorem refMay_st (term vote base bt n c : Nat) (snap : ByteArray) (a : Option Addr) (L : List En) (hn : L.length = n) (hl : n ≤ 140737488351232) (hs : snap.size ≤ 140737488351232) (hD : ∀ x ∈ L, x.d.size ≤ 140737488351232) (w : World) (hE : Ents w a L) :
 Calls Tryz.prog 20 #[.agg #[.int .u64 term, .int .u64 vote, .int .u64 base, .int .u64 bt, .string snap, .slice a n c]] w (MayP (stOk term vote base bt snap L) w) := by
 by_cases h1 : 4611686018427387903 < term
 · exact may_1 term vote base bt n c snap a L hn hl hs w h1
 by_cases h2 : 4611686018427387903 < vote
 · exact may_2 term vote base bt n c snap a L hn hl hs w h1 h2
 by_cases h3 : 1099511627776 < base
 · exact may_3 term vote base bt n c snap a L hn hl hs w h1 h2 h3
 by_cases h4 : 1024 < n
 · exact may_4 term vote base bt n c snap a L hn hl hs w h1 h2 h3 h4
 by_cases h5 : 1099511627776 < base + n
 · exact may_5 term vote base bt n c snap a L hn hl hs w h1 h2 h3 h4 h5
 by_cases h6 : 4096 < snap.size
 · exact may_6 term vote base bt n c snap a L hn hl hs w h1 h2 h3 h4 h5 h6
 by_cases h7 : term < bt
 · exact may_7 term vote base bt n c snap a L hn hl hs w h1 h2 h3 h4 h5 h6 h7
 by_cases h8 : base = 0
 · by_cases h9 : 0 < bt
   · exact may_8 term vote base bt n c snap a L hn hl hs w h1 h2 h3 h4 h5 h6 h7 h8 h9
   by_cases h10 : 0 < snap.size
   · exact may_9 term vote base bt n c snap a L hn hl hs w h1 h2 h3 h4 h5 h6 h7 h8 h9 h10
   · exact may_l0 term vote base bt n c snap a L hn hD w hE h1 h2 h3 h4 h5 h6 h7 h8 h9 h10
 · exact may_l1 term vote base bt n c snap a L hn hD w hE h1 h2 h3 h4 h5 h6 h7 h8
end Go.Proofs.YtdcpiaoadbbdoaaGreatDoor
