/- slices.Insert at numbers, amid, where there is no room. -/
import Derived.Test.YtmnakfonfpdneaaDoorHg
namespace Go.Proofs.YtmnakfonfpdneaaDoor
open Go.RowKit Go.Lib

set_option maxHeartbeats 4000000 in
set_option maxRecDepth 100000 in
theorem insGrow (B g n c i m vb vc : Nat) (L M : List Nat) (w : World) (h : Rw B w g n c L) (hBw : B ≤ w.heap.size) (hi : i < n) (hm : M.length = m) (h0 : 0 < m) (hroom : c < n + m) (hl : (n + m) * 8 ≤ 140737488355328) (hV : Us w (some ⟨vb, 0, none⟩) M) :
    Calls Tryd.prog 65 #[.slice (some ⟨g, 0, none⟩) n c, .int .i64 i, .slice (some ⟨vb, 0, none⟩) m vc] w (InP B w (L.take i ++ M ++ L.drop i)) := by
  obtain ⟨_, hlt, hn, hcap, hc63, hsh, hsome, hfz, hmem⟩ := h
  obtain ⟨i0, hi0, hz0, hzs, hzb⟩ := info_parts infoU64
  have hdl : (usCells (L.drop i)).length = n - i := by rw [usCells_len, List.length_drop, hn]
  have hml : (usCells M).length = m := by rw [usCells_len, hm]
  have hrow := us_row hmem
  have hrowM := us_row hV
  have hvw : vb < w.heap.size := by obtain ⟨b, off, e, h⟩ := hV.addr (by omega); cases e; exact h
  have hik : i + (n + m - i) = n + m := by omega
  have hold : (Builtin.firstCells i0.size i (.slice (some ⟨g, 0, none⟩) i c)).run Tryd.prog w.drew = .ok (usCells (L.take i)).toArray w.drew := by
    rw [hzs]
    exact run_firstCells_some w.drew 1 i ⟨g, 0, none⟩ i c (usCells (L.take i)) (by rw [usCells_len, List.length_take]; omega) (fun j v hj => by
      rw [addAny]
      rw [← usCells_take, List.getElem?_take] at hj
      split at hj
      · exact hrow j v hj
      · cases hj)
  obtain ⟨G, hG⟩ : ∃ G, G = grownCap w (n + m) c 38 := ⟨_, rfl⟩
  obtain ⟨ROW, hROW⟩ : ∃ ROW : Array Value, ROW = (usCells (L.take i)).toArray ++ Builtin.zeroCells (Value.int .u64 0).cells (n + m - i) ++ Builtin.zeroCells (Value.int .u64 0).cells (G - (n + m)) := ⟨_, rfl⟩
  have hrz : (Builtin.append_ #[22, 3] 22 #[.slice (some ⟨g, 0, none⟩) i c, .int .i64 ((n : Int) + (m : Int) - (i : Int))]).run Tryd.prog w =
      .ok (.slice (some ⟨w.heap.size, 0, none⟩) (n + m) G) (w.drew.alloc (.cells ROW 38)) := by
    have h := Lib.run_append_grow_zeros w 22 3 22 38 i0 _ .i64 .i64 Tryd.underlying22 Tryd.underlying3 hi0 hz0 (some ⟨g, 0, none⟩) i c (usCells (L.take i)) hold (n + m - i) (by omega) (by omega) (by omega) (by omega) (by rw [hzb]; omega) (by rw [hzb, hik]; exact growslice_fits hroom (by omega))
    rw [hik, ← hG, ← hROW] at h
    rw [show (n : Int) + (m : Int) - (i : Int) = ((n + m - i : Nat) : Int) by omega]
    exact h
  have hGn : n + m ≤ G := by rw [hG]; exact grownCap_ge w _ _ _
  have hG63 : G ≤ 9223372036854775807 := by
    have := grownCap_le_maxLen w (n + m) c 38 (by unfold maxLen; omega)
    rw [← hG] at this
    unfold maxLen at this
    omega
  have hRs : n + m ≤ ROW.size := by
    rw [hROW]
    simp [Builtin.zeroCells, Value.cells, usCells]
    omega
  have hRt : ∀ j, j < i → ROW[j]? = (usCells L)[j]? := fun j hj => by
    rw [hROW, Array.append_assoc, Array.getElem?_append_left (by simp [usCells]; omega)]
    rw [← usCells_take, List.getElem?_toArray, List.getElem?_take_of_lt hj]
  obtain ⟨W1, hW1⟩ : ∃ W1, W1 = w.drew.alloc (.cells ROW 38) := ⟨_, rfl⟩
  have hsz1 : W1.heap.size = w.heap.size + 1 := by rw [hW1]; simp
  have hB1 : Below B w W1 := by rw [hW1]; exact (Below.refl B w).drew.alloc (by simpa using hBw) _
  have hN : ∀ j, j < n + m → (W1.cell? ⟨w.heap.size, j, none⟩).isSome = true := fun j hj => by
    rw [hW1, World.cell?_alloc_at (w := w.drew) ROW _ w.heap.size j rfl, Array.getElem?_eq_getElem (by omega)]; rfl
  have hNt : ∀ j, W1.cell? ⟨w.heap.size, j, none⟩ = ROW[j]? := fun j => by rw [hW1, World.cell?_alloc_at (w := w.drew) ROW _ w.heap.size j rfl]
  have hNf : ∀ j, W1.frozen? ⟨w.heap.size, j, none⟩ = false := fun j => by rw [hW1]; exact World.frozen?_alloc_at (w := w.drew) ROW _ w.heap.size j rfl
  have hOb : ∀ j v, w.cell? ⟨g, j, none⟩ = some v → W1.cell? ⟨g, j, none⟩ = some v := fun j v h => by rw [hW1, World.cell?_alloc_past (w := w.drew) _ g j hlt]; exact h
  have hOv : ∀ j v, w.cell? ⟨vb, j, none⟩ = some v → W1.cell? ⟨vb, j, none⟩ = some v := fun j v h => by rw [hW1, World.cell?_alloc_past (w := w.drew) _ vb j hvw]; exact h
  have hcpA : (Builtin.copy_ #[22, 22] 3 #[.slice (some ⟨w.heap.size, i, none⟩) (n + m - i) (G - i), .slice (some ⟨vb, 0, none⟩) m vc]).run Tryd.prog W1 = .ok (goInt (usCells M).length) (W1.setCells w.heap.size i (usCells M)) :=
    run_copy_cells W1 _ _ _ 38 w.heap.size i (n + m - i) (G - i) ⟨vb, 0, none⟩ m vc (usCells M) Tryd.underlying22 sizeU64 (by rw [hml]; simp only [Nat.min_def]; split <;> omega)
      (fun j v hj => by rw [addAny]; exact hOv _ v (hrowM j v hj))
      (fun j hj => hN _ (by omega)) (fun j hj => hNf _) (oneUs _)
  obtain ⟨W2, hW2⟩ : ∃ W2, W2 = W1.setCells w.heap.size i (usCells M) := ⟨_, rfl⟩
  have hN2 : ∀ j, j < n + m → (W2.cell? ⟨w.heap.size, j, none⟩).isSome = true := fun j hj => by
    rw [hW2]; exact isSome_setCells _ (usCells M) i W1 (fun t ht => hN _ (by omega)) _ (hN _ (by omega))
  have hgN : g ≠ w.heap.size := by omega
  have hcpB : (Builtin.copy_ #[22, 22] 3 #[.slice (some ⟨w.heap.size, i + m, none⟩) (n + m - (i + m)) (G - (i + m)), .slice (some ⟨g, i, none⟩) (n - i) (c - i)]).run Tryd.prog W2.drew = .ok (goInt (usCells (L.drop i)).length) (W2.drew.setCells w.heap.size (i + m) (usCells (L.drop i))) :=
    run_copy_cells W2.drew _ _ _ 38 w.heap.size (i + m) (n + m - (i + m)) (G - (i + m)) ⟨g, i, none⟩ (n - i) (c - i) (usCells (L.drop i)) Tryd.underlying22 sizeU64 (by rw [hdl]; simp only [Nat.min_def]; split <;> omega)
      (fun j v hj => by
        rw [← usCells_drop, List.getElem?_drop] at hj
        rw [addAny, show (W2.drew.cell? ⟨g, i + j, none⟩) = W2.cell? ⟨g, i + j, none⟩ from rfl, hW2, World.cell?_setCells_out _ _ _ _ _ (fun h _ => absurd h hgN)]
        have := hrow (i + j) v hj
        rw [Nat.zero_add] at this
        exact hOb _ v this)
      (fun j hj => hN2 _ (by omega))
      (fun j hj => by rw [show (W2.drew.frozen? ⟨w.heap.size, i + m + j, none⟩) = W2.frozen? ⟨w.heap.size, i + m + j, none⟩ from rfl, hW2, World.frozen?_setCells]; exact hNf _) (oneUs _)
  have hlen : (L.take i ++ M ++ L.drop i).length = n + m := by simp; omega
  obtain ⟨W3, hW3⟩ : ∃ W3, W3 = W2.drew.setCells w.heap.size (i + m) (usCells (L.drop i)) := ⟨_, rfl⟩
  have hB3 : Below B w W3 := below_setCells hBw _ _ _ (below_setCells hBw _ _ _ hB1 hW2).drew hW3
  have hfin : InP B w (L.take i ++ M ++ L.drop i) (.returned (.slice (some ⟨w.heap.size, 0, none⟩) (n + m) G)) W3 := by
    refine ⟨some ⟨w.heap.size, 0, none⟩, G, by rw [hlen], fun j x hx => ⟨w.heap.size, 0, rfl, ?_, ?_⟩, fun _ q e => by cases e; exact hBw, hB3⟩
    · have hs2 : W2.heap.size = W1.heap.size := Nat.le_antisymm (by
        have h2 := hN2 0 (by omega)
        have : ∀ (vs : List Value) (o : Nat) (W : World), (W.setCells w.heap.size o vs).heap.size = W.heap.size := by
          intro vs
          induction vs with
          | nil => intro o W; rfl
          | cons v r ih => intro o W; rw [World.setCells, ih]; simp
        rw [hW2, this]; exact Nat.le_refl _) (by
        have hb := below_setCells (B := 0) (Nat.zero_le _) _ _ _ (Below.refl 0 W1) hW2
        exact hb.size)
      have hb := below_setCells (B := 0) (Nat.zero_le _) _ _ _ (Below.refl 0 W2).drew hW3
      have := hb.size
      omega
    · rw [Nat.zero_add]
      have hj := (List.getElem?_eq_some_iff.1 hx).1
      rw [hlen] at hj
      by_cases j1 : j < i
      · rw [hW3, World.cell?_setCells_out w.heap.size _ _ _ _ (fun _ _ => .inl (by simp only; omega)), show (W2.drew.cell? ⟨w.heap.size, j, none⟩) = W2.cell? ⟨w.heap.size, j, none⟩ from rfl, hW2, World.cell?_setCells_out w.heap.size _ _ _ _ (fun _ _ => .inl j1), hNt, hRt j j1]
        rw [List.append_assoc, List.getElem?_append_left (by simp; omega), List.getElem?_take_of_lt j1] at hx
        exact usCells_at L j x hx
      · by_cases j2 : j < i + m
        · rw [hW3, World.cell?_setCells_out w.heap.size _ _ _ _ (fun _ _ => .inl (by simp only; omega)), show (W2.drew.cell? ⟨w.heap.size, j, none⟩) = W2.cell? ⟨w.heap.size, j, none⟩ from rfl, hW2]
          have e2 : j = i + (j - i) := by omega
          rw [e2, World.cell?_setCells_in w.heap.size (usCells M) i W1 (fun k hk => hN _ (by omega)) (j - i) (by omega)]
          rw [List.getElem?_append_left (by simp; omega), List.getElem?_append_right (by simp; omega)] at hx
          rw [show j - (L.take i).length = j - i by rw [List.length_take]; omega] at hx
          have := usCells_at M _ _ hx
          rw [List.getElem?_eq_getElem (by omega)] at this; exact this
        · have e2 : j = i + m + (j - (i + m)) := by omega
          rw [hW3, e2, World.cell?_setCells_in w.heap.size (usCells (L.drop i)) (i + m) W2.drew (fun k hk => hN2 _ (by omega)) (j - (i + m)) (by omega)]
          rw [List.getElem?_append_right (by simp; omega)] at hx
          rw [show j - (L.take i ++ M).length = j - (i + m) by rw [List.length_append, List.length_take]; omega] at hx
          have := usCells_at _ _ _ hx
          rw [List.getElem?_eq_getElem (by omega)] at this; exact this
  rw [← hW1] at hrz
  rw [← hW2] at hcpA
  rw [← hW3] at hcpB
  obtain ⟨Z, hZ⟩ : ∃ Z, L.take i ++ M ++ L.drop i = Z := ⟨_, rfl⟩
  rw [hZ] at hfin ⊢
  have HCPB := Lib.hid hcpB
  have HRZ := Lib.hid hrz
  have HFIN := Lib.hid hfin
  have hz1 : ¬ ((m : Int) = 0) := by omega
  have hz2 : ¬ ((i : Int) = (n : Int)) := by omega
  have hz3 : (c : Int) < (n : Int) + (m : Int) := by omega
  have hw1 : IntKind.i64.wrap ((i : Int) + (m : Int)) = (i : Int) + (m : Int) := by rw [IntKind.wrap_i64]; omega
  have hb1 : (0 : Int) ≤ (i : Int) + (m : Int) := by omega
  have hin : i ≤ n := by omega
  have htn : ((i : Int) + (m : Int)).toNat = i + m := by omega
  have hb3 : (i : Int) ≤ (n : Int) + (m : Int) := by omega
  have hb5 : (i : Int) ≤ (n : Int) := by omega
  have hGi : ¬ (G = i) := by omega
  have hGim : ¬ (G = i + m) := by omega
  have hci : ¬ (c = i) := by omega
  have hl1 : n ≤ 140737488351232 := by omega
  have hl2 : m ≤ 140737488351232 := by omega
  clear hrz hZ hW1 hW2 hW3 hcpB hfin hrow hrowM hV hmem hsome hfz hdl hml hlen hn hm hsh hl hold hROW hRs hRt hG hN hNt hNf hOb hOv hN2 hB3 hB1 hsz1 hi0 hz0 hzs hzb hik hvw
  go_enter Tryd.func65, Tryd.ntmps65
  go_wp2_with (at_builtin; refine Lib.wpList_append_run _ rfl _ _ 22 3 rfl (.slice (some ⟨g, 0, none⟩) i c) (.int .i64 ((n : Int) + (m : Int) - (i : Int))) rfl rfl _ _ HRZ.out ?_)
  go_region_law (refine step_copy_runI rfl _ _ 22 22 rfl (.slice (some ⟨w.heap.size, i + m, none⟩) (n + m - (i + m)) (G - (i + m))) (.slice (some ⟨g, i, none⟩) (n - i) (c - i)) (by simp [Act.eval, Act.put]) (by simp [Act.eval, Act.put]) HCPB.out ?_)
  go_wp2_with fail
  go_ret
  exact HFIN.out
end Go.Proofs.YtmnakfonfpdneaaDoor
