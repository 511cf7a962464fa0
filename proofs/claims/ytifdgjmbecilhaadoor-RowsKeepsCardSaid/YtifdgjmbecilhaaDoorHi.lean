/- slices.Insert at rows, amid, where there is no room. -/
import Derived.Test.YtifdgjmbecilhaaDoorHf
namespace Go.Proofs.YtifdgjmbecilhaaDoor
open Go.RowKit Go.Lib

set_option maxHeartbeats 4000000 in
set_option maxRecDepth 100000 in
theorem insGrowR (B g n c i m vb vc : Nat) (L M : List Ro) (w : World) (h : HdR w g c L) (hBw : B ≤ w.heap.size) (hn : L.length = n) (hi : i < n) (hm : M.length = m) (h0 : 0 < m) (hroom : c < n + m) (hl : (n + m) * 40 ≤ 140737488355328) (hV : HdR w vb m M) :
    Calls Tryd.prog 50 #[.slice (some ⟨g, 0, none⟩) n c, .int .i64 i, .slice (some ⟨vb, 0, none⟩) m vc] w (DrP B w (L.take i ++ M ++ L.drop i)) := by
  have hlt := h.lt
  have hcap : n ≤ c := by rw [← hn]; exact h.le
  obtain ⟨i0, hi0, hz0, hzs, hzb⟩ := info_parts roT.info
  have hdl : (rwC roC (L.drop i)).length = (n - i) * 3 := by rw [roC_len, List.length_drop, hn]
  have hml : (rwC roC M).length = m * 3 := by rw [roC_len, hm]
  have htl : (L.take i).length = i := by rw [List.length_take]; omega
  have hrow := rw_row roT.len roT.kp h.row
  have hrowM := rw_row roT.len roT.kp hV.row
  have hvw : vb < w.heap.size := hV.lt
  have hik : i + (n + m - i) = n + m := by omega
  have hold : (Builtin.firstCells i0.size i (.slice (some ⟨g, 0, none⟩) i c)).run Tryd.prog w.drew = .ok (rwC roC (L.take i)).toArray w.drew := by
    rw [hzs]
    exact run_firstCells_some w.drew 3 i ⟨g, 0, none⟩ i c (rwC roC (L.take i)) (by rw [roC_len, htl]) (fun j v hj => by
      rw [addAny']
      rw [← roC_take, List.getElem?_take] at hj
      split at hj
      · exact hrow j v hj
      · cases hj)
  obtain ⟨G, hG⟩ : ∃ G, G = grownCap w (n + m) c 26 := ⟨_, rfl⟩
  obtain ⟨ROW, hROW⟩ : ∃ ROW : Array Value, ROW = (rwC roC (L.take i)).toArray ++ Builtin.zeroCells (Value.agg #[.string ⟨#[]⟩, .string ⟨#[]⟩, .int .u64 0]).cells (n + m - i) ++ Builtin.zeroCells (Value.agg #[.string ⟨#[]⟩, .string ⟨#[]⟩, .int .u64 0]).cells (G - (n + m)) := ⟨_, rfl⟩
  have hrz : (Builtin.append_ #[22, 3] 22 #[.slice (some ⟨g, 0, none⟩) i c, .int .i64 ((n : Int) + (m : Int) - (i : Int))]).run Tryd.prog w =
      .ok (.slice (some ⟨w.heap.size, 0, none⟩) (n + m) G) (w.drew.alloc (.cells ROW 26)) := by
    have h := Lib.run_append_grow_zeros w 22 3 22 26 i0 _ .i64 .i64 Tryd.underlying22 Tryd.underlying3 hi0 hz0 (some ⟨g, 0, none⟩) i c (rwC roC (L.take i)) hold (n + m - i) (by omega) (by omega) (by omega) (by omega) (by rw [hzb]; omega) (by rw [hzb, hik]; exact growslice_fits hroom (by omega))
    rw [hik, ← hG, ← hROW] at h
    rw [show (n : Int) + (m : Int) - (i : Int) = ((n + m - i : Nat) : Int) by omega]
    exact h
  have hGn : n + m ≤ G := by rw [hG]; exact grownCap_ge w _ _ _
  have hGm : G ≤ maxLen := by
    have := grownCap_le_maxLen w (n + m) c 26 (by unfold maxLen; omega)
    rw [← hG] at this; exact this
  have hG63 : G ≤ 9223372036854775807 := maxLen63 hGm
  have hRs : ROW.size = G * 3 := by
    rw [hROW]
    simp [Builtin.zeroCells, Value.cells, roC_len, htl]
    omega
  have hRt : ∀ j, j < i * 3 → ROW[j]? = (rwC roC L)[j]? := fun j hj => by
    rw [hROW, Array.append_assoc, Array.getElem?_append_left (by simp [roC_len, htl]; omega)]
    rw [← roC_take, List.getElem?_toArray, List.getElem?_take_of_lt hj]
  obtain ⟨W1, hW1⟩ : ∃ W1, W1 = w.drew.alloc (.cells ROW 26) := ⟨_, rfl⟩
  have hsz1 : W1.heap.size = w.heap.size + 1 := by rw [hW1]; simp
  have hB1 : Below B w W1 := by rw [hW1]; exact (Below.refl B w).drew.alloc (by simpa using hBw) _
  have hN : ∀ j, j < G * 3 → (W1.cell? ⟨w.heap.size, j, none⟩).isSome = true := fun j hj => by
    rw [hW1, World.cell?_alloc_at (w := w.drew) ROW _ w.heap.size j rfl, Array.getElem?_eq_getElem (by omega)]; rfl
  have hNt : ∀ j, W1.cell? ⟨w.heap.size, j, none⟩ = ROW[j]? := fun j => by rw [hW1, World.cell?_alloc_at (w := w.drew) ROW _ w.heap.size j rfl]
  have hNf : ∀ j, W1.frozen? ⟨w.heap.size, j, none⟩ = false := fun j => by rw [hW1]; exact World.frozen?_alloc_at (w := w.drew) ROW _ w.heap.size j rfl
  have hOb : ∀ j v, w.cell? ⟨g, j, none⟩ = some v → W1.cell? ⟨g, j, none⟩ = some v := fun j v h => by rw [hW1, World.cell?_alloc_past (w := w.drew) _ g j hlt]; exact h
  have hOv : ∀ j v, w.cell? ⟨vb, j, none⟩ = some v → W1.cell? ⟨vb, j, none⟩ = some v := fun j v h => by rw [hW1, World.cell?_alloc_past (w := w.drew) _ vb j hvw]; exact h
  have hcpA : (Builtin.copy_ #[22, 22] 3 #[.slice (some ⟨w.heap.size, i * 3, none⟩) (n + m - i) (G - i), .slice (some ⟨vb, 0, none⟩) m vc]).run Tryd.prog W1 = .ok (goInt (m : Nat)) (W1.setCells w.heap.size (i * 3) (rwC roC M)) :=
    run_copy_rows W1 _ _ _ 26 3 w.heap.size (i * 3) (n + m - i) (G - i) ⟨vb, 0, none⟩ m vc m (rwC roC M) Tryd.underlying22 sizeRo (by simp only [Nat.min_def]; split <;> omega) hml
      (fun j v hj => by rw [addAny']; have := hrowM j v hj; rw [Nat.zero_add] at this ⊢; exact hOv _ v this)
      (fun j hj => hN _ (by omega)) (fun j hj => hNf _) (oneRw roT _)
  obtain ⟨W2, hW2⟩ : ∃ W2, W2 = W1.setCells w.heap.size (i * 3) (rwC roC M) := ⟨_, rfl⟩
  have hs2 : W2.heap.size = W1.heap.size := by rw [hW2, sc_size]
  have hty1 : ∃ cur, W1.heap[w.heap.size]? = some (.cells cur 26 (0, 0)) ∧ cur.size = G * 3 := ⟨ROW, by rw [hW1]; exact heap_alloc_new w.drew _, hRs⟩
  have hty2 := hd_setCells (rwC roC M) (i * 3) W1 hty1
  rw [← hW2] at hty2
  have hN2 : ∀ j, j < G * 3 → (W2.cell? ⟨w.heap.size, j, none⟩).isSome = true := fun j hj => by
    obtain ⟨cur, e1, e2⟩ := hty2
    rw [cell_of_row W2 _ _ cur _ _ e1, Array.getElem?_eq_getElem (by omega)]; rfl
  have hgN : g ≠ w.heap.size := by omega
  have hcpB : (Builtin.copy_ #[22, 22] 3 #[.slice (some ⟨w.heap.size, (i + m) * 3, none⟩) (n + m - (i + m)) (G - (i + m)), .slice (some ⟨g, i * 3, none⟩) (n - i) (c - i)]).run Tryd.prog W2.drew = .ok (goInt (n - i : Nat)) (W2.drew.setCells w.heap.size ((i + m) * 3) (rwC roC (L.drop i))) :=
    run_copy_rows W2.drew _ _ _ 26 3 w.heap.size ((i + m) * 3) (n + m - (i + m)) (G - (i + m)) ⟨g, i * 3, none⟩ (n - i) (c - i) (n - i) (rwC roC (L.drop i)) Tryd.underlying22 sizeRo (by simp only [Nat.min_def]; split <;> omega) hdl
      (fun j v hj => by
        rw [← roC_drop, List.getElem?_drop] at hj
        rw [addAny', show (W2.drew.cell? ⟨g, i * 3 + j, none⟩) = W2.cell? ⟨g, i * 3 + j, none⟩ from rfl, hW2, World.cell?_setCells_out _ _ _ _ _ (fun h _ => absurd h hgN)]
        have := hrow (i * 3 + j) v hj
        rw [Nat.zero_add] at this
        exact hOb _ v this)
      (fun j hj => hN2 _ (by omega))
      (fun j hj => by rw [show (W2.drew.frozen? ⟨w.heap.size, (i + m) * 3 + j, none⟩) = W2.frozen? ⟨w.heap.size, (i + m) * 3 + j, none⟩ from rfl, hW2, World.frozen?_setCells]; exact hNf _) (oneRw roT _)
  have hlen : (L.take i ++ M ++ L.drop i).length = n + m := by simp; omega
  obtain ⟨W3, hW3⟩ : ∃ W3, W3 = W2.drew.setCells w.heap.size ((i + m) * 3) (rwC roC (L.drop i)) := ⟨_, rfl⟩
  have hB3 : Below B w W3 := by
    rw [hW3]
    refine sc_below hBw _ _ _ _ (Below.drew ?_)
    rw [hW2]; exact sc_below hBw _ _ _ _ hB1
  have hs3 : W3.heap.size = w.heap.size + 1 := by rw [hW3, sc_size]; exact hs2.trans hsz1
  have hfin : DrP B w (L.take i ++ M ++ L.drop i) (.returned (.slice (some ⟨w.heap.size, 0, none⟩) (n + m) G)) W3 := by
    refine ⟨some ⟨w.heap.size, 0, none⟩, G, by rw [hlen], rw_three (by rw [hs3]; omega) _ _ _ (fun j u hu => ?_) (fun j u hu => ?_) (fun j u hu => ?_), fun _ q e => by cases e; exact hBw, by rw [hlen]; exact hGn, hGm, hB3⟩
    · have hj := (List.getElem?_eq_some_iff.1 hu).1
      rw [roC_len, htl] at hj
      rw [← roC_take, List.getElem?_take_of_lt hj] at hu
      rw [hW3, World.cell?_setCells_out w.heap.size _ _ _ _ (fun _ _ => .inl (by simp only; omega)), show (W2.drew.cell? ⟨w.heap.size, j, none⟩) = W2.cell? ⟨w.heap.size, j, none⟩ from rfl, hW2, World.cell?_setCells_out w.heap.size _ _ _ _ (fun _ _ => .inl hj), hNt, hRt j hj]
      exact hu
    · have hj := (List.getElem?_eq_some_iff.1 hu).1
      rw [htl, hW3, World.cell?_setCells_out w.heap.size _ _ _ _ (fun _ _ => .inl (by simp only; omega)), show (W2.drew.cell? ⟨w.heap.size, i * 3 + j, none⟩) = W2.cell? ⟨w.heap.size, i * 3 + j, none⟩ from rfl, hW2, World.cell?_setCells_in w.heap.size (rwC roC M) (i * 3) W1 (fun k hk => hN _ (by omega)) j hj]
      rw [List.getElem?_eq_getElem hj] at hu; exact hu
    · have hj := (List.getElem?_eq_some_iff.1 hu).1
      rw [htl, hm, hW3, World.cell?_setCells_in w.heap.size (rwC roC (L.drop i)) ((i + m) * 3) W2.drew (fun k hk => hN2 _ (by omega)) j hj]
      rw [List.getElem?_eq_getElem hj] at hu; exact hu
  rw [← hW1] at hrz
  rw [← hW2] at hcpA
  rw [← hW3] at hcpB
  obtain ⟨Z, hZ⟩ : ∃ Z, L.take i ++ M ++ L.drop i = Z := ⟨_, rfl⟩
  rw [hZ] at hfin ⊢
  have HCPB := Lib.hid hcpB
  have HRZ := Lib.hid hrz
  have HFIN := Lib.hid hfin
  have hz1 : ¬ ((m : Int) = 0) := by omega
  have hz2 : ¬ ((i : Int) = (n : Int)) := by omega
  have hz3 : (c : Int) < (n : Int) + (m : Int) := by omega
  have hw1 : IntKind.i64.wrap ((i : Int) + (m : Int)) = (i : Int) + (m : Int) := by rw [IntKind.wrap_i64]; omega
  have hb1 : (0 : Int) ≤ (i : Int) + (m : Int) := by omega
  have hin : i ≤ n := by omega
  have htn : ((i : Int) + (m : Int)).toNat = i + m := by omega
  have hb3 : (i : Int) ≤ (n : Int) + (m : Int) := by omega
  have hb5 : (i : Int) ≤ (n : Int) := by omega
  have hGi : ¬ (G = i) := by omega
  have hGim : ¬ (G = i + m) := by omega
  have hci : ¬ (c = i) := by omega
  have hl1 : n ≤ 140737488351232 := by omega
  have hl2 : m ≤ 140737488351232 := by omega
  clear hrz hZ hW1 hW2 hW3 hcpB hfin hrow hrowM hV hdl hml hlen hn hm hl hold hROW hRs hRt hG hN hNt hNf hOb hOv hN2 hB3 hB1 hsz1 hi0 hz0 hzs hzb hik hvw h htl hs2 hs3 hty1 hty2 hGm
  go_enter Tryd.func50, Tryd.ntmps50
  go_wp2_with (at_builtin; refine Lib.wpList_append_run _ rfl _ _ 22 3 rfl (.slice (some ⟨g, 0, none⟩) i c) (.int .i64 ((n : Int) + (m : Int) - (i : Int))) rfl rfl _ _ HRZ.out ?_)
  go_region_law (refine step_copy_runI rfl _ _ 22 22 rfl (.slice (some ⟨w.heap.size, (i + m) * 3, none⟩) (n + m - (i + m)) (G - (i + m))) (.slice (some ⟨g, i * 3, none⟩) (n - i) (c - i)) (by simp [Act.eval, Act.put]) (by simp [Act.eval, Act.put]) HCPB.out ?_)
  go_wp2_with fail
  go_ret
  exact HFIN.out
end Go.Proofs.YtifdgjmbecilhaaDoor
