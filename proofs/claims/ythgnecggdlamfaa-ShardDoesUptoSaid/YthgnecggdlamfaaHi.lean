/- slices.Insert at rows: at the end; amid, with room; amid, without. -/
import Derived.Test.YthgnecggdlamfaaHe
namespace Go.Proofs.Ythgnecggdlamfaa
open Go.RowKit Go.Lib

theorem sizeRo : (Try.prog.info? 50).map (·.size) = some 3 := by
  obtain ⟨i0, hi0, _, h1, _⟩ := info_parts roT.info
  rw [hi0]; simp [h1]
theorem sc_below {B b : Nat} (hb : B ≤ b) : ∀ (vs : List Value) (o : Nat) (w W : World), Below B w W → Below B w (W.setCells b o vs)
  | [], _, _, _, h => h
  | v :: r, o, w, W, h => sc_below hb r (o + 1) w (W.setCell ⟨b, o, none⟩ v) (h.setCell hb v)
theorem roC_drop (L : List Ro) (i : Nat) : (rwC roC L).drop (i * 3) = rwC roC (L.drop i) := by
  induction i generalizing L with
  | zero => simp
  | succ i ih =>
    cases L with
    | nil => simp [rwC]
    | cons x r =>
      have : (rwC roC (x :: r)) = roC x ++ rwC roC r := by simp [rwC]
      rw [this, List.drop_succ_cons, ← ih r, show (i + 1) * 3 = 3 + i * 3 by omega, ← List.drop_drop, List.drop_left' (by rfl)]
theorem roC_take (L : List Ro) (i : Nat) : (rwC roC L).take (i * 3) = rwC roC (L.take i) := by
  induction i generalizing L with
  | zero => simp [rwC]
  | succ i ih =>
    cases L with
    | nil => simp [rwC]
    | cons x r =>
      have : (rwC roC (x :: r)) = roC x ++ rwC roC r := by simp [rwC]
      rw [this, List.take_succ_cons, show (i + 1) * 3 = 3 + i * 3 by omega, List.take_append, List.take_of_length_le (by show 3 ≤ _; omega), show 3 + i * 3 - (roC x).length = i * 3 by show 3 + i * 3 - 3 = _; omega, ih r]
      simp [rwC]
theorem roC_len (L : List Ro) : (rwC roC L).length = L.length * 3 := rwC_len roT.len L
/-- Three pieces, one behind the other, in one row: where a piece's cells lie. -/
theorem rw_three {w : World} {g : Nat} (hg : g < w.heap.size) (A M D : List Ro)
    (h1 : ∀ j u, (rwC roC A)[j]? = some u → w.cell? ⟨g, j, none⟩ = some u)
    (h2 : ∀ j u, (rwC roC M)[j]? = some u → w.cell? ⟨g, A.length * 3 + j, none⟩ = some u)
    (h3 : ∀ j u, (rwC roC D)[j]? = some u → w.cell? ⟨g, (A.length + M.length) * 3 + j, none⟩ = some u) : Ros w (some ⟨g, 0, none⟩) (A ++ M ++ D) := fun j x hx => by
  refine ⟨g, 0, rfl, hg, fun i u hu => ?_⟩
  rw [Nat.zero_add]
  by_cases j1 : j < A.length
  · rw [List.append_assoc, List.getElem?_append_left j1] at hx
    exact h1 _ _ (rwC_at roT.len A j x hx i u hu)
  · by_cases j2 : j < A.length + M.length
    · rw [List.getElem?_append_left (by simp; omega), List.getElem?_append_right (by omega)] at hx
      have := h2 _ _ (rwC_at roT.len M _ x hx i u hu)
      rw [show A.length * 3 + ((j - A.length) * 3 + i) = j * 3 + i by omega] at this; exact this
    · rw [List.getElem?_append_right (by simp; omega), List.length_append] at hx
      have := h3 _ _ (rwC_at roT.len D _ x hx i u hu)
      rw [show (A.length + M.length) * 3 + ((j - (A.length + M.length)) * 3 + i) = j * 3 + i by omega] at this; exact this
set_option maxHeartbeats 4000000 in
set_option maxRecDepth 100000 in
theorem insEndR (B n m vc : Nat) (v : Value) (a2 : Option Addr) (L M : List Ro) (w : World) (a : Option Addr) (c : Nat) (hv : v = .slice a n c) (hn : L.length = n) (_ : n ≤ c) (_ : c ≤ 9223372036854775807) (hm : M.length = m) (h0 : 0 < m) (hl : (n + m) * 40 ≤ 140737488355328) (hB : B ≤ w.heap.size) (h : CqR B w v L) (hV : Ros w a2 M) :
    Calls Try.prog 105 #[v, .int .i64 n, .slice a2 m vc] w (DrP B w (L ++ M)) := by
  obtain ⟨v', w', hr, hc, hb⟩ := app_rw roT B w 22 v L h a2 m vc M hm hV (by rw [hn]; exact hl) hB
  obtain ⟨a3, c3, rfl, hU, hfr, hlc, hmx⟩ := hc.form roT
  have HR := Lib.hid hr
  have HF := Lib.hid (show DrP B w (L ++ M) (.returned (.slice a3 (L ++ M).length c3)) w' from ⟨a3, c3, rfl, hU, hfr, hlc, hmx, hb⟩)
  have hz1 : ¬ ((m : Int) = 0) := by omega
  have hl1 : n ≤ 140737488351232 := by omega
  have hl2 : m ≤ 140737488351232 := by omega
  obtain ⟨R, hR⟩ : ∃ R, (Value.slice a3 (L ++ M).length c3) = R := ⟨_, rfl⟩
  rw [hR] at HR HF
  subst hv
  clear hr hc hb hU hV h hn hm hl hR hfr hlc hmx
  go_enter Try.func105, Try.ntmps105
  go_wp2_with (at_builtin; refine Lib.wpList_append_run _ rfl _ _ 22 22 rfl (.slice a n c) (.slice a2 m vc) rfl rfl _ _ HR.out ?_)
  all_goals
    go_wp2_with fail
    go_ret
    exact HF.out
set_option maxHeartbeats 4000000 in
set_option maxRecDepth 100000 in
theorem insRoomR (B g n c i m vb vc : Nat) (L M : List Ro) (w : World) (h : HdR w g c L) (hB : B ≤ g) (hc63 : c ≤ maxLen) (hn : L.length = n) (hi : i < n) (hm : M.length = m) (h0 : 0 < m) (hroom : n + m ≤ c) (hl : (n + m) * 40 ≤ 140737488355328) (hV : HdR w vb m M) (hne : vb ≠ g) :
    Calls Try.prog 105 #[.slice (some ⟨g, 0, none⟩) n c, .int .i64 i, .slice (some ⟨vb, 0, none⟩) m vc] w (DrP B w (L.take i ++ M ++ L.drop i)) := by
  have hlt := h.lt
  have hdl : (rwC roC (L.drop i)).length = (n - i) * 3 := by rw [roC_len, List.length_drop, hn]
  have hml : (rwC roC M).length = m * 3 := by rw [roC_len, hm]
  have htl : (L.take i).length = i := by rw [List.length_take]; omega
  have hrow := rw_row roT.len roT.kp h.row
  have hrowM := rw_row roT.len roT.kp hV.row
  have hsome : ∀ j, j < c * 3 → (w.cell? ⟨g, j, none⟩).isSome = true := fun j hj => h.has hj
  have hfz : ∀ j, w.frozen? ⟨g, j, none⟩ = false := fun j => h.fz j
  have hov : ∀ lb cb, (callFunc 106 #[.slice (some ⟨vb, 0, none⟩) m vc, .slice (some ⟨g, (i + m) * 3, none⟩) lb cb]).run Try.prog w = .ok (.value (.bool false)) w := fun lb cb => by
    rw [run_callFunc_extern Try.func106 (by kernel_rfl) (by kernel_rfl) (by kernel_rfl) (e := Extern.SlicesOverlaps.overlaps #[22, 22] #[4]) (by kernel_rfl),
      Lib.run_overlaps_apart w 22 4 50 Try.underlying22 3 Try.sizeOf50 ⟨vb, 0, none⟩ ⟨g, (i + m) * 3, none⟩ m vc lb cb hne _ _ (m * 3) (c * 3) hV.shape h.shape (by omega) (hV.fz 0) (hV.fz _)]
    rfl
  have hcp1 : ∀ ty dc sc, (Builtin.copy_ #[22, 22] ty #[.slice (some ⟨g, (i + m) * 3, none⟩) (n + m - (i + m)) dc, .slice (some ⟨g, i * 3, none⟩) (n + m - i) sc]).run Try.prog w.drew = .ok (goInt (n - i : Nat)) (w.drew.setCells g ((i + m) * 3) (rwC roC (L.drop i))) := fun ty dc sc =>
    run_copy_rows w.drew _ _ ty 50 3 g ((i + m) * 3) (n + m - (i + m)) dc ⟨g, i * 3, none⟩ (n + m - i) sc (n - i) (rwC roC (L.drop i)) Try.underlying22 sizeRo (by simp only [Nat.min_def]; split <;> omega) hdl
      (fun j v hj => by
        rw [← roC_drop, List.getElem?_drop] at hj
        rw [addAny']
        have := hrow (i * 3 + j) v hj
        rw [Nat.zero_add] at this; exact this)
      (fun j hj => hsome _ (by omega)) (fun j _ => hfz _) (oneRw roT _)
  obtain ⟨W1, hW1⟩ : ∃ W1, W1 = w.drew.setCells g ((i + m) * 3) (rwC roC (L.drop i)) := ⟨_, rfl⟩
  have hty1 := hd_setCells (rwC roC (L.drop i)) ((i + m) * 3) w.drew (show ∃ cur, w.drew.heap[g]? = some (.cells cur 50 (0, 0)) ∧ cur.size = c * 3 from h.ty)
  rw [← hW1] at hty1
  have hsp1 : ∀ k, k < c * 3 → (W1.cell? ⟨g, k, none⟩).isSome = true := fun k hk => by
    obtain ⟨cur, e1, e2⟩ := hty1
    rw [cell_of_row W1 g _ cur _ _ e1, Array.getElem?_eq_getElem (by omega)]; rfl
  have hfz1 : ∀ k, W1.frozen? ⟨g, k, none⟩ = false := fun k => by
    obtain ⟨cur, e1, _⟩ := hty1
    simp [World.frozen?, e1]
  have hcp2 : ∀ (W : World), (∀ x, W.cell? x = W1.cell? x) → (∀ x, W.frozen? x = W1.frozen? x) → ∀ ty dc, (Builtin.copy_ #[22, 22] ty #[.slice (some ⟨g, i * 3, none⟩) (n + m - i) dc, .slice (some ⟨vb, 0, none⟩) m vc]).run Try.prog W = .ok (goInt (m : Nat)) (W.setCells g (i * 3) (rwC roC M)) := fun W hWc hWf ty dc =>
    run_copy_rows W _ _ ty 50 3 g (i * 3) (n + m - i) dc ⟨vb, 0, none⟩ m vc m (rwC roC M) Try.underlying22 sizeRo (by simp only [Nat.min_def]; split <;> omega) hml
      (fun j v hj => by
        rw [addAny', hWc, hW1, World.cell?_setCells_out g _ _ _ _ (fun h _ => absurd h hne)]
        have := hrowM j v hj
        rw [Nat.zero_add] at this ⊢; exact this)
      (fun j hj => by rw [hWc]; exact hsp1 _ (by omega)) (fun j _ => by rw [hWf]; exact hfz1 _) (oneRw roT _)
  have hlen : (L.take i ++ M ++ L.drop i).length = n + m := by simp; omega
  have hfin : ∀ W', W' = (w.drew.setCells g ((i + m) * 3) (rwC roC (L.drop i))).setCells g (i * 3) (rwC roC M) → DrP B w (L.take i ++ M ++ L.drop i) (.returned (.slice (some ⟨g, 0, none⟩) (n + m) c)) W' := fun W' e => by
    have hbel : Below B w W' := by rw [e]; exact sc_below hB _ _ _ _ (sc_below hB _ _ _ _ (Below.refl B w).drew)
    refine ⟨some ⟨g, 0, none⟩, c, by rw [hlen], rw_three (Nat.lt_of_lt_of_le hlt hbel.size) _ _ _ (fun j u hu => ?_) (fun j u hu => ?_) (fun j u hu => ?_), fun _ q e => by cases e; exact hB, by rw [hlen]; exact hroom, hc63, hbel⟩
    · have hj := (List.getElem?_eq_some_iff.1 hu).1
      rw [roC_len, htl] at hj
      rw [← roC_take, List.getElem?_take_of_lt hj] at hu
      rw [e, World.cell?_setCells_out g _ _ _ _ (fun _ _ => .inl hj), World.cell?_setCells_out g _ _ _ _ (fun _ _ => .inl (by simp only; omega))]
      have := hrow j u hu
      rw [Nat.zero_add] at this; exact this
    · have hj := (List.getElem?_eq_some_iff.1 hu).1
      rw [htl, e, ← hW1, World.cell?_setCells_in g (rwC roC M) (i * 3) W1 (fun k hk => hsp1 _ (by omega)) j hj]
      rw [List.getElem?_eq_getElem hj] at hu; exact hu
    · have hj := (List.getElem?_eq_some_iff.1 hu).1
      rw [htl, hm, e, World.cell?_setCells_out g _ _ _ _ (fun _ _ => .inr (by simp only; omega)), World.cell?_setCells_in g (rwC roC (L.drop i)) ((i + m) * 3) w.drew (fun k hk => hsome _ (by omega)) j hj]
      rw [List.getElem?_eq_getElem hj] at hu; exact hu
  rw [← hW1] at hcp1 hfin
  obtain ⟨Z, hZ⟩ : ∃ Z, L.take i ++ M ++ L.drop i = Z := ⟨_, rfl⟩
  rw [hZ] at hfin ⊢
  have HCP1 := Lib.hid hcp1
  have HCP2 := Lib.hid hcp2
  have HFIN := Lib.hid hfin
  have hz1 : ¬ ((m : Int) = 0) := by omega
  have hz2 : ¬ ((i : Int) = (n : Int)) := by omega
  have hw1 : IntKind.i64.wrap ((i : Int) + (m : Int)) = (i : Int) + (m : Int) := by rw [IntKind.wrap_i64]; omega
  have hb1 : (0 : Int) ≤ (i : Int) + (m : Int) := by omega
  have hin : i ≤ n := by omega
  have htn : ((i : Int) + (m : Int)).toNat = i + m := by omega
  have hb2 : ¬ (c = i + m) := by omega
  have hb3 : (i : Int) ≤ (n : Int) + (m : Int) := by omega
  have hb4 : ¬ (c = i) := by omega
  have hl1 : n ≤ 140737488351232 := by omega
  have hl2 : m ≤ 140737488351232 := by omega
  have hc64 : c ≤ 9223372036854775807 := maxLen63 hc63
  have HW1 := Lib.hid hW1
  clear hZ hW1 hcp1 hcp2 hfin hrow hrowM hV hsome hfz hsp1 hfz1 hdl hml hlen hn hm hl h htl hty1 hc63
  go_enter Try.func105, Try.ntmps105
  go_wp2_with (simp only [hov])
  go_region_law (refine step_copy_runI rfl _ _ 22 22 rfl (.slice (some ⟨g, (i + m) * 3, none⟩) (n + m - (i + m)) (c - (i + m))) (.slice (some ⟨g, i * 3, none⟩) (n + m - i) (c - i)) (by simp [Act.eval, Act.put]) (by simp [Act.eval, Act.put]) (HCP1.out 3 (c - (i + m)) (c - i)) ?_)
  have hcp2e := HCP2.out W1 (fun _ => rfl) (fun _ => rfl) 3 (c - i)
  go_wp2_with fail
  go_ret
  first | exact HFIN.out _ rfl | exact HFIN.out _ (by rw [HW1.out])
end Go.Proofs.Ythgnecggdlamfaa
/- slices.Insert at rows, amid, where there is no room. -/
namespace Go.Proofs.Ythgnecggdlamfaa
open Go.RowKit Go.Lib

set_option maxHeartbeats 4000000 in
set_option maxRecDepth 100000 in
theorem insGrowR (B g n c i m vb vc : Nat) (L M : List Ro) (w : World) (h : HdR w g c L) (hBw : B ≤ w.heap.size) (hn : L.length = n) (hi : i < n) (hm : M.length = m) (h0 : 0 < m) (hroom : c < n + m) (hl : (n + m) * 40 ≤ 140737488355328) (hV : HdR w vb m M) :
    Calls Try.prog 105 #[.slice (some ⟨g, 0, none⟩) n c, .int .i64 i, .slice (some ⟨vb, 0, none⟩) m vc] w (DrP B w (L.take i ++ M ++ L.drop i)) := by
  have hlt := h.lt
  have hcap : n ≤ c := by rw [← hn]; exact h.le
  obtain ⟨i0, hi0, hz0, hzs, hzb⟩ := info_parts roT.info
  have hdl : (rwC roC (L.drop i)).length = (n - i) * 3 := by rw [roC_len, List.length_drop, hn]
  have hml : (rwC roC M).length = m * 3 := by rw [roC_len, hm]
  have htl : (L.take i).length = i := by rw [List.length_take]; omega
  have hrow := rw_row roT.len roT.kp h.row
  have hrowM := rw_row roT.len roT.kp hV.row
  have hvw : vb < w.heap.size := hV.lt
  have hik : i + (n + m - i) = n + m := by omega
  have hold : (Builtin.firstCells i0.size i (.slice (some ⟨g, 0, none⟩) i c)).run Try.prog w.drew = .ok (rwC roC (L.take i)).toArray w.drew := by
    rw [hzs]
    exact run_firstCells_some w.drew 3 i ⟨g, 0, none⟩ i c (rwC roC (L.take i)) (by rw [roC_len, htl]) (fun j v hj => by
      rw [addAny']
      rw [← roC_take, List.getElem?_take] at hj
      split at hj
      · exact hrow j v hj
      · cases hj)
  obtain ⟨G, hG⟩ : ∃ G, G = grownCap w (n + m) c 50 := ⟨_, rfl⟩
  obtain ⟨ROW, hROW⟩ : ∃ ROW : Array Value, ROW = (rwC roC (L.take i)).toArray ++ Builtin.zeroCells (Value.agg #[.string ⟨#[]⟩, .string ⟨#[]⟩, .int .u64 0]).cells (n + m - i) ++ Builtin.zeroCells (Value.agg #[.string ⟨#[]⟩, .string ⟨#[]⟩, .int .u64 0]).cells (G - (n + m)) := ⟨_, rfl⟩
  have hrz : (Builtin.append_ #[22, 3] 22 #[.slice (some ⟨g, 0, none⟩) i c, .int .i64 ((n : Int) + (m : Int) - (i : Int))]).run Try.prog w =
      .ok (.slice (some ⟨w.heap.size, 0, none⟩) (n + m) G) (w.drew.alloc (.cells ROW 50)) := by
    have h := Lib.run_append_grow_zeros w 22 3 22 50 i0 _ .i64 .i64 Try.underlying22 Try.underlying3 hi0 hz0 (some ⟨g, 0, none⟩) i c (rwC roC (L.take i)) hold (n + m - i) (by omega) (by omega) (by omega) (by omega) (by rw [hzb]; omega) (by rw [hzb, hik]; exact growslice_fits hroom (by omega))
    rw [hik, ← hG, ← hROW] at h
    rw [show (n : Int) + (m : Int) - (i : Int) = ((n + m - i : Nat) : Int) by omega]
    exact h
  have hGn : n + m ≤ G := by rw [hG]; exact grownCap_ge w _ _ _
  have hGm : G ≤ maxLen := by
    have := grownCap_le_maxLen w (n + m) c 50 (by unfold maxLen; omega)
    rw [← hG] at this; exact this
  have hG63 : G ≤ 9223372036854775807 := maxLen63 hGm
  have hRs : ROW.size = G * 3 := by
    rw [hROW]
    simp [Builtin.zeroCells, Value.cells, roC_len, htl]
    omega
  have hRt : ∀ j, j < i * 3 → ROW[j]? = (rwC roC L)[j]? := fun j hj => by
    rw [hROW, Array.append_assoc, Array.getElem?_append_left (by simp [roC_len, htl]; omega)]
    rw [← roC_take, List.getElem?_toArray, List.getElem?_take_of_lt hj]
  obtain ⟨W1, hW1⟩ : ∃ W1, W1 = w.drew.alloc (.cells ROW 50) := ⟨_, rfl⟩
  have hsz1 : W1.heap.size = w.heap.size + 1 := by rw [hW1]; simp
  have hB1 : Below B w W1 := by rw [hW1]; exact (Below.refl B w).drew.alloc (by simpa using hBw) _
  have hN : ∀ j, j < G * 3 → (W1.cell? ⟨w.heap.size, j, none⟩).isSome = true := fun j hj => by
    rw [hW1, World.cell?_alloc_at (w := w.drew) ROW _ w.heap.size j rfl, Array.getElem?_eq_getElem (by omega)]; rfl
  have hNt : ∀ j, W1.cell? ⟨w.heap.size, j, none⟩ = ROW[j]? := fun j => by rw [hW1, World.cell?_alloc_at (w := w.drew) ROW _ w.heap.size j rfl]
  have hNf : ∀ j, W1.frozen? ⟨w.heap.size, j, none⟩ = false := fun j => by rw [hW1]; exact World.frozen?_alloc_at (w := w.drew) ROW _ w.heap.size j rfl
  have hOb : ∀ j v, w.cell? ⟨g, j, none⟩ = some v → W1.cell? ⟨g, j, none⟩ = some v := fun j v h => by rw [hW1, World.cell?_alloc_past (w := w.drew) _ g j hlt]; exact h
  have hOv : ∀ j v, w.cell? ⟨vb, j, none⟩ = some v → W1.cell? ⟨vb, j, none⟩ = some v := fun j v h => by rw [hW1, World.cell?_alloc_past (w := w.drew) _ vb j hvw]; exact h
  have hcpA : (Builtin.copy_ #[22, 22] 3 #[.slice (some ⟨w.heap.size, i * 3, none⟩) (n + m - i) (G - i), .slice (some ⟨vb, 0, none⟩) m vc]).run Try.prog W1 = .ok (goInt (m : Nat)) (W1.setCells w.heap.size (i * 3) (rwC roC M)) :=
    run_copy_rows W1 _ _ _ 50 3 w.heap.size (i * 3) (n + m - i) (G - i) ⟨vb, 0, none⟩ m vc m (rwC roC M) Try.underlying22 sizeRo (by simp only [Nat.min_def]; split <;> omega) hml
      (fun j v hj => by rw [addAny']; have := hrowM j v hj; rw [Nat.zero_add] at this ⊢; exact hOv _ v this)
      (fun j hj => hN _ (by omega)) (fun j hj => hNf _) (oneRw roT _)
  obtain ⟨W2, hW2⟩ : ∃ W2, W2 = W1.setCells w.heap.size (i * 3) (rwC roC M) := ⟨_, rfl⟩
  have hs2 : W2.heap.size = W1.heap.size := by rw [hW2, sc_size]
  have hty1 : ∃ cur, W1.heap[w.heap.size]? = some (.cells cur 50 (0, 0)) ∧ cur.size = G * 3 := ⟨ROW, by rw [hW1]; exact heap_alloc_new w.drew _, hRs⟩
  have hty2 := hd_setCells (rwC roC M) (i * 3) W1 hty1
  rw [← hW2] at hty2
  have hN2 : ∀ j, j < G * 3 → (W2.cell? ⟨w.heap.size, j, none⟩).isSome = true := fun j hj => by
    obtain ⟨cur, e1, e2⟩ := hty2
    rw [cell_of_row W2 _ _ cur _ _ e1, Array.getElem?_eq_getElem (by omega)]; rfl
  have hgN : g ≠ w.heap.size := by omega
  have hcpB : (Builtin.copy_ #[22, 22] 3 #[.slice (some ⟨w.heap.size, (i + m) * 3, none⟩) (n + m - (i + m)) (G - (i + m)), .slice (some ⟨g, i * 3, none⟩) (n - i) (c - i)]).run Try.prog W2.drew = .ok (goInt (n - i : Nat)) (W2.drew.setCells w.heap.size ((i + m) * 3) (rwC roC (L.drop i))) :=
    run_copy_rows W2.drew _ _ _ 50 3 w.heap.size ((i + m) * 3) (n + m - (i + m)) (G - (i + m)) ⟨g, i * 3, none⟩ (n - i) (c - i) (n - i) (rwC roC (L.drop i)) Try.underlying22 sizeRo (by simp only [Nat.min_def]; split <;> omega) hdl
      (fun j v hj => by
        rw [← roC_drop, List.getElem?_drop] at hj
        rw [addAny', show (W2.drew.cell? ⟨g, i * 3 + j, none⟩) = W2.cell? ⟨g, i * 3 + j, none⟩ from rfl, hW2, World.cell?_setCells_out _ _ _ _ _ (fun h _ => absurd h hgN)]
        have := hrow (i * 3 + j) v hj
        rw [Nat.zero_add] at this
        exact hOb _ v this)
      (fun j hj => hN2 _ (by omega))
      (fun j hj => by rw [show (W2.drew.frozen? ⟨w.heap.size, (i + m) * 3 + j, none⟩) = W2.frozen? ⟨w.heap.size, (i + m) * 3 + j, none⟩ from rfl, hW2, World.frozen?_setCells]; exact hNf _) (oneRw roT _)
  have hlen : (L.take i ++ M ++ L.drop i).length = n + m := by simp; omega
  obtain ⟨W3, hW3⟩ : ∃ W3, W3 = W2.drew.setCells w.heap.size ((i + m) * 3) (rwC roC (L.drop i)) := ⟨_, rfl⟩
  have hB3 : Below B w W3 := by
    rw [hW3]
    refine sc_below hBw _ _ _ _ (Below.drew ?_)
    rw [hW2]; exact sc_below hBw _ _ _ _ hB1
  have hs3 : W3.heap.size = w.heap.size + 1 := by rw [hW3, sc_size]; exact hs2.trans hsz1
  have hfin : DrP B w (L.take i ++ M ++ L.drop i) (.returned (.slice (some ⟨w.heap.size, 0, none⟩) (n + m) G)) W3 := by
    refine ⟨some ⟨w.heap.size, 0, none⟩, G, by rw [hlen], rw_three (by rw [hs3]; omega) _ _ _ (fun j u hu => ?_) (fun j u hu => ?_) (fun j u hu => ?_), fun _ q e => by cases e; exact hBw, by rw [hlen]; exact hGn, hGm, hB3⟩
    · have hj := (List.getElem?_eq_some_iff.1 hu).1
      rw [roC_len, htl] at hj
      rw [← roC_take, List.getElem?_take_of_lt hj] at hu
      rw [hW3, World.cell?_setCells_out w.heap.size _ _ _ _ (fun _ _ => .inl (by simp only; omega)), show (W2.drew.cell? ⟨w.heap.size, j, none⟩) = W2.cell? ⟨w.heap.size, j, none⟩ from rfl, hW2, World.cell?_setCells_out w.heap.size _ _ _ _ (fun _ _ => .inl hj), hNt, hRt j hj]
      exact hu
    · have hj := (List.getElem?_eq_some_iff.1 hu).1
      rw [htl, hW3, World.cell?_setCells_out w.heap.size _ _ _ _ (fun _ _ => .inl (by simp only; omega)), show (W2.drew.cell? ⟨w.heap.size, i * 3 + j, none⟩) = W2.cell? ⟨w.heap.size, i * 3 + j, none⟩ from rfl, hW2, World.cell?_setCells_in w.heap.size (rwC roC M) (i * 3) W1 (fun k hk => hN _ (by omega)) j hj]
      rw [List.getElem?_eq_getElem hj] at hu; exact hu
    · have hj := (List.getElem?_eq_some_iff.1 hu).1
      rw [htl, hm, hW3, World.cell?_setCells_in w.heap.size (rwC roC (L.drop i)) ((i + m) * 3) W2.drew (fun k hk => hN2 _ (by omega)) j hj]
      rw [List.getElem?_eq_getElem hj] at hu; exact hu
  rw [← hW1] at hrz
  rw [← hW2] at hcpA
  rw [← hW3] at hcpB
  obtain ⟨Z, hZ⟩ : ∃ Z, L.take i ++ M ++ L.drop i = Z := ⟨_, rfl⟩
  rw [hZ] at hfin ⊢
  have HCPB := Lib.hid hcpB
  have HRZ := Lib.hid hrz
  have HFIN := Lib.hid hfin
  have hz1 : ¬ ((m : Int) = 0) := by omega
  have hz2 : ¬ ((i : Int) = (n : Int)) := by omega
  have hz3 : (c : Int) < (n : Int) + (m : Int) := by omega
  have hw1 : IntKind.i64.wrap ((i : Int) + (m : Int)) = (i : Int) + (m : Int) := by rw [IntKind.wrap_i64]; omega
  have hb1 : (0 : Int) ≤ (i : Int) + (m : Int) := by omega
  have hin : i ≤ n := by omega
  have htn : ((i : Int) + (m : Int)).toNat = i + m := by omega
  have hb3 : (i : Int) ≤ (n : Int) + (m : Int) := by omega
  have hb5 : (i : Int) ≤ (n : Int) := by omega
  have hGi : ¬ (G = i) := by omega
  have hGim : ¬ (G = i + m) := by omega
  have hci : ¬ (c = i) := by omega
  have hl1 : n ≤ 140737488351232 := by omega
  have hl2 : m ≤ 140737488351232 := by omega
  clear hrz hZ hW1 hW2 hW3 hcpB hfin hrow hrowM hV hdl hml hlen hn hm hl hold hROW hRs hRt hG hN hNt hNf hOb hOv hN2 hB3 hB1 hsz1 hi0 hz0 hzs hzb hik hvw h htl hs2 hs3 hty1 hty2 hGm
  go_enter Try.func105, Try.ntmps105
  go_wp2_with (at_builtin; refine Lib.wpList_append_run _ rfl _ _ 22 3 rfl (.slice (some ⟨g, 0, none⟩) i c) (.int .i64 ((n : Int) + (m : Int) - (i : Int))) rfl rfl _ _ HRZ.out ?_)
  go_region_law (refine step_copy_runI rfl _ _ 22 22 rfl (.slice (some ⟨w.heap.size, (i + m) * 3, none⟩) (n + m - (i + m)) (G - (i + m))) (.slice (some ⟨g, i * 3, none⟩) (n - i) (c - i)) (by simp [Act.eval, Act.put]) (by simp [Act.eval, Act.put]) HCPB.out ?_)
  go_wp2_with fail
  go_ret
  exact HFIN.out
end Go.Proofs.Ythgnecggdlamfaa
