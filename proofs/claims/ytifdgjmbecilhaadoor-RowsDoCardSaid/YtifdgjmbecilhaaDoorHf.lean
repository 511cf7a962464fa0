/- slices.Insert at rows: at the end; amid, with room; amid, without. -/
import Derived.Test.YtifdgjmbecilhaaDoorHe
namespace Go.Proofs.YtifdgjmbecilhaaDoor
open Go.RowKit Go.Lib

theorem sizeRo : (Tryd.prog.info? 26).map (·.size) = some 3 := by
  obtain ⟨i0, hi0, _, h1, _⟩ := info_parts roT.info
  rw [hi0]; simp [h1]
theorem sc_below {B b : Nat} (hb : B ≤ b) : ∀ (vs : List Value) (o : Nat) (w W : World), Below B w W → Below B w (W.setCells b o vs)
  | [], _, _, _, h => h
  | v :: r, o, w, W, h => sc_below hb r (o + 1) w (W.setCell ⟨b, o, none⟩ v) (h.setCell hb v)
theorem roC_drop (L : List Ro) (i : Nat) : (rwC roC L).drop (i * 3) = rwC roC (L.drop i) := by
  induction i generalizing L with
  | zero => simp
  | succ i ih =>
    cases L with
    | nil => simp [rwC]
    | cons x r =>
      have : (rwC roC (x :: r)) = roC x ++ rwC roC r := by simp [rwC]
      rw [this, List.drop_succ_cons, ← ih r, show (i + 1) * 3 = 3 + i * 3 by omega, ← List.drop_drop, List.drop_left' (by rfl)]
theorem roC_take (L : List Ro) (i : Nat) : (rwC roC L).take (i * 3) = rwC roC (L.take i) := by
  induction i generalizing L with
  | zero => simp [rwC]
  | succ i ih =>
    cases L with
    | nil => simp [rwC]
    | cons x r =>
      have : (rwC roC (x :: r)) = roC x ++ rwC roC r := by simp [rwC]
      rw [this, List.take_succ_cons, show (i + 1) * 3 = 3 + i * 3 by omega, List.take_append, List.take_of_length_le (by show 3 ≤ _; omega), show 3 + i * 3 - (roC x).length = i * 3 by show 3 + i * 3 - 3 = _; omega, ih r]
      simp [rwC]
theorem roC_len (L : List Ro) : (rwC roC L).length = L.length * 3 := rwC_len roT.len L
/-- Three pieces, one behind the other, in one row: where a piece's cells lie. -/
theorem rw_three {w : World} {g : Nat} (hg : g < w.heap.size) (A M D : List Ro)
    (h1 : ∀ j u, (rwC roC A)[j]? = some u → w.cell? ⟨g, j, none⟩ = some u)
    (h2 : ∀ j u, (rwC roC M)[j]? = some u → w.cell? ⟨g, A.length * 3 + j, none⟩ = some u)
    (h3 : ∀ j u, (rwC roC D)[j]? = some u → w.cell? ⟨g, (A.length + M.length) * 3 + j, none⟩ = some u) : Ros w (some ⟨g, 0, none⟩) (A ++ M ++ D) := fun j x hx => by
  refine ⟨g, 0, rfl, hg, fun i u hu => ?_⟩
  rw [Nat.zero_add]
  by_cases j1 : j < A.length
  · rw [List.append_assoc, List.getElem?_append_left j1] at hx
    exact h1 _ _ (rwC_at roT.len A j x hx i u hu)
  · by_cases j2 : j < A.length + M.length
    · rw [List.getElem?_append_left (by simp; omega), List.getElem?_append_right (by omega)] at hx
      have := h2 _ _ (rwC_at roT.len M _ x hx i u hu)
      rw [show A.length * 3 + ((j - A.length) * 3 + i) = j * 3 + i by omega] at this; exact this
    · rw [List.getElem?_append_right (by simp; omega), List.length_append] at hx
      have := h3 _ _ (rwC_at roT.len D _ x hx i u hu)
      rw [show (A.length + M.length) * 3 + ((j - (A.length + M.length)) * 3 + i) = j * 3 + i by omega] at this; exact this
set_option maxHeartbeats 4000000 in
set_option maxRecDepth 100000 in
theorem insEndR (B n m vc : Nat) (v : Value) (a2 : Option Addr) (L M : List Ro) (w : World) (a : Option Addr) (c : Nat) (hv : v = .slice a n c) (hn : L.length = n) (_ : n ≤ c) (_ : c ≤ 9223372036854775807) (hm : M.length = m) (h0 : 0 < m) (hl : (n + m) * 40 ≤ 140737488355328) (hB : B ≤ w.heap.size) (h : CqR B w v L) (hV : Ros w a2 M) :
    Calls Tryd.prog 50 #[v, .int .i64 n, .slice a2 m vc] w (DrP B w (L ++ M)) := by
  obtain ⟨v', w', hr, hc, hb⟩ := app_rw roT B w 22 v L h a2 m vc M hm hV (by rw [hn]; exact hl) hB
  obtain ⟨a3, c3, rfl, hU, hfr, hlc, hmx⟩ := hc.form roT
  have HR := Lib.hid hr
  have HF := Lib.hid (show DrP B w (L ++ M) (.returned (.slice a3 (L ++ M).length c3)) w' from ⟨a3, c3, rfl, hU, hfr, hlc, hmx, hb⟩)
  have hz1 : ¬ ((m : Int) = 0) := by omega
  have hl1 : n ≤ 140737488351232 := by omega
  have hl2 : m ≤ 140737488351232 := by omega
  obtain ⟨R, hR⟩ : ∃ R, (Value.slice a3 (L ++ M).length c3) = R := ⟨_, rfl⟩
  rw [hR] at HR HF
  subst hv
  clear hr hc hb hU hV h hn hm hl hR hfr hlc hmx
  go_enter Tryd.func50, Tryd.ntmps50
  go_wp2_with (at_builtin; refine Lib.wpList_append_run _ rfl _ _ 22 22 rfl (.slice a n c) (.slice a2 m vc) rfl rfl _ _ HR.out ?_)
  all_goals
    go_wp2_with fail
    go_ret
    exact HF.out
set_option maxHeartbeats 4000000 in
set_option maxRecDepth 100000 in
theorem insRoomR (B g n c i m vb vc : Nat) (L M : List Ro) (w : World) (h : HdR w g c L) (hB : B ≤ g) (hc63 : c ≤ maxLen) (hn : L.length = n) (hi : i < n) (hm : M.length = m) (h0 : 0 < m) (hroom : n + m ≤ c) (hl : (n + m) * 40 ≤ 140737488355328) (hV : HdR w vb m M) (hne : vb ≠ g) :
    Calls Tryd.prog 50 #[.slice (some ⟨g, 0, none⟩) n c, .int .i64 i, .slice (some ⟨vb, 0, none⟩) m vc] w (DrP B w (L.take i ++ M ++ L.drop i)) := by
  have hlt := h.lt
  have hdl : (rwC roC (L.drop i)).length = (n - i) * 3 := by rw [roC_len, List.length_drop, hn]
  have hml : (rwC roC M).length = m * 3 := by rw [roC_len, hm]
  have htl : (L.take i).length = i := by rw [List.length_take]; omega
  have hrow := rw_row roT.len roT.kp h.row
  have hrowM := rw_row roT.len roT.kp hV.row
  have hsome : ∀ j, j < c * 3 → (w.cell? ⟨g, j, none⟩).isSome = true := fun j hj => h.has hj
  have hfz : ∀ j, w.frozen? ⟨g, j, none⟩ = false := fun j => h.fz j
  have hov : ∀ lb cb, (callFunc 56 #[.slice (some ⟨vb, 0, none⟩) m vc, .slice (some ⟨g, (i + m) * 3, none⟩) lb cb]).run Tryd.prog w = .ok (.value (.bool false)) w := fun lb cb => by
    rw [run_callFunc_extern Tryd.func56 (by kernel_rfl) (by kernel_rfl) (by kernel_rfl) (e := Extern.SlicesOverlaps.overlaps #[22, 22] #[4]) (by kernel_rfl),
      Lib.run_overlaps_apart w 22 4 26 Tryd.underlying22 3 Tryd.sizeOf26 ⟨vb, 0, none⟩ ⟨g, (i + m) * 3, none⟩ m vc lb cb hne _ _ (m * 3) (c * 3) hV.shape h.shape (by omega) (hV.fz 0) (hV.fz _)]
    rfl
  have hcp1 : ∀ ty dc sc, (Builtin.copy_ #[22, 22] ty #[.slice (some ⟨g, (i + m) * 3, none⟩) (n + m - (i + m)) dc, .slice (some ⟨g, i * 3, none⟩) (n + m - i) sc]).run Tryd.prog w.drew = .ok (goInt (n - i : Nat)) (w.drew.setCells g ((i + m) * 3) (rwC roC (L.drop i))) := fun ty dc sc =>
    run_copy_rows w.drew _ _ ty 26 3 g ((i + m) * 3) (n + m - (i + m)) dc ⟨g, i * 3, none⟩ (n + m - i) sc (n - i) (rwC roC (L.drop i)) Tryd.underlying22 sizeRo (by simp only [Nat.min_def]; split <;> omega) hdl
      (fun j v hj => by
        rw [← roC_drop, List.getElem?_drop] at hj
        rw [addAny']
        have := hrow (i * 3 + j) v hj
        rw [Nat.zero_add] at this; exact this)
      (fun j hj => hsome _ (by omega)) (fun j _ => hfz _) (oneRw roT _)
  obtain ⟨W1, hW1⟩ : ∃ W1, W1 = w.drew.setCells g ((i + m) * 3) (rwC roC (L.drop i)) := ⟨_, rfl⟩
  have hty1 := hd_setCells (rwC roC (L.drop i)) ((i + m) * 3) w.drew (show ∃ cur, w.drew.heap[g]? = some (.cells cur 26 (0, 0)) ∧ cur.size = c * 3 from h.ty)
  rw [← hW1] at hty1
  have hsp1 : ∀ k, k < c * 3 → (W1.cell? ⟨g, k, none⟩).isSome = true := fun k hk => by
    obtain ⟨cur, e1, e2⟩ := hty1
    rw [cell_of_row W1 g _ cur _ _ e1, Array.getElem?_eq_getElem (by omega)]; rfl
  have hfz1 : ∀ k, W1.frozen? ⟨g, k, none⟩ = false := fun k => by
    obtain ⟨cur, e1, _⟩ := hty1
    simp [World.frozen?, e1]
  have hcp2 : ∀ (W : World), (∀ x, W.cell? x = W1.cell? x) → (∀ x, W.frozen? x = W1.frozen? x) → ∀ ty dc, (Builtin.copy_ #[22, 22] ty #[.slice (some ⟨g, i * 3, none⟩) (n + m - i) dc, .slice (some ⟨vb, 0, none⟩) m vc]).run Tryd.prog W = .ok (goInt (m : Nat)) (W.setCells g (i * 3) (rwC roC M)) := fun W hWc hWf ty dc =>
    run_copy_rows W _ _ ty 26 3 g (i * 3) (n + m - i) dc ⟨vb, 0, none⟩ m vc m (rwC roC M) Tryd.underlying22 sizeRo (by simp only [Nat.min_def]; split <;> omega) hml
      (fun j v hj => by
        rw [addAny', hWc, hW1, World.cell?_setCells_out g _ _ _ _ (fun h _ => absurd h hne)]
        have := hrowM j v hj
        rw [Nat.zero_add] at this ⊢; exact this)
      (fun j hj => by rw [hWc]; exact hsp1 _ (by omega)) (fun j _ => by rw [hWf]; exact hfz1 _) (oneRw roT _)
  have hlen : (L.take i ++ M ++ L.drop i).length = n + m := by simp; omega
  have hfin : ∀ W', W' = (w.drew.setCells g ((i + m) * 3) (rwC roC (L.drop i))).setCells g (i * 3) (rwC roC M) → DrP B w (L.take i ++ M ++ L.drop i) (.returned (.slice (some ⟨g, 0, none⟩) (n + m) c)) W' := fun W' e => by
    have hbel : Below B w W' := by rw [e]; exact sc_below hB _ _ _ _ (sc_below hB _ _ _ _ (Below.refl B w).drew)
    refine ⟨some ⟨g, 0, none⟩, c, by rw [hlen], rw_three (Nat.lt_of_lt_of_le hlt hbel.size) _ _ _ (fun j u hu => ?_) (fun j u hu => ?_) (fun j u hu => ?_), fun _ q e => by cases e; exact hB, by rw [hlen]; exact hroom, hc63, hbel⟩
    · have hj := (List.getElem?_eq_some_iff.1 hu).1
      rw [roC_len, htl] at hj
      rw [← roC_take, List.getElem?_take_of_lt hj] at hu
      rw [e, World.cell?_setCells_out g _ _ _ _ (fun _ _ => .inl hj), World.cell?_setCells_out g _ _ _ _ (fun _ _ => .inl (by simp only; omega))]
      have := hrow j u hu
      rw [Nat.zero_add] at this; exact this
    · have hj := (List.getElem?_eq_some_iff.1 hu).1
      rw [htl, e, ← hW1, World.cell?_setCells_in g (rwC roC M) (i * 3) W1 (fun k hk => hsp1 _ (by omega)) j hj]
      rw [List.getElem?_eq_getElem hj] at hu; exact hu
    · have hj := (List.getElem?_eq_some_iff.1 hu).1
      rw [htl, hm, e, World.cell?_setCells_out g _ _ _ _ (fun _ _ => .inr (by simp only; omega)), World.cell?_setCells_in g (rwC roC (L.drop i)) ((i + m) * 3) w.drew (fun k hk => hsome _ (by omega)) j hj]
      rw [List.getElem?_eq_getElem hj] at hu; exact hu
  rw [← hW1] at hcp1 hfin
  obtain ⟨Z, hZ⟩ : ∃ Z, L.take i ++ M ++ L.drop i = Z := ⟨_, rfl⟩
  rw [hZ] at hfin ⊢
  have HCP1 := Lib.hid hcp1
  have HCP2 := Lib.hid hcp2
  have HFIN := Lib.hid hfin
  have hz1 : ¬ ((m : Int) = 0) := by omega
  have hz2 : ¬ ((i : Int) = (n : Int)) := by omega
  have hw1 : IntKind.i64.wrap ((i : Int) + (m : Int)) = (i : Int) + (m : Int) := by rw [IntKind.wrap_i64]; omega
  have hb1 : (0 : Int) ≤ (i : Int) + (m : Int) := by omega
  have hin : i ≤ n := by omega
  have htn : ((i : Int) + (m : Int)).toNat = i + m := by omega
  have hb2 : ¬ (c = i + m) := by omega
  have hb3 : (i : Int) ≤ (n : Int) + (m : Int) := by omega
  have hb4 : ¬ (c = i) := by omega
  have hl1 : n ≤ 140737488351232 := by omega
  have hl2 : m ≤ 140737488351232 := by omega
  have hc64 : c ≤ 9223372036854775807 := maxLen63 hc63
  have HW1 := Lib.hid hW1
  clear hZ hW1 hcp1 hcp2 hfin hrow hrowM hV hsome hfz hsp1 hfz1 hdl hml hlen hn hm hl h htl hty1 hc63
  go_enter Tryd.func50, Tryd.ntmps50
  go_wp2_with (simp only [hov])
  go_region_law (refine step_copy_runI rfl _ _ 22 22 rfl (.slice (some ⟨g, (i + m) * 3, none⟩) (n + m - (i + m)) (c - (i + m))) (.slice (some ⟨g, i * 3, none⟩) (n + m - i) (c - i)) (by simp [Act.eval, Act.put]) (by simp [Act.eval, Act.put]) (HCP1.out 3 (c - (i + m)) (c - i)) ?_)
  have hcp2e := HCP2.out W1 (fun _ => rfl) (fun _ => rfl) 3 (c - i)
  go_wp2_with fail
  go_ret
  first | exact HFIN.out _ rfl | exact HFIN.out _ (by rw [HW1.out])
end Go.Proofs.YtifdgjmbecilhaaDoor
