/- slices.Insert at numbers: at the end; amid, with room; amid, without. -/
import Derived.Test.YtdcpiaoadbbdoaaGreatDoorRtake
import Derived.Test.YtdcpiaoadbbdoaaGreatDoorGe
import Derived.Shelf.Spec.SlicesInsertGrow
import Derived.RegionTactic
import Derived.Deep.RegionLaw
set_option maxRecDepth 100000
set_option maxHeartbeats 16000000
namespace Go.Proofs.YtdcpiaoadbbdoaaGreatDoor
open Go.RowKit Go.Lib

def InP (B : Nat) (w : World) (M : List Nat) (e : Ending) (w' : World) : Prop := ∃ a c, e = .returned (.slice a M.length c) ∧ Us w' a M ∧ (0 < M.length → ∀ q, a = some q → B ≤ q.block) ∧ Below B w w'
theorem sizeU64 : (Tryz.prog.info? 22).map (·.size) = some 1 := by
 obtain ⟨i0, hi0, _, h1, _⟩ := info_parts infoU64
 rw [hi0]; simp [h1]
theorem below_setCellsH {B b : Nat} {w w' : World} (hb : B ≤ b) : ∀ (vs : List Value) (o : Nat) (W : World), Below B w W → w' = W.setCells b o vs → Below B w w'
 | [], _, _, h, e => by rw [e]; exact h
 | v :: r, o, W, h, e => below_setCellsH hb r (o + 1) (W.setCell ⟨b, o, none⟩ v) (h.setCell hb v) e
theorem usCells_drop (L : List Nat) (i : Nat) : (usCells L).drop i = usCells (L.drop i) := by simp [usCells, List.map_drop]
theorem usCells_take (L : List Nat) (i : Nat) : (usCells L).take i = usCells (L.take i) := by simp [usCells, List.map_take]
theorem insEnd (B n m vc : Nat) (v : Value) (a2 : Option Addr) (L M : List Nat) (w : World) (a : Option Addr) (c : Nat) (hv : v = .slice a n c) (hn : L.length = n) (_ : n ≤ c) (_ : c ≤ 9223372036854775807) (hm : M.length = m) (h0 : 0 < m) (hl : (n + m) * 8 ≤ 140737488355328) (hB : B ≤ w.heap.size) (h : CqU B w v L) (hV : Us w a2 M) :
 Calls Tryz.prog 160 #[v, .int .i64 n, .slice a2 m vc] w (InP B w (L ++ M)) := by
 obtain ⟨v', w', hr, hc, hb⟩ := appU B w 23 v L h a2 m vc M hm hV (by rw [hn]; exact hl) hB
 obtain ⟨a3, c3, rfl, hU, hfr, _⟩ := hc.form
 have HR := hI_ hr
 have HF := hI_ (show InP B w (L ++ M) (.returned (.slice a3 (L ++ M).length c3)) w' from ⟨a3, c3, rfl, hU, hfr, hb⟩)
 have hz1 : ¬ ((m : Int) = 0) := by omega
 have hl' : n ≤ 140737488351232 ∧ m ≤ 140737488351232 := by omega
 obtain ⟨hl1, hl2⟩ := hl'
 obtain ⟨R, hR⟩ : ∃ R, (Value.slice a3 (L ++ M).length c3) = R := ⟨_, rfl⟩
 rw [hR] at HR HF
 subst hv
 clear hr hc hb hU hV h hn hm hl hR hfr
 go_enter Tryz.func160, Tryz.ntmps160
 go_wp2_with (at_builtin; refine Lib.wpList_append_run _ rfl _ _ 23 23 rfl (.slice a n c) (.slice a2 m vc) rfl rfl _ _ HR.out ?_)
 all_goals
  go_wp2_with fail
  go_ret
  exact HF.out
structure RwH (B : Nat) (w : World) (g n c : Nat) (L : List Nat) : Prop where
 base : B ≤ g
 lt : g < w.heap.size
 len : L.length = n
 cap : n ≤ c
 c63 : c ≤ 9223372036854775807
 shape : w.shape? g = some (22, c)
 has : ∀ j, j < c → (w.cell? ⟨g, j, none⟩).isSome = true
 fz : ∀ j, w.frozen? ⟨g, j, none⟩ = false
 mem : Us w (some ⟨g, 0, none⟩) L
theorem rwH_of_owns {B : Nat} {w : World} {g n c : Nat} {L : List Nat} (hn : L.length = n) (h : w.ownsRow B 22 1 (.slice (some ⟨g, 0, none⟩) n c) n (usCells L)) : RwH B w g n c L := by
 subst hn
 have hu := us_of_owns h
 obtain ⟨a, cap, e, hcap, hU, hf⟩ := hu
 cases e
 rcases h.2 with ⟨e, _⟩ | ⟨g', cap', cur, e, hB, hg, h1, h2, h3, _⟩
 · cases e
 · cases e
   have hs : cur.size = c := by omega
   refine ⟨hB, lt_of_rowG hg, rfl, h1, h2, by simp [World.shape?, hg, hs], fun j hj => ?_, fun j => by simp [World.frozen?, hg], hU⟩
   rw [cell_of_row w g _ cur _ _ hg, Array.getElem?_eq_getElem (by omega)]; rfl
theorem us_shape {w : World} {x : Nat} {T : TypeId} : (w.alloc (.cells #[.int .u64 (x : Nat)] T)).shape? w.heap.size = some (T, 1) := by unfold World.shape?; rw [heap_alloc_new]; rfl
theorem insRoom (B g n c i m vb vc : Nat) (L M : List Nat) (w : World) (h : RwH B w g n c L) (hi : i < n) (hm : M.length = m) (h0 : 0 < m) (hroom : n + m ≤ c) (hl : (n + m) * 8 ≤ 140737488355328) (hV : Us w (some ⟨vb, 0, none⟩) M) (hne : vb ≠ g) (hs : w.shape? vb = some (22, m)) (hf1 : ∀ j, w.frozen? ⟨vb, j, none⟩ = false) :
 Calls Tryz.prog 160 #[.slice (some ⟨g, 0, none⟩) n c, .int .i64 i, .slice (some ⟨vb, 0, none⟩) m vc] w (InP B w (L.take i ++ M ++ L.drop i)) := by
 obtain ⟨hB, hlt, hn, hcap, hc63, hsh, hsome, hfz, hmem⟩ := h
 have hdl : (usCells (L.drop i)).length = n - i := by rw [usCells_len, List.length_drop, hn]
 have hml : (usCells M).length = m := by rw [usCells_len, hm]
 have hrow := us_row hmem
 have hrowM := us_row hV
 have hov : ∀ lb cb, (callFunc 188 #[.slice (some ⟨vb, 0, none⟩) m vc, .slice (some ⟨g, i + m, none⟩) lb cb]).run Tryz.prog w = .ok (.value (.bool false)) w := fun lb cb => by
  rw [run_callFunc_extern Tryz.func188 (by kernel_rfl) (by kernel_rfl) (by kernel_rfl) (e := Extern.SlicesOverlaps.overlaps #[23, 23] #[4]) (by kernel_rfl),
   Lib.run_overlaps_apart w 23 4 22 Tryz.underlying23 1 Tryz.sizeOf22 ⟨vb, 0, none⟩ ⟨g, i + m, none⟩ m vc lb cb hne _ _ m c hs hsh (by omega) (hf1 0) (hf1 m)]
  rfl
 have hcp1 : ∀ ty dc sc, (Builtin.copy_ #[23, 23] ty #[.slice (some ⟨g, i + m, none⟩) (n + m - (i + m)) dc, .slice (some ⟨g, i, none⟩) (n + m - i) sc]).run Tryz.prog w.drew = .ok (goInt (usCells (L.drop i)).length) (w.drew.setCells g (i + m) (usCells (L.drop i))) := fun ty dc sc =>
  run_copy_cells w.drew _ _ ty 22 g (i + m) (n + m - (i + m)) dc ⟨g, i, none⟩ (n + m - i) sc (usCells (L.drop i)) Tryz.underlying23 sizeU64 (by rw [hdl]; simp only [Nat.min_def]; split <;> omega)
   (fun j v hj => by
    rw [← usCells_drop, List.getElem?_drop] at hj
    rw [addAny]
    have := hrow (i + j) v hj
    rw [Nat.zero_add] at this; exact this)
   (fun j hj => hsome _ (by omega)) (fun j _ => hfz _) (oneUs _)
 obtain ⟨W1, hW1⟩ : ∃ W1, W1 = w.drew.setCells g (i + m) (usCells (L.drop i)) := ⟨_, rfl⟩
 have hsp1 : ∀ k, k < n + m → (W1.cell? ⟨g, k, none⟩).isSome = true := fun k hk => by
  rw [hW1]
  exact isSome_setCells g (usCells (L.drop i)) (i + m) w.drew (fun j hj => hsome _ (by omega)) _ (hsome k (by omega))
 have hfz1 : ∀ k, W1.frozen? ⟨g, k, none⟩ = false := fun k => by rw [hW1, World.frozen?_setCells]; exact hfz k
 have hcp2 : ∀ (W : World), (∀ x, W.cell? x = W1.cell? x) → (∀ x, W.frozen? x = W1.frozen? x) → ∀ ty dc, (Builtin.copy_ #[23, 23] ty #[.slice (some ⟨g, i, none⟩) (n + m - i) dc, .slice (some ⟨vb, 0, none⟩) m vc]).run Tryz.prog W = .ok (goInt (usCells M).length) (W.setCells g i (usCells M)) := fun W hWc hWf ty dc =>
  run_copy_cells W _ _ ty 22 g i (n + m - i) dc ⟨vb, 0, none⟩ m vc (usCells M) Tryz.underlying23 sizeU64 (by rw [hml]; simp only [Nat.min_def]; split <;> omega)
   (fun j v hj => by
    rw [addAny, hWc, hW1, World.cell?_setCells_out g _ _ _ _ (fun h _ => absurd h hne)]
    exact hrowM j v hj)
   (fun j hj => by rw [hWc]; exact hsp1 _ (by omega)) (fun j _ => by rw [hWf]; exact hfz1 _) (oneUs _)
 have hlen : (L.take i ++ M ++ L.drop i).length = n + m := by simp; omega
 have hfin : ∀ W', W' = (w.drew.setCells g (i + m) (usCells (L.drop i))).setCells g i (usCells M) → InP B w (L.take i ++ M ++ L.drop i) (.returned (.slice (some ⟨g, 0, none⟩) (n + m) c)) W' := fun W' e => by
  refine ⟨some ⟨g, 0, none⟩, c, by rw [hlen], fun j x hx => ⟨g, 0, rfl, ?_, ?_⟩, fun _ q e => by cases e; exact hB, ?_⟩
  · exact Nat.lt_of_lt_of_le hlt (below_setCellsH hB _ _ _ (below_setCellsH hB _ _ _ (Below.refl B w).drew rfl) e).size
  · rw [e, Nat.zero_add]
    have hj := (List.getElem?_eq_some_iff.1 hx).1
    rw [hlen] at hj
    rw [← hW1]
    by_cases j1 : j < i
    · rw [World.cell?_setCells_out g _ _ _ _ (fun _ _ => .inl j1), hW1, World.cell?_setCells_out g _ _ _ _ (fun _ _ => .inl (by simp only; omega))]
      rw [List.append_assoc, List.getElem?_append_left (by simp; omega), List.getElem?_take_of_lt j1] at hx
      have := hrow j _ (usCells_at L j x hx)
      rw [Nat.zero_add] at this; exact this
    · by_cases j2 : j < i + m
      · have e2 : j = i + (j - i) := by omega
        rw [e2, World.cell?_setCells_in g (usCells M) i W1 (fun k hk => hsp1 _ (by omega)) (j - i) (by omega)]
        rw [List.getElem?_append_left (by simp; omega), List.getElem?_append_right (by simp; omega)] at hx
        rw [show j - (L.take i).length = j - i by rw [List.length_take]; omega] at hx
        have := usCells_at M _ _ hx
        rw [List.getElem?_eq_getElem (by omega)] at this; exact this
      · rw [World.cell?_setCells_out g _ _ _ _ (fun _ _ => .inr (by simp only; omega)), hW1]
        have e2 : j = i + m + (j - (i + m)) := by omega
        rw [e2, World.cell?_setCells_in g (usCells (L.drop i)) (i + m) w.drew (fun k hk => hsome _ (by omega)) (j - (i + m)) (by omega)]
        rw [List.getElem?_append_right (by simp; omega)] at hx
        rw [show j - (L.take i ++ M).length = j - (i + m) by rw [List.length_append, List.length_take]; omega] at hx
        have := usCells_at _ _ _ hx
        rw [List.getElem?_eq_getElem (by omega)] at this; exact this
  · exact below_setCellsH hB _ _ _ (below_setCellsH hB _ _ _ (Below.refl B w).drew rfl) e
 rw [← hW1] at hcp1 hfin
 obtain ⟨Z, hZ⟩ : ∃ Z, L.take i ++ M ++ L.drop i = Z := ⟨_, rfl⟩
 rw [hZ] at hfin ⊢
 have HCP1 := hI_ hcp1
 have HCP2 := hI_ hcp2
 have HFIN := hI_ hfin
 have hz1 : ¬ ((m : Int) = 0) := by omega
 have hz2 : ¬ ((i : Int) = (n : Int)) := by omega
 have hw1 : IntKind.i64.wrap ((i : Int) + (m : Int)) = (i : Int) + (m : Int) := by rw [IntKind.wrap_i64]; omega
 have hb1 : (0 : Int) ≤ (i : Int) + (m : Int) := by omega
 have hin : i ≤ n := by omega
 have htn : ((i : Int) + (m : Int)).toNat = i + m := by omega
 have hb2 : ¬ (c = i + m) := by omega
 have hb3 : (i : Int) ≤ (n : Int) + (m : Int) := by omega
 have hb4 : ¬ (c = i) := by omega
 have hl1 : n ≤ 140737488351232 := by omega
 have hl2 : m ≤ 140737488351232 := by omega
 have HW1 := hI_ hW1
 clear hZ hW1 hcp1 hcp2 hfin hrow hrowM hV hmem hsome hfz hf1 hsp1 hfz1 hdl hml hlen hn hm hs hsh hl
 go_enter Tryz.func160, Tryz.ntmps160
 go_wp2_with (simp only [hov])
 go_region_law (refine step_copy_runI rfl _ _ 23 23 rfl (.slice (some ⟨g, i + m, none⟩) (n + m - (i + m)) (c - (i + m))) (.slice (some ⟨g, i, none⟩) (n + m - i) (c - i)) (by simp [Act.eval, Act.put]) (by simp [Act.eval, Act.put]) (HCP1.out 3 (c - (i + m)) (c - i)) ?_)
 have hcp2e := HCP2.out W1 (fun _ => rfl) (fun _ => rfl) 3 (c - i)
 go_wp2_with fail
 go_ret
 first | exact HFIN.out _ rfl | exact HFIN.out _ (by rw [HW1.out])
end Go.Proofs.YtdcpiaoadbbdoaaGreatDoor
