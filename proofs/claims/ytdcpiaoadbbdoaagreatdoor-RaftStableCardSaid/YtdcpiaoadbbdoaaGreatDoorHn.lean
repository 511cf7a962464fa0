/- slices.Insert at numbers, amid, where there is no room. -/
import Derived.Test.YtdcpiaoadbbdoaaGreatDoorRtake
import Derived.Test.YtdcpiaoadbbdoaaGreatDoorHg
import Derived.Test.YtdcpiaoadbbdoaaGreatDoorQc
import Derived.Test.YtdcpiaoadbbdoaaGreatDoorJd
import Derived.Deep.RegionHeld3
set_option maxRecDepth 100000
set_option maxHeartbeats 16000000
namespace Go.Proofs.YtdcpiaoadbbdoaaGreatDoor
open Go.RowKit Go.Lib

theorem insGrow (B g n c i m vb vc : Nat) (L M : List Nat) (w : World) (h : RwH B w g n c L) (hBw : B ≤ w.heap.size) (hi : i < n) (hm : M.length = m) (h0 : 0 < m) (hroom : c < n + m) (hl : (n + m) * 8 ≤ 140737488355328) (hV : Us w (some ⟨vb, 0, none⟩) M) :
 Calls Tryz.prog 160 #[.slice (some ⟨g, 0, none⟩) n c, .int .i64 i, .slice (some ⟨vb, 0, none⟩) m vc] w (InP B w (L.take i ++ M ++ L.drop i)) := by
 obtain ⟨_, hlt, hn, hcap, hc63, hsh, hsome, hfz, hmem⟩ := h
 obtain ⟨i0, hi0, hz0, hzs, hzb⟩ := info_parts infoU64
 have hdl : (usCells (L.drop i)).length = n - i := by rw [usCells_len, List.length_drop, hn]
 have hml : (usCells M).length = m := by rw [usCells_len, hm]
 have hrow := us_row hmem
 have hrowM := us_row hV
 have hvw : vb < w.heap.size := by obtain ⟨b, off, e, h⟩ := hV.addr (by omega); cases e; exact h
 have hik : i + (n + m - i) = n + m := by omega
 have hold : (Builtin.firstCells i0.size i (.slice (some ⟨g, 0, none⟩) i c)).run Tryz.prog w.drew = .ok (usCells (L.take i)).toArray w.drew := by
  rw [hzs]
  exact run_firstCells_some w.drew 1 i ⟨g, 0, none⟩ i c (usCells (L.take i)) (by rw [usCells_len, List.length_take]; omega) (fun j v hj => by
   rw [addAny]
   rw [← usCells_take, List.getElem?_take] at hj
   split at hj
   · exact hrow j v hj
   · cases hj)
 obtain ⟨G, hG⟩ : ∃ G, G = grownCap w (n + m) c 22 := ⟨_, rfl⟩
 obtain ⟨ROW, hROW⟩ : ∃ ROW : Array Value, ROW = (usCells (L.take i)).toArray ++ Builtin.zeroCells (Value.int .u64 0).cells (n + m - i) ++ Builtin.zeroCells (Value.int .u64 0).cells (G - (n + m)) := ⟨_, rfl⟩
 have hrz : (Builtin.append_ #[23, 3] 23 #[.slice (some ⟨g, 0, none⟩) i c, .int .i64 ((n : Int) + (m : Int) - (i : Int))]).run Tryz.prog w =
  .ok (.slice (some ⟨w.heap.size, 0, none⟩) (n + m) G) (w.drew.alloc (.cells ROW 22)) := by
  have h := Lib.run_append_grow_zeros w 23 3 23 22 i0 _ .i64 .i64 Tryz.underlying23 Tryz.underlying3 hi0 hz0 (some ⟨g, 0, none⟩) i c (usCells (L.take i)) hold (n + m - i) (by omega) (by omega) (by omega) (by omega) (by rw [hzb]; omega) (by rw [hzb, hik]; exact growslice_fits hroom (by omega))
  rw [hik, ← hG, ← hROW] at h
  rw [show (n : Int) + (m : Int) - (i : Int) = ((n + m - i : Nat) : Int) by omega]
  exact h
 have hGn : n + m ≤ G := by rw [hG]; exact grownCap_ge w _ _ _
 have hG63 : G ≤ 9223372036854775807 := by
  have := grownCap_le_maxLen w (n + m) c 22 (by unfold maxLen; omega)
  rw [← hG] at this
  unfold maxLen at this
  omega
 have hRs : n + m ≤ ROW.size := by
  rw [hROW]
  simp [Builtin.zeroCells, Value.cells, usCells]
  omega
 have hRt : ∀ j, j < i → ROW[j]? = (usCells L)[j]? := fun j hj => by
  rw [hROW, Array.append_assoc, Array.getElem?_append_left (by simp [usCells]; omega)]
  rw [← usCells_take, List.getElem?_toArray, List.getElem?_take_of_lt hj]
 obtain ⟨W1, hW1⟩ : ∃ W1, W1 = w.drew.alloc (.cells ROW 22) := ⟨_, rfl⟩
 have hsz1 : W1.heap.size = w.heap.size + 1 := by rw [hW1]; simp
 have hB1 : Below B w W1 := by rw [hW1]; exact (Below.refl B w).drew.alloc (by simpa using hBw) _
 have hN : ∀ j, j < n + m → (W1.cell? ⟨w.heap.size, j, none⟩).isSome = true := fun j hj => by
  rw [hW1, World.cell?_alloc_at (w := w.drew) ROW _ w.heap.size j rfl, Array.getElem?_eq_getElem (by omega)]; rfl
 have hNt : ∀ j, W1.cell? ⟨w.heap.size, j, none⟩ = ROW[j]? := fun j => by rw [hW1, World.cell?_alloc_at (w := w.drew) ROW _ w.heap.size j rfl]
 have hNf : ∀ j, W1.frozen? ⟨w.heap.size, j, none⟩ = false := fun j => by rw [hW1]; exact World.frozen?_alloc_at (w := w.drew) ROW _ w.heap.size j rfl
 have hOb : ∀ j v, w.cell? ⟨g, j, none⟩ = some v → W1.cell? ⟨g, j, none⟩ = some v := fun j v h => by rw [hW1, World.cell?_alloc_past (w := w.drew) _ g j hlt]; exact h
 have hOv : ∀ j v, w.cell? ⟨vb, j, none⟩ = some v → W1.cell? ⟨vb, j, none⟩ = some v := fun j v h => by rw [hW1, World.cell?_alloc_past (w := w.drew) _ vb j hvw]; exact h
 have hcpA : (Builtin.copy_ #[23, 23] 3 #[.slice (some ⟨w.heap.size, i, none⟩) (n + m - i) (G - i), .slice (some ⟨vb, 0, none⟩) m vc]).run Tryz.prog W1 = .ok (goInt (usCells M).length) (W1.setCells w.heap.size i (usCells M)) :=
  run_copy_cells W1 _ _ _ 22 w.heap.size i (n + m - i) (G - i) ⟨vb, 0, none⟩ m vc (usCells M) Tryz.underlying23 sizeU64 (by rw [hml]; simp only [Nat.min_def]; split <;> omega)
   (fun j v hj => by rw [addAny]; exact hOv _ v (hrowM j v hj))
   (fun j hj => hN _ (by omega)) (fun j hj => hNf _) (oneUs _)
 obtain ⟨W2, hW2⟩ : ∃ W2, W2 = W1.setCells w.heap.size i (usCells M) := ⟨_, rfl⟩
 have hN2 : ∀ j, j < n + m → (W2.cell? ⟨w.heap.size, j, none⟩).isSome = true := fun j hj => by
  rw [hW2]; exact isSome_setCells _ (usCells M) i W1 (fun t ht => hN _ (by omega)) _ (hN _ (by omega))
 have hgN : g ≠ w.heap.size := by omega
 have hcpB : (Builtin.copy_ #[23, 23] 3 #[.slice (some ⟨w.heap.size, i + m, none⟩) (n + m - (i + m)) (G - (i + m)), .slice (some ⟨g, i, none⟩) (n - i) (c - i)]).run Tryz.prog W2.drew = .ok (goInt (usCells (L.drop i)).length) (W2.drew.setCells w.heap.size (i + m) (usCells (L.drop i))) :=
  run_copy_cells W2.drew _ _ _ 22 w.heap.size (i + m) (n + m - (i + m)) (G - (i + m)) ⟨g, i, none⟩ (n - i) (c - i) (usCells (L.drop i)) Tryz.underlying23 sizeU64 (by rw [hdl]; simp only [Nat.min_def]; split <;> omega)
   (fun j v hj => by
    rw [← usCells_drop, List.getElem?_drop] at hj
    rw [addAny, show (W2.drew.cell? ⟨g, i + j, none⟩) = W2.cell? ⟨g, i + j, none⟩ from rfl, hW2, World.cell?_setCells_out _ _ _ _ _ (fun h _ => absurd h hgN)]
    have := hrow (i + j) v hj
    rw [Nat.zero_add] at this
    exact hOb _ v this)
   (fun j hj => hN2 _ (by omega))
   (fun j hj => by rw [show (W2.drew.frozen? ⟨w.heap.size, i + m + j, none⟩) = W2.frozen? ⟨w.heap.size, i + m + j, none⟩ from rfl, hW2, World.frozen?_setCells]; exact hNf _) (oneUs _)
 have hlen : (L.take i ++ M ++ L.drop i).length = n + m := by simp; omega
 obtain ⟨W3, hW3⟩ : ∃ W3, W3 = W2.drew.setCells w.heap.size (i + m) (usCells (L.drop i)) := ⟨_, rfl⟩
 have hB3 : Below B w W3 := below_setCellsH hBw _ _ _ (below_setCellsH hBw _ _ _ hB1 hW2).drew hW3
 have hfin : InP B w (L.take i ++ M ++ L.drop i) (.returned (.slice (some ⟨w.heap.size, 0, none⟩) (n + m) G)) W3 := by
  refine ⟨some ⟨w.heap.size, 0, none⟩, G, by rw [hlen], fun j x hx => ⟨w.heap.size, 0, rfl, ?_, ?_⟩, fun _ q e => by cases e; exact hBw, hB3⟩
  · have hs2 : W2.heap.size = W1.heap.size := Nat.le_antisymm (by
     have h2 := hN2 0 (by omega)
     have : ∀ (vs : List Value) (o : Nat) (W : World), (W.setCells w.heap.size o vs).heap.size = W.heap.size := by
      intro vs
      induction vs with
      | nil => intro o W; rfl
      | cons v r ih => intro o W; rw [World.setCells, ih]; simp
     rw [hW2, this]; exact Nat.le_refl _) (by
     have hb := below_setCellsH (B := 0) (Nat.zero_le _) _ _ _ (Below.refl 0 W1) hW2
     exact hb.size)
    have hb := below_setCellsH (B := 0) (Nat.zero_le _) _ _ _ (Below.refl 0 W2).drew hW3
    have := hb.size
    omega
  · rw [Nat.zero_add]
    have hj := (List.getElem?_eq_some_iff.1 hx).1
    rw [hlen] at hj
    by_cases j1 : j < i
    · rw [hW3, World.cell?_setCells_out w.heap.size _ _ _ _ (fun _ _ => .inl (by simp only; omega)), show (W2.drew.cell? ⟨w.heap.size, j, none⟩) = W2.cell? ⟨w.heap.size, j, none⟩ from rfl, hW2, World.cell?_setCells_out w.heap.size _ _ _ _ (fun _ _ => .inl j1), hNt, hRt j j1]
      rw [List.append_assoc, List.getElem?_append_left (by simp; omega), List.getElem?_take_of_lt j1] at hx
      exact usCells_at L j x hx
    · by_cases j2 : j < i + m
      · rw [hW3, World.cell?_setCells_out w.heap.size _ _ _ _ (fun _ _ => .inl (by simp only; omega)), show (W2.drew.cell? ⟨w.heap.size, j, none⟩) = W2.cell? ⟨w.heap.size, j, none⟩ from rfl, hW2]
        have e2 : j = i + (j - i) := by omega
        rw [e2, World.cell?_setCells_in w.heap.size (usCells M) i W1 (fun k hk => hN _ (by omega)) (j - i) (by omega)]
        rw [List.getElem?_append_left (by simp; omega), List.getElem?_append_right (by simp; omega)] at hx
        rw [show j - (L.take i).length = j - i by rw [List.length_take]; omega] at hx
        have := usCells_at M _ _ hx
        rw [List.getElem?_eq_getElem (by omega)] at this; exact this
      · have e2 : j = i + m + (j - (i + m)) := by omega
        rw [hW3, e2, World.cell?_setCells_in w.heap.size (usCells (L.drop i)) (i + m) W2.drew (fun k hk => hN2 _ (by omega)) (j - (i + m)) (by omega)]
        rw [List.getElem?_append_right (by simp; omega)] at hx
        rw [show j - (L.take i ++ M).length = j - (i + m) by rw [List.length_append, List.length_take]; omega] at hx
        have := usCells_at _ _ _ hx
        rw [List.getElem?_eq_getElem (by omega)] at this; exact this
 rw [← hW1] at hrz
 rw [← hW2] at hcpA
 rw [← hW3] at hcpB
 obtain ⟨Z, hZ⟩ : ∃ Z, L.take i ++ M ++ L.drop i = Z := ⟨_, rfl⟩
 rw [hZ] at hfin ⊢
 have HCPB := hI_ hcpB
 have HRZ := hI_ hrz
 have HFIN := hI_ hfin
 have hz1 : ¬ ((m : Int) = 0) := by omega
 have hz2 : ¬ ((i : Int) = (n : Int)) := by omega
 have hz3 : (c : Int) < (n : Int) + (m : Int) := by omega
 have hw1 : IntKind.i64.wrap ((i : Int) + (m : Int)) = (i : Int) + (m : Int) := by rw [IntKind.wrap_i64]; omega
 have hb1 : (0 : Int) ≤ (i : Int) + (m : Int) := by omega
 have hin : i ≤ n := by omega
 have htn : ((i : Int) + (m : Int)).toNat = i + m := by omega
 have hb3 : (i : Int) ≤ (n : Int) + (m : Int) := by omega
 have hb5 : (i : Int) ≤ (n : Int) := by omega
 have hGi : ¬ (G = i) := by omega
 have hGim : ¬ (G = i + m) := by omega
 have hci : ¬ (c = i) := by omega
 have hl1 : n ≤ 140737488351232 := by omega
 have hl2 : m ≤ 140737488351232 := by omega
 clear hrz hZ hW1 hW2 hW3 hcpB hfin hrow hrowM hV hmem hsome hfz hdl hml hlen hn hm hsh hl hold hROW hRs hRt hG hN hNt hNf hOb hOv hN2 hB3 hB1 hsz1 hi0 hz0 hzs hzb hik hvw
 go_enter Tryz.func160, Tryz.ntmps160
 go_wp2_with (at_builtin; refine Lib.wpList_append_run _ rfl _ _ 23 3 rfl (.slice (some ⟨g, 0, none⟩) i c) (.int .i64 ((n : Int) + (m : Int) - (i : Int))) rfl rfl _ _ HRZ.out ?_)
 go_region_law (refine step_copy_runI rfl _ _ 23 23 rfl (.slice (some ⟨w.heap.size, i + m, none⟩) (n + m - (i + m)) (G - (i + m))) (.slice (some ⟨g, i, none⟩) (n - i) (c - i)) (by simp [Act.eval, Act.put]) (by simp [Act.eval, Act.put]) HCPB.out ?_)
 go_wp2_with fail
 go_ret
 exact HFIN.out

def Asc (L : List Nat) : Prop := ∀ i j x y : Nat, i ≤ j → L[i]? = some x → L[j]? = some y → x ≤ y
theorem lessHf_any (x y : Nat) (w : World) : Calls Tryz.prog 186 #[.int .u64 x, .int .u64 y] w fun e w' => e = .returned (.bool (decide (x < y))) ∧ w = w' := by
 by_cases h1 : x < y
 · have g1 : (x : Int) < (y : Int) := by omega
   rw [decide_eq_true h1]
   go_enter Tryz.func186, Tryz.ntmps186
   go_wp2_with fail
   refine (isNaN_any x _).mono ?_
   rintro e w2 ⟨rfl, rfl⟩
   go_wp2_with fail
   go_ret
   exact ⟨by simp, rfl⟩
 · have g1 : ¬ (x : Int) < (y : Int) := by omega
   rw [decide_eq_false h1]
   go_enter Tryz.func186, Tryz.ntmps186
   go_wp2_with fail
   refine (isNaN_any x _).mono ?_
   rintro e w2 ⟨rfl, rfl⟩
   go_wp2_with fail
   go_ret
   exact ⟨by simp, rfl⟩
theorem sisNaN_any (x : Nat) (w : World) : Calls Tryz.prog 187 #[.int .u64 x] w fun e w' => e = .returned (.bool false) ∧ w = w' := by
 go_enter Tryz.func187, Tryz.ntmps187
 go_wp2_with fail
 go_ret
 exact ⟨by simp, rfl⟩
def BsP (w : World) (v : Nat) (L : List Nat) (e : Ending) (w' : World) : Prop := ∃ (p : Nat) (b : Bool), e = .returned (.tuple #[.int .i64 p, .bool b]) ∧ p ≤ L.length ∧ (∀ j x : Nat, j < p → L[j]? = some x → x < v) ∧ (∀ j x : Nat, p ≤ j → L[j]? = some x → v ≤ x) ∧ w = w'
theorem search_any (v n c : Nat) (a : Option Addr) (L : List Nat) (hn : L.length = n) (hl : n ≤ 140737488351232) (hs : Asc L) (w : World) (hU : Us w a L) :
 Calls Tryz.prog 159 #[.slice a n c, .int .u64 v] w (BsP w v L) := by
 have HN := hI_ hn
 have HU := hI_ hU
 have HS := hI_ hs
 clear hn hU hs
 go_enter Tryz.func159, Tryz.ntmps159
 go_wp2_with fail
 go_loop [7, 8, 9] (fun i j _ => ∃ lo hi : Nat, lo ≤ hi ∧ hi ≤ n ∧ i = .int .i64 lo ∧ j = .int .i64 hi ∧ (∀ j x : Nat, j < lo → L[j]? = some x → x < v) ∧ (∀ j x : Nat, hi ≤ j → L[j]? = some x → v ≤ x)) (fun i j _ => (intOf j).toNat - (intOf i).toNat)
 case atStart => exact ⟨0, n, Nat.zero_le _, Nat.le_refl _, rfl, rfl, fun j x hj => absurd hj (Nat.not_lt_zero _), fun j x hj hx => by have := (List.getElem?_eq_some_iff.1 hx).1; have := HN.out; omega⟩
 case round =>
  obtain ⟨lo, hi, hlh, hhn, rfl, rfl, h1, h2⟩ := hrel
  have H1 := hI_ h1
  have H2 := hI_ h2
  clear h1 h2
  by_cases hlt : lo < hi
  · obtain ⟨h, hh⟩ : ∃ h, (lo + hi) / 2 = h := ⟨_, rfl⟩
    have hhi : h < hi := by omega
    have hlo : lo ≤ h := by omega
    obtain ⟨x, hx⟩ : ∃ x, L[h]? = some x := ⟨_, List.getElem?_eq_getElem (by rw [HN.out]; omega)⟩
    obtain ⟨b, off, rfl, hb, p0⟩ := HU.out h x hx
    have i0 : (0 : Int) ≤ (h : Int) := by omega
    have i1 : (h : Int) < (n : Int) := by omega
    have HX := hI_ hx
    have e1 : ((lo : Int) + (hi : Int)) / 2 = (h : Int) := by omega
    clear hx hh
    go_wp2_with fail
    refine (lessHf_any x v _).mono ?_
    rintro e w2 ⟨rfl, rfl⟩
    by_cases hxv : x < v
    · rw [decide_eq_true hxv]
      have HT := hI_ (show ∀ j y : Nat, j < h + 1 → L[j]? = some y → y < v from fun j y hj hy => by have := HS.out j h y x (by omega) hy HX.out; omega)
      go_wp2_with fail
      go_round
      case rel => exact ⟨h + 1, hi, by omega, by omega, by go_num, rfl, HT.out, H2.out⟩
      case measure => simp [intOf]; omega
    · rw [decide_eq_false hxv]
      have HT := hI_ (show ∀ j y : Nat, h ≤ j → L[j]? = some y → v ≤ y from fun j y hj hy => by have := HS.out h j x y hj HX.out hy; omega)
      go_wp2_with fail
      go_round
      case rel => exact ⟨lo, h, by omega, by omega, rfl, rfl, H1.out, HT.out⟩
      case measure => simp [intOf]; omega
  · have hle : lo = hi := by omega
    subst hle
    have HT := hI_ (show ∀ b, BsP w v L (.returned (.tuple #[.int .i64 lo, .bool b])) w from fun b => ⟨lo, b, rfl, by rw [HN.out]; exact hhn, H1.out, H2.out, rfl⟩)
    clear hlt
    by_cases hln : lo < n
    · obtain ⟨x, hx⟩ : ∃ x, L[lo]? = some x := ⟨_, List.getElem?_eq_getElem (by rw [HN.out]; exact hln)⟩
      obtain ⟨b, off, rfl, hb, p0⟩ := HU.out lo x hx
      have i0 : (0 : Int) ≤ (lo : Int) := by omega
      have i1 : (lo : Int) < (n : Int) := by omega
      clear hx
      by_cases hxv : x = v
      · subst hxv
        go_wp2_with fail
        go_ret2
        exact HT.out true
      · have g : ((x : Int) == (v : Int)) = false := by simp; omega
        clear hxv
        go_wp2_with fail
        refine (sisNaN_any x _).mono ?_
        rintro e w2 ⟨rfl, rfl⟩
        go_wp2_with fail
        go_ret2
        exact HT.out _
    · go_wp2_with fail
      go_ret2
      exact HT.out _

def putN (id : Nat) : List Nat → List Nat
 | [] => [id]
 | x :: r => if id < x then id :: x :: r else x :: putN id r
theorem putN_at {id : Nat} : ∀ {L : List Nat} {p : Nat}, p ≤ L.length → (∀ j x : Nat, j < p → L[j]? = some x → x < id) → (∀ j x : Nat, p ≤ j → L[j]? = some x → id < x) → putN id L = L.take p ++ [id] ++ L.drop p
 | [], p, hp, _, _ => by
  obtain rfl : p = 0 := by simpa using hp
  rfl
 | y :: r, 0, _, _, h2 => by
  have := h2 0 y (Nat.le_refl _) rfl
  simp [putN, this]
 | y :: r, p + 1, hp, h1, h2 => by
  have h0 := h1 0 y (by omega) rfl
  have ih := putN_at (id := id) (L := r) (p := p) (by simpa using hp) (fun j x hj hx => h1 (j + 1) x (by omega) (by simpa using hx)) (fun j x hj hx => h2 (j + 1) x (by omega) (by simpa using hx))
  rw [putN, if_neg (by omega), ih]; simp
def WiP (w : World) (M : List Nat) (e : Ending) (w' : World) : Prop := ∃ a c, e = .returned (.slice a M.length c) ∧ Us w' a M ∧ (0 < M.length → ∀ q, a = some q → w.heap.size ≤ q.block) ∧ Below w.heap.size w w'
theorem insAny (B n c p id : Nat) (a : Option Addr) (L : List Nat) (w1 : World) (hB : B ≤ w1.heap.size) (h : CqU B w1 (.slice a n c) L) (hn : L.length = n) (hp : p ≤ n) (hl : (n + 1) * 8 ≤ 140737488355328) :
 Calls Tryz.prog 160 #[.slice a n c, .int .i64 p, .slice (some ⟨w1.heap.size, 0, none⟩) 1 1] (w1.alloc (.cells #[.int .u64 (id : Nat)] 22)) (InP B (w1.alloc (.cells #[.int .u64 (id : Nat)] 22)) (L.take p ++ [id] ++ L.drop p)) := by
 have hV : Us (w1.alloc (.cells #[.int .u64 (id : Nat)] 22)) (some ⟨w1.heap.size, 0, none⟩) [id] := fun j x hx => by
  have hj := (List.getElem?_eq_some_iff.1 hx).1
  have h0 : j = 0 := by simpa using hj
  subst h0
  simp at hx
  subst hx
  exact ⟨_, 0, rfl, by simp, by simp [go_sem]⟩
 have hB2 : Below w1.heap.size w1 (w1.alloc (.cells #[.int .u64 (id : Nat)] 22)) := (Below.refl _ _).alloc (Nat.le_refl _) _
 have h2 := h.later hB2
 obtain ⟨a', c', e, hU, _, hcap, hmax⟩ := h2.form
 have e1 := e
 injection e1 with ea en ec
 subst ea ec
 rw [hn] at hcap
 have hc63 : c ≤ 9223372036854775807 := by unfold maxLen at hmax; omega
 by_cases hpn : p = n
 · subst hpn
   rw [List.take_of_length_le (by omega), List.drop_eq_nil_of_le (by omega), List.append_nil]
   exact insEnd B p 1 1 _ (some ⟨w1.heap.size, 0, none⟩) L [id] _ a c rfl hn hcap hc63 rfl (by omega) hl (by simp; omega) h2 hV
 · have hgx : ∃ g, a = some ⟨g, 0, none⟩ ∧ g < w1.heap.size := by
    rcases h with ⟨h0, _⟩ | h
    · subst h0; simp at hn; omega
    · rcases h.2 with ⟨_, h0⟩ | ⟨g, cap, cur, e0, _, hg, _⟩
      · omega
      · injection e0 with e1
        exact ⟨g, e1, lt_of_rowG hg⟩
   obtain ⟨g, rfl, hgl⟩ := hgx
   rcases h2 with ⟨h0, _⟩ | h2
   · subst h0; simp at hn; omega
   · rw [hn] at h2
     have hR := rwH_of_owns hn h2
     clear h h2 e hU
     by_cases hroom : n + 1 ≤ c
     · exact insRoom B g n c p 1 w1.heap.size 1 L [id] _ hR (by omega) rfl (by omega) hroom hl hV (by omega) us_shape (fun j => by simp [go_sem])
     · exact insGrow B g n c p 1 w1.heap.size 1 L [id] _ hR (by simp; omega) (by omega) rfl (by omega) (by omega) hl hV
theorem with_any (id n c : Nat) (a : Option Addr) (L : List Nat) (hn : L.length = n) (hl : (n + 1) * 8 ≤ 140737488351232) (hs : Asc L) (hid : id ∉ L) (w : World) (hU : Us w a L) :
 Calls Tryz.prog 128 #[.slice a n c, .int .u64 id] w (WiP w (putN id L)) := by
 have HN := hI_ hn
 have HU := hI_ hU
 have HS := hI_ hs
 have HL := hI_ hl
 have HID := hI_ hid
 clear hn hU hs hl hid
 go_enter Tryz.func128, Tryz.ntmps128
 go_wp2_with fail
 refine (search_any id n c a L HN.out (by have := HL.out; omega) HS.out _ HU.out).mono ?_
 rintro e w2 ⟨p, b, rfl, hp, h1, h2, rfl⟩
 have HPUT := hI_ (putN_at hp h1 fun j x hj hx => Nat.lt_of_le_of_ne (h2 j x hj hx) fun e => HID.out (e ▸ List.mem_of_getElem? hx))
 have HP := hI_ hp
 clear h1 h2 hp
 go_wp2_with fail
 refine (cloneU_any n c a L HN.out (by have := HL.out; omega) _ HU.out).mono ?_
 rintro e w1 ⟨v1, rfl, hc1, hb1⟩
 obtain ⟨a1, c1, rfl, _⟩ := hc1.form
 have HC := hI_ hc1
 have HB := hI_ hb1
 clear hc1 hb1
 rw [HN.out] at HC ⊢
 go_wp2_with fail
 refine (insAny w.heap.size n c1 p id a1 L w1 HB.out.size HC.out HN.out (by have := HP.out; have := HN.out; omega) (by have := HL.out; omega)).mono ?_
 rintro e w3 ⟨a3, c3, rfl, hU3, hf3, hb3⟩
 rw [← HPUT.out] at hU3 hf3 ⊢
 have HF := hI_ (show WiP w (putN id L) (.returned (.slice a3 (putN id L).length c3)) w3 from ⟨a3, c3, rfl, hU3, hf3, (HB.out.alloc HB.out.size _).trans hb3⟩)
 clear hU3 hb3 hf3
 generalize (Value.slice a3 (putN id L).length c3) = R at *
 go_wp2_with fail
 go_ret
 exact HF.out
end Go.Proofs.YtdcpiaoadbbdoaaGreatDoor
/- A list without a number: the program's without; the document's less and put. -/
set_option maxRecDepth 100000
set_option maxHeartbeats 16000000
namespace Go.Proofs.YtdcpiaoadbbdoaaGreatDoor
open Go.RowKit Go.Shelf Go.Lib Go.Sort

def lessN (id : Nat) (L : List Nat) : List Nat := L.filter fun x => !decide (x = id)
theorem gives_any (id x h : Nat) (W : World) (hc : W.cell? ⟨h, 0, none⟩ = some (.int .u64 id)) :
 FnGives Tryz.prog 162 #[.pointer (some ⟨h, 0, none⟩)] #[enc64 x] (.bool (decide (x = id))) W := by
 show Calls Tryz.prog 162 #[.int .u64 (x : Nat), .pointer (some ⟨h, 0, none⟩)] W _
 by_cases he : x = id
 · subst he
   go_enter Tryz.func162, Tryz.ntmps162
   go_wp2_with fail
   go_ret
   exact ⟨by simp, 0, rfl⟩
 · have g : ((x : Int) == (id : Int)) = false := by simp; omega
   rw [decide_eq_false he]
   go_enter Tryz.func162, Tryz.ntmps162
   go_wp2_with fail
   go_ret
   exact ⟨by simp, 0, rfl⟩
theorem indexF0_any (c : Nat) (a : Option Addr) (fv : Value) (w : World) :
 Calls Tryz.prog 147 #[.slice a 0 c, fv] w fun e w' => e = .returned (.int .i64 (-1)) ∧ w = w' := by
 go_enter Tryz.func147, Tryz.ntmps147
 go_wp2_with fail
 refine wp_loop_rounds 1 ?_
 rw [rounds_succ]
 go_wp2_with fail
 go_ret
 exact ⟨rfl, rfl⟩
theorem delete0_any (c : Nat) (a : Option Addr) (fv : Value) (w : World) :
 Calls Tryz.prog 161 #[.slice a 0 c, fv] w fun e w' => e = .returned (.slice a 0 c) ∧ w = w' := by
 go_enter Tryz.func161, Tryz.ntmps161
 go_wp2_with fail
 refine (indexF0_any c a fv _).mono ?_
 rintro e w2 ⟨rfl, rfl⟩
 go_wp2_with fail
 go_ret
 exact ⟨rfl, rfl⟩
theorem delete_any (B id h n c : Nat) (a : Option Addr) (L : List Nat) (hn : L.length = n) (hl : n ≤ 140737488351232) (w : World) (hO : CqU B w (.slice a n c) L) (hB : B ≤ w.heap.size) (hN : Nb w h id) (hfar : ∀ q, a = some q → 0 < n → q.block ≠ h) :
 Calls Tryz.prog 161 #[.slice a n c, .func (.func 162) #[] #[.pointer (some ⟨h, 0, none⟩)]] w (InP B w (lessN id L)) := by
 have hnil : n = 0 → Calls Tryz.prog 161 #[.slice a n c, .func (.func 162) #[] #[.pointer (some ⟨h, 0, none⟩)]] w (InP B w (lessN id L)) := fun h0 => by
  subst h0
  obtain rfl : L = [] := List.length_eq_zero_iff.1 hn
  refine (delete0_any c a _ w).mono ?_
  rintro e w' ⟨rfl, rfl⟩
  exact ⟨a, c, rfl, Us.nil _ _, fun h => absurd h (Nat.not_lt_zero _), Below.refl _ _⟩
 rcases hO with ⟨h0, _⟩ | hO
 · exact hnil (by rw [← hn, h0]; rfl)
 rcases hO.2 with ⟨_, h0⟩ | ⟨g, cap, cur, e0, hBg, hg, h1, h2, h3, _⟩
 · exact hnil (by omega)
 injection e0 with ea en ec
 subst ea ec
 have hg' : g < w.heap.size := lt_of_rowG hg
 by_cases h0 : n = 0
 · exact hnil h0
 have hgh : h ≠ g := fun e => hfar _ rfl (by omega) e.symm
 rw [hn] at hO
 have eg : ∀ args w, (callFunc 162 args).run Tryz.prog w = .ok (.enter 162 args) w := enters_of Tryz.func162 (by kernel_rfl) rfl
 have hH : Holds enc64 w g 0 L.toArray := fun j hj => by
  have hj' : j < L.length := by simpa using hj
  refine ⟨?_, by simpa using hO.frozenAt (0 + j)⟩
  have h1 := hO.cellAt j (by omega)
  rw [Nat.zero_add, h1, usCells_at L j L[j] (List.getElem?_eq_getElem hj')]
  rw [getElem!_pos L.toArray j (by simpa using hj')]
  simp [enc64]
 have hD := AnyE.slices_DeleteFunc Tryz.delU enc64 (fun _ => rfl) (fun x => decide (x = id)) 162 #[.pointer (some ⟨h, 0, none⟩)] eg 0 Tryz.zeroValue22 g 0 c L.toArray w
  (fun W x hb => gives_any id x h W ((hb.cell (p := ⟨h, 0, none⟩) hN.lt).trans hN.c))
  (fun m os dk x _ => gives_any id x h _ (by
   unfold sortWorld
   rw [cell?_grow _ _ _ (by show h < (putRow _ _ _ _ _).heap.size; rw [size_putRow]; exact hN.lt), cell?_putRow_other _ _ g 0 _ _ (Or.inl hgh)]
   exact hN.c)) hH (by simp; omega) (by simp; omega)
 change Calls Tryz.prog 161 _ _ _ at hD
 rw [show L.toArray.size = n by simpa using hn] at hD
 refine hD.mono ?_
 rintro e w' ⟨rfl, q, hw⟩
 have hle : (lessN id L).length ≤ n := by rw [← hn]; exact List.length_filter_le _ _
 have hw2 : w' = putRow enc64 (Sort.ahead w q) g 0 (lessN id L ++ List.replicate (n - (lessN id L).length) 0).toArray := hw
 refine ⟨some ⟨g, 0, none⟩, c, rfl, fun j x hx => ⟨g, 0, rfl, ?_, ?_⟩, fun _ q e => by cases e; exact hBg, ?_⟩
 · rw [hw2, size_putRow]; exact hg'
 · have hj := (List.getElem?_eq_some_iff.1 hx).1
   have hh := holds_putRow enc64 (Sort.ahead w q) g 0 L.toArray (lessN id L ++ List.replicate (n - (lessN id L).length) 0).toArray (holds_ahead _ _ _ _ _ _ hH) (by simp; omega)
   have h1 := (hh j (by simp; omega)).1
   rw [hw2, h1, getElem!_pos _ j (by simp; omega)]
   obtain ⟨_, h2⟩ := List.getElem?_eq_some_iff.1 hx
   simp [enc64, List.getElem_append_left hj, h2]
 · refine (Below.refl B w).grown (row := some g) ?_ hB (fun k e => by cases e; exact hBg)
   rw [hw2]
   refine ⟨rfl, rfl, rfl, by simp, fun k hk hne => ?_⟩
   have hgk : g ≠ k := fun e => hne (by rw [e])
   simp [putRow, mapBlock, Sort.ahead, Array.getElem?_modify, hgk]
theorem without_any (id n c : Nat) (a : Option Addr) (L : List Nat) (hn : L.length = n) (hl : n * 8 ≤ 140737488351232) (w : World) (hU : Us w a L) :
 Calls Tryz.prog 129 #[.slice a n c, .int .u64 id] w (WiP w (lessN id L)) := by
 have B0 := hI_ (show Below w.heap.size w (w.alloc (.cells #[.int .u64 id] 22)) from (Below.refl _ _).alloc (Nat.le_refl _) _)
 have N0 := hI_ (Nb.new (w := w) rfl id 22)
 have HU := hI_ (hU.later B0.out)
 have HN := hI_ hn
 have HL := hI_ hl
 clear hU hn hl
 go_enter Tryz.func129, Tryz.ntmps129
 go_wp2_with fail
 refine (cloneU_any n c a L HN.out (by have := HL.out; omega) _ HU.out).mono ?_
 rintro e w1 ⟨v1, rfl, hc1, hb1⟩
 obtain ⟨a1, c1, rfl, _, hf, _⟩ := hc1.form
 have HC := hI_ hc1
 have HF1 := hI_ hf
 have HB := hI_ hb1
 have N1 := hI_ (N0.out.later hb1)
 clear hc1 hb1 hf
 rw [HN.out] at HC HF1 ⊢
 go_wp2_with fail
 refine (delete_any (w.heap.size + 1) id w.heap.size n c1 a1 L HN.out (by have := HL.out; omega) w1 (by have h := HC.out; simpa using h) (by have := HB.out.size; simpa using this) N1.out (fun q e h0 => by have := HF1.out h0 q e; simp at this; omega)).mono ?_
 rintro e w3 ⟨a3, c3, rfl, hU3, hf3, hb3⟩
 have HF := hI_ (show WiP w (lessN id L) (.returned (.slice a3 (lessN id L).length c3)) w3 from ⟨a3, c3, rfl, hU3, fun h q e => Nat.le_of_succ_le (hf3 h q e), (B0.out.trans ((HB.out.trans (hb3.mono (by simp))).mono B0.out.size))⟩)
 clear hU3 hb3 hf3
 generalize (Value.slice a3 (lessN id L).length c3) = R at *
 go_wp2_with fail
 go_ret
 exact HF.out

theorem putN_len (id : Nat) (L : List Nat) : (putN id L).length = L.length + 1 := by
 induction L with
 | nil => rfl
 | cons y r ih => simp only [putN]; split <;> simp [ih]

def lrnF (id : Nat) (V L : List Nat) : (List Nat × List Nat) × Int := if hasN id V || hasN id L then (([], []), 8) else if 3 ≤ L.length then (([], []), 5) else ((V, putN id L), 0)
def votF (id : Nat) (V L : List Nat) : (List Nat × List Nat) × Int := if !hasN id L then (([], []), 7) else if 7 ≤ V.length then (([], []), 5) else ((putN id V, lessN id L), 0)
def levF (id : Nat) (V L : List Nat) : (List Nat × List Nat) × Int := if !hasN id V && !hasN id L then (([], []), 7) else if hasN id V && decide (V.length = 1) then (([], []), 5) else ((lessN id V, lessN id L), 0)
theorem learn_any (id n c n2 c2 : Nat) (a a2 : Option Addr) (V L : List Nat) (hn : V.length = n) (hl : n ≤ 7) (hn2 : L.length = n2) (hl2 : n2 ≤ 3) (hs2 : Asc L) (w : World) (hV : Us w a V) (hU : Us w a2 L) :
 Calls Tryz.prog 73 #[.agg #[.slice a n c, .slice a2 n2 c2], .int .u64 id] w (NxF w (lrnF id V L)) := by
 have B0 : Below w.heap.size w ((w.alloc (.cells #[.slice a n c, .slice a2 n2 c2] 25)).alloc (.cells #[.slice none 0 0, .slice none 0 0] 25)) := by go_grown
 have C0 := (Cb.new (w := w) rfl (.slice a n c) (.slice a2 n2 c2) 25).past (.cells #[.slice none 0 0, .slice none 0 0] 25)
 have D0 := Cb.new (w := w.alloc (.cells #[.slice a n c, .slice a2 n2 c2] 25)) rfl (.slice none 0 0) (.slice none 0 0) 25
 have es : (w.alloc (.cells #[.slice a n c, .slice a2 n2 c2] 25)).heap.size = w.heap.size + 1 := by simp
 rw [es] at D0
 have HV := hI_ (hV.later B0)
 have HU := hI_ (hU.later B0)
 have HN := hI_ hn
 have HN2 := hI_ hn2
 have HS2 := hI_ hs2
 have HB := hI_ B0
 obtain ⟨x, hx⟩ : ∃ x, hasN id V = x := ⟨_, rfl⟩
 obtain ⟨y, hy⟩ : ∃ y, hasN id L = y := ⟨_, rfl⟩
 obtain ⟨r, hr⟩ : ∃ r, lrnF id V L = r := ⟨_, rfl⟩
 have HR := hI_ (show (if x || y then (([], []), 8) else if 3 ≤ n2 then (([], []), 5) else ((V, putN id L), 0)) = r by rw [← hx, ← hy, ← hn2, ← hr]; rfl)
 rw [hr]
 have HX := hI_ hx
 have HY := hI_ hy
 clear hV hU hn hn2 hs2 hx hy hr es B0
 go_enter Tryz.func73, Tryz.ntmps73
 go_wp2_with fail
 generalize hW : (w.alloc (.cells #[.slice a n c, .slice a2 n2 c2] 25)).alloc (.cells #[.slice none 0 0, .slice none 0 0] 25) = W at *
 clear hW
 obtain ⟨c0, c1, fz, lt⟩ := C0
 obtain ⟨d0, d1, dz, dl⟩ := D0
 go_wp2_with fail
 refine (pContains_any id n c a V HN.out (by omega) _ HV.out).mono ?_
 rintro e w1 ⟨rfl, rfl⟩
 rw [HX.out]
 cases x
 case true =>
  have HT := hI_ (show r = (([], []), 8) by rw [← HR.out]; rfl)
  go_wp2_with fail
  refine bodyPost_ret (v := .tuple #[.agg #[.slice none 0 0, .slice none 0 0], .int .i64 8]) (by simp [results, Tryz.results73, go_sem, d0, d1]) rfl ?_
  exact nx_no HT.out (two_below HB.out _ _)
 go_wp2_with fail
 refine (pContains_any id n2 c2 a2 L HN2.out (by omega) _ HU.out).mono ?_
 rintro e w1 ⟨rfl, rfl⟩
 rw [HY.out]
 cases y
 case true =>
  have HT := hI_ (show r = (([], []), 8) by rw [← HR.out]; rfl)
  go_wp2_with fail
  refine bodyPost_ret (v := .tuple #[.agg #[.slice none 0 0, .slice none 0 0], .int .i64 8]) (by simp [results, Tryz.results73, go_sem, d0, d1]) rfl ?_
  exact nx_no HT.out (two_below HB.out _ _)
 by_cases h3 : 3 ≤ n2
 · have g : (3 : Int) ≤ (n2 : Int) := by omega
   have HT := hI_ (show r = (([], []), 5) by rw [← HR.out, if_pos h3]; rfl)
   clear h3
   go_wp2_with fail
   refine bodyPost_ret (v := .tuple #[.agg #[.slice none 0 0, .slice none 0 0], .int .i64 5]) (by simp [results, Tryz.results73, go_sem, d0, d1]) rfl ?_
   exact nx_no HT.out (two_below HB.out _ _)
 have g : ¬ (3 : Int) ≤ (n2 : Int) := by omega
 have HT := hI_ (show r = ((V, putN id L), 0) by rw [← HR.out, if_neg h3]; rfl)
 clear h3
 go_wp2_with fail
 have K1 : W.drew.cell? ⟨w.heap.size, 0, none⟩ = some (.slice a n c) ∧ W.drew.cell? ⟨w.heap.size, 1, none⟩ = some (.slice a2 n2 c2) ∧ w.heap.size + 1 < W.drew.heap.size ∧ Below w.heap.size w W.drew := ⟨c0, c1, dl, HB.out.drew⟩
 have D1 := hI_ ((Cb.mk d0 d1 dz dl).later (Below.refl _ _).drew)
 clear c0 c1 d0 d1 dz dl fz lt
 go_region_held3 (fun w' => w'.cell? ⟨w.heap.size, 0, none⟩ = some (.slice a n c) ∧ w'.cell? ⟨w.heap.size, 1, none⟩ = some (.slice a2 n2 c2) ∧ w.heap.size + 1 < w'.heap.size ∧ Below w.heap.size w w')
  (first | (with_reducible assumption) | (with_reducible exact keepT K3 _ _) | go_keep)
  (first
   | (go_at_call 127; (with_reducible refine (cloneU_any n c a V HN.out (by omega) _ (HV.out.later (Below.refl _ _).drew)).mono ?_); rintro e w2 ⟨v1, rfl, hc1, hb2⟩; obtain ⟨a3, c3, rfl, hU3, hf3, _⟩ := hc1.form; have HU3 := hI_ (And.intro hU3 hf3); have HBA := hI_ hb2; have K2 := keepB K1 hb2; have D2 := hI_ (D1.out.later hb2); rw [HN.out])
   | (go_at_call 128; (with_reducible refine (with_any id n2 c2 a2 L HN2.out (by omega) HS2.out (not_has HY.out) _ ((HU.out.later (Below.refl _ _).drew).later HBA.out)).mono ?_); rintro e w3 ⟨a4, c4, rfl, hU4, hf4, hb3⟩; have HU4 := hI_ (And.intro hU4 hf4); have HBC := hI_ hb3; have K3 := keepB K2 hb3; obtain ⟨d0, d1, dz, dl⟩ := D2.out.later hb3))
 have HQ := hI_ (show NxF w r (.returned (.tuple #[.agg #[.slice a3 n c3, .slice a4 (putN id L).length c4], .int .i64 0])) ((w3.setCell ⟨w.heap.size + 1, 0, none⟩ (.slice a3 n c3)).setCell ⟨w.heap.size + 1, 1, none⟩ (.slice a4 (putN id L).length c4)) from
  nx_yes HT.out HN.out rfl (us_two' (HU3.out.1.later HBC.out) (fun h q e => by have := HU3.out.2 h q e; have := K1.2.2.1; omega) _ _) (us_two' HU4.out.1 (fun h q e => by have := HU4.out.2 h q e; have := K2.2.2.1; omega) _ _) (fun h q e => by have := HU3.out.2 h q e; have := K1.2.2.1; omega) (fun h q e => by have := HU4.out.2 h q e; have := K2.2.2.1; omega) (two_below K3.2.2.2 _ _))
 clear K1 K2 K3 hU3 hU4 hf3 hf4 hb2 hb3 hc1
 generalize (Value.slice a3 n c3) = R3 at *
 generalize (Value.slice a4 (putN id L).length c4) = R4 at *
 go_wp2_with fail
 refine bodyPost_ret (v := .tuple #[.agg #[R3, R4], .int .i64 0]) (by simp [results, Tryz.results73, go_sem, d0, d1]) rfl ?_
 exact HQ.out
end Go.Proofs.YtdcpiaoadbbdoaaGreatDoor
