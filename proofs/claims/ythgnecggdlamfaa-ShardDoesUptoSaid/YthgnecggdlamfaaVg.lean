/- Who is given a lock, who must give way: the document's Ask. -/
import Derived.Test.YthgnecggdlamfaaNd
import Derived.Test.YthgnecggdlamfaaYb
namespace Go.Proofs.Ythgnecggdlamfaa
open Go.RowKit

/-- A place as Go tells it. -/
def ixI : Option Nat → Int
  | none => -1
  | some j => j
theorem idxH_at {t : Tx} {key : ByteArray} {L : List Ho} {k : Nat} {x : Ho} (hx : L[k]? = some x) : idxH t key k (L.drop k) = if x.t = t ∧ x.key = key then some k else idxH t key (k + 1) (L.drop (k + 1)) := by
  obtain ⟨hk, rfl⟩ := List.getElem?_eq_some_iff.1 hx
  rw [List.drop_eq_getElem_cons hk]; rfl
theorem wayH_at {t : Tx} {key : ByteArray} {wr : Bool} {firm out : List Tx} {L : List Ho} {k : Nat} {x : Ho} (hx : L[k]? = some x) : wayH t key wr firm out (L.drop k) = if inW x t key wr then
      (if amT x.t firm || !eldT t x.t then none else wayH t key wr firm (if amT x.t out then out else out ++ [x.t]) (L.drop (k + 1)))
    else wayH t key wr firm out (L.drop (k + 1)) := by
  obtain ⟨hk, rfl⟩ := List.getElem?_eq_some_iff.1 hx
  rw [List.drop_eq_getElem_cons hk]; rfl
/-- One more lock is looked at. -/
def addH (hs : Option Nat) (out : List Tx) (k : Nat) (s : List Ho × Bool) (x : Ho) : List Ho × Bool :=
  if amT x.t out then s else if hs = some k then (s.1 ++ [⟨x.key, x.t, true⟩], true) else (s.1 ++ [x], s.2)
theorem leftH_snoc (hs : Option Nat) (out : List Tx) (x : Ho) : ∀ (A : List Ho) (i : Nat), leftH hs out i (A ++ [x]) = addH hs out (i + A.length) (leftH hs out i A) x
  | [], i => by
    simp only [List.nil_append, leftH, addH, List.length_nil, Nat.add_zero]
  | y :: r, i => by
    have ih := leftH_snoc hs out x r (i + 1)
    rw [show i + 1 + r.length = i + (y :: r).length by simp; omega] at ih
    simp only [List.cons_append, leftH]
    rw [ih]
    simp only [addH]
    split
    · rfl
    split
    · simp only
      split
      · rfl
      split <;> simp
    · simp only
      split
      · rfl
      split <;> simp
theorem leftH_at {hs : Option Nat} {out : List Tx} {L : List Ho} {k : Nat} {x : Ho} (hx : L[k]? = some x) : leftH hs out 0 (L.take (k + 1)) = addH hs out k (leftH hs out 0 (L.take k)) x := by
  obtain ⟨hk, rfl⟩ := List.getElem?_eq_some_iff.1 hx
  rw [List.take_succ_eq_append_getElem hk, leftH_snoc]
  rw [List.length_take, Nat.min_eq_left (by omega), Nat.zero_add]
theorem idx_lt (t : Tx) (key : ByteArray) : ∀ (L : List Ho) (i j : Nat), idxH t key i L = some j → j < i + L.length
  | [], i, j, h => by simp [idxH] at h
  | x :: r, i, j, h => by
    simp only [idxH] at h
    split at h
    · obtain rfl : i = j := by simpa using h
      simp
    · have := idx_lt t key r (i + 1) j h
      simp only [List.length_cons]; omega
theorem keepQ {w0 w w' : World} {x p y : Nat} {v0 v1 v2 v3 u0 u1 : Value} (h : w.cell? ⟨x, p, none⟩ = some v0 ∧ w.cell? ⟨x, p + 1, none⟩ = some v1 ∧ w.cell? ⟨x, p + 2, none⟩ = some v2 ∧ w.cell? ⟨x, p + 3, none⟩ = some v3 ∧ w.cell? ⟨y, 0, none⟩ = some u0 ∧ w.cell? ⟨y, 1, none⟩ = some u1 ∧ x < w.heap.size ∧ y < w.heap.size ∧ Below w0.heap.size w0 w) (hb : Below w.heap.size w w') :
    w'.cell? ⟨x, p, none⟩ = some v0 ∧ w'.cell? ⟨x, p + 1, none⟩ = some v1 ∧ w'.cell? ⟨x, p + 2, none⟩ = some v2 ∧ w'.cell? ⟨x, p + 3, none⟩ = some v3 ∧ w'.cell? ⟨y, 0, none⟩ = some u0 ∧ w'.cell? ⟨y, 1, none⟩ = some u1 ∧ x < w'.heap.size ∧ y < w'.heap.size ∧ Below w0.heap.size w0 w' := by
  obtain ⟨a0, a1, a2, a3, c0, c1, hl, hx, hB⟩ := h
  have f : ∀ j v, w.cell? ⟨x, j, none⟩ = some v → w'.cell? ⟨x, j, none⟩ = some v := fun j v e => (hb.cell (p := ⟨x, j, none⟩) hl).trans e
  have g : ∀ j v, w.cell? ⟨y, j, none⟩ = some v → w'.cell? ⟨y, j, none⟩ = some v := fun j v e => (hb.cell (p := ⟨y, j, none⟩) hx).trans e
  exact ⟨f _ _ a0, f _ _ a1, f _ _ a2, f _ _ a3, g _ _ c0, g _ _ c1, Nat.lt_of_lt_of_le hl hb.size, Nat.lt_of_lt_of_le hx hb.size, hB.trans (hb.mono hB.size)⟩
set_option maxRecDepth 100000 in
set_option maxHeartbeats 8000000 in
theorem rAsk_any (n c m d : Nat) (a b : Option Addr) (L : List Ho) (t : Tx) (key : ByteArray) (wb : Bool) (F : List Tx) (hn : L.length = n) (hnc : n ≤ c) (hcm : c ≤ maxLen) (hl : n * 40 ≤ 140737488351232) (hm : F.length = m) (hl2 : m * 16 ≤ 140737488351232) (w : World) (hM : Hos w a L) (hF : Txs w b F) :
    Calls Try.prog 51 #[.slice a n c, txV t, .string key, .bool wb, .slice b m d] w (AkP w (askH L t key wb F)) := by
  obtain ⟨ta, ti⟩ := t
  have HN := Lib.hid hn
  have HM2 := Lib.hid hm
  obtain ⟨W, hW⟩ : ∃ W, w.alloc (.cells #[.int .u64 (ta : Nat), .int .u64 (ti : Nat)] 30) = W := ⟨_, rfl⟩
  obtain ⟨hB, hX⟩ := txbox hW
  have HM := Lib.hid (hM.later hB)
  have HFM := Lib.hid (hF.later hB)
  have HB0 := Lib.hid hB
  obtain ⟨x0, hx0⟩ : ∃ x, w.heap.size = x := ⟨_, rfl⟩
  rw [hx0] at hX
  have HX := Lib.hid hX
  have HW := Lib.hid hW
  have HX0 := Lib.hid hx0
  -- how it may end: as it was
  have HSTAY := Lib.hid (fun (x : Nat) (w' : World) (h : askH L ⟨ta, ti⟩ key wb F = (L, [], x)) (hb : Below W.heap.size W w') => (show AkP w (askH L ⟨ta, ti⟩ key wb F) (.returned (.tuple #[.slice a n c, .slice none 0 0, .int .i64 (x : Nat)])) w' from by
    rw [h]
    exact ⟨a, c, none, 0, by simp only [hn]; rfl, (hM.later hB).later hb, by simp only [hn]; exact hnc, hcm, Rw.nil _, hB.trans (hb.mono hB.size)⟩))
  obtain ⟨hs, hhs⟩ : ∃ hs, idxH ⟨ta, ti⟩ key 0 L = hs := ⟨_, rfl⟩
  have HHS := Lib.hid hhs
  have HA0 := Lib.hid (show askH L ⟨ta, ti⟩ key wb F = if hadH L hs wb then (L, [], 0) else
      match wayH ⟨ta, ti⟩ key wb F [] L with
      | none => (L, [], 11)
      | some out =>
        if (leftH hs out 0 L).2 then ((leftH hs out 0 L).1, out, 0)
        else if 48 ≤ (leftH hs out 0 L).1.length then (L, [], 5)
        else ((leftH hs out 0 L).1 ++ [⟨key, ⟨ta, ti⟩, wb⟩], out, 0) by rw [← hhs]; rfl)
  obtain ⟨R, hR⟩ : ∃ R, askH L ⟨ta, ti⟩ key wb F = R := ⟨_, rfl⟩
  rw [hR] at HSTAY HA0 ⊢
  clear hn hM hW hB hX hx0 hF hm hnc hcm hhs hR
  go_enter Try.func51, Try.ntmps51
  go_upto_block 0 with (fail)
  rw [HW.out, HX0.out]
  go_cut [13] (fun hv wx => hv = .int .i64 (ixI hs) ∧ Below W.heap.size W wx)
  case first =>
    go_wp2_with fail
    go_loopw [13, 14] (fun hv iv wx => ∃ (k : Nat) (h : Option Nat), k ≤ n ∧ hv = .int .i64 (ixI h) ∧ iv = .int .i64 k ∧ (h = none → idxH ⟨ta, ti⟩ key k (L.drop k) = hs) ∧ (h ≠ none → h = hs) ∧ Below W.heap.size W wx) (fun _ iv _ => n - (intOf iv).toNat)
    case atStart => exact ⟨0, none, Nat.zero_le _, rfl, rfl, fun _ => HHS.out, fun h => absurd rfl h, Below.refl _ _⟩
    case round =>
      obtain ⟨k, h, hk, rfl, rfl, h1, h2, hB⟩ := hrel
      have HB := Lib.hid hB
      by_cases hlt : k < n
      · have i0 : (0 : Int) ≤ (k : Int) := by omega
        have i1 : (k : Int) < (n : Int) := by omega
        cases h with
        | some j =>
          have HE := Lib.hid (h2 (by simp))
          have j0 : ¬ ixI (some j) < 0 := by show ¬ (j : Int) < 0; omega
          clear h1 h2 hB
          go_wp2_with fail
          go_meet
          exact ⟨by rw [HE.out], HB.out⟩
        | none =>
          have H1 := Lib.hid (h1 rfl)
          obtain ⟨x, hx⟩ : ∃ x, L[k]? = some x := ⟨_, List.getElem?_eq_getElem (by rw [HN.out]; exact hlt)⟩
          have HA := Lib.hid (H1.out.symm.trans (idxH_at (t := ⟨ta, ti⟩) (key := key) hx))
          obtain ⟨b', off, rfl, hb, p0, p1, p2, p3⟩ := Hos.cells (HM.out.later hB) hx
          obtain ⟨_, q0, q1⟩ := HX.out.later hB
          obtain ⟨xk, ⟨xa, xi⟩, xw⟩ := x
          simp only at p0 p1 p2 p3 HA q0 q1
          have j0 : ixI none < 0 := by decide
          clear hx hB h1 h2
          by_cases he : (⟨xa, xi⟩ : Tx) = ⟨ta, ti⟩
          · cases he
            by_cases he2 : xk = key
            · subst he2
              have HE := Lib.hid (show some k = hs by rw [HA.out, if_pos ⟨rfl, rfl⟩])
              go_wp2_with fail
              go_quiet (fail)
              go_wp2_with fail
              go_roundw
              case rel => exact ⟨k + 1, some k, by omega, rfl, by go_num, (fun h => by cases h), fun _ => HE.out, below_drewN HB.out _⟩
              case measure => simp [intOf]; omega
            · have g1 := ba_ne he2
              have g2 := ba_ne' he2
              have HE := Lib.hid (show idxH ⟨ta, ti⟩ key (k + 1) (L.drop (k + 1)) = hs by rw [HA.out, if_neg (fun h => he2 h.2)])
              go_wp2_with fail
              go_quiet (fail)
              go_wp2_with fail
              go_roundw
              case rel => exact ⟨k + 1, none, by omega, rfl, by go_num, (fun _ => HE.out), fun h => absurd rfl h, below_drewN HB.out _⟩
              case measure => simp [intOf]; omega
          · have HE := Lib.hid (show idxH ⟨ta, ti⟩ key (k + 1) (L.drop (k + 1)) = hs by rw [HA.out, if_neg (fun h => he h.1)])
            rcases tx_ne he with g | ⟨rfl, g⟩
            · go_wp2_with fail
              go_quiet (fail)
              go_wp2_with fail
              go_roundw
              case rel => exact ⟨k + 1, none, by omega, rfl, by go_num, (fun _ => HE.out), fun h => absurd rfl h, below_drewN HB.out _⟩
              case measure => simp [intOf]; omega
            · go_wp2_with fail
              go_quiet (fail)
              go_wp2_with fail
              go_roundw
              case rel => exact ⟨k + 1, none, by omega, rfl, by go_num, (fun _ => HE.out), fun h => absurd rfl h, below_drewN HB.out _⟩
              case measure => simp [intOf]; omega
      · have i1 : ¬ (k : Int) < (n : Int) := by omega
        have HE := Lib.hid (show h = hs by
          cases h with
          | some j => exact h2 (by simp)
          | none => rw [← h1 rfl, List.drop_eq_nil_of_le (by rw [HN.out]; omega)]; rfl)
        clear h1 h2 hB
        go_wp2_with fail
        go_meet
        exact ⟨by rw [HE.out], HB.out⟩
  case rest =>
    obtain ⟨rfl, hB⟩ := hcut
    have HB := Lib.hid hB
    obtain ⟨had, hhad⟩ : ∃ had, hadH L hs wb = had := ⟨_, rfl⟩
    rw [hhad] at HA0
    go_upto_region 7 with (fail)
    go_cut [65] (fun bv wx => bv = .bool had ∧ wx = wc)
    case first =>
      cases hs with
      | none =>
        obtain rfl : had = false := hhad.symm
        have j0 : ¬ 0 ≤ ixI none := by decide
        go_wp2_with fail
        go_meet
        exact ⟨rfl, rfl⟩
      | some j =>
        have hjn : j < n := by have := idx_lt _ _ _ _ _ HHS.out; have := HN.out; omega
        obtain ⟨x, hx⟩ : ∃ x, L[j]? = some x := ⟨_, List.getElem?_eq_getElem (by rw [HN.out]; exact hjn)⟩
        have hhd : (x.wr || !wb) = had := by rw [← hhad]; unfold hadH; simp only; rw [hx]
        obtain ⟨b', off, rfl, hb, p0, p1, p2, p3⟩ := Hos.cells (HM.out.later hB) hx
        have j0 : (0 : Int) ≤ (j : Int) := by omega
        have j1 : (j : Int) < (n : Int) := by omega
        have jx : ixI (some j) = (j : Int) := rfl
        rw [jx]
        obtain ⟨xk, xt, xw⟩ := x
        simp only at p3 hhd
        clear hx hhad p0 p1 p2
        cases xw
        · obtain rfl : had = !wb := hhd.symm
          go_wp2_with fail
          go_meet
          exact ⟨by first | rfl | (cases wb <;> rfl), rfl⟩
        · obtain rfl : had = true := hhd.symm
          go_wp2_with fail
          go_meet
          exact ⟨rfl, rfl⟩
    obtain ⟨rfl, rfl⟩ := hcut
    cases had
    case true =>
      have HE := Lib.hid (HSTAY.out 0 _ (by rw [HA0.out]; rfl) HB.out)
      clear hB hhad
      go_wp2_with fail
      go_ret3
      exact HE.out
    have HA1 := Lib.hid (show R = match wayH ⟨ta, ti⟩ key wb F [] L with
      | none => (L, [], 11)
      | some out =>
        if (leftH hs out 0 L).2 then ((leftH hs out 0 L).1, out, 0)
        else if 48 ≤ (leftH hs out 0 L).1.length then (L, [], 5)
        else ((leftH hs out 0 L).1 ++ [⟨key, ⟨ta, ti⟩, wb⟩], out, 0) by rw [HA0.out]; rfl)
    clear HA0 hB hhad
    obtain ⟨V, hV⟩ : ∃ V, wayH ⟨ta, ti⟩ key wb F [] L = V := ⟨_, rfl⟩
    rw [hV] at HA1
    have HV := Lib.hid hV
    clear hV
    go_upto_block 2 with (fail)
    go_cut [15] (fun ov wx => ∃ (O : List Tx) (a' : Option Addr) (c' : Nat), ov = .slice a' O.length c' ∧ V = some O ∧ CqX W.heap.size wx (.slice a' O.length c') O ∧ O.length ≤ n ∧ Below W.heap.size W wx)
    case first =>
      go_wp2_with fail
      go_loopw [15, 16] (fun ov iv wx => ∃ (k : Nat) (O : List Tx) (a' : Option Addr) (c' : Nat), k ≤ n ∧ iv = .int .i64 k ∧ ov = .slice a' O.length c' ∧ O.length ≤ k ∧ wayH ⟨ta, ti⟩ key wb F O (L.drop k) = V ∧ CqX W.heap.size wx (.slice a' O.length c') O ∧ Below W.heap.size W wx) (fun _ iv _ => n - (intOf iv).toNat)
      case atStart => exact ⟨0, [], none, 0, Nat.zero_le _, rfl, rfl, Nat.le_refl _, HV.out, Cq.nil _ _ _, HB.out⟩
      case round =>
        obtain ⟨k, O, a', c', hk, rfl, rfl, hOk, hway, hC, hB⟩ := hrel
        have HB := Lib.hid hB
        have HC := Lib.hid hC
        have HWY := Lib.hid hway
        by_cases hlt : k < n
        · obtain ⟨x, hx⟩ : ∃ x, L[k]? = some x := ⟨_, List.getElem?_eq_getElem (by rw [HN.out]; exact hlt)⟩
          have i0 : (0 : Int) ≤ (k : Int) := by omega
          have i1 : (k : Int) < (n : Int) := by omega
          have HA := Lib.hid (hway.symm.trans (wayH_at hx))
          obtain ⟨b', off, rfl, hb, p0, p1, p2, p3⟩ := Hos.cells (HM.out.later hB) hx
          obtain ⟨hxl, q0, q1⟩ := HX.out.later hB
          obtain ⟨xk, ⟨xa, xi⟩, xw⟩ := x
          simp only at p0 p1 p2 p3 HA q0 q1
          have C1 := Lib.hid (fun w' => rWay_any ⟨xk, ⟨xa, xi⟩, xw⟩ ⟨ta, ti⟩ key wb w')
          have C2 := Lib.hid (fun w' (h : Txs w' b F) => rAmong_any m d b F ⟨xa, xi⟩ HM2.out (by omega) w' h)
          have C3 := Lib.hid (fun w' => rElder_any ⟨ta, ti⟩ ⟨xa, xi⟩ w')
          have C4 := Lib.hid (fun w' (h : Txs w' a' O) => rAmong_any O.length c' a' O ⟨xa, xi⟩ rfl (by omega) w' h)
          obtain ⟨z, hz⟩ : ∃ z, inW ⟨xk, ⟨xa, xi⟩, xw⟩ ⟨ta, ti⟩ key wb = z := ⟨_, rfl⟩
          obtain ⟨st, hst⟩ : ∃ z, amT ⟨xa, xi⟩ F = z := ⟨_, rfl⟩
          obtain ⟨el, hel⟩ : ∃ z, eldT ⟨ta, ti⟩ ⟨xa, xi⟩ = z := ⟨_, rfl⟩
          obtain ⟨io, hio⟩ : ∃ z, amT ⟨xa, xi⟩ O = z := ⟨_, rfl⟩
          rw [hz] at C1 HA
          rw [hst] at C2 HA
          rw [hel] at C3 HA
          rw [hio] at C4 HA
          obtain ⟨_, _, e9, hTx, _⟩ := hC.form txT
          cases e9
          have HTX := Lib.hid hTx
          have S0 := Lib.hid (And.intro p0 (And.intro p1 (And.intro p2 (And.intro p3 (And.intro q0 (And.intro q1 (And.intro hb (And.intro hxl hB))))))))
          clear hB hx hz p0 p1 p2 p3 q0 q1 hb hst hel hio hway hC hTx hxl
          go_wp2_with fail
          go_upto_region 13 with (fail)
          have S1 := keepQ S0.out (Below.refl _ _).drew
          clear S0
          go_region_held3 (fun w' => w'.cell? ⟨b', off + k * 4, none⟩ = some (.string xk) ∧ w'.cell? ⟨b', off + k * 4 + 1, none⟩ = some (.int .u64 (xa : Nat)) ∧ w'.cell? ⟨b', off + k * 4 + 2, none⟩ = some (.int .u64 (xi : Nat)) ∧ w'.cell? ⟨b', off + k * 4 + 3, none⟩ = some (.bool xw) ∧ w'.cell? ⟨x0, 0, none⟩ = some (.int .u64 (ta : Nat)) ∧ w'.cell? ⟨x0, 1, none⟩ = some (.int .u64 (ti : Nat)) ∧ b' < w'.heap.size ∧ x0 < w'.heap.size ∧ Below W.heap.size W w')
            (first | (with_reducible assumption) | go_keep)
            (first
              | (go_at_call 56; (with_reducible refine (C1.out _).mono ?_); rintro e2 w2 ⟨rfl, hb2⟩; have S2 := keepQ S1 hb2))
          all_goals
            have S2 := Lib.hid S2
            have HT2 := Lib.hid (HTX.out.later ((Below.refl _ _).drew.trans hb2))
            have HC2 := Lib.hid (HC.out.later ((Below.refl _ _).drew.trans hb2))
            clear S1 hb2 C1
            cases z
            case false =>
              have HN2 := Lib.hid (show wayH ⟨ta, ti⟩ key wb F O (L.drop (k + 1)) = V by rw [HA.out]; rfl)
              have HB2 := Lib.hid S2.out.2.2.2.2.2.2.2.2
              go_wp2_with fail
              go_roundw
              case rel => exact ⟨k + 1, O, a', c', by omega, by go_num, rfl, by omega, HN2.out, HC2.out, HB2.out⟩
              case measure => simp [intOf]; omega
            have HF2 := Lib.hid (HFM.out.later S2.out.2.2.2.2.2.2.2.2)
            obtain ⟨p0, p1, p2, p3, q0, q1, hb, hxl, _⟩ := S2.out
            go_wp2_with fail
            refine (C2.out _ HF2.out).mono ?_
            rintro e w3 ⟨rfl, hb3⟩
            have S3 := Lib.hid (keepQ S2.out hb3)
            have HT3 := Lib.hid (HT2.out.later hb3)
            have HC3 := Lib.hid (HC2.out.later hb3)
            clear p0 p1 p2 p3 q0 q1 hb hxl hb3 HF2 C2 S2 HT2 HC2
            go_upto_region 16 with (fail)
            have S4 := keepQ S3.out (Below.refl _ _).drew
            clear S3
            go_region_held3 (fun w' => w'.cell? ⟨b', off + k * 4, none⟩ = some (.string xk) ∧ w'.cell? ⟨b', off + k * 4 + 1, none⟩ = some (.int .u64 (xa : Nat)) ∧ w'.cell? ⟨b', off + k * 4 + 2, none⟩ = some (.int .u64 (xi : Nat)) ∧ w'.cell? ⟨b', off + k * 4 + 3, none⟩ = some (.bool xw) ∧ w'.cell? ⟨x0, 0, none⟩ = some (.int .u64 (ta : Nat)) ∧ w'.cell? ⟨x0, 1, none⟩ = some (.int .u64 (ti : Nat)) ∧ b' < w'.heap.size ∧ x0 < w'.heap.size ∧ Below W.heap.size W w')
              (first | (with_reducible assumption) | go_keep)
              (first
                | (go_at_call 78; (with_reducible refine (C3.out _).mono ?_); rintro e4 w4 ⟨rfl, hb4⟩; have S5 := keepQ S4 hb4))
            all_goals
              have S5 := Lib.hid S5
              have HT5 := Lib.hid (HT3.out.later ((Below.refl _ _).drew.trans hb4))
              have HC5 := Lib.hid (HC3.out.later ((Below.refl _ _).drew.trans hb4))
              have HB5 := Lib.hid S5.out.2.2.2.2.2.2.2.2
              clear S4 hb4 C3 HT3 HC3
              cases st
              case true =>
                have HE := Lib.hid (HSTAY.out 11 w4 (by rw [HA1.out, show V = none from HA.out]) HB5.out)
                go_wp2_with fail
                go_ret3
                exact HE.out
              cases el
              case false =>
                have HE := Lib.hid (HSTAY.out 11 w4 (by rw [HA1.out, show V = none from HA.out]) HB5.out)
                go_wp2_with fail
                go_ret3
                exact HE.out
              obtain ⟨p0, p1, p2, p3, q0, q1, hb, hxl, _⟩ := S5.out
              go_wp2_with fail
              refine (C4.out _ HT5.out).mono ?_
              rintro e w6 ⟨rfl, hb6⟩
              have S6 := Lib.hid (keepQ S5.out hb6)
              have HC6 := Lib.hid (HC5.out.later hb6)
              have HB6 := Lib.hid S6.out.2.2.2.2.2.2.2.2
              clear p0 p1 p2 p3 q0 q1 hb hxl hb6 C4 S5 HT5 HC5
              cases io
              case true =>
                have HN2 := Lib.hid (show wayH ⟨ta, ti⟩ key wb F O (L.drop (k + 1)) = V by rw [HA.out]; rfl)
                go_wp2_with fail
                go_roundw
                case rel => exact ⟨k + 1, O, a', c', by omega, by go_num, rfl, by omega, HN2.out, HC6.out, HB6.out⟩
                case measure => simp [intOf]; omega
              have HN2 := Lib.hid (show wayH ⟨ta, ti⟩ key wb F (O ++ [⟨xa, xi⟩]) (L.drop (k + 1)) = V by rw [HA.out]; rfl)
              obtain ⟨a6, c6, w7, hr7, hc7, hb7⟩ := appX W.heap.size w6 _ O HC6.out ⟨xa, xi⟩ (by omega) HB6.out.size
              have HR7 := Lib.hid hr7
              have HC7 := Lib.hid hc7
              have HB7 := Lib.hid (HB6.out.trans hb7)
              obtain ⟨p0, p1, p2, p3, q0, q1, hb, hxl, _⟩ := S6.out
              clear hr7 hc7 hb7
              go_wp2_with (at_builtin; refine Lib.wpList_append_run _ rfl _ _ 83 83 rfl _ (.slice (some ⟨w6.heap.size, 0, none⟩) 1 1) rfl rfl _ _ HR7.out ?_)
              go_roundw
              case rel => exact ⟨k + 1, O ++ [(⟨xa, xi⟩ : Tx)], a6, c6, by omega, by go_num, by rw [List.length_append, List.length_singleton], by rw [List.length_append, List.length_singleton]; omega, HN2.out, by rw [List.length_append, List.length_singleton]; exact HC7.out, HB7.out⟩
              case measure => simp [intOf]; omega
        · have i1 : ¬ (k : Int) < (n : Int) := by omega
          have HE := Lib.hid (show V = some O by rw [← hway, List.drop_eq_nil_of_le (by rw [HN.out]; omega)]; rfl)
          clear hB hC hway
          go_wp2_with fail
          go_meet
          exact ⟨O, a', c', rfl, HE.out, HC.out, by omega, HB.out⟩
    case rest =>
      obtain ⟨O, a', c', rfl, hVO, hC, hOn, hB⟩ := hcut
      have HB := Lib.hid hB
      have HC := Lib.hid hC
      obtain ⟨SM, SD, hS⟩ : ∃ SM SD, leftH hs O 0 L = (SM, SD) := ⟨_, _, rfl⟩
      have HA2 := Lib.hid (show R = if SD then (SM, O, 0) else if 48 ≤ SM.length then (L, [], 5) else (SM ++ [⟨key, ⟨ta, ti⟩, wb⟩], O, 0) by rw [HA1.out, hVO]; simp only; rw [hS])
      have HSF := Lib.hid hS
      obtain ⟨_, _, e9, hTx, _, hO1, hO2⟩ := hC.form txT
      cases e9
      clear hB hC hS HA1 hVO HV
      go_upto_block 4 with (fail)
      obtain ⟨wp, rfl⟩ : ∃ x, x = wc := ⟨_, rfl⟩
      go_cut [21, 22] (fun mv dv wx => ∃ (a' : Option Addr) (c' : Nat), mv = .slice a' SM.length c' ∧ dv = .bool SD ∧ CqH wp.heap.size wx (.slice a' SM.length c') SM ∧ SM.length ≤ n ∧ Below wp.heap.size wp wx)
      case first =>
        go_wp2_with fail
        have HTX := Lib.hid hTx
        have hW3 := Lib.hid (fun (w' : World) (h : Below wp.heap.size wp w') => HB.out.trans (h.mono HB.out.size))
        go_loopw [21, 22, 23] (fun mv dv iv wx => ∃ (k : Nat) (M : List Ho) (dn : Bool) (a2 : Option Addr) (c2 : Nat), k ≤ n ∧ iv = .int .i64 k ∧ mv = .slice a2 M.length c2 ∧ dv = .bool dn ∧ leftH hs O 0 (L.take k) = (M, dn) ∧ M.length ≤ k ∧ CqH wp.heap.size wx (.slice a2 M.length c2) M ∧ Below wp.heap.size wp wx) (fun _ _ iv _ => n - (intOf iv).toNat)
        case atStart => exact ⟨0, [], false, none, 0, Nat.zero_le _, rfl, rfl, rfl, rfl, Nat.le_refl _, Cq.nil _ _ _, Below.refl _ _⟩
        case round =>
          obtain ⟨k, M, dn, a2, c2, hk, rfl, rfl, rfl, hlf, hMk, hCm, hBk⟩ := hrel
          have HLF := Lib.hid hlf
          have HCM := Lib.hid hCm
          have HBK := Lib.hid hBk
          by_cases hlt : k < n
          · obtain ⟨x, hx⟩ : ∃ x, L[k]? = some x := ⟨_, List.getElem?_eq_getElem (by rw [HN.out]; exact hlt)⟩
            have i0 : (0 : Int) ≤ (k : Int) := by omega
            have i1 : (k : Int) < (n : Int) := by omega
            have HA3 := Lib.hid (show leftH hs O 0 (L.take (k + 1)) = addH hs O k (M, dn) x by rw [leftH_at hx, hlf])
            obtain ⟨b', off, rfl, hb, p0, p1, p2, p3⟩ := Hos.cells (HM.out.later (hW3.out _ hBk)) hx
            have HC0 := Lib.hid (fun w' (h : Below wr.heap.size wr w') => Hos.cells ((HM.out.later (hW3.out _ hBk)).later h) hx)
            obtain ⟨xk, ⟨xa, xi⟩, xw⟩ := x
            simp only at p0 p1 p2 p3 HA3 HC0
            have C5 := Lib.hid (rAmong_any O.length c' a' O ⟨xa, xi⟩ rfl (by omega) wr (HTX.out.later hBk))
            obtain ⟨io, hio⟩ : ∃ z, amT ⟨xa, xi⟩ O = z := ⟨_, rfl⟩
            rw [hio] at C5
            have HIO := Lib.hid hio
            clear hx hlf hCm hBk hio
            go_wp2_with fail
            refine C5.out.mono ?_
            rintro e w3 ⟨rfl, hb3⟩
            obtain ⟨b2, off2, e3, hb', p0', p1', p2', p3'⟩ := HC0.out _ hb3
            cases e3
            have HB3 := Lib.hid (HBK.out.trans (hb3.mono HBK.out.size))
            have HC3 := Lib.hid (HCM.out.later hb3)
            clear p0 p1 p2 p3 hb3 C5 HC0
            cases io
            case true =>
              have HE := Lib.hid (show leftH hs O 0 (L.take (k + 1)) = (M, dn) by rw [HA3.out, addH, HIO.out]; rfl)
              clear p0' p1' p2' p3'
              go_wp2_with fail
              go_roundw
              case rel => exact ⟨k + 1, M, dn, a2, c2, by omega, by go_num, rfl, rfl, HE.out, by omega, HC3.out, HB3.out⟩
              case measure => simp [intOf]; omega
            by_cases hsk : hs = some k
            · have HE := Lib.hid (show leftH hs O 0 (L.take (k + 1)) = (M ++ [⟨xk, ⟨xa, xi⟩, true⟩], true) by rw [HA3.out, addH, HIO.out]; simp [hsk])
              have g : ((k : Int) == ixI hs) = true := by rw [hsk]; simp [ixI]
              have bv : Below w3.heap.size w3 (w3.alloc (.cells #[.string xk, .int .u64 (xa : Nat), .int .u64 (xi : Nat), .bool true] 75)) := (Below.refl _ _).alloc (Nat.le_refl _) _
              obtain ⟨a6, c6, w7, hr7, hc7, hb7⟩ := appH wp.heap.size _ _ M (HC3.out.later bv) ⟨xk, ⟨xa, xi⟩, true⟩ (by omega) (Nat.le_trans HB3.out.size bv.size)
              rw [show (w3.alloc (.cells #[.string xk, .int .u64 (xa : Nat), .int .u64 (xi : Nat), .bool true] 75)).heap.size = w3.heap.size + 1 by simp] at hr7
              have HR7 := Lib.hid hr7
              have HC7 := Lib.hid hc7
              have HB7 := Lib.hid ((HB3.out.trans (bv.mono HB3.out.size)).trans hb7)
              clear hr7 hc7 hb7 bv hsk
              go_wp2_with (at_builtin; refine Lib.wpList_append_run _ rfl _ _ 23 23 rfl _ (.slice (some ⟨w3.heap.size + 1, 0, none⟩) 1 1) rfl rfl _ _ HR7.out ?_)
              go_roundw
              case rel => exact ⟨k + 1, M ++ [(⟨xk, ⟨xa, xi⟩, true⟩ : Ho)], true, a6, c6, by omega, by go_num, by rw [List.length_append, List.length_singleton], rfl, HE.out, by rw [List.length_append, List.length_singleton]; omega, by rw [List.length_append, List.length_singleton]; exact HC7.out, HB7.out⟩
              case measure => simp [intOf]; omega
            · have HE := Lib.hid (show leftH hs O 0 (L.take (k + 1)) = (M ++ [⟨xk, ⟨xa, xi⟩, xw⟩], dn) by rw [HA3.out, addH, HIO.out]; simp [hsk])
              have g : ((k : Int) == ixI hs) = false := by
                cases hs with
                | none => simp [ixI]
                | some j => exact int_ne (fun e => hsk (by rw [e]))
              have bv : Below w3.heap.size w3 (w3.alloc (.cells #[.string xk, .int .u64 (xa : Nat), .int .u64 (xi : Nat), .bool xw] 75)) := (Below.refl _ _).alloc (Nat.le_refl _) _
              obtain ⟨a6, c6, w7, hr7, hc7, hb7⟩ := appH wp.heap.size _ _ M (HC3.out.later bv) ⟨xk, ⟨xa, xi⟩, xw⟩ (by omega) (Nat.le_trans HB3.out.size bv.size)
              rw [show (w3.alloc (.cells #[.string xk, .int .u64 (xa : Nat), .int .u64 (xi : Nat), .bool xw] 75)).heap.size = w3.heap.size + 1 by simp] at hr7
              have HR7 := Lib.hid hr7
              have HC7 := Lib.hid hc7
              have HB7 := Lib.hid ((HB3.out.trans (bv.mono HB3.out.size)).trans hb7)
              clear hr7 hc7 hb7 bv hsk
              go_wp2_with (at_builtin; refine Lib.wpList_append_run _ rfl _ _ 23 23 rfl _ (.slice (some ⟨w3.heap.size + 1, 0, none⟩) 1 1) rfl rfl _ _ HR7.out ?_)
              go_roundw
              case rel => exact ⟨k + 1, M ++ [(⟨xk, ⟨xa, xi⟩, xw⟩ : Ho)], dn, a6, c6, by omega, by go_num, by rw [List.length_append, List.length_singleton], rfl, HE.out, by rw [List.length_append, List.length_singleton]; omega, by rw [List.length_append, List.length_singleton]; exact HC7.out, HB7.out⟩
              case measure => simp [intOf]; omega
          · have i1 : ¬ (k : Int) < (n : Int) := by omega
            have hfull : (SM, SD) = (M, dn) := by rw [← HSF.out, ← hlf, List.take_of_length_le (by rw [HN.out]; omega)]
            cases hfull
            clear hlf hCm hBk
            go_wp2_with fail
            go_meet
            exact ⟨a2, c2, rfl, rfl, HCM.out, by omega, HBK.out⟩
      case rest =>
        obtain ⟨a3, c3, rfl, rfl, hC3, hSn, hB3⟩ := hcut
        have HB3 := Lib.hid (HB.out.trans (hB3.mono HB.out.size))
        have HBP := Lib.hid hB3
        have HC3 := Lib.hid hC3
        have HFIN := Lib.hid (fun (M' : List Ho) (a4 : Option Addr) (c4 : Nat) (w' : World) (h : R = (M', O, 0)) (h2 : CqH wp.heap.size w' (.slice a4 M'.length c4) M') (h3 : Below wp.heap.size wp w') => (show AkP w R (.returned (.tuple #[.slice a4 M'.length c4, .slice a' O.length c', .int .i64 0])) w' from by
          rw [h]
          obtain ⟨_, _, e9, hR, _, h4, h5⟩ := h2.form hoT
          cases e9
          exact ⟨a4, c4, a', c', rfl, hR, h4, h5, hTx.later h3, HB0.out.trans ((HB.out.trans (h3.mono HB.out.size)).mono HB0.out.size)⟩))
        have HST := Lib.hid (fun (h : R = (L, [], 5)) => HSTAY.out 5 wc h HB3.out)
        obtain ⟨hxl, q0, q1⟩ := HX.out.later HB3.out
        clear hB3 hC3
        cases SD
        case true =>
          have HE := Lib.hid (HFIN.out SM a3 c3 wc (by rw [HA2.out]; rfl) HC3.out HBP.out)
          go_wp2_with fail
          go_ret3
          exact HE.out
        by_cases h48 : 48 ≤ SM.length
        · have g : (48 : Int) ≤ (SM.length : Int) := by omega
          have HE := Lib.hid (HST.out (by rw [HA2.out]; simp only [Bool.false_eq_true, ↓reduceIte, h48]))
          go_wp2_with fail
          go_ret3
          exact HE.out
        · have g : ¬ (48 : Int) ≤ (SM.length : Int) := by omega
          obtain ⟨a6, c6, w7, hr7, hc7, hb7⟩ := appH wp.heap.size wc _ SM HC3.out ⟨key, ⟨ta, ti⟩, wb⟩ (by omega) HBP.out.size
          have HE := Lib.hid (HFIN.out (SM ++ [⟨key, ⟨ta, ti⟩, wb⟩]) a6 c6 w7 (by rw [HA2.out]; simp only [Bool.false_eq_true, ↓reduceIte, h48]) (by rw [List.length_append, List.length_singleton]; exact hc7) (HBP.out.trans hb7))
          have HR7 := Lib.hid hr7
          clear hr7 hc7 hb7 h48
          rw [List.length_append, List.length_singleton] at HE
          go_wp2_with (at_builtin; refine Lib.wpList_append_run _ rfl _ _ 23 23 rfl _ (.slice (some ⟨wc.heap.size, 0, none⟩) 1 1) rfl rfl _ _ HR7.out ?_)
          go_ret3
          exact HE.out
end Go.Proofs.Ythgnecggdlamfaa
