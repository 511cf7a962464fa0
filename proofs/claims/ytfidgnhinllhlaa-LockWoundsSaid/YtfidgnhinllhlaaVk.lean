/- The law LockWounds. -/
import Derived.Test.YtfidgnhinllhlaaVj
namespace Go.Proofs.Ytfidgnhinllhlaa
open Go.RowKit

theorem left_len (hs : Option Nat) (out : List Tx) : ∀ (L : List Ho) (i : Nat), (leftH hs out i L).1.length ≤ L.length
  | [], i => by simp [leftH]
  | x :: r, i => by
    have ih := left_len hs out r (i + 1)
    simp only [leftH]
    split
    · simp only [List.length_cons]; omega
    split
    · simp only [List.length_cons]; omega
    · simp only [List.length_cons]; omega
theorem ask_len48 (L : List Ho) (t : Tx) (key : ByteArray) (wr : Bool) (firm : List Tx) : (askH L t key wr firm).1.length ≤ max L.length 48 := by
  have hl := fun out => left_len (idxH t key 0 L) out L 0
  unfold askH
  split
  · simp only; omega
  rcases hw : wayH t key wr firm [] L with _ | out
  · simp only; omega
  · have := hl out
    simp only
    split
    · simp only; omega
    split
    · simp only; omega
    · rename_i h
      simp only [List.length_append, List.length_singleton]; omega
theorem ask_outok {L : List Ho} {t : Tx} {key : ByteArray} {wr : Bool} {firm : List Tx} (hs : smallH L) : ∀ z ∈ (askH L t key wr firm).2.1, okX z := by
  unfold askH
  split
  · simp
  rcases hw : wayH t key wr firm [] L with _ | out
  · simp
  · have h := way_ok L [] out hs (by simp) hw
    simp only
    split
    · exact h
    split
    · simp
    · exact h
theorem keepW {w0 w w' : World} {b p x : Nat} {v1 v2 u0 u1 : Value} (h : w.cell? ⟨b, p, none⟩ = some v1 ∧ w.cell? ⟨b, p + 1, none⟩ = some v2 ∧ w.cell? ⟨x, 0, none⟩ = some u0 ∧ w.cell? ⟨x, 1, none⟩ = some u1 ∧ b < w.heap.size ∧ x < w.heap.size ∧ Below w0.heap.size w0 w) (hb : Below w.heap.size w w') :
    w'.cell? ⟨b, p, none⟩ = some v1 ∧ w'.cell? ⟨b, p + 1, none⟩ = some v2 ∧ w'.cell? ⟨x, 0, none⟩ = some u0 ∧ w'.cell? ⟨x, 1, none⟩ = some u1 ∧ b < w'.heap.size ∧ x < w'.heap.size ∧ Below w0.heap.size w0 w' := by
  obtain ⟨a1, a2, c0, c1, hl, hx, hB⟩ := h
  have f : ∀ j v, w.cell? ⟨b, j, none⟩ = some v → w'.cell? ⟨b, j, none⟩ = some v := fun j v e => (hb.cell (p := ⟨b, j, none⟩) hl).trans e
  have g : ∀ j v, w.cell? ⟨x, j, none⟩ = some v → w'.cell? ⟨x, j, none⟩ = some v := fun j v e => (hb.cell (p := ⟨x, j, none⟩) hx).trans e
  exact ⟨f _ _ a1, f _ _ a2, g _ _ c0, g _ _ c1, Nat.lt_of_lt_of_le hl hb.size, Nat.lt_of_lt_of_le hx hb.size, hB.trans (hb.mono hB.size)⟩
theorem keepX {w0 w w' : World} {x : Nat} {u0 u1 : Value} (h : w.cell? ⟨x, 0, none⟩ = some u0 ∧ w.cell? ⟨x, 1, none⟩ = some u1 ∧ x < w.heap.size ∧ Below w0.heap.size w0 w) (hb : Below w.heap.size w w') :
    w'.cell? ⟨x, 0, none⟩ = some u0 ∧ w'.cell? ⟨x, 1, none⟩ = some u1 ∧ x < w'.heap.size ∧ Below w0.heap.size w0 w' := by
  obtain ⟨c0, c1, hx, hB⟩ := h
  have g : ∀ j v, w.cell? ⟨x, j, none⟩ = some v → w'.cell? ⟨x, j, none⟩ = some v := fun j v e => (hb.cell (p := ⟨x, j, none⟩) hx).trans e
  exact ⟨g _ _ c0, g _ _ c1, Nat.lt_of_lt_of_le hx hb.size, hB.trans (hb.mono hB.size)⟩
set_option maxRecDepth 100000 in
set_option maxHeartbeats 8000000 in
theorem law_LockWounds {TT : World → Prop} (P : PLocks TT) (n c m d : Nat) (a b : Option Addr) (L : List Ho) (x : As) (F : List Tx) (t : Tx) (key : ByteArray) (hk : okA x.key x.t) (hk2 : key.size ≤ 140737488351232) (w : World) (I : HoIn w a n c L) (J : TxIn w b m d F) (hT : TT w) :
    Calls Try.prog 6 #[.agg #[.slice a n c, .int .u64 (x.t.age : Nat), .int .u64 (x.t.id : Nat), .string x.key, .bool x.wr, .slice b m d, .int .u64 (t.age : Nat), .int .u64 (t.id : Nat), .string key]] w fun e w' => e = .returned (.bool true) ∧ Below w.heap.size w w' := by
  have HS := Lib.hid (fun w' (hb : Below w.heap.size w w') => shown_any P w' (P.below hT hb))
  have HAK := Lib.hid (fun w' (hb : Below w.heap.size w w') => P.ask n c m d a b L x.t x.key x.wr F I.hlen I.hcap I.hmax I.room I.small hk J.hlen J.room J.ok w' (P.below hT hb) (I.mem.later hb) (J.mem.later hb))
  have HHS := Lib.hid (fun (n c : Nat) (a : Option Addr) (L : List Ho) (t : Tx) (key : ByteArray) (wb : Bool) (h1 : L.length = n) (h2 : n ≤ 140737488351232) (h3 : smallH L) (h4 : key.size ≤ 140737488351232) w' (hb : Below w.heap.size w w') (hm : Hos w' a L) => P.has n c a L t key wb h1 h2 h3 h4 w' (P.below hT hb) hm)
  have HEL := Lib.hid (fun (z : Tx) w' (hb : Below w.heap.size w w') => P.elder x.t z w' (P.below hT hb))
  have HDR := Lib.hid (fun (n c : Nat) (a : Option Addr) (L : List Ho) (t : Tx) (h1 : L.length = n) (h2 : n ≤ c) (h3 : c ≤ maxLen) (h4 : n * 40 ≤ 140737488351232) (h5 : smallH L) (h6 : okX t) w' (hb : Below w.heap.size w w') (hm : Hos w' a L) => P.drop n c a L t h1 h2 h3 h4 h5 h6 w' (P.below hT hb) hm)
  have HAM := Lib.hid (fun (z : Tx) w' (hb : Below w.heap.size w w') => rAmong_any m d b F z J.hlen (by have := J.room; omega) w' (J.mem.later hb))
  have HI := Lib.hid I.mem
  have HN := Lib.hid I.hlen
  have HSL := Lib.hid (show smallH L from I.small)
  have hroom := I.room
  have hl1 := ask_len48 L x.t x.key x.wr F
  have hl2 := ask_out L x.t x.key x.wr F
  have HE1 := Lib.hid (fun h => ask_err (L := L) (t := x.t) (key := x.key) (wr := x.wr) (firm := F) h)
  have HE2 := Lib.hid (fun h => ask_has (L := L) (t := x.t) (key := x.key) (wr := x.wr) (firm := F) h)
  have HE3 := Lib.hid (fun (z : Tx) h => ask_wound (L := L) (t := x.t) (key := x.key) (wr := x.wr) (firm := F) (z := z) h)
  have HE4 := Lib.hid (fun (z : Tx) h1 h2 k b => ask_others (L := L) (t := x.t) (key := x.key) (wr := x.wr) (firm := F) (z := z) h1 h2 k b)
  have HE6 := Lib.hid (ask_outok (L := L) (t := x.t) (key := x.key) (wr := x.wr) (firm := F) I.small)
  have HE5 := Lib.hid (ask_small (L := L) (t := x.t) (key := x.key) (wr := x.wr) (firm := F) I.small hk)
  rw [I.hlen] at hl1 hl2
  obtain ⟨⟨M, O, k⟩, hM⟩ : ∃ r, askH L x.t x.key x.wr F = r := ⟨_, rfl⟩
  rw [hM] at HAK hl1 hl2 HE1 HE2 HE3 HE4 HE5 HE6
  simp only at hl1 hl2 HE1 HE2 HE3 HE4 HE5 HE6
  obtain ⟨⟨xa, xi⟩, xk, xw⟩ := x
  obtain ⟨ta, ti⟩ := t
  simp only at hk
  clear hM P I J hT
  obtain ⟨W, hW⟩ : ∃ W, ((w.alloc (.cells #[.slice a n c, .int .u64 (xa : Nat), .int .u64 (xi : Nat), .string xk, .bool xw, .slice b m d, .int .u64 (ta : Nat), .int .u64 (ti : Nat), .string key] 48)).alloc (.cells #[.int .u64 (xa : Nat), .int .u64 (xi : Nat), .string xk, .bool xw] 27)).alloc (.cells #[.int .u64 (ta : Nat), .int .u64 (ti : Nat)] 25) = W := ⟨_, rfl⟩
  obtain ⟨x4, hx4⟩ : ∃ x, w.heap.size + 1 = x := ⟨_, rfl⟩
  obtain ⟨x6, hx6⟩ : ∃ x, x4 + 1 = x := ⟨_, rfl⟩
  have hBX : Below w.heap.size w W ∧ AsBox W x4 ⟨⟨xa, xi⟩, xk, xw⟩ ∧ TxBox W x6 ⟨ta, ti⟩ := by
    rw [← hW, ← hx6, ← hx4]
    exact ⟨by go_grown, ⟨by simp, by simp [go_sem], by simp [go_sem], by simp [go_sem], by simp [go_sem]⟩, ⟨by simp, by simp [go_sem], by simp [go_sem]⟩⟩
  have HB0 := Lib.hid hBX.1
  have HX4 := Lib.hid hBX.2.1
  have HX6 := Lib.hid hBX.2.2
  have HW := Lib.hid hW
  have H4 := Lib.hid hx4
  have H6 := Lib.hid hx6
  clear hBX hW hx4 hx6
  go_enter Try.func6, Try.ntmps6
  go_wp2_with fail
  rw [HW.out, H4.out, H6.out]
  refine (HS.out _ HB0.out).mono ?_
  rintro e w1 ⟨rfl, hb1⟩
  have HB1 := Lib.hid (HB0.out.trans (hb1.mono HB0.out.size))
  have HY4 := Lib.hid (HX4.out.later hb1)
  have HY6 := Lib.hid (HX6.out.later hb1)
  obtain ⟨_, q0, q1, q2, q3⟩ := HY4.out
  simp only at q0 q1 q2 q3
  clear hb1 HX4 HX6
  go_wp2_with fail
  refine (HAK.out _ HB1.out).mono ?_
  rintro e w2 ⟨a1, c1, a2, c2, rfl, m1, h11, h12, t1, hb2⟩
  simp only at h11
  have HB2 := Lib.hid (HB1.out.trans (hb2.mono HB1.out.size))
  have M1 := Lib.hid m1
  have T1 := Lib.hid t1
  have HZ4 := Lib.hid (HY4.out.later hb2)
  have HZ6 := Lib.hid (HY6.out.later hb2)
  clear hb2 q0 q1 q2 q3 m1 t1 HY4 HY6 HAK
  by_cases hk0 : k = 0
  case neg =>
    obtain ⟨rfl, rfl⟩ := HE1.out hk0
    have g : ((k : Int) == 0) = false := by simp; omega
    have g2 : ((k : Int) != 0) = true := by simp; omega
    have CS := Lib.hid (rSame_any n c c1 a a1 M HN.out (by omega) w2 (HI.out.later HB2.out) M1.out)
    clear hk0 HE1 HE2 HE3 HE4
    rw [HN.out]
    go_wp2_with fail
    refine CS.out.mono ?_
    rintro e w3 ⟨rfl, hb3⟩
    have HB3 := Lib.hid (HB2.out.trans (hb3.mono HB2.out.size))
    clear hb3
    go_wp2_with fail
    go_ret
    exact ⟨by first | rfl | simp, HB3.out⟩
  subst hk0
  have HHA := Lib.hid (HE2.out rfl)
  have CH := Lib.hid (HHS.out M.length c1 a1 M ⟨xa, xi⟩ xk false rfl (by omega) HE5.out hk.1 w2 HB2.out M1.out)
  rw [HHA.out] at CH
  obtain ⟨_, q0, q1, q2, q3⟩ := HZ4.out
  simp only at q0 q1 q2 q3
  clear HE1 HE2 HHA
  go_wp2_with fail
  refine CH.out.mono ?_
  rintro e w3 ⟨rfl, hb3⟩
  have HB3 := Lib.hid (HB2.out.trans (hb3.mono HB2.out.size))
  have M3 := Lib.hid (M1.out.later hb3)
  have T3 := Lib.hid (T1.out.later hb3)
  have HV4 := Lib.hid (HZ4.out.later hb3)
  have HV6 := Lib.hid (HZ6.out.later hb3)
  clear hb3 q0 q1 q2 q3 CH HZ4 HZ6 M1 T1
  obtain ⟨wp, rfl⟩ : ∃ x, x = w3 := ⟨_, rfl⟩
  have hWB := Lib.hid (fun (w' : World) (h : Below wp.heap.size wp w') => HB3.out.trans (h.mono HB3.out.size))
  go_wp2_with fail
  go_loopw [13] (fun iv wx => ∃ i : Nat, i ≤ O.length ∧ iv = .int .i64 i ∧ Below wp.heap.size wp wx) (fun iv _ => O.length - (intOf iv).toNat)
  case atStart => exact ⟨0, Nat.zero_le _, rfl, Below.refl _ _⟩
  case round =>
    obtain ⟨i, hi, rfl, hB⟩ := hrel
    by_cases hlt : i < O.length
    case neg =>
      have i1 : ¬ (i : Int) < (O.length : Int) := by omega
      have HB := Lib.hid hB
      obtain ⟨hx6, r0, r1⟩ := HV6.out.later hB
      obtain ⟨_, s0, s1, _, _⟩ := HV4.out.later hB
      simp only at r0 r1 s0 s1
      have CG := Lib.hid (rAmong_any O.length c2 a2 O ⟨ta, ti⟩ rfl (by omega) wr (T3.out.later hB))
      obtain ⟨gn, hgn⟩ : ∃ g, amT ⟨ta, ti⟩ O = g := ⟨_, rfl⟩
      rw [hgn] at CG
      have HGN := Lib.hid hgn
      clear hB hgn
      go_wp2_with fail
      refine CG.out.mono ?_
      rintro e w4 ⟨rfl, hb4⟩
      have HB4 := Lib.hid (HB.out.trans (hb4.mono HB.out.size))
      clear r0 r1 s0 s1 CG
      obtain ⟨hx6', r0, r1⟩ := HV6.out.later HB4.out
      obtain ⟨_, s0, s1, _, _⟩ := HV4.out.later HB4.out
      simp only at r0 r1 s0 s1
      have HBW := Lib.hid (hWB.out _ HB4.out)
      clear hb4
      cases gn
      case true =>
        go_wp2_with fail
        go_ret
        exact ⟨by first | rfl | simp, HBW.out⟩
      by_cases htx : (⟨ta, ti⟩ : Tx) = ⟨xa, xi⟩
      · cases htx
        go_wp2_with fail
        go_ret
        exact ⟨by first | rfl | simp, HBW.out⟩
      have hno : (⟨ta, ti⟩ : Tx) ∉ O := fun h => by
        have := (amT_iff ⟨ta, ti⟩ O).2 h
        rw [HGN.out] at this; cases this
      have HQ := Lib.hid (HE4.out ⟨ta, ti⟩ hno htx key)
      have C1 := Lib.hid (fun w' (h : Below wp.heap.size wp w') => HHS.out M.length c1 a1 M ⟨ta, ti⟩ key false rfl (by omega) HE5.out hk2 w' (hWB.out _ h) (M3.out.later h))
      have C2 := Lib.hid (fun w' (h : Below wp.heap.size wp w') => HHS.out n c a L ⟨ta, ti⟩ key false HN.out (by omega) HSL.out hk2 w' (hWB.out _ h) (HI.out.later (hWB.out _ h)))
      have C3 := Lib.hid (fun w' (h : Below wp.heap.size wp w') => HHS.out M.length c1 a1 M ⟨ta, ti⟩ key true rfl (by omega) HE5.out hk2 w' (hWB.out _ h) (M3.out.later h))
      have C4 := Lib.hid (fun w' (h : Below wp.heap.size wp w') => HHS.out n c a L ⟨ta, ti⟩ key true HN.out (by omega) HSL.out hk2 w' (hWB.out _ h) (HI.out.later (hWB.out _ h)))
      rw [HQ.out] at C1 C3
      obtain ⟨v1, hv1⟩ : ∃ v, hasH ⟨ta, ti⟩ key false L = v := ⟨_, rfl⟩
      obtain ⟨v2, hv2⟩ : ∃ v, hasH ⟨ta, ti⟩ key true L = v := ⟨_, rfl⟩
      rw [hv1] at C1 C2
      rw [hv2] at C3 C4
      have S0 := Lib.hid (And.intro r0 (And.intro r1 (And.intro hx6' HB4.out)))
      clear hv1 hv2 HQ hno hx6 hx6'
      have hfin : ∀ w', Below wp.heap.size wp w' → Below w.heap.size w w' := fun w' h => hWB.out _ h
      have HFIN := Lib.hid hfin
      clear hfin
      rcases tx_ne htx with g | ⟨rfl, g⟩
      all_goals
        go_wp2_with fail
        go_upto_region 24 with (fail)
        have S1 := keepX S0.out (Below.refl _ _).drew
        clear S0 r0 r1 s0 s1
        go_region_held3 (fun w' => w'.cell? ⟨x6, 0, none⟩ = some (.int .u64 (ta : Nat)) ∧ w'.cell? ⟨x6, 1, none⟩ = some (.int .u64 (ti : Nat)) ∧ x6 < w'.heap.size ∧ Below wp.heap.size wp w')
          (first | (with_reducible assumption) | go_keep)
          (first
            | (go_at_call 16; (with_reducible refine (C1.out _ S1.2.2.2).mono ?_); rintro e5 w5 ⟨rfl, hb5⟩; have S2 := keepX S1 hb5)
            | (go_at_call 16; (with_reducible refine (C2.out _ S2.2.2.2).mono ?_); rintro e6 w6 ⟨rfl, hb6⟩; have S3 := keepX S2 hb6)
            | (go_at_call 16; (with_reducible refine (C3.out _ S3.2.2.2).mono ?_); rintro e7 w7 ⟨rfl, hb7⟩; have S4 := keepX S3 hb7)
            | (go_at_call 16; (with_reducible refine (C4.out _ S4.2.2.2).mono ?_); rintro e8 w8 ⟨rfl, hb8⟩; have S5 := keepX S4 hb8))
        all_goals
          have HBE := Lib.hid (HFIN.out _ S5.2.2.2)
          clear S1 S2 S3 S4 S5 hb5 hb6 hb7 hb8
          go_wp2_with fail
          go_ret
          exact ⟨by first | rfl | (simp; done) | (cases v1 <;> cases v2 <;> rfl), HBE.out⟩
    have HIL := Lib.hid hlt
    have i0 : (0 : Int) ≤ (i : Int) := by omega
    have i1 : (i : Int) < (O.length : Int) := by omega
    obtain ⟨z, hz⟩ : ∃ z, O[i]? = some z := ⟨_, List.getElem?_eq_getElem hlt⟩
    obtain ⟨hw1, hw2, hw3⟩ := HE3.out z (List.mem_of_getElem? hz)
    obtain ⟨b7, off7, e7, hb7, p0, p1⟩ := Txs.cells (T3.out.later hB) hz
    subst e7
    obtain ⟨hx4, s0, s1, _, _⟩ := HV4.out.later hB
    have hzo := HE6.out z (List.mem_of_getElem? hz)
    obtain ⟨za, zi⟩ := z
    simp only at p0 p1 s0 s1 hw1 hw2 hw3
    have C1 := Lib.hid (HAM.out ⟨za, zi⟩)
    have C2 := Lib.hid (HEL.out ⟨za, zi⟩)
    have C3 := Lib.hid (fun w' (h : Below wp.heap.size wp w') => HDR.out M.length c1 a1 M ⟨za, zi⟩ rfl h11 h12 (by omega) HE5.out hzo w' (hWB.out _ h) (M3.out.later h))
    rw [hw1] at C1
    rw [hw2] at C2
    rw [hw3] at C3
    have S0 := Lib.hid (And.intro p0 (And.intro p1 (And.intro s0 (And.intro s1 (And.intro hb7 (And.intro hx4 hB))))))
    clear hz hw1 hw2 hw3 hB hb7 hx4 hzo
    go_wp2_with fail
    refine (C1.out _ (hWB.out _ S0.out.2.2.2.2.2.2)).mono ?_
    rintro e w4 ⟨rfl, hb4⟩
    have S1 := Lib.hid (keepW S0.out hb4)
    clear hb4 S0 p0 p1 s0 s1 C1
    go_upto_region 17 with (fail)
    have S2 := keepW S1.out (Below.refl _ _).drew
    clear S1
    go_region_held3 (fun w' => w'.cell? ⟨b7, off7 + i * 2, none⟩ = some (.int .u64 (za : Nat)) ∧ w'.cell? ⟨b7, off7 + i * 2 + 1, none⟩ = some (.int .u64 (zi : Nat)) ∧ w'.cell? ⟨x4, 0, none⟩ = some (.int .u64 (xa : Nat)) ∧ w'.cell? ⟨x4, 1, none⟩ = some (.int .u64 (xi : Nat)) ∧ b7 < w'.heap.size ∧ x4 < w'.heap.size ∧ Below wp.heap.size wp w')
      (first | (with_reducible assumption) | go_keep)
      (first
        | (go_at_call 20; (with_reducible refine (C2.out _ (hWB.out _ S2.2.2.2.2.2.2)).mono ?_); rintro e5 w5 ⟨rfl, hb5⟩; have S3 := keepW S2 hb5))
    all_goals
      have S3 := Lib.hid S3
      clear S2 hb5 C2
      obtain ⟨p0, p1, s0, s1, _, _, hB5⟩ := S3.out
      have HB5 := Lib.hid hB5
      clear hB5
      go_wp2_with fail
      refine (C3.out _ HB5.out).mono ?_
      rintro e w6 ⟨a8, c8, rfl, _, _, _, hb6⟩
      have HB6 := Lib.hid (HB5.out.trans (hb6.mono HB5.out.size))
      clear hb6 p0 p1 s0 s1 S3 C3
      go_wp2_with fail
      go_roundw
      case rel => exact ⟨i + 1, HIL.out, by go_num, HB6.out⟩
      case measure => have := HIL.out; simp [intOf]; omega
end Go.Proofs.Ytfidgnhinllhlaa
