/- The law RowsKeeps. -/
import Derived.Test.YtifdgjmbecilhaaDoorUv
import Derived.Test.YtifdgjmbecilhaaDoorUn
namespace Go.Proofs.YtifdgjmbecilhaaDoor
open Go.RowKit

theorem right_small {L : List Ro} (h : rightB L = true) : smallR L := fun x hx => by
  have h1 := ((rightB_iff L).1 h).2.1 x hx
  simp only [rowOk, Bool.and_eq_true, decide_eq_true_eq] at h1
  omega
theorem keyIn_step {key : ByteArray} {P : List Pu} {i : Nat} {x : Pu} (hx : P[i]? = some x) : keyIn key (P.take (i + 1)) = (keyIn key (P.take i) || decide (x.key = key)) := by
  have h1 : P.take (i + 1) = P.take i ++ [x] := by rw [List.take_add_one, hx]; rfl
  rw [h1, keyIn_app]; simp [keyIn]
set_option maxRecDepth 100000 in
set_option maxHeartbeats 4000000 in
theorem law_RowsKeeps {TT : World → Prop} (P : PRows TT) (n c m d ver : Nat) (a b : Option Addr) (L : List Ro) (Q : List Pu) (key : ByteArray) (hver : ver < 18446744073709551616) (hk : key.size ≤ 140737488351232) (w : World) (I : RoIn w a n c L) (J : PuIn w b m d Q) (hT : TT w) :
    Calls Tryd.prog 8 #[.agg #[.slice a n c, .slice b m d, .int .u64 (ver : Nat), .string key]] w fun e w' => e = .returned (.bool true) ∧ Below w.heap.size w w' := by
  have HS := Lib.hid (fun w' (hb : Below w.heap.size w w') => shown_any P w' (P.below hT hb))
  have HR := Lib.hid (fun w' (hb : Below w.heap.size w w') => rRight_any n c a L I.hlen I.n I.small w' (I.mem.later hb))
  have HA := Lib.hid (fun w' (hb : Below w.heap.size w w') => P.all n c m d ver a b L Q I.hlen I.hcap I.hmax I.room I.small J.hlen J.room J.small hver w' (P.below hT hb) (I.mem.later hb) (J.mem.later hb))
  have HM := Lib.hid (fun (hL : rightB L = true) (hv : ver ≤ 4611686018427387903) (h : (allR L Q ver).2 = 0) => allR_right hL hv h)
  have HG := Lib.hid (fun w' (hb : Below w.heap.size w w') => P.get key n c a L I.hlen I.n hk I.small w' (P.below hT hb) (I.mem.later hb))
  have HGM := Lib.hid (fun (kk : ByteArray) (hkk : kk.size ≤ 140737488351232) (M : List Ro) (hM : rightB M = true) (a1 : Option Addr) (c1 : Nat) w' (hb : Below w.heap.size w w') (hR : Ros w' a1 M) => P.get kk M.length c1 a1 M rfl (by have := ((rightB_iff M).1 hM).1; omega) hkk (right_small hM) w' (P.below hT hb) hR)
  have HRM := Lib.hid (fun (M : List Ro) (hM : rightB M = true) (a1 : Option Addr) (c1 : Nat) w' (hR : Ros w' a1 M) => rRight_any M.length c1 a1 M rfl (by have := ((rightB_iff M).1 hM).1; omega) (right_small hM) w' hR)
  have HJ := Lib.hid J
  have hmb : m ≤ 140737488351232 := J.n
  obtain ⟨⟨M, k⟩, hAl⟩ : ∃ r, allR L Q ver = r := ⟨_, rfl⟩
  obtain ⟨rb, hrb⟩ : ∃ r, rightB L = r := ⟨_, rfl⟩
  rw [hAl] at HA HM
  rw [hrb] at HR HM
  have hWB : Hid (∀ W, w.alloc (.cells #[.slice a n c, .slice b m d, .int .u64 (ver : Nat), .string key] 56) = W → Below w.heap.size w W) := Lib.hid (fun W hW => by subst hW; go_grown)
  clear hAl hrb P I J hT hver
  go_enter Tryd.func8, Tryd.ntmps8
  go_wp2_with fail
  generalize hW : w.alloc (.cells #[.slice a n c, .slice b m d, .int .u64 (ver : Nat), .string key] 56) = W
  have HB0 := Lib.hid (hWB.out W hW)
  clear hW hWB
  refine (HS.out _ HB0.out).mono ?_
  rintro e w1 ⟨rfl, hb1⟩
  have HB1 := Lib.hid (HB0.out.trans (hb1.mono HB0.out.size))
  clear hb1
  go_wp2_with fail
  refine (HR.out _ HB1.out).mono ?_
  rintro e w2 ⟨rfl, hb2⟩
  have HB2 := Lib.hid (HB1.out.trans (hb2.mono HB1.out.size))
  clear hb2
  go_wp2_with fail
  refine (HA.out _ HB2.out).mono ?_
  rintro e w3 ⟨a1, c1, rfl, m1, hb3⟩
  have HB3 := Lib.hid (HB2.out.trans (hb3.mono HB2.out.size))
  have M1 := Lib.hid m1
  clear hb3 m1
  cases rb
  case false =>
    go_wp2_with fail
    go_ret
    exact ⟨by first | rfl | simp, HB3.out⟩
  by_cases hk0 : k = 0
  case neg =>
    have g : ((k : Int) == 0) = false := by simp; omega
    have g2 : ((k : Int) != 0) = true := by simp; omega
    go_wp2_with fail
    go_ret
    exact ⟨by first | rfl | simp, HB3.out⟩
  subst hk0
  by_cases hv : 4611686018427387903 < ver
  · have g : (4611686018427387903 : Int) < (ver : Int) := by omega
    go_wp2_with fail
    go_ret
    exact ⟨by first | rfl | simp, HB3.out⟩
  have g : ¬ (4611686018427387903 : Int) < (ver : Int) := by omega
  obtain ⟨hMr, hP1, hP2⟩ := HM.out rfl (by omega) rfl
  have HMR := Lib.hid hMr
  have HP1 := Lib.hid hP1
  have HP2 := Lib.hid hP2
  have CR := Lib.hid (HRM.out M hMr a1 c1 w3 M1.out)
  rw [hMr] at CR
  clear hMr hP1 hP2 HM
  go_wp2_with fail
  refine CR.out.mono ?_
  rintro e w4 ⟨rfl, hb4⟩
  have HB4 := Lib.hid (HB3.out.trans (hb4.mono HB3.out.size))
  have M2 := Lib.hid (M1.out.later hb4)
  clear hb4 CR
  go_wp2_with fail
  go_loopw [12, 13] (fun dv iv wr => ∃ i : Nat, i ≤ m ∧ iv = .int .i64 i ∧ dv = .bool (keyIn key (Q.take i)) ∧ Ros wr a1 M ∧ Below w.heap.size w wr) (fun _ iv _ => m - (intOf iv).toNat)
  case atStart => exact ⟨0, Nat.zero_le _, rfl, rfl, M2.out, HB4.out⟩
  case round =>
    obtain ⟨i, hi, rfl, rfl, hR, hB⟩ := hrel
    have HRr := Lib.hid hR
    have HB := Lib.hid hB
    clear hR hB
    by_cases hlt : i < m
    · have HLT := Lib.hid hlt
      obtain ⟨p, hp⟩ : ∃ p, Q[i]? = some p := ⟨_, List.getElem?_eq_getElem (by rw [HJ.out.hlen]; exact hlt)⟩
      have i0 : (0 : Int) ≤ (i : Int) := by omega
      have i1 : (i : Int) < (m : Int) := by omega
      obtain ⟨bb, off, rfl, hb, p0, p1, p2⟩ := Pus.cells (HJ.out.mem.later HB.out) hp
      have hget := HP1.out p (List.mem_of_getElem? hp)
      have CG := Lib.hid (HGM.out p.key (HJ.out.small.at hp).1 M HMR.out a1 c1 wr HB.out HRr.out)
      have HK := Lib.hid (keyIn_step (key := key) hp)
      obtain ⟨pk, pv, pg⟩ := p
      simp only at hget
      rw [hget] at CG
      obtain ⟨nd, hnd⟩ : ∃ x, keyIn key (Q.take i) = x := ⟨_, rfl⟩
      rw [hnd] at HK ⊢
      clear hget hnd hp
      cases pg
      case true =>
        simp only [if_true, Option.getD_none, Option.isSome_none] at CG
        obtain ⟨⟨xk, xv, xn⟩, hx⟩ : ∃ x, z0 = x := ⟨_, rfl⟩
        rw [hx] at CG
        clear hx
        go_wp2_with fail
        refine CG.out.mono ?_
        rintro e w5 ⟨rfl, hb5⟩
        have HR5 := Lib.hid (HRr.out.later hb5)
        have HB5 := Lib.hid (HB.out.trans (hb5.mono HB.out.size))
        have r0 := (hb5.cell (p := ⟨bb, off + i * 3, none⟩) hb).trans p0
        have r1 := (hb5.cell (p := ⟨bb, off + i * 3 + 1, none⟩) hb).trans p1
        have r2 := (hb5.cell (p := ⟨bb, off + i * 3 + 2, none⟩) hb).trans p2
        have hb5' : bb < w5.heap.size := Nat.lt_of_lt_of_le hb hb5.size
        clear hb5 CG p0 p1 p2
        go_wp2_with fail
        generalize hW : w5.alloc (.cells #[.string xk, .string xv, .int .u64 (xn : Nat)] 26) = W5
        obtain ⟨g5, B5⟩ := robox hW
        obtain ⟨x5, hx5⟩ : ∃ x, w5.heap.size = x := ⟨_, rfl⟩
        have s0 := (g5.cell (p := ⟨bb, off + i * 3, none⟩) hb5').trans r0
        have s1 := (g5.cell (p := ⟨bb, off + i * 3 + 1, none⟩) hb5').trans r1
        have s2 := (g5.cell (p := ⟨bb, off + i * 3 + 2, none⟩) hb5').trans r2
        have HR6 := Lib.hid (HR5.out.later g5)
        have HB6 := Lib.hid (HB5.out.trans (g5.mono HB5.out.size))
        rw [hx5] at B5 ⊢
        obtain ⟨_, q0, q1, q2⟩ := B5
        have hbW : bb < W5.heap.size := Nat.lt_of_lt_of_le hb5' g5.size
        clear g5 hW hx5 hb5' r0 r1 r2
        go_quiet (fail)
        generalize hD : W5.drewN _ = W6
        have g6 : Below W5.heap.size W5 W6 := by rw [← hD]; exact below_drewN (Below.refl _ _) _
        have t0 := (g6.cell (p := ⟨bb, off + i * 3, none⟩) hbW).trans s0
        have HR7 := Lib.hid (HR6.out.later g6)
        have HB7 := Lib.hid (HB6.out.trans (g6.mono HB6.out.size))
        clear g6 hD s0 s1 s2 q0 q1 q2 hbW
        cases nd
        case true =>
          have HK2 := Lib.hid (show keyIn key (List.take (i + 1) Q) = true by rw [HK.out]; rfl)
          go_wp2_with fail
          go_roundw
          case rel => exact ⟨i + 1, HLT.out, by go_num, by rw [HK2.out], HR7.out, HB7.out⟩
          case measure => have := HLT.out; simp [intOf]; omega
        case false =>
          by_cases he : pk = key
          · have HK2 := Lib.hid (show keyIn key (List.take (i + 1) Q) = true by rw [HK.out, decide_eq_true he]; rfl)
            clear HK
            subst he
            go_wp2_with fail
            go_roundw
            case rel => exact ⟨i + 1, HLT.out, by go_num, by rw [HK2.out], HR7.out, HB7.out⟩
            case measure => have := HLT.out; simp [intOf]; omega
          · have HK2 := Lib.hid (show keyIn key (List.take (i + 1) Q) = false by rw [HK.out, decide_eq_false he]; rfl)
            have e1 := ba_ne he
            have e2 := ba_ne' he
            go_wp2_with fail
            go_roundw
            case rel => exact ⟨i + 1, HLT.out, by go_num, by rw [HK2.out], HR7.out, HB7.out⟩
            case measure => have := HLT.out; simp [intOf]; omega
      case false =>
        simp only [Bool.false_eq_true, if_false, Option.getD_some, Option.isSome_some] at CG
        go_wp2_with fail
        refine CG.out.mono ?_
        rintro e w5 ⟨rfl, hb5⟩
        have HR5 := Lib.hid (HRr.out.later hb5)
        have HB5 := Lib.hid (HB.out.trans (hb5.mono HB.out.size))
        have r0 := (hb5.cell (p := ⟨bb, off + i * 3, none⟩) hb).trans p0
        have r1 := (hb5.cell (p := ⟨bb, off + i * 3 + 1, none⟩) hb).trans p1
        have r2 := (hb5.cell (p := ⟨bb, off + i * 3 + 2, none⟩) hb).trans p2
        have hb5' : bb < w5.heap.size := Nat.lt_of_lt_of_le hb hb5.size
        clear hb5 CG p0 p1 p2
        go_wp2_with fail
        generalize hW : w5.alloc (.cells #[.string pk, .string pv, .int .u64 (ver : Nat)] 26) = W5
        obtain ⟨g5, B5⟩ := robox hW
        obtain ⟨x5, hx5⟩ : ∃ x, w5.heap.size = x := ⟨_, rfl⟩
        have s0 := (g5.cell (p := ⟨bb, off + i * 3, none⟩) hb5').trans r0
        have s1 := (g5.cell (p := ⟨bb, off + i * 3 + 1, none⟩) hb5').trans r1
        have s2 := (g5.cell (p := ⟨bb, off + i * 3 + 2, none⟩) hb5').trans r2
        have HR6 := Lib.hid (HR5.out.later g5)
        have HB6 := Lib.hid (HB5.out.trans (g5.mono HB5.out.size))
        rw [hx5] at B5 ⊢
        obtain ⟨_, q0, q1, q2⟩ := B5
        have hbW : bb < W5.heap.size := Nat.lt_of_lt_of_le hb5' g5.size
        clear g5 hW hx5 hb5' r0 r1 r2
        go_quiet (fail)
        generalize hD : W5.drewN _ = W6
        have g6 : Below W5.heap.size W5 W6 := by rw [← hD]; exact below_drewN (Below.refl _ _) _
        have t0 := (g6.cell (p := ⟨bb, off + i * 3, none⟩) hbW).trans s0
        have HR7 := Lib.hid (HR6.out.later g6)
        have HB7 := Lib.hid (HB6.out.trans (g6.mono HB6.out.size))
        clear g6 hD s0 s1 s2 q0 q1 q2 hbW
        cases nd
        case true =>
          have HK2 := Lib.hid (show keyIn key (List.take (i + 1) Q) = true by rw [HK.out]; rfl)
          go_wp2_with fail
          go_roundw
          case rel => exact ⟨i + 1, HLT.out, by go_num, by rw [HK2.out], HR7.out, HB7.out⟩
          case measure => have := HLT.out; simp [intOf]; omega
        case false =>
          by_cases he : pk = key
          · have HK2 := Lib.hid (show keyIn key (List.take (i + 1) Q) = true by rw [HK.out, decide_eq_true he]; rfl)
            clear HK
            subst he
            go_wp2_with fail
            go_roundw
            case rel => exact ⟨i + 1, HLT.out, by go_num, by rw [HK2.out], HR7.out, HB7.out⟩
            case measure => have := HLT.out; simp [intOf]; omega
          · have HK2 := Lib.hid (show keyIn key (List.take (i + 1) Q) = false by rw [HK.out, decide_eq_false he]; rfl)
            have e1 := ba_ne he
            have e2 := ba_ne' he
            go_wp2_with fail
            go_roundw
            case rel => exact ⟨i + 1, HLT.out, by go_num, by rw [HK2.out], HR7.out, HB7.out⟩
            case measure => have := HLT.out; simp [intOf]; omega
    · have i1 : ¬ (i : Int) < (m : Int) := by omega
      have ht : Q.take i = Q := List.take_of_length_le (by rw [HJ.out.hlen]; omega)
      have CL := Lib.hid (HG.out wr HB.out)
      have CM := HGM.out key hk M HMR.out a1 c1
      have HP3 := HP2.out key
      obtain ⟨nd, hnd⟩ : ∃ x, keyIn key (Q.take i) = x := ⟨_, rfl⟩
      obtain ⟨gL, hgL⟩ : ∃ x, getR key L = x := ⟨_, rfl⟩
      obtain ⟨gM, hgM⟩ : ∃ x, getR key M = x := ⟨_, rfl⟩
      rw [← ht, hnd, hgL, hgM] at HP3
      rw [hgL] at CL
      rw [hgM] at CM
      rw [hnd]
      have HP4 := Lib.hid HP3
      have HCM := Lib.hid CM
      obtain ⟨⟨xk, xv, xn⟩, hx⟩ : ∃ x, gL.getD z0 = x := ⟨_, rfl⟩
      obtain ⟨⟨yk, yv, yn⟩, hy⟩ : ∃ x, gM.getD z0 = x := ⟨_, rfl⟩
      obtain ⟨iL, hiL⟩ : ∃ x, gL.isSome = x := ⟨_, rfl⟩
      obtain ⟨iM, hiM⟩ : ∃ x, gM.isSome = x := ⟨_, rfl⟩
      have HEQ := Lib.hid (show nd = false → (yk = xk ∧ yv = xv ∧ yn = xn ∧ iM = iL) from fun h => by
        have e := HP3 h
        subst e
        rw [hx] at hy
        cases hy
        exact ⟨rfl, rfl, rfl, hiM.symm.trans hiL⟩)
      rw [hx, hiL] at CL
      rw [hy, hiM] at HCM
      clear HP3 HP4 CM hx hy hiL hiM hnd hgL hgM ht
      cases nd
      case true =>
        go_wp2_with fail
        refine CL.out.mono ?_
        rintro e w5 ⟨rfl, hb5⟩
        have HB5 := Lib.hid (HB.out.trans (hb5.mono HB.out.size))
        have HR5 := Lib.hid (HRr.out.later hb5)
        clear hb5
        go_wp2_with fail
        generalize hW : w5.alloc (.cells #[.string xk, .string xv, .int .u64 (xn : Nat)] 26) = W5
        obtain ⟨g5, B5⟩ := robox hW
        have HB6 := Lib.hid (HB5.out.trans (g5.mono HB5.out.size))
        have HR6 := Lib.hid (HR5.out.later g5)
        clear g5 hW B5
        refine (HCM.out _ HB6.out HR6.out).mono ?_
        rintro e w6 ⟨rfl, hb6⟩
        have HB7 := Lib.hid (HB6.out.trans (hb6.mono HB6.out.size))
        clear hb6
        go_wp2_with fail
        generalize hW : w6.alloc (.cells #[.string yk, .string yv, .int .u64 (yn : Nat)] 26) = W6
        obtain ⟨g6, B6⟩ := robox hW
        have HB8 := Lib.hid (HB7.out.trans (g6.mono HB7.out.size))
        clear g6 hW B6
        go_wp2_with fail
        go_ret
        exact ⟨by first | rfl | simp, HB8.out⟩
      case false =>
        obtain ⟨rfl, rfl, rfl, rfl⟩ := HEQ.out rfl
        clear HEQ
        go_wp2_with fail
        refine CL.out.mono ?_
        rintro e w5 ⟨rfl, hb5⟩
        have HB5 := Lib.hid (HB.out.trans (hb5.mono HB.out.size))
        have HR5 := Lib.hid (HRr.out.later hb5)
        clear hb5
        go_wp2_with fail
        generalize hW : w5.alloc (.cells #[.string yk, .string yv, .int .u64 (yn : Nat)] 26) = W5
        obtain ⟨g5, B5⟩ := robox hW
        obtain ⟨x5, hx5⟩ : ∃ x, w5.heap.size = x := ⟨_, rfl⟩
        have HB6 := Lib.hid (HB5.out.trans (g5.mono HB5.out.size))
        have HR6 := Lib.hid (HR5.out.later g5)
        rw [hx5] at B5 ⊢
        clear g5 hW hx5
        refine (HCM.out _ HB6.out HR6.out).mono ?_
        rintro e w6 ⟨rfl, hb6⟩
        have HB7 := Lib.hid (HB6.out.trans (hb6.mono HB6.out.size))
        have B6 := Lib.hid (B5.later hb6)
        clear hb6 B5
        obtain ⟨g6, D6⟩ := robox (w := w6) (k := yk) (v := yv) (n := yn) rfl
        have HB8 := Lib.hid (HB7.out.trans (g6.mono HB7.out.size))
        obtain ⟨_, p0, p1, p2⟩ := B6.out.later g6
        obtain ⟨_, q0, q1, q2⟩ := D6
        clear g6 B6
        go_wp2_with fail
        go_ret
        exact ⟨by first | rfl | simp, HB8.out⟩
end Go.Proofs.YtifdgjmbecilhaaDoor
