/- Several puts: the document's All. -/
import Derived.Test.YthgnecggdlamfaaUg
namespace Go.Proofs.Ythgnecggdlamfaa
open Go.RowKit

theorem seqR_app (ver : Nat) : ∀ (Q R : List Pu) (S : List Ro), seqR ver S (Q ++ R) = if (seqR ver S Q).2 = 0 then seqR ver (seqR ver S Q).1 R else ([], (seqR ver S Q).2)
  | [], R, S => by simp [seqR]
  | p :: r, R, S => by
    have e0 : seqR ver S (p :: r ++ R) = if (doR S p ver).2 = 0 then seqR ver (doR S p ver).1 (r ++ R) else ([], (doR S p ver).2) := rfl
    by_cases h : (doR S p ver).2 = 0
    · have e1 : seqR ver S (p :: r) = seqR ver (doR S p ver).1 r := if_pos h
      rw [e0, if_pos h, e1]; exact seqR_app ver r R _
    · have e1 : seqR ver S (p :: r) = ([], (doR S p ver).2) := if_neg h
      rw [e0, if_neg h, e1, if_neg h]
theorem doR_small {L : List Ro} {p : Pu} {ver : Nat} (h : smallR L) (hp : p.key.size ≤ 140737488351232 ∧ p.val.size ≤ 140737488351232) : smallR (doR L p ver).1 := by
  unfold doR
  split
  · intro x hx; simp at hx
  split
  · intro x hx; exact h x (mem_del hx)
  split
  · intro x hx
    rcases mem_set hx with e | e
    · rw [e]; exact hp
    · exact h x e
  split
  · intro x hx; simp at hx
  · intro x hx
    rcases mem_ins hx with e | e
    · rw [e]; exact hp
    · exact h x e
theorem doR_len32 (L : List Ro) (p : Pu) (ver : Nat) : (doR L p ver).1.length ≤ max L.length 32 := by
  unfold doR
  split
  · simp
  split
  · have := delR_len p.key L; simp only; omega
  split
  · simp only; rw [setR_len]; omega
  split
  · simp
  · simp only; rw [insR_len]; omega
/-- Which puts a turn does. -/
def sel (t : Nat) (p : Pu) : Bool := p.gone == decide (t = 0)
/-- What there is ahead of a turn. -/
def stA (ver : Nat) (L : List Ro) (P : List Pu) : Nat → List Ro × Nat
  | 0 => (L, 0)
  | t + 1 => seqR ver (stA ver L P t).1 (P.filter (sel t))
theorem allR_st (L : List Ro) (P : List Pu) (ver : Nat) (h : fitsX P = 0) : allR L P ver = if (stA ver L P 1).2 = 0 then stA ver L P 2 else ([], (stA ver L P 1).2) := by
  have e0 : (sel 0) = fun p : Pu => p.gone := by funext p; simp [sel]
  have e1 : (sel 1) = fun p : Pu => !p.gone := by funext p; simp [sel]
  unfold allR
  rw [if_neg (by omega)]
  simp only [stA, e0, e1]
theorem filter_split {P : List Pu} {i : Nat} {p : Pu} (f : Pu → Bool) (_ : P[i]? = some p) : P.filter f = (P.take (i + 1)).filter f ++ (P.drop (i + 1)).filter f := by
  rw [← List.filter_append, List.take_append_drop]
theorem take_filter {P : List Pu} {i : Nat} {p : Pu} (f : Pu → Bool) (hp : P[i]? = some p) : (P.take (i + 1)).filter f = (P.take i).filter f ++ if f p then [p] else [] := by
  obtain ⟨h1, rfl⟩ := List.getElem?_eq_some_iff.1 hp
  rw [List.take_succ_eq_append_getElem h1, List.filter_append]
  congr 1
  simp only [List.filter_cons, List.filter_nil]
/-- What All answers. -/
def AlP (w : World) (r : List Ro × Nat) (e : Ending) (w' : World) : Prop := ∃ (a : Option Addr) (c : Nat), e = .returned (.tuple #[.slice a r.1.length c, .int .i64 (r.2 : Nat)]) ∧ Ros w' a r.1 ∧ Below w.heap.size w w'
set_option maxRecDepth 100000 in
set_option maxHeartbeats 8000000 in
theorem rAll_any (n c m e ver : Nat) (a a2 : Option Addr) (L : List Ro) (P : List Pu) (hn : L.length = n) (hl : n * 40 ≤ 140737488351232) (hs : smallR L) (hm : P.length = m) (hl2 : m ≤ 140737488351232) (hsp : smallP P) (w : World) (hM : Ros w a L) (hP : Pus w a2 P) :
    Calls Try.prog 53 #[.slice a n c, .slice a2 m e, .int .u64 ver] w (AlP w (allR L P ver)) := by
  have HN := Lib.hid hn
  have HM := Lib.hid hM
  have HS := Lib.hid hs
  have HP := Lib.hid hP
  have HM2 := Lib.hid hm
  have HSP := Lib.hid hsp
  obtain ⟨f, hf⟩ : ∃ f, fitsX P = f := ⟨_, rfl⟩
  have HFX := Lib.hid hf
  by_cases hf0 : f = 0
  case neg =>
    have HF := Lib.hid (show ∀ w', Below w.heap.size w w' → AlP w (allR L P ver) (.returned (.tuple #[.slice none 0 0, .int .i64 (f : Nat)])) w' from fun w' hB => by
      have : allR L P ver = ([], f) := by unfold allR; rw [hf, if_pos hf0]
      rw [this]; exact ⟨none, 0, rfl, fun j x hx => by simp at hx, hB⟩)
    have g : ((f : Int) == 0) = false := by simp; omega
    have g2 : ((f : Int) != 0) = true := by simp; omega
    clear hn hM hs hP hm hsp hf hf0
    go_enter Try.func53, Try.ntmps53
    go_wp2_with fail
    refine (rFits_any m e a2 P HM2.out hl2 _ HP.out).mono ?_
    rintro e w2 ⟨rfl, hb2⟩
    rw [HFX.out]
    have HB := Lib.hid hb2
    clear hb2
    go_wp2_with fail
    go_ret2
    exact HF.out _ HB.out
  subst hf0
  have hall := allR_st L P ver hf
  have HALL := Lib.hid hall
  clear hn hM hs hP hm hsp hf hall
  go_enter Try.func53, Try.ntmps53
  go_wp2_with fail
  refine (rFits_any m e a2 P HM2.out hl2 _ HP.out).mono ?_
  rintro e w2 ⟨rfl, hb2⟩
  rw [HFX.out]
  have HB2 := Lib.hid hb2
  clear hb2
  go_wp2_with fail
  go_loopw [0, 9] (fun lv tv wr => ∃ (t : Nat) (M : List Ro) (a' : Option Addr) (c' : Nat), t ≤ 2 ∧ tv = .int .i64 t ∧ lv = .slice a' M.length c' ∧ stA ver L P t = (M, 0) ∧ (1 ≤ t → (stA ver L P 1).2 = 0) ∧ smallR M ∧ M.length ≤ max n 32 ∧ Ros wr a' M ∧ Below w.heap.size w wr) (fun _ tv _ => 2 - (intOf tv).toNat)
  case atStart => exact ⟨0, L, a, c, by omega, rfl, by rw [HN.out], rfl, fun h => by omega, HS.out, by rw [HN.out]; omega, HM.out.later HB2.out, HB2.out⟩
  case round =>
    obtain ⟨t, M, a', c', ht, rfl, rfl, hst, hst1, hsm, hlen, hMr, hB⟩ := hrel
    have HST := Lib.hid hst
    have HST1 := Lib.hid hst1
    have HSM := Lib.hid hsm
    have HLEN := Lib.hid hlen
    have HMR := Lib.hid hMr
    have HB := Lib.hid hB
    clear hst hst1 hsm hlen hMr hB
    by_cases ht2 : t < 2
    · have gt : (t : Int) < 2 := by omega
      go_wp2_with fail
      go_loopw [0, 10] (fun lv iv wx => ∃ (i : Nat) (M' : List Ro) (a' : Option Addr) (c' : Nat), i ≤ m ∧ iv = .int .i64 i ∧ lv = .slice a' M'.length c' ∧ seqR ver M ((P.take i).filter (sel t)) = (M', 0) ∧ smallR M' ∧ M'.length ≤ max n 32 ∧ Ros wx a' M' ∧ Below w.heap.size w wx) (fun _ iv _ => m - (intOf iv).toNat)
      case atStart => exact ⟨0, M, a', c', Nat.zero_le _, rfl, rfl, rfl, HSM.out, HLEN.out, HMR.out, HB.out⟩
      case round =>
        obtain ⟨i, M', a5, c5, hi, rfl, rfl, hse, hsm, hlen, hMr, hBx⟩ := hrel
        by_cases hlt : i < m
        · obtain ⟨p, hp⟩ : ∃ p, P[i]? = some p := ⟨_, List.getElem?_eq_getElem (by rw [HM2.out]; exact hlt)⟩
          have i0 : (0 : Int) ≤ (i : Int) := by omega
          have i1 : (i : Int) < (m : Int) := by omega
          obtain ⟨b, off, rfl, hb, p0, p1, p2⟩ := Pus.cells (HP.out.later hBx) hp
          have hps := HSP.out.at hp
          have htf := take_filter (sel t) hp
          have hfs := filter_split (sel t) hp
          obtain ⟨pk, pv, pg⟩ := p
          have hslt : ∀ tb : Bool, ((t : Int) == 0) = tb → sel t ⟨pk, pv, pg⟩ = (pg == tb) := fun tb h => by
            unfold sel
            have : decide (t = 0) = tb := by
              rw [← h]
              by_cases h0 : t = 0
              · simp [h0]
              · have h1 : ((t : Int) == 0) = false := by simp; omega
                rw [h1, decide_eq_false h0]
            rw [this]
          have HERR := Lib.hid (show ∀ (x : Nat) (w' : World), x ≠ 0 → seqR ver M ((P.take (i + 1)).filter (sel t)) = ([], x) → Below w.heap.size w w' → AlP w (allR L P ver) (.returned (.tuple #[.slice none 0 0, .int .i64 (x : Nat)])) w' from fun x w' hx h hB => by
            have hfull : seqR ver M (P.filter (sel t)) = ([], x) := by
              rw [hfs, seqR_app, h, if_neg hx]
            have hnext : stA ver L P (t + 1) = ([], x) := by
              show seqR ver (stA ver L P t).1 (P.filter (sel t)) = _
              rw [HST.out]; exact hfull
            have : allR L P ver = ([], x) := by
              rw [HALL.out]
              have ht01 : t = 0 ∨ t = 1 := by omega
              rcases ht01 with rfl | rfl
              · rw [hnext, if_neg hx]
              · rw [if_pos (HST1.out (Nat.le_refl _)), hnext]
            rw [this]; exact ⟨none, 0, rfl, fun j x hx => by simp at hx, hB⟩)
          obtain ⟨tb, htb⟩ : ∃ tb, ((t : Int) == 0) = tb := ⟨_, rfl⟩
          replace hslt := hslt tb htb
          cases pg
          case false =>
            cases tb
            case false =>
              have hsl1 : sel t ⟨pk, pv, false⟩ = true := by rw [hslt]; rfl
              have htf2 : (P.take (i + 1)).filter (sel t) = (P.take i).filter (sel t) ++ [⟨pk, pv, false⟩] := by rw [htf, hsl1]; rfl
              obtain ⟨D, hD⟩ : ∃ D, doR M' ⟨pk, pv, false⟩ ver = D := ⟨_, rfl⟩
              have hsq : seqR ver M ((P.take (i + 1)).filter (sel t)) = if D.2 = 0 then (D.1, 0) else ([], D.2) := by
                rw [htf2, seqR_app, hse, if_pos rfl]; simp only [seqR]; rw [hD]
              have hDs := doR_small (p := ⟨pk, pv, false⟩) (ver := ver) hsm hps
              have hDl := doR_len32 M' ⟨pk, pv, false⟩ ver
              rw [hD] at hDs hDl
              have C := Lib.hid (rDo_any M'.length c5 ver a5 M' ⟨pk, pv, false⟩ rfl (by omega) hsm hps.1 _ hMr)
              rw [hD] at C
              obtain ⟨D1, D2⟩ := D
              have HSQ := Lib.hid hsq
              have HDS := Lib.hid hDs
              have HDL := Lib.hid (show D1.length ≤ max n 32 from Nat.le_trans hDl (by omega))
              have HBX := Lib.hid hBx
              clear htf htf2 hfs hsl1 hslt hD hsq hDs hDl hse hsm hlen hMr hBx hp hps
              go_wp2_with fail
              refine C.out.mono ?_
              rintro e1 w5 ⟨a6, c6, rfl, hR6, _, hb5⟩
              have HR6 := Lib.hid hR6
              have HB6 := Lib.hid (HBX.out.trans (hb5.mono HBX.out.size))
              clear hR6 hb5 C
              by_cases hD0 : D2 = 0
              · subst hD0
                have HS3 := Lib.hid (show seqR ver M ((P.take (i + 1)).filter (sel t)) = (D1, 0) by rw [HSQ.out]; rfl)
                go_wp2_with fail
                go_roundw
                case rel => exact ⟨i + 1, D1, a6, c6, by omega, by go_num, rfl, HS3.out, HDS.out, HDL.out, HR6.out, HB6.out⟩
                case measure => simp [intOf]; omega
              · have g5 : ((D2 : Int) == 0) = false := by simp; omega
                have g6 : ((D2 : Int) != 0) = true := by simp; omega
                have HF := Lib.hid (HERR.out D2 w5 hD0 (by rw [HSQ.out, if_neg hD0]) HB6.out)
                clear hD0
                go_wp2_with fail
                go_ret2
                exact HF.out
            case true =>
              have hsl1 : sel t ⟨pk, pv, false⟩ = false := by rw [hslt]; rfl
              have HSQ := Lib.hid (show seqR ver M ((P.take (i + 1)).filter (sel t)) = (M', 0) by rw [htf, hsl1]; simpa using hse)
              have HSM2 := Lib.hid hsm
              have HLEN2 := Lib.hid hlen
              have HMR2 := Lib.hid hMr
              have HBX := Lib.hid hBx
              clear htf hfs hsl1 hslt hse hsm hlen hMr hBx hp hps
              go_wp2_with fail
              go_roundw
              case rel => exact ⟨i + 1, M', a5, c5, by omega, by go_num, rfl, HSQ.out, HSM2.out, HLEN2.out, HMR2.out, HBX.out⟩
              case measure => simp [intOf]; omega
          case true =>
            cases tb
            case false =>
              have hsl1 : sel t ⟨pk, pv, true⟩ = false := by rw [hslt]; rfl
              have HSQ := Lib.hid (show seqR ver M ((P.take (i + 1)).filter (sel t)) = (M', 0) by rw [htf, hsl1]; simpa using hse)
              have HSM2 := Lib.hid hsm
              have HLEN2 := Lib.hid hlen
              have HMR2 := Lib.hid hMr
              have HBX := Lib.hid hBx
              clear htf hfs hsl1 hslt hse hsm hlen hMr hBx hp hps
              go_wp2_with fail
              go_roundw
              case rel => exact ⟨i + 1, M', a5, c5, by omega, by go_num, rfl, HSQ.out, HSM2.out, HLEN2.out, HMR2.out, HBX.out⟩
              case measure => simp [intOf]; omega
            case true =>
              have hsl1 : sel t ⟨pk, pv, true⟩ = true := by rw [hslt]; rfl
              have htf2 : (P.take (i + 1)).filter (sel t) = (P.take i).filter (sel t) ++ [⟨pk, pv, true⟩] := by rw [htf, hsl1]; rfl
              obtain ⟨D, hD⟩ : ∃ D, doR M' ⟨pk, pv, true⟩ ver = D := ⟨_, rfl⟩
              have hsq : seqR ver M ((P.take (i + 1)).filter (sel t)) = if D.2 = 0 then (D.1, 0) else ([], D.2) := by
                rw [htf2, seqR_app, hse, if_pos rfl]; simp only [seqR]; rw [hD]
              have hDs := doR_small (p := ⟨pk, pv, true⟩) (ver := ver) hsm hps
              have hDl := doR_len32 M' ⟨pk, pv, true⟩ ver
              rw [hD] at hDs hDl
              have C := Lib.hid (rDo_any M'.length c5 ver a5 M' ⟨pk, pv, true⟩ rfl (by omega) hsm hps.1 _ hMr)
              rw [hD] at C
              obtain ⟨D1, D2⟩ := D
              have HSQ := Lib.hid hsq
              have HDS := Lib.hid hDs
              have HDL := Lib.hid (show D1.length ≤ max n 32 from Nat.le_trans hDl (by omega))
              have HBX := Lib.hid hBx
              clear htf htf2 hfs hsl1 hslt hD hsq hDs hDl hse hsm hlen hMr hBx hp hps
              go_wp2_with fail
              refine C.out.mono ?_
              rintro e1 w5 ⟨a6, c6, rfl, hR6, _, hb5⟩
              have HR6 := Lib.hid hR6
              have HB6 := Lib.hid (HBX.out.trans (hb5.mono HBX.out.size))
              clear hR6 hb5 C
              by_cases hD0 : D2 = 0
              · subst hD0
                have HS3 := Lib.hid (show seqR ver M ((P.take (i + 1)).filter (sel t)) = (D1, 0) by rw [HSQ.out]; rfl)
                go_wp2_with fail
                go_roundw
                case rel => exact ⟨i + 1, D1, a6, c6, by omega, by go_num, rfl, HS3.out, HDS.out, HDL.out, HR6.out, HB6.out⟩
                case measure => simp [intOf]; omega
              · have g5 : ((D2 : Int) == 0) = false := by simp; omega
                have g6 : ((D2 : Int) != 0) = true := by simp; omega
                have HF := Lib.hid (HERR.out D2 w5 hD0 (by rw [HSQ.out, if_neg hD0]) HB6.out)
                clear hD0
                go_wp2_with fail
                go_ret2
                exact HF.out
        · have i1 : ¬ (i : Int) < (m : Int) := by omega
          have hnext : stA ver L P (t + 1) = (M', 0) := by
            show seqR ver (stA ver L P t).1 (P.filter (sel t)) = _
            rw [HST.out]
            rw [List.take_of_length_le (by rw [HM2.out]; omega)] at hse
            exact hse
          have HNX := Lib.hid hnext
          have HN1 := Lib.hid (show 1 ≤ t + 1 → (stA ver L P 1).2 = 0 from fun _ => by
            rcases Nat.eq_zero_or_pos t with rfl | h
            · rw [hnext]
            · exact HST1.out h)
          have HSM2 := Lib.hid hsm
          have HLEN2 := Lib.hid hlen
          have HMR2 := Lib.hid hMr
          have HBX := Lib.hid hBx
          clear hnext hse hsm hlen hMr hBx
          go_wp2_with fail
          go_roundw
          case rel => exact ⟨t + 1, M', a5, c5, by omega, by go_num, rfl, HNX.out, HN1.out, HSM2.out, HLEN2.out, HMR2.out, HBX.out⟩
          case measure => simp [intOf]; omega
    · have gt : ¬ (t : Int) < 2 := by omega
      have ht22 : t = 2 := by omega
      have HF := Lib.hid (show AlP w (allR L P ver) (.returned (.tuple #[.slice a' M.length c', .int .i64 0])) wr by
        have h2 := HST.out
        rw [ht22] at h2
        have : allR L P ver = (M, 0) := by rw [HALL.out, if_pos (HST1.out (by omega)), h2]
        rw [this]; exact ⟨a', c', rfl, HMR.out, HB.out⟩)
      clear ht22
      go_wp2_with fail
      go_ret2
      exact HF.out
end Go.Proofs.Ythgnecggdlamfaa
