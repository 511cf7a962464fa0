/- Several puts: the document's All. -/
import Derived.Test.YthgnecggdlamfaaGreatUg
import Derived.Test.YthgnecggdlamfaaGreatHb
import Derived.Test.YthgnecggdlamfaaGreatHj
namespace Go.Proofs.YthgnecggdlamfaaGreat
open Go.RowKit

theorem seqR_app (ver : Nat) : ∀ (Q R : List Pu) (S : List Ro), seqR ver S (Q ++ R) = if (seqR ver S Q).2 = 0 then seqR ver (seqR ver S Q).1 R else ([], (seqR ver S Q).2)
  | [], R, S => by simp [seqR]
  | p :: r, R, S => by
    have e0 : seqR ver S (p :: r ++ R) = if (doR S p ver).2 = 0 then seqR ver (doR S p ver).1 (r ++ R) else ([], (doR S p ver).2) := rfl
    by_cases h : (doR S p ver).2 = 0
    · have e1 : seqR ver S (p :: r) = seqR ver (doR S p ver).1 r := if_pos h
      rw [e0, if_pos h, e1]; exact seqR_app ver r R _
    · have e1 : seqR ver S (p :: r) = ([], (doR S p ver).2) := if_neg h
      rw [e0, if_neg h, e1, if_neg h]
theorem doR_small {L : List Ro} {p : Pu} {ver : Nat} (h : smallR L) (hp : p.key.size ≤ 140737488351232 ∧ p.val.size ≤ 140737488351232) : smallR (doR L p ver).1 := by
  unfold doR
  split
  · intro x hx; simp at hx
  split
  · intro x hx; exact h x (mem_del hx)
  split
  · intro x hx
    rcases mem_set hx with e | e
    · rw [e]; exact hp
    · exact h x e
  split
  · intro x hx; simp at hx
  · intro x hx
    rcases mem_ins hx with e | e
    · rw [e]; exact hp
    · exact h x e
theorem doR_len32 (L : List Ro) (p : Pu) (ver : Nat) : (doR L p ver).1.length ≤ max L.length 32 := by
  unfold doR
  split
  · simp
  split
  · have := delR_len p.key L; simp only; omega
  split
  · simp only; rw [setR_len]; omega
  split
  · simp
  · simp only; rw [insR_len]; omega
/-- Which puts a turn does. -/
def sel (t : Nat) (p : Pu) : Bool := p.gone == decide (t = 0)
/-- What there is ahead of a turn. -/
def stA (ver : Nat) (L : List Ro) (P : List Pu) : Nat → List Ro × Nat
  | 0 => (L, 0)
  | t + 1 => seqR ver (stA ver L P t).1 (P.filter (sel t))
theorem allR_st (L : List Ro) (P : List Pu) (ver : Nat) (h : fitsX P = 0) : allR L P ver = if (stA ver L P 1).2 = 0 then stA ver L P 2 else ([], (stA ver L P 1).2) := by
  have e0 : (sel 0) = fun p : Pu => p.gone := by funext p; simp [sel]
  have e1 : (sel 1) = fun p : Pu => !p.gone := by funext p; simp [sel]
  unfold allR
  rw [if_neg (by omega)]
  simp only [stA, e0, e1]
theorem filter_split {P : List Pu} {i : Nat} {p : Pu} (f : Pu → Bool) (_ : P[i]? = some p) : P.filter f = (P.take (i + 1)).filter f ++ (P.drop (i + 1)).filter f := by
  rw [← List.filter_append, List.take_append_drop]
theorem take_filter {P : List Pu} {i : Nat} {p : Pu} (f : Pu → Bool) (hp : P[i]? = some p) : (P.take (i + 1)).filter f = (P.take i).filter f ++ if f p then [p] else [] := by
  obtain ⟨h1, rfl⟩ := List.getElem?_eq_some_iff.1 hp
  rw [List.take_succ_eq_append_getElem h1, List.filter_append]
  congr 1
  simp only [List.filter_cons, List.filter_nil]
/-- What All answers. -/
def AlP (w : World) (r : List Ro × Nat) (e : Ending) (w' : World) : Prop := ∃ (a : Option Addr) (c : Nat), e = .returned (.tuple #[.slice a r.1.length c, .int .i64 (r.2 : Nat)]) ∧ Ros w' a r.1 ∧ Below w.heap.size w w'
end Go.Proofs.YthgnecggdlamfaaGreat
/- One put: the program's Do. -/
namespace Go.Proofs.YthgnecggdlamfaaGreat
open Go.RowKit

/-- What Do, All answer: a list of the call's own. -/
def AlQ (w : World) (r : List Ro × Nat) (e : Ending) (w' : World) : Prop := ∃ (a : Option Addr) (c : Nat), e = .returned (.tuple #[.slice a r.1.length c, .int .i64 (r.2 : Nat)]) ∧ Ros w' a r.1 ∧ ((0 < r.1.length → ∀ q, a = some q → w.heap.size ≤ q.block) ∧ r.1.length ≤ c ∧ c ≤ maxLen) ∧ Below w.heap.size w w'
set_option maxRecDepth 100000 in
set_option maxHeartbeats 4000000 in
theorem pDo_any (n c ver : Nat) (a : Option Addr) (L : List Ro) (p : Pu) (hn : L.length = n) (hl : n * 40 ≤ 140737488351232) (hpk : p.key.size ≤ 140737488351232) (hpv : p.val.size ≤ 140737488351232) (w : World) (hM : Ros w a L) :
    Calls Tryz.prog 87 #[.slice a n c, puV p, .int .u64 ver] w (AlQ w (doR L p ver)) := by
  have HN := Lib.hid hn
  obtain ⟨pk, pv, pg⟩ := p
  simp only at hpk hpv
  obtain ⟨W, hW⟩ : ∃ W, w.alloc (.cells #[.string pk, .string pv, .bool pg] 35) = W := ⟨_, rfl⟩
  obtain ⟨x4, hx4⟩ : ∃ x4, w.heap.size = x4 := ⟨_, rfl⟩
  have HR : B3 W x4 (.string pk) (.string pv) (.bool pg) := hW ▸ B3.new hx4.symm _ _ _ _
  have B1 : Below w.heap.size w W := hW ▸ (Below.refl _ _).alloc (Nat.le_refl _) _
  obtain ⟨W2, hW2⟩ : ∃ W2, W.alloc (.cells #[.string pk, .string pv, .bool pg] 35) = W2 := ⟨_, rfl⟩
  obtain ⟨x10, hx10⟩ : ∃ x10, W.heap.size = x10 := ⟨_, rfl⟩
  have B2 : Below W.heap.size W W2 := hW2 ▸ (Below.refl _ _).alloc (Nat.le_refl _) _
  have HP1 := Lib.hid (show Pus W2 (some ⟨x10, 0, none⟩) [⟨pk, pv, pg⟩] from by rw [← hW2]; exact rw_one (f := puC) _ hx10.symm (⟨pk, pv, pg⟩ : Pu) rfl 35)
  have HB2 := Lib.hid (B1.trans (B2.mono B1.size))
  have HR2 := Lib.hid (HR.later B2)
  have HM2 := Lib.hid ((hM.later B1).later B2)
  obtain ⟨f, hf⟩ : ∃ f, fitsX [⟨pk, pv, pg⟩] = f := ⟨_, rfl⟩
  have HFX := Lib.hid (fun w1 h1 => pFits_any 1 1 (some ⟨x10, 0, none⟩) [⟨pk, pv, pg⟩] rfl (by omega) (fun x hx => by simp only [List.mem_singleton] at hx; subst hx; exact ⟨hpk, hpv⟩) w1 h1)
  rw [hf] at HFX
  have hfin : ∀ (M : List Ro) (k : Nat), doR L ⟨pk, pv, pg⟩ ver = (M, k) → ∀ (a : Option Addr) (c : Nat) (w' : World), Ros w' a M → ((0 < M.length → ∀ q, a = some q → w.heap.size ≤ q.block) ∧ M.length ≤ c ∧ c ≤ maxLen) → Below w.heap.size w w' → AlQ w (doR L ⟨pk, pv, pg⟩ ver) (.returned (.tuple #[.slice a M.length c, .int .i64 (k : Nat)])) w' := fun M k e a c w' h1 h3 h2 => by rw [e]; exact ⟨a, c, rfl, h1, h3, h2⟩
  have HF := Lib.hid hfin
  obtain ⟨c0, c1, c2, lt⟩ := HR
  clear hM B1 B2 hn hfin
  unfold puV
  by_cases hf0 : f = 0
  case neg =>
    have HE := Lib.hid (fun w' h => HF.out [] f (by unfold doR; rw [hf, if_pos hf0]) none 0 w' (fun j x hx => by simp at hx) ⟨fun h => by simp at h, Nat.le_refl _, by decide⟩ h)
    have g : ((f : Int) == 0) = false := by simp; omega
    have g2 : ((f : Int) != 0) = true := by simp; omega
    clear hf hf0
    go_enter Tryz.func87, Tryz.ntmps87
    go_wp2_with fail
    refine (HFX.out _ HP1.out).mono ?_
    rintro e w3 ⟨rfl, hb3⟩
    have HB3 := Lib.hid (HB2.out.trans (hb3.mono HB2.out.size))
    clear hb3
    go_wp2_with fail
    go_ret2
    exact HE.out _ HB3.out
  subst hf0
  have HD := Lib.hid (show doR L ⟨pk, pv, pg⟩ ver = if pg then (delR pk L, 0) else withR L ⟨pk, pv, ver⟩ by unfold doR; rw [hf, if_neg (by omega)]; rfl)
  clear hf
  go_enter Tryz.func87, Tryz.ntmps87
  go_wp2_with fail
  refine (HFX.out _ HP1.out).mono ?_
  rintro e w3 ⟨rfl, hb3⟩
  have HB3 := Lib.hid (HB2.out.trans (hb3.mono HB2.out.size))
  have HM3 := Lib.hid (HM2.out.later hb3)
  obtain ⟨e0, e1, e2, _⟩ := HR2.out.later hb3
  clear hb3 c0 c1 c2
  cases pg
  · go_wp2_with fail
    refine (with_any ⟨pk, pv, ver⟩ n c a L HN.out hl w3 HM3.out).mono ?_
    rintro e w4 ⟨a4, c4, rfl, hR4, hl4, hc4, hm4, hb4⟩
    have HE := Lib.hid (HF.out (withR L ⟨pk, pv, ver⟩).1 (withR L ⟨pk, pv, ver⟩).2 (by rw [HD.out]; rfl) a4 c4 w4 hR4 ⟨fun h q hq => Nat.le_trans HB3.out.size (hl4 h q hq), hc4, hm4⟩ (HB3.out.trans (hb4.mono HB3.out.size)))
    clear hR4 hb4 HF HD hl4 hc4 hm4
    generalize (withR L ⟨pk, pv, ver⟩).1.length = m4 at *
    generalize (withR L ⟨pk, pv, ver⟩).2 = k4 at *
    go_wp2_with fail
    go_ret2
    exact HE.out
  · go_wp2_with fail
    refine (without_any pk n c a L HN.out hl w3 HM3.out).mono ?_
    rintro e w4 ⟨a4, c4, rfl, hR4, hl4, hc4, hm4, hb4⟩
    have HE := Lib.hid (HF.out (delR pk L) 0 (by rw [HD.out]; rfl) a4 c4 w4 hR4 ⟨fun h q hq => Nat.le_trans HB3.out.size (hl4 h q hq), hc4, hm4⟩ (HB3.out.trans (hb4.mono HB3.out.size)))
    clear hR4 hb4 HF HD hl4 hc4 hm4
    generalize (delR pk L).length = m4 at *
    go_wp2_with fail
    go_ret2
    exact HE.out
end Go.Proofs.YthgnecggdlamfaaGreat
/- Several puts: the program's All. -/
namespace Go.Proofs.YthgnecggdlamfaaGreat
open Go.RowKit

/-- A list of the call's own, no longer than its room. -/
def NwR (B : Nat) (a : Option Addr) (c : Nat) (M : List Ro) : Prop := (0 < M.length → ∀ q, a = some q → B ≤ q.block) ∧ M.length ≤ c ∧ c ≤ maxLen
/-- The two turns' flags. -/
structure Gf (w : World) (x : Nat) : Prop where
  c0 : w.cell? ⟨x, 0, none⟩ = some (.bool true)
  c1 : w.cell? ⟨x, 1, none⟩ = some (.bool false)
  lt : x < w.heap.size
theorem Gf.later {w w' : World} {x : Nat} (h : Gf w x) (hb : Below w.heap.size w w') : Gf w' x :=
  ⟨(hb.cell (p := ⟨x, 0, none⟩) h.lt).trans h.c0, (hb.cell (p := ⟨x, 1, none⟩) h.lt).trans h.c1, Nat.lt_of_lt_of_le h.lt hb.size⟩
theorem Gf.at {w : World} {x t : Nat} {tb : Bool} (h : Gf w x) (ht : t < 2) (hb : decide (t = 0) = tb) : w.cell? ⟨x, t, none⟩ = some (.bool tb) := by
  subst hb
  have : t = 0 ∨ t = 1 := by omega
  rcases this with rfl | rfl
  · exact h.c0
  · exact h.c1
set_option maxRecDepth 100000 in
set_option maxHeartbeats 8000000 in
theorem pAll_any (n c m e ver : Nat) (a a2 : Option Addr) (L : List Ro) (P : List Pu) (hn : L.length = n) (hl : n * 40 ≤ 140737488351232) (hs : smallR L) (hm : P.length = m) (hl2 : m ≤ 140737488351232) (hsp : smallP P) (w : World) (hM : Ros w a L) (hP : Pus w a2 P) :
    Calls Tryz.prog 70 #[.slice a n c, .slice a2 m e, .int .u64 ver] w (AlQ w (allR L P ver)) := by
  have HN := Lib.hid hn
  have HM := Lib.hid hM
  have HS := Lib.hid hs
  have HP := Lib.hid hP
  have HM2 := Lib.hid hm
  have HSP := Lib.hid hsp
  obtain ⟨f, hf⟩ : ∃ f, fitsX P = f := ⟨_, rfl⟩
  have HFX := Lib.hid hf
  by_cases hf0 : f = 0
  case neg =>
    have HF := Lib.hid (show ∀ w', Below w.heap.size w w' → AlQ w (allR L P ver) (.returned (.tuple #[.slice none 0 0, .int .i64 (f : Nat)])) w' from fun w' hB => by
      have : allR L P ver = ([], f) := by unfold allR; rw [hf, if_pos hf0]
      rw [this]; exact ⟨none, 0, rfl, fun j x hx => by simp at hx, ⟨fun h => by simp at h, Nat.le_refl _, by decide⟩, hB⟩)
    have g : ((f : Int) == 0) = false := by simp; omega
    have g2 : ((f : Int) != 0) = true := by simp; omega
    clear hn hM hs hP hm hsp hf hf0
    go_enter Tryz.func70, Tryz.ntmps70
    go_wp2_with fail
    refine (pFits_any m e a2 P HM2.out hl2 HSP.out _ HP.out).mono ?_
    rintro e w2 ⟨rfl, hb2⟩
    rw [HFX.out]
    have HB := Lib.hid hb2
    clear hb2
    go_wp2_with fail
    go_ret2
    exact HF.out _ HB.out
  subst hf0
  have hall := allR_st L P ver hf
  have HALL := Lib.hid hall
  clear hn hM hs hP hm hsp hf hall
  go_enter Tryz.func70, Tryz.ntmps70
  go_wp2_with fail
  refine (pFits_any m e a2 P HM2.out hl2 HSP.out _ HP.out).mono ?_
  rintro e w2 ⟨rfl, hb2⟩
  rw [HFX.out]
  have HB2 := Lib.hid hb2
  clear hb2
  go_wp2_with fail
  refine (cloneR_any n c a L HN.out (by omega) _ (HM.out.later HB2.out)).mono ?_
  rintro e w3 ⟨v3, rfl, hc3, hb3⟩
  obtain ⟨a3, c3, rfl, hR3, hl3, hq3, hm3⟩ := hc3.form roT
  have HQ3 := Lib.hid (show NwR w.heap.size a3 c3 L from ⟨fun h q hq => Nat.le_trans HB2.out.size (hl3 h q hq), hq3, hm3⟩)
  clear hl3 hq3 hm3
  obtain ⟨W4, hW4⟩ : ∃ W4, w3.alloc (.cells #[.bool true, .bool false] 4) = W4 := ⟨_, rfl⟩
  obtain ⟨x22, hx22⟩ : ∃ x22, w3.heap.size = x22 := ⟨_, rfl⟩
  have B4 : Below w3.heap.size w3 W4 := hW4 ▸ (Below.refl _ _).alloc (Nat.le_refl _) _
  have HG4 := Lib.hid (show Gf W4 x22 from by rw [← hW4, ← hx22]; exact ⟨by simp [go_sem], by simp [go_sem], by simp⟩)
  have HB4 := Lib.hid ((HB2.out.trans (hb3.mono HB2.out.size)).trans (B4.mono (Nat.le_trans HB2.out.size hb3.size)))
  have HR4 := Lib.hid (hR3.later B4)
  clear hc3 hR3 hb3 B4
  go_wp2_with fail
  go_loopw [9, 24] (fun lv tv wr => ∃ (t : Nat) (M : List Ro) (a' : Option Addr) (c' : Nat), t ≤ 2 ∧ tv = .int .i64 t ∧ lv = .slice a' M.length c' ∧ stA ver L P t = (M, 0) ∧ (1 ≤ t → (stA ver L P 1).2 = 0) ∧ smallR M ∧ M.length ≤ max n 32 ∧ Ros wr a' M ∧ NwR w.heap.size a' c' M ∧ Gf wr x22 ∧ Below w.heap.size w wr) (fun _ tv _ => 2 - (intOf tv).toNat)
  case atStart => exact ⟨0, L, a3, c3, by omega, rfl, rfl, rfl, fun h => by omega, HS.out, by rw [HN.out]; omega, HR4.out, HQ3.out, HG4.out, HB4.out⟩
  case round =>
    obtain ⟨t, M, a', c', ht, rfl, rfl, hst, hst1, hsm, hlen, hMr, hQ, hG, hB⟩ := hrel
    have HQ := Lib.hid hQ
    clear hQ
    have HST := Lib.hid hst
    have HST1 := Lib.hid hst1
    have HSM := Lib.hid hsm
    have HLEN := Lib.hid hlen
    have HMR := Lib.hid hMr
    have HG := Lib.hid hG
    have HB := Lib.hid hB
    clear hst hst1 hsm hlen hMr hB hG
    by_cases ht2 : t < 2
    · have gt : (t : Int) < 2 := by omega
      have gt0 : (0 : Int) ≤ (t : Int) := by omega
      obtain ⟨tb, htb⟩ : ∃ tb, decide (t = 0) = tb := ⟨_, rfl⟩
      have gc := HG.out.at ht2 htb
      have HTB := Lib.hid htb
      clear htb
      go_wp2_with fail
      clear gc
      go_loopw [9, 30] (fun lv iv wx => ∃ (i : Nat) (M' : List Ro) (a' : Option Addr) (c' : Nat), i ≤ m ∧ iv = .int .i64 i ∧ lv = .slice a' M'.length c' ∧ seqR ver M ((P.take i).filter (sel t)) = (M', 0) ∧ smallR M' ∧ M'.length ≤ max n 32 ∧ Ros wx a' M' ∧ NwR w.heap.size a' c' M' ∧ Gf wx x22 ∧ Below w.heap.size w wx) (fun _ iv _ => m - (intOf iv).toNat)
      case atStart => exact ⟨0, M, a', c', Nat.zero_le _, rfl, rfl, rfl, HSM.out, HLEN.out, HMR.out, HQ.out, HG.out, HB.out⟩
      case round =>
        obtain ⟨i, M', a5, c5, hi, rfl, rfl, hse, hsm, hlen, hMr, hQx, hGx, hBx⟩ := hrel
        have HQX := Lib.hid hQx
        clear hQx
        by_cases hlt : i < m
        · obtain ⟨p, hp⟩ : ∃ p, P[i]? = some p := ⟨_, List.getElem?_eq_getElem (by rw [HM2.out]; exact hlt)⟩
          have i0 : (0 : Int) ≤ (i : Int) := by omega
          have i1 : (i : Int) < (m : Int) := by omega
          obtain ⟨b, off, rfl, hb, p0, p1, p2⟩ := Pus.cells (HP.out.later hBx) hp
          have hps := HSP.out.at hp
          have htf := take_filter (sel t) hp
          have hfs := filter_split (sel t) hp
          obtain ⟨pk, pv, pg⟩ := p
          simp only at p0 p1 p2
          have hslt : sel t ⟨pk, pv, pg⟩ = (pg == tb) := by unfold sel; rw [HTB.out]
          obtain ⟨W5, hW5⟩ : ∃ W5, wr.alloc (.cells #[.string pk, .string pv, .bool pg] 35) = W5 := ⟨_, rfl⟩
          obtain ⟨x13, hx13⟩ : ∃ x13, wr.heap.size = x13 := ⟨_, rfl⟩
          have B5 : Below wr.heap.size wr W5 := hW5 ▸ (Below.refl _ _).alloc (Nat.le_refl _) _
          obtain ⟨v0, v1, v2, _⟩ : B3 W5 x13 (.string pk) (.string pv) (.bool pg) := hW5 ▸ B3.new hx13.symm _ _ _ _
          replace hMr := hMr.later B5
          replace hGx := hGx.later B5
          replace hBx := hBx.trans (B5.mono hBx.size)
          clear B5
          have HERR := Lib.hid (show ∀ (x : Nat) (w' : World), x ≠ 0 → seqR ver M ((P.take (i + 1)).filter (sel t)) = ([], x) → Below w.heap.size w w' → AlQ w (allR L P ver) (.returned (.tuple #[.slice none 0 0, .int .i64 (x : Nat)])) w' from fun x w' hx h hB => by
            have hfull : seqR ver M (P.filter (sel t)) = ([], x) := by
              rw [hfs, seqR_app, h, if_neg hx]
            have hnext : stA ver L P (t + 1) = ([], x) := by
              show seqR ver (stA ver L P t).1 (P.filter (sel t)) = _
              rw [HST.out]; exact hfull
            have : allR L P ver = ([], x) := by
              rw [HALL.out]
              have ht01 : t = 0 ∨ t = 1 := by omega
              rcases ht01 with rfl | rfl
              · rw [hnext, if_neg hx]
              · rw [if_pos (HST1.out (Nat.le_refl _)), hnext]
            rw [this]; exact ⟨none, 0, rfl, fun j x hx => by simp at hx, ⟨fun h => by simp at h, Nat.le_refl _, by decide⟩, hB⟩)
          by_cases hpt : pg = tb
          case pos =>
            subst hpt
            have hsl1 : sel t ⟨pk, pv, pg⟩ = true := by rw [hslt]; simp
            have htf2 : (P.take (i + 1)).filter (sel t) = (P.take i).filter (sel t) ++ [⟨pk, pv, pg⟩] := by rw [htf, hsl1]; rfl
            obtain ⟨D, hD⟩ : ∃ D, doR M' ⟨pk, pv, pg⟩ ver = D := ⟨_, rfl⟩
            have hsq : seqR ver M ((P.take (i + 1)).filter (sel t)) = if D.2 = 0 then (D.1, 0) else ([], D.2) := by
              rw [htf2, seqR_app, hse, if_pos rfl]; simp only [seqR]; rw [hD]
            have hDs := doR_small (p := ⟨pk, pv, pg⟩) (ver := ver) hsm hps
            have hDl := doR_len32 M' ⟨pk, pv, pg⟩ ver
            rw [hD] at hDs hDl
            have C := Lib.hid (pDo_any M'.length c5 ver a5 M' ⟨pk, pv, pg⟩ rfl (by omega) hps.1 hps.2 W5 hMr)
            rw [hD] at C
            obtain ⟨D1, D2⟩ := D
            have HSQ := Lib.hid hsq
            have HDS := Lib.hid hDs
            have HDL := Lib.hid (show D1.length ≤ max n 32 from Nat.le_trans hDl (by omega))
            have HBX := Lib.hid hBx
            have HGX := Lib.hid hGx
            clear htf htf2 hfs hsl1 hslt hD hsq hDs hDl hse hsm hlen hMr hBx hp hps hGx
            go_wp2_with fail
            refine C.out.mono ?_
            rintro e1 w5 ⟨a6, c6, rfl, hR6, hq6, hb5⟩
            have HQ6 := Lib.hid (show NwR w.heap.size a6 c6 D1 from ⟨fun h q hq => Nat.le_trans HBX.out.size (hq6.1 h q hq), hq6.2⟩)
            clear hq6
            have HR6 := Lib.hid hR6
            have HB6 := Lib.hid (HBX.out.trans (hb5.mono HBX.out.size))
            have HG6 := Lib.hid (HGX.out.later hb5)
            clear hR6 hb5 C
            by_cases hD0 : D2 = 0
            · subst hD0
              have HS3 := Lib.hid (show seqR ver M ((P.take (i + 1)).filter (sel t)) = (D1, 0) by rw [HSQ.out]; rfl)
              go_wp2_with fail
              go_roundw
              case rel => exact ⟨i + 1, D1, a6, c6, by omega, by go_num, rfl, HS3.out, HDS.out, HDL.out, HR6.out, HQ6.out, HG6.out, HB6.out⟩
              case measure => simp [intOf]; omega
            · have g5 : ((D2 : Int) == 0) = false := by simp; omega
              have g6 : ((D2 : Int) != 0) = true := by simp; omega
              have HF := Lib.hid (HERR.out D2 w5 hD0 (by rw [HSQ.out, if_neg hD0]) HB6.out)
              clear hD0
              go_wp2_with fail
              go_ret2
              exact HF.out
          case neg =>
            have g7 : (pg == tb) = false := by simpa using hpt
            have g8 : (pg != tb) = true := by simpa using hpt
            have hsl1 : sel t ⟨pk, pv, pg⟩ = false := by rw [hslt]; exact g7
            have HSQ := Lib.hid (show seqR ver M ((P.take (i + 1)).filter (sel t)) = (M', 0) by rw [htf, hsl1]; simpa using hse)
            have HSM2 := Lib.hid hsm
            have HLEN2 := Lib.hid hlen
            have HMR2 := Lib.hid hMr
            have HBX := Lib.hid hBx
            have HGX := Lib.hid hGx
            clear htf hfs hsl1 hslt hse hsm hlen hMr hBx hp hps hGx
            go_wp2_with fail
            go_roundw
            case rel => exact ⟨i + 1, M', a5, c5, by omega, by go_num, rfl, HSQ.out, HSM2.out, HLEN2.out, HMR2.out, HQX.out, HGX.out, HBX.out⟩
            case measure => simp [intOf]; omega
        · have i1 : ¬ (i : Int) < (m : Int) := by omega
          have hnext : stA ver L P (t + 1) = (M', 0) := by
            show seqR ver (stA ver L P t).1 (P.filter (sel t)) = _
            rw [HST.out]
            rw [List.take_of_length_le (by rw [HM2.out]; omega)] at hse
            exact hse
          have HNX := Lib.hid hnext
          have HN1 := Lib.hid (show 1 ≤ t + 1 → (stA ver L P 1).2 = 0 from fun _ => by
            rcases Nat.eq_zero_or_pos t with rfl | h
            · rw [hnext]
            · exact HST1.out h)
          have HSM2 := Lib.hid hsm
          have HLEN2 := Lib.hid hlen
          have HMR2 := Lib.hid hMr
          have HBX := Lib.hid hBx
          have HGX := Lib.hid hGx
          clear hnext hse hsm hlen hMr hBx hGx
          go_wp2_with fail
          go_roundw
          case rel => exact ⟨t + 1, M', a5, c5, by omega, by go_num, rfl, HNX.out, HN1.out, HSM2.out, HLEN2.out, HMR2.out, HQX.out, HGX.out, HBX.out⟩
          case measure => simp [intOf]; omega
    · have gt : ¬ (t : Int) < 2 := by omega
      have ht22 : t = 2 := by omega
      have HF := Lib.hid (show AlQ w (allR L P ver) (.returned (.tuple #[.slice a' M.length c', .int .i64 0])) wr by
        have h2 := HST.out
        rw [ht22] at h2
        have : allR L P ver = (M, 0) := by rw [HALL.out, if_pos (HST1.out (by omega)), h2]
        rw [this]; exact ⟨a', c', rfl, HMR.out, HQ.out, HB.out⟩)
      clear ht22
      go_wp2_with fail
      go_ret2
      exact HF.out
end Go.Proofs.YthgnecggdlamfaaGreat
