/- Changes: the program's Next. -/
import Derived.Test.YtdcpiaoadbbdoaaGreatDoorRb
import Derived.Test.YtdcpiaoadbbdoaaGreatDoorHo
import Derived.Test.YtdcpiaoadbbdoaaGreatDoorQu
import Derived.Test.YtdcpiaoadbbdoaaGreatDoorQw
import Derived.Test.YtdcpiaoadbbdoaaGreatDoorJd
set_option maxRecDepth 100000
set_option maxHeartbeats 16000000
namespace Go.Proofs.YtdcpiaoadbbdoaaGreatDoor
open Go.RowKit


theorem setN_len (id u : Nat) : ∀ L : List Mk, (setN id u L).length ≤ L.length + 1
 | [] => by simp [setN]
 | x :: r => by
  unfold setN; split
  · simp
  · have := setN_len id u r; simp only [List.length_cons]; omega
theorem setN_lt {id u : Nat} (hu : u < 18446744073709551616) : ∀ {L : List Mk}, (∀ x ∈ L, x.n < 18446744073709551616) → ∀ x ∈ setN id u L, x.n < 18446744073709551616
 | [], _ => fun x hx => by simp only [setN, List.mem_singleton] at hx; subst hx; exact hu
 | y :: r, h => fun x hx => by
  unfold setN at hx
  split at hx
  · rcases List.mem_cons.1 hx with rfl | hx
    · exact hu
    · exact h x (List.mem_cons_of_mem _ hx)
  · rcases List.mem_cons.1 hx with rfl | hx
    · exact h x (List.mem_cons_self ..)
    · exact setN_lt hu (fun y hy => h y (List.mem_cons_of_mem _ hy)) x hx
theorem endI_lt {p : Pn} (h : Bd p) : p.endI < 18446744073709551616 := by
 have := h.base; have := h.ents
 unfold Pn.endI; omega
def lead0 (p : Pn) : Pn := { p with role := 3, lead := p.id, voices := [], beat := 3, next := [], mat := [] }
theorem bd_lead0 {p : Pn} (h : Bd p) : Bd (lead0 p) := ⟨h.id, h.may, h.term, h.vote, h.base, h.bt, h.snap, h.ents, h.data, h.commit, by simp [lead0], by simp [lead0], by simp [lead0], by simp [lead0], by simp [lead0], by simp [lead0]⟩
theorem bd_mat {p : Pn} (h : Bd p) {M : List Mk} (h1 : M.length * 16 ≤ 140737488353000) (h2 : ∀ x ∈ M, x.n < 18446744073709551616) : Bd { p with mat := M } := ⟨h.id, h.may, h.term, h.vote, h.base, h.bt, h.snap, h.ents, h.data, h.commit, h.voices, h.ids, h.next, h1, h2, h.nexts⟩
theorem bd_addP {p : Pn} (h : Bd p) {dt : ByteArray} (hd : dt.size ≤ 140737488351232) (h0 : addX p dt = 0) (hm : p.mat.length * 16 ≤ 140737488352900) : Bd (addP p dt) := by
 have h1 := bd_add h hd h0
 refine bd_mat (p := { p with g := addG p.g ⟨p.term, dt⟩ }) h1 ?_ (setN_lt (endI_lt h1) h.marks)
 have := setN_len p.id (Pn.endI { p with g := addG p.g ⟨p.term, dt⟩ }) p.mat
 show (setN p.id (Pn.endI { p with g := addG p.g ⟨p.term, dt⟩ }) p.mat).length * 16 ≤ _
 omega
theorem mark_step {e : Nat} (he : e < 18446744073709551616) : ∀ (O : List Nat) (s : List Mk × List Mk), (∀ x ∈ s.1, x.n < 18446744073709551616) → (∀ x ∈ s.2, x.n < 18446744073709551616) →
 (O.foldl (markStep e) s).1.length ≤ s.1.length + O.length ∧ (O.foldl (markStep e) s).2.length ≤ s.2.length + O.length ∧ (∀ x ∈ (O.foldl (markStep e) s).1, x.n < 18446744073709551616) ∧ ∀ x ∈ (O.foldl (markStep e) s).2, x.n < 18446744073709551616
 | [], s, h1, h2 => ⟨Nat.le_refl _, Nat.le_refl _, h1, h2⟩
 | q :: O, s, h1, h2 => by
  have hs : (markStep e s q).1.length ≤ s.1.length + 1 ∧ (markStep e s q).2.length ≤ s.2.length + 1 ∧ (∀ x ∈ (markStep e s q).1, x.n < 18446744073709551616) ∧ ∀ x ∈ (markStep e s q).2, x.n < 18446744073709551616 := by
   unfold markStep; split
   · exact ⟨by omega, by omega, h1, h2⟩
   · exact ⟨setN_len _ _ _, setN_len _ _ _, setN_lt he h1, setN_lt (by decide) h2⟩
  obtain ⟨i1, i2, i3, i4⟩ := mark_step he O (markStep e s q) hs.2.2.1 hs.2.2.2
  simp only [List.foldl_cons, List.length_cons]
  exact ⟨by omega, by omega, i3, i4⟩
theorem bd_remark {p : Pn} (h : Bd p) (h1 : p.next.length * 16 ≤ 140737488352800) (h2 : p.mat.length * 16 ≤ 140737488352800) : Bd (remarkP p) := by
 have ho := oth_len p.conf p.id (conf_may h.may)
 have e1 : (p.next.filter (keepM p)).length ≤ p.next.length := List.length_filter_le _ _
 have e2 : (p.mat.filter (keepM p)).length ≤ p.mat.length := List.length_filter_le _ _
 obtain ⟨i1, i2, i3, i4⟩ := mark_step (endI_lt h) p.oth (p.next.filter (keepM p), p.mat.filter (keepM p)) (fun x hx => h.nexts x (List.mem_filter.1 hx).1) (fun x hx => h.marks x (List.mem_filter.1 hx).1)
 have ho' : p.oth.length ≤ 10 := ho
 refine ⟨h.id, h.may, h.term, h.vote, h.base, h.bt, h.snap, h.ents, h.data, h.commit, h.voices, h.ids, ?_, ?_, i4, i3⟩
 · show (p.oth.foldl (markStep p.endI) (p.next.filter (keepM p), p.mat.filter (keepM p))).1.length * 16 ≤ _
   simp only at i1; omega
 · show (p.oth.foldl (markStep p.endI) (p.next.filter (keepM p), p.mat.filter (keepM p))).2.length * 16 ≤ _
   simp only at i2; omega
theorem bd_lead {p : Pn} (h : Bd p) (h0 : addX (lead0 p) ⟨#[]⟩ = 0) : Bd (addP (lead0 p) ⟨#[]⟩) ∧ Bd (remarkP (addP (lead0 p) ⟨#[]⟩)) := by
 have h1 : Bd (addP (lead0 p) ⟨#[]⟩) := bd_addP (bd_lead0 h) (by decide) h0 (by simp [lead0])
 have h2 : (addP (lead0 p) ⟨#[]⟩).mat.length ≤ 1 := setN_len _ _ []
 have h3 : (addP (lead0 p) ⟨#[]⟩).next = [] := rfl
 exact ⟨h1, bd_remark h1 (by rw [h3]; simp) (by omega)⟩
def RmOk : Prop := ∀ (p : Pn) (d : Ad), Bd p → ∀ (K : Nat) (w : World), K ≤ w.heap.size → NdM K w p d → Calls Tryz.prog 30 #[ndV p d] w (NvP K w (remarkP p))
theorem leadP_eq (p : Pn) : leadP p = if addX (lead0 p) ⟨#[]⟩ = 0 then spreadP (remarkP (addP (lead0 p) ⟨#[]⟩)) else (followP (lead0 p) p.term, []) := rfl

def pre (b : UInt8) (s : ByteArray) : ByteArray := ⟨#[b]⟩ ++ s
def snapD (c : Cf) (app : ByteArray) : ByteArray := ⟨(numB (byG c.V c.L).length ++ byG c.V c.L).toArray⟩ ++ app
def cmpS (p : Pn) (i : Nat) (app : ByteArray) : ByteArray := snapD (confA p.c { p.g with L := p.g.L.take (i - p.g.base) }) app
def cmpX (p : Pn) (i : Nat) (app : ByteArray) : Int := if p.commit < i ∨ i ≤ p.g.base ∨ p.endI < i then 1 else if 4096 < (cmpS p i app).size then 4 else 0
def cmpP (p : Pn) (i : Nat) (app : ByteArray) : Pn := { p with g := insG p.g i (tAt p.g.base p.g.bt p.g.L i).1 (cmpS p i app) }
def newP (id : Nat) (c : Cf) (t v : Nat) (g : Lg) : Pn := ⟨id, c, t, v, g, 0, 0, g.base, [], [], [], 20, 20, 0, 0⟩


theorem hd_commit (p : Pn) : (commitP p).heard = p.heard := by unfold commitP; split <;> rfl
theorem hd_lead (p : Pn) : (leadP p).1.heard = p.heard := by
 rw [leadP_eq]; split
 · show (commitP (remarkP (addP (lead0 p) ⟨#[]⟩))).heard = _
   rw [hd_commit]; rfl
 · rfl
theorem hd_countC (p : Pn) : (countC p).1.heard = p.heard := by
 unfold countC; split
 · exact hd_lead p
 · split <;> rfl
theorem hd_count (p : Pn) : (countP p).1.heard = p.heard := by
 unfold countP; split
 · split
   · exact hd_countC (standQ p)
   · exact hd_lead p
 · split <;> rfl
theorem hd_beat (p : Pn) : (beatP p).1.heard = p.heard := by unfold beatP; split <;> rfl
theorem hd_less {p : Pn} (h : p.heard ≤ 10) : (lessH p).heard ≤ 10 := by
 show (if 0 < p.heard then p.heard - 1 else p.heard) ≤ 10
 split <;> omega
theorem hd_tick {p : Pn} (h : p.heard ≤ 10) (n : Nat) : (tickP p n).1.heard ≤ 10 := by
 have hl := hd_less h
 unfold tickP; split
 · rw [hd_beat]; exact hl
 · split
   · exact hl
   · split
     · exact hl
     · show (countP (askQ { lessH p with span := 10 + (n % 10 : Nat), wait := 10 + (n % 10 : Nat) })).1.heard ≤ 10
       rw [hd_count]; exact hl

theorem pLead_any (hRM : RmOk) (p : Pn) (d : Ad) (hBd : Bd p) (K : Nat) (w : World) (hK : K ≤ w.heap.size) (hM : NdM K w p d) :
 Calls Tryz.prog 155 #[ndV p d] w (NmP K w (leadP p)) := by
 obtain ⟨W, hW, B0, N0, Z0⟩ := nk_new w p d
 obtain ⟨W1, y, hW1, hy, B1, HR, Z1⟩ := bk_new W znA 34
 have HN := N0.later (hy ▸ B1)
 have HB := B0.trans (B1.mono (by have := Z0.out; omega))
 have hyn := hI_ (show w.heap.size < y by have := Z0.out; omega)
 clear B0 N0 B1
 unfold ndA at hW
 unfold znA at hW1
 have HM := hM.later HB
 obtain ⟨P, hP⟩ : ∃ P : Pn, P = lead0 p := ⟨_, rfl⟩
 obtain ⟨D, hD⟩ : ∃ D : Ad, D = { d with o := ⟨none, 0⟩, n := ⟨none, 0⟩, m := ⟨none, 0⟩ } := ⟨_, rfl⟩
 have hbd : Bd P := by rw [hP]; exact bd_lead0 hBd
 have HLD := hI_ (show addX P ⟨#[]⟩ = 0 → Bd (addP P ⟨#[]⟩) ∧ Bd (remarkP (addP P ⟨#[]⟩)) from fun h => by rw [hP] at h ⊢; exact bd_lead hBd h)
 have HLP := hI_ (show leadP p = if addX P ⟨#[]⟩ = 0 then spreadP (remarkP (addP P ⟨#[]⟩)) else (followP P p.term, []) by rw [leadP_eq, hP])
 have HPE := hI_ hP
 have HDE := hI_ hD
 have HRM := hI_ hRM
 have hpt := hI_ (show P.term = p.term by rw [hP]; rfl)
 clear hM hP hD hRM
 go_enter Tryz.func155, Tryz.ntmps155
 go_wp2_with (first
  | (refine lCc rfl _ rfl rfl (ocA rfl) (by assumption) rfl ?_)
  | (refine sCc (v := .int .i64 3) rfl _ _ rfl rfl rfl ocI HN rfl rfl rfl ?_; intro w' hk hg; replace HR := HR.grown hg (by have := hyn.out; omega); replace HM := HM.grown hg (hK) HN.bx.ty bNd; replace HB := bGr HB hg HB.size (Nat.le_refl _); replace HN := hk; clear hk hg)
  | (refine sCc (v := .int .u64 p.id) rfl _ _ rfl rfl rfl ocU HN rfl rfl rfl ?_; intro w' hk hg; replace HR := HR.grown hg (by have := hyn.out; omega); replace HM := HM.grown hg (hK) HN.bx.ty bNd; replace HB := bGr HB hg HB.size (Nat.le_refl _); replace HN := hk; clear hk hg)
  | (refine sCc (v := .slice none 0 0) rfl _ _ rfl rfl rfl (by first | exact ocV | exact ocM) HN rfl rfl rfl ?_; intro w' hk hg; replace HR := HR.grown hg (by have := hyn.out; omega); replace HM := HM.grown hg (hK) HN.bx.ty bNd; replace HB := bGr HB hg HB.size (Nat.le_refl _); replace HN := hk; clear hk hg)
  | (refine lBk rfl _ rfl rfl nodeT (L := ndL P D) (by rw [HPE.out, HDE.out]; exact HN) rfl ?_; (replace HN : Bk w' w.heap.size 34 (ndL P D) := by rw [HPE.out, HDE.out]; exact HN); (replace HM : NdM K w' P D := by rw [HPE.out, HDE.out]; exact (HM.follow p.term).same rfl rfl rfl rfl rfl)))
 refine (pAdd8_any P D hbd ⟨#[]⟩ (by decide) K _ (Nat.le_trans hK HB.size) HM).mono ?_
 by_cases h0 : addX P ⟨#[]⟩ = 0
 case pos =>
  obtain ⟨hb1, hb2⟩ := HLD.out h0
  have HL2 := hI_ (show leadP p = spreadP (remarkP (addP P ⟨#[]⟩)) by rw [HLP.out, if_pos h0])
  rintro e w2 hA
  unfold AdP at hA
  rw [if_pos h0] at hA
  generalize addP P ⟨#[]⟩ = P1 at *
  obtain ⟨D1, rfl, hm1, hb⟩ := hA
  replace HB := HB.trans (hb.mono HB.size)
  replace HR := HR.later hb
  have hlt := hI_ (show y < w2.heap.size ∧ w.heap.size < w2.heap.size from ⟨HR.lt, Nat.lt_of_lt_of_le hyn.out (Nat.le_of_lt HR.lt)⟩)
  obtain ⟨w3, y4, hw3, hy4, B3, HF, Z3⟩ := bk_new w2 znA 34
  have hyf := hI_ (show y < y4 ∧ w.heap.size < y4 by have := hlt.out; omega)
  have B3' : Below w2.heap.size w2 w3 := hy4 ▸ B3
  replace HB := HB.trans (B3'.mono HB.size)
  replace HR := HR.later B3'
  replace HM := hm1.later B3'
  unfold znA at hw3
  clear hb hm1 B3 B3' HN h0
  go_wp2_with (first
   | (refine lBk rfl _ rfl rfl nodeT (by assumption) rfl ?_)
   | (refine sBk rfl _ _ rfl rfl (M := ndL P1 D1) rfl nodeT HF rfl rfl rfl ?_; intro w' hk hg; replace HR := HR.grown hg (by have := hyf.out; omega); replace HM := HM.grown hg (by have := hyf.out; omega) HF.bx.ty bNd; replace HB := bGr HB hg HB.size (by have := hyf.out; omega); replace HF := hk; clear hk hg))
  refine (HRM.out P1 D1 hb1 K _ (Nat.le_trans hK HB.size) HM).mono ?_
  generalize remarkP P1 = P2 at *
  rintro e w5 ⟨D2, rfl, hm2, hb⟩
  replace HB := HB.trans (hb.mono HB.size)
  replace HR := HR.later hb
  replace HM := hm2
  clear hb hm2 HF
  go_wp2_with fail
  have HSZ := hI_ HB.size
  refine (pSpread_any P2 D2 hb2 K _ (Nat.le_trans hK HB.size) HM).mono ?_
  obtain ⟨P3, M3, h3⟩ : ∃ P3 M3, spreadP P2 = (P3, M3) := ⟨_, _, rfl⟩
  have HQ := hI_ (show leadP p = (P3, M3) from HL2.out.trans h3)
  rw [h3]
  clear h3
  rintro e w6 ⟨D3, v, O, rfl, hm3, hC, hO, hb⟩
  replace HB := HB.trans (hb.mono HB.size)
  replace HR := HR.later hb
  replace HM := hm3
  replace hC := hC.mono HSZ.out
  simp only at hO HM
  have HO := hI_ hO
  clear hb hm3 hO
  go_wp2_with (first
   | (refine sBk rfl _ _ rfl rfl rfl nodeT HR rfl rfl rfl ?_; intro w' hk hg; replace HM := HM.grown hg (by have := hyn.out; omega) HR.bx.ty bNd; replace hC := hC.box hg HR.bx.ty boxNm; replace HB := bGr HB hg HB.size (by have := hyn.out; omega); replace HR := hk; clear hk hg))
  refine bodyPost_ret (v := .tuple #[ndV P3 D3, v]) (by rw [rBt Tryz.results155 _ rfl nodeT HR rfl]; rfl) rfl ?_
  rw [HQ.out]
  exact ⟨D3, v, O, rfl, HM, hC, HO.out, HB⟩
 case neg =>
  have HL2 := hI_ (show leadP p = (followP P P.term, []) by rw [HLP.out, if_neg h0, hpt.out])
  rintro e w2 hA
  unfold AdP at hA
  rw [if_neg h0] at hA
  generalize addX P ⟨#[]⟩ = x at *
  obtain ⟨rfl, hb⟩ := hA
  have gx : (x == 0) = false := by simp; omega
  replace HB := HB.trans (hb.mono HB.size)
  replace HR := HR.later hb
  replace HN := HN.later hb
  replace HM := HM.later hb
  have hlt := hI_ (show y < w2.heap.size ∧ w.heap.size < w2.heap.size from ⟨HR.lt, HN.lt⟩)
  obtain ⟨w3, y4, hw3, hy4, B3, HF, Z3⟩ := bk_new w2 znA 34
  have B3' : Below w2.heap.size w2 w3 := hy4 ▸ B3
  replace HB := HB.trans (B3'.mono HB.size)
  replace HR := HR.later B3'
  replace HN := HN.later B3'
  replace HM := HM.later B3'
  have hyf := hI_ (show y < y4 ∧ w.heap.size < y4 by have := hlt.out; omega)
  unfold znA at hw3
  clear hb B3 B3'
  go_wp2_with (first
   | (refine lBk rfl _ rfl rfl nodeT (by assumption) rfl ?_)
   | (refine lCc rfl _ rfl rfl (ocA rfl) (by assumption) rfl ?_)
   | (refine sBk rfl _ _ rfl rfl (M := znA.toList) rfl nodeT HF rfl rfl rfl ?_; intro w' hk hg; replace HN := HN.grown hg (by have := hyf.out; omega); replace HR := HR.grown hg (by have := hyf.out; omega); replace HM := HM.grown hg (by have := hyf.out; omega) HF.bx.ty bNd; replace HB := bGr HB hg HB.size (by have := hyf.out; omega); replace HF := hk; clear hk hg))
  refine (pFollow_any P D P.term K _ HM).mono ?_
  obtain ⟨P3, h3⟩ : ∃ P3, followP P P.term = P3 := ⟨_, rfl⟩
  rw [h3]
  have HQ := hI_ (show leadP p = (P3, []) by rw [HL2.out, h3])
  clear h3
  rintro e w5 ⟨D2, rfl, hm2, hb⟩
  replace HB := HB.trans (hb.mono HB.size)
  replace HR := HR.later hb
  replace HM := hm2
  clear hb hm2 HN HF
  go_wp2_with (first
   | (refine sBk rfl _ _ rfl rfl rfl nodeT HR rfl rfl rfl ?_; intro w' hk hg; replace HM := HM.grown hg (by have := hyn.out; omega) HR.bx.ty bNd; replace HB := bGr HB hg HB.size (by have := hyn.out; omega); replace HR := hk; clear hk hg))
  refine bodyPost_ret (v := .tuple #[ndV P3 D2, .slice none 0 0]) (by rw [rBt Tryz.results155 _ rfl nodeT HR rfl]; rfl) rfl ?_
  rw [HQ.out]
  exact ⟨D2, _, [], rfl, HM, CqG.nil _ _ none, rfl, HB⟩
end Go.Proofs.YtdcpiaoadbbdoaaGreatDoor
