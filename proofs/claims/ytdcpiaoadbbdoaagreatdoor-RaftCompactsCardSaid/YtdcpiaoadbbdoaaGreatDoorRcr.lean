/- A tick. -/
import Derived.Test.YtdcpiaoadbbdoaaGreatDoorRb
import Derived.Test.YtdcpiaoadbbdoaaGreatDoorQtia
import Derived.Test.YtdcpiaoadbbdoaaGreatDoorQtib
import Derived.Test.YtdcpiaoadbbdoaaGreatDoorQnw
import Derived.Test.YtdcpiaoadbbdoaaGreatDoorZk
import Derived.Test.YtdcpiaoadbbdoaaGreatDoorQz
import Derived.Test.YtdcpiaoadbbdoaaGreatDoorQhr
import Derived.Test.YtdcpiaoadbbdoaaGreatDoorRce
import Derived.Test.YtdcpiaoadbbdoaaGreatDoorRcs
import Derived.Test.YtdcpiaoadbbdoaaGreatDoorQmy
set_option maxRecDepth 100000
set_option maxHeartbeats 16000000
namespace Go.Proofs.YtdcpiaoadbbdoaaGreatDoor
open Go.RowKit

theorem pTick_any (p : Pn) (d : Ad) (hBd : Bd p) (hhd : p.heard ≤ 10) (draw : Nat) (K : Nat) (w : World) (hK : K ≤ w.heap.size) (hM : NdM K w p d) :
 Calls Tryz.prog 22 #[ndV p d, .int .u64 draw] w (NmP K w (tickP p draw)) := by
 by_cases hh : 0 < p.heard
 · exact pTick_1 p d hBd hhd draw K w hK hM hh
 · exact pTick_2 p d hBd hhd draw K w hK hM hh

def nd0 : Pn := newP 1 ⟨[1], []⟩ 0 0 ⟨0, 0, ⟨#[]⟩, []⟩
def tkN : Nat → Pn
 | 0 => nd0
 | k + 1 => (tickP (tkN k) 0).1
theorem nd0_ok : newOk 1 ⟨[1], []⟩ 0 0 ⟨0, 0, ⟨#[]⟩, []⟩ := ⟨by decide, by decide, ⟨by decide, by decide, by decide, by decide, by decide, by decide, by decide, fun _ => ⟨rfl, rfl⟩, fun k x hx => by simp at hx⟩⟩
theorem tk_iv : ∀ k, Iv (tkN k) ∧ (tkN k).heard ≤ 10
 | 0 => ⟨iv_new nd0_ok.1 nd0_ok.2.1 nd0_ok.2.2, by show (0 : Int) ≤ 10; omega⟩
 | k + 1 => ⟨iv_tick (tk_iv k).1 0, hd_tick (tk_iv k).2 0⟩
theorem tk20 : (tkN 20).role = 3 ∧ (tkN 20).term = 1 ∧ (tkN 20).g.L.length = 1 ∧ (tkN 20).commit = 1 := ⟨by kernel_rfl, by kernel_rfl, by kernel_rfl, by kernel_rfl⟩
theorem pShown_any (w : World) : Calls Tryz.prog 8 #[] w fun e w' => e = .returned (.bool true) ∧ Below w.heap.size w w' := by
 obtain ⟨W, hW, hs0, HB, HU⟩ : ∃ W, w.alloc (.cells #[.int .u64 1] 22) = W ∧ W.heap.size = w.heap.size + 1 ∧ Below w.heap.size w W ∧ Us W (some ⟨w.heap.size, 0, none⟩) [1] := by
  obtain ⟨z, hz, h1, h2⟩ := us_at (Below.refl w.heap.size w) 1
  subst hz
  exact ⟨_, rfl, by simp, h1, h2⟩
 have hfx : ∃ f : Nat → Pn, f 0 = nd0 ∧ (∀ k, f (k + 1) = (tickP (f k) 0).1) ∧ (∀ k, Iv (f k) ∧ (f k).heard ≤ 10) ∧ ((f 20).role = 3 ∧ (f 20).term = 1 ∧ (f 20).g.L.length = 1 ∧ (f 20).commit = 1) := ⟨tkN, rfl, fun _ => rfl, tk_iv, tk20⟩
 obtain ⟨f, hf0, hfs, hfi, hf20⟩ := hfx
 have HF0 := hI_ hf0
 have HFS := hI_ hfs
 have HF20 := hI_ hf20
 clear hf0 hfs hf20
 obtain ⟨K, hK⟩ : ∃ K, K = W.heap.size := ⟨_, rfl⟩
 have HNW := hI_ (pNew_any 1 ⟨[1], []⟩ ⟨some ⟨w.heap.size, 0, none⟩, 1⟩ ⟨none, 0⟩ ⟨none, 0⟩ 0 0 ⟨0, 0, ⟨#[]⟩, []⟩ (by decide) (by decide) (by decide) (by decide) (by decide) (by decide) (by decide) (fun x hx => by cases hx) K W (by omega) HU (Us.nil _ _) (Ents.nil _ _))
 have HS0 := hI_ hs0
 have HKE := hI_ hK
 clear hs0 HU hK
 go_enter Tryz.func8, Tryz.ntmps8
 go_wp2_with fail
 refine HNW.out.mono ?_
 rintro e w1 ⟨hn, hb⟩
 have hn : ∃ d, e = .returned (.tuple #[ndV (f 0) d, .int .i64 0]) ∧ NdM K w1 (f 0) d := by
  rcases hn with h | h
  · rw [HF0.out]; exact h.2
  · exact absurd nd0_ok h.1
 obtain ⟨D0, rfl, HM⟩ := hn
 replace HB := HB.trans (hb.mono HB.size)
 have hsz := hI_ (show K ≤ w1.heap.size by rw [HKE.out]; exact hb.size)
 obtain ⟨w2, xn, hw2, hxn, B2, HN, Z2⟩ := bk_new w1 znA 34
 have B2' : Below w1.heap.size w1 w2 := hxn ▸ B2
 have hKx : K ≤ xn := by have := hsz.out; omega
 have hxx := hI_ (show w.heap.size ≤ xn by have := HKE.out; have := HS0.out; omega)
 replace HB := HB.trans (B2'.mono HB.size)
 replace HM := HM.later B2'
 unfold znA at hw2
 clear B2 B2' hb
 have HT := hI_ hfi
 clear hfi
 go_wp2_with (first
  | (refine sBk rfl _ _ rfl rfl (M := ndL (f 0) D0) rfl nodeT HN rfl rfl rfl ?_; intro w' hk hg; replace HM := HM.grown hg hKx HN.bx.ty bNd; replace HB := bGr HB hg HB.size (by have := hxx.out; omega); replace HN := hk; clear hk hg))
 go_loopw [3] (fun u wr => ∃ (k : Nat) (D : Ad), k ≤ 20 ∧ u = .int .i64 k ∧ Bk wr xn 34 (ndL (f k) D) ∧ NdM K wr (f k) D ∧ Below w.heap.size w wr) (fun u _ => 20 - (intOf u).toNat)
 case atStart => exact ⟨0, D0, by omega, rfl, HN, HM, HB⟩
 case round =>
  obtain ⟨k, D, hk, rfl, HN, HM, HB⟩ := hrel
  by_cases hlt : k < 20
  · have i1 : (k : Int) < 20 := by omega
    obtain ⟨P, hP⟩ : ∃ P, f k = P := ⟨_, rfl⟩
    obtain ⟨P3, M3, h3⟩ : ∃ P3 M3, tickP P 0 = (P3, M3) := ⟨_, _, rfl⟩
    have HP3 := hI_ (show f (k + 1) = P3 by rw [HFS.out, hP, h3])
    have HI := hI_ (show Iv P ∧ P.heard ≤ 10 by rw [← hP]; exact HT.out k)
    have H3 := hI_ h3
    rw [hP] at HN HM
    clear hP h3
    go_wp2_with (first
     | (refine lBk rfl _ rfl rfl nodeT HN rfl ?_))
    refine (pTick_any P D HI.out.1.bd HI.out.2 0 K _ (Nat.le_trans hKx (Nat.le_of_lt HN.lt)) HM).mono ?_
    rw [H3.out]
    rintro e w6 ⟨D3, v, O, rfl, hm3, hC, hO, hb⟩
    replace HB := HB.trans (hb.mono HB.size)
    replace HN := HN.later hb
    replace HM := hm3
    clear hb hm3 hC hO
    simp only at HM
    go_wp2_with (first
     | (refine sBk rfl _ _ rfl rfl rfl nodeT HN rfl rfl rfl ?_; intro w' hk hg; replace HM := HM.grown hg hKx HN.bx.ty bNd; replace HB := bGr HB hg HB.size (by have := hxx.out; omega); replace HN := hk; clear hk hg))
    go_roundw
    case rel => exact ⟨k + 1, D3, by omega, by go_num, by rw [HP3.out]; exact HN, by rw [HP3.out]; exact HM, HB⟩
    case measure => simp [intOf]; omega
  · obtain rfl : k = 20 := by omega
    obtain ⟨h1, h2, h3, h4⟩ := HF20.out
    obtain ⟨P, hP⟩ : ∃ P, f 20 = P := ⟨_, rfl⟩
    rw [hP] at HN h1 h2 h3 h4
    clear HM hP HT
    have c9 := HN.bx.c 9 _ rfl
    have c3 := HN.bx.c 3 _ rfl
    have c8 := HN.bx.c 8 _ rfl
    have c11 := HN.bx.c 11 _ rfl
    rw [h1] at c9
    rw [h2] at c3
    rw [h3] at c8
    rw [h4] at c11
    clear h1 h2 h3 h4
    go_wp2_with fail
    go_ret
    exact ⟨rfl, HB⟩

def YesC (w : World) (e : Ending) (w' : World) : Prop := e = .returned (.bool true) ∧ Below w.heap.size w w'
def sndB (p : Pn) : Bool := mayB p.c.V p.c.L && decide (p.g.base ≤ 4611686018427387903)
theorem sound_any (p : Pn) (d : Ad) (hv : p.c.V.length ≤ 140737488351232) (hl : p.c.L.length ≤ 140737488351232) (K : Nat) (w : World) (hM : NdM K w p d) : Calls Tryz.prog 9 #[ndV p d] w fun e w' => e = .returned (.bool (sndB p)) ∧ Below w.heap.size w w' := by
 obtain ⟨W, hW, HB, HN, Z0⟩ := nk_new w p d
 unfold ndA at hW
 have HM := hM.later HB
 obtain ⟨sb, hsb⟩ : ∃ sb, sndB p = sb := ⟨_, rfl⟩
 have HS := hI_ (show sb = (mayB p.c.V p.c.L && decide (p.g.base ≤ 4611686018427387903)) from hsb.symm)
 rw [hsb]
 clear hsb
 go_enter Tryz.func9, Tryz.ntmps9
 go_wp2_with (first
  | (refine lSb rfl _ rfl rfl [.slice d.v.a p.c.V.length d.v.c, .slice d.l.a p.c.L.length d.l.c] confT HN rfl rfl ?_))
 refine (rMay_any _ _ _ _ _ _ p.c.V p.c.L rfl hv rfl hl _ HM.v HM.l).mono ?_
 rintro e w2 ⟨rfl, hb⟩
 obtain ⟨mb, hmb⟩ : ∃ mb, mayB p.c.V p.c.L = mb := ⟨_, rfl⟩
 rw [hmb] at HS ⊢
 replace HN := HN.later hb
 replace HB := HB.trans (hb.mono HB.size)
 clear hb hmb HM
 have c5 := HN.bx.c 5 _ rfl
 cases mb
 case false =>
  obtain rfl : sb = false := HS.out
  go_wp2_with fail
  go_ret
  exact ⟨rfl, HB⟩
 case true =>
  by_cases h : p.g.base ≤ 4611686018427387903
  · have g1 : (p.g.base : Int) ≤ 4611686018427387903 := by omega
    have g2 : decide ((p.g.base : Int) ≤ 4611686018427387903) = true := by simp; omega
    obtain rfl : sb = true := by rw [HS.out]; simpa using h
    go_wp2_with fail
    go_ret
    exact ⟨by simp, HB⟩
  · have g1 : ¬ (p.g.base : Int) ≤ 4611686018427387903 := by omega
    have g2 : decide ((p.g.base : Int) ≤ 4611686018427387903) = false := by simp; omega
    obtain rfl : sb = false := by rw [HS.out]; simpa using h
    go_wp2_with fail
    go_ret
    exact ⟨by simp, HB⟩
def z9 : Pn := ⟨0, ⟨[], []⟩, 0, 0, ⟨0, 0, ⟨#[]⟩, []⟩, 0, 0, 0, [], [], [], 0, 0, 0, 0⟩
def d9 : Ad := ⟨⟨none, 0⟩, ⟨none, 0⟩, ⟨none, 0⟩, ⟨none, 0⟩, ⟨none, 0⟩, ⟨none, 0⟩⟩
theorem z9_mem (K : Nat) (w : World) : NdM K w z9 d9 :=
 ⟨Us.nil _ _, Us.nil _ _, Ents.nil _ _, Nat.le_refl _, by decide, Rw.nil _, (fun j x hx => by simp [z9] at hx), (fun j x hx => by simp [z9] at hx), Ty.nil _ _ _ _, Ty.nil _ _ _ _, Ty.nil _ _ _ _, Ty.nil _ _ _ _, Ty.nil _ _ _ _, Ty.nil _ _ _ _⟩
theorem cx_uni {K : Nat} {w w' : World} {x : Int} {Q : Pn} {e : Ending} (h : CxP K w x Q e w') : ∃ D, e = .returned (.tuple #[ndV (if x = 0 then Q else z9) D, .int .i64 x]) ∧ NdM K w' (if x = 0 then Q else z9) D ∧ Below w.heap.size w w' := by
 unfold CxP at h
 by_cases hx : x = 0
 · rw [if_pos hx] at h ⊢
   obtain ⟨D, rfl, h1, h2⟩ := h
   subst hx
   exact ⟨D, rfl, h1, h2⟩
 · rw [if_neg hx] at h ⊢
   obtain ⟨rfl, h2⟩ := h
   exact ⟨d9, rfl, z9_mem K w', h2⟩
theorem insG_len (g : Lg) (i t : Nat) (s : ByteArray) : (insG g i t s).L.length ≤ g.L.length := by
 unfold insG
 split
 · exact Nat.le_refl _
 · simp only
   split
   · rw [List.length_drop]; omega
   · exact Nat.zero_le _
theorem law_RaftCompacts (p : Pn) (d : Ad) (i : Nat) (app : ByteArray) (hv : p.c.V.length ≤ 140737488351232) (hl : p.c.L.length ≤ 140737488351232) (ho : p.voices.length ≤ 140737488351232) (hn : p.next.length ≤ 140737488351232) (hm : p.mat.length ≤ 140737488351232) (hBd : sndB p = true → Bd p) (hi : i < 18446744073709551616) (ha : app.size ≤ 140737488351232) (w : World) (hM : NdM w.heap.size w p d) (hT : Tz w) :
 Calls Tryz.prog 4 #[ndV p d, .int .u64 i, .string app] w (YesC w) := by
 obtain ⟨W, hW, HB, HN, Z0⟩ := nk_new w p d
 have HMM := hI_ (show ∀ w1, Below w.heap.size w w1 → NdM w.heap.size w1 p d from fun w1 h => hM.later h)
 have HTZ := hI_ (show ∀ w1, Below w.heap.size w w1 → Tz w1 from fun w1 h => hT.below (h.mono hT.n))
 obtain ⟨sb, hsb⟩ : ∃ sb, sndB p = sb := ⟨_, rfl⟩
 obtain ⟨x, hx⟩ : ∃ x, cmpX p i app = x := ⟨_, rfl⟩
 obtain ⟨Q, hQ⟩ : ∃ Q, (if x = 0 then cmpP p i app else z9) = Q := ⟨_, rfl⟩
 have HSB := hI_ hsb
 have HPC := hI_ (show Bd p → ∀ w1, Below w.heap.size w w1 → Calls Tryz.prog 14 #[ndV p d, .int .u64 i, .string app] w1 fun e w' => ∃ D, e = .returned (.tuple #[ndV Q D, .int .i64 x]) ∧ NdM w.heap.size w' Q D ∧ Below w1.heap.size w1 w' from fun hb w1 h => by
  have h2 := (pCompact8_any p d hb i hi app ha w.heap.size w1 h.size (HTZ.out _ h) (HMM.out _ h)).mono (fun _ _ h3 => cx_uni h3)
  rw [hx, hQ] at h2; exact h2)
 have HRC := hI_ (show Bd p → ∀ w1, Below w.heap.size w w1 → Calls Tryz.prog 15 #[ndV p d, .int .u64 i, .string app] w1 fun e w' => ∃ D, e = .returned (.tuple #[ndV Q D, .int .i64 x]) ∧ NdM w.heap.size w' Q D ∧ Below w1.heap.size w1 w' from fun hb w1 h => by
  have h2 := (rCompact8_any p d hb i hi app ha w.heap.size w1 h.size (HMM.out _ h)).mono (fun _ _ h3 => cx_uni h3)
  rw [hx, hQ] at h2; exact h2)
 have hsz : sb = true → Q.c.V.length ≤ 140737488351232 ∧ Q.c.L.length ≤ 140737488351232 ∧ Q.g.L.length ≤ 140737488351232 ∧ Q.voices.length ≤ 140737488351232 ∧ Q.next.length ≤ 140737488351232 ∧ Q.mat.length ≤ 140737488351232 := fun h => by
  have hb := hBd (hsb.trans h)
  have h1 := hb.ents
  rw [← hQ]
  by_cases h0 : x = 0
  · rw [if_pos h0]
    have h2 := insG_len p.g i (tAt p.g.base p.g.bt p.g.L i).1 (cmpS p i app)
    exact ⟨hv, hl, by show (insG _ _ _ _).L.length ≤ _; omega, ho, hn, hm⟩
  · rw [if_neg h0]; exact ⟨by decide, by decide, by decide, by decide, by decide, by decide⟩
 have HSZ := hI_ hsz
 have HBD := hI_ hBd
 clear hM hT hsb hx hQ hsz hBd ho hn hm
 unfold ndA at hW
 go_enter Tryz.func4, Tryz.ntmps4
 go_wp2_with fail
 refine (pShown_any _).mono ?_
 rintro e w1 ⟨rfl, hb⟩
 replace HB := HB.trans (hb.mono HB.size)
 replace HN := HN.later hb
 clear hb
 go_wp2_with (first
  | (refine lBk rfl _ rfl rfl nodeT HN rfl ?_))
 refine (sound_any p d hv hl _ _ (HMM.out _ HB)).mono ?_
 rintro e w2 ⟨rfl, hb⟩
 rw [HSB.out]
 replace HB := HB.trans (hb.mono HB.size)
 replace HN := HN.later hb
 clear hb
 cases sb
 case false =>
  go_wp2_with fail
  go_ret
  exact ⟨rfl, HB⟩
 case true =>
  go_wp2_with (first
   | (refine lBk rfl _ rfl rfl nodeT HN rfl ?_))
  refine (HPC.out (HBD.out HSB.out) _ HB).mono ?_
  rintro e w3 ⟨D1, rfl, hm1, hb⟩
  replace HB := HB.trans (hb.mono HB.size)
  replace HN := HN.later hb
  clear hb
  obtain ⟨w4, x4, hw4, hx4, B4, H4, Z4⟩ := bk_new w3 znA 34
  have B4' : Below w3.heap.size w3 w4 := hx4 ▸ B4
  have hxa := hI_ (show w.heap.size < x4 ∧ w.heap.size ≤ x4 by have := HN.lt; omega)
  replace HB := HB.trans (B4'.mono HB.size)
  replace HN := HN.later B4'
  have hm2 := hm1.later B4'
  unfold znA at hw4
  clear B4 B4' hm1
  go_upto_region 6 with (first
   | (refine sBk rfl _ _ rfl rfl (M := ndL Q D1) rfl nodeT H4 rfl rfl rfl ?_; intro w' hk5 hg; replace HN := HN.grown hg (by have := hxa.out; omega); replace hm2 := hm2.grown hg hxa.out.2 H4.bx.ty bNd; replace HB := bGr HB hg HB.size hxa.out.2; replace H4 := hk5; clear hk5 hg))
  clear hw4
  go_wp2_with (first
   | (refine lBk rfl _ rfl rfl nodeT HN rfl ?_))
  refine (HRC.out (HBD.out HSB.out) _ HB).mono ?_
  rintro e w5 ⟨D2, rfl, hm3, hb⟩
  replace HB := HB.trans (hb.mono HB.size)
  replace H4 := H4.later hb
  replace hm2 := hm2.later hb
  clear hb HN
  obtain ⟨w6, x6, hw6, hx6, B6, H6, Z6⟩ := bk_new w5 znA 34
  have B6' : Below w5.heap.size w5 w6 := hx6 ▸ B6
  have hxb := hI_ (show x4 < x6 ∧ w.heap.size ≤ x6 by have := H4.lt; have := HB.size; omega)
  replace HB := HB.trans (B6'.mono HB.size)
  replace H4 := H4.later B6'
  replace hm2 := hm2.later B6'
  replace hm3 := hm3.later B6'
  unfold znA at hw6
  clear B6 B6'
  go_wp2_with (first
   | (refine lBk rfl _ rfl rfl nodeT H4 rfl ?_)
   | (refine lBk rfl _ rfl rfl nodeT H6 rfl ?_)
   | (refine sBk rfl _ _ rfl rfl (M := ndL Q D2) rfl nodeT H6 rfl rfl rfl ?_; intro w' hk5 hg; replace H4 := H4.grown hg (by have := hxb.out; omega); replace hm2 := hm2.grown hg hxb.out.2 H6.bx.ty bNd; replace hm3 := hm3.grown hg hxb.out.2 H6.bx.ty bNd; replace HB := bGr HB hg HB.size hxb.out.2; replace H6 := hk5; clear hk5 hg))
  obtain ⟨z1, z2, z3, z4, z5, z6⟩ := HSZ.out (by first | rfl | trivial)
  refine (rSame8_any Q D1 D2 z1 z2 z3 z4 z5 z6 _ _ _ hm2 hm3).mono ?_
  rintro e w7 ⟨rfl, hb⟩
  replace HB := HB.trans (hb.mono HB.size)
  clear hb
  go_wp2_with fail
  go_ret
  exact ⟨by first | rfl | simp, HB⟩
end Go.Proofs.YtdcpiaoadbbdoaaGreatDoor
/- Arguments of stage 8: readings of nested structs and lists. -/
set_option maxRecDepth 100000
set_option maxHeartbeats 16000000
namespace Go.Proofs.YtdcpiaoadbbdoaaGreatDoor
open Go.ChangeShapes Go.WideShapes Go.ChangeAt Go.RowKit Go.Deep Go.Joins

def Sm {H : Type} (T : TypeId) (d : DataW H) : Prop := ∀ q ∈ d.weights Tryz.prog T, q ≤ 140737488351232
section
variable {H : Type} {enc : TypeId × Value → H} {W : World} {fuel : Nat} {cs : List Value} {y : DataW H × List MemPlace}
theorem open_st {t : TypeId} {fs : Array Field} (ht : Tryz.prog.underlying t = some (.struct fs)) (h : DataW.trod enc Tryz.prog W 0 (fun _ => true) true fuel t cs = some y) (hlt : ∀ q ∈ y.2, q.block < W.heap.size) :
 ∃ n, ∀ (i : Nat) (f : Field), fs[i]? = some f → ∃ z, DataW.trod enc Tryz.prog W 0 (fun _ => true) true n f.type ((cs.drop f.offset).take (Tryz.prog.cellsOf f.type)) = some z ∧ (∀ q ∈ z.2, q.block < W.heap.size) ∧ (Sm t y.1 → Sm f.type z.1) ∧ Rows.uptoBulk z.1 ≤ Rows.uptoBulk y.1 := by
 obtain ⟨xs, n, _, rfl, _, hlen, hf⟩ := DataW.trod_struct ht h
 refine ⟨n, fun i f hi => ?_⟩
 have hl := (Array.getElem?_eq_some_iff.1 hi).1
 have hz : xs[i]? = some (xs[i]'(by omega)) := List.getElem?_eq_getElem _
 refine ⟨_, (hf i f hi).trans hz, fun q hq => hlt q (List.mem_flatMap.2 ⟨_, List.getElem_mem _, hq⟩), fun hs q hq => hs q ?_, ?_⟩
 · simp only [DataW.weights, ht]
   exact DataW.weights_mem_each (j := i) (by rw [List.getElem?_map, Array.getElem?_toList, hi]; rfl) (by rw [List.getElem?_map, hz]; rfl) q hq
 · have hm : (xs[i]'(by omega)).1 ∈ xs.map (·.1) := List.mem_map_of_mem (List.getElem_mem _)
   have hb : ∀ (l : List (DataW H)) (d : DataW H), d ∈ l → Rows.uptoBulk d ≤ Rows.uptoBulkAll l := by
    intro l
    induction l with
    | nil => intro d hd; cases hd
    | cons x r ih =>
     intro d hd
     rcases List.mem_cons.1 hd with rfl | hd
     · simp only [Rows.uptoBulkAll]; omega
     · have := ih d hd; simp only [Rows.uptoBulkAll]; omega
   have := hb _ _ hm
   simp only [Rows.uptoBulk]; omega
theorem cU64 : Tryz.prog.cellsOf 22 = 1 := by kernel_rfl
theorem cInt : Tryz.prog.cellsOf 3 = 1 := by kernel_rfl
theorem cBool : Tryz.prog.cellsOf 4 = 1 := by kernel_rfl
theorem cStr : Tryz.prog.cellsOf 9 = 1 := by kernel_rfl
theorem cUs : Tryz.prog.cellsOf 23 = 1 := by kernel_rfl
theorem cEs : Tryz.prog.cellsOf 26 = 1 := by kernel_rfl
theorem cEn : Tryz.prog.cellsOf 65 = 2 := by kernel_rfl
theorem cCf : Tryz.prog.cellsOf 25 = 2 := by kernel_rfl
theorem cLg : Tryz.prog.cellsOf 28 = 4 := by kernel_rfl
theorem cStb : Tryz.prog.cellsOf 30 = 6 := by kernel_rfl
theorem bU64 : Tryz.prog.bytesOf 22 = 8 := by kernel_rfl
theorem bEn : Tryz.prog.bytesOf 65 = 24 := by kernel_rfl
theorem rdU64 (h : DataW.trod enc Tryz.prog W 0 (fun _ => true) true fuel 22 cs = some y) : ∃ x : Nat, cs = [.int .u64 (x : Nat)] ∧ x < 18446744073709551616 := by
 obtain ⟨z, e, _, w⟩ := DataW.trod_int Tryz.underlying22 h
 obtain ⟨n, rfl, b⟩ := u64_nat w
 exact ⟨n, e, b⟩
theorem rdInt (h : DataW.trod enc Tryz.prog W 0 (fun _ => true) true fuel 3 cs = some y) : ∃ x : Int, cs = [.int .i64 x] ∧ -9223372036854775808 ≤ x ∧ x ≤ 9223372036854775807 := by
 obtain ⟨z, e, _, w⟩ := DataW.trod_int Tryz.underlying3 h
 exact ⟨z, e, bounds_i64 w⟩
theorem rdBool (h : DataW.trod enc Tryz.prog W 0 (fun _ => true) true fuel 4 cs = some y) : ∃ x : Bool, cs = [.bool x] := by
 obtain ⟨z, e, _⟩ := DataW.trod_bool Tryz.underlying4 h
 exact ⟨z, e⟩
theorem rdStr (h : DataW.trod enc Tryz.prog W 0 (fun _ => true) true fuel 9 cs = some y) : ∃ s : ByteArray, cs = [.string s] ∧ (Sm 9 y.1 → s.size ≤ 140737488351232) ∧ s.size ≤ Rows.uptoBulk y.1 := by
 obtain ⟨s, e, hy, _⟩ := DataW.trod_string Tryz.underlying9 h
 refine ⟨s, e, fun hs => ?_, ?_⟩
 · have := hs s.data.toList.length (by rw [hy]; simp only [DataW.weights]; exact List.mem_singleton.2 rfl)
   rw [Array.length_toList] at this; exact this
 · rw [hy]; simp only [Rows.uptoBulk, Array.length_toList]
   show s.data.size ≤ _
   omega
theorem rowOf_sm {α : Type} {T E : TypeId} {a : Option Addr} {n c k : Nat} {L : List α} {P : List Value → α → DataW H → Prop} {d : DataW H} (hr : RowOf W k P E a n c L (fun q => q ∈ d.weights Tryz.prog T)) (hs : Sm T d) {bs : Nat} (hb : Tryz.prog.bytesOf E = bs) : n * bs ≤ 140737488351232 := hr.small hb hs
theorem rowOf_all {α : Type} {T E : TypeId} {a : Option Addr} {n c k : Nat} {L : List α} {P : List Value → α → DataW H → Prop} {d : DataW H} {Q : α → Prop} (hr : RowOf W k P E a n c L (fun q => q ∈ d.weights Tryz.prog T)) (hs : Sm T d) (hQ : ∀ cs x e, P cs x e → Sm E e → Q x) : ∀ x ∈ L, Q x := fun x hx => by
 obtain ⟨j, hj⟩ := List.mem_iff_getElem?.1 hx
 obtain ⟨b, off, cs, e, _, _, _, _, hp, hw⟩ := hr.mem j x hj
 exact hQ _ _ _ hp (fun q hq => hs q (hw q hq))
theorem slice_bulk' {T E : TypeId} (hT : Tryz.prog.underlying T = some (.slice E)) {a : Option Addr} {n c : Nat} (hf : DataW.trod enc Tryz.prog W 0 (fun _ => true) true fuel T [.slice a n c] = some y) : n ≤ Rows.uptoBulk y.1 := by
 have hbl : ∀ l : List (DataW H), l.length ≤ Rows.uptoBulkAll l := by
  intro l
  induction l with
  | nil => simp [Rows.uptoBulkAll]
  | cons x r ih =>
   have : 1 ≤ Rows.uptoBulk x := by
    cases x with
    | lit l => cases l <;> simp [Rows.uptoBulk]
    | _ => simp [Rows.uptoBulk]
   simp only [Rows.uptoBulkAll, List.length_cons]; omega
 rcases open_slice hT hf with ⟨hcs, hx⟩ | ⟨a', len, cap', m, n', D, Pl, hcs, _, hl, hm, hmm, hx, hi⟩
 · simp at hcs; omega
 · simp at hcs
   obtain ⟨_, rfl, _⟩ := hcs
   rw [hx]
   simp only [Rows.uptoBulk]
   have := hbl ((List.range n).map D)
   simp only [List.length_map, List.length_range] at this
   omega
theorem rdUs {c0 : Value} (h : DataW.trod enc Tryz.prog W 0 (fun _ => true) true fuel 23 [c0] = some y) (hlt : ∀ q ∈ y.2, q.block < W.heap.size) :
 ∃ (s : Sa) (L : List Nat), c0 = .slice s.a L.length s.c ∧ Us W s.a L ∧ (∀ x ∈ L, x < 18446744073709551616) ∧ (Sm 23 y.1 → L.length * 8 ≤ 140737488351232) ∧ L.length ≤ Rows.uptoBulk y.1 := by
 obtain ⟨a, n, c, L, rfl, hr⟩ := rowOf_of (0 : Nat) (fun cs x _ => cs = [Value.int .u64 (x : Nat)] ∧ x < 18446744073709551616) Tryz.underlying23 cU64 (by decide) (fun f cs z hsz ht _ => rdU64 ht) h hlt
 have hb := slice_bulk' Tryz.underlying23 h
 have hn := hr.hlen
 subst hn
 refine ⟨⟨a, c⟩, L, rfl, fun j x hx => ?_, hr.all fun _ _ _ h => h.2, fun hs => rowOf_sm hr hs bU64, hb⟩
 obtain ⟨b, off, e, hb, hc⟩ := hr.rw (f := fun x => [Value.int .u64 (x : Nat)]) (fun _ _ _ h => h.1) j x hx
 exact ⟨b, off, e, hb, by simpa using hc 0 _ rfl⟩
theorem rdEn (hsz : cs.length = 2) (h : DataW.trod enc Tryz.prog W 0 (fun _ => true) true fuel 65 cs = some y) (hlt : ∀ q ∈ y.2, q.block < W.heap.size) :
 ∃ x : En, cs = [.int .u64 (x.t : Nat), .string x.d] ∧ x.t < 18446744073709551616 ∧ (Sm 65 y.1 → x.d.size ≤ 140737488351232) ∧ x.d.size ≤ Rows.uptoBulk y.1 := by
 obtain ⟨n, hf⟩ := open_st Tryz.underlying65 h hlt
 obtain ⟨z0, h0, _, _⟩ := hf 0 _ rfl
 obtain ⟨z1, h1, l1, s1, k1⟩ := hf 1 _ rfl
 match cs, hsz with
 | [c0, c1], _ =>
  simp only [List.getElem_toArray, List.getElem_cons_zero, cU64] at h0
  simp only [List.getElem_toArray, List.getElem_cons_zero, List.getElem_cons_succ, cStr] at h1
  obtain ⟨t, e0, b0⟩ := rdU64 (cs := [c0]) (by simpa using h0)
  obtain ⟨s, e1, b1, g1⟩ := rdStr (cs := [c1]) (by simpa using h1)
  simp at e0 e1
  subst e0 e1
  exact ⟨⟨t, s⟩, rfl, b0, fun hs => b1 (s1 hs), by show s.size ≤ _; omega⟩
theorem rdEs {c0 : Value} (h : DataW.trod enc Tryz.prog W 0 (fun _ => true) true fuel 26 [c0] = some y) (hlt : ∀ q ∈ y.2, q.block < W.heap.size) :
 ∃ (s : Sa) (L : List En), c0 = .slice s.a L.length s.c ∧ L.length ≤ s.c ∧ s.c ≤ maxLen ∧ Ents W s.a L ∧ (Sm 26 y.1 → L.length * 24 ≤ 140737488351232 ∧ ∀ x ∈ L, x.t < 18446744073709551616 ∧ x.d.size ≤ 140737488351232) ∧ L.length ≤ Rows.uptoBulk y.1 := by
 obtain ⟨a, n, c, L, rfl, hr⟩ := rowOf_of (⟨0, ⟨#[]⟩⟩ : En) (fun cs x d => cs = [Value.int .u64 (x.t : Nat), .string x.d] ∧ x.t < 18446744073709551616 ∧ (Sm 65 d → x.d.size ≤ 140737488351232)) Tryz.underlying26 cEn (by decide) (fun f cs z hsz ht hl => by
  obtain ⟨x, e, b, g, _⟩ := rdEn hsz ht hl
  exact ⟨x, e, b, g⟩) h hlt
 have hb := slice_bulk' Tryz.underlying26 h
 have hn := hr.hlen
 subst hn
 refine ⟨⟨a, c⟩, L, rfl, hr.hcap, hr.hmax, fun j x hx => ?_, fun hs => ⟨rowOf_sm hr hs bEn, rowOf_all hr hs fun _ _ _ h hs => ⟨h.2.1, h.2.2 hs⟩⟩, hb⟩
 obtain ⟨b, off, e, hb, hc⟩ := hr.rw (f := fun x => [Value.int .u64 (x.t : Nat), .string x.d]) (fun _ _ _ h => h.1) j x hx
 exact ⟨b, off, e, hb, by simpa using hc 0 _ rfl, by simpa using hc 1 _ rfl⟩
structure RdCf (W : World) (cs : List Value) (c : Cf) (s1 s2 : Sa) (ok : Prop) (bk : Nat) : Prop where
 cells : cs = [.slice s1.a c.V.length s1.c, .slice s2.a c.L.length s2.c]
 V : Us W s1.a c.V
 L : Us W s2.a c.L
 sz : ok → c.V.length * 8 ≤ 140737488351232 ∧ c.L.length * 8 ≤ 140737488351232
 bulk : c.V.length ≤ bk ∧ c.L.length ≤ bk
theorem rdCf (hsz : cs.length = 2) (h : DataW.trod enc Tryz.prog W 0 (fun _ => true) true fuel 25 cs = some y) (hlt : ∀ q ∈ y.2, q.block < W.heap.size) : ∃ c s1 s2, RdCf W cs c s1 s2 (Sm 25 y.1) (Rows.uptoBulk y.1) := by
 obtain ⟨n, hf⟩ := open_st Tryz.underlying25 h hlt
 obtain ⟨z0, h0, l0, w0, k0⟩ := hf 0 _ rfl
 obtain ⟨z1, h1, l1, w1, k1⟩ := hf 1 _ rfl
 match cs, hsz with
 | [c0, c1], _ =>
  simp only [List.getElem_toArray, List.getElem_cons_zero, List.getElem_cons_succ, cUs] at h0 h1
  obtain ⟨s1, V, rfl, m1, _, g1, b1⟩ := rdUs (c0 := c0) (by simpa using h0) l0
  obtain ⟨s2, L, rfl, m2, _, g2, b2⟩ := rdUs (c0 := c1) (by simpa using h1) l1
  exact ⟨⟨V, L⟩, s1, s2, ⟨rfl, m1, m2, fun hs => ⟨g1 (w0 hs), g2 (w1 hs)⟩, by show V.length ≤ _; omega, by show L.length ≤ _; omega⟩⟩
structure RdLg (W : World) (cs : List Value) (g : Lg) (s : Sa) (ok : Prop) (bk : Nat) : Prop where
 cells : cs = [.int .u64 g.base, .int .u64 g.bt, .string g.snap, .slice s.a g.L.length s.c]
 base : g.base < 18446744073709551616
 bt : g.bt < 18446744073709551616
 ec : g.L.length ≤ s.c
 em : s.c ≤ maxLen
 E : Ents W s.a g.L
 sz : ok → g.snap.size ≤ 140737488351232 ∧ g.L.length * 24 ≤ 140737488351232 ∧ ∀ x ∈ g.L, x.t < 18446744073709551616 ∧ x.d.size ≤ 140737488351232
 bulk : g.L.length ≤ bk ∧ g.snap.size ≤ bk
theorem rdLg (hsz : cs.length = 4) (h : DataW.trod enc Tryz.prog W 0 (fun _ => true) true fuel 28 cs = some y) (hlt : ∀ q ∈ y.2, q.block < W.heap.size) : ∃ g s, RdLg W cs g s (Sm 28 y.1) (Rows.uptoBulk y.1) := by
 obtain ⟨n, hf⟩ := open_st Tryz.underlying28 h hlt
 obtain ⟨z0, h0, l0, w0, k0⟩ := hf 0 _ rfl
 obtain ⟨z1, h1, l1, w1, k1⟩ := hf 1 _ rfl
 obtain ⟨z2, h2, l2, w2, k2⟩ := hf 2 _ rfl
 obtain ⟨z3, h3, l3, w3, k3⟩ := hf 3 _ rfl
 match cs, hsz with
 | [c0, c1, c2, c3], _ =>
  simp only [List.getElem_toArray, List.getElem_cons_zero, List.getElem_cons_succ, cU64, cStr, cEs] at h0 h1 h2 h3
  obtain ⟨x0, e0, b0⟩ := rdU64 (cs := [c0]) (by simpa using h0)
  obtain ⟨x1, e1, b1⟩ := rdU64 (cs := [c1]) (by simpa using h1)
  obtain ⟨x2, e2, b2, g2⟩ := rdStr (cs := [c2]) (by simpa using h2)
  obtain ⟨s, L, rfl, q1, q2, m, g3, b3⟩ := rdEs (c0 := c3) (by simpa using h3) l3
  simp only [List.cons.injEq, and_true] at e0 e1 e2
  subst e0 e1 e2
  exact ⟨⟨x0, x1, x2, L⟩, s, ⟨rfl, b0, b1, q1, q2, m, fun hs => ⟨b2 (w2 hs), (g3 (w3 hs)).1, (g3 (w3 hs)).2⟩, by show L.length ≤ _; omega, by show x2.size ≤ _; omega⟩⟩
structure RdSt (W : World) (cs : List Value) (t v : Nat) (g : Lg) (s : Sa) (ok : Prop) (bk : Nat) : Prop where
 cells : cs = [.int .u64 t, .int .u64 v, .int .u64 g.base, .int .u64 g.bt, .string g.snap, .slice s.a g.L.length s.c]
 t : t < 18446744073709551616
 v : v < 18446744073709551616
 log : RdLg W [.int .u64 g.base, .int .u64 g.bt, .string g.snap, .slice s.a g.L.length s.c] g s ok bk
theorem rdSt (hsz : cs.length = 6) (h : DataW.trod enc Tryz.prog W 0 (fun _ => true) true fuel 30 cs = some y) (hlt : ∀ q ∈ y.2, q.block < W.heap.size) : ∃ t v g s, RdSt W cs t v g s (Sm 30 y.1) (Rows.uptoBulk y.1) := by
 obtain ⟨n, hf⟩ := open_st Tryz.underlying30 h hlt
 obtain ⟨z0, h0, l0, w0, k0⟩ := hf 0 _ rfl
 obtain ⟨z1, h1, l1, w1, k1⟩ := hf 1 _ rfl
 obtain ⟨z2, h2, l2, w2, k2⟩ := hf 2 _ rfl
 match cs, hsz with
 | [c0, c1, c2, c3, c4, c5], _ =>
  simp only [List.getElem_toArray, List.getElem_cons_zero, List.getElem_cons_succ, cU64, cLg] at h0 h1 h2
  obtain ⟨x0, e0, b0⟩ := rdU64 (cs := [c0]) (by simpa using h0)
  obtain ⟨x1, e1, b1⟩ := rdU64 (cs := [c1]) (by simpa using h1)
  obtain ⟨g, s, hg⟩ := rdLg (cs := [c2, c3, c4, c5]) rfl (by simpa using h2) l2
  simp only [List.cons.injEq, and_true] at e0 e1
  subst e0 e1
  have hc := hg.cells
  simp only [List.cons.injEq, and_true] at hc
  obtain ⟨rfl, rfl, rfl, rfl⟩ := hc
  exact ⟨x0, x1, g, s, ⟨rfl, b0, b1, ⟨rfl, hg.base, hg.bt, hg.ec, hg.em, hg.E, fun hs => hg.sz (w2 hs), by have := hg.bulk.1; omega, by have := hg.bulk.2; omega⟩⟩⟩
end
end Go.Proofs.YtdcpiaoadbbdoaaGreatDoor
/- Arguments of stage 8: a node. -/
set_option maxRecDepth 100000
set_option maxHeartbeats 16000000
namespace Go.Proofs.YtdcpiaoadbbdoaaGreatDoor
open Go.ChangeShapes Go.WideShapes Go.ChangeAt Go.RowKit Go.Deep Go.Joins

section
variable {H : Type} {enc : TypeId × Value → H} {W : World} {fuel : Nat} {cs : List Value} {y : DataW H × List MemPlace}
theorem cVos : Tryz.prog.cellsOf 31 = 1 := by kernel_rfl
theorem cMks : Tryz.prog.cellsOf 32 = 1 := by kernel_rfl
theorem cVo : Tryz.prog.cellsOf 144 = 2 := by kernel_rfl
theorem cMk : Tryz.prog.cellsOf 100 = 2 := by kernel_rfl
theorem bVo : Tryz.prog.bytesOf 144 = 16 := by kernel_rfl
theorem bMk : Tryz.prog.bytesOf 100 = 16 := by kernel_rfl
theorem rdVo (hsz : cs.length = 2) (h : DataW.trod enc Tryz.prog W 0 (fun _ => true) true fuel 144 cs = some y) (hlt : ∀ q ∈ y.2, q.block < W.heap.size) : ∃ x : Vo, cs = voC x ∧ x.id < 18446744073709551616 := by
 obtain ⟨n, hf⟩ := open_st Tryz.underlying144 h hlt
 obtain ⟨z0, h0, l0, w0, k0⟩ := hf 0 _ rfl
 obtain ⟨z1, h1, l1, w1, k1⟩ := hf 1 _ rfl
 match cs, hsz with
 | [c0, c1], _ =>
  simp only [List.getElem_toArray, List.getElem_cons_zero, List.getElem_cons_succ, cU64, cBool] at h0 h1
  obtain ⟨t, e0, b0⟩ := rdU64 (cs := [c0]) (by simpa using h0)
  obtain ⟨s, e1⟩ := rdBool (cs := [c1]) (by simpa using h1)
  simp only [List.cons.injEq, and_true] at e0 e1
  subst e0 e1
  exact ⟨⟨t, s⟩, rfl, b0⟩
theorem rdMk (hsz : cs.length = 2) (h : DataW.trod enc Tryz.prog W 0 (fun _ => true) true fuel 100 cs = some y) (hlt : ∀ q ∈ y.2, q.block < W.heap.size) : ∃ x : Mk, cs = mkCells x ∧ x.n < 18446744073709551616 := by
 obtain ⟨n, hf⟩ := open_st Tryz.underlying100 h hlt
 obtain ⟨z0, h0, l0, w0, k0⟩ := hf 0 _ rfl
 obtain ⟨z1, h1, l1, w1, k1⟩ := hf 1 _ rfl
 match cs, hsz with
 | [c0, c1], _ =>
  simp only [List.getElem_toArray, List.getElem_cons_zero, List.getElem_cons_succ, cU64] at h0 h1
  obtain ⟨t, e0, b0⟩ := rdU64 (cs := [c0]) (by simpa using h0)
  obtain ⟨s, e1, b1⟩ := rdU64 (cs := [c1]) (by simpa using h1)
  simp only [List.cons.injEq, and_true] at e0 e1
  subst e0 e1
  exact ⟨⟨t, s⟩, rfl, b1⟩
theorem rdVos {c0 : Value} (h : DataW.trod enc Tryz.prog W 0 (fun _ => true) true fuel 31 [c0] = some y) (hlt : ∀ q ∈ y.2, q.block < W.heap.size) :
 ∃ (s : Sa) (L : List Vo), c0 = .slice s.a L.length s.c ∧ Vs W s.a L ∧ (∀ x ∈ L, x.id < 18446744073709551616) ∧ (Sm 31 y.1 → L.length * 16 ≤ 140737488351232) ∧ L.length ≤ Rows.uptoBulk y.1 := by
 obtain ⟨a, n, c, L, rfl, hr⟩ := rowOf_of (⟨0, false⟩ : Vo) (fun cs x _ => cs = voC x ∧ x.id < 18446744073709551616) Tryz.underlying31 cVo (by decide) (fun f cs z hsz ht hl => rdVo hsz ht hl) h hlt
 have hb := slice_bulk' Tryz.underlying31 h
 have hn := hr.hlen
 subst hn
 exact ⟨⟨a, c⟩, L, rfl, hr.rw (fun _ _ _ h => h.1), hr.all fun _ _ _ h => h.2, fun hs => rowOf_sm hr hs bVo, hb⟩
theorem rdMks {c0 : Value} (h : DataW.trod enc Tryz.prog W 0 (fun _ => true) true fuel 32 [c0] = some y) (hlt : ∀ q ∈ y.2, q.block < W.heap.size) :
 ∃ (s : Sa) (L : List Mk), c0 = .slice s.a L.length s.c ∧ Ms W s.a L ∧ (∀ x ∈ L, x.n < 18446744073709551616) ∧ (Sm 32 y.1 → L.length * 16 ≤ 140737488351232) ∧ L.length ≤ Rows.uptoBulk y.1 := by
 obtain ⟨a, n, c, L, rfl, hr⟩ := rowOf_of (⟨0, 0⟩ : Mk) (fun cs x _ => cs = mkCells x ∧ x.n < 18446744073709551616) Tryz.underlying32 cMk (by decide) (fun f cs z hsz ht hl => rdMk hsz ht hl) h hlt
 have hb := slice_bulk' Tryz.underlying32 h
 have hn := hr.hlen
 subst hn
 refine ⟨⟨a, c⟩, L, rfl, fun j x hx => ?_, hr.all fun _ _ _ h => h.2, fun hs => rowOf_sm hr hs bMk, hb⟩
 obtain ⟨b, off, e, hb, hc⟩ := hr.rw (f := mkCells) (fun _ _ _ h => h.1) j x hx
 exact ⟨b, off, e, hb, by simpa using hc 0 _ rfl, by simpa using hc 1 _ rfl⟩
structure RdNd (W : World) (cs : List Value) (p : Pn) (d : Ad) (ok : Prop) (bk : Nat) : Prop where
 cells : cs = ndL p d
 mem : NdM W.heap.size W p d
 id : p.id < 18446744073709551616
 term : p.term < 18446744073709551616
 vote : p.vote < 18446744073709551616
 base : p.g.base < 18446744073709551616
 bt : p.g.bt < 18446744073709551616
 commit : p.commit < 18446744073709551616
 ids : ∀ x ∈ p.voices, x.id < 18446744073709551616
 marks : ∀ x ∈ p.mat, x.n < 18446744073709551616
 nexts : ∀ x ∈ p.next, x.n < 18446744073709551616
 heard : -9223372036854775808 ≤ p.heard ∧ p.heard ≤ 9223372036854775807
 sz : ok → (p.c.V.length * 8 ≤ 140737488351232 ∧ p.c.L.length * 8 ≤ 140737488351232) ∧ (p.g.snap.size ≤ 140737488351232 ∧ p.g.L.length * 24 ≤ 140737488351232 ∧ ∀ x ∈ p.g.L, x.t < 18446744073709551616 ∧ x.d.size ≤ 140737488351232) ∧ p.voices.length * 16 ≤ 140737488351232 ∧ p.next.length * 16 ≤ 140737488351232 ∧ p.mat.length * 16 ≤ 140737488351232
 bulk : p.c.V.length ≤ bk ∧ p.c.L.length ≤ bk ∧ p.g.L.length ≤ bk ∧ p.voices.length ≤ bk ∧ p.next.length ≤ bk ∧ p.mat.length ≤ bk
theorem vos_lt {w : World} {a : Option Addr} {L : List Vo} (h : Vs w a L) : 0 < L.length → ∀ q, a = some q → q.block < w.heap.size := fun h0 q e => by
 obtain ⟨b, off, e2, hb⟩ := h.addr h0
 rw [e2] at e; cases e; exact hb
theorem mks_lt {w : World} {a : Option Addr} {L : List Mk} (h : Ms w a L) : 0 < L.length → ∀ q, a = some q → q.block < w.heap.size := fun h0 q e => by
 obtain ⟨b, off, e2, hb⟩ := h.addr h0
 rw [e2] at e; cases e; exact hb
theorem rdNd (hsz : cs.length = 19) (h : DataW.trod enc Tryz.prog W 0 (fun _ => true) true fuel 34 cs = some y) (hlt : ∀ q ∈ y.2, q.block < W.heap.size) : ∃ p d, RdNd W cs p d (Sm 34 y.1) (Rows.uptoBulk y.1) := by
 obtain ⟨n, hf⟩ := open_st Tryz.underlying34 h hlt
 obtain ⟨z0, h0, l0, w0, k0⟩ := hf 0 _ rfl
 obtain ⟨z1, h1, l1, w1, k1⟩ := hf 1 _ rfl
 obtain ⟨z2, h2, l2, w2, k2⟩ := hf 2 _ rfl
 obtain ⟨z3, h3, l3, w3, k3⟩ := hf 3 _ rfl
 obtain ⟨z4, h4, l4, w4, k4⟩ := hf 4 _ rfl
 obtain ⟨z5, h5, l5, w5, k5⟩ := hf 5 _ rfl
 obtain ⟨z6, h6, l6, w6, k6⟩ := hf 6 _ rfl
 obtain ⟨z7, h7, l7, w7, k7⟩ := hf 7 _ rfl
 obtain ⟨z8, h8, l8, w8, k8⟩ := hf 8 _ rfl
 obtain ⟨z9, h9, l9, w9, k9⟩ := hf 9 _ rfl
 obtain ⟨z10, h10, l10, w10, k10⟩ := hf 10 _ rfl
 obtain ⟨z11, h11, l11, w11, k11⟩ := hf 11 _ rfl
 obtain ⟨z12, h12, l12, w12, k12⟩ := hf 12 _ rfl
 match cs, hsz with
 | [c0, c1, c2, c3, c4, c5, c6, c7, c8, c9, c10, c11, c12, c13, c14, c15, c16, c17, c18], _ =>
  simp only [List.getElem_toArray, List.getElem_cons_zero, List.getElem_cons_succ, cU64, cInt, cCf, cStb, cVos, cMks] at h0 h1 h2 h3 h4 h5 h6 h7 h8 h9 h10 h11 h12
  obtain ⟨x0, e0, b0⟩ := rdU64 (cs := [c0]) (by simpa using h0)
  obtain ⟨cf, s1, s2, hc⟩ := rdCf (cs := [c1, c2]) rfl (by simpa using h1) l1
  obtain ⟨t, v, g, sg, hs⟩ := rdSt (cs := [c3, c4, c5, c6, c7, c8]) rfl (by simpa using h2) l2
  obtain ⟨x9, e9, b9⟩ := rdInt (cs := [c9]) (by simpa using h3)
  obtain ⟨x10, e10, b10⟩ := rdU64 (cs := [c10]) (by simpa using h4)
  obtain ⟨x11, e11, b11⟩ := rdU64 (cs := [c11]) (by simpa using h5)
  obtain ⟨sv, Vv, rfl, mv, iv, gv, kv⟩ := rdVos (c0 := c12) (by simpa using h6) l6
  obtain ⟨sn, Nn, rfl, mn, nn, gn, kn⟩ := rdMks (c0 := c13) (by simpa using h7) l7
  obtain ⟨sm, Mm, rfl, mm, nm, gm, km⟩ := rdMks (c0 := c14) (by simpa using h8) l8
  obtain ⟨x15, e15, b15⟩ := rdInt (cs := [c15]) (by simpa using h9)
  obtain ⟨x16, e16, b16⟩ := rdInt (cs := [c16]) (by simpa using h10)
  obtain ⟨x17, e17, b17⟩ := rdInt (cs := [c17]) (by simpa using h11)
  obtain ⟨x18, e18, b18⟩ := rdInt (cs := [c18]) (by simpa using h12)
  have ec := hc.cells
  have es := hs.cells
  simp only [List.cons.injEq, and_true] at e0 e9 e10 e11 e15 e16 e17 e18 ec es
  obtain ⟨rfl, rfl⟩ := ec
  obtain ⟨rfl, rfl, rfl, rfl, rfl, rfl⟩ := es
  subst e0 e9 e10 e11 e15 e16 e17 e18
  have hlg := hs.log
  refine ⟨⟨x0, cf, t, v, g, x9, x10, x11, Vv, Nn, Mm, x15, x16, x17, x18⟩, ⟨s1, s2, sg, sv, sn, sm⟩, ⟨rfl, ⟨hc.V, hc.L, hlg.E, hlg.ec, hlg.em, mv, mn, mm, Ty.elder (us_lt hc.V) (Nat.le_refl _), Ty.elder (us_lt hc.L) (Nat.le_refl _), Ty.elder (ents_lt hlg.E) (Nat.le_refl _), Ty.elder (vos_lt mv) (Nat.le_refl _), Ty.elder (mks_lt mn) (Nat.le_refl _), Ty.elder (mks_lt mm) (Nat.le_refl _)⟩, b0, hs.t, hs.v, hlg.base, hlg.bt, b11, iv, nm, nn, b18, fun ok => ⟨hc.sz (w1 ok), hlg.sz (w2 ok), gv (w6 ok), gn (w7 ok), gm (w8 ok)⟩, ?_⟩⟩
  have q1 := hc.bulk
  have q2 := hlg.bulk
  refine ⟨?_, ?_, ?_, ?_, ?_, ?_⟩ <;> simp only <;> omega
end
end Go.Proofs.YtdcpiaoadbbdoaaGreatDoor
/- A node as an argument. -/
set_option maxRecDepth 100000
set_option maxHeartbeats 16000000
namespace Go.Proofs.YtdcpiaoadbbdoaaGreatDoor
open Go.ChangeShapes Go.WideShapes Go.ChangeAt Go.RowKit Go.Deep Go.Joins

structure NdArgS (W : World) (v : Value) (p : Pn) (d : Ad) : Prop where
 val : v = ndV p d
 mem : NdM W.heap.size W p d
 vl : p.c.V.length ≤ 140737488351232
 ll : p.c.L.length ≤ 140737488351232
 vo : p.voices.length ≤ 140737488351232
 nx : p.next.length ≤ 140737488351232
 mt : p.mat.length ≤ 140737488351232
 bd : sndB p = true → Bd p
theorem cNode : Tryz.prog.cellsOf 34 = 19 := by kernel_rfl
theorem nodeArgS_of {H : Type} {enc : TypeId × Value → H} {W : World} {r : Reach} {b0 : Nat} {v : Value} {d : DataW H} {p : List MemPlace} {ts : List TypeId} {ds : List (DataW H)} {j : Nat}
 (hv : Value.okWide Tryz.prog W r b0 34 v) (h : DataW.Trod enc Tryz.prog W 0 (fun _ => true) true 34 v d p) (hlt : ∀ x ∈ p, x.block < W.heap.size)
 (hZ : (DataW.weightsEach Tryz.prog ts ds).all (· ≤ reachBytes) = true) (hj : ts[j]? = some 34) (hd : ds[j]? = some d) : ∃ P D, NdArgS W v P D := by
 obtain ⟨cs, rfl, hsz⟩ := okWide_struct Tryz.underlying34 hv
 rw [cNode] at hsz
 obtain ⟨fuel, hf0⟩ := h
 have hsm : Sm 34 d := sized_of hZ hj hd
 obtain ⟨l⟩ := cs
 obtain ⟨P, D, hr⟩ := rdNd (cs := l) (by simpa using hsz) (by simpa [Value.cells] using hf0) hlt
 have hc := hr.cells
 subst hc
 obtain ⟨⟨s1, s2⟩, ⟨s3, s4, s5⟩, s6, s7, s8⟩ := hr.sz hsm
 refine ⟨P, D, ⟨rfl, hr.mem, by omega, by omega, by omega, by omega, by omega, fun h => ?_⟩⟩
 unfold sndB at h
 rw [Bool.and_eq_true, decide_eq_true_iff] at h
 exact ⟨hr.id, h.1, hr.term, hr.vote, by omega, hr.bt, s3, s4, s5, hr.commit, by omega, hr.ids, by omega, by omega, hr.marks, hr.nexts⟩
end Go.Proofs.YtdcpiaoadbbdoaaGreatDoor
