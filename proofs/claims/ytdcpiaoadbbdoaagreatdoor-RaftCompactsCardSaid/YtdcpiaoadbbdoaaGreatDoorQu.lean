/- An entry is added. -/
import Derived.Test.YtdcpiaoadbbdoaaGreatDoorRb
import Derived.Test.YtdcpiaoadbbdoaaGreatDoorQse
import Derived.Test.YtdcpiaoadbbdoaaGreatDoorQh
set_option maxRecDepth 100000
set_option maxHeartbeats 16000000
namespace Go.Proofs.YtdcpiaoadbbdoaaGreatDoor
open Go.RowKit

def AdP (K : Nat) (w : World) (p : Pn) (dt : ByteArray) (e : Ending) (w' : World) : Prop :=
 if addX p dt = 0 then ∃ d, e = .returned (.tuple #[ndV (addP p dt) d, .int .i64 0]) ∧ NdM K w' (addP p dt) d ∧ Below w.heap.size w w'
 else e = .returned (.tuple #[.agg znA, .int .i64 (addX p dt)]) ∧ Below w.heap.size w w'
theorem CqM.ty {B : Nat} (K : Nat) {w : World} {v : Value} {L : List Mk} (h : CqM B w v L) : ∃ a c, v = .slice a L.length c ∧ Ms w a L ∧ Ty K w a L.length 100 := by
 obtain ⟨a, c, e, hM, _⟩ := h.form
 refine ⟨a, c, e, hM, ?_⟩
 rcases h with ⟨h0, _⟩ | h
 · rw [h0]; exact Ty.nil _ _ _ _
 · exact Ty.of_owns h e
theorem pAdd8_any (p : Pn) (d : Ad) (hBd : Bd p) (dt : ByteArray) (hdt : dt.size ≤ 140737488351232) (K : Nat) (w : World) (hK : K ≤ w.heap.size) (hM : NdM K w p d) :
 Calls Tryz.prog 28 #[ndV p d, .string dt] w (AdP K w p dt) := by
 obtain ⟨W, hW, B0, N0, Z0⟩ := nk_new w p d
 obtain ⟨W1, y, hW1, hy, B1, HR, Z1⟩ := bk_new W znA 34
 have HN := N0.later (hy ▸ B1)
 have HB := B0.trans (B1.mono (by have := Z0.out; omega))
 have hyn := hI_ (show w.heap.size < y by have := Z0.out; omega)
 clear B0 N0 B1
 unfold ndA at hW
 unfold znA at hW1
 have hMM := hI_ hM
 have hel := hBd.ents
 have hba := hBd.base
 have hml := hBd.mat
 have HAD := hI_ (show ∀ w1 : World, Below w.heap.size w w1 → Calls Tryz.prog 77 #[.agg #[.int .u64 p.g.base, .int .u64 p.g.bt, .string p.g.snap, .slice d.e.a p.g.L.length d.e.c], .agg #[.int .u64 p.term, .string dt]] w1 (LeT w1 (addG p.g ⟨p.term, dt⟩) (addX p dt)) from fun w1 HB => pAdd_any _ _ _ _ _ _ _ _ p.g.L rfl (by omega) hM.ec hM.em hba _ (hM.later HB).e)
 obtain ⟨x, hx⟩ : ∃ x, addX p dt = x := ⟨_, rfl⟩
 have hgg := hI_ (show x = 0 → addG p.g ⟨p.term, dt⟩ = { p.g with L := p.g.L ++ [⟨p.term, dt⟩] } from fun h => by unfold addG; rw [if_pos (show addE p.g ⟨p.term, dt⟩ = 0 from hx.trans h)])
 have hpp := hI_ (show addP p dt = { p with g := addG p.g ⟨p.term, dt⟩, mat := setN p.id ((addG p.g ⟨p.term, dt⟩).base + (addG p.g ⟨p.term, dt⟩).L.length) p.mat } from rfl)
 have hbg := hI_ (show x = 0 → Bd { p with g := addG p.g ⟨p.term, dt⟩ } from fun h => bd_add hBd hdt (hx.trans h))
 have hA0 := hI_ (show x = 0 → ∀ d e w', e = .returned (.tuple #[ndV (addP p dt) d, .int .i64 0]) → NdM K w' (addP p dt) d → Below w.heap.size w w' → AdP K w p dt e w' from fun h d e w' h1 h2 h3 => by unfold AdP; rw [if_pos (hx.trans h)]; exact ⟨d, h1, h2, h3⟩)
 have hA1 := hI_ (show x ≠ 0 → ∀ e w', e = .returned (.tuple #[.agg znA, .int .i64 x]) → Below w.heap.size w w' → AdP K w p dt e w' from fun h e w' h1 h2 => by unfold AdP; rw [if_neg (fun h0 => h (hx.symm.trans h0)), hx]; exact ⟨h1, h2⟩)
 rw [hx] at HAD
 generalize addG p.g ⟨p.term, dt⟩ = g at *
 obtain ⟨gb, gt, gs, gL⟩ := g
 clear hx hel hba
 go_enter Tryz.func28, Tryz.ntmps28
 go_wp2_with (first
  | (refine lCc rfl _ rfl rfl (ocA rfl) (by assumption) rfl ?_)
  | (refine lSb rfl _ rfl rfl [.int .u64 p.g.base, .int .u64 p.g.bt, .string p.g.snap, .slice d.e.a p.g.L.length d.e.c] logT (by assumption) rfl rfl ?_))
 refine (HAD.out _ HB).mono ?_
 rintro e w2 ⟨a2, c2, rfl, hc2, hm2, hE2, ht2, hb⟩
 replace HB := HB.trans (hb.mono HB.size)
 replace HN := HN.later hb
 replace HR := HR.later hb
 obtain ⟨w3, y3, hw3, hy3, B3, HL, Z3⟩ := bk_new w2 #[.int .u64 gb, .int .u64 gt, .string gs, .slice a2 gL.length c2] 28
 have B3' : Below w2.heap.size w2 w3 := hy3 ▸ B3
 have hyl := hI_ (show y < y3 by have := HR.lt; omega)
 replace HB := HB.trans (B3'.mono HB.size)
 replace HN := HN.later B3'
 replace HR := HR.later B3'
 have HE2 := hI_ (hE2.later B3')
 have HT2 := hI_ (show ∀ q, a2 = some q → TyE w3 q.block from fun q e => (ht2 q e).later B3')
 clear hb hE2 ht2 B3 B3'
 by_cases h0 : x = 0
 case neg =>
  have gx : (x == 0) = false := by simp; omega
  have HF := hI_ (show ∀ w', Below w.heap.size w w' → AdP K w p dt (.returned (.tuple #[.agg znA, .int .i64 x])) w' from fun w' hb => hA1.out h0 _ w' rfl hb)
  go_wp2_with (first
   | (refine lBk rfl _ rfl rfl nodeT (by assumption) rfl ?_)
   | (refine sBk rfl _ _ rfl rfl rfl nodeT HR rfl rfl rfl ?_; intro w' hk hg; replace HN := HN.grown hg (by have := hyn.out; omega); replace HB := bGr HB hg HB.size (by have := hyn.out; omega); replace HR := hk; clear hk hg))
  refine bodyPost_ret (v := .tuple #[.agg znA, .int .i64 x]) (by rw [rBt Tryz.results28 _ rfl nodeT HR rfl]; rfl) rfl ?_
  exact HF.out _ HB
 subst h0
 obtain ⟨hb0, hb1, hb2, hb3⟩ : gb = p.g.base ∧ gt = p.g.bt ∧ gs = p.g.snap ∧ gL = p.g.L ++ [⟨p.term, dt⟩] := by have := hgg.out rfl; cases this; exact ⟨rfl, rfl, rfl, rfl⟩
 have hbd := hbg.out rfl
 have hm3 : NdM K w3 { p with g := ⟨gb, gt, gs, gL⟩ } { d with e := ⟨a2, c2⟩ } := hMM.out.log HB (g := ⟨gb, gt, gs, gL⟩) HE2.out hc2 hm2 (Pl.new HT2.out)
 obtain ⟨P, hP⟩ : ∃ P : Pn, P = { p with g := ⟨gb, gt, gs, gL⟩ } := ⟨_, rfl⟩
 obtain ⟨D, hD⟩ : ∃ D : Ad, D = { d with e := ⟨a2, c2⟩ } := ⟨_, rfl⟩
 have HMM := hm3
 rw [← hP, ← hD] at HMM
 rw [← hP] at hbd
 have HPP := hI_ (show addP p dt = { P with mat := setN P.id P.endI P.mat } by rw [hpp.out, hP]; rfl)
 have hmp : (P.mat.length + 1) * 16 ≤ 140737488355328 := by have := hbd.mat; omega
 have HYY := hI_ hyn.out
 have hK0 := hK
 have HBb := hI_ hb0
 have HPE := hI_ hP
 have HDE := hI_ hD
 clear hm3 hP hD hb0 hb1 hb2 hb3 hml
 go_wp2_with (first
  | (refine lBk rfl _ rfl rfl logT (by assumption) rfl ?_)
  | (refine wpList_store_sub rfl _ _ rfl rfl rfl logT HN rfl rfl rfl (L' := ndL { p with g := ⟨gb, gt, gs, gL⟩ } { d with e := ⟨a2, c2⟩ }) rfl ?_; intro w' hk hg; replace HR := HR.grown hg (by have := hyn.out; omega); replace HMM := HMM.grown hg (hK) HN.bx.ty bNd; replace HB := bGr HB hg HB.size (Nat.le_refl _); replace HN := hk; clear hk hg))
 have HN2 : Bk w' w.heap.size 34 (ndL P D) := by rw [HPE.out, HDE.out]; exact HN
 clear HN HL
 refine wp_region_z (S := fun w' => Bk w' w.heap.size 34 (ndL P D) ∧ Bk w' y 34 znA.toList ∧ NdM K w' P D ∧ Below w.heap.size w w') 8 (by kernel_rfl) (⟨HN2.later ((Below.refl _ _).drew), HR.later ((Below.refl _ _).drew), HMM.later ((Below.refl _ _).drew), HB.drew⟩) (fun HS => ?_)
 refine anyZ_take (i := 0) (v := ?_) rfl (by kernel_rfl) rfl (by kernel_rfl) (by kernel_rfl) (by kernel_rfl) (fun _ _ _ h => h) (Or.inl ⟨by rfl, ?hy0⟩) HS ?_
 case hy0 => (intro w0 hSw; go_simp; (try with_reducible rfl))
 try simp only [ly, Act.put]
 refine anyZ_take (i := 1) (v := (.slice D.m.a P.mat.length D.m.c)) rfl (by kernel_rfl) rfl (by kernel_rfl) (by kernel_rfl) (by kernel_rfl) (fun _ _ _ h => h) (Or.inl ⟨by rfl, ?hy1⟩) HS ?_
 case hy1 => (intro w0 hSw; exact exec_load_c _ rfl rfl ocM hSw.1 rfl)
 try simp only [ly, Act.put]
 refine anyZ_take (i := 2) (v := ?_) rfl (by kernel_rfl) rfl (by kernel_rfl) (by kernel_rfl) (by kernel_rfl) (fun _ _ _ h => h) (Or.inl ⟨by rfl, ?hy2⟩) HS ?_
 case hy2 => (intro w0 hSw; go_simp; (try with_reducible rfl))
 try simp only [ly, Act.put]
 refine anyZ_take (i := 3) (v := (.int .u64 P.id)) rfl (by kernel_rfl) rfl (by kernel_rfl) (by kernel_rfl) (by kernel_rfl) (fun _ _ _ h => h) (Or.inl ⟨by rfl, ?hy3⟩) HS ?_
 case hy3 => (intro w0 hSw; exact exec_load_c _ rfl rfl ocU hSw.1 rfl)
 try simp only [ly, Act.put]
 refine anyZ_take (i := 4) (v := (.agg (ndL P D).toArray)) rfl (by kernel_rfl) rfl (by kernel_rfl) (by kernel_rfl) (by kernel_rfl) (fun _ _ _ h => h) (Or.inl ⟨by rfl, ?hy4⟩) HS ?_
 case hy4 => (intro w0 hSw; exact eLb _ rfl rfl nodeT hSw.1 rfl)
 try simp only [ly, Act.put]
 refine anyZ_one (i := 5) (by kernel_rfl) rfl (fun KK hK => ?_)
 go_simp
 refine (pEnd_any P D hbd K _ HS.2.2.1).mono ?_
 rintro e w5 ⟨rfl, hb⟩
 go_wp2_with fail
 refine hK.out _ _ ⟨HS.1.later hb, HS.2.1.later hb, HS.2.2.1.later hb, HS.2.2.2.trans (hb.mono HS.2.2.2.size)⟩ (fun HS => ?_)
 clear hK
 try simp only [ly, Act.put]
 refine anyZ_one (i := 6) (by kernel_rfl) rfl (fun KK hK => ?_)
 go_simp
 refine (pSet_any P.id P.endI _ _ _ P.mat rfl hmp _ HS.2.2.1.m).mono ?_
 rintro e w6 ⟨v6, rfl, hcm, hb⟩
 obtain ⟨a6, c6, rfl, hM6, hT6⟩ := hcm.ty K
 have HM6 := HS.2.2.1.mat hb (c := c6) hM6 hT6
 clear hM6 hT6 hcm
 go_wp2_with fail
 refine hK.out _ _ ⟨HS.1.later hb, HS.2.1.later hb, HS.2.2.1.later hb, HS.2.2.2.trans (hb.mono HS.2.2.2.size)⟩ (fun HS => ?_)
 clear hK
 try simp only [ly, Act.put]
 refine anyZ_take (i := 7) (v := ?_) rfl (by kernel_rfl) rfl (by kernel_rfl) (by kernel_rfl) (by kernel_rfl) (fun _ _ _ h => h) (Or.inl ⟨by rfl, ?hy7⟩) HS ?_
 case hy7 => (intro w0 hSw; go_simp; (try with_reducible rfl))
 try simp only [ly, Act.put]
 refine anyZ_last (by kernel_rfl) rfl (by kernel_rfl) (fun KK hK => ?_)
 rw [if_pos (by rfl)]
 refine wp_store_c (v := .slice a6 (setN P.id P.endI P.mat).length c6) _ _ rfl rfl rfl ocM HS.1 rfl rfl rfl ?_
 intro w' hk hg
 have HR := HS.2.1.grown hg (by have := HYY.out; omega)
 have HM := HM6.grown hg hK0 HS.1.bx.ty bNd
 have HB := bGr HS.2.2.2 hg HS.2.2.2.size (Nat.le_refl _)
 have HN : Bk w' w.heap.size 34 (ndL { P with mat := setN P.id P.endI P.mat } { D with m := ⟨a6, c6⟩ }) := hk
 clear hk hg
 refine hK.out _ _ ?_
 clear hK
 try simp only [ly, Act.put]
 have HF := hI_ (show ∀ w1, Below w.heap.size w w1 → NdM K w1 { P with mat := setN P.id P.endI P.mat } { D with m := ⟨a6, c6⟩ } → AdP K w p dt (.returned (.tuple #[ndV { P with mat := setN P.id P.endI P.mat } { D with m := ⟨a6, c6⟩ }, .int .i64 0])) w1 from fun w1 hb hm => hA0.out (by first | rfl | trivial) _ _ w1 (by rw [HPP.out]) (by rw [HPP.out]; exact hm) hb)
 generalize setN P.id P.endI P.mat = MM at *
 go_wp2_with (first
  | (refine lBk rfl _ rfl rfl nodeT (by assumption) rfl ?_)
  | (refine sBk rfl _ _ rfl rfl rfl nodeT HR rfl rfl rfl ?_; intro w1 hk hg; replace HN := HN.grown hg (by have := hyn.out; omega); replace HM := HM.grown hg (by have := HYY.out; omega) HR.bx.ty bNd; replace HB := bGr HB hg HB.size (by have := hyn.out; omega); replace HR := hk; clear hk hg))
 refine bodyPost_ret (v := .tuple #[ndV { P with mat := MM } { D with m := ⟨a6, c6⟩ }, .int .i64 0]) (by rw [rBt Tryz.results28 _ rfl nodeT HR rfl]; rfl) rfl ?_
 exact HF.out _ HB HM
end Go.Proofs.YtdcpiaoadbbdoaaGreatDoor
