/- An entry is added. -/
import Derived.Test.YtdcpiaoadbbdoaaGreatBulk
import Derived.Test.YtdcpiaoadbbdoaaGreatQse
import Derived.Test.YtdcpiaoadbbdoaaGreatQh
import Derived.Test.YtdcpiaoadbbdoaaGreatQw
import Derived.Test.YtdcpiaoadbbdoaaGreatJd
import Derived.Test.YtdcpiaoadbbdoaaGreatHp
set_option maxRecDepth 100000
set_option maxHeartbeats 16000000
namespace Go.Proofs.YtdcpiaoadbbdoaaGreat
open Go.RowKit

def AdP (K : Nat) (w : World) (p : Pn) (dt : ByteArray) (e : Ending) (w' : World) : Prop :=
 if addX p dt = 0 then ∃ d, e = .returned (.tuple #[ndV (addP p dt) d, .int .i64 0]) ∧ NdM K w' (addP p dt) d ∧ Below w.heap.size w w'
 else e = .returned (.tuple #[.agg znA, .int .i64 (addX p dt)]) ∧ Below w.heap.size w w'
theorem CqM.ty {B : Nat} (K : Nat) {w : World} {v : Value} {L : List Mk} (h : CqM B w v L) : ∃ a c, v = .slice a L.length c ∧ Ms w a L ∧ Ty K w a L.length 88 := by
 obtain ⟨a, c, e, hM, _⟩ := h.form
 refine ⟨a, c, e, hM, ?_⟩
 rcases h with ⟨h0, _⟩ | h
 · rw [h0]; exact Ty.nil _ _ _ _
 · exact Ty.of_owns h e
theorem pAdd8_any (p : Pn) (d : Ad) (hBd : Bd p) (dt : ByteArray) (hdt : dt.size ≤ 140737488351232) (K : Nat) (w : World) (hK : K ≤ w.heap.size) (hM : NdM K w p d) :
 Calls Tryz.prog 19 #[ndV p d, .string dt] w (AdP K w p dt) := by
 obtain ⟨W, hW, B0, N0, Z0⟩ := nk_new w p d
 obtain ⟨W1, y, hW1, hy, B1, HR, Z1⟩ := bk_new W znA 34
 have HN := N0.later (hy ▸ B1)
 have HB := B0.trans (B1.mono (by have := Z0.out; omega))
 have hyn := hI_ (show w.heap.size < y by have := Z0.out; omega)
 clear B0 N0 B1
 unfold ndA at hW
 unfold znA at hW1
 have hMM := hI_ hM
 have hel := hBd.ents
 have hba := hBd.base
 have hml := hBd.mat
 have HAD := hI_ (show ∀ w1 : World, Below w.heap.size w w1 → Calls Tryz.prog 43 #[.agg #[.int .u64 p.g.base, .int .u64 p.g.bt, .string p.g.snap, .slice d.e.a p.g.L.length d.e.c], .agg #[.int .u64 p.term, .string dt]] w1 (LeT w1 (addG p.g ⟨p.term, dt⟩) (addX p dt)) from fun w1 HB => pAdd_any _ _ _ _ _ _ _ _ p.g.L rfl (by omega) hM.ec hM.em hba _ (hM.later HB).e)
 obtain ⟨x, hx⟩ : ∃ x, addX p dt = x := ⟨_, rfl⟩
 have hgg := hI_ (show x = 0 → addG p.g ⟨p.term, dt⟩ = { p.g with L := p.g.L ++ [⟨p.term, dt⟩] } from fun h => by unfold addG; rw [if_pos (show addE p.g ⟨p.term, dt⟩ = 0 from hx.trans h)])
 have hpp := hI_ (show addP p dt = { p with g := addG p.g ⟨p.term, dt⟩, mat := setN p.id ((addG p.g ⟨p.term, dt⟩).base + (addG p.g ⟨p.term, dt⟩).L.length) p.mat } from rfl)
 have hbg := hI_ (show x = 0 → Bd { p with g := addG p.g ⟨p.term, dt⟩ } from fun h => bd_add hBd hdt (hx.trans h))
 have hA0 := hI_ (show x = 0 → ∀ d e w', e = .returned (.tuple #[ndV (addP p dt) d, .int .i64 0]) → NdM K w' (addP p dt) d → Below w.heap.size w w' → AdP K w p dt e w' from fun h d e w' h1 h2 h3 => by unfold AdP; rw [if_pos (hx.trans h)]; exact ⟨d, h1, h2, h3⟩)
 have hA1 := hI_ (show x ≠ 0 → ∀ e w', e = .returned (.tuple #[.agg znA, .int .i64 x]) → Below w.heap.size w w' → AdP K w p dt e w' from fun h e w' h1 h2 => by unfold AdP; rw [if_neg (fun h0 => h (hx.symm.trans h0)), hx]; exact ⟨h1, h2⟩)
 rw [hx] at HAD
 generalize addG p.g ⟨p.term, dt⟩ = g at *
 obtain ⟨gb, gt, gs, gL⟩ := g
 clear hx hel hba
 go_enter Tryz.func19, Tryz.ntmps19
 go_wp2_with (first
  | (refine lCc rfl _ rfl rfl (ocA rfl) (by assumption) rfl ?_)
  | (refine lSb rfl _ rfl rfl [.int .u64 p.g.base, .int .u64 p.g.bt, .string p.g.snap, .slice d.e.a p.g.L.length d.e.c] logT (by assumption) rfl rfl ?_))
 refine (HAD.out _ HB).mono ?_
 rintro e w2 ⟨a2, c2, rfl, hc2, hm2, hE2, ht2, hb⟩
 replace HB := HB.trans (hb.mono HB.size)
 replace HN := HN.later hb
 replace HR := HR.later hb
 obtain ⟨w3, y3, hw3, hy3, B3, HL, Z3⟩ := bk_new w2 #[.int .u64 gb, .int .u64 gt, .string gs, .slice a2 gL.length c2] 28
 have B3' : Below w2.heap.size w2 w3 := hy3 ▸ B3
 have hyl := hI_ (show y < y3 by have := HR.lt; omega)
 replace HB := HB.trans (B3'.mono HB.size)
 replace HN := HN.later B3'
 replace HR := HR.later B3'
 have HE2 := hI_ (hE2.later B3')
 have HT2 := hI_ (show ∀ q, a2 = some q → TyE w3 q.block from fun q e => (ht2 q e).later B3')
 clear hb hE2 ht2 B3 B3'
 by_cases h0 : x = 0
 case neg =>
  have gx : (x == 0) = false := by simp; omega
  have HF := hI_ (show ∀ w', Below w.heap.size w w' → AdP K w p dt (.returned (.tuple #[.agg znA, .int .i64 x])) w' from fun w' hb => hA1.out h0 _ w' rfl hb)
  go_wp2_with (first
   | (refine lBk rfl _ rfl rfl nodeT (by assumption) rfl ?_)
   | (refine sBk rfl _ _ rfl rfl rfl nodeT HR rfl rfl rfl ?_; intro w' hk hg; replace HN := HN.grown hg (by have := hyn.out; omega); replace HB := bGr HB hg HB.size (by have := hyn.out; omega); replace HR := hk; clear hk hg))
  refine bodyPost_ret (v := .tuple #[.agg znA, .int .i64 x]) (by rw [rBt Tryz.results19 _ rfl nodeT HR rfl]; rfl) rfl ?_
  exact HF.out _ HB
 subst h0
 obtain ⟨hb0, hb1, hb2, hb3⟩ : gb = p.g.base ∧ gt = p.g.bt ∧ gs = p.g.snap ∧ gL = p.g.L ++ [⟨p.term, dt⟩] := by have := hgg.out rfl; cases this; exact ⟨rfl, rfl, rfl, rfl⟩
 have hbd := hbg.out rfl
 have hm3 : NdM K w3 { p with g := ⟨gb, gt, gs, gL⟩ } { d with e := ⟨a2, c2⟩ } := hMM.out.log HB (g := ⟨gb, gt, gs, gL⟩) HE2.out hc2 hm2 (Pl.new HT2.out)
 obtain ⟨P, hP⟩ : ∃ P : Pn, P = { p with g := ⟨gb, gt, gs, gL⟩ } := ⟨_, rfl⟩
 obtain ⟨D, hD⟩ : ∃ D : Ad, D = { d with e := ⟨a2, c2⟩ } := ⟨_, rfl⟩
 have HMM := hm3
 rw [← hP, ← hD] at HMM
 rw [← hP] at hbd
 have HPP := hI_ (show addP p dt = { P with mat := setN P.id P.endI P.mat } by rw [hpp.out, hP]; rfl)
 have hmp : (P.mat.length + 1) * 16 ≤ 140737488355328 := by have := hbd.mat; omega
 have HYY := hI_ hyn.out
 have hK0 := hK
 have HBb := hI_ hb0
 have HPE := hI_ hP
 have HDE := hI_ hD
 clear hm3 hP hD hb0 hb1 hb2 hb3 hml
 go_wp2_with (first
  | (refine lBk rfl _ rfl rfl logT (by assumption) rfl ?_)
  | (refine wpList_store_sub rfl _ _ rfl rfl rfl logT HN rfl rfl rfl (L' := ndL { p with g := ⟨gb, gt, gs, gL⟩ } { d with e := ⟨a2, c2⟩ }) rfl ?_; intro w' hk hg; replace HR := HR.grown hg (by have := hyn.out; omega); replace HMM := HMM.grown hg (hK) HN.bx.ty bNd; replace HB := bGr HB hg HB.size (Nat.le_refl _); replace HN := hk; clear hk hg))
 have HN2 : Bk w' w.heap.size 34 (ndL P D) := by rw [HPE.out, HDE.out]; exact HN
 clear HN HL
 refine wp_region_z (S := fun w' => Bk w' w.heap.size 34 (ndL P D) ∧ Bk w' y 34 znA.toList ∧ NdM K w' P D ∧ Below w.heap.size w w') 8 (by kernel_rfl) (⟨HN2.later ((Below.refl _ _).drew), HR.later ((Below.refl _ _).drew), HMM.later ((Below.refl _ _).drew), HB.drew⟩) (fun HS => ?_)
 refine anyZ_take (i := 0) (v := ?_) rfl (by kernel_rfl) rfl (by kernel_rfl) (by kernel_rfl) (by kernel_rfl) (fun _ _ _ h => h) (Or.inl ⟨by rfl, ?hy0⟩) HS ?_
 case hy0 => (intro w0 hSw; go_simp; (try with_reducible rfl))
 try simp only [ly, Act.put]
 refine anyZ_take (i := 1) (v := (.slice D.m.a P.mat.length D.m.c)) rfl (by kernel_rfl) rfl (by kernel_rfl) (by kernel_rfl) (by kernel_rfl) (fun _ _ _ h => h) (Or.inl ⟨by rfl, ?hy1⟩) HS ?_
 case hy1 => (intro w0 hSw; exact exec_load_c _ rfl rfl ocM hSw.1 rfl)
 try simp only [ly, Act.put]
 refine anyZ_take (i := 2) (v := ?_) rfl (by kernel_rfl) rfl (by kernel_rfl) (by kernel_rfl) (by kernel_rfl) (fun _ _ _ h => h) (Or.inl ⟨by rfl, ?hy2⟩) HS ?_
 case hy2 => (intro w0 hSw; go_simp; (try with_reducible rfl))
 try simp only [ly, Act.put]
 refine anyZ_take (i := 3) (v := (.int .u64 P.id)) rfl (by kernel_rfl) rfl (by kernel_rfl) (by kernel_rfl) (by kernel_rfl) (fun _ _ _ h => h) (Or.inl ⟨by rfl, ?hy3⟩) HS ?_
 case hy3 => (intro w0 hSw; exact exec_load_c _ rfl rfl ocU hSw.1 rfl)
 try simp only [ly, Act.put]
 refine anyZ_take (i := 4) (v := (.agg (ndL P D).toArray)) rfl (by kernel_rfl) rfl (by kernel_rfl) (by kernel_rfl) (by kernel_rfl) (fun _ _ _ h => h) (Or.inl ⟨by rfl, ?hy4⟩) HS ?_
 case hy4 => (intro w0 hSw; exact eLb _ rfl rfl nodeT hSw.1 rfl)
 try simp only [ly, Act.put]
 refine anyZ_one (i := 5) (by kernel_rfl) rfl (fun KK hK => ?_)
 go_simp
 refine (pEnd_any P D hbd K _ HS.2.2.1).mono ?_
 rintro e w5 ⟨rfl, hb⟩
 go_wp2_with fail
 refine hK.out _ _ ⟨HS.1.later hb, HS.2.1.later hb, HS.2.2.1.later hb, HS.2.2.2.trans (hb.mono HS.2.2.2.size)⟩ (fun HS => ?_)
 clear hK
 try simp only [ly, Act.put]
 refine anyZ_one (i := 6) (by kernel_rfl) rfl (fun KK hK => ?_)
 go_simp
 refine (pSet_any P.id P.endI _ _ _ P.mat rfl hmp _ HS.2.2.1.m).mono ?_
 rintro e w6 ⟨v6, rfl, hcm, hb⟩
 obtain ⟨a6, c6, rfl, hM6, hT6⟩ := hcm.ty K
 have HM6 := HS.2.2.1.mat hb (c := c6) hM6 hT6
 clear hM6 hT6 hcm
 go_wp2_with fail
 refine hK.out _ _ ⟨HS.1.later hb, HS.2.1.later hb, HS.2.2.1.later hb, HS.2.2.2.trans (hb.mono HS.2.2.2.size)⟩ (fun HS => ?_)
 clear hK
 try simp only [ly, Act.put]
 refine anyZ_take (i := 7) (v := ?_) rfl (by kernel_rfl) rfl (by kernel_rfl) (by kernel_rfl) (by kernel_rfl) (fun _ _ _ h => h) (Or.inl ⟨by rfl, ?hy7⟩) HS ?_
 case hy7 => (intro w0 hSw; go_simp; (try with_reducible rfl))
 try simp only [ly, Act.put]
 refine anyZ_last (by kernel_rfl) rfl (by kernel_rfl) (fun KK hK => ?_)
 rw [if_pos (by rfl)]
 refine wp_store_c (v := .slice a6 (setN P.id P.endI P.mat).length c6) _ _ rfl rfl rfl ocM HS.1 rfl rfl rfl ?_
 intro w' hk hg
 have HR := HS.2.1.grown hg (by have := HYY.out; omega)
 have HM := HM6.grown hg hK0 HS.1.bx.ty bNd
 have HB := bGr HS.2.2.2 hg HS.2.2.2.size (Nat.le_refl _)
 have HN : Bk w' w.heap.size 34 (ndL { P with mat := setN P.id P.endI P.mat } { D with m := ⟨a6, c6⟩ }) := hk
 clear hk hg
 refine hK.out _ _ ?_
 clear hK
 try simp only [ly, Act.put]
 have HF := hI_ (show ∀ w1, Below w.heap.size w w1 → NdM K w1 { P with mat := setN P.id P.endI P.mat } { D with m := ⟨a6, c6⟩ } → AdP K w p dt (.returned (.tuple #[ndV { P with mat := setN P.id P.endI P.mat } { D with m := ⟨a6, c6⟩ }, .int .i64 0])) w1 from fun w1 hb hm => hA0.out (by first | rfl | trivial) _ _ w1 (by rw [HPP.out]) (by rw [HPP.out]; exact hm) hb)
 generalize setN P.id P.endI P.mat = MM at *
 go_wp2_with (first
  | (refine lBk rfl _ rfl rfl nodeT (by assumption) rfl ?_)
  | (refine sBk rfl _ _ rfl rfl rfl nodeT HR rfl rfl rfl ?_; intro w1 hk hg; replace HN := HN.grown hg (by have := hyn.out; omega); replace HM := HM.grown hg (by have := HYY.out; omega) HR.bx.ty bNd; replace HB := bGr HB hg HB.size (by have := hyn.out; omega); replace HR := hk; clear hk hg))
 refine bodyPost_ret (v := .tuple #[ndV { P with mat := MM } { D with m := ⟨a6, c6⟩ }, .int .i64 0]) (by rw [rBt Tryz.results19 _ rfl nodeT HR rfl]; rfl) rfl ?_
 exact HF.out _ HB HM

theorem setN_len (id u : Nat) : ∀ L : List Mk, (setN id u L).length ≤ L.length + 1
 | [] => by simp [setN]
 | x :: r => by
  unfold setN; split
  · simp
  · have := setN_len id u r; simp only [List.length_cons]; omega
theorem setN_lt {id u : Nat} (hu : u < 18446744073709551616) : ∀ {L : List Mk}, (∀ x ∈ L, x.n < 18446744073709551616) → ∀ x ∈ setN id u L, x.n < 18446744073709551616
 | [], _ => fun x hx => by simp only [setN, List.mem_singleton] at hx; subst hx; exact hu
 | y :: r, h => fun x hx => by
  unfold setN at hx
  split at hx
  · rcases List.mem_cons.1 hx with rfl | hx
    · exact hu
    · exact h x (List.mem_cons_of_mem _ hx)
  · rcases List.mem_cons.1 hx with rfl | hx
    · exact h x (List.mem_cons_self ..)
    · exact setN_lt hu (fun y hy => h y (List.mem_cons_of_mem _ hy)) x hx
theorem endI_lt {p : Pn} (h : Bd p) : p.endI < 18446744073709551616 := by
 have := h.base; have := h.ents
 unfold Pn.endI; omega
def lead0 (p : Pn) : Pn := { p with role := 3, lead := p.id, voices := [], beat := 3, next := [], mat := [] }
theorem bd_lead0 {p : Pn} (h : Bd p) : Bd (lead0 p) := ⟨h.id, h.may, h.term, h.vote, h.base, h.bt, h.snap, h.ents, h.data, h.commit, by simp [lead0], by simp [lead0], by simp [lead0], by simp [lead0], by simp [lead0], by simp [lead0]⟩
theorem bd_mat {p : Pn} (h : Bd p) {M : List Mk} (h1 : M.length * 16 ≤ 140737488353000) (h2 : ∀ x ∈ M, x.n < 18446744073709551616) : Bd { p with mat := M } := ⟨h.id, h.may, h.term, h.vote, h.base, h.bt, h.snap, h.ents, h.data, h.commit, h.voices, h.ids, h.next, h1, h2, h.nexts⟩
theorem bd_nxt {p : Pn} (h : Bd p) {M : List Mk} (h1 : M.length * 16 ≤ 140737488353000) (h2 : ∀ x ∈ M, x.n < 18446744073709551616) : Bd { p with next := M } := ⟨h.id, h.may, h.term, h.vote, h.base, h.bt, h.snap, h.ents, h.data, h.commit, h.voices, h.ids, h1, h.mat, h.marks, h2⟩
theorem bd_addP {p : Pn} (h : Bd p) {dt : ByteArray} (hd : dt.size ≤ 140737488351232) (h0 : addX p dt = 0) (hm : p.mat.length * 16 ≤ 140737488352900) : Bd (addP p dt) := by
 have h1 := bd_add h hd h0
 refine bd_mat (p := { p with g := addG p.g ⟨p.term, dt⟩ }) h1 ?_ (setN_lt (endI_lt h1) h.marks)
 have := setN_len p.id (Pn.endI { p with g := addG p.g ⟨p.term, dt⟩ }) p.mat
 show (setN p.id (Pn.endI { p with g := addG p.g ⟨p.term, dt⟩ }) p.mat).length * 16 ≤ _
 omega
theorem mark_step {e : Nat} (he : e < 18446744073709551616) : ∀ (O : List Nat) (s : List Mk × List Mk), (∀ x ∈ s.1, x.n < 18446744073709551616) → (∀ x ∈ s.2, x.n < 18446744073709551616) →
 (O.foldl (markStep e) s).1.length ≤ s.1.length + O.length ∧ (O.foldl (markStep e) s).2.length ≤ s.2.length + O.length ∧ (∀ x ∈ (O.foldl (markStep e) s).1, x.n < 18446744073709551616) ∧ ∀ x ∈ (O.foldl (markStep e) s).2, x.n < 18446744073709551616
 | [], s, h1, h2 => ⟨Nat.le_refl _, Nat.le_refl _, h1, h2⟩
 | q :: O, s, h1, h2 => by
  have hs : (markStep e s q).1.length ≤ s.1.length + 1 ∧ (markStep e s q).2.length ≤ s.2.length + 1 ∧ (∀ x ∈ (markStep e s q).1, x.n < 18446744073709551616) ∧ ∀ x ∈ (markStep e s q).2, x.n < 18446744073709551616 := by
   unfold markStep; split
   · exact ⟨by omega, by omega, h1, h2⟩
   · exact ⟨setN_len _ _ _, setN_len _ _ _, setN_lt he h1, setN_lt (by decide) h2⟩
  obtain ⟨i1, i2, i3, i4⟩ := mark_step he O (markStep e s q) hs.2.2.1 hs.2.2.2
  simp only [List.foldl_cons, List.length_cons]
  exact ⟨by omega, by omega, i3, i4⟩
theorem bd_remark {p : Pn} (h : Bd p) (h1 : p.next.length * 16 ≤ 140737488352800) (h2 : p.mat.length * 16 ≤ 140737488352800) : Bd (remarkP p) := by
 have ho := oth_len p.conf p.id (conf_may h.may)
 have e1 : (p.next.filter (keepM p)).length ≤ p.next.length := List.length_filter_le _ _
 have e2 : (p.mat.filter (keepM p)).length ≤ p.mat.length := List.length_filter_le _ _
 obtain ⟨i1, i2, i3, i4⟩ := mark_step (endI_lt h) p.oth (p.next.filter (keepM p), p.mat.filter (keepM p)) (fun x hx => h.nexts x (List.mem_filter.1 hx).1) (fun x hx => h.marks x (List.mem_filter.1 hx).1)
 have ho' : p.oth.length ≤ 10 := ho
 refine ⟨h.id, h.may, h.term, h.vote, h.base, h.bt, h.snap, h.ents, h.data, h.commit, h.voices, h.ids, ?_, ?_, i4, i3⟩
 · show (p.oth.foldl (markStep p.endI) (p.next.filter (keepM p), p.mat.filter (keepM p))).1.length * 16 ≤ _
   simp only at i1; omega
 · show (p.oth.foldl (markStep p.endI) (p.next.filter (keepM p), p.mat.filter (keepM p))).2.length * 16 ≤ _
   simp only at i2; omega
theorem bd_lead {p : Pn} (h : Bd p) (h0 : addX (lead0 p) ⟨#[]⟩ = 0) : Bd (addP (lead0 p) ⟨#[]⟩) ∧ Bd (remarkP (addP (lead0 p) ⟨#[]⟩)) := by
 have h1 : Bd (addP (lead0 p) ⟨#[]⟩) := bd_addP (bd_lead0 h) (by decide) h0 (by simp [lead0])
 have h2 : (addP (lead0 p) ⟨#[]⟩).mat.length ≤ 1 := setN_len _ _ []
 have h3 : (addP (lead0 p) ⟨#[]⟩).next = [] := rfl
 exact ⟨h1, bd_remark h1 (by rw [h3]; simp) (by omega)⟩
def RmOk : Prop := ∀ (p : Pn) (d : Ad), Bd p → ∀ (K : Nat) (w : World), K ≤ w.heap.size → NdM K w p d → Calls Tryz.prog 127 #[ndV p d] w (NvP K w (remarkP p))
theorem leadP_eq (p : Pn) : leadP p = if addX (lead0 p) ⟨#[]⟩ = 0 then spreadP (remarkP (addP (lead0 p) ⟨#[]⟩)) else (followP (lead0 p) p.term, []) := rfl

def pre (b : UInt8) (s : ByteArray) : ByteArray := ⟨#[b]⟩ ++ s
def offX (p : Pn) (s : ByteArray) : Int := if p.role ≠ 3 then 10 else if 4096 ≤ s.size then 4 else addX p (pre 100 s)
def offP (p : Pn) (s : ByteArray) : Pn × List Mg := spreadP (addP p (pre 100 s))
def busyB (p : Pn) : Bool := !((tAt p.g.base p.g.bt p.g.L p.commit).2 && decide ((tAt p.g.base p.g.bt p.g.L p.commit).1 = p.term)) || (lastC (fromL p.g.base p.g.L ((p.commit + 1) % 18446744073709551616) p.g.L.length)).isSome
def nxC (p : Pn) (k : Int) (i : Nat) : (List Nat × List Nat) × Int := nxtF p.conf.V p.conf.L k i
def chgD (p : Pn) (k : Int) (i : Nat) : ByteArray := pre 99 ⟨(byG (nxC p k i).1.1 (nxC p k i).1.2).toArray⟩
def chgX (p : Pn) (k : Int) (i : Nat) : Int := if p.role ≠ 3 then 10 else if k = 3 ∧ i = p.id then 9 else if busyB p then 11 else if (nxC p k i).2 ≠ 0 then (nxC p k i).2 else addX p (chgD p k i)
def chgP (p : Pn) (k : Int) (i : Nat) : Pn × List Mg := spreadP (remarkP (addP p (chgD p k i)))
def snapD (c : Cf) (app : ByteArray) : ByteArray := ⟨(numB (byG c.V c.L).length ++ byG c.V c.L).toArray⟩ ++ app
def cmpS (p : Pn) (i : Nat) (app : ByteArray) : ByteArray := snapD (confA p.c { p.g with L := p.g.L.take (i - p.g.base) }) app
def cmpX (p : Pn) (i : Nat) (app : ByteArray) : Int := if p.commit < i ∨ i ≤ p.g.base ∨ p.endI < i then 1 else if 4096 < (cmpS p i app).size then 4 else 0
def cmpP (p : Pn) (i : Nat) (app : ByteArray) : Pn := { p with g := insG p.g i (tAt p.g.base p.g.bt p.g.L i).1 (cmpS p i app) }
def newP (id : Nat) (c : Cf) (t v : Nat) (g : Lg) : Pn := ⟨id, c, t, v, g, 0, 0, g.base, [], [], [], 20, 20, 0, 0⟩
structure Ac where
 k : Int
 n : Nat
 m : Mg
 s : ByteArray
 xk : Int
 xi : Nat
def doesP (p : Pn) (a : Ac) : Pn :=
 if a.k = 1 then (tickP p a.n).1
 else if a.k = 2 then (hearP p a.m).1
 else if a.k = 3 then (if offX p a.s = 0 then (offP p a.s).1 else p)
 else if a.k = 4 then (if chgX p a.xk a.xi = 0 then (chgP p a.xk a.xi).1 else p)
 else if a.k = 5 then (if cmpX p a.n a.s = 0 then cmpP p a.n a.s else p)
 else p

structure Tv (p q : Pn) : Prop where
 id : q.id = p.id
 term : p.term ≤ q.term
 vote : q.term = p.term → p.vote ≠ 0 → q.vote = p.vote
 own : (q.role = 2 ∨ q.role = 3) → p.term < q.term → q.vote = p.id
theorem Tv.refl (p : Pn) : Tv p p := ⟨rfl, Nat.le_refl _, fun _ _ => rfl, fun _ h => absurd h (Nat.lt_irrefl _)⟩
theorem Tv.same {p q : Pn} (h1 : q.id = p.id) (h2 : q.term = p.term) (h3 : q.vote = p.vote) : Tv p q := ⟨h1, Nat.le_of_eq h2.symm, fun _ _ => h3, fun _ h => absurd h (by omega)⟩
theorem Tv.then {p q r : Pn} (h : Tv p q) (h1 : r.id = q.id) (h2 : r.term = q.term) (h3 : r.vote = q.vote) (h4 : (r.role = 2 ∨ r.role = 3) → (q.role = 2 ∨ q.role = 3) ∨ q.term = p.term) : Tv p r :=
 ⟨h1.trans h.id, by rw [h2]; exact h.term, fun e hv => by rw [h3]; exact h.vote (by rw [← h2]; exact e) hv, fun hr hlt => by
  rw [h3]
  rcases h4 hr with h5 | h5
  · exact h.own h5 (by rw [← h2]; exact hlt)
  · omega⟩
theorem tv_follow (p : Pn) (t : Nat) : Tv p (followP p t) := by
 refine ⟨rfl, ?_, fun e hv => ?_, fun hr _ => ?_⟩
 · show p.term ≤ (if p.term < t then t else p.term); split <;> omega
 · have e : (if p.term < t then t else p.term) = p.term := e
   show (if p.term < t then 0 else p.vote) = p.vote
   split at e <;> rename_i h
   · omega
   · rw [if_neg h]
 · rcases hr with hr | hr <;> exact absurd hr (by simp [followP])
theorem commit_same (p : Pn) : (commitP p).id = p.id ∧ (commitP p).term = p.term ∧ (commitP p).vote = p.vote ∧ (commitP p).role = p.role := by
 unfold commitP; split <;> simp
theorem lead_same (p : Pn) : (leadP p).1.id = p.id ∧ (leadP p).1.term = p.term ∧ (leadP p).1.vote = p.vote := by
 rw [leadP_eq]; split
 · obtain ⟨h1, h2, h3, _⟩ := commit_same (remarkP (addP (lead0 p) ⟨#[]⟩))
   exact ⟨h1, h2, h3⟩
 · simp [followP, lead0]
theorem countC_same (p : Pn) : (countC p).1.id = p.id ∧ (countC p).1.term = p.term ∧ (countC p).1.vote = p.vote := by
 unfold countC; split
 · exact lead_same p
 · split
   · simp [followP]
   · exact ⟨rfl, rfl, rfl⟩
theorem tv_stand {p : Pn} (hb : p.term + 1 < 18446744073709551616) : Tv p (standP p).1 ∧ (standP p).1.term = p.term + 1 ∧ (standP p).1.vote = p.id := by
 obtain ⟨h1, h2, h3⟩ := countC_same (standQ p)
 have e : (standQ p).term = p.term + 1 := Nat.mod_eq_of_lt hb
 refine ⟨⟨h1, ?_, fun e2 => ?_, fun _ _ => h3⟩, h2.trans e, h3⟩
 · show p.term ≤ (countC (standQ p)).1.term; omega
 · have e2 : (countC (standQ p)).1.term = p.term := e2
   omega
theorem tv_count {p : Pn} (hb : p.role = 1 → p.term + 1 < 18446744073709551616) : Tv p (countP p).1 := by
 unfold countP; split
 · split
   · rename_i h; exact (tv_stand (hb h)).1
   · obtain ⟨h1, h2, h3⟩ := lead_same p; exact Tv.same h1 h2 h3
 · split
   · exact tv_follow p p.term
   · exact Tv.refl p
theorem tv_beat (p : Pn) : Tv p (beatP p).1 := by unfold beatP; split <;> exact Tv.same rfl rfl rfl
theorem Tv.from {p p' q : Pn} (h : Tv p' q) (h1 : p'.id = p.id) (h2 : p'.term = p.term) (h3 : p'.vote = p.vote) : Tv p q :=
 ⟨h.id.trans h1, by rw [← h2]; exact h.term, fun e hv => by rw [← h3]; exact h.vote (by rw [h2]; exact e) (by rw [h3]; exact hv), fun hr hl => by rw [← h1]; exact h.own hr (by rw [h2]; exact hl)⟩
theorem tv_ask {p : Pn} (hb : p.term + 1 < 18446744073709551616) : Tv p (askP p).1 := by
 have h : Tv (askQ p) (countP (askQ p)).1 := tv_count (fun _ => hb)
 exact h.from rfl rfl rfl
theorem tv_tick (p : Pn) (n : Nat) : Tv p (tickP p n).1 := by
 unfold tickP; split
 · exact (tv_beat (lessH p)).from rfl rfl rfl
 · split
   · exact Tv.same rfl rfl rfl
   · split
     · exact Tv.same rfl rfl rfl
     · rename_i h
       exact (tv_ask (p := { lessH p with span := 10 + (n % 10 : Nat), wait := 10 + (n % 10 : Nat) }) (by show p.term + 1 < _; omega)).from rfl rfl rfl
theorem tv_say {p : Pn} {m : Mg} (hb : p.role = 1 → p.term + 1 < 18446744073709551616) : Tv p (sayP p m).1 := (tv_count (p := { p with voices := sayL p.voices m.fr m.ok }) hb).from rfl rfl rfl
theorem foret_cases (p : Pn) (m : Mg) : foretP p m = sayP p m ∨ foretP p m = (followP p m.term, []) ∨ foretP p m = (p, []) := by
 unfold foretP
 by_cases h : p.role = 1 ∧ m.term = (if m.ok then (p.term + 1) % 18446744073709551616 else p.term)
 · exact .inl (if_pos h)
 · rw [if_neg h]
   by_cases h2 : m.ok = false ∧ p.term < m.term
   · exact .inr (.inl (if_pos h2))
   · exact .inr (.inr (if_neg h2))
theorem tv_fore {p : Pn} {m : Mg} (hb : p.role = 1 → p.term + 1 < 18446744073709551616) : Tv p (foretP p m).1 := by
 unfold foretP
 by_cases h : p.role = 1 ∧ m.term = (if m.ok then (p.term + 1) % 18446744073709551616 else p.term)
 · rw [if_pos h]
   exact tv_say hb
 · rw [if_neg h]
   by_cases h2 : m.ok = false ∧ p.term < m.term
   · rw [if_pos h2]; exact tv_follow p m.term
   · rw [if_neg h2]; exact Tv.refl p
theorem ans_cases (s : Se) (t fr lt li : Nat) : ansS s ⟨t, fr, lt, li, false⟩ = (s, false) ∨
 (s.t < t ∧ (ansS s ⟨t, fr, lt, li, false⟩).1.t = t ∧ (((ansS s ⟨t, fr, lt, li, false⟩).2 = true ∧ (ansS s ⟨t, fr, lt, li, false⟩).1.v = fr) ∨ ((ansS s ⟨t, fr, lt, li, false⟩).2 = false ∧ (ansS s ⟨t, fr, lt, li, false⟩).1.v = 0))) ∨
 (¬ s.t < t ∧ (ansS s ⟨t, fr, lt, li, false⟩).1.t = s.t ∧ (((ansS s ⟨t, fr, lt, li, false⟩).2 = true ∧ (ansS s ⟨t, fr, lt, li, false⟩).1.v = fr ∧ (s.v = 0 ∨ s.v = fr)) ∨ ((ansS s ⟨t, fr, lt, li, false⟩).2 = false ∧ (ansS s ⟨t, fr, lt, li, false⟩).1.v = s.v))) := by
 simp only [ansS, Bool.false_eq_true, if_false]
 by_cases h1 : t < s.t ∨ (s.t < t ∧ s.h = true)
 · left; rw [if_pos h1]
 · right
   simp only [if_neg h1]
   by_cases h2 : s.t < t
   · left
     simp only [if_pos h2]
     split
     · exact ⟨h2, rfl, .inl ⟨rfl, rfl⟩⟩
     · exact ⟨h2, rfl, .inr ⟨rfl, rfl⟩⟩
   · right
     simp only [if_neg h2]
     split
     · rename_i h3
       simp only [Bool.and_eq_true, openB, Bool.or_eq_true, decide_eq_true_eq] at h3
       refine ⟨h2, rfl, .inl ⟨rfl, rfl, ?_⟩⟩
       rcases h3.1.2 with h4 | h4
       · exact .inl h4
       · exact .inr h4
     · exact ⟨h2, rfl, .inr ⟨rfl, rfl⟩⟩
theorem ans_vote (p : Pn) (m : Mg) : p.term ≤ (ansS (seatP p) ⟨m.term, m.fr, m.lt, m.i, false⟩).1.t ∧
 ((ansS (seatP p) ⟨m.term, m.fr, m.lt, m.i, false⟩).1.t = p.term → p.vote ≠ 0 → (ansS (seatP p) ⟨m.term, m.fr, m.lt, m.i, false⟩).1.v = p.vote) ∧
 ((ansS (seatP p) ⟨m.term, m.fr, m.lt, m.i, false⟩).2 = true → (ansS (seatP p) ⟨m.term, m.fr, m.lt, m.i, false⟩).1.v = m.fr ∧ ((ansS (seatP p) ⟨m.term, m.fr, m.lt, m.i, false⟩).1.t = p.term → p.vote ≠ 0 → p.vote = m.fr)) := by
 have e1 : (seatP p).t = p.term := rfl
 have e2 : (seatP p).v = p.vote := rfl
 rcases ans_cases (seatP p) m.term m.fr m.lt m.i with h | ⟨h1, h2, h3⟩ | ⟨h1, h2, h3⟩
 · rw [h]; exact ⟨Nat.le_refl _, fun _ _ => rfl, fun h => by simp at h⟩
 · rw [e1] at h1
   rw [h2]
   refine ⟨Nat.le_of_lt h1, fun e => by omega, fun hg => ?_⟩
   rcases h3 with h3 | h3
   · exact ⟨h3.2, fun e => by omega⟩
   · rw [h3.1] at hg; simp at hg
 · rw [e1] at h2
   rw [h2]
   rcases h3 with ⟨h3, h4, h5⟩ | ⟨h3, h4⟩
   · rw [e2] at h5
     rw [h4]
     refine ⟨Nat.le_refl _, fun _ hv => ?_, fun _ => ⟨rfl, fun _ hv => ?_⟩⟩
     · omega
     · omega
   · rw [h4, e2]
     exact ⟨Nat.le_refl _, fun _ _ => rfl, fun hg => by rw [h3] at hg; simp at hg⟩
theorem vote_term (p : Pn) (m : Mg) : (voteP p m).term = (ansS (seatP p) ⟨m.term, m.fr, m.lt, m.i, false⟩).1.t ∧ (voteP p m).id = p.id ∧ (voteP p m).vote = (ansS (seatP p) ⟨m.term, m.fr, m.lt, m.i, false⟩).1.v := by
 have h := (ans_vote p m).1
 refine ⟨?_, ?_, rfl⟩
 · show (voteQ p m).term = _
   unfold voteQ
   split
   · rename_i h2; simp only [followP]; rw [if_pos h2]
   · simp only; omega
 · show (voteQ p m).id = _
   unfold voteQ
   split <;> rfl
theorem tv_vote (p : Pn) (m : Mg) : Tv p (voteP p m) := by
 obtain ⟨e1, e2, e3⟩ := vote_term p m
 obtain ⟨h1, h2, _⟩ := ans_vote p m
 refine ⟨e2, by rw [e1]; exact h1, fun e hv => by rw [e3]; exact h2 (by rw [← e1]; exact e) hv, fun hr hl => ?_⟩
 rw [e1] at hl
 have hr : (voteQ p m).role = 2 ∨ (voteQ p m).role = 3 := hr
 unfold voteQ at hr
 rw [if_pos hl] at hr
 rcases hr with hr | hr <;> exact absurd hr (by simp [followP])
theorem tv_up (p : Pn) (t : Nat) : Tv p (upP p t) := by
 unfold upP; split
 · exact tv_follow p t
 · exact Tv.refl p
theorem up_term (p : Pn) (t : Nat) : (upP p t).id = p.id ∧ (p.term < t → (upP p t).role = 0 ∧ (upP p t).term = t) ∧ (¬ p.term < t → upP p t = p) := by
 unfold upP
 refine ⟨by split <;> rfl, fun h => ?_, fun h => by rw [if_neg h]⟩
 rw [if_pos h]; simp [followP, h]
theorem heard_same (p : Pn) (fr : Nat) : (heardP p fr).id = p.id ∧ (heardP p fr).term = p.term ∧ (heardP p fr).vote = p.vote ∧ (heardP p fr).role = 0 := by simp [heardP, followP]
theorem join_same (p : Pn) (m : Mg) : (joinP p m).1.id = p.id ∧ (joinP p m).1.term = p.term ∧ (joinP p m).1.vote = p.vote ∧ (joinP p m).1.role = p.role := by
 unfold joinP; split <;> simp
theorem inst_same (p : Pn) (m : Mg) : (instP p m).1.id = p.id ∧ (instP p m).1.term = p.term ∧ (instP p m).1.vote = p.vote ∧ (instP p m).1.role = p.role := by
 unfold instP instQ; simp only; split <;> simp
theorem reply_same (p : Pn) (m : Mg) : (replyP p m).1.id = p.id ∧ (replyP p m).1.term = p.term ∧ (replyP p m).1.vote = p.vote ∧ (replyP p m).1.role = p.role := by
 unfold replyP; split
 · simp
 · split
   · exact ⟨rfl, rfl, rfl, rfl⟩
   · split
     · simp
     · obtain ⟨h1, h2, h3, h4⟩ := commit_same { p with mat := setN m.fr (max (mrkN m.fr p.mat) m.i) p.mat, next := setN m.fr ((max (mrkN m.fr p.mat) m.i + 1) % 18446744073709551616) p.next }
       split <;> exact ⟨h1, h2, h3, h4⟩
theorem tv_term (p : Pn) (m : Mg) : Tv p (termP p m).1 := by
 have hu := tv_up p m.term
 unfold termP
 split
 · exact hu
 · split
   · exact hu
   · obtain ⟨e1, e2, e3, e4⟩ := heard_same (upP p m.term) m.fr
     split
     · obtain ⟨h1, h2, h3, h4⟩ := join_same (heardP (upP p m.term) m.fr) m
       exact hu.then (h1.trans e1) (h2.trans e2) (h3.trans e3) (fun hr => by rw [h4, e4] at hr; omega)
     · split
       · obtain ⟨h1, h2, h3, h4⟩ := inst_same (heardP (upP p m.term) m.fr) m
         exact hu.then (h1.trans e1) (h2.trans e2) (h3.trans e3) (fun hr => by rw [h4, e4] at hr; omega)
       · split
         · obtain ⟨h1, h2, h3, h4⟩ := reply_same (upP p m.term) m
           exact hu.then h1 h2 h3 (fun hr => .inl (by rw [h4] at hr; exact hr))
         · split
           · rename_i hr
             have hs : Tv (upP p m.term) (sayP (upP p m.term) m).1 := tv_say (fun h => by omega)
             by_cases hl : p.term < m.term
             · have := ((up_term p m.term).2.1 hl).1; omega
             · rw [(up_term p m.term).2.2 hl] at hs ⊢
               exact hs
           · exact hu
theorem tv_hear {p : Pn} (hb : p.role = 1 → p.term + 1 < 18446744073709551616) (m : Mg) : Tv p (hearP p m).1 := by
 unfold hearP
 split
 · exact Tv.refl p
 · rename_i h
   split
   · exact Tv.refl p
   · split
     · exact tv_vote p m
     · split
       · exact tv_fore hb
       · split
         · exact tv_term p m
         · exact Tv.refl p
theorem tv_off (p : Pn) (s : ByteArray) : Tv p (offP p s).1 := by
 obtain ⟨h1, h2, h3, _⟩ := commit_same (addP p (pre 100 s))
 exact Tv.same h1 h2 h3
theorem tv_chg (p : Pn) (k : Int) (i : Nat) : Tv p (chgP p k i).1 := by
 obtain ⟨h1, h2, h3, _⟩ := commit_same (remarkP (addP p (chgD p k i)))
 exact Tv.same h1 h2 h3
theorem tv_does {p : Pn} (hb : p.role = 1 → p.term + 1 < 18446744073709551616) (a : Ac) : Tv p (doesP p a) := by
 unfold doesP
 split
 · exact tv_tick p a.n
 · split
   · exact tv_hear hb a.m
   · split
     · split
       · exact tv_off p a.s
       · exact Tv.refl p
     · split
       · split
         · exact tv_chg p a.xk a.xi
         · exact Tv.refl p
       · split
         · split
           · exact Tv.same rfl rfl rfl
           · exact Tv.refl p
         · exact Tv.refl p

theorem hd_commit (p : Pn) : (commitP p).heard = p.heard := by unfold commitP; split <;> rfl
theorem hd_lead (p : Pn) : (leadP p).1.heard = p.heard := by
 rw [leadP_eq]; split
 · show (commitP (remarkP (addP (lead0 p) ⟨#[]⟩))).heard = _
   rw [hd_commit]; rfl
 · rfl
theorem hd_countC (p : Pn) : (countC p).1.heard = p.heard := by
 unfold countC; split
 · exact hd_lead p
 · split <;> rfl
theorem hd_count (p : Pn) : (countP p).1.heard = p.heard := by
 unfold countP; split
 · split
   · exact hd_countC (standQ p)
   · exact hd_lead p
 · split <;> rfl
theorem hd_beat (p : Pn) : (beatP p).1.heard = p.heard := by unfold beatP; split <;> rfl
theorem hd_less {p : Pn} (h : p.heard ≤ 10) : (lessH p).heard ≤ 10 := by
 show (if 0 < p.heard then p.heard - 1 else p.heard) ≤ 10
 split <;> omega
theorem hd_tick {p : Pn} (h : p.heard ≤ 10) (n : Nat) : (tickP p n).1.heard ≤ 10 := by
 have hl := hd_less h
 unfold tickP; split
 · rw [hd_beat]; exact hl
 · split
   · exact hl
   · split
     · exact hl
     · show (countP (askQ { lessH p with span := 10 + (n % 10 : Nat), wait := 10 + (n % 10 : Nat) })).1.heard ≤ 10
       rw [hd_count]; exact hl
theorem hd_say {p : Pn} (h : p.heard ≤ 10) (m : Mg) : (sayP p m).1.heard ≤ 10 := by
 show (countP { p with voices := sayL p.voices m.fr m.ok }).1.heard ≤ 10
 rw [hd_count]; exact h
theorem hd_vote {p : Pn} (h : p.heard ≤ 10) (m : Mg) : (voteP p m).heard ≤ 10 := by
 show (voteQ p m).heard ≤ 10
 unfold voteQ; split <;> exact h
theorem hd_up {p : Pn} (h : p.heard ≤ 10) (t : Nat) : (upP p t).heard ≤ 10 := by
 unfold upP; split <;> exact h
theorem hd_join {p : Pn} (h : p.heard ≤ 10) (m : Mg) : (joinP p m).1.heard ≤ 10 := by
 unfold joinP; split <;> exact h
theorem hd_inst {p : Pn} (h : p.heard ≤ 10) (m : Mg) : (instP p m).1.heard ≤ 10 := by
 show (instQ p m).heard ≤ 10
 unfold instQ; split <;> exact h
theorem hd_reply {p : Pn} (h : p.heard ≤ 10) (m : Mg) : (replyP p m).1.heard ≤ 10 := by
 have ho : (okQ p m).heard ≤ 10 := by unfold okQ; rw [hd_commit]; exact h
 unfold replyP; split
 · exact h
 · split
   · exact h
   · split
     · exact h
     · split <;> exact ho
theorem hd_term {p : Pn} (h : p.heard ≤ 10) (m : Mg) : (termP p m).1.heard ≤ 10 := by
 have hu := hd_up h m.term
 have hh : (heardP (upP p m.term) m.fr).heard ≤ 10 := by show (10 : Int) ≤ 10; omega
 unfold termP; split
 · exact hu
 · split
   · exact hu
   · split
     · exact hd_join hh m
     · split
       · exact hd_inst hh m
       · split
         · exact hd_reply hu m
         · split
           · exact hd_say hu m
           · exact hu
theorem hd_hear {p : Pn} (h : p.heard ≤ 10) (m : Mg) : (hearP p m).1.heard ≤ 10 := by
 unfold hearP; split
 · exact h
 · split
   · exact h
   · split
     · exact hd_vote h m
     · split
       · rcases foret_cases p m with e | e | e <;> rw [e]
         · exact hd_say h m
         · exact h
         · exact h
       · split
         · exact hd_term h m
         · exact h
theorem hd_off {p : Pn} (h : p.heard ≤ 10) (s : ByteArray) : (offP p s).1.heard ≤ 10 := by
 show (commitP (addP p (pre 100 s))).heard ≤ 10
 rw [hd_commit]; exact h
theorem hd_does {p : Pn} (h : p.heard ≤ 10) (a : Ac) : (doesP p a).heard ≤ 10 := by
 unfold doesP; split
 · exact hd_tick h a.n
 · split
   · exact hd_hear h a.m
   · split
     · split
       · exact hd_off h a.s
       · exact h
     · split
       · split
         · show (commitP (remarkP (addP p (chgD p a.xk a.xi)))).heard ≤ 10
           rw [hd_commit]; exact h
         · exact h
       · split
         · split <;> exact h
         · exact h

structure Mk1 (q : Pn) (x : Mg) : Prop where
 fr : x.fr = q.id
 dst : x.dst ≠ q.id ∧ 1 ≤ x.dst ∧ x.dst ≤ 63
 es : x.es.length ≤ 8
 kind : x.kind = 1 ∨ x.kind = 3 ∨ x.kind = 5 ∨ x.kind = 6
 term : x.kind ≠ 1 → x.term ≤ q.term
 led : x.kind = 5 ∨ x.kind = 6 → q.role = 3 ∧ x.term = q.term ∧ x.commit ≤ q.commit
theorem oth_ok {p : Pn} (_ : mayB p.c.V p.c.L = true) {y : Nat} (hy : y ∈ p.oth) : y ≠ p.id ∧ 1 ≤ y ∧ y ≤ 63 := by
 have h := hy
 unfold Pn.oth othersL at h
 rw [List.mem_filter, List.mem_range] at h
 obtain ⟨h1, h2⟩ := h
 simp only [Bool.and_eq_true, decide_eq_true_eq, Bool.not_eq_true', decide_eq_false_iff_not] at h2
 exact ⟨h2.2.1, h2.1, by omega⟩
theorem riv_ok {p : Pn} (hm : mayB p.c.V p.c.L = true) {y : Nat} (hy : y ∈ rivalsL p.conf p.id) : y ≠ p.id ∧ 1 ≤ y ∧ y ≤ 63 := by
 obtain ⟨_, h3, _⟩ := mayB_iff.1 (conf_may hm)
 unfold rivalsL at hy
 rw [List.mem_filter] at hy
 obtain ⟨h1, h2⟩ := hy
 simp only [Bool.not_eq_true', decide_eq_false_iff_not] at h2
 exact ⟨h2, h3 y h1⟩
theorem port_ok {p : Pn} {y : Nat} (hr : p.role = 3) (hy : y ≠ p.id ∧ 1 ≤ y ∧ y ≤ 63) : Mk1 p (portG p y) := by
 unfold portG
 split
 · exact ⟨rfl, hy, by simp [msgG], by simp [msgG], fun _ => Nat.le_refl _, fun _ => ⟨hr, rfl, Nat.zero_le _⟩⟩
 · refine ⟨rfl, hy, ?_, by simp [msgG], fun _ => Nat.le_refl _, fun _ => ⟨hr, rfl, Nat.le_refl _⟩⟩
   simp only [fromL]
   split
   · simp
   · simp only [List.length_take]; omega
theorem req_ok {p q : Pn} {k : Int} {t y : Nat} (hid : q.id = p.id) (hk : k = 1 ∨ (k = 3 ∧ t ≤ q.term)) (hy : y ≠ p.id ∧ 1 ≤ y ∧ y ≤ 63) : Mk1 q (reqG p k t y) := by
 refine ⟨hid.symm, by rw [hid]; exact hy, by simp [reqG, msgG], ?_, fun h => ?_, fun h => ?_⟩
 · show k = 1 ∨ k = 3 ∨ k = 5 ∨ k = 6
   omega
 · have h : k ≠ 1 := h
   show t ≤ q.term
   omega
 · have h : k = 5 ∨ k = 6 := h
   omega
theorem spread_ok {p : Pn} (hm : mayB p.c.V p.c.L = true) (hr : p.role = 3) : ∀ x ∈ (spreadP p).2, Mk1 (spreadP p).1 x := by
 intro x hx
 obtain ⟨y, hy, rfl⟩ := List.mem_map.1 hx
 obtain ⟨h1, _, _, h4⟩ := commit_same p
 have hc : (commitP p).c = p.c := by unfold commitP; split <;> rfl
 exact port_ok (h4.trans hr) (oth_ok (by show mayB (commitP p).c.V (commitP p).c.L = true; rw [hc]; exact hm) hy)
theorem lead_ok {p : Pn} (hm : mayB p.c.V p.c.L = true) : ∀ x ∈ (leadP p).2, Mk1 (leadP p).1 x := by
 rw [leadP_eq]; split
 · exact spread_ok (p := remarkP (addP (lead0 p) ⟨#[]⟩)) hm rfl
 · intro x hx; cases hx
theorem countC_ok {p : Pn} (hm : mayB p.c.V p.c.L = true) : ∀ x ∈ (countC p).2, Mk1 (countC p).1 x := by
 unfold countC; split
 · exact lead_ok hm
 · split <;> (intro x hx; cases hx)
theorem stand_ok {p : Pn} (hm : mayB p.c.V p.c.L = true) : ∀ x ∈ (standP p).2, Mk1 (standP p).1 x := by
 intro x hx
 obtain ⟨h1, h2, _⟩ := countC_same (standQ p)
 rcases List.mem_append.1 hx with hx | hx
 · obtain ⟨y, hy, rfl⟩ := List.mem_map.1 hx
   exact req_ok (p := standQ p) (q := (countC (standQ p)).1) h1 (.inr ⟨rfl, Nat.le_of_eq h2.symm⟩) (riv_ok hm hy)
 · exact countC_ok (p := standQ p) hm x hx
theorem count_ok {p : Pn} (hm : mayB p.c.V p.c.L = true) : ∀ x ∈ (countP p).2, Mk1 (countP p).1 x := by
 unfold countP; split
 · split
   · exact stand_ok hm
   · exact lead_ok hm
 · split <;> (intro x hx; cases hx)
theorem count_id (p : Pn) : (countP p).1.id = p.id := by
 unfold countP; split
 · split
   · exact (countC_same (standQ p)).1
   · exact (lead_same p).1
 · split <;> rfl
theorem ask_ok {p : Pn} (hm : mayB p.c.V p.c.L = true) : ∀ x ∈ (askP p).2, Mk1 (askP p).1 x := by
 intro x hx
 rcases List.mem_append.1 hx with hx | hx
 · obtain ⟨y, hy, rfl⟩ := List.mem_map.1 hx
   exact req_ok (p := askQ p) (q := (countP (askQ p)).1) (count_id _) (.inl rfl) (riv_ok hm hy)
 · exact count_ok (p := askQ p) hm x hx
theorem beat_ok {p : Pn} (hm : mayB p.c.V p.c.L = true) (hr : p.role = 3) : ∀ x ∈ (beatP p).2, Mk1 (beatP p).1 x := by
 unfold beatP; split
 · intro x hx; cases hx
 · intro x hx
   obtain ⟨y, hy, rfl⟩ := List.mem_map.1 hx
   exact port_ok (p := { p with beat := 3 }) hr (oth_ok hm hy)
theorem tick_ok {p : Pn} (hm : mayB p.c.V p.c.L = true) (n : Nat) : ∀ x ∈ (tickP p n).2, Mk1 (tickP p n).1 x := by
 unfold tickP; split
 · rename_i h; exact beat_ok (p := lessH p) hm h
 · split
   · intro x hx; cases hx
   · split
     · intro x hx; cases hx
     · exact ask_ok (p := { lessH p with span := 10 + (n % 10 : Nat), wait := 10 + (n % 10 : Nat) }) hm
theorem off_ok {p : Pn} (hm : mayB p.c.V p.c.L = true) (s : ByteArray) (hr : p.role = 3) : ∀ x ∈ (offP p s).2, Mk1 (offP p s).1 x := spread_ok (p := addP p (pre 100 s)) hm hr
structure Mk2 (p q : Pn) (m x : Mg) : Prop where
 fr : x.fr = q.id
 dst : x.dst ≠ q.id ∧ 1 ≤ x.dst ∧ x.dst ≤ 63
 es : x.es.length ≤ 8
 ans : x.kind = 2 ∨ x.kind = 4 ∨ x.kind = 7 → x.dst = m.fr
 term : x.kind ≠ 1 → ¬ (x.kind = 2 ∧ x.ok = true) → x.term ≤ q.term
 led : x.kind = 5 ∨ x.kind = 6 → q.role = 3 ∧ x.term = q.term ∧ x.commit ≤ q.commit
 voted : x.kind = 4 → x.ok = true → x.term = q.term ∧ x.dst = m.fr ∧ q.vote = m.fr ∧ (q.term = p.term → p.vote ≠ 0 → p.vote = m.fr) ∧ ((q.role = 2 ∨ q.role = 3) → q.term = p.term)
theorem Mk1.hear {p q : Pn} {m x : Mg} (h : Mk1 q x) : Mk2 p q m x :=
 ⟨h.fr, h.dst, h.es, fun e => by have := h.kind; omega, fun e _ => h.term e, h.led, fun e => by have := h.kind; omega⟩
theorem reply_mk {p q : Pn} {m : Mg} {ok : Bool} {i : Nat} (hid : m.fr ≠ q.id ∧ 1 ≤ m.fr ∧ m.fr ≤ 63) : Mk2 p q m (replyG q m.fr ok i) :=
 ⟨rfl, hid, by simp [replyG, msgG], fun _ => rfl, fun _ _ => Nat.le_refl _, fun h => by simp [replyG, msgG] at h, fun h => by simp [replyG, msgG] at h⟩
theorem Mk2.same {p q r : Pn} {m x : Mg} (h : Mk2 p q m x) (h1 : r.id = q.id) (h2 : r.term = q.term) (h3 : r.vote = q.vote) (h4 : r.role = q.role) (h5 : q.commit ≤ r.commit) : Mk2 p r m x :=
 ⟨h.fr.trans h1.symm, by rw [h1]; exact h.dst, h.es, h.ans, fun e f => by rw [h2]; exact h.term e f, fun e => by
  obtain ⟨a, b, c⟩ := h.led e
  exact ⟨h4.trans a, b.trans h2.symm, Nat.le_trans c h5⟩, fun e f => by
  obtain ⟨a, b, c, d, e'⟩ := h.voted e f
  rw [h2, h3, h4]; exact ⟨a, b, c, d, e'⟩⟩
theorem reply_out {p : Pn} {m : Mg} (hid : m.fr ≠ p.id ∧ 1 ≤ m.fr ∧ m.fr ≤ 63) (p0 : Pn) : ∀ x ∈ (replyP p m).2, Mk2 p0 (replyP p m).1 m x := by
 unfold replyP; split
 · intro x hx; cases hx
 · rename_i h
   have hr : p.role = 3 := by
    by_cases e : p.role = 3
    · exact e
    · exact absurd (Or.inl e) h
   split
   · intro x hx
     rw [List.mem_singleton.1 hx]
     exact (port_ok (p := backP p m) hr hid).hear
   · split
     · intro x hx; cases hx
     · split
       · intro x hx; cases hx
       · intro x hx
         rw [List.mem_singleton.1 hx]
         obtain ⟨h1, _, _, h4⟩ := commit_same { p with mat := setN m.fr (max (mrkN m.fr p.mat) m.i) p.mat, next := setN m.fr ((max (mrkN m.fr p.mat) m.i + 1) % 18446744073709551616) p.next }
         exact (port_ok (p := okQ p m) (h4.trans hr) (by show m.fr ≠ (okQ p m).id ∧ _; rw [show (okQ p m).id = p.id from h1]; exact hid)).hear
theorem up_c (p : Pn) (t : Nat) : (upP p t).c = p.c := by unfold upP; split <;> rfl
theorem term_ok {p : Pn} (hm : mayB p.c.V p.c.L = true) {m : Mg} (hid : m.fr ≠ p.id ∧ 1 ≤ m.fr ∧ m.fr ≤ 63) : ∀ x ∈ (termP p m).2, Mk2 p (termP p m).1 m x := by
 have hu := (up_term p m.term).1
 have hid' : m.fr ≠ (upP p m.term).id ∧ 1 ≤ m.fr ∧ m.fr ≤ 63 := by rw [hu]; exact hid
 unfold termP
 split
 · intro x hx
   rw [List.mem_singleton.1 hx]
   exact reply_mk hid'
 · split
   · intro x hx; cases hx
   · obtain ⟨e1, e2, e3, e4⟩ := heard_same (upP p m.term) m.fr
     have hidh : m.fr ≠ (heardP (upP p m.term) m.fr).id ∧ 1 ≤ m.fr ∧ m.fr ≤ 63 := by rw [e1]; exact hid'
     split
     · unfold joinP
       split
       · intro x hx
         rw [List.mem_singleton.1 hx]
         exact reply_mk hidh
       · intro x hx
         rw [List.mem_singleton.1 hx]
         exact (reply_mk (p := p) (q := heardP (upP p m.term) m.fr) hidh).same rfl rfl rfl rfl (Nat.le_max_left ..)
     · split
       · unfold instP
         intro x hx
         rw [List.mem_singleton.1 hx]
         obtain ⟨h1, h2, h3, h4⟩ := inst_same (heardP (upP p m.term) m.fr) m
         refine (reply_mk (p := p) (q := heardP (upP p m.term) m.fr) hidh).same h1 h2 h3 h4 ?_
         show (heardP (upP p m.term) m.fr).commit ≤ (instQ (heardP (upP p m.term) m.fr) m).commit
         unfold instQ
         split
         · rename_i h; exact Nat.le_of_lt h.2.2.2.1
         · exact Nat.le_refl _
       · split
         · exact reply_out hid' p
         · split
           · intro x hx
             exact (count_ok (p := { upP p m.term with voices := sayL (upP p m.term).voices m.fr m.ok }) (by rw [show ({ upP p m.term with voices := sayL (upP p m.term).voices m.fr m.ok } : Pn).c = p.c from up_c p m.term]; exact hm) x hx).hear
           · intro x hx; cases hx
theorem hear_ok {p : Pn} (hm : mayB p.c.V p.c.L = true) (m : Mg) : ∀ x ∈ (hearP p m).2, Mk2 p (hearP p m).1 m x := by
 unfold hearP
 split
 · intro x hx; cases hx
 · rename_i h
   have hid : m.fr ≠ p.id ∧ 1 ≤ m.fr ∧ m.fr ≤ 63 := by
    refine ⟨fun e => h (.inr (.inl e)), ?_⟩
    by_cases e : 1 ≤ m.fr ∧ m.fr ≤ 63
    · exact e
    · exact absurd (Or.inr (Or.inr (Or.inl e))) h
   split
   · intro x hx
     rw [List.mem_singleton.1 hx]
     refine ⟨rfl, hid, by simp [foreG, msgG], fun _ => rfl, fun _ h2 => ?_, fun h => by simp [foreG, msgG] at h, fun h => by simp [foreG, msgG] at h⟩
     have h3 : (ansS (seatP p) ⟨m.term, m.fr, m.lt, m.i, true⟩).2 ≠ true := fun e => h2 ⟨rfl, e⟩
     show (if (ansS (seatP p) ⟨m.term, m.fr, m.lt, m.i, true⟩).2 then m.term else p.term) ≤ p.term
     rw [if_neg h3]; exact Nat.le_refl _
   · split
     · intro x hx
       rw [List.mem_singleton.1 hx]
       obtain ⟨e1, e2, e3⟩ := vote_term p m
       obtain ⟨h1, h2, h3⟩ := ans_vote p m
       refine ⟨rfl, by rw [e2]; exact hid, by simp [voteG, msgG], fun _ => rfl, fun _ _ => Nat.le_refl _, fun h => by simp [voteG, msgG] at h, fun _ hok => ?_⟩
       obtain ⟨h4, h5⟩ := h3 hok
       refine ⟨rfl, rfl, e3.trans h4, fun e hv => h5 (by rw [← e1]; exact e) hv, fun hr => ?_⟩
       have hr : (voteQ p m).role = 2 ∨ (voteQ p m).role = 3 := hr
       rw [e1]
       by_cases hl : p.term < (ansS (seatP p) ⟨m.term, m.fr, m.lt, m.i, false⟩).1.t
       · unfold voteQ at hr
         rw [if_pos hl] at hr
         rcases hr with hr | hr <;> exact absurd hr (by simp [followP])
       · omega
     · split
       · unfold foretP
         by_cases hc1 : p.role = 1 ∧ m.term = (if m.ok then (p.term + 1) % 18446744073709551616 else p.term)
         · rw [if_pos hc1]
           intro x hx
           exact (count_ok (p := { p with voices := sayL p.voices m.fr m.ok }) hm x hx).hear
         · rw [if_neg hc1]
           split <;> (intro x hx; cases hx)
       · split
         · exact term_ok hm hid
         · intro x hx; cases hx

theorem bd_follow {p : Pn} (h : Bd p) {t : Nat} (ht : t < 18446744073709551616) : Bd (followP p t) :=
 ⟨h.id, h.may, by show (if p.term < t then t else p.term) < _; have := h.term; split <;> assumption, by show (if p.term < t then 0 else p.vote) < _; have := h.vote; split <;> omega, h.base, h.bt, h.snap, h.ents, h.data, h.commit, by simp [followP], by simp [followP], by simp [followP], by simp [followP], by simp [followP], by simp [followP]⟩
theorem pLead_any (hRM : RmOk) (p : Pn) (d : Ad) (hBd : Bd p) (K : Nat) (w : World) (hK : K ≤ w.heap.size) (hM : NdM K w p d) :
 Calls Tryz.prog 98 #[ndV p d] w (NmP K w (leadP p)) := by
 obtain ⟨W, hW, B0, N0, Z0⟩ := nk_new w p d
 obtain ⟨W1, y, hW1, hy, B1, HR, Z1⟩ := bk_new W znA 34
 have HN := N0.later (hy ▸ B1)
 have HB := B0.trans (B1.mono (by have := Z0.out; omega))
 have hyn := hI_ (show w.heap.size < y by have := Z0.out; omega)
 clear B0 N0 B1
 unfold ndA at hW
 unfold znA at hW1
 have HM := hM.later HB
 obtain ⟨P, hP⟩ : ∃ P : Pn, P = lead0 p := ⟨_, rfl⟩
 obtain ⟨D, hD⟩ : ∃ D : Ad, D = { d with o := ⟨none, 0⟩, n := ⟨none, 0⟩, m := ⟨none, 0⟩ } := ⟨_, rfl⟩
 have hbd : Bd P := by rw [hP]; exact bd_lead0 hBd
 have HLD := hI_ (show addX P ⟨#[]⟩ = 0 → Bd (addP P ⟨#[]⟩) ∧ Bd (remarkP (addP P ⟨#[]⟩)) from fun h => by rw [hP] at h ⊢; exact bd_lead hBd h)
 have HLP := hI_ (show leadP p = if addX P ⟨#[]⟩ = 0 then spreadP (remarkP (addP P ⟨#[]⟩)) else (followP P p.term, []) by rw [leadP_eq, hP])
 have HPE := hI_ hP
 have HDE := hI_ hD
 have HRM := hI_ hRM
 have hpt := hI_ (show P.term = p.term by rw [hP]; rfl)
 clear hM hP hD hRM
 go_enter Tryz.func98, Tryz.ntmps98
 go_wp2_with (first
  | (refine lCc rfl _ rfl rfl (ocA rfl) (by assumption) rfl ?_)
  | (refine sCc (v := .int .i64 3) rfl _ _ rfl rfl rfl ocI HN rfl rfl rfl ?_; intro w' hk hg; replace HR := HR.grown hg (by have := hyn.out; omega); replace HM := HM.grown hg (hK) HN.bx.ty bNd; replace HB := bGr HB hg HB.size (Nat.le_refl _); replace HN := hk; clear hk hg)
  | (refine sCc (v := .int .u64 p.id) rfl _ _ rfl rfl rfl ocU HN rfl rfl rfl ?_; intro w' hk hg; replace HR := HR.grown hg (by have := hyn.out; omega); replace HM := HM.grown hg (hK) HN.bx.ty bNd; replace HB := bGr HB hg HB.size (Nat.le_refl _); replace HN := hk; clear hk hg)
  | (refine sCc (v := .slice none 0 0) rfl _ _ rfl rfl rfl (by first | exact ocV | exact ocM) HN rfl rfl rfl ?_; intro w' hk hg; replace HR := HR.grown hg (by have := hyn.out; omega); replace HM := HM.grown hg (hK) HN.bx.ty bNd; replace HB := bGr HB hg HB.size (Nat.le_refl _); replace HN := hk; clear hk hg)
  | (refine lBk rfl _ rfl rfl nodeT (L := ndL P D) (by rw [HPE.out, HDE.out]; exact HN) rfl ?_; (replace HN : Bk w' w.heap.size 34 (ndL P D) := by rw [HPE.out, HDE.out]; exact HN); (replace HM : NdM K w' P D := by rw [HPE.out, HDE.out]; exact (HM.follow p.term).same rfl rfl rfl rfl rfl)))
 refine (pAdd8_any P D hbd ⟨#[]⟩ (by decide) K _ (Nat.le_trans hK HB.size) HM).mono ?_
 by_cases h0 : addX P ⟨#[]⟩ = 0
 case pos =>
  obtain ⟨hb1, hb2⟩ := HLD.out h0
  have HL2 := hI_ (show leadP p = spreadP (remarkP (addP P ⟨#[]⟩)) by rw [HLP.out, if_pos h0])
  rintro e w2 hA
  unfold AdP at hA
  rw [if_pos h0] at hA
  generalize addP P ⟨#[]⟩ = P1 at *
  obtain ⟨D1, rfl, hm1, hb⟩ := hA
  replace HB := HB.trans (hb.mono HB.size)
  replace HR := HR.later hb
  have hlt := hI_ (show y < w2.heap.size ∧ w.heap.size < w2.heap.size from ⟨HR.lt, Nat.lt_of_lt_of_le hyn.out (Nat.le_of_lt HR.lt)⟩)
  obtain ⟨w3, y4, hw3, hy4, B3, HF, Z3⟩ := bk_new w2 znA 34
  have hyf := hI_ (show y < y4 ∧ w.heap.size < y4 by have := hlt.out; omega)
  have B3' : Below w2.heap.size w2 w3 := hy4 ▸ B3
  replace HB := HB.trans (B3'.mono HB.size)
  replace HR := HR.later B3'
  replace HM := hm1.later B3'
  unfold znA at hw3
  clear hb hm1 B3 B3' HN h0
  go_wp2_with (first
   | (refine lBk rfl _ rfl rfl nodeT (by assumption) rfl ?_)
   | (refine sBk rfl _ _ rfl rfl (M := ndL P1 D1) rfl nodeT HF rfl rfl rfl ?_; intro w' hk hg; replace HR := HR.grown hg (by have := hyf.out; omega); replace HM := HM.grown hg (by have := hyf.out; omega) HF.bx.ty bNd; replace HB := bGr HB hg HB.size (by have := hyf.out; omega); replace HF := hk; clear hk hg))
  refine (HRM.out P1 D1 hb1 K _ (Nat.le_trans hK HB.size) HM).mono ?_
  generalize remarkP P1 = P2 at *
  rintro e w5 ⟨D2, rfl, hm2, hb⟩
  replace HB := HB.trans (hb.mono HB.size)
  replace HR := HR.later hb
  replace HM := hm2
  clear hb hm2 HF
  go_wp2_with fail
  have HSZ := hI_ HB.size
  refine (pSpread_any P2 D2 hb2 K _ (Nat.le_trans hK HB.size) HM).mono ?_
  obtain ⟨P3, M3, h3⟩ : ∃ P3 M3, spreadP P2 = (P3, M3) := ⟨_, _, rfl⟩
  have HQ := hI_ (show leadP p = (P3, M3) from HL2.out.trans h3)
  rw [h3]
  clear h3
  rintro e w6 ⟨D3, v, O, rfl, hm3, hC, hO, hb⟩
  replace HB := HB.trans (hb.mono HB.size)
  replace HR := HR.later hb
  replace HM := hm3
  replace hC := hC.mono HSZ.out
  simp only at hO HM
  have HO := hI_ hO
  clear hb hm3 hO
  go_wp2_with (first
   | (refine sBk rfl _ _ rfl rfl rfl nodeT HR rfl rfl rfl ?_; intro w' hk hg; replace HM := HM.grown hg (by have := hyn.out; omega) HR.bx.ty bNd; replace hC := hC.box hg HR.bx.ty boxNm; replace HB := bGr HB hg HB.size (by have := hyn.out; omega); replace HR := hk; clear hk hg))
  refine bodyPost_ret (v := .tuple #[ndV P3 D3, v]) (by rw [rBt Tryz.results98 _ rfl nodeT HR rfl]; rfl) rfl ?_
  rw [HQ.out]
  exact ⟨D3, v, O, rfl, HM, hC, HO.out, HB⟩
 case neg =>
  have HL2 := hI_ (show leadP p = (followP P P.term, []) by rw [HLP.out, if_neg h0, hpt.out])
  rintro e w2 hA
  unfold AdP at hA
  rw [if_neg h0] at hA
  generalize addX P ⟨#[]⟩ = x at *
  obtain ⟨rfl, hb⟩ := hA
  have gx : (x == 0) = false := by simp; omega
  replace HB := HB.trans (hb.mono HB.size)
  replace HR := HR.later hb
  replace HN := HN.later hb
  replace HM := HM.later hb
  have hlt := hI_ (show y < w2.heap.size ∧ w.heap.size < w2.heap.size from ⟨HR.lt, HN.lt⟩)
  obtain ⟨w3, y4, hw3, hy4, B3, HF, Z3⟩ := bk_new w2 znA 34
  have B3' : Below w2.heap.size w2 w3 := hy4 ▸ B3
  replace HB := HB.trans (B3'.mono HB.size)
  replace HR := HR.later B3'
  replace HN := HN.later B3'
  replace HM := HM.later B3'
  have hyf := hI_ (show y < y4 ∧ w.heap.size < y4 by have := hlt.out; omega)
  unfold znA at hw3
  clear hb B3 B3'
  go_wp2_with (first
   | (refine lBk rfl _ rfl rfl nodeT (by assumption) rfl ?_)
   | (refine lCc rfl _ rfl rfl (ocA rfl) (by assumption) rfl ?_)
   | (refine sBk rfl _ _ rfl rfl (M := znA.toList) rfl nodeT HF rfl rfl rfl ?_; intro w' hk hg; replace HN := HN.grown hg (by have := hyf.out; omega); replace HR := HR.grown hg (by have := hyf.out; omega); replace HM := HM.grown hg (by have := hyf.out; omega) HF.bx.ty bNd; replace HB := bGr HB hg HB.size (by have := hyf.out; omega); replace HF := hk; clear hk hg))
  refine (pFollow_any P D P.term K _ HM).mono ?_
  obtain ⟨P3, h3⟩ : ∃ P3, followP P P.term = P3 := ⟨_, rfl⟩
  rw [h3]
  have HQ := hI_ (show leadP p = (P3, []) by rw [HL2.out, h3])
  clear h3
  rintro e w5 ⟨D2, rfl, hm2, hb⟩
  replace HB := HB.trans (hb.mono HB.size)
  replace HR := HR.later hb
  replace HM := hm2
  clear hb hm2 HN HF
  go_wp2_with (first
   | (refine sBk rfl _ _ rfl rfl rfl nodeT HR rfl rfl rfl ?_; intro w' hk hg; replace HM := HM.grown hg (by have := hyn.out; omega) HR.bx.ty bNd; replace HB := bGr HB hg HB.size (by have := hyn.out; omega); replace HR := hk; clear hk hg))
  refine bodyPost_ret (v := .tuple #[ndV P3 D2, .slice none 0 0]) (by rw [rBt Tryz.results98 _ rfl nodeT HR rfl]; rfl) rfl ?_
  rw [HQ.out]
  exact ⟨D2, _, [], rfl, HM, CqG.nil _ _ none, rfl, HB⟩
end Go.Proofs.YtdcpiaoadbbdoaaGreat
