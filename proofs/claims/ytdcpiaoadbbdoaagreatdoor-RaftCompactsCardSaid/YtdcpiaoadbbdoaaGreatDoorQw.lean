/- What a node needs next of the log: a snapshot. -/
import Derived.Test.YtdcpiaoadbbdoaaGreatDoorRb
import Derived.Test.YtdcpiaoadbbdoaaGreatDoorQse
import Derived.Test.YtdcpiaoadbbdoaaGreatDoorQra
import Derived.Test.YtdcpiaoadbbdoaaGreatDoorQt
set_option maxRecDepth 100000
set_option maxHeartbeats 16000000
namespace Go.Proofs.YtdcpiaoadbbdoaaGreatDoor
open Go.RowKit

theorem pPortion_s (p : Pn) (d : Ad) (hBd : Bd p) (q K : Nat) (w : World) (hM : NdM K w p d) (hI : nextI p q ≤ p.g.base) :
 Calls Tryz.prog 134 #[ndV p d, .int .u64 q] w (PoP w (portG p q)) := by
 obtain ⟨W, hW, HB, HN, Z0⟩ := nk_new w p d
 unfold ndA at hW
 obtain ⟨W1, y1, hW1, hy1, B1, HR, Z1⟩ := bk_new W zmA 59
 obtain ⟨W2, y2, hW2, hy2, B2, HL, Z2⟩ := bk_new W1 #[.int .u64 p.g.base, .int .u64 p.g.bt, .string p.g.snap, .slice d.e.a p.g.L.length d.e.c] 28
 have hz0 := Z0.out
 have hz1 := Z1.out
 have hz2 := Z2.out
 have HN1 := HN.later (hy1 ▸ B1)
 replace HN := HN1.later (hy2 ▸ B2)
 replace HR := HR.later (hy2 ▸ B2)
 replace HB := (HB.trans (B1.mono (by omega))).trans (B2.mono (by omega))
 have hyy := hI_ (show w.heap.size < y1 ∧ y1 < y2 ∧ y2 < W2.heap.size by omega)
 have hbase := hBd.base
 have hl := hBd.ents
 have hnl := hBd.next
 have hib : nextI p q < 18446744073709551616 := by
  unfold nextI; split
  · exact mark_lt hBd.nexts
  · decide
 have hmk := hI_ (show nextI p q = if (markN q p.next).2 then (markN q p.next).1 else 1 from rfl)
 have hpo := hI_ (show portG p q = if nextI p q ≤ p.g.base then { msgG p 6 q with i := p.g.base, lt := p.g.bt, snap := p.g.snap } else { msgG p 5 q with i := nextI p q - 1, lt := (tAt p.g.base p.g.bt p.g.L (nextI p q - 1)).1, commit := p.commit, es := fromL p.g.base p.g.L (nextI p q) 8 } from rfl)
 generalize nextI p q = I at *
 clear B1 B2 hz0 hz1 hz2
 unfold zmA at hW1
 go_enter Tryz.func134, Tryz.ntmps134
 go_wp2_with (first
  | (refine lSb rfl _ rfl rfl [.int .u64 p.g.base, .int .u64 p.g.bt, .string p.g.snap, .slice d.e.a p.g.L.length d.e.c] logT (by assumption) rfl rfl ?_)
  | (refine lCc rfl _ rfl rfl (ocA rfl) (by assumption) rfl ?_))
 refine (pMark_any q _ _ _ p.next rfl (by omega) _ (hM.later HB).n).mono ?_
 rintro e w1 ⟨rfl, hb⟩
 replace HB := HB.trans (hb.mono HB.size)
 replace HN := HN.later hb
 replace HR := HR.later hb
 replace HL := HL.later hb
 clear hb
 obtain ⟨mk, mb, hmm⟩ : ∃ mk mb, markN q p.next = (mk, mb) := ⟨_, _, rfl⟩
 rw [hmm] at hmk ⊢
 have hfr : ∀ w1 : World, Below w.heap.size w w1 → Calls Tryz.prog 70 #[.agg #[.int .u64 p.g.base, .int .u64 p.g.bt, .string p.g.snap, .slice d.e.a p.g.L.length d.e.c], .int .u64 I, .int .i64 8] w1 (FrP w1 (fromL p.g.base p.g.L I 8) (decide (p.g.base < I))) := fun w1 HB => pFrom_any _ _ _ _ _ _ _ _ p.g.L rfl (by omega) hM.ec hM.em hbase hib _ (hM.later HB).e
 have HFR := hI_ hfr
 clear hmm hfr
 have hcut : ∀ (w1 : World) (PP : World → Prop), PP w1 → PP w1 := fun _ _ h => h
 clear hcut
 have HPO := hI_ (show portG p q = { msgG p 6 q with i := p.g.base, lt := p.g.bt, snap := p.g.snap } by rw [hpo.out, if_pos hI])
 have hd : decide (p.g.base < I) = false := decide_eq_false (by omega)
 rw [hd] at HFR
 clear hd hpo
 have hgo : ∀ mbv : Bool, mbv = mb → True := fun _ _ => trivial
 clear hgo
 cases mb
 all_goals
  have hIv := hmk.out
  simp only [if_true, if_false, Bool.false_eq_true] at hIv
  first | (subst hIv) | (obtain rfl := hIv)
  go_wp2_with (first
   | (refine lCc rfl _ rfl rfl (ocA rfl) (by assumption) rfl ?_)
   | (refine lBk rfl _ rfl rfl logT (by assumption) rfl ?_))
  refine (HFR.out _ HB).mono ?_
  rintro e w3 ⟨a3, c3, rfl, hE3, hb⟩
  replace HB := HB.trans (hb.mono HB.size)
  replace HN := HN.later hb
  replace HR := HR.later hb
  replace HL := HL.later hb
  clear hb hE3
  go_wp2_with (first
   | (refine lBk rfl _ rfl rfl nodeT (by assumption) rfl ?_))
  refine (pMessage_any p d 6 q _).mono ?_
  rintro e w4 ⟨rfl, hb⟩
  replace HB := HB.trans (hb.mono HB.size)
  replace HN := HN.later hb
  replace HR := HR.later hb
  replace HL := HL.later hb
  clear hb
  obtain ⟨x0, hx0⟩ : ∃ x, msgG p 6 q = x := ⟨_, rfl⟩
  have HX0 := hI_ hx0
  rw [hx0]
  clear hx0
  obtain ⟨w5, y5, hw5, hy5, B5, HX, Z5⟩ := bk_new w4 (mgA x0) 59
  have hyx := hI_ (show w.heap.size < y5 ∧ y1 < y5 ∧ y2 < y5 by have := HR.lt; have := HL.lt; have := HN.lt; omega)
  replace HN := HN.later (hy5 ▸ B5)
  replace HR := HR.later (hy5 ▸ B5)
  replace HL := HL.later (hy5 ▸ B5)
  replace HB := HB.trans ((hy5 ▸ B5 : Below w4.heap.size w4 w5).mono HB.size)
  unfold mgA at hw5
  clear B5
  go_wp2_with fail
  replace HN := HN.later ((Below.refl _ _).drew)
  replace HR := HR.later ((Below.refl _ _).drew)
  replace HL := HL.later ((Below.refl _ _).drew)
  replace HX := HX.later ((Below.refl _ _).drew)
  replace HB := HB.drew
  refine wp_region_held_drew (S := fun w' => Bk w' y2 28 [.int .u64 p.g.base, .int .u64 p.g.bt, .string p.g.snap, .slice d.e.a p.g.L.length d.e.c] ∧ Below w.heap.size w w') (by kernel_rfl) (⟨HL, HB⟩) (fun HS => ?_)
  refine tkp (i := 0) rfl HS ?_
  refine tkh (i := 1) (v := (.int .u64 p.g.base)) rfl ⟨by rfl, fun _ hSw => exec_load_c _ rfl rfl ocU hSw.1 rfl⟩ HS ?_
  try simp only [ly, Act.put]
  refine tkp (i := 2) rfl HS ?_
  refine tkh (i := 3) (v := (.int .u64 p.g.bt)) rfl ⟨by rfl, fun _ hSw => exec_load_c _ rfl rfl ocU hSw.1 rfl⟩ HS ?_
  try simp only [ly, Act.put]
  refine tkp (i := 4) rfl HS ?_
  refine tkh (i := 5) (v := (.string p.g.snap)) rfl ⟨by rfl, fun _ hSw => exec_load_c _ rfl rfl ocS hSw.1 rfl⟩ HS ?_
  try simp only [ly, Act.put]
  refine tkp (i := 6) rfl HS ?_
  try simp only [ly, Act.put]
  refine onh (r := 7) (by kernel_rfl) rfl (fun KK hK => ?_)
  rw [if_pos (by rfl)]
  refine wp_store_c (v := .int .u64 p.g.base) _ _ rfl rfl rfl (ocA rfl) HX rfl rfl rfl ?_
  intro w' hk hg
  replace HN := HN.grown hg (by have := hyx.out; omega)
  replace HR := HR.grown hg (by have := hyx.out; omega)
  replace HL := HL.grown hg (by have := hyx.out; omega)
  replace HB := bGr HB hg HB.size (by have := hyx.out; omega)
  replace HX := hk
  clear hk hg
  refine hK.out _ _ ⟨HL, HB⟩ (fun HS => ?_)
  clear hK
  try simp only [ly, Act.put]
  refine tkp (i := 8) rfl HS ?_
  try simp only [ly, Act.put]
  refine onh (r := 9) (by kernel_rfl) rfl (fun KK hK => ?_)
  rw [if_pos (by rfl)]
  refine wp_store_c (v := .int .u64 p.g.bt) _ _ rfl rfl rfl (ocA rfl) HX rfl rfl rfl ?_
  intro w' hk hg
  replace HN := HN.grown hg (by have := hyx.out; omega)
  replace HR := HR.grown hg (by have := hyx.out; omega)
  replace HL := HL.grown hg (by have := hyx.out; omega)
  replace HB := bGr HB hg HB.size (by have := hyx.out; omega)
  replace HX := hk
  clear hk hg
  refine hK.out _ _ ⟨HL, HB⟩ (fun HS => ?_)
  clear hK
  try simp only [ly, Act.put]
  refine tkp (i := 10) rfl HS ?_
  try simp only [ly, Act.put]
  refine onh (r := 11) (by kernel_rfl) rfl (fun KK hK => ?_)
  rw [if_pos (by rfl)]
  refine wp_store_c (v := .string p.g.snap) _ _ rfl rfl rfl (ocA rfl) HX rfl rfl rfl ?_
  intro w' hk hg
  replace HN := HN.grown hg (by have := hyx.out; omega)
  replace HR := HR.grown hg (by have := hyx.out; omega)
  replace HL := HL.grown hg (by have := hyx.out; omega)
  replace HB := bGr HB hg HB.size (by have := hyx.out; omega)
  replace HX := hk
  clear hk hg
  refine hK.out _ _ ⟨HL, HB⟩ (fun HS => ?_)
  clear hK
  try simp only [ly, Act.put]
  refine wpAnyH_done (by kernel_rfl) ?_ _
  go_wp2_with (first
   | (refine lBk rfl _ rfl rfl messT HX rfl ?_)
   | (refine sBk rfl _ _ rfl rfl rfl messT HR rfl rfl rfl ?_; intro w' hk hg; replace HB := bGr HB hg HB.size (by have := hyy.out; omega); replace HR := hk; clear hk hg))
  refine bodyPost_ret (v := mgV { x0 with i := p.g.base, lt := p.g.bt, snap := p.g.snap }) (by rw [results_bk Tryz.results134 _ rfl messT HR rfl]; rfl) rfl ?_
  exact ⟨{ x0 with i := p.g.base, lt := p.g.bt, snap := p.g.snap }, rfl, by rw [HPO.out, ← HX0.out]; rfl, fun x hx => by simp only [List.mem_singleton] at hx; subst hx; exact .inl (by show x0.es = []; rw [← HX0.out]; rfl), HB⟩

theorem pPortion_any (p : Pn) (d : Ad) (hBd : Bd p) (q K : Nat) (w : World) (hM : NdM K w p d) : Calls Tryz.prog 134 #[ndV p d, .int .u64 q] w (PoP w (portG p q)) := if h : nextI p q ≤ p.g.base then pPortion_s p d hBd q K w hM h else pPortion_a p d hBd q K w hM h

theorem map_snoc {α β : Type} (f : α → β) {L : List α} {k : Nat} {x : α} (h : L[k]? = some x) : (L.take (k + 1)).map f = (L.take k).map f ++ [f x] := by
 rw [List.take_add_one, h]; simp
theorem pl_snoc {O : List Mg} {x : Mg} {M : List Mg} {m : Mg} (h : O.map Mg.pl = M) (hx : x.pl = m) : (O ++ [x]).map Mg.pl = M ++ [m] := by
 rw [List.map_append, h, List.map_cons, List.map_nil, hx]
theorem app_one (B : Nat) (w : World) (ty : TypeId) (v : Value) (O : List Mg) (h : CqG B w v O) (x : Mg) (hx : MgM w [x]) (hl : O.length + 1 ≤ 1000000) (hB : B ≤ w.heap.size) :
 ∃ v' w', (Builtin.append_ #[39, 39] ty #[v, .slice (some ⟨w.heap.size, 0, none⟩) 1 1]).run Tryz.prog (w.alloc (.cells (mgA x) 59)) = .ok v' w' ∧ (CqG B w' v' (O ++ [x]) ∧ Below B w w') := by
 have B1 : Below w.heap.size w (w.alloc (.cells (mgA x) 59)) := (Below.refl _ _).alloc (Nat.le_refl _) _
 obtain ⟨a, c, e, hM, _⟩ := (cqG_one w x hx).form
 cases e
 obtain ⟨v', w', hr, hc, hb⟩ := app_mg B _ ty v O (h.later B1) (some ⟨w.heap.size, 0, none⟩) 1 1 [x] rfl hM (hx.later B1) (by omega) (Nat.le_trans hB B1.size)
 exact ⟨v', w', hr, hc, (B1.mono hB).trans hb⟩
theorem pSend_any (p : Pn) (d : Ad) (hBd : Bd p) (K n c : Nat) (a : Option Addr) (L : List Nat) (hn : L.length = n) (hl : n ≤ 1000) (w : World) (hM : NdM K w p d) (hU : Us w a L) :
 Calls Tryz.prog 80 #[ndV p d, .slice a n c] w (MsP w (L.map (portG p))) := by
 obtain ⟨W, hW, HB, HN, Z0⟩ := nk_new w p d
 unfold ndA at hW
 have HU := hI_ hU
 have HNN := hI_ hn
 have hn47 : n ≤ 140737488351232 := by omega
 have HPO := hI_ (show ∀ (q : Nat) (w1 : World), Below w.heap.size w w1 → Calls Tryz.prog 134 #[ndV p d, .int .u64 q] w1 (PoP w1 (portG p q)) from fun q w1 HB => pPortion_any p d hBd q K w1 (hM.later HB))
 clear hU hn
 go_enter Tryz.func80, Tryz.ntmps80
 go_wp2_with fail
 go_loopw [5, 10] (fun v i wr => ∃ (k : Nat) (O : List Mg) (V : Value), V = v ∧ k ≤ n ∧ i = .int .i64 k ∧ O.length = k ∧ CqG (w.heap.size + 1) wr v O ∧ O.map Mg.pl = (L.take k).map (portG p) ∧ Below (w.heap.size + 1) W wr) (fun _ i _ => n - (intOf i).toNat)
 case atStart => exact ⟨0, [], _, rfl, Nat.zero_le _, rfl, rfl, CqG.nil _ _ none, rfl, Below.refl _ _⟩
 case round =>
  obtain ⟨k, O, V, hv, hk, rfl, hO, hC, hP, HW⟩ := hrel
  subst hv
  have hz := Z0.out
  replace HN := HN.under (Nat.lt_succ_self _) HW
  replace HB := HB.trans (HW.mono (Nat.le_succ _))
  have hsz := hI_ (show w.heap.size + 1 ≤ wr.heap.size by have := HW.size; omega)
  clear hz
  have HO := hI_ hO
  have HC := hI_ hC
  have HP := hI_ hP
  clear hO hC hP
  by_cases hlt : k < n
  · obtain ⟨q, hx⟩ : ∃ q, L[k]? = some q := ⟨_, List.getElem?_eq_getElem (by rw [HNN.out]; exact hlt)⟩
    have i0 : (0 : Int) ≤ (k : Int) := by omega
    have i1 : (k : Int) < (n : Int) := by omega
    obtain ⟨b, off, rfl, hb, p0⟩ := HU.out.later HB k q hx
    have HX := hI_ hx
    clear hx
    go_wp2_with (first
     | (refine lBk rfl _ rfl rfl nodeT (by assumption) rfl ?_))
    clear p0 hb
    refine (HPO.out q _ HB).mono ?_
    rintro e w2 ⟨x, rfl, hxp, hxm, hb2⟩
    obtain ⟨v6, w6, hr6, hc6, hb6⟩ := app_one (w.heap.size + 1) w2 39 V O (HC.out.later hb2) x hxm (by rw [HO.out]; omega) (Nat.le_trans hsz.out hb2.size)
    have HT := hI_ (show (O ++ [x]).map Mg.pl = (L.take (k + 1)).map (portG p) by rw [map_snoc _ HX.out, pl_snoc HP.out hxp])
    have HL := hI_ (show (O ++ [x]).length = k + 1 by rw [List.length_append, HO.out]; rfl)
    have HR6 := hI_ hr6
    have HC6 := hI_ hc6
    have HB6 := hI_ ((HW.trans (hb2.mono hsz.out)).trans hb6)
    clear hr6 hc6 hb6 hxp hxm HC hb2
    go_wp2_with (at_builtin; refine Lib.wpList_append_run _ rfl _ _ 39 39 rfl V (.slice (some ⟨w2.heap.size, 0, none⟩) 1 1) rfl rfl _ _ HR6.out ?_)
    go_roundw
    case rel => exact ⟨k + 1, O ++ [x], _, rfl, by omega, by go_num, HL.out, HC6.out, HT.out, HB6.out⟩
    case measure => simp [intOf]; omega
  · have hkn : k = n := by omega
    subst hkn
    have hT : L.map (portG p) = (L.take k).map (portG p) := by rw [List.take_of_length_le (by rw [HNN.out]; exact Nat.le_refl _)]
    have HF := hI_ (show MsP w (L.map (portG p)) (.returned V) wr from ⟨_, O, rfl, HC.out.mono (Nat.le_succ _), by rw [hT]; exact HP.out, HB⟩)
    go_wp2_with fail
    go_ret
    exact HF.out

def NmP (K : Nat) (w : World) (r : Pn × List Mg) (e : Ending) (w' : World) : Prop := ∃ d v O, e = .returned (.tuple #[ndV r.1 d, v]) ∧ NdM K w' r.1 d ∧ CqG w.heap.size w' v O ∧ O.map Mg.pl = r.2 ∧ Below w.heap.size w w'
def BoxN (T : TypeId) : Prop := T ≠ 59 ∧ T ≠ 65
theorem boxNm : BoxN 34 := by unfold BoxN; decide
theorem CqG.box {B : Nat} {w w' : World} {v : Value} {L : List Mg} {y : Nat} {T : TypeId} (h : CqG B w v L) (hg : w.grownBy w' (some y)) (hy : ∃ cur, w.heap[y]? = some (.cells cur T (0, 0))) (hT : BoxN T) : CqG B w' v L :=
 ⟨h.1.imp id fun h => h.kept hg (by
  rcases h.2 with ⟨e, _⟩ | ⟨g, cap, cur, e, _, hb, _⟩
  · exact .inl (by rw [e]; rfl)
  · refine .inr fun e2 => ?_
    rw [e] at e2; simp [Value.ownBlock] at e2
    subst e2
    obtain ⟨cur', hy⟩ := hy
    rw [hy] at hb
    cases hb
    exact hT.1 rfl), h.2.box hg hy hT.2⟩
theorem bd_commit {p : Pn} (h : Bd p) : Bd (commitP p) := by
 unfold commitP
 split
 · exact ⟨h.id, h.may, h.term, h.vote, h.base, h.bt, h.snap, h.ents, h.data, agr_lt h, h.voices, h.ids, h.next, h.mat, h.marks, h.nexts⟩
 · exact h
theorem pSpread_any (p : Pn) (d : Ad) (hBd : Bd p) (K : Nat) (w : World) (hK : K ≤ w.heap.size) (hM : NdM K w p d) :
 Calls Tryz.prog 29 #[ndV p d] w (NmP K w (spreadP p)) := by
 obtain ⟨W, hW, B0, N0, Z0⟩ := nk_new w p d
 obtain ⟨W1, y, hW1, hy, B1, HR, Z1⟩ := bk_new W znA 34
 have HN := N0.later (hy ▸ B1)
 have HB := B0.trans (B1.mono (by have := Z0.out; omega))
 have hyn := hI_ (show w.heap.size < y by have := Z0.out; omega)
 clear B0 N0 B1
 unfold ndA at hW
 unfold znA at hW1
 have HM := hM.later HB
 have hbd := bd_commit hBd
 have hsz := hI_ (Nat.le_refl w.heap.size)
 have HSP := hI_ (show spreadP p = (commitP p, (commitP p).oth.map (portG (commitP p))) from rfl)
 have HCO := hI_ (show ∀ w1 : World, NdM K w1 p d → Calls Tryz.prog 79 #[ndV p d] w1 (NvP K w1 (commitP p)) from fun w1 hm => pCommit_any p d hBd K w1 hm)
 generalize commitP p = P at *
 clear hM
 go_enter Tryz.func29, Tryz.ntmps29
 go_wp2_with (first
  | (refine lBk rfl _ rfl rfl nodeT (by assumption) rfl ?_))
 refine (HCO.out _ HM).mono ?_
 rintro e w2 ⟨D, rfl, hm, hb⟩
 replace HB := HB.trans (hb.mono HB.size)
 replace HN := HN.later hb
 replace HR := HR.later hb
 replace HM := hm
 clear hb hm
 go_wp2_with (first
  | (refine sBk rfl _ _ rfl rfl rfl nodeT HN rfl rfl rfl ?_; intro w' hk hg; replace HR := HR.grown hg (by have := hyn.out; omega); replace HM := HM.grown hg (hK) HN.bx.ty bNd; replace HB := bGr HB hg HB.size (Nat.le_refl _); replace HN := hk; clear hk hg))
 replace HR := HR.later ((Below.refl _ _).drew)
 refine wp_region_held_drew (S := fun w' => Bk w' w.heap.size 34 (ndL P D) ∧ NdM K w' P D ∧ Below w.heap.size w w') (by kernel_rfl) (⟨HN.later ((Below.refl _ _).drew), HM.later ((Below.refl _ _).drew), HB.drew⟩) (fun HS => ?_)
 refine tkh (i := 0) (v := (.agg (ndL P D).toArray)) rfl ⟨by rfl, fun _ hSw => eLb _ rfl rfl nodeT hSw.1 rfl⟩ HS ?_
 refine tkh (i := 1) (v := (.agg (ndL P D).toArray)) rfl ⟨by rfl, fun _ hSw => eLb _ rfl rfl nodeT hSw.1 rfl⟩ HS ?_
 refine tkh (i := 2) (v := (.agg (ndL P D).toArray)) rfl ⟨by rfl, fun _ hSw => eLb _ rfl rfl nodeT hSw.1 rfl⟩ HS ?_
 try simp only [ly, Act.put]
 refine onh (r := 3) (by kernel_rfl) rfl (fun KK hK => ?_)
 go_simp
 refine (pOthers_any P D hbd K _ HS.2.1).mono ?_
 rintro e wo ⟨ao, co, rfl, hUo, _, hb⟩
 have HUo := hI_ hUo
 replace HR := HR.later hb
 clear hUo
 go_wp2_with fail
 refine hK.out _ _ ⟨HS.1.later hb, HS.2.1.later hb, HS.2.2.trans (hb.mono HS.2.2.size)⟩ (fun HS => ?_)
 clear hK
 try simp only [ly, Act.put]
 refine onh (r := 4) (by kernel_rfl) rfl (fun KK hK => ?_)
 go_simp
 refine (pSend_any P D hbd K _ co ao P.oth rfl (Nat.le_trans (oth_len _ _ (conf_may hbd.may)) (by omega)) _ HS.2.1 HUo.out).mono ?_
 rintro e wm ⟨v, O, rfl, hC, hO, hb⟩
 replace HR := HR.later hb
 have HC := hC.mono (Nat.le_trans (hsz.out) (HS.2.2.size))
 have HO := hI_ hO
 clear hC hO
 go_wp2_with fail
 refine hK.out _ _ ⟨HS.1.later hb, HS.2.1.later hb, HS.2.2.trans (hb.mono HS.2.2.size)⟩ (fun HS => ?_)
 clear hK
 try simp only [ly, Act.put]
 refine onh (r := 5) (by kernel_rfl) rfl (fun KK hK => ?_)
 rw [if_pos (by rfl)]
 refine wSb _ _ rfl rfl (M := ndL P D) rfl nodeT HR rfl rfl rfl ?_
 intro w' hk hg
 have HC1 := HC.box hg HR.bx.ty boxNm
 have HM1 := HS.2.1.grown hg (by have := hyn.out; omega) HR.bx.ty bNd
 have HN1 := HS.1.grown hg (by have := hyn.out; omega)
 have HB1 := bGr HS.2.2 hg HS.2.2.size (by have := hyn.out; omega)
 replace HC := HC1
 replace HR := hk
 clear HC1 hk hg
 refine hK.out _ _ ⟨HN1, HM1, HB1⟩ (fun HS => ?_)
 clear hK
 try simp only [ly, Act.put]
 refine tkp (i := 6) rfl HS ?_
 try simp only [ly, Act.put]
 refine wpAnyH_done (by kernel_rfl) ?_ _
 have HF := hI_ (show ∀ w1, Below w.heap.size w w1 → NdM K w1 P D → CqG w.heap.size w1 v O → NmP K w (spreadP p) (.returned (.tuple #[ndV P D, v])) w1 from fun w1 hb hm hc => by rw [HSP.out]; exact ⟨D, v, O, rfl, hm, hc, HO.out, hb⟩)
 go_wp2_with fail
 refine bodyPost_ret (v := .tuple #[ndV P D, v]) (by rw [rBt Tryz.results29 _ rfl nodeT HR rfl]; rfl) rfl ?_
 exact HF.out _ HS.2.2 HS.2.1 HC

theorem bd_beat {p : Pn} (h : Bd p) (b : Int) : Bd { p with beat := b } := ⟨h.id, h.may, h.term, h.vote, h.base, h.bt, h.snap, h.ents, h.data, h.commit, h.voices, h.ids, h.next, h.mat, h.marks, h.nexts⟩
theorem pBeat_any (p : Pn) (d : Ad) (hBd : Bd p) (K : Nat) (w : World) (hK : K ≤ w.heap.size) (hM : NdM K w p d) :
 Calls Tryz.prog 65 #[ndV p d] w (NmP K w (beatP p)) := by
 obtain ⟨W, hW, B0, N0, Z0⟩ := nk_new w p d
 obtain ⟨W1, y, hW1, hy, B1, HR, Z1⟩ := bk_new W znA 34
 have HN := N0.later (hy ▸ B1)
 have HB := B0.trans (B1.mono (by have := Z0.out; omega))
 have hyn := hI_ (show w.heap.size < y by have := Z0.out; omega)
 clear B0 N0 B1
 unfold ndA at hW
 unfold znA at hW1
 have HM := hM.later HB
 have hsz := hI_ (Nat.le_refl w.heap.size)
 have HBP := hI_ (show beatP p = if 1 ≤ IntKind.i64.wrap (p.beat - 1) then ({ p with beat := IntKind.i64.wrap (p.beat - 1) }, []) else ({ p with beat := 3 }, p.oth.map (portG { p with beat := 3 })) from rfl)
 obtain ⟨b, hbb⟩ : ∃ b, IntKind.i64.wrap (p.beat - 1) = b := ⟨_, rfl⟩
 rw [hbb] at HBP
 clear hM
 by_cases h1 : 1 ≤ b
 case pos =>
  have HF := hI_ (show ∀ w1, Below w.heap.size w w1 → NdM K w1 p d → NmP K w (beatP p) (.returned (.tuple #[ndV { p with beat := b } d, .slice none 0 0])) w1 from fun w1 hb hm => by rw [HBP.out, if_pos h1]; exact ⟨d, _, [], rfl, hm.same rfl rfl rfl rfl rfl, CqG.nil _ _ none, rfl, hb⟩)
  go_enter Tryz.func65, Tryz.ntmps65
  go_wp2_with (first
   | (refine lCc rfl _ rfl rfl (ocA rfl) (by assumption) rfl ?_)
   | (refine lBk rfl _ rfl rfl nodeT (by assumption) rfl ?_)
   | (refine sCc (v := .int .i64 b) rfl _ _ rfl rfl rfl ocI HN rfl rfl rfl ?_; intro w' hk hg; replace HR := HR.grown hg (by have := hyn.out; omega); replace HM := HM.grown hg (hK) HN.bx.ty bNd; replace HB := bGr HB hg HB.size (Nat.le_refl _); replace HN := hk; clear hk hg)
   | (refine sBk rfl _ _ rfl rfl rfl nodeT HR rfl rfl rfl ?_; intro w' hk hg; replace HN := HN.grown hg (by have := hyn.out; omega); replace HM := HM.grown hg (by have := hyn.out; omega) HR.bx.ty bNd; replace HB := bGr HB hg HB.size (by have := hyn.out; omega); replace HR := hk; clear hk hg))
  refine bodyPost_ret (v := .tuple #[ndV { p with beat := b } d, .slice none 0 0]) (by rw [rBt Tryz.results65 _ rfl nodeT HR rfl]; rfl) rfl ?_
  exact HF.out _ HB HM
 case neg =>
  obtain ⟨P, hP⟩ : ∃ P : Pn, P = { p with beat := 3 } := ⟨_, rfl⟩
  have hbd : Bd P := by rw [hP]; exact bd_beat hBd 3
  have HPE := hI_ hP
  have HF := hI_ (show ∀ w1 v O, Below w.heap.size w w1 → NdM K w1 P d → CqG w.heap.size w1 v O → O.map Mg.pl = P.oth.map (portG P) → NmP K w (beatP p) (.returned (.tuple #[ndV P d, v])) w1 from fun w1 v O hb hm hc ho => by rw [HBP.out, if_neg h1, ← hP]; exact ⟨d, v, O, rfl, hm, hc, by rw [ho, hP]; rfl, hb⟩)
  clear hP
  go_enter Tryz.func65, Tryz.ntmps65
  go_wp2_with (first
   | (refine lCc rfl _ rfl rfl (ocA rfl) (by assumption) rfl ?_)
   | (refine sCc (v := .int .i64 b) rfl _ _ rfl rfl rfl ocI HN rfl rfl rfl ?_; intro w' hk hg; replace HR := HR.grown hg (by have := hyn.out; omega); replace HM := HM.grown hg (hK) HN.bx.ty bNd; replace HB := bGr HB hg HB.size (Nat.le_refl _); replace HN := hk; clear hk hg)
   | (refine sCc (v := .int .i64 3) rfl _ _ rfl rfl rfl ocI HN rfl rfl rfl ?_; intro w' hk hg; replace HR := HR.grown hg (by have := hyn.out; omega); replace HM := HM.grown hg (hK) HN.bx.ty bNd; replace HB := bGr HB hg HB.size (Nat.le_refl _); replace HN := hk; clear hk hg))
  replace HN : Bk w' w.heap.size 34 (ndL P d) := by rw [HPE.out]; exact HN
  replace HM : NdM K w' P d := by rw [HPE.out]; exact HM.same rfl rfl rfl rfl rfl
  replace HR := HR.later ((Below.refl _ _).drew)
  refine wp_region_held_drew (S := fun w' => Bk w' w.heap.size 34 (ndL P d) ∧ NdM K w' P d ∧ Below w.heap.size w w') (by kernel_rfl) (⟨HN.later ((Below.refl _ _).drew), HM.later ((Below.refl _ _).drew), HB.drew⟩) (fun HS => ?_)
  refine tkh (i := 0) (v := (.agg (ndL P d).toArray)) rfl ⟨by rfl, fun _ hSw => eLb _ rfl rfl nodeT hSw.1 rfl⟩ HS ?_
  refine tkh (i := 1) (v := (.agg (ndL P d).toArray)) rfl ⟨by rfl, fun _ hSw => eLb _ rfl rfl nodeT hSw.1 rfl⟩ HS ?_
  refine tkh (i := 2) (v := (.agg (ndL P d).toArray)) rfl ⟨by rfl, fun _ hSw => eLb _ rfl rfl nodeT hSw.1 rfl⟩ HS ?_
  try simp only [ly, Act.put]
  refine onh (r := 3) (by kernel_rfl) rfl (fun KK hK => ?_)
  go_simp
  refine (pOthers_any P d hbd K _ HS.2.1).mono ?_
  rintro e wo ⟨ao, co, rfl, hUo, _, hb⟩
  have HUo := hI_ hUo
  replace HR := HR.later hb
  clear hUo
  go_wp2_with fail
  refine hK.out _ _ ⟨HS.1.later hb, HS.2.1.later hb, HS.2.2.trans (hb.mono HS.2.2.size)⟩ (fun HS => ?_)
  clear hK
  try simp only [ly, Act.put]
  refine onh (r := 4) (by kernel_rfl) rfl (fun KK hK => ?_)
  go_simp
  refine (pSend_any P d hbd K _ co ao P.oth rfl (Nat.le_trans (oth_len _ _ (conf_may hbd.may)) (by omega)) _ HS.2.1 HUo.out).mono ?_
  rintro e wm ⟨v, O, rfl, hC, hO, hb⟩
  replace HR := HR.later hb
  have HC := hC.mono (Nat.le_trans (hsz.out) (HS.2.2.size))
  have HO := hI_ hO
  clear hC hO
  go_wp2_with fail
  refine hK.out _ _ ⟨HS.1.later hb, HS.2.1.later hb, HS.2.2.trans (hb.mono HS.2.2.size)⟩ (fun HS => ?_)
  clear hK
  try simp only [ly, Act.put]
  refine onh (r := 5) (by kernel_rfl) rfl (fun KK hK => ?_)
  rw [if_pos (by rfl)]
  refine wSb _ _ rfl rfl (M := ndL P d) rfl nodeT HR rfl rfl rfl ?_
  intro w' hk hg
  have HC1 := HC.box hg HR.bx.ty boxNm
  have HM1 := HS.2.1.grown hg (by have := hyn.out; omega) HR.bx.ty bNd
  have HN1 := HS.1.grown hg (by have := hyn.out; omega)
  have HB1 := bGr HS.2.2 hg HS.2.2.size (by have := hyn.out; omega)
  replace HC := HC1
  replace HR := hk
  clear HC1 hk hg
  refine hK.out _ _ ⟨HN1, HM1, HB1⟩ (fun HS => ?_)
  clear hK
  try simp only [ly, Act.put]
  refine tkp (i := 6) rfl HS ?_
  try simp only [ly, Act.put]
  refine wpAnyH_done (by kernel_rfl) ?_ _
  go_wp2_with fail
  refine bodyPost_ret (v := .tuple #[ndV P d, v]) (by rw [rBt Tryz.results65 _ rfl nodeT HR rfl]; rfl) rfl ?_
  exact HF.out _ v O HS.2.2 HS.2.1 HC HO.out
end Go.Proofs.YtdcpiaoadbbdoaaGreatDoor
