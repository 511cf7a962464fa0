/- What a node said is counted. -/
import Derived.Test.YtdcpiaoadbbdoaaGreatDoorRtake
import Derived.Test.YtdcpiaoadbbdoaaGreatDoorQas
import Derived.Test.YtdcpiaoadbbdoaaGreatDoorQz
import Derived.Laws.StructEq
import Derived.Test.YtdcpiaoadbbdoaaGreatDoorTabs
import Derived.Lib.Hide
import Derived.Test.YtdcpiaoadbbdoaaGreatDoorJd
import Derived.Test.YtdcpiaoadbbdoaaGreatDoorQc
set_option maxRecDepth 100000
set_option maxHeartbeats 16000000
namespace Go.Proofs.YtdcpiaoadbbdoaaGreatDoor
open Go.RowKit

theorem pCount8_any (hRM : RmOk) (p : Pn) (d : Ad) (hBd : Bd p) (K : Nat) (w : World) (hK : K ≤ w.heap.size) (hM : NdM K w p d) : Calls Tryz.prog 122 #[ndV p d] w (NmP K w (countP p)) :=
 pCountG_any hRM p d hBd K w hK hM (fun _ w1 hk hm => pStand_any hRM p d hBd K w1 hk hm)
theorem bd_say {p : Pn} (h : Bd p) (hv : p.voices.length * 16 ≤ 140737488352900) {i : Nat} (hi : i < 18446744073709551616) (y : Bool) : Bd { p with voices := sayL p.voices i y } :=
 ⟨h.id, h.may, h.term, h.vote, h.base, h.bt, h.snap, h.ents, h.data, h.commit, by
  have := sayL_len p.voices i y
  show (sayL p.voices i y).length * 16 ≤ _
  omega, fun x hx => by
  have hx : x ∈ sayL p.voices i y := hx
  unfold sayL at hx
  split at hx
  · exact h.ids x hx
  · rcases List.mem_append.1 hx with hx | hx
    · exact h.ids x hx
    · simp only [List.mem_singleton] at hx; subst hx; exact hi, h.next, h.mat, h.marks, h.nexts⟩
theorem CqV.ty {B : Nat} (K : Nat) {w : World} {v : Value} {L : List Vo} (h : CqV B w v L) : ∃ a c, v = .slice a L.length c ∧ Vs w a L ∧ Ty K w a L.length 144 := by
 obtain ⟨a, c, e, hM, _⟩ := h.form voT
 refine ⟨a, c, e, hM, ?_⟩
 rcases h with ⟨h0, _⟩ | h
 · rw [h0]; exact Ty.nil _ _ _ _
 · exact Ty.of_owns h e
theorem pSay8_any (hRM : RmOk) (p : Pn) (d : Ad) (hBd : Bd p) (hvb : p.voices.length * 16 ≤ 140737488352900) (m : Mg) (hfr : m.fr < 18446744073709551616) (K : Nat) (w : World) (hK : K ≤ w.heap.size) (hM : NdM K w p d) :
 Calls Tryz.prog 113 #[ndV p d, mgV m] w (NmP K w (sayP p m)) := by
 obtain ⟨W, hW, B0, N0, Z0⟩ := nk_new w p d
 obtain ⟨Wm, ym, hWm, hym, Bm, HG, Zm⟩ := bk_new W (mgA m) 59
 obtain ⟨W1, y, hW1, hy, B1, HR, Z1⟩ := bk_new Wm znA 34
 have Bm' : Below W.heap.size W Wm := hym ▸ Bm
 have B1' : Below Wm.heap.size Wm W1 := hy ▸ B1
 have HB1 := B0.trans (Bm'.mono B0.size)
 have HN := (N0.later Bm').later B1'
 replace HG := HG.later B1'
 have HB := HB1.trans (B1'.mono HB1.size)
 have hyn := hI_ (show w.heap.size < y ∧ w.heap.size < ym ∧ ym < y by have := Z0.out; have := Zm.out; omega)
 clear B0 N0 B1 Bm Bm' B1' HB1
 unfold ndA at hW
 unfold mgA at hWm
 unfold znA at hW1
 have HM := hM.later HB
 have hsay : (p.voices.length + 1) * 16 ≤ 140737488355328 := by omega
 have hbd := bd_say hBd hvb hfr m.ok
 obtain ⟨P, hP⟩ : ∃ P : Pn, P = { p with voices := sayL p.voices m.fr m.ok } := ⟨_, rfl⟩
 rw [← hP] at hbd
 have HPE := hI_ hP
 have HSP := hI_ (show sayP p m = countP P by rw [hP]; rfl)
 have HRM := hI_ hRM
 clear hM hP hRM
 go_enter Tryz.func113, Tryz.ntmps113
 go_wp2_with (first
  | (refine lCc rfl _ rfl rfl (ocA rfl) (by assumption) rfl ?_))
 refine (pSay_any m.fr _ _ m.ok _ p.voices rfl hsay _ HM.o).mono ?_
 rintro e w2 ⟨v2, rfl, hcv, hb⟩
 obtain ⟨a2, c2, rfl, hV2, hT2⟩ := hcv.ty K
 replace HB := HB.trans (hb.mono HB.size)
 replace HN := HN.later hb
 replace HR := HR.later hb
 replace HM := HM.vos hb (c := c2) hV2 hT2
 obtain ⟨D, hD⟩ : ∃ D : Ad, D = { d with o := ⟨a2, c2⟩ } := ⟨_, rfl⟩
 have HPD := hI_ (show ndL P D = ndL { p with voices := sayL p.voices m.fr m.ok } { d with o := ⟨a2, c2⟩ } by rw [HPE.out, hD])
 replace HM : NdM K w2 P D := by rw [HPE.out, hD]; exact HM
 generalize sayL p.voices m.fr m.ok = SL at *
 clear hb hcv hV2 hT2 HG hD
 go_wp2_with (first
  | (refine sCc (v := .slice a2 SL.length c2) rfl _ _ rfl rfl rfl ocV HN rfl rfl rfl ?_; intro w' hk hg; replace HR := HR.grown hg (by have := hyn.out; omega); replace HM := HM.grown hg (hK) HN.bx.ty bNd; replace HB := bGr HB hg HB.size (Nat.le_refl _); replace HN := hk; clear hk hg)
  | (refine lBk rfl _ rfl rfl nodeT (L := ndL P D) (by rw [HPD.out]; exact HN) rfl ?_))
 have HSZ := hI_ HB.size
 refine (pCount8_any HRM.out P D hbd K _ (Nat.le_trans hK HB.size) HM).mono ?_
 obtain ⟨P3, M3, h3⟩ : ∃ P3 M3, countP P = (P3, M3) := ⟨_, _, rfl⟩
 have HQ := hI_ (show sayP p m = (P3, M3) from HSP.out.trans h3)
 rw [h3]
 clear h3
 rintro e w6 ⟨D3, v, O, rfl, hm3, hC, hO, hb⟩
 replace HB := HB.trans (hb.mono HB.size)
 replace HR := HR.later hb
 replace HM := hm3
 replace hC := hC.mono HSZ.out
 simp only at hO HM
 have HO := hI_ hO
 clear hb hm3 hO HN
 go_wp2_with (first
  | (refine sBk rfl _ _ rfl rfl rfl nodeT HR rfl rfl rfl ?_; intro w' hk hg; replace HM := HM.grown hg (by have := hyn.out; omega) HR.bx.ty bNd; replace hC := hC.box hg HR.bx.ty boxNm; replace HB := bGr HB hg HB.size (by have := hyn.out; omega); replace HR := hk; clear hk hg))
 refine bodyPost_ret (v := .tuple #[ndV P3 D3, v]) (by rw [rBt Tryz.results113 _ rfl nodeT HR rfl]; rfl) rfl ?_
 rw [HQ.out]
 exact ⟨D3, v, O, rfl, HM, hC, HO.out, HB⟩

structure Bm (m : Mg) : Prop where
 fr : m.fr < 18446744073709551616
 dst : m.dst < 18446744073709551616
 term : m.term < 18446744073709551616
 i : m.i < 18446744073709551616
 lt : m.lt < 18446744073709551616
 commit : m.commit < 18446744073709551616
 es : m.es.length * 24 ≤ 140737488351232
 snap : m.snap.size ≤ 140737488351232
 data : ∀ x ∈ m.es, x.t < 18446744073709551616 ∧ x.d.size ≤ 140737488351232
 ec : m.es.length ≤ m.cap
 em : m.cap ≤ maxLen
section
variable {w : World} {ops : Array Oper} {rest : List Oper} {o : Oper} {a : Act} {Q : Exit → Act → World → Prop} {k k' k'' : IntKind}
theorem exec_max2 (x y : Operand) (ts : Array TypeId) (ho : o.op = .call { callee := .builtin .max, args := #[x, y], argTypes := ts }) {i j r : Int} (hx : a.eval x = .int k i) (hy : a.eval y = .int k' j) (hr : (if j > i then j else i) = r) : (execOp a.eval o).run Tryz.prog w = .ok (.value (.int k r)) w := by
 subst hr
 generalize a.eval = ev at *
 unfold execOp
 simp [ho, hx, hy, go_sem]
 try (split <;> omega)
theorem exec_min2 (x y : Operand) (ts : Array TypeId) (ho : o.op = .call { callee := .builtin .min, args := #[x, y], argTypes := ts }) {i j r : Int} (hx : a.eval x = .int k i) (hy : a.eval y = .int k' j) (hr : (if j < i then j else i) = r) : (execOp a.eval o).run Tryz.prog w = .ok (.value (.int k r)) w := by
 subst hr
 generalize a.eval = ev at *
 unfold execOp
 simp [ho, hx, hy, go_sem]
 try (split <;> omega)
theorem exec_max3 (x y z : Operand) (ts : Array TypeId) (ho : o.op = .call { callee := .builtin .max, args := #[x, y, z], argTypes := ts }) {i j l r s : Int} (hx : a.eval x = .int k i) (hy : a.eval y = .int k' j) (hz : a.eval z = .int k'' l) (hr : (if j > i then j else i) = r) (hs : (if l > r then l else r) = s) : (execOp a.eval o).run Tryz.prog w = .ok (.value (.int k s)) w := by
 subst hs; subst hr
 generalize a.eval = ev at *
 unfold execOp
 simp [ho, hx, hy, hz, go_sem]
 try (split <;> omega)
theorem wpList_val (hgd : o.guard = none) {v : Value} (h : (execOp a.eval o).run Tryz.prog w = .ok (.value v) w) (hk : wpList Tryz.prog ops Q rest (a.put o.dst v) w) : wpList Tryz.prog ops Q (o :: rest) a w :=
 wpList_plain hgd fun K hK => by
  unfold Oper.wp
  rw [h]
  exact hK _ _ hk
end
section
variable {w : World} {ops : Array Oper} {rest : List Oper} {o : Oper} {a : Act} {Q : Exit → Act → World → Prop} {T E : TypeId} {g n : Nat} {L : List Value}
theorem wpList_grd (hw : Region.wanted o (yielded ops a.tmps) = true) (h : ∀ K : Act → World → Prop, (∀ a w, wpList Tryz.prog ops Q rest a w → K a w) → o.wp Tryz.prog a w K Q) : wpList Tryz.prog ops Q (o :: rest) a w :=
 wpList_step fun K hK => by rw [if_pos hw]; exact h K hK
theorem wpList_load_bkg (hw : Region.wanted o (yielded ops a.tmps) = true) (x : Operand) (ho : o.op = .load T x) (hx : a.eval x = .pointer (some ⟨g, 0, none⟩)) (hS : StT T n) (H : Bk w g E L) (hn : L.length = n) (h : wpList Tryz.prog ops Q rest (a.put o.dst (.agg L.toArray)) w) : wpList Tryz.prog ops Q (o :: rest) a w :=
 wpList_grd hw fun _ hK => wp_load_bk x ho hx hS H hn (hK _ _ h)
end
theorem max_nat (i j : Nat) : (if (j : Int) > (i : Int) then (j : Int) else (i : Int)) = ((max i j : Nat) : Int) := by
 by_cases h : i < j
 · rw [if_pos (by omega), Nat.max_eq_right (by omega)]
 · rw [if_neg (by omega), Nat.max_eq_left (by omega)]
theorem min_nat (i j : Nat) : (if (j : Int) < (i : Int) then (j : Int) else (i : Int)) = ((min i j : Nat) : Int) := by
 by_cases h : j < i
 · rw [if_pos (by omega), Nat.min_eq_right (by omega)]
 · rw [if_neg (by omega), Nat.min_eq_left (by omega)]

def ownC (p : Pn) : Bool := (tAt p.g.base p.g.bt p.g.L p.commit).2 && decide ((tAt p.g.base p.g.bt p.g.L p.commit).1 = p.term)
theorem busyB_eq (p : Pn) : busyB p = (!ownC p || (lastC (fromL p.g.base p.g.L ((p.commit + 1) % 18446744073709551616) p.g.L.length)).isSome) := rfl
theorem pBusy_1 (p : Pn) (d : Ad) (hBd : Bd p) (K : Nat) (w : World) (hM : NdM K w p d) (h : ownC p = false) :
 Calls Tryz.prog 24 #[ndV p d] w fun e w' => e = .returned (.bool (busyB p)) ∧ Below w.heap.size w w' := by
 obtain ⟨W, hW, B0, N0, Z0⟩ := nk_new w p d
 obtain ⟨W1, yl, hW1, hyl, B1, HL, Z1⟩ := bk_new W #[.int .u64 p.g.base, .int .u64 p.g.bt, .string p.g.snap, .slice d.e.a p.g.L.length d.e.c] 28
 have B1' : Below W.heap.size W W1 := hyl ▸ B1
 have HN := N0.later B1'
 have HB := B0.trans (B1'.mono B0.size)
 have HM := hM.later HB
 unfold ndA at hW
 have hbs := hBd.base
 have hes := hBd.ents
 have hcm := hBd.commit
 have hdt := hBd.data
 obtain ⟨q1, q2, hq⟩ : ∃ q1 q2, tAt p.g.base p.g.bt p.g.L p.commit = (q1, q2) := ⟨_, _, rfl⟩
 have HQ := hI_ hq
 have HTC := hI_ (show ∀ w1, Below w.heap.size w w1 → Calls Tryz.prog 69 #[.agg #[.int .u64 p.g.base, .int .u64 p.g.bt, .string p.g.snap, .slice d.e.a p.g.L.length d.e.c], .int .u64 p.commit] w1 fun e w' => e = .returned (.tuple #[.int .u64 q1, .bool q2]) ∧ Below w1.heap.size w1 w' from fun w1 hb => by
  have h := pTermAt_any p.g.base p.g.bt p.g.L.length d.e.c p.commit p.g.snap d.e.a p.g.L rfl (by omega) hbs hcm w1 (hM.later hb).e
  rw [hq] at h; exact h)
 clear hM B0 B1 B1' hq
 have HR := hI_ (show busyB p = true by rw [busyB_eq, h]; rfl)
 go_enter Tryz.func24, Tryz.ntmps24
 go_wp2_with (first
  | (refine lSb rfl _ rfl rfl [.int .u64 p.g.base, .int .u64 p.g.bt, .string p.g.snap, .slice d.e.a p.g.L.length d.e.c] logT (by assumption) rfl rfl ?_)
  | (refine lBk rfl _ rfl rfl logT HL rfl ?_)
  | (refine lCc rfl _ rfl rfl (ocA rfl) (by assumption) rfl ?_))
 refine (HTC.out _ HB).mono ?_
 rintro e w2 ⟨rfl, hb⟩
 replace HB := HB.trans (hb.mono HB.size)
 replace HN := HN.later hb
 replace HL := HL.later hb
 replace HM := HM.later hb
 clear hb
 have c3 := HN.bx.c 3 _ rfl
 cases q2
 case false =>
  go_wp2_with fail
  go_ret
  exact ⟨by rw [HR.out]; rfl, HB⟩
 case true =>
  have hne : ¬ q1 = p.term := fun e => by
   have : ownC p = true := by unfold ownC; rw [HQ.out]; simp [e]
   rw [h] at this; exact absurd this (by decide)
  have g1 : ((q1 : Int) == (p.term : Int)) = false := by simp; omega
  have g2 : ((q1 : Int) != (p.term : Int)) = true := by simp; omega
  go_wp2_with fail
  go_ret
  exact ⟨by rw [HR.out]; rfl, HB⟩
theorem pBusy_2 (p : Pn) (d : Ad) (hBd : Bd p) (K : Nat) (w : World) (hM : NdM K w p d) (h : ownC p = true) :
 Calls Tryz.prog 24 #[ndV p d] w fun e w' => e = .returned (.bool (busyB p)) ∧ Below w.heap.size w w' := by
 obtain ⟨W, hW, B0, N0, Z0⟩ := nk_new w p d
 obtain ⟨W1, yl, hW1, hyl, B1, HL, Z1⟩ := bk_new W #[.int .u64 p.g.base, .int .u64 p.g.bt, .string p.g.snap, .slice d.e.a p.g.L.length d.e.c] 28
 have B1' : Below W.heap.size W W1 := hyl ▸ B1
 have HN := N0.later B1'
 have HB := B0.trans (B1'.mono B0.size)
 have HM := hM.later HB
 unfold ndA at hW
 have hbs := hBd.base
 have hes := hBd.ents
 have hcm := hBd.commit
 have hdt := hBd.data
 obtain ⟨q1, q2, hq⟩ : ∃ q1 q2, tAt p.g.base p.g.bt p.g.L p.commit = (q1, q2) := ⟨_, _, rfl⟩
 have HQ := hI_ hq
 have HTC := hI_ (show ∀ w1, Below w.heap.size w w1 → Calls Tryz.prog 69 #[.agg #[.int .u64 p.g.base, .int .u64 p.g.bt, .string p.g.snap, .slice d.e.a p.g.L.length d.e.c], .int .u64 p.commit] w1 fun e w' => e = .returned (.tuple #[.int .u64 q1, .bool q2]) ∧ Below w1.heap.size w1 w' from fun w1 hb => by
  have h := pTermAt_any p.g.base p.g.bt p.g.L.length d.e.c p.commit p.g.snap d.e.a p.g.L rfl (by omega) hbs hcm w1 (hM.later hb).e
  rw [hq] at h; exact h)
 clear hM B0 B1 B1' hq
 have hown : q2 = true ∧ q1 = p.term := by
  unfold ownC at h; rw [HQ.out] at h
  simpa using h
 obtain ⟨rfl, rfl⟩ := hown
 obtain ⟨c1, hc1⟩ : ∃ c1 : Nat, (p.commit + 1) % 18446744073709551616 = c1 := ⟨_, rfl⟩
 have wc1 : IntKind.u64.wrap ((p.commit : Int) + 1) = (c1 : Int) := by rw [IntKind.wrap_u64]; omega
 have HR := hI_ (show busyB p = (lastC (fromL p.g.base p.g.L c1 p.g.L.length)).isSome by rw [busyB_eq, h, hc1]; rfl)
 have hc1l : c1 < 18446744073709551616 := by omega
 have hnl : p.g.L.length ≤ 140737488351232 := by omega
 obtain ⟨M, hMM⟩ : ∃ M, fromL p.g.base p.g.L c1 p.g.L.length = M := ⟨_, rfl⟩
 obtain ⟨bb, hbb⟩ : ∃ b, decide (p.g.base < c1) = b := ⟨_, rfl⟩
 have hsub : M.length ≤ p.g.L.length ∧ ∀ x ∈ M, x ∈ p.g.L := by
  rw [← hMM]; unfold fromL; split
  · exact ⟨Nat.zero_le _, fun x hx => by cases hx⟩
  · exact ⟨by rw [List.length_take, List.length_drop]; omega, fun x hx => List.mem_of_mem_drop (List.mem_of_mem_take hx)⟩
 have HML := hI_ (show M.length ≤ 140737488351232 by omega)
 have HMD := hI_ (show ∀ x ∈ M, x.d.size ≤ 140737488351232 from fun x hx => (hdt x (hsub.2 x hx)).2)
 rw [hMM] at HR
 have HFM := hI_ (show ∀ w1, NdM K w1 p d → Calls Tryz.prog 70 #[.agg #[.int .u64 p.g.base, .int .u64 p.g.bt, .string p.g.snap, .slice d.e.a p.g.L.length d.e.c], .int .u64 c1, .int .i64 p.g.L.length] w1 (FrP w1 M bb) from fun w1 hm => by
  have h := pFrom_any p.g.base p.g.bt p.g.L.length d.e.c c1 p.g.L.length p.g.snap d.e.a p.g.L rfl hnl hm.ec hm.em hbs hc1l w1 hm.e
  rw [hMM, hbb] at h; exact h)
 clear hMM hbb hsub hc1l hnl
 clear hc1
 go_enter Tryz.func24, Tryz.ntmps24
 go_wp2_with (first
  | (refine lSb rfl _ rfl rfl [.int .u64 p.g.base, .int .u64 p.g.bt, .string p.g.snap, .slice d.e.a p.g.L.length d.e.c] logT (by assumption) rfl rfl ?_)
  | (refine lBk rfl _ rfl rfl logT HL rfl ?_)
  | (refine lCc rfl _ rfl rfl (ocA rfl) (by assumption) rfl ?_))
 refine (HTC.out _ HB).mono ?_
 rintro e w2 ⟨rfl, hb⟩
 replace HB := HB.trans (hb.mono HB.size)
 replace HN := HN.later hb
 replace HL := HL.later hb
 replace HM := HM.later hb
 clear hb
 have c3 := HN.bx.c 3 _ rfl
 have g1 : ((p.term : Int) == (p.term : Int)) = true := by simp
 have g2 : ((p.term : Int) != (p.term : Int)) = false := by simp
 go_wp2_with (first
  | (refine lBk rfl _ rfl rfl logT HL rfl ?_)
  | (refine lCc rfl _ rfl rfl (ocA rfl) (by assumption) rfl ?_))
 refine (HFM.out _ HM).mono ?_
 rintro e w3 ⟨a', c', rfl, hE, hb⟩
 replace HB := HB.trans (hb.mono HB.size)
 clear hb HN HL HM
 go_wp2_with fail
 refine (pLatest_any _ c' a' M rfl HML.out HMD.out _ hE).mono ?_
 rintro e w4 ⟨c, s1, s2, b, rfl, hob, _, _, _, _, hb⟩
 replace HB := HB.trans (hb.mono HB.size)
 have HBB := hI_ (show busyB p = b by rw [HR.out, hob]; cases b <;> rfl)
 clear hb hE hob
 go_wp2_with fail
 go_ret
 exact ⟨by rw [HBB.out]; rfl, HB.alloc HB.size _⟩
theorem pBusy_any (p : Pn) (d : Ad) (hBd : Bd p) (K : Nat) (w : World) (hM : NdM K w p d) :
 Calls Tryz.prog 24 #[ndV p d] w fun e w' => e = .returned (.bool (busyB p)) ∧ Below w.heap.size w w' := by
 cases h : ownC p
 · exact pBusy_1 p d hBd K w hM h
 · exact pBusy_2 p d hBd K w hM h

theorem exec_cmp {o : Oper} {a : Act} {w : World} (x y : Operand) (ho : o.op = .binOp .eql 36 x y 36) {k : Int} {i j : Nat} (hx : a.eval x = .agg #[.int .i64 k, .int .u64 i]) (hy : a.eval y = .agg #[.int .i64 3, .int .u64 j]) (h : ¬ (k = 3 ∧ i = j)) :
 (execOp a.eval o).run Tryz.prog w = .ok (.value (.bool false)) w := by
 by_cases hk : k = 3
 · have hi : ¬ (i : Int) = (j : Int) := by omega
   subst hk
   generalize a.eval = ev at *
   unfold execOp
   simp [ho, hx, hy, go_sem, hi]
 · generalize a.eval = ev at *
   unfold execOp
   simp [ho, hx, hy, go_sem, hk]

theorem num_s (s : Nat) (Z : List Value) (hZ : Hid (Z.length = s)) (hs0 : ((s : Int) == 0) = false)
 (hmk : ∀ w, (Instr.makeSlice 174 (.int .i64 s) (.int .i64 s)).run Tryz.prog w = .ok (.slice (some ⟨w.heap.size, 0, none⟩) s s) (w.alloc (.cells Z.toArray 5)))
 (v : Int) (hs : Hid (szOf v = s)) (w : World) (h0 : 0 ≤ v) (h1 : v < 4611686018427387904) (hT : Tz w) :
 Calls Tryz.prog 142 #[.int .u64 v] w fun e w' => e = .returned (.tuple #[.string ⟨(numB v.toNat).toArray⟩, .int .i64 0]) ∧ Below w.heap.size w w' := by
 have hl : Hid ((numB v.toNat).length = s) := by have := numB_len v h0 h1; have e := hs.out; show _ = _; omega
 go_enter Tryz.func142, Tryz.ntmps142
 go_wp2_with (first | (go_at_call 130; refine (size_any _ _ h0).mono ?_; rintro e w' ⟨rfl, rfl⟩; rw [hs.out]))
 refine (lay_any v _ h0 h1 w.heap.size 0 s s Z (by rw [hl.out]; exact Nat.le_refl _) (by rw [hl.out, hZ.out]; omega) (heap_alloc_new _ _) (hT.below ((Below.refl _ _).alloc hT.n _))).mono ?_
 rintro e w1 ⟨rfl, hg, hb1⟩
 have hf : splice Z 0 ((numB v.toNat).map u8v) = (numB v.toNat).map u8v := by
  unfold splice
  rw [List.take_zero, List.nil_append, List.drop_eq_nil_of_le (by rw [hZ.out, List.length_map, hl.out]; omega), List.append_nil]
 rw [hf] at hb1
 have hconv : (convert 174 9 (.slice (some ⟨w.heap.size, 0, none⟩) s s)).run Tryz.prog w1 = .ok (.string ⟨(numB v.toNat).toArray⟩) w1 := by
  have := run_convert_bytes_back (P := Tryz.prog) w1 174 9 5 ⟨w.heap.size, 0, none⟩ s (numB v.toNat) Tryz.underlying174 Tryz.underlying5 Tryz.underlying9 (fun j hj => by
   rw [addHead, cell_of_row w1 _ j _ _ _ hb1]
   simp [u8v, hj])
  rw [hl.out] at this; exact this
 have HB := hI_ ((Below.refl w.heap.size w).alloc (Nat.le_refl _) (.cells Z.toArray 5) |>.grown hg (by simp) (fun k hk => by cases hk; exact Nat.le_refl _))
 clear hf hb1 hg
 go_wp2_with fail
 go_ret2
 exact ⟨rfl, HB.out⟩
theorem mk1 (w : World) : (Instr.makeSlice 174 (.int .i64 1) (.int .i64 1)).run Tryz.prog w = .ok (.slice (some ⟨w.heap.size, 0, none⟩) 1 1) (w.alloc (.cells [.int .u8 0].toArray 5)) := by kernel_rfl
theorem mk2 (w : World) : (Instr.makeSlice 174 (.int .i64 2) (.int .i64 2)).run Tryz.prog w = .ok (.slice (some ⟨w.heap.size, 0, none⟩) 2 2) (w.alloc (.cells [.int .u8 0, .int .u8 0].toArray 5)) := by kernel_rfl
theorem mk4 (w : World) : (Instr.makeSlice 174 (.int .i64 4) (.int .i64 4)).run Tryz.prog w = .ok (.slice (some ⟨w.heap.size, 0, none⟩) 4 4) (w.alloc (.cells [.int .u8 0, .int .u8 0, .int .u8 0, .int .u8 0].toArray 5)) := by kernel_rfl
theorem mk8 (w : World) : (Instr.makeSlice 174 (.int .i64 8) (.int .i64 8)).run Tryz.prog w = .ok (.slice (some ⟨w.heap.size, 0, none⟩) 8 8) (w.alloc (.cells [.int .u8 0, .int .u8 0, .int .u8 0, .int .u8 0, .int .u8 0, .int .u8 0, .int .u8 0, .int .u8 0].toArray 5)) := by kernel_rfl
theorem num_any (v : Int) (w : World) (h0 : 0 ≤ v) (h1 : v < 4611686018427387904) (hT : Tz w) :
 Calls Tryz.prog 142 #[.int .u64 v] w fun e w' => e = .returned (.tuple #[.string ⟨(numB v.toNat).toArray⟩, .int .i64 0]) ∧ Below w.heap.size w w' := by
 by_cases a : v < 64
 · exact num_s 1 _ (hI_ rfl) rfl mk1 v (hI_ (szOf1 a)) w h0 h1 hT
 by_cases b : v < 16384
 · exact num_s 2 _ (hI_ rfl) rfl mk2 v (hI_ (szOf2 (by omega) b)) w h0 h1 hT
 by_cases c : v < 1073741824
 · exact num_s 4 _ (hI_ rfl) rfl mk4 v (hI_ (szOf4 (by omega) c)) w h0 h1 hT
 · exact num_s 8 _ (hI_ rfl) rfl mk8 v (hI_ (szOf8 (by omega) h1)) w h0 h1 hT

theorem sz_arr (L : List UInt8) : (ByteArray.mk L.toArray).size = L.length := by simp [ByteArray.size]
theorem pText_any (L : List UInt8) (hL : L.length ≤ 4096) (w : World) (hT : Tz w) :
 Calls Tryz.prog 97 #[.string ⟨L.toArray⟩] w fun e w' => e = .returned (.tuple #[.string ⟨(numB L.length ++ L).toArray⟩, .int .i64 0]) ∧ Below w.heap.size w w' := by
 have hsz := sz_arr L
 obtain ⟨s, hs⟩ : ∃ s, (⟨L.toArray⟩ : ByteArray) = s := ⟨_, rfl⟩
 have HS := hI_ hs
 rw [hs] at hsz ⊢
 have hN := numB_le L.length
 have hsn := sz_arr (numB L.length)
 have g1 : ¬ (4096 : Int) < (s.size : Int) := by omega
 have w1 : IntKind.u64.wrap (s.size : Int) = (s.size : Int) := IntWalk.u64_in _ (by omega)
 have hcc : ¬ 9223372036854775807 < (numB L.length).length + s.size := by omega
 have HNU := hI_ (show ∀ w1, Tz w1 → Calls Tryz.prog 142 #[.int .u64 (s.size : Int)] w1 fun e w' => e = .returned (.tuple #[.string ⟨(numB L.length).toArray⟩, .int .i64 0]) ∧ Below w1.heap.size w1 w' from fun w1 h1 => by
  have h := num_any (s.size : Int) w1 (by omega) (by omega) h1
  rw [show ((s.size : Int)).toNat = L.length by omega] at h; exact h)
 clear hs hsz hsn hN
 go_enter Tryz.func97, Tryz.ntmps97
 go_wp2_with fail
 refine (HNU.out _ hT).mono ?_
 rintro e w1 ⟨rfl, hb1⟩
 go_wp2_with fail
 go_ret2
 exact ⟨retStrI (by rw [← HS.out, mk_app]), hb1⟩
theorem pSnapshot_any (c : Cf) (s1 s2 : Sa) (hm : mayB c.V c.L = true) (app : ByteArray) (ha : app.size ≤ 140737488351232) (w : World) (hV : Us w s1.a c.V) (hU : Us w s2.a c.L) (hT : Tz w) :
 Calls Tryz.prog 48 #[.agg #[.slice s1.a c.V.length s1.c, .slice s2.a c.L.length s2.c], .string app] w fun e w' => e = .returned (.string (snapD c app)) ∧ Below w.heap.size w w' := by
 obtain ⟨W, x, hW, hx, B0, HC, Z0⟩ := bk_new w #[.slice s1.a c.V.length s1.c, .slice s2.a c.L.length s2.c] 25
 have HB : Below w.heap.size w W := hx ▸ B0
 have HV := hV.later HB
 have HU := hU.later HB
 have HT := hT.below (HB.mono hT.n)
 have hcl := (may_small hm).1
 have hby : (byG c.V c.L).length ≤ 96 := by
  unfold byG; rw [if_pos hm, List.length_append]
  exact nums_room (may_small hm)
 obtain ⟨S, hS⟩ : ∃ S, byG c.V c.L = S := ⟨_, rfl⟩
 have HBY := hI_ (show ∀ w1, Us w1 s1.a c.V → Us w1 s2.a c.L → Tz w1 → Calls Tryz.prog 27 #[.agg #[.slice s1.a c.V.length s1.c, .slice s2.a c.L.length s2.c]] w1 fun e w' => e = .returned (.tuple #[.string ⟨S.toArray⟩, .int .i64 0]) ∧ Below w1.heap.size w1 w' from fun w1 h1 h2 h3 => by
  have h := pBytes_any c.V.length s1.c c.L.length s2.c s1.a s2.a c.V c.L rfl (by omega) rfl (by omega) w1 h1 h2 h3
  rw [hS, show erG c.V c.L = 0 by unfold erG; rw [if_pos hm]] at h
  exact h)
 have HD := hI_ (show snapD c app = ⟨(numB S.length ++ S).toArray⟩ ++ app by unfold snapD; rw [hS])
 rw [hS] at hby
 have hnb := numB_le S.length
 have hzz := sz_arr (numB S.length ++ S)
 rw [List.length_append] at hzz
 have HTX := hI_ (show ∀ w1, Tz w1 → Calls Tryz.prog 97 #[.string ⟨S.toArray⟩] w1 fun e w' => e = .returned (.tuple #[.string ⟨(numB S.length ++ S).toArray⟩, .int .i64 0]) ∧ Below w1.heap.size w1 w' from fun w1 h1 => pText_any S (by omega) w1 h1)
 obtain ⟨s1', hs1⟩ : ∃ s, (⟨(numB S.length ++ S).toArray⟩ : ByteArray) = s := ⟨_, rfl⟩
 obtain ⟨s0', hs0⟩ : ∃ s, (⟨S.toArray⟩ : ByteArray) = s := ⟨_, rfl⟩
 rw [hs1] at HTX HD hzz
 rw [hs0] at HTX HBY
 have hcc : ¬ 9223372036854775807 < s1'.size + app.size := by omega
 clear hS hm hs1 hs0
 have HTN := hI_ HT.n
 go_enter Tryz.func48, Tryz.ntmps48
 go_wp2_with (first
  | (refine lBk rfl _ rfl rfl confT (by assumption) rfl ?_))
 refine (HBY.out _ HV HU HT).mono ?_
 rintro e w2 ⟨rfl, hb⟩
 replace HB := HB.trans (hb.mono HB.size)
 replace HT := HT.below (hb.mono HT.n)
 clear hb HV HU HC
 go_wp2_with fail
 refine (HTX.out _ HT).mono ?_
 rintro e w3 ⟨rfl, hb⟩
 replace HB := HB.trans (hb.mono HB.size)
 clear hb
 go_wp2_with fail
 go_ret
 exact ⟨by rw [HD.out]; rfl, HB⟩

def CxP (K : Nat) (w : World) (x : Int) (q : Pn) (e : Ending) (w' : World) : Prop :=
 if x = 0 then ∃ d, e = .returned (.tuple #[ndV q d, .int .i64 0]) ∧ NdM K w' q d ∧ Below w.heap.size w w'
 else e = .returned (.tuple #[.agg znA, .int .i64 x]) ∧ Below w.heap.size w w'
theorem CxP.no {K : Nat} {w : World} {x : Int} {q : Pn} (h : ¬ x = 0) : ∀ w', Below w.heap.size w w' → CxP K w x q (.returned (.tuple #[.agg znA, .int .i64 x])) w' := fun w' hb => by
 unfold CxP; rw [if_neg h]; exact ⟨rfl, hb⟩
theorem CxP.yes {K : Nat} {w : World} {x : Int} {q : Pn} (h : x = 0) {P : Pn} (hq : q = P) : ∀ w' D, NdM K w' P D → Below w.heap.size w w' → CxP K w x q (.returned (.tuple #[ndV P D, .int .i64 0])) w' := fun w' D h1 h2 => by
 subst hq
 unfold CxP; rw [if_pos h]; exact ⟨D, rfl, h1, h2⟩
def CfL (w : World) (a0 : Option Addr) (L0 : List En) (g : Lg) (e : Ending) (w' : World) : Prop := ∃ a c, e = .returned (.tuple #[.agg #[.int .u64 g.base, .int .u64 g.bt, .string g.snap, .slice a g.L.length c], .int .i64 0]) ∧ g.L.length ≤ c ∧ c ≤ maxLen ∧ Fr w a0 L0 w' a g.L ∧ Below w.heap.size w w'
theorem pCompactF_any (base bt n c i : Nat) (snap sn : ByteArray) (a : Option Addr) (L : List En) (hn : L.length = n) (hl : n ≤ 140737488351232) (hc : n ≤ c) (hcm : c ≤ maxLen) (hb : base < 4611686018427387904) (hi : i < 18446744073709551616) (hs : sn.size ≤ 4096) (w : World) (hE : Ents w a L) (h1 : base < i) (h2 : (tAt base bt L i).2 = true) :
 Calls Tryz.prog 50 #[.agg #[.int .u64 base, .int .u64 bt, .string snap, .slice a n c], .int .u64 i, .string sn] w (CfL w a L (insG ⟨base, bt, snap, L⟩ i (tAt base bt L i).1 sn)) := by
 obtain ⟨W, xl, hW, hxl, B0, HL, Z0⟩ := bk_new w #[.int .u64 base, .int .u64 bt, .string snap, .slice a n c] 28
 obtain ⟨W1, y, hW1, hy, B1, HR, Z1⟩ := bk_new W #[.int .u64 0, .int .u64 0, .string ⟨#[]⟩, .slice none 0 0] 28
 have B0' : Below w.heap.size w W := hxl ▸ B0
 have B1' : Below W.heap.size W W1 := hy ▸ B1
 replace HL := HL.later B1'
 have HB := B0'.trans (B1'.mono B0'.size)
 have hyn := hI_ (show w.heap.size = xl ∧ xl < y by have := Z0.out; omega)
 clear B0 B1 B0' B1'
 have HE := hE.later HB
 obtain ⟨t, b, hp⟩ : ∃ t b, tAt base bt L i = (t, b) := ⟨_, _, rfl⟩
 rw [hp] at h2
 simp only at h2
 subst h2
 obtain ⟨G, hG⟩ : ∃ G, insG ⟨base, bt, snap, L⟩ i t sn = G := ⟨_, rfl⟩
 rw [hp, hG]
 have HTA := hI_ (show ∀ w1, Ents w1 a L → Calls Tryz.prog 69 #[.agg #[.int .u64 base, .int .u64 bt, .string snap, .slice a n c], .int .u64 i] w1 fun e w' => e = .returned (.tuple #[.int .u64 t, .bool true]) ∧ Below w1.heap.size w1 w' from fun w1 h => by
  have h := pTermAt_any base bt n c i snap a L hn hl hb hi w1 h
  rw [hp] at h; exact h)
 have HIN := hI_ (show ∀ w1, Ents w1 a L → Calls Tryz.prog 99 #[.agg #[.int .u64 base, .int .u64 bt, .string snap, .slice a n c], .int .u64 i, .int .u64 t, .string sn] w1 (LoP w1 a L G) from fun w1 h => by
  have h := pInstall_any base bt n c i t snap sn a L hn hl hc hcm hb hi w1 h
  rw [hG] at h; exact h)
 have g1 : ¬ (i : Int) ≤ (base : Int) := by omega
 have g2 : ¬ (4096 : Int) < (sn.size : Int) := by omega
 clear hp hG hE
 go_enter Tryz.func50, Tryz.ntmps50
 go_wp2_with (first
  | (refine lBk rfl _ rfl rfl logT HL rfl ?_)
  | (refine lCc rfl _ rfl rfl (by first | exact ocU | exact ocS | exact ocE) (by assumption) rfl ?_))
 refine (HTA.out _ HE).mono ?_
 rintro e w2 ⟨rfl, hb2⟩
 replace HB := HB.trans (hb2.mono HB.size)
 replace HL := HL.later hb2
 replace HR := HR.later hb2
 replace HE := HE.later hb2
 clear hb2
 have l0 := HL.bx.c 0 _ rfl
 go_wp2_with (first
  | (refine lBk rfl _ rfl rfl logT HL rfl ?_)
  | (refine lCc rfl _ rfl rfl (by first | exact ocU | exact ocS | exact ocE) (by assumption) rfl ?_))
 have HSZ := hI_ HB.size
 have hyz := HR.lt
 refine (HIN.out _ HE).mono ?_
 rintro e w3 ⟨a', c', rfl, h1, h2, h3, hb2⟩
 replace HB := HB.trans (hb2.mono HB.size)
 replace HR := HR.later hb2
 have HFR := hI_ h3
 have HYZ := hI_ hyz
 clear hb2 HL HE h3 l0 hyz
 obtain ⟨m', hm'⟩ : ∃ m', G.L.length = m' := ⟨_, rfl⟩
 have HM := hI_ hm'
 rw [hm'] at h1 ⊢
 clear hm'
 go_wp2_with (first
  | (refine sBk rfl _ _ rfl rfl rfl logT HR rfl rfl rfl ?_; intro w' hk hg; replace HB := bGr HB hg HB.size (by have := hyn.out; omega); have HGR := hI_ hg; replace HR := hk; clear hk hg))
 refine bodyPost_ret (v := .tuple #[.agg #[.int .u64 G.base, .int .u64 G.bt, .string G.snap, .slice a' m' c'], .int .i64 0]) (by rw [rBt Tryz.results50 _ rfl logT HR rfl]; rfl) rfl ?_
 refine ⟨a', c', by rw [HM.out], by rw [HM.out]; exact h1, h2, ?_, HB⟩
 rcases HFR.out with h | ⟨h, k⟩
 · exact .inl h
 · refine .inr ⟨h.grown HGR.out (fun h0 q e => by have := (k q e).1; have := HYZ.out; omega), fun q e => ⟨Nat.le_trans HSZ.out (k q e).1, ?_⟩⟩
   obtain ⟨cur, hcur⟩ := (k q e).2
   have hne := (k q e).1
   have hlt := (k q e).2.lt
   exact ⟨cur, (HGR.out.block _ hlt (by simp; have := HYZ.out; omega)).trans hcur⟩
end Go.Proofs.YtdcpiaoadbbdoaaGreatDoor
