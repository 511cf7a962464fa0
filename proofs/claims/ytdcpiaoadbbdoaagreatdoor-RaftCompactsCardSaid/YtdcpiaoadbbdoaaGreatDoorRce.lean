/- A node's Compact, the document's. -/
import Derived.Test.YtdcpiaoadbbdoaaGreatDoorRb
import Derived.Test.YtdcpiaoadbbdoaaGreatDoorRcc
import Derived.Test.YtdcpiaoadbbdoaaGreatDoorRcd
import Derived.Test.YtdcpiaoadbbdoaaGreatDoorQcp
import Derived.Test.YtdcpiaoadbbdoaaGreatDoorJd
set_option maxRecDepth 100000
set_option maxHeartbeats 16000000
namespace Go.Proofs.YtdcpiaoadbbdoaaGreatDoor
open Go.RowKit

theorem rCompact8_1 (p : Pn) (d : Ad) (hBd : Bd p) (i : Nat) (_ : i < 18446744073709551616) (app : ByteArray) (_ : app.size ≤ 140737488351232) (K : Nat) (w : World) (_ : K ≤ w.heap.size) (hM : NdM K w p d) (h1 : p.commit < i) :
 Calls Tryz.prog 15 #[ndV p d, .int .u64 i, .string app] w (CxP K w (cmpX p i app) (cmpP p i app)) := by
 obtain ⟨W, hW, B0, N0, Z0⟩ := nk_new w p d
 obtain ⟨W1, y, hW1, hy, B1, HR, Z1⟩ := bk_new W znA 34
 have HN := N0.later (hy ▸ B1)
 have HB := B0.trans (B1.mono (by have := Z0.out; omega))
 have hyn := hI_ (show w.heap.size < y by have := Z0.out; omega)
 clear B0 N0 B1
 unfold ndA at hW
 unfold znA at hW1
 obtain ⟨W2, yl, hW2, hyl, B2, HL, Z2⟩ := bk_new W1 #[.int .u64 p.g.base, .int .u64 p.g.bt, .string p.g.snap, .slice d.e.a p.g.L.length d.e.c] 28
 have B2' : Below W1.heap.size W1 W2 := hyl ▸ B2
 have HN1 := HN
 replace HN := HN.later B2'
 replace HR := HR.later B2'
 replace HB := HB.trans (B2'.mono HB.size)
 have hyl2 := hI_ (show y < yl by have := Z1.out; omega)
 have HM := hM.later HB
 clear hM B2 B2'
 have hbs := hBd.base
 have hes := hBd.ents
 have hcm := hBd.commit
 have HLA := hI_ (show ∀ w1, NdM K w1 p d → Calls Tryz.prog 51 #[.agg #[.int .u64 p.g.base, .int .u64 p.g.bt, .string p.g.snap, .slice d.e.a p.g.L.length d.e.c]] w1 fun e w' => e = .returned (.tuple #[.int .u64 (p.endI : Nat), .int .u64 (p.endT : Nat)]) ∧ Below w1.heap.size w1 w' from fun w1 h => rLast_any p.g.base p.g.bt _ d.e.c p.g.snap d.e.a p.g.L rfl (by omega) hBd.base w1 h.e)
 have e0 : cmpX p i app = 1 := by unfold cmpX; rw [if_pos (.inl h1)]
 have HX := hI_ (CxP.no (K := K) (w := w) (x := 1) (q := cmpP p i app) (by decide))
 rw [e0]
 clear e0
 have g1 : decide ((p.commit : Int) < (i : Int)) = true := by simp; omega
 go_enter Tryz.func15, Tryz.ntmps15
 go_wp2_with (first
  | (refine lSb rfl _ rfl rfl [.int .u64 p.g.base, .int .u64 p.g.bt, .string p.g.snap, .slice d.e.a p.g.L.length d.e.c] logT (by assumption) rfl rfl ?_)
  | (refine lSb rfl _ rfl rfl [.slice d.v.a p.c.V.length d.v.c, .slice d.l.a p.c.L.length d.l.c] confT HN rfl rfl ?_)
  | (refine lBk rfl _ rfl rfl logT HL rfl ?_)
  | (refine lCc rfl _ rfl rfl (ocA rfl) (by assumption) rfl ?_)
  | (refine sBk rfl _ _ rfl rfl (M := znA.toList) rfl nodeT HR rfl rfl rfl ?_; intro w' hk hg; replace HB := bGr HB hg HB.size (by have := hyn.out; omega); replace HR := hk; clear hk hg))
 refine (HLA.out _ HM).mono ?_
 rintro e w2 ⟨rfl, hb⟩
 replace HB := HB.trans (hb.mono HB.size)
 replace HR := HR.later hb
 replace HN := HN.later hb
 replace HL := HL.later hb
 replace HM := HM.later hb
 clear hb
 have c11 := HN.bx.c 11 _ rfl
 have l0 := HL.bx.c 0 _ rfl
 go_wp2_with (first
  | (refine lSb rfl _ rfl rfl [.int .u64 p.g.base, .int .u64 p.g.bt, .string p.g.snap, .slice d.e.a p.g.L.length d.e.c] logT (by assumption) rfl rfl ?_)
  | (refine lSb rfl _ rfl rfl [.slice d.v.a p.c.V.length d.v.c, .slice d.l.a p.c.L.length d.l.c] confT HN rfl rfl ?_)
  | (refine lBk rfl _ rfl rfl logT HL rfl ?_)
  | (refine lCc rfl _ rfl rfl (ocA rfl) (by assumption) rfl ?_)
  | (refine sBk rfl _ _ rfl rfl (M := znA.toList) rfl nodeT HR rfl rfl rfl ?_; intro w' hk hg; replace HB := bGr HB hg HB.size (by have := hyn.out; omega); replace HR := hk; clear hk hg))
 refine bodyPost_ret (v := .tuple #[.agg znA, .int .i64 (1)]) (by rw [rBt Tryz.results15 _ rfl nodeT HR rfl]; rfl) rfl ?_
 exact HX.out _ HB
theorem rCompact8_2 (p : Pn) (d : Ad) (hBd : Bd p) (i : Nat) (_ : i < 18446744073709551616) (app : ByteArray) (_ : app.size ≤ 140737488351232) (K : Nat) (w : World) (_ : K ≤ w.heap.size) (hM : NdM K w p d) (h1 : ¬ p.commit < i) (h2 : i ≤ p.g.base) :
 Calls Tryz.prog 15 #[ndV p d, .int .u64 i, .string app] w (CxP K w (cmpX p i app) (cmpP p i app)) := by
 obtain ⟨W, hW, B0, N0, Z0⟩ := nk_new w p d
 obtain ⟨W1, y, hW1, hy, B1, HR, Z1⟩ := bk_new W znA 34
 have HN := N0.later (hy ▸ B1)
 have HB := B0.trans (B1.mono (by have := Z0.out; omega))
 have hyn := hI_ (show w.heap.size < y by have := Z0.out; omega)
 clear B0 N0 B1
 unfold ndA at hW
 unfold znA at hW1
 obtain ⟨W2, yl, hW2, hyl, B2, HL, Z2⟩ := bk_new W1 #[.int .u64 p.g.base, .int .u64 p.g.bt, .string p.g.snap, .slice d.e.a p.g.L.length d.e.c] 28
 have B2' : Below W1.heap.size W1 W2 := hyl ▸ B2
 have HN1 := HN
 replace HN := HN.later B2'
 replace HR := HR.later B2'
 replace HB := HB.trans (B2'.mono HB.size)
 have hyl2 := hI_ (show y < yl by have := Z1.out; omega)
 have HM := hM.later HB
 clear hM B2 B2'
 have hbs := hBd.base
 have hes := hBd.ents
 have hcm := hBd.commit
 have HLA := hI_ (show ∀ w1, NdM K w1 p d → Calls Tryz.prog 51 #[.agg #[.int .u64 p.g.base, .int .u64 p.g.bt, .string p.g.snap, .slice d.e.a p.g.L.length d.e.c]] w1 fun e w' => e = .returned (.tuple #[.int .u64 (p.endI : Nat), .int .u64 (p.endT : Nat)]) ∧ Below w1.heap.size w1 w' from fun w1 h => rLast_any p.g.base p.g.bt _ d.e.c p.g.snap d.e.a p.g.L rfl (by omega) hBd.base w1 h.e)
 have e0 : cmpX p i app = 1 := by unfold cmpX; rw [if_pos (.inr (.inl h2))]
 have HX := hI_ (CxP.no (K := K) (w := w) (x := 1) (q := cmpP p i app) (by decide))
 rw [e0]
 clear e0
 have g1 : decide ((p.commit : Int) < (i : Int)) = false := by simp; omega
 have g2 : decide ((i : Int) ≤ (p.g.base : Int)) = true := by simp; omega
 go_enter Tryz.func15, Tryz.ntmps15
 go_wp2_with (first
  | (refine lSb rfl _ rfl rfl [.int .u64 p.g.base, .int .u64 p.g.bt, .string p.g.snap, .slice d.e.a p.g.L.length d.e.c] logT (by assumption) rfl rfl ?_)
  | (refine lSb rfl _ rfl rfl [.slice d.v.a p.c.V.length d.v.c, .slice d.l.a p.c.L.length d.l.c] confT HN rfl rfl ?_)
  | (refine lBk rfl _ rfl rfl logT HL rfl ?_)
  | (refine lCc rfl _ rfl rfl (ocA rfl) (by assumption) rfl ?_)
  | (refine sBk rfl _ _ rfl rfl (M := znA.toList) rfl nodeT HR rfl rfl rfl ?_; intro w' hk hg; replace HB := bGr HB hg HB.size (by have := hyn.out; omega); replace HR := hk; clear hk hg))
 refine (HLA.out _ HM).mono ?_
 rintro e w2 ⟨rfl, hb⟩
 replace HB := HB.trans (hb.mono HB.size)
 replace HR := HR.later hb
 replace HN := HN.later hb
 replace HL := HL.later hb
 replace HM := HM.later hb
 clear hb
 have c11 := HN.bx.c 11 _ rfl
 have l0 := HL.bx.c 0 _ rfl
 go_wp2_with (first
  | (refine lSb rfl _ rfl rfl [.int .u64 p.g.base, .int .u64 p.g.bt, .string p.g.snap, .slice d.e.a p.g.L.length d.e.c] logT (by assumption) rfl rfl ?_)
  | (refine lSb rfl _ rfl rfl [.slice d.v.a p.c.V.length d.v.c, .slice d.l.a p.c.L.length d.l.c] confT HN rfl rfl ?_)
  | (refine lBk rfl _ rfl rfl logT HL rfl ?_)
  | (refine lCc rfl _ rfl rfl (ocA rfl) (by assumption) rfl ?_)
  | (refine sBk rfl _ _ rfl rfl (M := znA.toList) rfl nodeT HR rfl rfl rfl ?_; intro w' hk hg; replace HB := bGr HB hg HB.size (by have := hyn.out; omega); replace HR := hk; clear hk hg))
 refine bodyPost_ret (v := .tuple #[.agg znA, .int .i64 (1)]) (by rw [rBt Tryz.results15 _ rfl nodeT HR rfl]; rfl) rfl ?_
 exact HX.out _ HB
theorem rCompact8_3 (p : Pn) (d : Ad) (hBd : Bd p) (i : Nat) (_ : i < 18446744073709551616) (app : ByteArray) (_ : app.size ≤ 140737488351232) (K : Nat) (w : World) (_ : K ≤ w.heap.size) (hM : NdM K w p d) (h1 : ¬ p.commit < i) (h2 : ¬ i ≤ p.g.base) (h3 : p.endI < i) :
 Calls Tryz.prog 15 #[ndV p d, .int .u64 i, .string app] w (CxP K w (cmpX p i app) (cmpP p i app)) := by
 obtain ⟨W, hW, B0, N0, Z0⟩ := nk_new w p d
 obtain ⟨W1, y, hW1, hy, B1, HR, Z1⟩ := bk_new W znA 34
 have HN := N0.later (hy ▸ B1)
 have HB := B0.trans (B1.mono (by have := Z0.out; omega))
 have hyn := hI_ (show w.heap.size < y by have := Z0.out; omega)
 clear B0 N0 B1
 unfold ndA at hW
 unfold znA at hW1
 obtain ⟨W2, yl, hW2, hyl, B2, HL, Z2⟩ := bk_new W1 #[.int .u64 p.g.base, .int .u64 p.g.bt, .string p.g.snap, .slice d.e.a p.g.L.length d.e.c] 28
 have B2' : Below W1.heap.size W1 W2 := hyl ▸ B2
 have HN1 := HN
 replace HN := HN.later B2'
 replace HR := HR.later B2'
 replace HB := HB.trans (B2'.mono HB.size)
 have hyl2 := hI_ (show y < yl by have := Z1.out; omega)
 have HM := hM.later HB
 clear hM B2 B2'
 have hbs := hBd.base
 have hes := hBd.ents
 have hcm := hBd.commit
 have HLA := hI_ (show ∀ w1, NdM K w1 p d → Calls Tryz.prog 51 #[.agg #[.int .u64 p.g.base, .int .u64 p.g.bt, .string p.g.snap, .slice d.e.a p.g.L.length d.e.c]] w1 fun e w' => e = .returned (.tuple #[.int .u64 (p.endI : Nat), .int .u64 (p.endT : Nat)]) ∧ Below w1.heap.size w1 w' from fun w1 h => rLast_any p.g.base p.g.bt _ d.e.c p.g.snap d.e.a p.g.L rfl (by omega) hBd.base w1 h.e)
 have e0 : cmpX p i app = 1 := by unfold cmpX; rw [if_pos (.inr (.inr h3))]
 have HX := hI_ (CxP.no (K := K) (w := w) (x := 1) (q := cmpP p i app) (by decide))
 rw [e0]
 clear e0
 have g1 : decide ((p.commit : Int) < (i : Int)) = false := by simp; omega
 have g2 : decide ((i : Int) ≤ (p.g.base : Int)) = false := by simp; omega
 have g3 : decide ((p.endI : Int) < (i : Int)) = true := by simp; omega
 go_enter Tryz.func15, Tryz.ntmps15
 go_wp2_with (first
  | (refine lSb rfl _ rfl rfl [.int .u64 p.g.base, .int .u64 p.g.bt, .string p.g.snap, .slice d.e.a p.g.L.length d.e.c] logT (by assumption) rfl rfl ?_)
  | (refine lSb rfl _ rfl rfl [.slice d.v.a p.c.V.length d.v.c, .slice d.l.a p.c.L.length d.l.c] confT HN rfl rfl ?_)
  | (refine lBk rfl _ rfl rfl logT HL rfl ?_)
  | (refine lCc rfl _ rfl rfl (ocA rfl) (by assumption) rfl ?_)
  | (refine sBk rfl _ _ rfl rfl (M := znA.toList) rfl nodeT HR rfl rfl rfl ?_; intro w' hk hg; replace HB := bGr HB hg HB.size (by have := hyn.out; omega); replace HR := hk; clear hk hg))
 refine (HLA.out _ HM).mono ?_
 rintro e w2 ⟨rfl, hb⟩
 replace HB := HB.trans (hb.mono HB.size)
 replace HR := HR.later hb
 replace HN := HN.later hb
 replace HL := HL.later hb
 replace HM := HM.later hb
 clear hb
 have c11 := HN.bx.c 11 _ rfl
 have l0 := HL.bx.c 0 _ rfl
 go_wp2_with (first
  | (refine lSb rfl _ rfl rfl [.int .u64 p.g.base, .int .u64 p.g.bt, .string p.g.snap, .slice d.e.a p.g.L.length d.e.c] logT (by assumption) rfl rfl ?_)
  | (refine lSb rfl _ rfl rfl [.slice d.v.a p.c.V.length d.v.c, .slice d.l.a p.c.L.length d.l.c] confT HN rfl rfl ?_)
  | (refine lBk rfl _ rfl rfl logT HL rfl ?_)
  | (refine lCc rfl _ rfl rfl (ocA rfl) (by assumption) rfl ?_)
  | (refine sBk rfl _ _ rfl rfl (M := znA.toList) rfl nodeT HR rfl rfl rfl ?_; intro w' hk hg; replace HB := bGr HB hg HB.size (by have := hyn.out; omega); replace HR := hk; clear hk hg))
 refine bodyPost_ret (v := .tuple #[.agg znA, .int .i64 (1)]) (by rw [rBt Tryz.results15 _ rfl nodeT HR rfl]; rfl) rfl ?_
 exact HX.out _ HB
theorem rCompact8_4 (p : Pn) (d : Ad) (hBd : Bd p) (i : Nat) (hi : i < 18446744073709551616) (app : ByteArray) (ha : app.size ≤ 140737488351232) (K : Nat) (w : World) (_ : K ≤ w.heap.size) (hM : NdM K w p d) (h1 : ¬ p.commit < i) (h2 : ¬ i ≤ p.g.base) (h3 : ¬ p.endI < i) (h4 : 4096 < (cmpS p i app).size) :
 Calls Tryz.prog 15 #[ndV p d, .int .u64 i, .string app] w (CxP K w (cmpX p i app) (cmpP p i app)) := by
 obtain ⟨W, hW, B0, N0, Z0⟩ := nk_new w p d
 obtain ⟨W1, y, hW1, hy, B1, HR, Z1⟩ := bk_new W znA 34
 have HN := N0.later (hy ▸ B1)
 have HB := B0.trans (B1.mono (by have := Z0.out; omega))
 have hyn := hI_ (show w.heap.size < y by have := Z0.out; omega)
 clear B0 N0 B1
 unfold ndA at hW
 unfold znA at hW1
 obtain ⟨W2, yl, hW2, hyl, B2, HL, Z2⟩ := bk_new W1 #[.int .u64 p.g.base, .int .u64 p.g.bt, .string p.g.snap, .slice d.e.a p.g.L.length d.e.c] 28
 have B2' : Below W1.heap.size W1 W2 := hyl ▸ B2
 have HN1 := HN
 replace HN := HN.later B2'
 replace HR := HR.later B2'
 replace HB := HB.trans (B2'.mono HB.size)
 have hyl2 := hI_ (show y < yl by have := Z1.out; omega)
 have HM := hM.later HB
 clear hM B2 B2'
 have hbs := hBd.base
 have hes := hBd.ents
 have hcm := hBd.commit
 have HLA := hI_ (show ∀ w1, NdM K w1 p d → Calls Tryz.prog 51 #[.agg #[.int .u64 p.g.base, .int .u64 p.g.bt, .string p.g.snap, .slice d.e.a p.g.L.length d.e.c]] w1 fun e w' => e = .returned (.tuple #[.int .u64 (p.endI : Nat), .int .u64 (p.endT : Nat)]) ∧ Below w1.heap.size w1 w' from fun w1 h => rLast_any p.g.base p.g.bt _ d.e.c p.g.snap d.e.a p.g.L rfl (by omega) hBd.base w1 h.e)
 obtain ⟨k, hk⟩ : ∃ k, i - p.g.base = k := ⟨_, rfl⟩
 have hkl : k ≤ p.g.L.length ∧ 0 < k := by unfold Pn.endI at h3; omega
 obtain ⟨c9, hc9⟩ : ∃ c9, confA p.c { p.g with L := p.g.L.take k } = c9 := ⟨_, rfl⟩
 have hm9 : mayB c9.V c9.L = true := by rw [← hc9]; exact confA_may _ hBd.may
 have hcl := (may_small hm9).1
 have HCA := hI_ (show ∀ w1, NdM K w1 p d → Calls Tryz.prog 52 #[.agg #[.slice d.v.a p.c.V.length d.v.c, .slice d.l.a p.c.L.length d.l.c], .agg #[.int .u64 p.g.base, .int .u64 p.g.bt, .string p.g.snap, .slice d.e.a p.g.L.length d.e.c], .int .i64 (k : Int)] w1 (CfQ w1 p.c d.v d.l c9) from fun w1 h => by
  have h4 := rConfAt_any p.c d.v d.l d.e p.g k hkl.1 (by omega) (fun x hx => (hBd.data x hx).2) hBd.snap w1 h.v h.l h.e
  rw [hc9] at h4
  exact h4)
 obtain ⟨S, hS⟩ : ∃ S, snapD c9 app = S := ⟨_, rfl⟩
 have hcs : cmpS p i app = S := by unfold cmpS; rw [hk, hc9, hS]
 have hby : (byG c9.V c9.L).length ≤ 96 := by
  unfold byG; rw [if_pos hm9, List.length_append]
  exact nums_room (may_small hm9)
 obtain ⟨Y, hY⟩ : ∃ Y, byG c9.V c9.L = Y := ⟨_, rfl⟩
 have HBY := hI_ (show ∀ w1 s1 s2, Us w1 (Sa.a s1) c9.V → Us w1 (Sa.a s2) c9.L → Calls Tryz.prog 35 #[.agg #[.slice s1.a c9.V.length s1.c, .slice s2.a c9.L.length s2.c]] w1 fun e w' => e = .returned (.tuple #[.string ⟨Y.toArray⟩, .int .i64 0]) ∧ Below w1.heap.size w1 w' from fun w1 s1 s2 h1 h2 => by
  have h := rBytes_any c9.V.length s1.c c9.L.length s2.c s1.a s2.a c9.V c9.L rfl (by omega) rfl (by omega) w1 h1 h2
  rw [hY, show erG c9.V c9.L = 0 by unfold erG; rw [if_pos hm9]] at h
  exact h)
 have HD := hI_ (show S = ⟨(numB Y.length ++ Y).toArray⟩ ++ app by rw [← hS]; unfold snapD; rw [hY])
 rw [hY] at hby
 have hnb := numB_le Y.length
 have hzz := sz_arr (numB Y.length ++ Y)
 rw [List.length_append] at hzz
 have HTX := hI_ (show ∀ w1, Calls Tryz.prog 53 #[.string ⟨Y.toArray⟩] w1 fun e w' => e = .returned (.tuple #[.string ⟨(numB Y.length ++ Y).toArray⟩, .int .i64 0]) ∧ Below w1.heap.size w1 w' from fun w1 => rText_any Y (by omega) w1)
 obtain ⟨s1', hs1⟩ : ∃ s, (⟨(numB Y.length ++ Y).toArray⟩ : ByteArray) = s := ⟨_, rfl⟩
 obtain ⟨s0', hs0⟩ : ∃ s, (⟨Y.toArray⟩ : ByteArray) = s := ⟨_, rfl⟩
 rw [hs1] at HTX HD hzz
 rw [hs0] at HTX HBY
 have hss : S.size = s1'.size + app.size := by rw [HD.out, ByteArray.size_append]
 have hcc : ¬ 9223372036854775807 < s1'.size + app.size := by omega
 have wk : IntKind.u64.wrap ((i : Int) - (p.g.base : Int)) = (k : Int) := by rw [IntWalk.u64_in _ (by omega)]; omega
 have wk2 : IntKind.i64.wrap (k : Int) = (k : Int) := by rw [IntKind.wrap_i64]; omega
 have wk3 : IntKind.i64.wrap ((s1'.size : Int) + (app.size : Int)) = (s1'.size : Int) + (app.size : Int) := IntWalk.i64_in _ (by omega)
 have HSS := hI_ hss
 clear hk hc9 hS hm9 hY hs1 hs0 hss
 have g1 : decide ((p.commit : Int) < (i : Int)) = false := by simp; omega
 have g2 : decide ((i : Int) ≤ (p.g.base : Int)) = false := by simp; omega
 have g3 : decide ((p.endI : Int) < (i : Int)) = false := by simp; omega
 have e0 : cmpX p i app = 4 := by unfold cmpX; rw [if_neg (by omega), if_pos h4]
 have HX := hI_ (CxP.no (K := K) (w := w) (x := 4) (q := cmpP p i app) (by decide))
 rw [e0]
 rw [hcs] at h4
 clear e0 hcs
 have g4 : (4096 : Int) < (s1'.size : Int) + (app.size : Int) := by have := HSS.out; omega
 go_enter Tryz.func15, Tryz.ntmps15
 go_wp2_with (first
  | (refine lSb rfl _ rfl rfl [.int .u64 p.g.base, .int .u64 p.g.bt, .string p.g.snap, .slice d.e.a p.g.L.length d.e.c] logT (by assumption) rfl rfl ?_)
  | (refine lSb rfl _ rfl rfl [.slice d.v.a p.c.V.length d.v.c, .slice d.l.a p.c.L.length d.l.c] confT HN rfl rfl ?_)
  | (refine lBk rfl _ rfl rfl logT HL rfl ?_)
  | (refine lCc rfl _ rfl rfl (ocA rfl) (by assumption) rfl ?_)
  | (refine sBk rfl _ _ rfl rfl (M := znA.toList) rfl nodeT HR rfl rfl rfl ?_; intro w' hk hg; replace HB := bGr HB hg HB.size (by have := hyn.out; omega); replace HR := hk; clear hk hg))
 refine (HLA.out _ HM).mono ?_
 rintro e w2 ⟨rfl, hb⟩
 replace HB := HB.trans (hb.mono HB.size)
 replace HR := HR.later hb
 replace HN := HN.later hb
 replace HL := HL.later hb
 replace HM := HM.later hb
 clear hb
 have c11 := HN.bx.c 11 _ rfl
 have l0 := HL.bx.c 0 _ rfl
 go_wp2_with (first
  | (refine lSb rfl _ rfl rfl [.int .u64 p.g.base, .int .u64 p.g.bt, .string p.g.snap, .slice d.e.a p.g.L.length d.e.c] logT (by assumption) rfl rfl ?_)
  | (refine lSb rfl _ rfl rfl [.slice d.v.a p.c.V.length d.v.c, .slice d.l.a p.c.L.length d.l.c] confT HN rfl rfl ?_)
  | (refine lBk rfl _ rfl rfl logT HL rfl ?_)
  | (refine lCc rfl _ rfl rfl (ocA rfl) (by assumption) rfl ?_)
  | (refine sBk rfl _ _ rfl rfl (M := znA.toList) rfl nodeT HR rfl rfl rfl ?_; intro w' hk hg; replace HB := bGr HB hg HB.size (by have := hyn.out; omega); replace HR := hk; clear hk hg))
 refine (HCA.out _ HM).mono ?_
 rintro e w3 ⟨s1, s2, rfl, hV, hU, _, hb⟩
 replace HB := HB.trans (hb.mono HB.size)
 replace HR := HR.later hb
 replace HN := HN.later hb
 replace HL := HL.later hb
 replace HM := HM.later hb
 clear hb
 go_wp2_with fail
 refine (HBY.out _ _ _ hV hU).mono ?_
 rintro e w4 ⟨rfl, hb⟩
 replace HB := HB.trans (hb.mono HB.size)
 replace HR := HR.later hb
 replace HN := HN.later hb
 replace HL := HL.later hb
 replace HM := HM.later hb
 clear hb
 clear hV hU
 go_wp2_with fail
 refine (HTX.out _).mono ?_
 rintro e w5 ⟨rfl, hb⟩
 replace HB := HB.trans (hb.mono HB.size)
 replace HR := HR.later hb
 replace HN := HN.later hb
 replace HL := HL.later hb
 replace HM := HM.later hb
 clear hb
 go_wp2_with (first
  | (refine lSb rfl _ rfl rfl [.int .u64 p.g.base, .int .u64 p.g.bt, .string p.g.snap, .slice d.e.a p.g.L.length d.e.c] logT (by assumption) rfl rfl ?_)
  | (refine lSb rfl _ rfl rfl [.slice d.v.a p.c.V.length d.v.c, .slice d.l.a p.c.L.length d.l.c] confT HN rfl rfl ?_)
  | (refine lBk rfl _ rfl rfl logT HL rfl ?_)
  | (refine lCc rfl _ rfl rfl (ocA rfl) (by assumption) rfl ?_)
  | (refine sBk rfl _ _ rfl rfl (M := znA.toList) rfl nodeT HR rfl rfl rfl ?_; intro w' hk hg; replace HB := bGr HB hg HB.size (by have := hyn.out; omega); replace HR := hk; clear hk hg))
 refine bodyPost_ret (v := .tuple #[.agg znA, .int .i64 (4)]) (by rw [rBt Tryz.results15 _ rfl nodeT HR rfl]; rfl) rfl ?_
 exact HX.out _ HB
theorem rCompact8_5 (p : Pn) (d : Ad) (hBd : Bd p) (i : Nat) (hi : i < 18446744073709551616) (app : ByteArray) (ha : app.size ≤ 140737488351232) (K : Nat) (w : World) (hK : K ≤ w.heap.size) (hM : NdM K w p d) (h1 : ¬ p.commit < i) (h2 : ¬ i ≤ p.g.base) (h3 : ¬ p.endI < i) (h4 : ¬ 4096 < (cmpS p i app).size) :
 Calls Tryz.prog 15 #[ndV p d, .int .u64 i, .string app] w (CxP K w (cmpX p i app) (cmpP p i app)) := by
 obtain ⟨W, hW, B0, N0, Z0⟩ := nk_new w p d
 obtain ⟨W1, y, hW1, hy, B1, HR, Z1⟩ := bk_new W znA 34
 have HN := N0.later (hy ▸ B1)
 have HB := B0.trans (B1.mono (by have := Z0.out; omega))
 have hyn := hI_ (show w.heap.size < y by have := Z0.out; omega)
 clear B0 N0 B1
 unfold ndA at hW
 unfold znA at hW1
 obtain ⟨W2, yl, hW2, hyl, B2, HL, Z2⟩ := bk_new W1 #[.int .u64 p.g.base, .int .u64 p.g.bt, .string p.g.snap, .slice d.e.a p.g.L.length d.e.c] 28
 have B2' : Below W1.heap.size W1 W2 := hyl ▸ B2
 have HN1 := HN
 replace HN := HN.later B2'
 replace HR := HR.later B2'
 replace HB := HB.trans (B2'.mono HB.size)
 have hyl2 := hI_ (show y < yl by have := Z1.out; omega)
 have HM := hM.later HB
 clear hM B2 B2'
 have hbs := hBd.base
 have hes := hBd.ents
 have hcm := hBd.commit
 have HLA := hI_ (show ∀ w1, NdM K w1 p d → Calls Tryz.prog 51 #[.agg #[.int .u64 p.g.base, .int .u64 p.g.bt, .string p.g.snap, .slice d.e.a p.g.L.length d.e.c]] w1 fun e w' => e = .returned (.tuple #[.int .u64 (p.endI : Nat), .int .u64 (p.endT : Nat)]) ∧ Below w1.heap.size w1 w' from fun w1 h => rLast_any p.g.base p.g.bt _ d.e.c p.g.snap d.e.a p.g.L rfl (by omega) hBd.base w1 h.e)
 obtain ⟨k, hk⟩ : ∃ k, i - p.g.base = k := ⟨_, rfl⟩
 have hkl : k ≤ p.g.L.length ∧ 0 < k := by unfold Pn.endI at h3; omega
 obtain ⟨c9, hc9⟩ : ∃ c9, confA p.c { p.g with L := p.g.L.take k } = c9 := ⟨_, rfl⟩
 have hm9 : mayB c9.V c9.L = true := by rw [← hc9]; exact confA_may _ hBd.may
 have hcl := (may_small hm9).1
 have HCA := hI_ (show ∀ w1, NdM K w1 p d → Calls Tryz.prog 52 #[.agg #[.slice d.v.a p.c.V.length d.v.c, .slice d.l.a p.c.L.length d.l.c], .agg #[.int .u64 p.g.base, .int .u64 p.g.bt, .string p.g.snap, .slice d.e.a p.g.L.length d.e.c], .int .i64 (k : Int)] w1 (CfQ w1 p.c d.v d.l c9) from fun w1 h => by
  have h4 := rConfAt_any p.c d.v d.l d.e p.g k hkl.1 (by omega) (fun x hx => (hBd.data x hx).2) hBd.snap w1 h.v h.l h.e
  rw [hc9] at h4
  exact h4)
 obtain ⟨S, hS⟩ : ∃ S, snapD c9 app = S := ⟨_, rfl⟩
 have hcs : cmpS p i app = S := by unfold cmpS; rw [hk, hc9, hS]
 have hby : (byG c9.V c9.L).length ≤ 96 := by
  unfold byG; rw [if_pos hm9, List.length_append]
  exact nums_room (may_small hm9)
 obtain ⟨Y, hY⟩ : ∃ Y, byG c9.V c9.L = Y := ⟨_, rfl⟩
 have HBY := hI_ (show ∀ w1 s1 s2, Us w1 (Sa.a s1) c9.V → Us w1 (Sa.a s2) c9.L → Calls Tryz.prog 35 #[.agg #[.slice s1.a c9.V.length s1.c, .slice s2.a c9.L.length s2.c]] w1 fun e w' => e = .returned (.tuple #[.string ⟨Y.toArray⟩, .int .i64 0]) ∧ Below w1.heap.size w1 w' from fun w1 s1 s2 h1 h2 => by
  have h := rBytes_any c9.V.length s1.c c9.L.length s2.c s1.a s2.a c9.V c9.L rfl (by omega) rfl (by omega) w1 h1 h2
  rw [hY, show erG c9.V c9.L = 0 by unfold erG; rw [if_pos hm9]] at h
  exact h)
 have HD := hI_ (show S = ⟨(numB Y.length ++ Y).toArray⟩ ++ app by rw [← hS]; unfold snapD; rw [hY])
 rw [hY] at hby
 have hnb := numB_le Y.length
 have hzz := sz_arr (numB Y.length ++ Y)
 rw [List.length_append] at hzz
 have HTX := hI_ (show ∀ w1, Calls Tryz.prog 53 #[.string ⟨Y.toArray⟩] w1 fun e w' => e = .returned (.tuple #[.string ⟨(numB Y.length ++ Y).toArray⟩, .int .i64 0]) ∧ Below w1.heap.size w1 w' from fun w1 => rText_any Y (by omega) w1)
 obtain ⟨s1', hs1⟩ : ∃ s, (⟨(numB Y.length ++ Y).toArray⟩ : ByteArray) = s := ⟨_, rfl⟩
 obtain ⟨s0', hs0⟩ : ∃ s, (⟨Y.toArray⟩ : ByteArray) = s := ⟨_, rfl⟩
 rw [hs1] at HTX HD hzz
 rw [hs0] at HTX HBY
 have hss : S.size = s1'.size + app.size := by rw [HD.out, ByteArray.size_append]
 have hcc : ¬ 9223372036854775807 < s1'.size + app.size := by omega
 have wk : IntKind.u64.wrap ((i : Int) - (p.g.base : Int)) = (k : Int) := by rw [IntWalk.u64_in _ (by omega)]; omega
 have wk2 : IntKind.i64.wrap (k : Int) = (k : Int) := by rw [IntKind.wrap_i64]; omega
 have wk3 : IntKind.i64.wrap ((s1'.size : Int) + (app.size : Int)) = (s1'.size : Int) + (app.size : Int) := IntWalk.i64_in _ (by omega)
 have HSS := hI_ hss
 clear hk hc9 hS hm9 hY hs1 hs0 hss
 have g1 : decide ((p.commit : Int) < (i : Int)) = false := by simp; omega
 have g2 : decide ((i : Int) ≤ (p.g.base : Int)) = false := by simp; omega
 have g3 : decide ((p.endI : Int) < (i : Int)) = false := by simp; omega
 have e0 : cmpX p i app = 0 := by unfold cmpX; rw [if_neg (by omega), if_neg h4]
 rw [e0]
 rw [hcs] at h4
 have g4 : ¬ (4096 : Int) < (s1'.size : Int) + (app.size : Int) := by have := HSS.out; omega
 obtain ⟨G, hG⟩ : ∃ G, insG p.g i (tAt p.g.base p.g.bt p.g.L i).1 S = G := ⟨_, rfl⟩
 have ht2 : (tAt p.g.base p.g.bt p.g.L i).2 = true := by
  unfold Pn.endI at h3
  obtain ⟨x, hx⟩ : ∃ x, p.g.L[i - p.g.base - 1]? = some x := ⟨_, List.getElem?_eq_getElem (by omega)⟩
  have h5 := tAtZ_in (base := p.g.base) (bt := p.g.bt) hx
  rw [show p.g.base + (i - p.g.base - 1) + 1 = i by omega] at h5
  rw [h5]
 have HF := hI_ (CxP.yes (K := K) (w := w) (x := 0) (q := cmpP p i app) rfl (P := { p with g := G }) (by unfold cmpP; rw [hcs, hG]))
 have HCP := hI_ (show ∀ w1, NdM K w1 p d → Calls Tryz.prog 54 #[.agg #[.int .u64 p.g.base, .int .u64 p.g.bt, .string p.g.snap, .slice d.e.a p.g.L.length d.e.c], .int .u64 i, .string (s1' ++ app)] w1 (CfL w1 d.e.a p.g.L G) from fun w1 h => by
  have h5 := rCompactF_any p.g.base p.g.bt p.g.L.length d.e.c i p.g.snap S d.e.a p.g.L rfl (by omega) h.ec h.em hbs hi (by omega) w1 h.e (by omega) ht2
  rw [hG, HD.out] at h5; exact h5)
 clear e0 hcs hG ht2
 go_enter Tryz.func15, Tryz.ntmps15
 go_wp2_with (first
  | (refine lSb rfl _ rfl rfl [.int .u64 p.g.base, .int .u64 p.g.bt, .string p.g.snap, .slice d.e.a p.g.L.length d.e.c] logT (by assumption) rfl rfl ?_)
  | (refine lSb rfl _ rfl rfl [.slice d.v.a p.c.V.length d.v.c, .slice d.l.a p.c.L.length d.l.c] confT HN rfl rfl ?_)
  | (refine lBk rfl _ rfl rfl logT HL rfl ?_)
  | (refine lCc rfl _ rfl rfl (ocA rfl) (by assumption) rfl ?_)
  | (refine sBk rfl _ _ rfl rfl (M := znA.toList) rfl nodeT HR rfl rfl rfl ?_; intro w' hk hg; replace HB := bGr HB hg HB.size (by have := hyn.out; omega); replace HR := hk; clear hk hg))
 refine (HLA.out _ HM).mono ?_
 rintro e w2 ⟨rfl, hb⟩
 replace HB := HB.trans (hb.mono HB.size)
 replace HR := HR.later hb
 replace HN := HN.later hb
 replace HL := HL.later hb
 replace HM := HM.later hb
 clear hb
 have c11 := HN.bx.c 11 _ rfl
 have l0 := HL.bx.c 0 _ rfl
 go_wp2_with (first
  | (refine lSb rfl _ rfl rfl [.int .u64 p.g.base, .int .u64 p.g.bt, .string p.g.snap, .slice d.e.a p.g.L.length d.e.c] logT (by assumption) rfl rfl ?_)
  | (refine lSb rfl _ rfl rfl [.slice d.v.a p.c.V.length d.v.c, .slice d.l.a p.c.L.length d.l.c] confT HN rfl rfl ?_)
  | (refine lBk rfl _ rfl rfl logT HL rfl ?_)
  | (refine lCc rfl _ rfl rfl (ocA rfl) (by assumption) rfl ?_)
  | (refine sBk rfl _ _ rfl rfl (M := znA.toList) rfl nodeT HR rfl rfl rfl ?_; intro w' hk hg; replace HB := bGr HB hg HB.size (by have := hyn.out; omega); replace HR := hk; clear hk hg))
 refine (HCA.out _ HM).mono ?_
 rintro e w3 ⟨s1, s2, rfl, hV, hU, _, hb⟩
 replace HB := HB.trans (hb.mono HB.size)
 replace HR := HR.later hb
 replace HN := HN.later hb
 replace HL := HL.later hb
 replace HM := HM.later hb
 clear hb
 go_wp2_with fail
 refine (HBY.out _ _ _ hV hU).mono ?_
 rintro e w4 ⟨rfl, hb⟩
 replace HB := HB.trans (hb.mono HB.size)
 replace HR := HR.later hb
 replace HN := HN.later hb
 replace HL := HL.later hb
 replace HM := HM.later hb
 clear hb
 clear hV hU
 go_wp2_with fail
 refine (HTX.out _).mono ?_
 rintro e w5 ⟨rfl, hb⟩
 replace HB := HB.trans (hb.mono HB.size)
 replace HR := HR.later hb
 replace HN := HN.later hb
 replace HL := HL.later hb
 replace HM := HM.later hb
 clear hb
 go_wp2_with (first
  | (refine lSb rfl _ rfl rfl [.int .u64 p.g.base, .int .u64 p.g.bt, .string p.g.snap, .slice d.e.a p.g.L.length d.e.c] logT (by assumption) rfl rfl ?_)
  | (refine lSb rfl _ rfl rfl [.slice d.v.a p.c.V.length d.v.c, .slice d.l.a p.c.L.length d.l.c] confT HN rfl rfl ?_)
  | (refine lBk rfl _ rfl rfl logT HL rfl ?_)
  | (refine lCc rfl _ rfl rfl (ocA rfl) (by assumption) rfl ?_)
  | (refine sBk rfl _ _ rfl rfl (M := znA.toList) rfl nodeT HR rfl rfl rfl ?_; intro w' hk hg; replace HB := bGr HB hg HB.size (by have := hyn.out; omega); replace HR := hk; clear hk hg))
 have HYZ := hI_ (show w.heap.size ≤ w5.heap.size ∧ y < w5.heap.size from ⟨HB.size, HR.lt⟩)
 refine (HCP.out _ HM).mono ?_
 rintro e w6 ⟨a', c', rfl, k1, k2, k3, hb⟩
 replace HB := HB.trans (hb.mono HB.size)
 replace HR := HR.later hb
 replace HN := HN.later hb
 have HM2 := HM.fr hb k1 k2 k3
 replace HM := HM2
 clear hb k3 HL HM2 c11 l0
 obtain ⟨W7, y7, hW7, hy7, B7, H7, Z7⟩ := bk_new w6 #[.int .u64 G.base, .int .u64 G.bt, .string G.snap, .slice a' G.L.length c'] 28
 have B7' : Below w6.heap.size w6 W7 := hy7 ▸ B7
 replace HB := HB.trans (B7'.mono HB.size)
 replace HR := HR.later B7'
 replace HN := HN.later B7'
 replace HM := HM.later B7'
 clear B7 B7'
 go_wp2_with (first
  | (refine lBk rfl _ rfl rfl logT H7 rfl ?_)
  | (refine wpList_store_sub rfl _ _ rfl rfl rfl logT HN rfl rfl rfl (L' := ndL { p with g := G } { d with e := ⟨a', c'⟩ }) rfl ?_; intro w' hk hg; replace HR := HR.grown hg (by have := hyn.out; omega); replace HM := HM.grown hg hK HN.bx.ty bNd; replace HB := bGr HB hg HB.size (Nat.le_refl _); replace HN := hk; clear hk hg)
  | (refine lBk rfl _ rfl rfl nodeT HN rfl ?_)
  | (refine sBk rfl _ _ rfl rfl rfl nodeT HR rfl rfl rfl ?_; intro w' hk hg; replace HM := HM.grown hg (by have := hyn.out; omega) HR.bx.ty bNd; replace HB := bGr HB hg HB.size (by have := hyn.out; omega); replace HR := hk; clear hk hg))
 refine bodyPost_ret (v := .tuple #[ndV { p with g := G } { d with e := ⟨a', c'⟩ }, .int .i64 0]) (by rw [rBt Tryz.results15 _ rfl nodeT HR rfl]; rfl) rfl ?_
 exact HF.out _ _ HM HB
theorem rCompact8_any (p : Pn) (d : Ad) (hBd : Bd p) (i : Nat) (hi : i < 18446744073709551616) (app : ByteArray) (ha : app.size ≤ 140737488351232) (K : Nat) (w : World) (hK : K ≤ w.heap.size) (hM : NdM K w p d) :
 Calls Tryz.prog 15 #[ndV p d, .int .u64 i, .string app] w (CxP K w (cmpX p i app) (cmpP p i app)) := by
 by_cases h1 : p.commit < i
 · exact rCompact8_1 p d hBd i hi app ha K w hK hM h1
 by_cases h2 : i ≤ p.g.base
 · exact rCompact8_2 p d hBd i hi app ha K w hK hM h1 h2
 by_cases h3 : p.endI < i
 · exact rCompact8_3 p d hBd i hi app ha K w hK hM h1 h2 h3
 by_cases h4 : 4096 < (cmpS p i app).size
 · exact rCompact8_4 p d hBd i hi app ha K w hK hM h1 h2 h3 h4
 · exact rCompact8_5 p d hBd i hi app ha K w hK hM h1 h2 h3 h4
end Go.Proofs.YtdcpiaoadbbdoaaGreatDoor
