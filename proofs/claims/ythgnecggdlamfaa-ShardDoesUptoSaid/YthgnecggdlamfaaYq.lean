/- The document's example of layer 13. -/
import Derived.Test.YthgnecggdlamfaaYr
namespace Go.Proofs.Ythgnecggdlamfaa
open Go.RowKit

/-- An answer in a box. -/
structure AnB (w : World) (x : Nat) (n : Ans) : Prop where
  lt : x < w.heap.size
  c0 : w.cell? ⟨x, 0, none⟩ = some (.int .i64 (n.err : Nat))
  c1 : w.cell? ⟨x, 1, none⟩ = some (.string n.val)
  c2 : w.cell? ⟨x, 2, none⟩ = some (.int .u64 (n.ver : Nat))
  c3 : w.cell? ⟨x, 3, none⟩ = some (.bool n.found)
  c4 : w.cell? ⟨x, 4, none⟩ = some (.bool n.cm)
theorem AnB.later {w w' : World} {x : Nat} {n : Ans} (h : AnB w x n) (hb : Below w.heap.size w w') : AnB w' x n := by
  have f : ∀ j v, w.cell? ⟨x, j, none⟩ = some v → w'.cell? ⟨x, j, none⟩ = some v := fun j v e => (hb.cell (p := ⟨x, j, none⟩) h.lt).trans e
  exact ⟨Nat.lt_of_lt_of_le h.lt hb.size, f _ _ h.c0, f _ _ h.c1, f _ _ h.c2, f _ _ h.c3, f _ _ h.c4⟩
theorem AnB.far5 {w : World} {x y : Nat} {n : Ans} (h : AnB w x n) (hne : y ≠ x) (v0 v1 v2 v3 v4 : Value) : AnB (set5s w y v0 v1 v2 v3 v4) x n := by
  have f : ∀ j v, w.cell? ⟨x, j, none⟩ = some v → (set5s w y v0 v1 v2 v3 v4).cell? ⟨x, j, none⟩ = some v := fun j v e => by
    unfold set5s
    rw [World.cell?_setCell_far _ _ _ _ hne, World.cell?_setCell_far _ _ _ _ hne, World.cell?_setCell_far _ _ _ _ hne, World.cell?_setCell_far _ _ _ _ hne, World.cell?_setCell_far _ _ _ _ hne]; exact e
  exact ⟨by simpa using h.lt, f _ _ h.c0, f _ _ h.c1, f _ _ h.c2, f _ _ h.c3, f _ _ h.c4⟩
theorem AnB.new {w W : World} (n : Ans) (hW : w.alloc (.cells #[.int .i64 (n.err : Nat), .string n.val, .int .u64 (n.ver : Nat), .bool n.found, .bool n.cm] 38) = W) : Below w.heap.size w W ∧ AnB W w.heap.size n := by
  subst hW
  exact ⟨by go_grown, by simp, by simp [go_sem], by simp [go_sem], by simp [go_sem], by simp [go_sem], by simp [go_sem]⟩
theorem LB.mk' {w0 w W : World} {s : Sh} {A : Sad} (hm : ShM w s A) (hl : w0.heap.size ≤ w.heap.size) (hW : w.alloc (.cells #[.slice A.ra s.rows.length A.rc, .slice A.ha s.holds.length A.hc, .slice A.oa s.opn.length A.oc, .slice A.da s.done.length A.dc, .int .u64 (s.ver : Nat)] 28) = W) : Below w.heap.size w W ∧ LB w0 W w.heap.size s A := by
  subst hW
  have hb : Below w.heap.size w (w.alloc (.cells #[.slice A.ra s.rows.length A.rc, .slice A.ha s.holds.length A.hc, .slice A.oa s.opn.length A.oc, .slice A.da s.done.length A.dc, .int .u64 (s.ver : Nat)] 28)) := by go_grown
  exact ⟨hb, ⟨KB.new5 rfl _ _ _ _ _ _, by simp [go_sem], by simp [go_sem], by simp [go_sem], by simp [go_sem], by simp [go_sem], hm.later hb, hl⟩⟩
/-- An answer is laid in a box for it. -/
theorem KB.answer {w : World} {x : Nat} (h : KB w x aK) (n : Ans) : AnB (set5s w x (.int .i64 (n.err : Nat)) (.string n.val) (.int .u64 (n.ver : Nat)) (.bool n.found) (.bool n.cm)) x n := by
  obtain ⟨u0, e0⟩ := h.so 0 (by decide)
  obtain ⟨u1, e1⟩ := h.so 1 (by decide)
  obtain ⟨u2, e2⟩ := h.so 2 (by decide)
  obtain ⟨u3, e3⟩ := h.so 3 (by decide)
  obtain ⟨u4, e4⟩ := h.so 4 (by decide)
  exact ⟨by simpa using h.lt, by simp [go_sem, e0], by simp [go_sem, e1], by simp [go_sem, e2], by simp [go_sem, e3], by simp [go_sem, e4]⟩
theorem TxBox.far5 {w : World} {x y : Nat} {n : Tx} (h : TxBox w x n) (hne : y ≠ x) (v0 v1 v2 v3 v4 : Value) : TxBox (set5s w y v0 v1 v2 v3 v4) x n := by
  have f : ∀ j v, w.cell? ⟨x, j, none⟩ = some v → (set5s w y v0 v1 v2 v3 v4).cell? ⟨x, j, none⟩ = some v := fun j v e => by
    unfold set5s
    rw [World.cell?_setCell_far _ _ _ _ hne, World.cell?_setCell_far _ _ _ _ hne, World.cell?_setCell_far _ _ _ _ hne, World.cell?_setCell_far _ _ _ _ hne, World.cell?_setCell_far _ _ _ _ hne]; exact e
  exact ⟨by simpa using h.lt, f _ _ h.c0, f _ _ h.c1⟩
theorem size_set5s (w : World) (y : Nat) (v0 v1 v2 v3 v4 : Value) : (set5s w y v0 v1 v2 v3 v4).heap.size = w.heap.size := by simp
/-- What becomes of boxes when a shard is laid in its box, and an answer in a new one. -/
structure Stp (w0 w U : World) (x z : Nat) (s : Sh) (A : Sad) (n : Ans) : Prop where
  l : LB w0 U x s A
  a : AnB U z n
  an : ∀ y m, AnB w y m → y ≠ x → AnB U y m
  t : ∀ y t, TxBox w y t → y ≠ x → TxBox U y t
  b : Below w0.heap.size w0 w → Below w0.heap.size w0 U
  sz : U.heap.size = z + 1
theorem stp {w0 w : World} {x : Nat} {s s' : Sh} {A A' : Sad} (n : Ans) (h : LB w0 w x s A) (hm : ShM w s' A') {z : Nat} (hz : w.heap.size = z) :
    ∀ U, U = set5s (set5s (w.alloc (.cells #[.int .i64 0, .string ⟨#[]⟩, .int .u64 0, .bool false, .bool false] 38)) x (.slice A'.ra s'.rows.length A'.rc) (.slice A'.ha s'.holds.length A'.hc) (.slice A'.oa s'.opn.length A'.oc) (.slice A'.da s'.done.length A'.dc) (.int .u64 (s'.ver : Nat))) z (.int .i64 (n.err : Nat)) (.string n.val) (.int .u64 (n.ver : Nat)) (.bool n.found) (.bool n.cm) → Stp w0 w U x z s' A' n := fun U hU => by
  have hb : Below w.heap.size w (w.alloc (.cells #[.int .i64 0, .string ⟨#[]⟩, .int .u64 0, .bool false, .bool false] 38)) := by go_grown
  have hlt := h.kb.lt
  have hK : KB (w.alloc (.cells #[.int .i64 0, .string ⟨#[]⟩, .int .u64 0, .bool false, .bool false] 38)) z aK := KB.new5 hz.symm _ _ _ _ _ _
  have h1 := (h.later hb).put (hm.later hb)
  have hxz : x ≠ z := by omega
  have hK1 : KB _ z aK := hK.far5 (v0 := .slice A'.ra s'.rows.length A'.rc) (v1 := .slice A'.ha s'.holds.length A'.hc) (v2 := .slice A'.oa s'.opn.length A'.oc) (v3 := .slice A'.da s'.done.length A'.dc) (v4 := .int .u64 (s'.ver : Nat)) hxz
  rw [hU]
  have hl := h.l
  refine ⟨?_, hK1.answer n, fun y m hy hne => ((hy.later hb).far5 hne.symm _ _ _ _ _).far5 (by have := hy.lt; omega) _ _ _ _ _, fun y t hy hne => ((hy.later hb).far5 hne.symm _ _ _ _ _).far5 (by have := hy.lt; omega) _ _ _ _ _, fun hB => ?_, by rw [size_set5s, size_set5s]; simp [hz]⟩
  · have f : ∀ j v, (set5s (w.alloc (.cells #[.int .i64 0, .string ⟨#[]⟩, .int .u64 0, .bool false, .bool false] 38)) x (.slice A'.ra s'.rows.length A'.rc) (.slice A'.ha s'.holds.length A'.hc) (.slice A'.oa s'.opn.length A'.oc) (.slice A'.da s'.done.length A'.dc) (.int .u64 (s'.ver : Nat))).cell? ⟨x, j, none⟩ = some v → (set5s (set5s (w.alloc (.cells #[.int .i64 0, .string ⟨#[]⟩, .int .u64 0, .bool false, .bool false] 38)) x (.slice A'.ra s'.rows.length A'.rc) (.slice A'.ha s'.holds.length A'.hc) (.slice A'.oa s'.opn.length A'.oc) (.slice A'.da s'.done.length A'.dc) (.int .u64 (s'.ver : Nat))) z (.int .i64 (n.err : Nat)) (.string n.val) (.int .u64 (n.ver : Nat)) (.bool n.found) (.bool n.cm)).cell? ⟨x, j, none⟩ = some v := fun j v e => by
      have hzx : z ≠ x := hxz.symm
      rw [set5s, World.cell?_setCell_far _ _ _ _ hzx, World.cell?_setCell_far _ _ _ _ hzx, World.cell?_setCell_far _ _ _ _ hzx, World.cell?_setCell_far _ _ _ _ hzx, World.cell?_setCell_far _ _ _ _ hzx]; exact e
    exact ⟨h1.kb.far5 hxz.symm, f _ _ h1.c0, f _ _ h1.c1, f _ _ h1.c2, f _ _ h1.c3, f _ _ h1.c4, h1.m.set5 _ _ _ _ _ hK1 fits_a rfl, h.l⟩
  · exact below_set5s (below_set5s (hB.trans (hb.mono hB.size)) hl) (by have := hB.size; omega)
def exT : Tx := ⟨1, 0⟩
def exP : List Pu := [⟨⟨#[97]⟩, ⟨#[49]⟩, false⟩]
def exO1 : Odr := ⟨2, ⟨1, 0⟩, ⟨#[97]⟩, [], false⟩
def exO2 : Odr := ⟨3, ⟨1, 0⟩, ⟨#[]⟩, exP, false⟩
def exO3 : Odr := ⟨4, ⟨1, 0⟩, ⟨#[]⟩, [], true⟩
def exO4 : Odr := ⟨4, ⟨1, 0⟩, ⟨#[]⟩, [], false⟩
def exS1 : Sh := ⟨[], [⟨⟨#[97]⟩, ⟨1, 0⟩, true⟩], [⟨⟨1, 0⟩, false, false, []⟩], [], 0⟩
def exS2 : Sh := ⟨[], [⟨⟨#[97]⟩, ⟨1, 0⟩, true⟩], [⟨⟨1, 0⟩, true, false, exP⟩], [], 0⟩
def exS3 : Sh := ⟨[⟨⟨#[97]⟩, ⟨#[49]⟩, 1⟩], [], [], [⟨⟨1, 0⟩, true⟩], 1⟩
theorem ex_1 : doS nilS exO1 = (exS1, ⟨0, ⟨#[]⟩, 0, false, false⟩) := by rfl
theorem ex_2 : doS exS1 exO2 = (exS2, ansE 0) := by rfl
theorem ex_3 : doS exS2 exO3 = (exS3, ansC 0 true) := by rfl
theorem ex_4 : doS exS3 exO4 = (exS3, ansC 13 true) := by rfl
theorem sz_nilP : smlP [] := fun x hx => by simp at hx
theorem szo_1 : SzO exO1 := ⟨⟨by decide, by decide, by decide⟩, by decide, sz_nilP, by decide⟩
theorem szo_2 : SzO exO2 := by
  refine ⟨⟨by decide, by decide, by decide⟩, by decide, fun x hx => ?_, by decide⟩
  obtain rfl : x = ⟨⟨#[97]⟩, ⟨#[49]⟩, false⟩ := by simpa [exO2, exP] using hx
  exact ⟨by decide, by decide⟩
theorem szo_3 : SzO exO3 := ⟨⟨by decide, by decide, by decide⟩, by decide, sz_nilP, by decide⟩
theorem szo_4 : SzO exO4 := ⟨⟨by decide, by decide, by decide⟩, by decide, sz_nilP, by decide⟩
theorem szo_fin {t : Tx} (ht : okX t) (c : Bool) : SzO ⟨4, t, ⟨#[]⟩, [], c⟩ :=
  ⟨⟨Nat.zero_le _, ht⟩, by show 0 * 40 ≤ 140737488351232; decide, sz_nilP, by show (-9223372036854775808 : Int) ≤ 4; decide, by show (4 : Int) < 9223372036854775808; decide⟩
theorem szo_read {t : Tx} {key : ByteArray} (hk : key.size ≤ 140737488351232) (ht : okX t) : SzO ⟨1, t, key, [], false⟩ :=
  ⟨⟨hk, ht⟩, by show 0 * 40 ≤ 140737488351232; decide, sz_nilP, by show (-9223372036854775808 : Int) ≤ 1; decide, by show (1 : Int) < 9223372036854775808; decide⟩
theorem ls_1 : LS exS1 1 := by have := LS.nil.step szo_1 (by decide); rw [ex_1] at this; exact this
theorem ls_2 : LS exS2 2 := by have := ls_1.step szo_2 (by decide); rw [ex_2] at this; exact this
theorem ls_3 : LS exS3 3 := by have := ls_2.step szo_3 (by decide); rw [ex_3] at this; exact this
set_option maxRecDepth 100000 in
set_option maxHeartbeats 4000000 in
theorem shown_any {TT : World → Prop} (P : PShard TT) (w : World) (hT : TT w) : Calls Try.prog 9 #[] w fun e w' => e = .returned (.bool true) ∧ Below w.heap.size w w' := by
  have C1 := Lib.hid (fun w' (hb : Below w.heap.size w w') => P.doo nilS nilA exO1 none 0 none 0 0 w' (P.below hT hb) (nil_m w') (LS.nil.szs (by decide)) szo_1 (Nat.le_refl _) (by decide) (Rw.nil _))
  rw [ex_1] at C1
  have C2 := Lib.hid (fun (A : Sad) (b : Nat) w' (hb : Below w.heap.size w w') (hm : ShM w' exS1 A) (hp : Pus w' (some ⟨b, 0, none⟩) exP) => P.doo exS1 A exO2 (some ⟨b, 0, none⟩) 1 none 0 0 w' (P.below hT hb) hm (ls_1.szs (by decide)) szo_2 (Nat.le_refl _) (by decide) hp)
  rw [ex_2] at C2
  have C3 := Lib.hid (fun (A : Sad) w' (hb : Below w.heap.size w w') (hm : ShM w' exS2 A) => P.doo exS2 A exO3 none 0 none 0 0 w' (P.below hT hb) hm (ls_2.szs (by decide)) szo_3 (Nat.le_refl _) (by decide) (Rw.nil _))
  rw [ex_3] at C3
  have C4 := Lib.hid (fun (A : Sad) w' (hb : Below w.heap.size w w') (hm : ShM w' exS3 A) => P.doo exS3 A exO4 none 0 none 0 0 w' (P.below hT hb) hm (ls_3.szs (by decide)) szo_4 (Nat.le_refl _) (by decide) (Rw.nil _))
  rw [ex_4] at C4
  obtain ⟨n1, hn1⟩ : ∃ n, (⟨0, ⟨#[]⟩, 0, false, false⟩ : Ans) = n := ⟨_, rfl⟩
  obtain ⟨n2, hn2⟩ : ∃ n, ansE 0 = n := ⟨_, rfl⟩
  obtain ⟨n3, hn3⟩ : ∃ n, ansC 0 true = n := ⟨_, rfl⟩
  obtain ⟨n4, hn4⟩ : ∃ n, ansC 13 true = n := ⟨_, rfl⟩
  obtain ⟨s1, hs1⟩ : ∃ s, exS1 = s := ⟨_, rfl⟩
  obtain ⟨s2, hs2⟩ : ∃ s, exS2 = s := ⟨_, rfl⟩
  obtain ⟨s3, hs3⟩ : ∃ s, exS3 = s := ⟨_, rfl⟩
  rw [hs1, hn1] at C1
  rw [hs1, hs2, hn2] at C2
  rw [hs2, hs3, hn3] at C3
  rw [hs3, hn4] at C4
  have N1 := Lib.hid hn1
  have N2 := Lib.hid hn2
  have N3 := Lib.hid hn3
  have N4 := Lib.hid hn4
  have S3 := Lib.hid hs3
  clear hn1 hn2 hn3 hn4 hs1 hs2 hs3
  obtain ⟨x1, hx1⟩ : ∃ x, w.heap.size = x := ⟨_, rfl⟩
  obtain ⟨W, hW⟩ : ∃ W, (w.alloc (.cells #[.int .u64 1, .int .u64 0] 30)).alloc (.cells #[.string ⟨#[97]⟩, .string ⟨#[49]⟩, .bool false] 54) = W := ⟨_, rfl⟩
  have HT1 := Lib.hid (show TxBox W x1 ⟨1, 0⟩ from by rw [← hW, ← hx1]; exact ⟨by simp; omega, by simp [go_sem], by simp [go_sem]⟩)
  have HP1 := Lib.hid (show Pus W (some ⟨x1 + 1, 0, none⟩) exP from by
    rw [← hW, ← hx1]
    exact rw_one (k := 3) (f := puC) (b := w.heap.size + 1) (w.alloc (.cells #[.int .u64 1, .int .u64 0] 30)) (by simp) (⟨⟨#[97]⟩, ⟨#[49]⟩, false⟩ : Pu) rfl _)
  have HB := Lib.hid (show Below w.heap.size w W from by rw [← hW]; go_grown)
  have HWS := Lib.hid (show W.heap.size = x1 + 1 + 1 by rw [← hW, ← hx1]; simp)
  have HW := Lib.hid hW
  have HX1 := Lib.hid hx1
  clear hW hx1 hT P
  go_enter Try.func9, Try.ntmps9
  go_wp2_with fail
  rw [HW.out, HX1.out]
  refine (C1.out W HB.out).mono ?_
  rintro e w1 ⟨A1, rfl, m1, hb1⟩
  simp only at m1
  obtain ⟨x3, hx3⟩ : ∃ x, w1.heap.size = x := ⟨_, rfl⟩
  obtain ⟨V1, hV1⟩ : ∃ V, w1.alloc (.cells #[.slice A1.ra s1.rows.length A1.rc, .slice A1.ha s1.holds.length A1.hc, .slice A1.oa s1.opn.length A1.oc, .slice A1.da s1.done.length A1.dc, .int .u64 (s1.ver : Nat)] 28) = V := ⟨_, rfl⟩
  obtain ⟨V2, hV2⟩ : ∃ V, V1.alloc (.cells #[.int .i64 (n1.err : Nat), .string n1.val, .int .u64 (n1.ver : Nat), .bool n1.found, .bool n1.cm] 38) = V := ⟨_, rfl⟩
  have hB1 := HB.out.trans (hb1.mono HB.out.size)
  obtain ⟨g1, L1⟩ := LB.mk' (w0 := w) m1 hB1.size hV1
  obtain ⟨g2, A4⟩ := AnB.new n1 hV2
  have z1 : V1.heap.size = x3 + 1 := by rw [← hV1, ← hx3]; simp
  rw [hx3] at L1
  rw [z1] at A4
  have hB2 := hB1.trans (g1.mono hB1.size)
  have L2 := Lib.hid (L1.later g2)
  have A42 := Lib.hid A4
  have HB2 := Lib.hid (hB2.trans (g2.mono hB2.size))
  have T2 := Lib.hid (((HT1.out.later hb1).later g1).later g2)
  have P2 := Lib.hid (((HP1.out.later hb1).later g1).later g2)
  have HV := Lib.hid (show (w1.alloc (.cells #[.slice A1.ra s1.rows.length A1.rc, .slice A1.ha s1.holds.length A1.hc, .slice A1.oa s1.opn.length A1.oc, .slice A1.da s1.done.length A1.dc, .int .u64 (s1.ver : Nat)] 28)).alloc (.cells #[.int .i64 (n1.err : Nat), .string n1.val, .int .u64 (n1.ver : Nat), .bool n1.found, .bool n1.cm] 38) = V2 by rw [hV1, hV2])
  have H13 := Lib.hid (show x1 + 1 + 1 ≤ x3 by rw [← hx3, ← HWS.out]; exact hb1.size)
  have HX3 := Lib.hid hx3
  clear hV1 hV2 z1 g1 g2 L1 A4 hB1 hB2 hb1 m1 hx3 HB HT1 HP1 HW
  go_upto_region 4 with (fail)
  rw [HV.out, HX3.out]
  obtain ⟨_, t0, t1⟩ := T2.out
  obtain ⟨kb, c0, c1, c2, c3, c4, mm, ll⟩ := L2.out
  clear kb ll
  have D2 := Lib.hid (C2.out A1 (x1 + 1) V2 HB2.out mm P2.out)
  clear mm
  go_wp2_with fail
  refine D2.out.mono ?_
  rintro e w2 ⟨A2, rfl, m2, hb2⟩
  simp only at m2
  have L3 := Lib.hid (L2.out.later hb2)
  have A43 := Lib.hid (A42.out.later hb2)
  have T3 := Lib.hid (T2.out.later hb2)
  have HB3 := Lib.hid (HB2.out.trans (hb2.mono HB2.out.size))
  have M2 := Lib.hid m2
  clear hb2 m2 t0 t1 c0 c1 c2 c3 c4 D2
  obtain ⟨kb, c0, c1, c2, c3, c4, _, _⟩ := L3.out.later ((Below.refl _ _).alloc (Nat.le_refl _) (.cells #[.int .i64 0, .string ⟨#[]⟩, .int .u64 0, .bool false, .bool false] 38))
  have fz := kb.fz
  have ne3 : ¬ x3 = w2.heap.size := by have := L3.out.kb.lt; omega
  have ne3' : ¬ w2.heap.size = x3 := by have := L3.out.kb.lt; omega
  clear kb
  go_upto_region 5 with (fail)
  obtain ⟨z2, hz2⟩ : ∃ z, w2.heap.size = z := ⟨_, rfl⟩
  have hst := stp n2 L3.out M2.out hz2
  rw [hz2] at ne3 ne3' ⊢
  obtain ⟨U2, hU⟩ : ∃ U, set5s (set5s (w2.alloc (.cells #[.int .i64 0, .string ⟨#[]⟩, .int .u64 0, .bool false, .bool false] 38)) x3 (.slice A2.ra s2.rows.length A2.rc) (.slice A2.ha s2.holds.length A2.hc) (.slice A2.oa s2.opn.length A2.oc) (.slice A2.da s2.done.length A2.dc) (.int .u64 (s2.ver : Nat))) z2 (.int .i64 (n2.err : Nat)) (.string n2.val) (.int .u64 (n2.ver : Nat)) (.bool n2.found) (.bool n2.cm) = U := ⟨_, rfl⟩
  have HS2 := Lib.hid (hst U2 hU.symm)
  simp only [set5s] at hU
  rw [hU]
  clear hst hU c0 c1 c2 c3 c4 fz ne3 ne3'
  have hl3 := L3.out.kb.lt
  have hl1 := T3.out.lt
  have h31 : x1 < x3 := by have := H13.out; omega
  have A44 := Lib.hid (HS2.out.an _ _ A43.out (by omega))
  have T4 := Lib.hid (HS2.out.t _ _ T3.out (by omega))
  have HB4 := Lib.hid (HS2.out.b HB3.out)
  have hs4 := HS2.out.sz
  clear HB3 A43 T3 L3 M2
  obtain ⟨kb, c0, c1, c2, c3, c4, mm, ll⟩ := HS2.out.l
  obtain ⟨tl, t0, t1⟩ := T4.out
  have D3 := Lib.hid (C3.out A2 U2 HB4.out mm)
  clear kb ll mm tl
  go_wp2_with fail
  refine D3.out.mono ?_
  rintro e w3 ⟨A3, rfl, m3, hb3⟩
  simp only at m3
  have L5 := Lib.hid (HS2.out.l.later hb3)
  have A55 := Lib.hid (HS2.out.a.later hb3)
  have A54 := Lib.hid (A44.out.later hb3)
  have T5 := Lib.hid (T4.out.later hb3)
  have HB5 := Lib.hid (HB4.out.trans (hb3.mono HB4.out.size))
  have M3 := Lib.hid m3
  have hs5 := hb3.size
  clear hb3 m3 t0 t1 c0 c1 c2 c3 c4 D3 A44 T4 HB4 HS2
  obtain ⟨kb, c0, c1, c2, c3, c4, mm, ll⟩ := L5.out.later ((Below.refl _ _).alloc (Nat.le_refl _) (.cells #[.int .i64 0, .string ⟨#[]⟩, .int .u64 0, .bool false, .bool false] 38))
  have fz := kb.fz
  have ne3 : ¬ x3 = w3.heap.size := by have := L5.out.kb.lt; omega
  have ne3' : ¬ w3.heap.size = x3 := by have := L5.out.kb.lt; omega
  clear kb mm ll
  go_upto_region 6 with (fail)
  obtain ⟨z3, hz3⟩ : ∃ z, w3.heap.size = z := ⟨_, rfl⟩
  have hst := stp n3 L5.out M3.out hz3
  rw [hz3] at ne3 ne3' ⊢
  obtain ⟨U3, hU⟩ : ∃ U, set5s (set5s (w3.alloc (.cells #[.int .i64 0, .string ⟨#[]⟩, .int .u64 0, .bool false, .bool false] 38)) x3 (.slice A3.ra s3.rows.length A3.rc) (.slice A3.ha s3.holds.length A3.hc) (.slice A3.oa s3.opn.length A3.oc) (.slice A3.da s3.done.length A3.dc) (.int .u64 (s3.ver : Nat))) z3 (.int .i64 (n3.err : Nat)) (.string n3.val) (.int .u64 (n3.ver : Nat)) (.bool n3.found) (.bool n3.cm) = U := ⟨_, rfl⟩
  have HS3 := Lib.hid (hst U3 hU.symm)
  simp only [set5s] at hU
  rw [hU]
  clear hst hU c0 c1 c2 c3 c4 fz ne3 ne3'
  have A64 := Lib.hid (HS3.out.an _ _ A54.out (by omega))
  have A65 := Lib.hid (HS3.out.an _ _ A55.out (by omega))
  have T6 := Lib.hid (HS3.out.t _ _ T5.out (by omega))
  have HB6 := Lib.hid (HS3.out.b HB5.out)
  have hs6 := HS3.out.sz
  clear HB5 A54 A55 T5 L5 M3
  obtain ⟨kb, c0, c1, c2, c3, c4, mm, ll⟩ := HS3.out.l
  obtain ⟨tl, t0, t1⟩ := T6.out
  have D4 := Lib.hid (C4.out A3 U3 HB6.out mm)
  clear kb ll mm tl
  go_wp2_with fail
  refine D4.out.mono ?_
  rintro e w4 ⟨A4, rfl, m4, hb4⟩
  simp only at m4
  obtain ⟨z7, hz7⟩ : ∃ x, w4.heap.size = x := ⟨_, rfl⟩
  obtain ⟨V4, hV4⟩ : ∃ V, w4.alloc (.cells #[.slice A4.ra s3.rows.length A4.rc, .slice A4.ha s3.holds.length A4.hc, .slice A4.oa s3.opn.length A4.oc, .slice A4.da s3.done.length A4.dc, .int .u64 (s3.ver : Nat)] 28) = V := ⟨_, rfl⟩
  obtain ⟨V5, hV5⟩ : ∃ V, V4.alloc (.cells #[.int .i64 (n4.err : Nat), .string n4.val, .int .u64 (n4.ver : Nat), .bool n4.found, .bool n4.cm] 38) = V := ⟨_, rfl⟩
  obtain ⟨g1, _⟩ := LB.mk' (w0 := w4) m4 (Nat.le_refl _) hV4
  obtain ⟨g2, A8⟩ := AnB.new n4 hV5
  have z1 : V4.heap.size = z7 + 1 := by rw [← hV4, ← hz7]; simp
  rw [z1] at A8
  have hB7 := (hb4.trans (g1.mono hb4.size)).trans (g2.mono (hb4.trans (g1.mono hb4.size)).size)
  have hV := show (w4.alloc (.cells #[.slice A4.ra s3.rows.length A4.rc, .slice A4.ha s3.holds.length A4.hc, .slice A4.oa s3.opn.length A4.oc, .slice A4.da s3.done.length A4.dc, .int .u64 (s3.ver : Nat)] 28)).alloc (.cells #[.int .i64 (n4.err : Nat), .string n4.val, .int .u64 (n4.ver : Nat), .bool n4.found, .bool n4.cm] 38) = V5 by rw [hV4, hV5]
  have HBE := Lib.hid (HB6.out.trans (hB7.mono HB6.out.size))
  have B4 := A64.out.later hB7
  have B5 := A65.out.later hB7
  have B6 := HS3.out.a.later hB7
  obtain ⟨_, d0, _, _, _, d4, dm, _⟩ := HS3.out.l.later hB7
  have hr := dm.rows
  rw [← N1.out] at B4
  rw [← N2.out] at B5
  rw [← N3.out] at B6
  rw [← N4.out] at A8
  rw [← S3.out] at d0 d4 hr
  obtain ⟨rb, ro, hra, _, r0, r1, _⟩ := Ros.cells hr (k := 0) (x := ⟨⟨#[97]⟩, ⟨#[49]⟩, 1⟩) rfl
  have q1 : V5.cell? ⟨x3 + 1, 0, none⟩ = some (.int .i64 0) := B4.c0
  have q2 : V5.cell? ⟨x3 + 1, 3, none⟩ = some (.bool false) := B4.c3
  have q3 : V5.cell? ⟨z2, 0, none⟩ = some (.int .i64 0) := B5.c0
  have q4 : V5.cell? ⟨z3, 0, none⟩ = some (.int .i64 0) := B6.c0
  have q5 : V5.cell? ⟨z3, 4, none⟩ = some (.bool true) := B6.c4
  have q6 : V5.cell? ⟨z7 + 1, 0, none⟩ = some (.int .i64 13) := A8.c0
  have q7 : V5.cell? ⟨z7 + 1, 4, none⟩ = some (.bool true) := A8.c4
  have q8 : V5.cell? ⟨x3, 4, none⟩ = some (.int .u64 1) := d4
  have q9 : V5.cell? ⟨x3, 0, none⟩ = some (.slice (some ⟨rb, ro, none⟩) 1 A3.rc) := by rw [← hra]; exact d0
  simp only [Nat.zero_mul, Nat.add_zero] at r0 r1
  have HVX := Lib.hid hV
  have HZ7 := Lib.hid hz7
  clear hr dm d0 d4 A8 B4 B5 B6 hV hV4 hV5 hz7 hB7 g1 g2 z1 A64 A65 HS3 HB6 m4 hb4 hra c0 c1 c2 c3 c4 t0 t1 T6
  go_upto_region 7 with (fail)
  rw [HVX.out, HZ7.out]
  go_wp2_with fail
  go_ret
  exact ⟨by first | rfl | simp, HBE.out⟩
end Go.Proofs.Ythgnecggdlamfaa
