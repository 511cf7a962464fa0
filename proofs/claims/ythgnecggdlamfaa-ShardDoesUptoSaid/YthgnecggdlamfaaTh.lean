/- A shard that shares no memory: the program's copied. -/
import Derived.Test.YthgnecggdlamfaaTg
import Derived.Deep.RegionLaw
namespace Go.Proofs.Ythgnecggdlamfaa
open Go.RowKit

/-- Five cells of a shard's box, with what lists they name. -/
structure BS (w : World) (x : Nat) (s : Sh) (A : Sad) : Prop where
  kb : KB w x sK
  c0 : w.cell? ⟨x, 0, none⟩ = some (.slice A.ra s.rows.length A.rc)
  c1 : w.cell? ⟨x, 1, none⟩ = some (.slice A.ha s.holds.length A.hc)
  c2 : w.cell? ⟨x, 2, none⟩ = some (.slice A.oa s.opn.length A.oc)
  c3 : w.cell? ⟨x, 3, none⟩ = some (.slice A.da s.done.length A.dc)
  c4 : w.cell? ⟨x, 4, none⟩ = some (.int .u64 (s.ver : Nat))
theorem BS.later {w w' : World} {x : Nat} {s : Sh} {A : Sad} (h : BS w x s A) (hb : Below w.heap.size w w') : BS w' x s A := by
  have f : ∀ j v, w.cell? ⟨x, j, none⟩ = some v → w'.cell? ⟨x, j, none⟩ = some v := fun j v e => (hb.cell (p := ⟨x, j, none⟩) h.kb.lt).trans e
  exact ⟨h.kb.later hb, f _ _ h.c0, f _ _ h.c1, f _ _ h.c2, f _ _ h.c3, f _ _ h.c4⟩
theorem KB.grownK {w w' : World} {x g : Nat} {ks : List Nat} (h : KB w x ks) (hg : w.grownBy w' (some g)) (hne : x ≠ g) : KB w' x ks := by
  have hb := hg.block x h.lt (by simpa using hne)
  have f : ∀ j, w'.cell? ⟨x, j, none⟩ = w.cell? ⟨x, j, none⟩ := fun j => World.cell?_of_block (a := ⟨x, j, none⟩) hb
  exact ⟨fun o u e => h.cs o u ((f o).symm.trans e), fun o ho => by obtain ⟨u, e⟩ := h.so o ho; exact ⟨u, (f o).trans e⟩, fun j => by
    have := h.fz j
    simp only [World.frozen?] at this ⊢
    rw [hb]; exact this, Nat.lt_of_lt_of_le h.lt hg.size⟩
theorem BS.grown {w w' : World} {x g : Nat} {s : Sh} {A : Sad} (h : BS w x s A) (hg : w.grownBy w' (some g)) (hne : x ≠ g) : BS w' x s A := by
  have f : ∀ j v, w.cell? ⟨x, j, none⟩ = some v → w'.cell? ⟨x, j, none⟩ = some v := fun j v e => (World.cell?_of_block (a := ⟨x, j, none⟩) (hg.block x h.kb.lt (by simpa using hne))).trans e
  exact ⟨h.kb.grownK hg hne, f _ _ h.c0, f _ _ h.c1, f _ _ h.c2, f _ _ h.c3, f _ _ h.c4⟩
/-- How far copied has come with the puts. -/
structure CpI (B b4 x1 : Nat) (w : World) (s : Sh) (M0 : List SopM) (A : Sad) (wr : World) (i : Nat) (M : List SopM) : Prop where
  mx : M.map (fun y => y.x) = s.opn
  cq : Cq 48 5 sopC B wr (.slice A.oa s.opn.length A.oc) M
  new : ∀ j y, j < i → M[j]? = some y → Pus wr y.a y.x.puts ∧ LI y.a b4 wr.heap.size ∧ y.x.puts.length ≤ y.c ∧ y.c ≤ maxLen
  old : ∀ j, i ≤ j → M[j]? = M0[j]?
  rows : Ros wr A.ra s.rows
  holds : Hos wr A.ha s.holds
  dn : Cq 68 3 sdnC B wr (.slice A.da s.done.length A.dc) s.done
  bs : BS wr x1 s A
  k2 : KB wr (x1 + 1) sK
  bw : Below w.heap.size w wr
  sz : b4 ≤ wr.heap.size
theorem CpI.later {B b4 x1 : Nat} {w : World} {s : Sh} {M0 : List SopM} {A : Sad} {wr w' : World} {i : Nat} {M : List SopM} (h : CpI B b4 x1 w s M0 A wr i M) (hb : Below wr.heap.size wr w') : CpI B b4 x1 w s M0 A w' i M :=
  ⟨h.mx, h.cq.later hb, fun j y hj hy => by obtain ⟨h1, h2, h3⟩ := h.new j y hj hy; exact ⟨h1.later hb, h2.mono (Nat.le_refl _) hb.size, h3⟩, h.old, h.rows.later hb, h.holds.later hb, h.dn.later hb, h.bs.later hb, h.k2.later hb, h.bw.trans (hb.mono h.bw.size), Nat.le_trans h.sz hb.size⟩
theorem CpI.put {B b4 x1 g : Nat} {w : World} {s : Sh} {M0 : List SopM} {A : Sad} {wr : World} {i : Nat} {M : List SopM} {y : SopM} {ap : Option Addr} {cp : Nat} (h : CpI B b4 x1 w s M0 A wr i M) (hy : M[i]? = some y) (hg : A.oa = some ⟨g, 0, none⟩) (hBg : B ≤ g) (hxB : x1 + 1 < B) (hwx : w.heap.size ≤ x1)
    (hp : Pus wr ap y.x.puts) (hl : LI ap b4 wr.heap.size) (hc : y.x.puts.length ≤ cp ∧ cp ≤ maxLen) (h1 : NE A.ra g) (h2 : NE A.ha g) (h3 : NE A.da g) (h4 : g < b4) :
    CpI B b4 x1 w s M0 A (wr.setCell ⟨g, i * 5 + 4, none⟩ (.slice ap y.x.puts.length cp)) (i + 1) (M.set i ⟨y.x, ap, cp⟩) := by
  have hgr := sc_one wr g (i * 5 + 4) (.slice ap y.x.puts.length cp)
  have hi := (List.getElem?_eq_some_iff.1 hy).1
  have hML : M.length = s.opn.length := by rw [← h.mx, List.length_map]
  obtain ⟨g', c', e, _, _, hcm, hd⟩ := Hd.of sopT h.cq (by omega)
  injection e with ea _ ec
  rw [hg] at ea
  injection ea with ea
  injection ea with ea
  subst ea ec
  have hput := hd.put1 sopT (o := 4) (y := ⟨y.x, ap, cp⟩) (u := .slice ap y.x.puts.length cp) hy rfl (fun t ht => by rcases t with _ | _ | _ | _ | _ | t <;> first | rfl | exact absurd rfl ht)
  have hcq := hput.cq sopT hBg hcm
  rw [List.length_set, hML, ← hg] at hcq
  refine ⟨?_, hcq, fun j z hj hz => ?_, fun j hj => ?_, rw_grown h.rows hgr (h1.nb _), rw_grown h.holds hgr (h2.nb _), h.dn.grownT sdnT hgr (fun n c e => ?_), h.bs.grown hgr (by omega), h.k2.grownK hgr (by omega), h.bw.grown hgr h.bw.size (fun k e => by cases e; omega), Nat.le_trans h.sz hgr.size⟩
  · rw [List.map_set]
    have hx : s.opn[i]? = some y.x := by rw [← h.mx, List.getElem?_map, hy]; rfl
    rw [h.mx]
    exact set_self hx
  · by_cases e : j = i
    · subst e
      rw [List.getElem?_set, if_pos rfl, if_pos hi] at hz
      cases hz
      exact ⟨rw_grown hp hgr ((hl.ne (.inl h4)).nb _), hl.mono (Nat.le_refl _) hgr.size, hc⟩
    · rw [List.getElem?_set, if_neg (Ne.symm e)] at hz
      obtain ⟨e1, e2, e3⟩ := h.new j z (by omega) hz
      exact ⟨rw_grown e1 hgr ((e2.ne (.inl h4)).nb _), e2.mono (Nat.le_refl _) hgr.size, e3⟩
  · rw [List.getElem?_set, if_neg (by omega)]
    exact h.old j (by omega)
  · injection e with e _ _
    exact h3 _ e rfl
theorem set5s_grown (w : World) (x : Nat) (v0 v1 v2 v3 v4 : Value) : w.grownBy (set5s w x v0 v1 v2 v3 v4) (some x) := by
  unfold set5s
  exact grown_trans (sc_one _ _ _ _) (grown_trans (sc_one _ _ _ _) (grown_trans (sc_one _ _ _ _) (grown_trans (sc_one _ _ _ _) (sc_one _ _ _ _))))
/-- What copied answers. -/
def CoP (w : World) (s : Sh) (e : Ending) (w' : World) : Prop := ∃ A, e = .returned (shV s A) ∧ ShC w.heap.size w' s A ∧ Below w.heap.size w w'
set_option maxRecDepth 100000 in
set_option maxHeartbeats 8000000 in
theorem copied_any (s : Sh) (A : Sad) (w : World) (hM : ShM w s A) (zs : SzS s) :
    Calls Try.prog 18 #[shV s A] w (CoP w s) := by
  obtain ⟨nr, hnr⟩ : ∃ n, s.rows.length = n := ⟨_, rfl⟩
  obtain ⟨nh, hnh⟩ : ∃ n, s.holds.length = n := ⟨_, rfl⟩
  obtain ⟨no, hno⟩ : ∃ n, s.opn.length = n := ⟨_, rfl⟩
  obtain ⟨nd, hnd⟩ : ∃ n, s.done.length = n := ⟨_, rfl⟩
  have hrl : nr * 40 ≤ 140737488351232 := by have := zs.rlen; omega
  have hhl : nh * 40 ≤ 140737488351232 := by have := zs.hlen; omega
  have hol : no * 48 ≤ 140737488351232 := by have := zs.olen; omega
  have hdl : nd * 24 ≤ 140737488351232 := by have := zs.dlen; omega
  rw [show shV s A = .agg #[.slice A.ra s.rows.length A.rc, .slice A.ha s.holds.length A.hc, .slice A.oa s.opn.length A.oc, .slice A.da s.done.length A.dc, .int .u64 (s.ver : Nat)] from rfl, hnr, hnh, hno, hnd]
  obtain ⟨W, hW⟩ : ∃ W, (w.alloc (.cells #[.slice A.ra nr A.rc, .slice A.ha nh A.hc, .slice A.oa no A.oc, .slice A.da nd A.dc, .int .u64 (s.ver : Nat)] 28)).alloc (.cells #[.slice none 0 0, .slice none 0 0, .slice none 0 0, .slice none 0 0, .int .u64 0] 28) = W := ⟨_, rfl⟩
  obtain ⟨x1, hx1⟩ : ∃ x, w.heap.size = x := ⟨_, rfl⟩
  have hX : Below w.heap.size w W ∧ KB W x1 sK ∧ KB W (x1 + 1) sK ∧ W.cell? ⟨x1, 0, none⟩ = some (.slice A.ra nr A.rc) ∧ W.cell? ⟨x1, 1, none⟩ = some (.slice A.ha nh A.hc) ∧ W.cell? ⟨x1, 2, none⟩ = some (.slice A.oa no A.oc) ∧ W.cell? ⟨x1, 3, none⟩ = some (.slice A.da nd A.dc) ∧ W.cell? ⟨x1, 4, none⟩ = some (.int .u64 (s.ver : Nat)) := by
    rw [← hW, ← hx1]
    refine ⟨by go_grown, ?_, ?_, by simp [go_sem], by simp [go_sem], by simp [go_sem], by simp [go_sem], by simp [go_sem]⟩
    · exact (KB.new5 rfl _ _ _ _ _ _).later ((Below.refl _ _).alloc (Nat.le_refl _) _)
    · exact KB.new5 (by simp) _ _ _ _ _ _
  obtain ⟨hB, k1, k2, c0, c1, c2, c3, c4⟩ := hX
  have HM := Lib.hid (hM.later hB)
  have HM0 := Lib.hid hM
  have C1 := Lib.hid (fun w' (h : Below W.heap.size W w') => cloneRow_any nr A.rc A.ra s.rows hnr (by omega) w' ((hM.rows.later hB).later h))
  have C2 := Lib.hid (fun w' (h : Below W.heap.size W w') => cloneHold_any nh A.hc A.ha s.holds hnh (by omega) w' ((hM.holds.later hB).later h))
  have C3 := Lib.hid (fun w' (h : Below W.heap.size W w') => cloneOpen_any no A.oc A.oa A.om (by rw [hM.olen, hno]) (by omega) w' ((hM.opn.later hB).later h))
  have C4 := Lib.hid (fun w' (h : Below W.heap.size W w') => cloneDone_any nd A.dc A.da s.done hnd (by omega) w' ((hM.done.later hB).later h))
  have HOL := Lib.hid (show A.om.length = no from by rw [hM.olen, hno])
  have HK1 := Lib.hid k1
  have HK2 := Lib.hid k2
  have HB := Lib.hid hB
  have HZ := Lib.hid zs
  have HNR := Lib.hid hnr
  have HNH := Lib.hid hnh
  have HNO := Lib.hid hno
  have HND := Lib.hid hnd
  have HW := Lib.hid hW
  have HX1 := Lib.hid hx1
  clear hM hB k1 k2 zs hnr hnh hno hnd hW hx1
  go_enter Try.func18, Try.ntmps18
  go_upto_region 1 with (fail)
  rw [HW.out, HX1.out]
  have hS : W.drew.cell? ⟨x1, 0, none⟩ = some (.slice A.ra nr A.rc) ∧ W.drew.cell? ⟨x1, 1, none⟩ = some (.slice A.ha nh A.hc) ∧ W.drew.cell? ⟨x1, 2, none⟩ = some (.slice A.oa no A.oc) ∧ W.drew.cell? ⟨x1, 3, none⟩ = some (.slice A.da nd A.dc) := ⟨c0, c1, c2, c3⟩
  refine tillK_begin (S := fun w' => w'.cell? ⟨x1, 0, none⟩ = some (.slice A.ra nr A.rc) ∧ w'.cell? ⟨x1, 1, none⟩ = some (.slice A.ha nh A.hc) ∧ w'.cell? ⟨x1, 2, none⟩ = some (.slice A.oa no A.oc) ∧ w'.cell? ⟨x1, 3, none⟩ = some (.slice A.da nd A.dc)) (k := 13) (by kernel_rfl) ?_
  refine tillK_take (i := 0) (v := .pointer (some ⟨x1, 0, none⟩)) rfl (by kernel_rfl) (by kernel_rfl) (by kernel_rfl) (by kernel_rfl) (by kernel_rfl) (by kernel_rfl) (fun _ _ _ h => h) (Or.inl ⟨by rfl, ?hy0⟩) (by assumption) ?rest0
  case hy0 =>
    rintro w' ⟨e0, e1, e2, e3⟩
    go_simp
  try simp only [Act.put, List.setIfInBounds_toArray]
  refine tillK_take (i := 1) (v := .slice A.ra nr A.rc) rfl (by kernel_rfl) (by kernel_rfl) (by kernel_rfl) (by kernel_rfl) (by kernel_rfl) (by kernel_rfl) (fun _ _ _ h => h) (Or.inl ⟨by rfl, ?hy1⟩) (by assumption) ?rest1
  case hy1 =>
    rintro w' ⟨e0, e1, e2, e3⟩
    go_simp
  try simp only [Act.put]
  refine tillK_take (i := 3) (v := .pointer (some ⟨x1, 1, none⟩)) rfl (by kernel_rfl) (by kernel_rfl) (by kernel_rfl) (by kernel_rfl) (by kernel_rfl) (by kernel_rfl) (fun _ _ _ h => h) (Or.inl ⟨by rfl, ?hy3⟩) (by assumption) ?rest3
  case hy3 =>
    rintro w' ⟨e0, e1, e2, e3⟩
    go_simp
  try simp only [Act.put]
  refine tillK_take (i := 4) (v := .slice A.ha nh A.hc) rfl (by kernel_rfl) (by kernel_rfl) (by kernel_rfl) (by kernel_rfl) (by kernel_rfl) (by kernel_rfl) (fun _ _ _ h => h) (Or.inl ⟨by rfl, ?hy4⟩) (by assumption) ?rest4
  case hy4 =>
    rintro w' ⟨e0, e1, e2, e3⟩
    go_simp
  try simp only [Act.put]
  refine tillK_take (i := 6) (v := .pointer (some ⟨x1, 2, none⟩)) rfl (by kernel_rfl) (by kernel_rfl) (by kernel_rfl) (by kernel_rfl) (by kernel_rfl) (by kernel_rfl) (fun _ _ _ h => h) (Or.inl ⟨by rfl, ?hy6⟩) (by assumption) ?rest6
  case hy6 =>
    rintro w' ⟨e0, e1, e2, e3⟩
    go_simp
  try simp only [Act.put]
  refine tillK_take (i := 7) (v := .slice A.oa no A.oc) rfl (by kernel_rfl) (by kernel_rfl) (by kernel_rfl) (by kernel_rfl) (by kernel_rfl) (by kernel_rfl) (fun _ _ _ h => h) (Or.inl ⟨by rfl, ?hy7⟩) (by assumption) ?rest7
  case hy7 =>
    rintro w' ⟨e0, e1, e2, e3⟩
    go_simp
  try simp only [Act.put]
  refine tillK_take (i := 9) (v := .pointer (some ⟨x1, 3, none⟩)) rfl (by kernel_rfl) (by kernel_rfl) (by kernel_rfl) (by kernel_rfl) (by kernel_rfl) (by kernel_rfl) (fun _ _ _ h => h) (Or.inl ⟨by rfl, ?hy9⟩) (by assumption) ?rest9
  case hy9 =>
    rintro w' ⟨e0, e1, e2, e3⟩
    go_simp
  try simp only [Act.put]
  refine tillK_take (i := 10) (v := .slice A.da nd A.dc) rfl (by kernel_rfl) (by kernel_rfl) (by kernel_rfl) (by kernel_rfl) (by kernel_rfl) (by kernel_rfl) (fun _ _ _ h => h) (Or.inl ⟨by rfl, ?hy10⟩) (by assumption) ?rest10
  case hy10 =>
    rintro w' ⟨e0, e1, e2, e3⟩
    go_simp
  try simp only [Act.put]

  have hlt0 : x1 < W.drew.heap.size := HK1.out.lt
  have S0 := hS
  have HB0 := Lib.hid (show Below W.heap.size W W.drew from (Below.refl _ _).drew)
  have HDR := Lib.hid (show Below W.heap.size W W.drew from (Below.refl _ _).drew)
  have HC4 := Lib.hid c4
  clear c0 c1 c2 c3 c4
  refine tillK_step (i := 2) (by kernel_rfl) rfl (by rfl) ?_
  intro K1 hK1
  have HKK1 := Lib.hid hK1
  clear hK1
  go_wp2_with fail
  refine (C1.out _ HB0.out).mono ?_
  rintro e w1 ⟨a1, d1, rfl, q1, b1, l1⟩
  rw [HNR.out] at q1 ⊢
  have S1 : w1.cell? ⟨x1, 0, none⟩ = some (.slice A.ra nr A.rc) ∧ w1.cell? ⟨x1, 1, none⟩ = some (.slice A.ha nh A.hc) ∧ w1.cell? ⟨x1, 2, none⟩ = some (.slice A.oa no A.oc) ∧ w1.cell? ⟨x1, 3, none⟩ = some (.slice A.da nd A.dc) := ⟨(b1.cell (p := ⟨x1, 0, none⟩) hlt0).trans S0.1, (b1.cell (p := ⟨x1, 1, none⟩) hlt0).trans S0.2.1, (b1.cell (p := ⟨x1, 2, none⟩) hlt0).trans S0.2.2.1, (b1.cell (p := ⟨x1, 3, none⟩) hlt0).trans S0.2.2.2⟩
  have hlt1 : x1 < w1.heap.size := Nat.lt_of_lt_of_le hlt0 b1.size
  have HB1 := Lib.hid (show Below W.heap.size W w1 from HB0.out.trans (b1.mono HB0.out.size))
  have HQ1 := Lib.hid q1
  have Hb1 := Lib.hid b1
  have HL1 := Lib.hid l1
  clear q1 b1 l1 S0
  dsimp only
  refine HKK1.out.out _ _ (fun _ => S1) ?_
  refine tillK_take (i := 12) (v := .pointer (some ⟨x1, 0, none⟩)) rfl (by kernel_rfl) (by kernel_rfl) (by kernel_rfl) (by kernel_rfl) (by kernel_rfl) (by kernel_rfl) (fun _ _ _ h => h) (Or.inl ⟨by rfl, ?hy12⟩) (by assumption) ?rest12
  case hy12 =>
    rintro w' ⟨e0, e1, e2, e3⟩
    go_simp
  try simp only [Act.put, List.setIfInBounds_toArray]
  refine tillK_step (i := 5) (by kernel_rfl) rfl (by rfl) ?_
  intro K2 hK2
  have HKK2 := Lib.hid hK2
  clear hK2
  go_wp2_with fail
  refine (C2.out _ HB1.out).mono ?_
  rintro e w2 ⟨a2, d2, rfl, q2, b2, l2⟩
  rw [HNH.out] at q2 ⊢
  have S2 : w2.cell? ⟨x1, 0, none⟩ = some (.slice A.ra nr A.rc) ∧ w2.cell? ⟨x1, 1, none⟩ = some (.slice A.ha nh A.hc) ∧ w2.cell? ⟨x1, 2, none⟩ = some (.slice A.oa no A.oc) ∧ w2.cell? ⟨x1, 3, none⟩ = some (.slice A.da nd A.dc) := ⟨(b2.cell (p := ⟨x1, 0, none⟩) hlt1).trans S1.1, (b2.cell (p := ⟨x1, 1, none⟩) hlt1).trans S1.2.1, (b2.cell (p := ⟨x1, 2, none⟩) hlt1).trans S1.2.2.1, (b2.cell (p := ⟨x1, 3, none⟩) hlt1).trans S1.2.2.2⟩
  have hlt2 : x1 < w2.heap.size := Nat.lt_of_lt_of_le hlt1 b2.size
  have HB2 := Lib.hid (show Below W.heap.size W w2 from HB1.out.trans (b2.mono HB1.out.size))
  have HQ2 := Lib.hid q2
  have Hb2 := Lib.hid b2
  have HL2 := Lib.hid l2
  clear q2 b2 l2 S1
  dsimp only
  refine HKK2.out.out _ _ (fun _ => S2) ?_
  refine tillK_step (i := 8) (by kernel_rfl) rfl (by rfl) ?_
  intro K3 hK3
  have HKK3 := Lib.hid hK3
  clear hK3
  go_wp2_with fail
  refine (C3.out _ HB2.out).mono ?_
  rintro e w3 ⟨a3, d3, rfl, q3, b3, l3⟩
  rw [HOL.out] at q3 ⊢
  have S3 : w3.cell? ⟨x1, 0, none⟩ = some (.slice A.ra nr A.rc) ∧ w3.cell? ⟨x1, 1, none⟩ = some (.slice A.ha nh A.hc) ∧ w3.cell? ⟨x1, 2, none⟩ = some (.slice A.oa no A.oc) ∧ w3.cell? ⟨x1, 3, none⟩ = some (.slice A.da nd A.dc) := ⟨(b3.cell (p := ⟨x1, 0, none⟩) hlt2).trans S2.1, (b3.cell (p := ⟨x1, 1, none⟩) hlt2).trans S2.2.1, (b3.cell (p := ⟨x1, 2, none⟩) hlt2).trans S2.2.2.1, (b3.cell (p := ⟨x1, 3, none⟩) hlt2).trans S2.2.2.2⟩
  have hlt3 : x1 < w3.heap.size := Nat.lt_of_lt_of_le hlt2 b3.size
  have HB3 := Lib.hid (show Below W.heap.size W w3 from HB2.out.trans (b3.mono HB2.out.size))
  have HQ3 := Lib.hid q3
  have Hb3 := Lib.hid b3
  have HL3 := Lib.hid l3
  clear q3 b3 l3 S2
  dsimp only
  refine HKK3.out.out _ _ (fun _ => S3) ?_
  refine tillK_step (i := 11) (by kernel_rfl) rfl (by rfl) ?_
  intro K4 hK4
  have HKK4 := Lib.hid hK4
  clear hK4
  go_wp2_with fail
  refine (C4.out _ HB3.out).mono ?_
  rintro e w4 ⟨a4, d4, rfl, q4, b4, l4⟩
  rw [HND.out] at q4 ⊢
  have S4 : w4.cell? ⟨x1, 0, none⟩ = some (.slice A.ra nr A.rc) ∧ w4.cell? ⟨x1, 1, none⟩ = some (.slice A.ha nh A.hc) ∧ w4.cell? ⟨x1, 2, none⟩ = some (.slice A.oa no A.oc) ∧ w4.cell? ⟨x1, 3, none⟩ = some (.slice A.da nd A.dc) := ⟨(b4.cell (p := ⟨x1, 0, none⟩) hlt3).trans S3.1, (b4.cell (p := ⟨x1, 1, none⟩) hlt3).trans S3.2.1, (b4.cell (p := ⟨x1, 2, none⟩) hlt3).trans S3.2.2.1, (b4.cell (p := ⟨x1, 3, none⟩) hlt3).trans S3.2.2.2⟩
  have hlt4 : x1 < w4.heap.size := Nat.lt_of_lt_of_le hlt3 b4.size
  have HB4 := Lib.hid (show Below W.heap.size W w4 from HB3.out.trans (b4.mono HB3.out.size))
  have HQ4 := Lib.hid q4
  have Hb4 := Lib.hid b4
  have HL4 := Lib.hid l4
  clear q4 b4 l4 S3
  dsimp only
  refine HKK4.out.out _ _ (fun _ => S4) ?_
  have k4 := HK1.out.later HB4.out
  have fz := k4.fz
  obtain ⟨S40, S41, S42, S43⟩ := S4
  refine tillK_step (i := 13) (by kernel_rfl) rfl (by rfl) ?_
  intro K33 hK33
  have HKK33 := Lib.hid hK33
  clear hK33
  go_wp2_with fail
  refine HKK33.out.out _ _ (fun h => by simp at h) ?_
  refine tillK_step (i := 14) (by kernel_rfl) rfl (by rfl) ?_
  intro K34 hK34
  have HKK34 := Lib.hid hK34
  clear hK34
  go_wp2_with fail
  refine HKK34.out.out _ _ (fun h => by simp at h) ?_
  refine tillK_step (i := 15) (by kernel_rfl) rfl (by rfl) ?_
  intro K35 hK35
  have HKK35 := Lib.hid hK35
  clear hK35
  go_wp2_with fail
  refine HKK35.out.out _ _ (fun h => by simp at h) ?_
  refine tillK_step (i := 16) (by kernel_rfl) rfl (by rfl) ?_
  intro K36 hK36
  have HKK36 := Lib.hid hK36
  clear hK36
  go_wp2_with fail
  refine HKK36.out.out _ _ (fun h => by simp at h) ?_
  refine tillK_step (i := 17) (by kernel_rfl) rfl (by rfl) ?_
  intro K37 hK37
  have HKK37 := Lib.hid hK37
  clear hK37
  go_wp2_with fail
  refine HKK37.out.out _ _ (fun h => by simp at h) ?_
  refine tillK_step (i := 18) (by kernel_rfl) rfl (by rfl) ?_
  intro K38 hK38
  have HKK38 := Lib.hid hK38
  clear hK38
  go_wp2_with fail
  refine HKK38.out.out _ _ (fun h => by simp at h) ?_
  refine tillK_step (i := 19) (by kernel_rfl) rfl (by rfl) ?_
  intro K39 hK39
  have HKK39 := Lib.hid hK39
  clear hK39
  go_wp2_with fail
  refine HKK39.out.out _ _ (fun h => by simp at h) ?_
  refine tillK_done (by kernel_rfl) ?_
  obtain ⟨V, hV⟩ : ∃ V, (((w4.setCell ⟨x1, 0, none⟩ (.slice a1 nr d1)).setCell ⟨x1, 1, none⟩ (.slice a2 nh d2)).setCell ⟨x1, 2, none⟩ (.slice a3 no d3)).setCell ⟨x1, 3, none⟩ (.slice a4 nd d4) = V := ⟨_, rfl⟩
  have hVg : w4.grownBy V (some x1) := by
    rw [← hV]
    exact grown_trans (sc_one _ _ _ _) (grown_trans (sc_one _ _ _ _) (grown_trans (sc_one _ _ _ _) (sc_one _ _ _ _)))
  have S44 : w4.cell? ⟨x1, 4, none⟩ = some (.int .u64 (s.ver : Nat)) := (HB4.out.cell (p := ⟨x1, 4, none⟩) HK1.out.lt).trans HC4.out
  have hbs : KB V x1 sK ∧ V.cell? ⟨x1, 0, none⟩ = some (.slice a1 nr d1) ∧ V.cell? ⟨x1, 1, none⟩ = some (.slice a2 nh d2) ∧ V.cell? ⟨x1, 2, none⟩ = some (.slice a3 no d3) ∧ V.cell? ⟨x1, 3, none⟩ = some (.slice a4 nd d4) ∧ V.cell? ⟨x1, 4, none⟩ = some (.int .u64 (s.ver : Nat)) := by
    rw [← hV]
    exact ⟨(((k4.set rfl).set rfl).set rfl).set rfl, by simp [go_sem, S40], by simp [go_sem, S41], by simp [go_sem, S42], by simp [go_sem, S43], by simp [go_sem, S44]⟩
  have hxW : x1 + 1 < W.heap.size := HK2.out.lt
  have hwx : w.heap.size ≤ x1 := by have := HX1.out; omega
  have s1 := HB1.out.size
  have s2 := Hb2.out.size
  have s3 := Hb3.out.size
  have s4 := Hb4.out.size
  have L1 : LI a1 W.heap.size w1.heap.size := HL1.out
  have L2 : LI a2 w1.heap.size w2.heap.size := HL2.out
  have L3 : LI a3 w2.heap.size w3.heap.size := HL3.out
  have L4 : LI a4 w3.heap.size w4.heap.size := HL4.out
  obtain ⟨_, _, e1, R1, _, m1, M1⟩ := HQ1.out.form roT
  obtain ⟨_, _, e2, R2, _, m2, M2⟩ := HQ2.out.form hoT
  obtain ⟨_, _, e3, R3, _, m3, M3⟩ := HQ3.out.form sopT
  obtain ⟨_, _, e4, R4, _, m4, M4⟩ := HQ4.out.form sdnT
  injection e1 with e1 g1 f1
  clear g1
  injection e2 with e2 g2 f2
  clear g2
  injection e3 with e3 g3 f3
  clear g3
  injection e4 with e4 g4 f4
  clear g4
  subst e1 e2 e3 e4 f1 f2 f3 f4
  have P1 : Ros V a1 s.rows := rw_grown (((R1.later Hb2.out).later Hb3.out).later Hb4.out) hVg ((L1.ne (.inl (by omega))).nb _)
  have P2 : Hos V a2 s.holds := rw_grown ((R2.later Hb3.out).later Hb4.out) hVg ((L2.ne (.inl (by omega))).nb _)
  have Q3 : Cq 48 5 sopC W.heap.size V (.slice a3 no d3) A.om := ((HQ3.out.later Hb4.out).mono (Nat.le_trans s1 s2)).grown hVg (by omega)
  have Q4 : Cq 68 3 sdnC W.heap.size V (.slice a4 nd d4) s.done := (HQ4.out.mono (by omega)).grown hVg (by omega)
  have hBV : Below w.heap.size w V := (HB.out.trans (HB4.out.mono HB.out.size)).grown hVg (by have := HB.out.size; omega) (fun k e => by cases e; omega)
  have HCI := Lib.hid (show CpI W.heap.size w4.heap.size x1 w s A.om ⟨a1, d1, a2, d2, a3, d3, A.om, a4, d4⟩ V 0 A.om from
    ⟨HM0.out.om, by simp only [HNO.out]; exact Q3, fun j y hj => absurd hj (Nat.not_lt_zero _), fun _ _ => rfl, P1, P2, by simp only [HND.out]; exact Q4, by
      obtain ⟨h0, h1, h2, h3, h4, h5⟩ := hbs
      exact ⟨h0, by simp only [HNR.out]; exact h1, by simp only [HNH.out]; exact h2, by simp only [HNO.out]; exact h3, by simp only [HND.out]; exact h4, h5⟩, (HK2.out.later HB4.out).grownK hVg (by omega), hBV, hVg.size⟩)
  have HLI := Lib.hid (And.intro L1 (And.intro L2 (And.intro L3 L4)))
  have HSZ := Lib.hid (And.intro s1 (And.intro s2 (And.intro s3 s4)))
  have HCP := Lib.hid (And.intro (And.intro m1 M1) (And.intro (And.intro m2 M2) (And.intro (And.intro m3 M3) (And.intro m4 M4))))
  have HV := Lib.hid hV
  have HVS := Lib.hid hVg.size
  have HXW := Lib.hid hxW
  have HWX := Lib.hid hwx
  rw [HV.out]
  have c2 := hbs.2.2.2.1
  clear hV hVg S40 S41 S42 S43 S44 hbs hxW hwx s1 s2 s3 s4 L1 L2 L3 L4 R1 R2 R3 R4 m1 M1 m2 M2 m3 M3 m4 M4 P1 P2 Q3 Q4 hBV k4 fz hlt0 hlt1 hlt2 hlt3 hlt4 hS C1 C2 C3 C4 HKK1 HKK2 HKK3 HKK4 HB0 HB1 HB2 HB3 HB4 HQ1 HQ2 HQ3 HQ4 Hb1 Hb2 Hb3 Hb4 HL1 HL2 HL3 HL4 HDR
  clear HKK33 HKK34 HKK35 HKK36 HKK37 HKK38 HKK39
  go_wp2_with fail
  clear c2
  go_loopw [23] (fun iv wr => ∃ (k : Nat) (M : List SopM), k ≤ no ∧ iv = .int .i64 k ∧ CpI W.heap.size w4.heap.size x1 w s A.om ⟨a1, d1, a2, d2, a3, d3, A.om, a4, d4⟩ wr k M) (fun iv _ => no - (intOf iv).toNat)
  case atStart => exact ⟨0, A.om, Nat.zero_le _, rfl, HCI.out⟩
  case round =>
    obtain ⟨k, M, hk, rfl, hci⟩ := hrel
    have HC := Lib.hid hci
    have hbs := hci.bs
    clear hci
    by_cases hlt : k < no
    · have hML : M.length = no := by rw [← HNO.out, ← HC.out.mx, List.length_map]
      obtain ⟨y, hy⟩ : ∃ y, M[k]? = some y := ⟨_, List.getElem?_eq_getElem (by omega)⟩
      have hyA : A.om[k]? = some y := by rw [← HC.out.old k (Nat.le_refl _)]; exact hy
      have hym := List.mem_of_getElem? hyA
      have hyo : y.x ∈ s.opn := by rw [← HM0.out.om]; exact List.mem_map.2 ⟨y, hym, rfl⟩
      have hyz := (HZ.out.opn y.x hyo).2
      obtain ⟨g, c', e, hBg, _, _, hd⟩ := Hd.of sopT HC.out.cq (by omega)
      injection e with ea _ ec
      simp only at ea ec
      subst ea ec
      have hg3 := HLI.out.2.2.1 _ rfl
      simp only at hg3
      obtain ⟨b2, o2, e2, _, p0, p1, p2, p3, p4⟩ := Sop.cells hd.row hy
      injection e2 with e2
      injection e2 with e3 e4
      subst e3 e4
      rw [Nat.zero_add] at p4
      have z4 := hd.fz (k * 5 + 4)
      have hgl := hd.lt
      have c2 : wr.cell? ⟨x1, 2, none⟩ = some (.slice (some ⟨g, 0, none⟩) no d3) := by have := hbs.c2; rw [HNO.out] at this; exact this
      have hx1l := hbs.kb.lt
      have hxW := HXW.out
      have hxg : ¬ x1 = g := by omega
      have hgx : ¬ g = x1 := by omega
      have i0 : (0 : Int) ≤ (k : Int) := by omega
      have i1 : (k : Int) < (no : Int) := by omega
      have CP := Lib.hid (fun w' (h : Below wr.heap.size wr w') => clonePut_any y.x.puts.length y.c y.a y.x.puts rfl (by omega) w' (((HM0.out.puts y hym).later HC.out.bw).later h))
      have HPUT := Lib.hid (fun w' (h : Below wr.heap.size wr w') (ap : Option Addr) (cp : Nat) (hp : Pus w' ap y.x.puts) (hl : LI ap wr.heap.size w'.heap.size) (hc : y.x.puts.length ≤ cp ∧ cp ≤ maxLen) =>
        (HC.out.later h).put hy rfl hBg HXW.out HWX.out hp (hl.mono HC.out.sz (Nat.le_refl _)) hc (HLI.out.1.ne (.inr (by have := HSZ.out; omega))) (HLI.out.2.1.ne (.inr (by have := HSZ.out; omega))) (HLI.out.2.2.2.ne (.inl (by omega))) (by have := HSZ.out; omega))
      have HLT := Lib.hid hlt
      have HDR := Lib.hid (show Below wr.heap.size wr wr.drew from (Below.refl _ _).drew)
      clear hy hyA hym hyo hyz hd hbs hML p0 p1 p2 p3 hg3 hxW hBg
      obtain ⟨yx, ya, yc⟩ := y
      simp only at p4
      go_upto_region 5 with (fail)
      refine tillK_begin (S := fun w' => w'.cell? ⟨x1, 2, none⟩ = some (.slice (some ⟨g, 0, none⟩) no d3) ∧ w'.cell? ⟨g, k * 5 + 4, none⟩ = some (.slice ya yx.puts.length yc)) (k := 12) (by kernel_rfl) ?_
      have S0 : wr.drew.cell? ⟨x1, 2, none⟩ = some (.slice (some ⟨g, 0, none⟩) no d3) ∧ wr.drew.cell? ⟨g, k * 5 + 4, none⟩ = some (.slice ya yx.puts.length yc) := ⟨c2, p4⟩
      refine tillK_take (i := 0) (v := .pointer (some ⟨x1, 2, none⟩)) rfl (by kernel_rfl) (by kernel_rfl) (by kernel_rfl) (by kernel_rfl) (by kernel_rfl) (by kernel_rfl) (fun _ _ _ h => h) (Or.inl ⟨by rfl, ?hz0⟩) (by assumption) ?sest0
      case hz0 =>
        rintro w' ⟨e0, e1⟩
        go_simp
      try simp only [Act.put, List.setIfInBounds_toArray]
      refine tillK_take (i := 1) (v := .slice (some ⟨g, 0, none⟩) no d3) rfl (by kernel_rfl) (by kernel_rfl) (by kernel_rfl) (by kernel_rfl) (by kernel_rfl) (by kernel_rfl) (fun _ _ _ h => h) (Or.inl ⟨by rfl, ?hz1⟩) (by assumption) ?sest1
      case hz1 =>
        rintro w' ⟨e0, e1⟩
        go_simp
      try simp only [Act.put]
      refine tillK_take (i := 2) (v := .int .i64 k) rfl (by kernel_rfl) (by kernel_rfl) (by kernel_rfl) (by kernel_rfl) (by kernel_rfl) (by kernel_rfl) (fun _ _ _ h => h) (Or.inl ⟨by rfl, ?hz2⟩) (by assumption) ?sest2
      case hz2 =>
        rintro w' ⟨e0, e1⟩
        go_simp
      try simp only [Act.put]
      refine tillK_take (i := 3) (v := .pointer (some ⟨x1, 2, none⟩)) rfl (by kernel_rfl) (by kernel_rfl) (by kernel_rfl) (by kernel_rfl) (by kernel_rfl) (by kernel_rfl) (fun _ _ _ h => h) (Or.inl ⟨by rfl, ?hz3⟩) (by assumption) ?sest3
      case hz3 =>
        rintro w' ⟨e0, e1⟩
        go_simp
      try simp only [Act.put]
      refine tillK_take (i := 4) (v := .slice (some ⟨g, 0, none⟩) no d3) rfl (by kernel_rfl) (by kernel_rfl) (by kernel_rfl) (by kernel_rfl) (by kernel_rfl) (by kernel_rfl) (fun _ _ _ h => h) (Or.inl ⟨by rfl, ?hz4⟩) (by assumption) ?sest4
      case hz4 =>
        rintro w' ⟨e0, e1⟩
        go_simp
      try simp only [Act.put]
      refine tillK_take (i := 5) (v := .int .i64 k) rfl (by kernel_rfl) (by kernel_rfl) (by kernel_rfl) (by kernel_rfl) (by kernel_rfl) (by kernel_rfl) (fun _ _ _ h => h) (Or.inl ⟨by rfl, ?hz5⟩) (by assumption) ?sest5
      case hz5 =>
        rintro w' ⟨e0, e1⟩
        go_simp
      try simp only [Act.put]
      refine tillK_take (i := 6) (v := .pointer (some ⟨g, k * 5, none⟩)) rfl (by kernel_rfl) (by kernel_rfl) (by kernel_rfl) (by kernel_rfl) (by kernel_rfl) (by kernel_rfl) (fun _ _ _ h => h) (Or.inl ⟨by rfl, ?hz6⟩) (by assumption) ?sest6
      case hz6 =>
        rintro w' ⟨e0, e1⟩
        go_simp
      try simp only [Act.put]
      refine tillK_take (i := 7) (v := .pointer (some ⟨g, k * 5 + 4, none⟩)) rfl (by kernel_rfl) (by kernel_rfl) (by kernel_rfl) (by kernel_rfl) (by kernel_rfl) (by kernel_rfl) (fun _ _ _ h => h) (Or.inl ⟨by rfl, ?hz7⟩) (by assumption) ?sest7
      case hz7 =>
        rintro w' ⟨e0, e1⟩
        go_simp
      try simp only [Act.put]
      refine tillK_take (i := 8) (v := .slice ya yx.puts.length yc) rfl (by kernel_rfl) (by kernel_rfl) (by kernel_rfl) (by kernel_rfl) (by kernel_rfl) (by kernel_rfl) (fun _ _ _ h => h) (Or.inl ⟨by rfl, ?hz8⟩) (by assumption) ?sest8
      case hz8 =>
        rintro w' ⟨e0, e1⟩
        go_simp
      try simp only [Act.put]
      refine tillK_step (i := 9) (by kernel_rfl) rfl (by rfl) ?_
      intro K5 hK5
      have HKK5 := Lib.hid hK5
      clear hK5
      go_wp2_with fail
      refine (CP.out _ HDR.out).mono ?_
      rintro e5 w5 ⟨ap, cp, rfl, q5, b5, l5⟩
      have b6 := HDR.out.trans b5
      have S5 : w5.cell? ⟨x1, 2, none⟩ = some (.slice (some ⟨g, 0, none⟩) no d3) ∧ w5.cell? ⟨g, k * 5 + 4, none⟩ = some (.slice ya yx.puts.length yc) := ⟨(b6.cell (p := ⟨x1, 2, none⟩) hx1l).trans c2, (b6.cell (p := ⟨g, k * 5 + 4, none⟩) hgl).trans p4⟩
      have z5 := (b6.frozen (p := ⟨g, k * 5 + 4, none⟩) hgl).trans z4
      obtain ⟨_, _, e7, R7, _, m7, M7⟩ := q5.form puT
      injection e7 with e7 g7 f7
      clear g7
      subst e7 f7
      have HCN := Lib.hid (HPUT.out w5 b6 ap cp R7 l5 ⟨m7, M7⟩)
      clear q5 b5 l5 b6 R7 m7 M7 S0
      dsimp only
      refine HKK5.out.out _ _ (fun _ => S5) ?_
      refine tillK_step (i := 10) (by kernel_rfl) rfl (by rfl) ?_
      intro K50 hK50
      have HKK50 := Lib.hid hK50
      clear hK50
      go_wp2_with fail
      refine HKK50.out.out _ _ (fun _ => S5) ?_
      refine tillK_step (i := 11) (by kernel_rfl) rfl (by rfl) ?_
      intro K51 hK51
      have HKK51 := Lib.hid hK51
      clear hK51
      go_wp2_with fail
      refine HKK51.out.out _ _ (fun _ => S5) ?_
      obtain ⟨_, q4⟩ := S5
      refine tillK_step (i := 12) (by kernel_rfl) rfl (by rfl) ?_
      intro K6 hK6
      have HKK6 := Lib.hid hK6
      clear hK6
      go_wp2_with fail
      refine HKK6.out.out _ _ (fun h => by simp at h) ?_
      refine tillK_done (by kernel_rfl) ?_
      clear HKK5 HKK6 q4 z5 c2 p4 z4
      go_wp2_with fail
      go_roundw
      case rel => exact ⟨k + 1, _, by omega, by go_num, HCN.out⟩
      case measure => simp [intOf]; omega
    · have i1 : ¬ (k : Int) < (no : Int) := by omega
      have hML : M.length = no := by rw [← HNO.out, ← HC.out.mx, List.length_map]
      obtain ⟨_, d0, d1', d2', d3', d4'⟩ := hbs
      simp only [HNR.out, HNH.out, HNO.out, HND.out] at d0 d1' d2' d3' d4'
      have k2 := HC.out.k2
      obtain ⟨u0, e0⟩ := k2.so 0 (by decide)
      obtain ⟨u1, e1⟩ := k2.so 1 (by decide)
      obtain ⟨u2, e2⟩ := k2.so 2 (by decide)
      obtain ⟨u3, e3⟩ := k2.so 3 (by decide)
      obtain ⟨u4, e4⟩ := k2.so 4 (by decide)
      have fz := k2.fz
      have HFIN := Lib.hid (show CoP w s (.returned (shV s ⟨a1, d1, a2, d2, a3, d3, M, a4, d4⟩)) (set5s wr (x1 + 1) (.slice a1 nr d1) (.slice a2 nh d2) (.slice a3 no d3) (.slice a4 nd d4) (.int .u64 (s.ver : Nat))) from by
        obtain ⟨L1, L2, L3, L4⟩ := HLI.out
        obtain ⟨s1, s2, s3, s4⟩ := HSZ.out
        obtain ⟨P1, P2, P3, P4⟩ := HCP.out
        have hsz := HC.out.sz
        have hxW := HXW.out
        have hnew : ∀ y ∈ M, Pus wr y.a y.x.puts ∧ LI y.a w4.heap.size wr.heap.size ∧ y.x.puts.length ≤ y.c ∧ y.c ≤ maxLen := fun y hy => by
          obtain ⟨j, hj⟩ := List.mem_iff_getElem?.1 hy
          exact HC.out.new j y (by have := (List.getElem?_eq_some_iff.1 hj).1; omega) hj
        obtain ⟨_, _, f3, R3, _⟩ := HC.out.cq.form sopT
        injection f3 with f3 _ _
        simp only at f3
        subst f3
        obtain ⟨_, _, f4, R4, _⟩ := HC.out.dn.form sdnT
        injection f4 with f4 _ _
        simp only at f4
        subst f4
        have L1' : LI a1 W.heap.size w1.heap.size := L1
        have hB := HB.out.size
        have hwx := HWX.out
        have hm : ShM wr s ⟨a1, d1, a2, d2, a3, d3, M, a4, d4⟩ := by
          refine ⟨HC.out.rows, HC.out.holds, HC.out.mx, R3, fun y hy => (hnew y hy).1, R4, ⟨P1, P2, ?_, P4, fun y hy => (hnew y hy).2.2⟩⟩
          rw [HOL.out] at P3; rw [HNO.out]; exact P3
        have hc : ShC W.heap.size wr s ⟨a1, d1, a2, d2, a3, d3, M, a4, d4⟩ := by
          refine ⟨hm, HC.out.cq, HC.out.dn, L1'.mono (Nat.le_refl _) (by omega), L2.mono (by omega) (by omega), L3.mono (by omega) (by omega), L4.mono (by omega) (by omega), fun y hy => (hnew y hy).2.1.mono (by omega) (Nat.le_refl _), fun q hq => ?_, fun q hq => ?_⟩
          · have hq3 := L3 q hq
            exact ⟨L1'.ne (.inr (by omega)), L2.ne (.inr (by omega)), L4.ne (.inl (by omega)), fun y hy => (hnew y hy).2.1.ne (.inl (by omega))⟩
          · have hq4 := L4 q hq
            exact ⟨L1'.ne (.inr (by omega)), L2.ne (.inr (by omega)), L3.ne (.inr (by omega)), fun y hy => (hnew y hy).2.1.ne (.inl (by omega))⟩
        exact ⟨_, rfl, (hc.box (set5s_grown wr (x1 + 1) _ _ _ _ _) hxW).mono hB, below_set5s HC.out.bw (by omega)⟩)
      clear k2
      go_wp2_with fail
      refine bodyPost_ret (v := shV s ⟨a1, d1, a2, d2, a3, d3, M, a4, d4⟩) (by simp [results, Try.results18, go_sem, e0, e1, e2, e3, e4, HNR.out, HNH.out, HNO.out, HND.out]) rfl ?_
      exact HFIN.out
end Go.Proofs.Ythgnecggdlamfaa
