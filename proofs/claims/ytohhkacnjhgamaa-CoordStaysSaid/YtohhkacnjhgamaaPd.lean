/- A coordinator that shares no memory: the program's copied. -/
import Derived.Test.YtohhkacnjhgamaaPc
import Derived.Deep.RegionLaw
import Derived.Deep.DeepCutAuto
namespace Go.Proofs.Ytohhkacnjhgamaa
open Go.RowKit

theorem KB.new1 {w : World} {x : Nat} (hx : x = w.heap.size) (v0 : Value) (T : TypeId) : KB (w.alloc (.cells #[v0] T)) x [kdV v0] := by
  subst hx
  refine ⟨fun o u e => ?_, fun o ho => ?_, fun j => by simp [go_sem], by simp⟩
  · match o, e with
    | 0, e => simp [go_sem] at e; simp [e]
    | o + 1, e => simp [go_sem] at e
  · match o, ho with
    | 0, _ => exact ⟨v0, by simp [go_sem]⟩
    | o + 1, h => simp at h
theorem set_selfD {α : Type} {L : List α} {i : Nat} {x : α} (h : L[i]? = some x) : L.set i x = L := by
  obtain ⟨hi, rfl⟩ := List.getElem?_eq_some_iff.1 h
  exact List.set_getElem_self hi
/-- How far copied has come with the parts. -/
structure CpD (B b4 x1 : Nat) (w : World) (L : List Dl) (M0 : List DlM) (a : Option Addr) (c : Nat) (wr : World) (i : Nat) (M : List DlM) : Prop where
  mx : M.map (fun y => y.x) = L
  cq : Cq 31 4 dlC B wr (.slice a L.length c) M
  new : ∀ j y, j < i → M[j]? = some y → Nus wr y.a y.x.parts ∧ LI y.a b4 wr.heap.size ∧ y.x.parts.length ≤ y.c ∧ y.c ≤ maxLen
  old : ∀ j, i ≤ j → M[j]? = M0[j]?
  k1 : KB wr x1 [1]
  c1 : wr.cell? ⟨x1, 0, none⟩ = some (.slice a L.length c)
  k2 : KB wr (x1 + 1) [1]
  bw : Below w.heap.size w wr
  sz : b4 ≤ wr.heap.size
theorem CpD.later {B b4 x1 : Nat} {w : World} {L : List Dl} {M0 : List DlM} {a : Option Addr} {c : Nat} {wr w' : World} {i : Nat} {M : List DlM} (h : CpD B b4 x1 w L M0 a c wr i M) (hb : Below wr.heap.size wr w') : CpD B b4 x1 w L M0 a c w' i M :=
  ⟨h.mx, h.cq.later hb, fun j y hj hy => by obtain ⟨h1, h2, h3⟩ := h.new j y hj hy; exact ⟨h1.later hb, h2.mono (Nat.le_refl _) hb.size, h3⟩, h.old, h.k1.later hb, (hb.cell (p := ⟨x1, 0, none⟩) h.k1.lt).trans h.c1, h.k2.later hb, h.bw.trans (hb.mono h.bw.size), Nat.le_trans h.sz hb.size⟩
theorem CpD.put {B b4 x1 g : Nat} {w : World} {L : List Dl} {M0 : List DlM} {a : Option Addr} {c : Nat} {wr : World} {i : Nat} {M : List DlM} {y : DlM} {ap : Option Addr} {cp : Nat} (h : CpD B b4 x1 w L M0 a c wr i M) (hy : M[i]? = some y) (hg : a = some ⟨g, 0, none⟩) (hBg : B ≤ g) (hxB : x1 + 1 < B) (hwx : w.heap.size ≤ x1)
    (hp : Nus wr ap y.x.parts) (hl : LI ap b4 wr.heap.size) (hc : y.x.parts.length ≤ cp ∧ cp ≤ maxLen) (h4 : g < b4) :
    CpD B b4 x1 w L M0 a c ((((wr.setCell ⟨g, i * 4, none⟩ (.int .u64 (y.x.t.age : Nat))).setCell ⟨g, i * 4 + 1, none⟩ (.int .u64 (y.x.t.id : Nat))).setCell ⟨g, i * 4 + 2, none⟩ (.slice ap y.x.parts.length cp)).setCell ⟨g, i * 4 + 3, none⟩ (.int .i64 y.x.st)) (i + 1) (M.set i ⟨y.x, ap, cp⟩) := by
  show CpD B b4 x1 w L M0 a c (wr.setCells g (i * 4) (dlC ⟨y.x, ap, cp⟩)) (i + 1) (M.set i ⟨y.x, ap, cp⟩)
  have hgr := sc_grown (g := g) (dlC ⟨y.x, ap, cp⟩) (i * 4) wr
  have hi := (List.getElem?_eq_some_iff.1 hy).1
  have hML : M.length = L.length := by rw [← h.mx, List.length_map]
  obtain ⟨g', c', e, _, _, hcm, hd⟩ := Hd.of dlT h.cq (by omega)
  injection e with ea _ ec
  rw [hg] at ea
  injection ea with ea
  injection ea with ea
  subst ea ec
  have hput := hd.put dlT hi ⟨y.x, ap, cp⟩
  have hcq := hput.cq dlT hBg hcm
  rw [List.length_set, hML, ← hg] at hcq
  refine ⟨?_, hcq, fun j z hj hz => ?_, fun j hj => ?_, h.k1.grownK hgr (by omega), (World.cell?_of_block (a := ⟨x1, 0, none⟩) (hgr.block x1 h.k1.lt (by simp; omega))).trans h.c1, h.k2.grownK hgr (by omega), h.bw.grown hgr h.bw.size (fun k e => by cases e; omega), Nat.le_trans h.sz hgr.size⟩
  · rw [List.map_set]
    have hx : L[i]? = some y.x := by rw [← h.mx, List.getElem?_map, hy]; rfl
    rw [h.mx]
    exact set_selfD hx
  · by_cases e : j = i
    · subst e
      rw [List.getElem?_set, if_pos rfl, if_pos hi] at hz
      cases hz
      exact ⟨rw_grown hp hgr ((hl.ne (.inl h4)).nb _), hl.mono (Nat.le_refl _) hgr.size, hc⟩
    · rw [List.getElem?_set, if_neg (Ne.symm e)] at hz
      obtain ⟨e1, e2, e3⟩ := h.new j z (by omega) hz
      exact ⟨rw_grown e1 hgr ((e2.ne (.inl h4)).nb _), e2.mono (Nat.le_refl _) hgr.size, e3⟩
  · rw [List.getElem?_set, if_neg (by omega)]
    exact h.old j (by omega)
/-- What copied answers. -/
def CpP (w : World) (L : List Dl) (e : Ending) (w' : World) : Prop := ∃ A, e = .returned (coV L A) ∧ CoC w.heap.size w' L A ∧ Below w.heap.size w w'
set_option maxRecDepth 100000 in
set_option maxHeartbeats 8000000 in
theorem copied_any (L : List Dl) (A : Cad) (w : World) (hM : CoM w L A) (hl : L.length * 48 ≤ 140737488355328) (hp : ∀ x ∈ L, x.parts.length * 8 ≤ 140737488355328) :
    Calls Try.prog 27 #[coV L A] w (CpP w L) := by
  obtain ⟨n, hn⟩ : ∃ n, L.length = n := ⟨_, rfl⟩
  show Calls Try.prog 27 #[.agg #[.slice A.a L.length A.c]] w _
  obtain ⟨W, hW⟩ : ∃ W, (w.alloc (.cells #[.slice A.a L.length A.c] 24)).alloc (.cells #[.slice none 0 0] 24) = W := ⟨_, rfl⟩
  obtain ⟨x1, hx1⟩ : ∃ x, w.heap.size = x := ⟨_, rfl⟩
  have hX : Below w.heap.size w W ∧ KB W x1 [1] ∧ W.cell? ⟨x1, 0, none⟩ = some (.slice A.a L.length A.c) ∧ KB W (x1 + 1) [1] ∧ W.heap.size = x1 + 1 + 1 := by
    rw [← hW, ← hx1]
    exact ⟨by go_grown, (KB.new1 rfl _ _).later ((Below.refl _ _).alloc (Nat.le_refl _) _), by simp [go_sem], KB.new1 (by simp) _ _, by simp⟩
  obtain ⟨hB, k1, c0, k2, hs⟩ := hX
  have HOL := Lib.hid (show A.om.length = n from by rw [hM.olen, hn])
  have HC := Lib.hid (cloneDl_any n A.c A.a A.om (by rw [hM.olen, hn]) (by omega) W (hM.row.later hB))
  have HM0 := Lib.hid hM
  have HP := Lib.hid hp
  have HB := Lib.hid hB
  have HK1 := Lib.hid k1
  have HK2 := Lib.hid k2
  have HS := Lib.hid hs
  have HN := Lib.hid hn
  have HW := Lib.hid hW
  have HX1 := Lib.hid hx1
  have kf := k1.fz
  have hnb : n ≤ 140737488351232 := by omega
  rw [hn] at c0 HW ⊢
  clear hM hB k1 k2 hs hn hW hx1 hl hp
  go_enter Try.func27, Try.ntmps27
  go_wp2_with fail
  rw [HW.out, HX1.out]
  go_wp2_with fail
  refine HC.out.mono ?_
  rintro e w2 ⟨a2, d2, rfl, q2, b2, l2⟩
  rw [HOL.out] at q2 ⊢
  have d0 := (b2.cell (p := ⟨x1, 0, none⟩) HK1.out.lt).trans c0
  have kf2 := (HK1.out.later b2).fz
  obtain ⟨V, hV⟩ : ∃ V, w2.setCell ⟨x1, 0, none⟩ (.slice a2 n d2) = V := ⟨_, rfl⟩
  have hVg : w2.grownBy V (some x1) := hV ▸ sc_one _ _ _ _
  have HCI := Lib.hid (show CpD W.heap.size w2.heap.size x1 w L A.om a2 d2 V 0 A.om from by
    have hs := HS.out
    have hx1 := HX1.out
    have hw2 := b2.size
    have hb := HB.out.trans (b2.mono HB.out.size)
    refine ⟨HM0.out.om, by rw [HN.out]; exact q2.grown hVg (by omega), fun j y hj => absurd hj (Nat.not_lt_zero _), fun _ _ => rfl, ?_, ?_, (HK2.out.later b2).grownK hVg (by omega), hb.grown hVg hb.size (fun k e => by cases e; omega), hVg.size⟩
    · rw [← hV]; exact (HK1.out.later b2).set rfl
    · rw [← hV, HN.out]; simp [go_sem, d0])
  have HLI := Lib.hid (show LI a2 W.heap.size w2.heap.size from l2)
  obtain ⟨_, _, e2, _, _, m2, M2⟩ := q2.form dlT
  injection e2 with e2 g2 f2
  clear g2
  subst e2 f2
  rw [HOL.out] at m2
  have HCP := Lib.hid (And.intro m2 M2)
  have HV := Lib.hid hV
  clear hV hVg q2 b2 l2 m2 M2 c0 kf
  go_wp2_with fail
  rw [HV.out]
  have c1 := HCI.out.c1
  rw [HN.out] at c1
  clear d0 kf2 HC HB
  go_wp2_with fail
  clear c1
  go_loopw [12] (fun iv wr => ∃ (k : Nat) (M : List DlM), k ≤ n ∧ iv = .int .i64 k ∧ CpD W.heap.size w2.heap.size x1 w L A.om a2 d2 wr k M) (fun iv _ => n - (intOf iv).toNat)
  case atStart => exact ⟨0, A.om, Nat.zero_le _, rfl, HCI.out⟩
  case round =>
    obtain ⟨k, M, hk, rfl, hci⟩ := hrel
    have HC := Lib.hid hci
    have c1 := hci.c1
    rw [HN.out] at c1
    clear hci
    by_cases hlt : k < n
    case neg =>
      have i1 : ¬ (k : Int) < (n : Int) := by omega
      have hML : M.length = n := by rw [← HN.out, ← HC.out.mx, List.length_map]
      obtain ⟨_, so, fz, _⟩ := HC.out.k2
      obtain ⟨u0, e0⟩ := so 0 (by decide)
      have HFIN := Lib.hid (show CpP w L (.returned (.agg #[.slice a2 n d2])) (wr.setCell ⟨x1 + 1, 0, none⟩ (.slice a2 n d2)) from by
        have hs := HS.out
        have hx1 := HX1.out
        have hnew : ∀ y ∈ M, Nus wr y.a y.x.parts ∧ LI y.a w2.heap.size wr.heap.size ∧ y.x.parts.length ≤ y.c ∧ y.c ≤ maxLen := fun y hy => by
          obtain ⟨j, hj⟩ := List.mem_iff_getElem?.1 hy
          exact HC.out.new j y (by have := (List.getElem?_eq_some_iff.1 hj).1; omega) hj
        obtain ⟨_, _, f3, R3, _⟩ := HC.out.cq.form dlT
        injection f3 with f3 _ _
        subst f3
        have hsz := HC.out.sz
        have hl2 := HLI.out
        have hc : CoC W.heap.size wr L ⟨a2, d2, M⟩ := by
          refine ⟨⟨HC.out.mx, R3, fun y hy => (hnew y hy).1, ?_, fun y hy => (hnew y hy).2.2⟩, HC.out.cq, hl2.mono (Nat.le_refl _) hsz, fun y hy => (hnew y hy).2.1.mono ?_ (Nat.le_refl _), fun q hq y hy => (hnew y hy).2.1.ne (.inl (hl2 q hq).2)⟩
          · rw [HN.out]; exact HCP.out
          · have := HCP.out
            obtain ⟨q, hq⟩ | h0 : (∃ q, a2 = some q) ∨ a2 = none := by cases a2 <;> simp
            · exact Nat.le_of_lt (Nat.lt_of_le_of_lt (hl2 q hq).1 (hl2 q hq).2)
            · obtain ⟨j, hj⟩ := List.mem_iff_getElem?.1 hy
              obtain ⟨b, off, e, _⟩ := R3 j y hj
              rw [h0] at e; cases e
        have hgr := sc_one wr (x1 + 1) 0 (.slice a2 n d2)
        exact ⟨⟨a2, d2, M⟩, by rw [← HN.out], (hc.box hgr (by omega)).mono (by omega), HC.out.bw.grown hgr HC.out.bw.size (fun k e => by cases e; omega)⟩)
      go_wp2_with fail
      refine bodyPost_ret (v := .agg #[.slice a2 n d2]) (by simp [results, Try.results27, go_sem, e0]) rfl ?_
      exact HFIN.out
    have hML : M.length = n := by rw [← HN.out, ← HC.out.mx, List.length_map]
    obtain ⟨y, hy⟩ : ∃ y, M[k]? = some y := ⟨_, List.getElem?_eq_getElem (by omega)⟩
    have hyA : A.om[k]? = some y := by rw [← HC.out.old k (Nat.le_refl _)]; exact hy
    have hym := List.mem_of_getElem? hyA
    have hyo : y.x ∈ L := by rw [← HM0.out.om]; exact List.mem_map.2 ⟨y, hym, rfl⟩
    have hyz := HP.out y.x hyo
    obtain ⟨g, c', e, hBg, _, _, hd⟩ := Hd.of dlT HC.out.cq (by omega)
    injection e with ea _ ec
    subst ea ec
    have hg3 := HLI.out _ rfl
    simp only at hg3
    obtain ⟨b2, o2, e2, _, p0, p1, p2, p3⟩ := Dlm.cells hd.row hy
    injection e2 with e2
    injection e2 with e3 e4
    subst e3 e4
    rw [Nat.zero_add] at p0 p1 p2 p3
    have zf := hd.fz
    have hgl := hd.lt
    have hx1l := HC.out.k1.lt
    have hs := HS.out
    have hxg : ¬ x1 = g := by omega
    have hgx : ¬ g = x1 := by omega
    have i0 : (0 : Int) ≤ (k : Int) := by omega
    have i1 : (k : Int) < (n : Int) := by omega
    have HLT := Lib.hid hlt
    have HPUT := Lib.hid (fun w' (h : Below wr.heap.size wr w') (ap : Option Addr) (cp : Nat) (hp : Nus w' ap y.x.parts) (hl : LI ap w2.heap.size w'.heap.size) (hc : y.x.parts.length ≤ cp ∧ cp ≤ maxLen) =>
      (HC.out.later h).put hy rfl hBg (by omega) (by have := HX1.out; omega) hp hl hc (by omega))
    have HCD := Lib.hid (fun w' (h : Below wr.heap.size wr w') => copiedDeal_any y hyz w' (((HM0.out.parts y hym).later HC.out.bw).later h))
    have HSZ := Lib.hid HC.out.sz
    clear hy hyA hym hyo hyz hd hML hg3 hBg hs
    obtain ⟨⟨⟨ta, ti⟩, yp, ys⟩, ya, yc⟩ := y
    simp only at p0 p1 p2 p3 HPUT
    obtain ⟨W1, hW1⟩ : ∃ V, wr.alloc (.cells #[.int .u64 (ta : Nat), .int .u64 (ti : Nat), .slice ya yp.length yc, .int .i64 ys] 31) = V := ⟨_, rfl⟩
    obtain ⟨x4, hx4⟩ : ∃ z, wr.heap.size = z := ⟨_, rfl⟩
    have B1 : Below wr.heap.size wr W1 := hW1 ▸ (Below.refl _ _).alloc (Nat.le_refl _) _
    have hV : x4 < W1.heap.size ∧ W1.cell? ⟨x4, 0, none⟩ = some (.int .u64 (ta : Nat)) ∧ W1.cell? ⟨x4, 1, none⟩ = some (.int .u64 (ti : Nat)) ∧ W1.cell? ⟨x4, 2, none⟩ = some (.slice ya yp.length yc) ∧ W1.cell? ⟨x4, 3, none⟩ = some (.int .i64 ys) := by
      rw [← hW1, ← hx4]; exact ⟨by simp, by simp [go_sem], by simp [go_sem], by simp [go_sem], by simp [go_sem]⟩
    have HW1 := Lib.hid hW1
    have HX4 := Lib.hid hx4
    have HB1 := Lib.hid B1
    have HDR := Lib.hid (show Below wr.heap.size wr W1.drew from B1.drew)
    have r1 := (B1.cell (p := ⟨x1, 0, none⟩) hx1l).trans c1
    have q0 := (B1.cell (p := ⟨g, k * 4, none⟩) hgl).trans p0
    have q1 := (B1.cell (p := ⟨g, k * 4 + 1, none⟩) hgl).trans p1
    have q2 := (B1.cell (p := ⟨g, k * 4 + 2, none⟩) hgl).trans p2
    have q3 := (B1.cell (p := ⟨g, k * 4 + 3, none⟩) hgl).trans p3
    have zf1 : ∀ o, W1.frozen? ⟨g, o, none⟩ = false := fun o => (B1.frozen (p := ⟨g, o, none⟩) hgl).trans (zf o)
    have hglW : g < W1.heap.size := Nat.lt_of_lt_of_le hgl B1.size
    have hxlW : x1 < W1.heap.size := Nat.lt_of_lt_of_le hx1l B1.size
    clear hW1 hx4 B1
    go_upto_region 5 with (fail)
    try rw [HW1.out]
    try rw [HX4.out]
    clear p0 p1 p2 p3 c1 zf
    obtain ⟨hx4l, v0, v1, v2, v3⟩ := hV
    have S0 : W1.drew.cell? ⟨x1, 0, none⟩ = some (.slice (some ⟨g, 0, none⟩) n d2) ∧ W1.drew.cell? ⟨x4, 0, none⟩ = some (.int .u64 (ta : Nat)) ∧ W1.drew.cell? ⟨x4, 1, none⟩ = some (.int .u64 (ti : Nat)) ∧ W1.drew.cell? ⟨x4, 2, none⟩ = some (.slice ya yp.length yc) ∧ W1.drew.cell? ⟨x4, 3, none⟩ = some (.int .i64 ys) := ⟨r1, v0, v1, v2, v3⟩
    refine tillK_begin (S := fun w' => w'.cell? ⟨x1, 0, none⟩ = some (.slice (some ⟨g, 0, none⟩) n d2) ∧ w'.cell? ⟨x4, 0, none⟩ = some (.int .u64 (ta : Nat)) ∧ w'.cell? ⟨x4, 1, none⟩ = some (.int .u64 (ti : Nat)) ∧ w'.cell? ⟨x4, 2, none⟩ = some (.slice ya yp.length yc) ∧ w'.cell? ⟨x4, 3, none⟩ = some (.int .i64 ys)) (k := 6) (by kernel_rfl) ?_
    refine tillK_take (i := 0) (v := .pointer (some ⟨x1, 0, none⟩)) rfl (by kernel_rfl) (by kernel_rfl) (by kernel_rfl) (by kernel_rfl) (by kernel_rfl) (by kernel_rfl) (fun _ _ _ h => h) (Or.inl ⟨by rfl, ?hy5_0⟩) (by assumption) ?rest5_0
    case hy5_0 =>
      rintro w' ⟨e0, e1, e2, e3, e4⟩
      go_simp
    try simp only [Act.put, List.setIfInBounds_toArray]
    refine tillK_take (i := 1) (v := .slice (some ⟨g, 0, none⟩) n d2) rfl (by kernel_rfl) (by kernel_rfl) (by kernel_rfl) (by kernel_rfl) (by kernel_rfl) (by kernel_rfl) (fun _ _ _ h => h) (Or.inl ⟨by rfl, ?hy5_1⟩) (by assumption) ?rest5_1
    case hy5_1 =>
      rintro w' ⟨e0, e1, e2, e3, e4⟩
      go_simp
    try simp only [Act.put]
    refine tillK_take (i := 2) (v := .int .i64 k) rfl (by kernel_rfl) (by kernel_rfl) (by kernel_rfl) (by kernel_rfl) (by kernel_rfl) (by kernel_rfl) (fun _ _ _ h => h) (Or.inl ⟨by rfl, ?hy5_2⟩) (by assumption) ?rest5_2
    case hy5_2 =>
      rintro w' ⟨e0, e1, e2, e3, e4⟩
      go_simp
    try simp only [Act.put]
    refine tillK_step (i := 3) (by kernel_rfl) rfl (by rfl) ?_
    intro K5_3 hK5_3
    have HK5_3 := Lib.hid hK5_3
    clear hK5_3
    go_wp2_with fail
    refine HK5_3.out.out _ _ (fun _ => S0) ?_
    refine tillK_step (i := 4) (by kernel_rfl) rfl (by rfl) ?_
    intro K5_4 hK5_4
    have HK5_4 := Lib.hid hK5_4
    clear hK5_4
    go_wp2_with fail
    refine (HCD.out _ HDR.out).mono ?_
    rintro e5 w5 ⟨ap, cp, rfl, q5, l5, m5, b5⟩
    have b6 := HDR.out.trans (b5.mono HDR.out.size)
    have S5 : w5.cell? ⟨x1, 0, none⟩ = some (.slice (some ⟨g, 0, none⟩) n d2) ∧ w5.cell? ⟨x4, 0, none⟩ = some (.int .u64 (ta : Nat)) ∧ w5.cell? ⟨x4, 1, none⟩ = some (.int .u64 (ti : Nat)) ∧ w5.cell? ⟨x4, 2, none⟩ = some (.slice ya yp.length yc) ∧ w5.cell? ⟨x4, 3, none⟩ = some (.int .i64 ys) :=
      ⟨(b5.cell (p := ⟨x1, 0, none⟩) hxlW).trans r1, (b5.cell (p := ⟨x4, 0, none⟩) hx4l).trans v0, (b5.cell (p := ⟨x4, 1, none⟩) hx4l).trans v1, (b5.cell (p := ⟨x4, 2, none⟩) hx4l).trans v2, (b5.cell (p := ⟨x4, 3, none⟩) hx4l).trans v3⟩
    have t0 := (b5.cell (p := ⟨g, k * 4, none⟩) hglW).trans q0
    have t1 := (b5.cell (p := ⟨g, k * 4 + 1, none⟩) hglW).trans q1
    have t2 := (b5.cell (p := ⟨g, k * 4 + 2, none⟩) hglW).trans q2
    have t3 := (b5.cell (p := ⟨g, k * 4 + 3, none⟩) hglW).trans q3
    have zf5 : ∀ o, w5.frozen? ⟨g, o, none⟩ = false := fun o => (b5.frozen (p := ⟨g, o, none⟩) hglW).trans (zf1 o)
    have HCN := Lib.hid (HPUT.out w5 b6 ap cp q5 (LI.mono l5 (by have := HSZ.out; have := HB1.out.size; show w2.heap.size ≤ W1.heap.size; omega) (Nat.le_refl _)) m5)
    clear q5 b5 l5 b6 m5 S0 r1 q0 q1 q2 q3 zf1
    dsimp only
    refine HK5_4.out.out _ _ (fun _ => S5) ?_
    refine tillK_step (i := 5) (by kernel_rfl) rfl (by rfl) ?_
    intro K5_5 hK5_5
    have HK5_5 := Lib.hid hK5_5
    clear hK5_5
    go_wp2_with fail
    refine HK5_5.out.out _ _ (fun _ => S5) ?_
    clear S5
    refine tillK_step (i := 6) (by kernel_rfl) rfl (by rfl) ?_
    intro K5_6 hK5_6
    have HK5_6 := Lib.hid hK5_6
    clear hK5_6
    go_wp2_with fail
    refine HK5_6.out.out _ _ (fun h => by simp at h) ?_
    refine tillK_done (by kernel_rfl) ?_
    clear t0 t1 t2 t3 zf5
    go_wp2_with fail
    go_roundw
    case rel => exact ⟨k + 1, _, by omega, by go_num, HCN.out⟩
    case measure => simp [intOf]; omega
end Go.Proofs.Ytohhkacnjhgamaa
