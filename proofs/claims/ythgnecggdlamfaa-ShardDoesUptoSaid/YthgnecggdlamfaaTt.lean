/- slices.DeleteFunc of open transactions; a transaction released; whether it may end so: the program's. -/
import Derived.Test.YthgnecggdlamfaaTq
import Derived.Test.YthgnecggdlamfaaNe
import Derived.Test.YthgnecggdlamfaaNg
namespace Go.Proofs.Ythgnecggdlamfaa
open Go.RowKit

theorem zeroSo (w : World) : (zeroValue 48).run Try.prog w = .ok (.agg #[.int .u64 0, .int .u64 0, .bool false, .bool false, .slice none 0 0]) w := Try.zeroValue48 w
/-- What slices.DeleteFunc answers: the row, in its own block. -/
def DlO (B : Nat) (oa : Option Addr) (oc : Nat) (M : List SopM) (w : World) (e : Ending) (w' : World) : Prop := e = .returned (.slice oa M.length oc) ∧ Cq 48 5 sopC B w' (.slice oa M.length oc) M ∧ w.grownBy w' (oa.map fun q => q.block)
set_option maxRecDepth 100000 in
set_option maxHeartbeats 4000000 in
theorem deleteO_any (B fn : Nat) (caps : Array Value) (f : SopM → Bool) (n c : Nat) (a : Option Addr) (L : List SopM) (hn : L.length = n) (hl : n ≤ 140737488351232) (w : World) (_ : B ≤ w.heap.size) (hR : ∀ (x : SopM) (w : World), (callFunc fn (#[.agg #[.int .u64 (x.x.t.age : Nat), .int .u64 (x.x.t.id : Nat), .bool x.x.fm, .bool x.x.wd, .slice x.a x.x.puts.length x.c]] ++ caps)).run Try.prog w = .ok (.enter fn (#[.agg #[.int .u64 (x.x.t.age : Nat), .int .u64 (x.x.t.id : Nat), .bool x.x.fm, .bool x.x.wd, .slice x.a x.x.puts.length x.c]] ++ caps)) w) (H : ∀ x ∈ L, ∀ w' : World, (Below w.heap.size w w' ∨ w.grownBy w' (a.map fun q => q.block)) → Calls Try.prog fn (#[soV x] ++ caps) w' fun e w2 => e = .returned (.bool (f x)) ∧ Below w'.heap.size w' w2) (hC : Cq 48 5 sopC B w (.slice a n c) L) :
    Calls Try.prog 76 #[.slice a n c, .func (.func fn) #[] caps] w (DlO B a c (L.filter fun x => !f x) w) := by
  obtain ⟨kp, hkp⟩ : ∃ kp : SopM → Bool, (fun x : SopM => !f x) = kp := ⟨_, rfl⟩
  have hkp2 : ∀ x : SopM, f x = !kp x := fun x => by rw [← hkp]; simp
  rw [hkp]
  have HKP := Lib.hid hkp2
  obtain ⟨a0, c0, e0, hM, hfa, hlc, hmx⟩ := hC.form sopT
  injection e0 with ea en ec
  subst ea ec
  have HF := Lib.hid (show ∀ w', Below w.heap.size w w' → L.filter kp = L → DlO B a c (L.filter kp) w (.returned (.slice a n c)) w' from fun w' hb e => by
    rw [e]; unfold DlO; rw [hn]; exact ⟨rfl, hC.later hb, ⟨hb.os, hb.tape, hb.output, hb.size, fun k hk _ => hb.block k hk⟩⟩)
  have HR := Lib.hid (show 0 < n → ∃ g, a = some ⟨g, 0, none⟩ ∧ B ≤ g ∧ g < w.heap.size ∧ Hd 48 5 sopC w g c L from fun h0 => by
    obtain ⟨g, c', e, h1, _, _, h3⟩ := Hd.of sopT hC (by rw [hn]; exact h0)
    injection e with ea en ec
    subst ea ec
    exact ⟨g, rfl, h1, h3.lt, h3⟩)
  have HI := Lib.hid (indexO_any fn caps f n c a L hn hl w hR (fun x hx w' hb => H x hx w' (.inl hb)) hM)
  have HN := Lib.hid hn
  have HC := Lib.hid H
  have hnc : n ≤ c := by omega
  have HMX := Lib.hid hmx
  clear hn hM H hC hfa en hkp hkp2 hlc hmx
  go_enter Try.func76, Try.ntmps76
  go_wp2_with fail
  refine HI.out.mono ?_
  rintro e w1 ⟨⟨k, rfl, hk⟩, hb⟩
  rcases hk with ⟨rfl, hall⟩ | ⟨j0, x0, rfl, hx0, hg0, hlt0⟩
  · have HE := Lib.hid (HF.out w1 hb (List.filter_eq_self.2 fun x hx => by have h1 := hall x hx; rw [HKP.out x] at h1; simpa using h1))
    clear hb hall hR
    go_wp2_with fail
    go_ret
    exact HE.out
  · have hg0 : kp x0 = false := by rw [HKP.out x0] at hg0; simpa using hg0
    have hlt0 : ∀ i, i < j0 → ∀ y : SopM, L[i]? = some y → kp y = true := fun i hi y hy => by have h1 := hlt0 i hi y hy; rw [HKP.out y] at h1; simpa using h1
    have hj0 := (List.getElem?_eq_some_iff.1 hx0).1
    obtain ⟨g, rfl, hBg, hgw, hRg⟩ := HR.out (by have := HN.out; omega)
    have HK0 := Lib.hid (Ks.start hx0 hg0 hlt0)
    have HR1 := Lib.hid (hRg.later hb)
    have HB1 := Lib.hid (show w.grownBy w1 (some g) from grown_of hb)
    have hj0n : j0 < n := by have := HN.out; omega
    have i0 : ¬ (j0 : Int) = -1 := by omega
    have i0' : ((j0 : Int) == -1) = false := by first | (simp; done) | (simp; omega)
    clear hb hRg hx0 hg0 hlt0 hj0
    go_wp2_with fail
    go_loopw [5, 6] (fun u v wr => ∃ (i j : Nat) (C : List SopM), u = .int .i64 i ∧ v = .int .i64 j ∧ Ks kp L C i j ∧ Hd 48 5 sopC wr g c C ∧ w.grownBy wr (some g)) (fun _ v _ => n - (intOf v).toNat)
    case atStart => exact ⟨j0, j0 + 1, L, rfl, by go_num, HK0.out, HR1.out, HB1.out⟩
    case round =>
      obtain ⟨i, j, C, rfl, rfl, hks, hr, hb⟩ := hrel
      have hij := hks.lt
      have hjn : j ≤ n := by have := hks.le; have := HN.out; omega
      have HKS := Lib.hid hks
      have HRR := Lib.hid hr
      have HBB := Lib.hid hb
      clear hks hr hb
      by_cases hlt : j < n
      · obtain ⟨x, hx⟩ : ∃ x, L[j]? = some x := ⟨_, List.getElem?_eq_getElem (by rw [HN.out]; exact hlt)⟩
        obtain ⟨b2, o2, e2, _, p0, p1, p2, p3, p4⟩ := Sop.cells HRR.out.row ((HKS.out.tl j (Nat.le_refl _)).trans hx)
        cases e2
        simp only [Nat.zero_add] at p0 p1 p2 p3 p4
        have HX := Lib.hid hx
        have hxm := List.mem_of_getElem? hx
        have i2 : (0 : Int) ≤ (j : Int) := by omega
        have i3 : (j : Int) < (n : Int) := by omega
        have i4 : (0 : Int) ≤ (i : Int) := by omega
        have i5 : (i : Int) < (n : Int) := by omega
        clear hx
        obtain ⟨W1, hW1⟩ : ∃ W1, wr.alloc (.cells #[.int .u64 (x.x.t.age : Nat), .int .u64 (x.x.t.id : Nat), .bool x.x.fm, .bool x.x.wd, .slice x.a x.x.puts.length x.c] 48) = W1 := ⟨_, rfl⟩
        obtain ⟨x7, hx7⟩ : ∃ x7, wr.heap.size = x7 := ⟨_, rfl⟩
        have BV : Below wr.heap.size wr W1 := hW1 ▸ (Below.refl _ _).alloc (Nat.le_refl _) _
        have hV : x7 < W1.heap.size ∧ W1.cell? ⟨x7, 0, none⟩ = some (.int .u64 (x.x.t.age : Nat)) ∧ W1.cell? ⟨x7, 1, none⟩ = some (.int .u64 (x.x.t.id : Nat)) ∧ W1.cell? ⟨x7, 2, none⟩ = some (.bool x.x.fm) ∧ W1.cell? ⟨x7, 3, none⟩ = some (.bool x.x.wd) ∧ W1.cell? ⟨x7, 4, none⟩ = some (.slice x.a x.x.puts.length x.c) := by
          rw [← hW1, ← hx7]; exact ⟨by simp, by simp [go_sem], by simp [go_sem], by simp [go_sem], by simp [go_sem], by simp [go_sem]⟩
        obtain ⟨hv, v0, v1, v2, v3, v4⟩ := hV
        have HBV := Lib.hid (show w.grownBy W1 (some g) from grown_trans HBB.out (grown_of BV))
        have HRV := Lib.hid (HRR.out.later BV)
        clear BV
        go_wp2_with fail
        refine (HC.out x hxm _ (.inr HBV.out)).mono ?_
        rintro e w2 ⟨rfl, hb2⟩
        rw [HKP.out x]
        have HB2 := Lib.hid (show w.grownBy w2 (some g) from grown_trans HBV.out (grown_of hb2))
        have HR2 := Lib.hid (HRV.out.later hb2)
        have d := fun i v (e : W1.cell? ⟨x7, i, none⟩ = some v) => (hb2.cell (p := ⟨x7, i, none⟩) hv).trans e
        have u0 := d _ _ v0
        have u1 := d _ _ v1
        have u2 := d _ _ v2
        have u3 := d _ _ v3
        have u4 := d _ _ v4
        clear hb2 p0 p1 p2 p3 p4 v0 v1 v2 v3 v4 d hv
        by_cases he : kp x = false
        · rw [he]
          have HT := Lib.hid (HKS.out.skip HX.out he)
          clear he
          go_wp2_with fail
          go_roundw
          case rel => exact ⟨i, j + 1, C, rfl, by go_num, HT.out, HR2.out, HB2.out⟩
          case measure => simp [intOf]; omega
        · have he : kp x = true := by simpa using he
          rw [he]
          have HT := Lib.hid (HKS.out.keep HX.out he)
          clear he
          have hiC : i < C.length := by have := HKS.out.len; have := HN.out; omega
          obtain ⟨b3, o3, e3, _, q0, q1, q2, q3, q4⟩ := Sop.cells HR2.out.row (List.getElem?_eq_getElem hiC)
          cases e3
          simp only [Nat.zero_add] at q0 q1 q2 q3 q4
          have z0 := HR2.out.fz (i * 5)
          have z1 := HR2.out.fz (i * 5 + 1)
          have z2 := HR2.out.fz (i * 5 + 2)
          have z3 := HR2.out.fz (i * 5 + 3)
          have z4 := HR2.out.fz (i * 5 + 4)
          have HP := Lib.hid (HR2.out.put sopT hiC x)
          have HB3 := Lib.hid (show w.grownBy _ (some g) from grown_trans HB2.out (sc_grown (sopC x) (i * 5) w2))
          generalize C[i].x.t.age = o0 at q0
          generalize C[i].x.t.id = o1 at q1
          generalize C[i].x.fm = o2 at q2
          generalize C[i].x.wd = o3 at q3
          generalize C[i].a = o4 at q4
          generalize C[i].x.puts.length = o5 at q4
          generalize C[i].c = o6 at q4
          go_wp2_with fail
          go_roundw
          case rel => exact ⟨i + 1, j + 1, C.set i x, by go_num, by go_num, HT.out, HP.out, HB3.out⟩
          case measure => simp [intOf]; omega
      · have hjn' : j = n := by omega
        subst hjn'
        have hin : i ≤ j := by omega
        have hCl : C.length = j := by have := HKS.out.len; have := HN.out; omega
        have HD := Lib.hid (HKS.out.done HN.out.symm)
        obtain ⟨w3, hcl, hg3, hk3⟩ := clearH sopT (by decide) zeroSo HRR.out (i := i) (m := j - i) (c := c - i) (by omega)
        have hlen : (C.take i).length = i := by rw [List.length_take]; omega
        have HE := Lib.hid (show DlO B (some ⟨g, 0, none⟩) c (L.filter kp) w (.returned (.slice (some ⟨g, 0, none⟩) i c)) w3 from by
          have h5 := hk3.cq sopT hBg HMX.out
          rw [hlen] at h5
          have h6 : (L.filter kp).length = i := by rw [← HD.out]; exact hlen
          rw [HD.out] at h5
          unfold DlO
          rw [h6]
          exact ⟨rfl, h5, grown_trans HBB.out hg3⟩)
        have i2 : ¬ (j : Int) < (j : Int) := by omega
        have i4 : (0 : Int) ≤ (i : Int) := by omega
        have i5 : (i : Int) ≤ (j : Int) := by omega
        have i6 : (j : Int) ≤ (c : Int) := by omega
        have i7 : (i : Int) ≤ (c : Int) := by omega
        clear hg3 hk3 hCl hlen hR
        go_wp2_with fail
        go_ret
        exact HE.out
end Go.Proofs.Ythgnecggdlamfaa
/- A transaction released; whether it may end so: the program's. -/
namespace Go.Proofs.Ythgnecggdlamfaa
open Go.RowKit

theorem grown_new {w w1 w2 : World} {r : Option Nat} {y : Nat} (h : w.grownBy w1 r) (hy : w.heap.size ≤ y) (h2 : w1.grownBy w2 (some y)) : w.grownBy w2 r :=
  ⟨h2.os.trans h.os, h2.tape.trans h.tape, h2.output.trans h.output, Nat.le_trans h.size h2.size, fun k hk hne => (h2.block k (Nat.lt_of_lt_of_le hk h.size) (by simp; omega)).trans (h.block k hk hne)⟩
theorem grown_later {w w1 w2 : World} {r : Option Nat} (h : w.grownBy w1 r) (h2 : Below w1.heap.size w1 w2) : w.grownBy w2 r :=
  ⟨h2.os.trans h.os, h2.tape.trans h.tape, h2.output.trans h.output, Nat.le_trans h.size h2.size, fun k hk hne => (h2.block k (Nat.lt_of_lt_of_le hk h.size)).trans (h.block k hk hne)⟩
theorem grown_same {w w1 w2 : World} {r : Option Nat} (h : w.grownBy w1 r) (h2 : w1.grownBy w2 r) : w.grownBy w2 r :=
  ⟨h2.os.trans h.os, h2.tape.trans h.tape, h2.output.trans h.output, Nat.le_trans h.size h2.size, fun k hk hne => (h2.block k (Nat.lt_of_lt_of_le hk h.size) hne).trans (h.block k hk hne)⟩
theorem grown_to {w w1 : World} {a : Option Addr} {g : Nat} (h : w.grownBy w1 (a.map fun q => q.block)) (hg : NE a g) : ∃ g', g' ≠ g ∧ w.grownBy w1 (some g') := by
  cases a with
  | none => exact ⟨g + 1, by omega, grown_none h _⟩
  | some q => exact ⟨q.block, hg q rfl, h⟩
/-- What released answers. -/
def RlP (B : Nat) (s : Sh) (A : Sad) (t : Tx) (w : World) (e : Ending) (w' : World) : Prop := ∃ (ah : Option Addr) (dh : Nat),
  e = .returned (.agg #[.slice A.ra s.rows.length A.rc, .slice ah (dropH t s.holds).length dh, .slice A.oa (A.om.filter fun y => !decide (y.x.t = t)).length A.oc, .slice A.da s.done.length A.dc, .int .u64 (s.ver : Nat)]) ∧
  (Hos w' ah (dropH t s.holds) ∧ (0 < (dropH t s.holds).length → ∀ q, ah = some q → w.heap.size ≤ q.block) ∧ (dropH t s.holds).length ≤ dh ∧ dh ≤ maxLen) ∧
  Cq 48 5 sopC B w' (.slice A.oa (A.om.filter fun y => !decide (y.x.t = t)).length A.oc) (A.om.filter fun y => !decide (y.x.t = t)) ∧ w.grownBy w' (A.oa.map fun q => q.block)
set_option maxRecDepth 100000 in
set_option maxHeartbeats 8000000 in
theorem released_any (B : Nat) (s : Sh) (A : Sad) (t : Tx) (w : World) (hB : B ≤ w.heap.size) (ho : okX t) (hsh : smallH s.holds) (hhl : s.holds.length * 40 ≤ 140737488351232) (hol : s.opn.length ≤ 140737488351232) (hoo : A.om.length = s.opn.length) (hH : Hos w A.ha s.holds) (hC : Cq 48 5 sopC B w (.slice A.oa s.opn.length A.oc) A.om) (hlo : LI A.oa B w.heap.size) :
    Calls Try.prog 50 #[shV s A, txV t] w (RlP B s A t w) := by
  obtain ⟨ta, ti⟩ := t
  obtain ⟨W, hW⟩ : ∃ W, ((w.alloc (.cells #[.slice A.ra s.rows.length A.rc, .slice A.ha s.holds.length A.hc, .slice A.oa s.opn.length A.oc, .slice A.da s.done.length A.dc, .int .u64 (s.ver : Nat)] 28)).alloc (.cells #[.int .u64 (ta : Nat), .int .u64 (ti : Nat)] 30)).alloc (.cells #[.slice none 0 0, .slice none 0 0, .slice none 0 0, .slice none 0 0, .int .u64 0] 28) = W := ⟨_, rfl⟩
  obtain ⟨x, hx⟩ : ∃ x, w.heap.size = x := ⟨_, rfl⟩
  have hX : Below w.heap.size w W ∧ BS W x s A ∧ TxBox W (x + 1) ⟨ta, ti⟩ ∧ KB W (x + 1 + 1) sK := by
    subst hW hx
    refine ⟨by go_grown, ⟨((KB.new5 rfl _ _ _ _ _ _).later ((Below.refl _ _).alloc (Nat.le_refl _) _)).later ((Below.refl _ _).alloc (Nat.le_refl _) _), by simp [go_sem], by simp [go_sem], by simp [go_sem], by simp [go_sem], by simp [go_sem]⟩, ⟨by simp, by simp [go_sem], by simp [go_sem]⟩, KB.new5 (by simp) _ _ _ _ _ _⟩
  obtain ⟨hBW, hS, hT, hK⟩ := hX
  have hDR := pDrop_any s.holds.length A.hc A.ha s.holds ⟨ta, ti⟩ rfl hhl hsh ho W (hH.later hBW)
  obtain ⟨M, hM⟩ : ∃ M, (A.om.filter fun y => !decide (y.x.t = (⟨ta, ti⟩ : Tx))) = M := ⟨_, rfl⟩
  obtain ⟨L2, hL2⟩ : ∃ L, dropH ⟨ta, ti⟩ s.holds = L := ⟨_, rfl⟩
  rw [hL2] at hDR
  have HDR := Lib.hid hDR
  have hxW : x + 1 + 1 < W.heap.size := hK.lt
  have hne : NE A.oa x := fun q hq => by have := hlo q hq; omega
  have hne1 : NE A.oa (x + 1) := fun q hq => by have := hlo q hq; omega
  have hne2 : NE A.oa (x + 1 + 1) := fun q hq => by have := hlo q hq; omega
  have HDL := Lib.hid (fun w2 (h : w.grownBy w2 (A.oa.map fun q => q.block)) (hT2 : TxBox w2 (x + 1) ⟨ta, ti⟩) (hc2 : Cq 48 5 sopC B w2 (.slice A.oa s.opn.length A.oc) A.om) =>
    deleteO_any B 77 #[.pointer (some ⟨x + 1, 0, none⟩)] (fun y => decide (y.x.t = ⟨ta, ti⟩)) s.opn.length A.oc A.oa A.om hoo hol w2 (Nat.le_trans hB h.size) (rel1_run _) (fun y _ w' hb => rel1_any y _ ⟨ta, ti⟩ w' (by
      rcases hb with hb | hb
      · exact hT2.later hb
      · obtain ⟨g', hg', hgg⟩ := grown_to hb hne1
        exact hT2.grown hgg (Ne.symm hg'))) hc2)
  rw [hM] at HDL
  unfold RlP
  rw [hM, hL2]
  have HS := Lib.hid hS
  have HK := Lib.hid hK
  have HT := Lib.hid hT
  have HB := Lib.hid hBW
  have HC := Lib.hid (hC.later hBW)
  have HNE := Lib.hid (And.intro hne (And.intro hne1 hne2))
  have HLO := Lib.hid hlo
  have HW := Lib.hid hW
  have HX := Lib.hid hx
  have HXW := Lib.hid hxW
  obtain ⟨_, c0, c1, c2, c3, c4⟩ := hS
  obtain ⟨_, t0, t1⟩ := hT
  simp only at t0 t1
  clear hB ho hsh hhl hoo hH hC hlo hBW hK hDR hM hL2 hxW hne hne1 hne2 hW hx
  go_enter Try.func50, Try.ntmps50
  go_wp2_with fail
  rw [HW.out, HX.out]
  go_wp2_with fail
  refine HDR.out.mono ?_
  rintro e w1 ⟨v1, rfl, hc1, hb1⟩
  obtain ⟨ah, dh, rfl, hH1, hl1, hd1, hm1⟩ := hc1.form hoT
  have hs1 := HS.out.later hb1
  obtain ⟨w2, hw2⟩ : ∃ V, w1.setCell ⟨x, 1, none⟩ (.slice ah L2.length dh) = V := ⟨_, rfl⟩
  have hg2 : w1.grownBy w2 (some x) := hw2 ▸ sc_one _ _ _ _
  have hG1 : w.grownBy w1 (A.oa.map fun q => q.block) := ⟨(HB.out.trans (hb1.mono HB.out.size)).os, (HB.out.trans (hb1.mono HB.out.size)).tape, (HB.out.trans (hb1.mono HB.out.size)).output, (HB.out.trans (hb1.mono HB.out.size)).size, fun k hk _ => (HB.out.trans (hb1.mono HB.out.size)).block k hk⟩
  have hG2 : w.grownBy w2 (A.oa.map fun q => q.block) := grown_new hG1 (by have := HX.out; omega) hg2
  have hT2 : TxBox w2 (x + 1) ⟨ta, ti⟩ := (HT.out.later hb1).grown hg2 (by omega)
  have hC2 : Cq 48 5 sopC B w2 (.slice A.oa s.opn.length A.oc) A.om := (HC.out.later hb1).grownT sopT hg2 (fun n c e => by injection e with e _ _; exact HNE.out.1 _ e rfl)
  have hH2 : Hos w2 ah L2 := rw_grown hH1 hg2 (Rw.notin hH1 hs1.kb fits_s.ho)
  have hbs2 : BS w2 x ⟨s.rows, L2, s.opn, s.done, s.ver⟩ ⟨A.ra, A.rc, ah, dh, A.oa, A.oc, A.om, A.da, A.dc⟩ := by
    obtain ⟨k0, e0, e1, e2, e3, e4⟩ := hs1
    rw [← hw2]
    exact ⟨k0.set rfl, by simp [go_sem, e0], by simp [go_sem, e1], by simp [go_sem, e2], by simp [go_sem, e3], by simp [go_sem, e4]⟩
  have HD2 := Lib.hid (HDL.out w2 hG2 hT2 hC2)
  have HK2 := Lib.hid ((HK.out.later hb1).grownK hg2 (by omega))
  have HBS2 := Lib.hid hbs2
  have HH2 := Lib.hid hH2
  have HG2 := Lib.hid hG2
  have HHL := Lib.hid (And.intro hl1 (And.intro hd1 hm1))
  have HW2 := Lib.hid hw2
  have HZ2 := Lib.hid (show x + 1 + 1 < w2.heap.size from HK2.out.lt)
  obtain ⟨k0, d0, d1, d2, d3, d4⟩ := hs1
  have f1 := k0.fz
  clear c0 c1 c2 c3 c4 t0 t1 hc1 hH1 hl1 hd1 hm1 hb1 hw2 hg2 hG1 hG2 hT2 hC2 hH2 hbs2 HDR k0
  go_wp2_with fail
  rw [HW2.out]
  clear d0 d1 d2 d3 d4 f1
  refine HD2.out.mono ?_
  rintro e w3 ⟨rfl, hc3, hg3⟩
  obtain ⟨g, hgx, hgg⟩ : ∃ g, (g ≠ x ∧ g ≠ x + 1 + 1 ∧ ((0 < L2.length → ∀ q, ah = some q → q.block ≠ g))) ∧ w2.grownBy w3 (some g) := by
    cases ho : A.oa with
    | none =>
      rw [ho] at hg3
      exact ⟨w2.heap.size, ⟨by have := HZ2.out; omega, by have := HZ2.out; omega, fun h0 q hq e => by have := rw_lt HH2.out h0 q hq; omega⟩, grown_none hg3 _⟩
    | some q =>
      rw [ho] at hg3
      have hq := HLO.out q ho
      exact ⟨q.block, ⟨by have := HX.out; omega, by have := HX.out; omega, fun h0 q2 hq2 e => by have h1 := HHL.out.1 h0 q2 hq2; have := HXW.out; have := HX.out; omega⟩, hg3⟩
  have hbs3 := HBS2.out.grown hgg (Ne.symm hgx.1)
  have hK3 := HK2.out.grownK hgg (Ne.symm hgx.2.1)
  have hH3 : Hos w3 ah L2 := rw_grown HH2.out hgg hgx.2.2
  obtain ⟨w4, hw4⟩ : ∃ V, w3.setCell ⟨x, 2, none⟩ (.slice A.oa M.length A.oc) = V := ⟨_, rfl⟩
  have hg4 : w3.grownBy w4 (some x) := hw4 ▸ sc_one _ _ _ _
  obtain ⟨k0, e0, e1, e2, e3, e4⟩ := hbs3
  simp only at e0 e1 e2 e3 e4
  have hc : w4.cell? ⟨x, 0, none⟩ = some (.slice A.ra s.rows.length A.rc) ∧ w4.cell? ⟨x, 1, none⟩ = some (.slice ah L2.length dh) ∧ w4.cell? ⟨x, 2, none⟩ = some (.slice A.oa M.length A.oc) ∧ w4.cell? ⟨x, 3, none⟩ = some (.slice A.da s.done.length A.dc) ∧ w4.cell? ⟨x, 4, none⟩ = some (.int .u64 (s.ver : Nat)) := by
    rw [← hw4]
    exact ⟨by simp [go_sem, e0], by simp [go_sem, e1], by simp [go_sem, e2], by simp [go_sem, e3], by simp [go_sem, e4]⟩
  have hK4 := hK3.grownK hg4 (by omega)
  have hH4 : Hos w4 ah L2 := rw_grown hH3 hg4 (Rw.notin hH3 k0 fits_s.ho)
  have hC4 : Cq 48 5 sopC B w4 (.slice A.oa M.length A.oc) M := hc3.grownT sopT hg4 (fun n c e => by injection e with e _ _; exact HNE.out.1 _ e rfl)
  have hG4 : w.grownBy w4 (A.oa.map fun q => q.block) := grown_new (grown_same HG2.out hg3) (by have := HX.out; omega) hg4
  have HFI := Lib.hid (fun (w5 : World) (hg5 : w4.grownBy w5 (some (x + 1 + 1))) => (show (Hos w5 ah L2 ∧ (0 < L2.length → ∀ q, ah = some q → w.heap.size ≤ q.block) ∧ L2.length ≤ dh ∧ dh ≤ maxLen) ∧ Cq 48 5 sopC B w5 (.slice A.oa M.length A.oc) M ∧ w.grownBy w5 (A.oa.map fun q => q.block) from
    ⟨⟨rw_grown hH4 hg5 (Rw.notin hH4 hK4 fits_s.ho), fun h0 q hq => Nat.le_trans HB.out.size (HHL.out.1 h0 q hq), HHL.out.2⟩, hC4.grownT sopT hg5 (fun n c e => by injection e with e _ _; exact HNE.out.2.2 _ e rfl), grown_new hG4 (by have := HX.out; omega) hg5⟩))
  have HW4 := Lib.hid hw4
  obtain ⟨u0, a0⟩ := hK4.so 0 (by decide)
  obtain ⟨u1, a1⟩ := hK4.so 1 (by decide)
  obtain ⟨u2, a2⟩ := hK4.so 2 (by decide)
  obtain ⟨u3, a3⟩ := hK4.so 3 (by decide)
  obtain ⟨u4, a4⟩ := hK4.so 4 (by decide)
  have f2 := hK4.fz
  have f0 := k0.fz
  obtain ⟨b0, b1, b2, b3, b4⟩ := hc
  have h01 : w3.cell? ⟨x, 2, none⟩ = some (.slice A.oa s.opn.length A.oc) := e2
  clear hc3 hg3 hgx hgg hK3 hH3 hw4 hg4 k0 e0 e1 e3 e4 hK4 hH4 hC4 hG4 h01
  go_upto_region 3 with (fail)
  rw [HW4.out]
  clear e2 f0
  go_wp2_with fail
  refine bodyPost_ret (v := .agg #[.slice A.ra s.rows.length A.rc, .slice ah L2.length dh, .slice A.oa M.length A.oc, .slice A.da s.done.length A.dc, .int .u64 (s.ver : Nat)]) (by simp [results, Try.results50, go_sem, a0, a1, a2, a3, a4]) rfl ?_
  exact ⟨ah, dh, rfl, HFI.out _ (set5s_grown _ _ _ _ _ _ _)⟩
/-- Why a transaction may not end so. -/
def mayF (s : Sh) (t : Tx) (cm : Bool) : Nat := match knoS t s.opn with
  | none => if cm then 7 else if 64 ≤ s.opn.length + s.done.length then 5 else 0
  | some x => if cm = true ∧ x.fm = false then 9 else 0
set_option maxRecDepth 100000 in
set_option maxHeartbeats 4000000 in
theorem mayFinish_any (s : Sh) (A : Sad) (t : Tx) (cm : Bool) (w : World) (hM : ShM w s A) (hol : s.opn.length ≤ 140737488351232) (hdl : s.done.length ≤ 140737488351232) :
    Calls Try.prog 48 #[shV s A, .int .i64 (ixI (kixS t 0 s.opn)), .bool cm] w fun e w' => e = .returned (.int .i64 (mayF s t cm : Nat)) ∧ Below w.heap.size w w' := by
  obtain ⟨W, hW⟩ : ∃ W, w.alloc (.cells #[.slice A.ra s.rows.length A.rc, .slice A.ha s.holds.length A.hc, .slice A.oa s.opn.length A.oc, .slice A.da s.done.length A.dc, .int .u64 (s.ver : Nat)] 28) = W := ⟨_, rfl⟩
  obtain ⟨x, hx⟩ : ∃ x, w.heap.size = x := ⟨_, rfl⟩
  have hX : Below w.heap.size w W ∧ BS W x s A := by
    subst hW hx
    exact ⟨by go_grown, ⟨KB.new5 rfl _ _ _ _ _ _, by simp [go_sem], by simp [go_sem], by simp [go_sem], by simp [go_sem], by simp [go_sem]⟩⟩
  obtain ⟨hB, hS⟩ := hX
  have HFU := Lib.hid (fun w' => full_any s A w' hol hdl)
  have HM := Lib.hid (hM.later hB)
  have HB := Lib.hid hB
  have HW := Lib.hid hW
  have HX := Lib.hid hx
  obtain ⟨r, hr⟩ : ∃ r, mayF s t cm = r := ⟨_, rfl⟩
  rw [hr]
  have HR := Lib.hid hr
  obtain ⟨_, c0, c1, c2, c3, c4⟩ := hS
  clear hM hB hW hx hr
  rcases kix_kno t s.opn 0 with ⟨h3, h4⟩ | ⟨j, sx, h3, h4, h5⟩
  · rw [h3]
    have gI : ixI none = -1 := rfl
    rw [gI]
    have HRE := Lib.hid (show r = if cm then 7 else if 64 ≤ s.opn.length + s.done.length then 5 else 0 from by rw [← HR.out, mayF, h4])
    clear gI h3 h4
    cases cm
    · go_enter Try.func48, Try.ntmps48
      go_wp2_with fail
      rw [HW.out]
      refine (HFU.out W).mono ?_
      rintro e w1 ⟨rfl, hb1⟩
      have HB1 := Lib.hid (HB.out.trans (hb1.mono HB.out.size))
      clear hb1
      by_cases h64 : 64 ≤ s.opn.length + s.done.length
      · rw [decide_eq_true h64]
        obtain rfl : r = 5 := by rw [HRE.out]; simp [h64]
        clear h64
        go_wp2_with fail
        go_ret
        exact ⟨by first | rfl | simp, HB1.out⟩
      · rw [decide_eq_false h64]
        obtain rfl : r = 0 := by rw [HRE.out]; simp [h64]
        clear h64
        go_wp2_with fail
        go_ret
        exact ⟨by first | rfl | simp, HB1.out⟩
    · obtain rfl : r = 7 := by rw [HRE.out]; rfl
      go_enter Try.func48, Try.ntmps48
      go_wp2_with fail
      try rw [HW.out]
      go_wp2_with fail
      go_ret
      exact ⟨by first | rfl | simp, HB.out⟩
  · rw [h3, Nat.zero_add]
    have HRE := Lib.hid (show r = if cm = true ∧ sx.fm = false then 9 else 0 from by rw [← HR.out, mayF, h5])
    have hjl := (List.getElem?_eq_some_iff.1 h4).1
    obtain ⟨y, hy⟩ : ∃ y, A.om[j]? = some y := ⟨_, List.getElem?_eq_getElem (by rw [HM.out.olen]; exact hjl)⟩
    have hyx : y.x = sx := by
      have h6 : s.opn[j]? = some y.x := by rw [← HM.out.om, List.getElem?_map, hy]; rfl
      rw [h4] at h6
      exact (Option.some.inj h6).symm
    obtain ⟨b, off, e, _, p0, p1, p2, p3, p4⟩ := Sop.cells HM.out.opn hy
    rw [hyx] at p2
    obtain ⟨oo, hoo⟩ : ∃ q, A.oa = q := ⟨_, rfl⟩
    have HOO := Lib.hid hoo
    rw [show shV s A = .agg #[.slice A.ra s.rows.length A.rc, .slice A.ha s.holds.length A.hc, .slice A.oa s.opn.length A.oc, .slice A.da s.done.length A.dc, .int .u64 (s.ver : Nat)] from rfl, hoo]
    rw [hoo] at e c2
    have HWW := Lib.hid (show w.alloc (.cells #[.slice A.ra s.rows.length A.rc, .slice A.ha s.holds.length A.hc, .slice oo s.opn.length A.oc, .slice A.da s.done.length A.dc, .int .u64 (s.ver : Nat)] 28) = W from by rw [← hoo]; exact HW.out)
    subst e
    have i0 : (0 : Int) ≤ (j : Int) := by omega
    have i1 : (j : Int) < (s.opn.length : Int) := by omega
    have i2 : ¬ (j : Int) < 0 := by omega
    have i3 : (j : Int) ≥ 0 := by omega
    have gI : ixI (some j) = (j : Int) := rfl
    rw [gI]
    clear gI h3 h4 h5 hy hyx p0 p1 p3 p4 hoo hjl
    obtain ⟨xt, xf, xw, xp⟩ := sx
    simp only at p2 HRE
    cases cm
    · obtain rfl : r = 0 := by rw [HRE.out]; simp
      go_enter Try.func48, Try.ntmps48
      go_wp2_with fail
      try rw [HWW.out]
      go_wp2_with fail
      go_ret
      exact ⟨by first | rfl | simp, HB.out⟩
    · cases xf
      · obtain rfl : r = 9 := by rw [HRE.out]; simp
        go_enter Try.func48, Try.ntmps48
        go_upto_region 5 with (fail)
        try rw [HWW.out]
        try rw [HX.out]
        go_wp2_with fail
        go_ret
        exact ⟨by first | rfl | simp, by first | exact HB.out | (have := HB.out; rw [HX.out] at this; exact this)⟩
      · obtain rfl : r = 0 := by rw [HRE.out]; simp
        go_enter Try.func48, Try.ntmps48
        go_upto_region 5 with (fail)
        try rw [HWW.out]
        try rw [HX.out]
        go_wp2_with fail
        go_ret
        exact ⟨by first | rfl | simp, by first | exact HB.out | (have := HB.out; rw [HX.out] at this; exact this)⟩
end Go.Proofs.Ythgnecggdlamfaa
