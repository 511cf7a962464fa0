/- setOf; slices.Clone, slices.DeleteFunc of locks; without, Drop: the program's. -/
import Derived.Test.YthgnecggdlamfaaNd
import Derived.Test.YthgnecggdlamfaaTc
import Derived.Test.YthgnecggdlamfaaHe
namespace Go.Proofs.Ythgnecggdlamfaa
open Go.RowKit Go.Maps

theorem amT_snoc (t x : Tx) : ∀ F, amT t (F ++ [x]) = (amT t F || decide (x = t))
  | [] => by simp [amT]
  | z :: r => by simp only [List.cons_append, amT, amT_snoc t x r, Bool.or_assoc]
theorem amT_take {F : List Tx} {k : Nat} {x : Tx} (hx : F[k]? = some x) (t : Tx) : amT t (F.take (k + 1)) = (amT t (F.take k) || decide (x = t)) := by
  rw [List.take_add_one, hx]; exact amT_snoc t x _
/-- What setOf answers. -/
def SoP (w : World) (F : List Tx) (e : Ending) (w' : World) : Prop := ∃ b n D, e = .returned (.map (some b)) ∧ w.heap.size ≤ b ∧ n ≤ F.length ∧ SX w' b n D ∧ HX D (fun t => amT t F) ∧ Below w.heap.size w w'
set_option maxRecDepth 100000 in
set_option maxHeartbeats 4000000 in
theorem setOf_any (n c : Nat) (a : Option Addr) (F : List Tx) (hn : F.length = n) (hl : n * 16 ≤ 140737488351232) (ho : ∀ x ∈ F, okX x) (w : World) (hM : Txs w a F) :
    Calls Try.prog 80 #[.slice a n c] w (SoP w F) := by
  have hmm := @run_makeMap Try.prog
  have HN := Lib.hid hn
  have HM := Lib.hid hM
  have HO := Lib.hid ho
  clear hn hM ho
  go_enter Try.func80, Try.ntmps80
  go_wp2_with fail
  have HM0 := Lib.hid (show SX (w.alloc (.map #[] 0)) w.heap.size 0 (.map []) from World.ownsMap_made (H := Unit) w Try.prog 30 unitElem)
  have HA := Lib.hid (show Below w.heap.size w (w.alloc (.map #[] 0)) from (Below.refl w.heap.size w).alloc (Nat.le_refl _) (.map #[] 0))
  clear hmm
  generalize w.alloc (.map #[] 0) = W0 at *
  go_loopw [9] (fun i wr => ∃ (k m : Nat) (D : DataW Unit), k ≤ n ∧ i = .int .i64 k ∧ m ≤ k ∧ SX wr w.heap.size m D ∧ HX D (fun t => amT t (F.take k)) ∧ Below w.heap.size w wr) (fun i _ => n - (intOf i).toNat)
  case atStart => exact ⟨0, 0, _, Nat.zero_le _, rfl, Nat.le_refl _, HM0.out, fun x _ => rfl, HA.out⟩
  case round =>
    obtain ⟨k, m, D, hk, rfl, hmk, hown, hD, hB⟩ := hrel
    have HD := Lib.hid hD
    have HW := Lib.hid hown
    have HB := Lib.hid hB
    clear hD hown hB
    by_cases hlt : k < n
    · obtain ⟨x, hx⟩ : ∃ x, F[k]? = some x := ⟨_, List.getElem?_eq_getElem (by rw [HN.out]; exact hlt)⟩
      have i0 : (0 : Int) ≤ (k : Int) := by omega
      have i1 : (k : Int) < (n : Int) := by omega
      have hxo := HO.out x (List.mem_of_getElem? hx)
      have HTK := Lib.hid (fun t => amT_take hx t)
      obtain ⟨b', off, rfl, hb, p0, p1⟩ := Txs.cells (HM.out.later HB.out) hx
      clear hx
      obtain ⟨W1, hW1⟩ : ∃ W1, wr.alloc (.cells #[.int .u64 (x.age : Nat), .int .u64 (x.id : Nat)] 30) = W1 := ⟨_, rfl⟩
      obtain ⟨x5, hx5⟩ : ∃ x5, wr.heap.size = x5 := ⟨_, rfl⟩
      obtain ⟨BV, hV⟩ := txbox hW1
      rw [hx5] at hV
      have HBV := Lib.hid (HB.out.trans (BV.mono HB.out.size))
      have HOV := Lib.hid (SX_later HW.out BV)
      obtain ⟨_, v0, v1⟩ := hV
      simp only at v0 v1
      clear BV
      have HAD := Lib.hid (addX_any w.heap.size m x D _ hxo (by omega) W1 HOV.out HD.out)
      have hlt0 : w.heap.size < W1.heap.size := HOV.out.lt
      go_wp2_with fail
      refine HAD.out.mono ?_
      rintro e w2 ⟨D2, rfl, ⟨m2, hm2, hO2⟩, hD2, hg2⟩
      have HB2 := Lib.hid (HBV.out.trans (below_of (Nat.le_refl _) (Nat.le_of_lt hlt0) hg2))
      have HO2 := Lib.hid hO2
      have HD2 := Lib.hid (show HX D2 (fun t => amT t (F.take (k + 1))) from fun t ht => (hD2 t ht).trans (HTK.out t).symm)
      clear hO2 hD2 hg2 p0 p1 v0 v1
      go_wp2_with fail
      go_roundw
      case rel => exact ⟨k + 1, m2, D2, by omega, by go_num, by omega, HO2.out, HD2.out, HB2.out⟩
      case measure => simp [intOf]; omega
    · have i1 : ¬ (k : Int) < (n : Int) := by omega
      have e : F.take k = F := List.take_of_length_le (by rw [HN.out]; omega)
      have HD2 := Lib.hid (show HX D (fun t => amT t F) from fun t ht => (HD.out t ht).trans (by simp only [e]))
      clear e
      go_wp2_with fail
      go_ret
      exact ⟨w.heap.size, m, D, rfl, Nat.le_refl _, by rw [HN.out]; omega, HW.out, HD2.out, HB.out⟩
set_option maxHeartbeats 1000000 in
/-- slices.Clone. -/
theorem cloneH_any (n c : Nat) (a : Option Addr) (L : List Ho) (hn : L.length = n) (hl : n * 40 ≤ 140737488355328) (w : World) (hM : Hos w a L) :
    Calls Try.prog 35 #[.slice a n c] w (ClP 75 4 hoC w L) := by
  cases a with
  | none =>
    have hL : L = [] := by
      cases L with
      | nil => rfl
      | cons x r => obtain ⟨b, off, e, _⟩ := hM.addr (by simp); cases e
    subst hL
    clear hl hn hM
    have q22 : ∀ (w : World) (a : Option Addr) (n c n' c' : Nat), (binOp .eql 23 (.slice a n c) (.slice none n' c')).run Try.prog w = .ok (.bool a.isNone) w := fun w a n c n' c' => Lib.run_eql_slice_nil w _ _ a n c n' c' Try.underlying23
    go_enter Try.func35, Try.ntmps35
    go_wp2_with fail
    go_ret
    exact ⟨_, rfl, Cq.nil _ _ none, Below.refl _ _⟩
  | some p =>
    have B0 : Below w.heap.size w (w.alloc (.cells #[] 75)) := (Below.refl _ _).alloc (Nat.le_refl _) _
    obtain ⟨v', w', hr, hc, hb⟩ := app_rw hoT w.heap.size (w.alloc (.cells #[] 75)) 23 (.slice (some ⟨w.heap.size, 0, none⟩) 0 0) [] (Cq.nil _ _ _) (some p) n c L hn (hM.later B0) (by simpa using hl) (by simp)
    have HR := Lib.hid hr
    have HC := Lib.hid (And.intro hc (B0.trans hb))
    clear hr hc hb hM hn B0 hl
    have q22 : ∀ (w : World) (a : Option Addr) (n c n' c' : Nat), (binOp .eql 23 (.slice a n c) (.slice none n' c')).run Try.prog w = .ok (.bool a.isNone) w := fun w a n c n' c' => Lib.run_eql_slice_nil w _ _ a n c n' c' Try.underlying23
    go_enter Try.func35, Try.ntmps35
    go_wp2_with (at_builtin; refine Lib.wpList_append_run _ rfl _ _ 23 23 rfl (.slice (some ⟨w.heap.size, 0, none⟩) 0 0) (.slice (some p) n c) rfl rfl _ _ HR.out ?_)
    go_wp2_with fail
    go_ret
    exact ⟨_, rfl, HC.out.1, HC.out.2⟩
theorem zeroHo (w : World) : (zeroValue 75).run Try.prog w = .ok (.agg #[.string ⟨#[]⟩, .int .u64 0, .int .u64 0, .bool false]) w := Try.zeroValue75 w
/-- Locks at the head of a block. -/
abbrev HdH (w : World) (g n : Nat) (C : List Ho) : Prop := Hd 75 4 hoC w g n C
theorem HdH.cells {w : World} {g n : Nat} {C : List Ho} (h : HdH w g n C) {j : Nat} {x : Ho} (hx : C[j]? = some x) : w.cell? ⟨g, j * 4, none⟩ = some (.string x.key) ∧ w.cell? ⟨g, j * 4 + 1, none⟩ = some (.int .u64 (x.t.age : Nat)) ∧ w.cell? ⟨g, j * 4 + 2, none⟩ = some (.int .u64 (x.t.id : Nat)) ∧ w.cell? ⟨g, j * 4 + 3, none⟩ = some (.bool x.wr) :=
  ⟨h.c j x hx 0 _ rfl, h.c j x hx 1 _ rfl, h.c j x hx 2 _ rfl, h.c j x hx 3 _ rfl⟩
/-- A row of locks of the call's own. -/
def OwH (B : Nat) (w : World) (M : List Ho) (e : Ending) (w' : World) : Prop := ∃ v, e = .returned v ∧ CqH B w' v M ∧ Below B w w'
/-- What a closure answers while blocks from B on may change. -/
def ClB (B fn : Nat) (caps : Array Value) (f : Ho → Bool) (w : World) : Prop := ∀ (x : Ho) (w' : World), okA x.key x.t → Below B w w' → Calls Try.prog fn (#[hoV x] ++ caps) w' fun e w2 => e = .returned (.bool (f x)) ∧ Below w'.heap.size w' w2
set_option maxRecDepth 100000 in
set_option maxHeartbeats 4000000 in
theorem deleteH_any (B fn : Nat) (caps : Array Value) (f : Ho → Bool) (n c : Nat) (a : Option Addr) (L : List Ho) (hn : L.length = n) (hl : n ≤ 140737488351232) (hs : smallH L) (w : World) (hB : B ≤ w.heap.size) (hR : ∀ (x : Ho) (w : World), (callFunc fn (#[.agg #[.string x.key, .int .u64 (x.t.age : Nat), .int .u64 (x.t.id : Nat), .bool x.wr]] ++ caps)).run Try.prog w = .ok (.enter fn (#[.agg #[.string x.key, .int .u64 (x.t.age : Nat), .int .u64 (x.t.id : Nat), .bool x.wr]] ++ caps)) w) (H : ClB B fn caps f w) (hC : CqH B w (.slice a n c) L) :
    Calls Try.prog 84 #[.slice a n c, .func (.func fn) #[] caps] w (OwH B w (L.filter fun x => !f x)) := by
  obtain ⟨kp, hkp⟩ : ∃ kp : Ho → Bool, (fun x : Ho => !f x) = kp := ⟨_, rfl⟩
  have hkp2 : ∀ x : Ho, f x = !kp x := fun x => by rw [← hkp]; simp
  rw [hkp]
  have HKP := Lib.hid hkp2
  obtain ⟨a0, c0, e0, hM, hfa, hlc, hmx⟩ := hC.form hoT
  injection e0 with ea en ec
  subst ea ec
  have HF := Lib.hid (show ∀ w', Below w.heap.size w w' → L.filter kp = L → OwH B w (L.filter kp) (.returned (.slice a n c)) w' from fun w' hb e => by rw [e]; exact ⟨_, rfl, hC.later hb, hb.mono hB⟩)
  have HR := Lib.hid (show 0 < n → ∃ g, a = some ⟨g, 0, none⟩ ∧ B ≤ g ∧ HdH w g c L from fun h0 => by
    obtain ⟨g, c', e, h1, _, _, h3⟩ := Hd.of hoT hC (by rw [hn]; exact h0)
    injection e with ea en ec
    subst ea ec
    exact ⟨g, rfl, h1, h3⟩)
  have HI := Lib.hid (index_any fn caps f n c a L hn hl hs w hR (fun x w' ho hb => H x w' ho (hb.mono hB)) hM)
  have HN := Lib.hid hn
  have HS := Lib.hid hs
  have HC := Lib.hid H
  have hnc : n ≤ c := by omega
  have HMX := Lib.hid hmx
  clear hn hM H hC hfa en hkp hkp2 hlc hmx hs
  go_enter Try.func84, Try.ntmps84
  go_wp2_with fail
  refine HI.out.mono ?_
  rintro e w1 ⟨⟨k, rfl, hk⟩, hb⟩
  rcases hk with ⟨rfl, hall⟩ | ⟨j0, x0, rfl, hx0, hg0, hlt0⟩
  · have HE := HF.out w1 hb (List.filter_eq_self.2 fun x hx => by have h1 := hall x hx; rw [HKP.out x] at h1; simpa using h1)
    have HE := Lib.hid HE
    clear hb hall hR
    go_wp2_with fail
    go_ret
    exact HE.out
  · have hg0 : kp x0 = false := by rw [HKP.out x0] at hg0; simpa using hg0
    have hlt0 : ∀ i, i < j0 → ∀ y : Ho, L[i]? = some y → kp y = true := fun i hi y hy => by have h1 := hlt0 i hi y hy; rw [HKP.out y] at h1; simpa using h1
    have hj0 := (List.getElem?_eq_some_iff.1 hx0).1
    obtain ⟨g, rfl, hBg, hRg⟩ := HR.out (by have := HN.out; omega)
    have HK0 := Lib.hid (Ks.start hx0 hg0 hlt0)
    have HR1 := Lib.hid (hRg.later hb)
    have HB1 := Lib.hid (hb.mono hB)
    have hj0n : j0 < n := by have := HN.out; omega
    have i0 : ¬ (j0 : Int) = -1 := by omega
    have i0' : ((j0 : Int) == -1) = false := by first | (simp; done) | (simp; omega)
    clear hb hRg hx0 hg0 hlt0 hj0
    go_wp2_with fail
    go_loopw [5, 6] (fun u v wr => ∃ (i j : Nat) (C : List Ho), u = .int .i64 i ∧ v = .int .i64 j ∧ Ks kp L C i j ∧ HdH wr g c C ∧ Below B w wr) (fun _ v _ => n - (intOf v).toNat)
    case atStart => exact ⟨j0, j0 + 1, L, rfl, by go_num, HK0.out, HR1.out, HB1.out⟩
    case round =>
      obtain ⟨i, j, C, rfl, rfl, hks, hr, hb⟩ := hrel
      have hij := hks.lt
      have hjn : j ≤ n := by have := hks.le; have := HN.out; omega
      have HKS := Lib.hid hks
      have HRR := Lib.hid hr
      have HBB := Lib.hid hb
      clear hks hr hb
      by_cases hlt : j < n
      · obtain ⟨x, hx⟩ : ∃ x, L[j]? = some x := ⟨_, List.getElem?_eq_getElem (by rw [HN.out]; exact hlt)⟩
        obtain ⟨p0, p1, p2, p3⟩ := HRR.out.cells ((HKS.out.tl j (Nat.le_refl _)).trans hx)
        have HX := Lib.hid hx
        have hxo := HS.out x (List.mem_of_getElem? hx)
        have i2 : (0 : Int) ≤ (j : Int) := by omega
        have i3 : (j : Int) < (n : Int) := by omega
        have i4 : (0 : Int) ≤ (i : Int) := by omega
        have i5 : (i : Int) < (n : Int) := by omega
        clear hx
        obtain ⟨W1, hW1⟩ : ∃ W1, wr.alloc (.cells #[.string x.key, .int .u64 (x.t.age : Nat), .int .u64 (x.t.id : Nat), .bool x.wr] 75) = W1 := ⟨_, rfl⟩
        obtain ⟨x7, hx7⟩ : ∃ x7, wr.heap.size = x7 := ⟨_, rfl⟩
        have BV : Below wr.heap.size wr W1 := hW1 ▸ (Below.refl _ _).alloc (Nat.le_refl _) _
        have hV : x7 < W1.heap.size ∧ W1.cell? ⟨x7, 0, none⟩ = some (.string x.key) ∧ W1.cell? ⟨x7, 1, none⟩ = some (.int .u64 (x.t.age : Nat)) ∧ W1.cell? ⟨x7, 2, none⟩ = some (.int .u64 (x.t.id : Nat)) ∧ W1.cell? ⟨x7, 3, none⟩ = some (.bool x.wr) := by
          rw [← hW1, ← hx7]; exact ⟨by simp, by simp [go_sem], by simp [go_sem], by simp [go_sem], by simp [go_sem]⟩
        obtain ⟨hv, v0, v1, v2, v3⟩ := hV
        have HBV := Lib.hid (HBB.out.trans (BV.mono (Nat.le_trans hB HBB.out.size)))
        have HRV := Lib.hid (HRR.out.later BV)
        clear BV
        go_wp2_with fail
        refine (HC.out x _ hxo HBV.out).mono ?_
        rintro e w2 ⟨rfl, hb2⟩
        rw [HKP.out x]
        have HB2 := Lib.hid (HBV.out.trans (hb2.mono (Nat.le_trans hB HBV.out.size)))
        have HR2 := Lib.hid (HRV.out.later hb2)
        have d := fun i v (e : W1.cell? ⟨x7, i, none⟩ = some v) => (hb2.cell (p := ⟨x7, i, none⟩) hv).trans e
        have u0 := d _ _ v0
        have u1 := d _ _ v1
        have u2 := d _ _ v2
        have u3 := d _ _ v3
        clear hb2 p0 p1 p2 p3 v0 v1 v2 v3 d hv
        by_cases he : kp x = false
        · rw [he]
          have HT := Lib.hid (HKS.out.skip HX.out he)
          clear he
          go_wp2_with fail
          go_roundw
          case rel => exact ⟨i, j + 1, C, rfl, by go_num, HT.out, HR2.out, HB2.out⟩
          case measure => simp [intOf]; omega
        · have he : kp x = true := by simpa using he
          rw [he]
          have HT := Lib.hid (HKS.out.keep HX.out he)
          clear he
          have hiC : i < C.length := by have := HKS.out.len; have := HN.out; omega
          obtain ⟨q0, q1, q2, q3⟩ := HdH.cells HR2.out (List.getElem?_eq_getElem hiC)
          have z0 := HR2.out.fz (i * 4)
          have z1 := HR2.out.fz (i * 4 + 1)
          have z2 := HR2.out.fz (i * 4 + 2)
          have z3 := HR2.out.fz (i * 4 + 3)
          have HP := Lib.hid (HR2.out.put hoT hiC x)
          have HB3 := Lib.hid (HB2.out.grown (sc_grown (hoC x) (i * 4) w2) (Nat.le_trans hB HB2.out.size) (fun k e => by cases e; exact hBg))
          generalize C[i].key = o0 at q0
          generalize C[i].t.age = o1 at q1
          generalize C[i].t.id = o2 at q2
          generalize C[i].wr = o3 at q3
          go_wp2_with fail
          go_roundw
          case rel => exact ⟨i + 1, j + 1, C.set i x, by go_num, by go_num, HT.out, HP.out, HB3.out⟩
          case measure => simp [intOf]; omega
      · have hjn' : j = n := by omega
        subst hjn'
        have hin : i ≤ j := by omega
        have hCl : C.length = j := by have := HKS.out.len; have := HN.out; omega
        have HD := Lib.hid (HKS.out.done HN.out.symm)
        obtain ⟨w3, hcl, hg3, hk3⟩ := clearH hoT (by decide) zeroHo HRR.out (i := i) (m := j - i) (c := c - i) (by omega)
        have hlen : (C.take i).length = i := by rw [List.length_take]; omega
        have HE := Lib.hid (show OwH B w (L.filter kp) (.returned (.slice (some ⟨g, 0, none⟩) i c)) w3 from by
          have h5 := hk3.cq hoT hBg HMX.out
          rw [hlen] at h5
          rw [HD.out] at h5
          exact ⟨_, rfl, h5, HBB.out.grown hg3 (Nat.le_trans hB HBB.out.size) (fun k e => by cases e; exact hBg)⟩)
        have i2 : ¬ (j : Int) < (j : Int) := by omega
        have i4 : (0 : Int) ≤ (i : Int) := by omega
        have i5 : (i : Int) ≤ (j : Int) := by omega
        have i6 : (j : Int) ≤ (c : Int) := by omega
        have i7 : (i : Int) ≤ (c : Int) := by omega
        clear hg3 hk3 hCl hlen hR
        go_wp2_with fail
        go_ret
        exact HE.out
end Go.Proofs.Ythgnecggdlamfaa
