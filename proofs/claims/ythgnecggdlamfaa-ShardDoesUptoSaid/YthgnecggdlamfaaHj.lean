/- A list with a row: the program's with. -/
import Derived.Test.YthgnecggdlamfaaHi
import Derived.Deep.RegionWith
namespace Go.Proofs.Ythgnecggdlamfaa
open Go.RowKit Go.Lib

/-- slices.Insert of one row, whatever room there is. -/
theorem insAnyR (B n c p vb : Nat) (y : Ro) (a : Option Addr) (L : List Ro) (w1 : World) (hB : B ≤ w1.heap.size) (h : CqR B w1 (.slice a n c) L) (hn : L.length = n) (hp : p ≤ n) (hl : (n + 1) * 40 ≤ 140737488355328) (hV : HdR w1 vb 1 [y]) (hne : 0 < n → ∀ q, a = some q → q.block ≠ vb) :
    Calls Try.prog 105 #[.slice a n c, .int .i64 p, .slice (some ⟨vb, 0, none⟩) 1 1] w1 (DrP B w1 (L.take p ++ [y] ++ L.drop p)) := by
  obtain ⟨a', c', e, hU, _, hcap, hmax⟩ := h.form roT
  have e1 := e
  injection e1 with ea en ec
  subst ea ec
  rw [hn] at hcap
  by_cases hpn : p = n
  · subst hpn
    rw [List.take_of_length_le (by omega), List.drop_eq_nil_of_le (by omega), List.append_nil]
    exact insEndR B p 1 1 _ (some ⟨vb, 0, none⟩) L [y] _ a c rfl hn hcap (maxLen63 hmax) rfl (by omega) hl hB h hV.row
  · obtain ⟨g, c2, e2, hg, _, _, hR⟩ := Hd.of roT h (by omega)
    injection e2 with ea en ec
    subst ea ec
    by_cases hroom : n + 1 ≤ c
    · exact insRoomR B g n c p 1 vb 1 L [y] w1 hR hg hmax hn (by omega) rfl (by omega) hroom hl hV (fun e => hne (by omega) _ rfl e.symm)
    · exact insGrowR B g n c p 1 vb 1 L [y] w1 hR hB hn (by omega) rfl (by omega) (by omega) hl hV
theorem hd_new (w : World) (y : Ro) : HdR (w.alloc (.cells #[.string y.key, .string y.val, .int .u64 (y.ver : Nat)] 50)) w.heap.size 1 [y] := by
  have hh : (w.alloc (.cells #[.string y.key, .string y.val, .int .u64 (y.ver : Nat)] 50)).heap[w.heap.size]? = some (.cells #[.string y.key, .string y.val, .int .u64 (y.ver : Nat)] 50 (0, 0)) := heap_alloc_new w _
  refine ⟨fun j x hx i u hu => ?_, Nat.le_refl _, by simp, ⟨_, hh, rfl⟩⟩
  have hj := (List.getElem?_eq_some_iff.1 hx).1
  have h0 : j = 0 := by simpa using hj
  subst h0
  obtain rfl : y = x := by simpa using hx
  rw [cell_of_row _ _ _ _ _ _ hh, Nat.zero_mul, Nat.zero_add]
  simpa [roC] using hu
theorem insR_take (y : Ro) : ∀ (L : List Ro) (p : Nat), p ≤ L.length → (∀ j x, j < p → L[j]? = some x → lessB y.key x.key = false) → (∀ x, L[p]? = some x → lessB y.key x.key = true) → L.take p ++ [y] ++ L.drop p = insR y L
  | [], p, hp, _, _ => by
    obtain rfl : p = 0 := by simpa using hp
    rfl
  | z :: r, 0, _, _, h2 => by
    have := h2 z rfl
    simp [insR, this]
  | z :: r, p + 1, hp, h1, h2 => by
    have h0 := h1 0 z (by omega) rfl
    have ih := insR_take y r p (by simpa using hp) (fun j x hj hx => h1 (j + 1) x (by omega) (by simpa using hx)) (fun x hx => h2 x (by simpa using hx))
    rw [insR, h0, ← ih]; simp
theorem setR_at (y : Ro) : ∀ (L : List Ro) (j : Nat) (x : Ro), L[j]? = some x → x.key = y.key → (∀ i, i < j → ∀ z : Ro, L[i]? = some z → z.key ≠ y.key) → L.set j y = setR y L
  | [], j, x, h, _, _ => by simp at h
  | z :: r, 0, x, h, hx, _ => by obtain rfl : z = x := by simpa using h
                                 simp [setR, hx]
  | z :: r, j + 1, x, h, hx, hlt => by
    have hz : ¬ z.key = y.key := hlt 0 (by omega) z rfl
    rw [setR, if_neg hz, ← setR_at y r j x (by simpa using h) hx fun i hi z hz => hlt (i + 1) (by omega) z (by simpa using hz)]
    simp
/-- The row is laid behind the clone; ahead of it. -/
theorem insA (B n d p : Nat) (yk yv : ByteArray) (yn : Nat) (a1 : Option Addr) (L : List Ro) (w4 : World) (hB : B ≤ w4.heap.size) (hc : CqR B w4 (.slice a1 n d) L) (hn : L.length = n) (hp : p ≤ n) (hl : (n + 1) * 40 ≤ 140737488355328) (hi : insR ⟨yk, yv, yn⟩ L = L.take p ++ [⟨yk, yv, yn⟩] ++ L.drop p) :
    Calls Try.prog 105 #[.slice a1 n d, .int .i64 p, .slice (some ⟨w4.heap.size, 0, none⟩) 1 1] (w4.alloc (.cells #[.string yk, .string yv, .int .u64 (yn : Nat)] 50)) (DrP B w4 (insR ⟨yk, yv, yn⟩ L)) := by
  have hb : Below w4.heap.size w4 (w4.alloc (.cells #[.string yk, .string yv, .int .u64 (yn : Nat)] 50)) := (Below.refl _ _).alloc (Nat.le_refl _) _
  obtain ⟨a', c', e, hU, _⟩ := hc.form roT
  injection e with ea en ec
  subst ea
  refine (insAnyR B n d p w4.heap.size ⟨yk, yv, yn⟩ a1 L _ (Nat.le_trans hB hb.size) (hc.later hb) hn hp hl (hd_new w4 ⟨yk, yv, yn⟩) (fun h0 q e => ?_)).mono ?_
  · obtain ⟨b, off, e2, hlt⟩ := hU.addr (by omega)
    rw [e2] at e; cases e
    exact Nat.ne_of_lt hlt
  · rintro e w5 ⟨a3, c3, rfl, h1, h2, h3, h4, h5⟩
    rw [← hi] at *
    exact ⟨a3, c3, rfl, h1, h2, h3, h4, (hb.mono hB).trans h5⟩
theorem insB (B n d p x0 : Nat) (yk yv : ByteArray) (yn : Nat) (a1 : Option Addr) (L : List Ro) (w0 w4 : World) (hx : w0.heap.size = x0) (hB : B ≤ w0.heap.size) (hc : CqR (w0.alloc (.cells #[.string yk, .string yv, .int .u64 (yn : Nat)] 50)).drew.heap.size w4 (.slice a1 n d) L)
    (hb : Below (w0.alloc (.cells #[.string yk, .string yv, .int .u64 (yn : Nat)] 50)).drew.heap.size (w0.alloc (.cells #[.string yk, .string yv, .int .u64 (yn : Nat)] 50)).drew w4) (hn : L.length = n) (hp : p ≤ n) (hl : (n + 1) * 40 ≤ 140737488355328) (hi : insR ⟨yk, yv, yn⟩ L = L.take p ++ [⟨yk, yv, yn⟩] ++ L.drop p) :
    Calls Try.prog 105 #[.slice a1 n d, .int .i64 p, .slice (some ⟨x0, 0, none⟩) 1 1] w4 (DrP B w4 (insR ⟨yk, yv, yn⟩ L)) := by
  subst hx
  have hs : w0.heap.size < (w0.alloc (.cells #[.string yk, .string yv, .int .u64 (yn : Nat)] 50)).heap.size := by simp
  have hs2 : (w0.alloc (.cells #[.string yk, .string yv, .int .u64 (yn : Nat)] 50)).heap.size ≤ w4.heap.size := hb.size
  obtain ⟨a', c', e, _, hf, _⟩ := hc.form roT
  injection e with ea en ec
  subst ea
  refine (insAnyR B n d p w0.heap.size ⟨yk, yv, yn⟩ a1 L w4 (by omega) (hc.mono (show B ≤ (w0.alloc (.cells #[.string yk, .string yv, .int .u64 (yn : Nat)] 50)).heap.size by omega)) hn hp hl (((hd_new w0 ⟨yk, yv, yn⟩).later (Below.refl _ _).drew).later hb) (fun h0 q e => ?_)).mono ?_
  · have h9 : (w0.alloc (.cells #[.string yk, .string yv, .int .u64 (yn : Nat)] 50)).heap.size ≤ q.block := hf (by omega) q e
    omega
  · rintro e w5 ⟨a3, c3, rfl, h1, h2, h3, h4, h5⟩
    rw [← hi] at *
    exact ⟨a3, c3, rfl, h1, h2, h3, h4, h5⟩
/-- What with answers. -/
def withR (L : List Ro) (y : Ro) : List Ro × Nat := if (getR y.key L).isSome then (setR y L, 0) else if 32 ≤ L.length then ([], 5) else (insR y L, 0)
theorem B3.grown {w w' : World} {x g : Nat} {u v z : Value} (h : B3 w x u v z) (hg : w.grownBy w' (some g)) (hne : x ≠ g) : B3 w' x u v z :=
  ⟨(World.cell?_of_block (a := ⟨x, 0, none⟩) (hg.block x h.lt (by simpa using hne))).trans h.c0, (World.cell?_of_block (a := ⟨x, 1, none⟩) (hg.block x h.lt (by simpa using hne))).trans h.c1, (World.cell?_of_block (a := ⟨x, 2, none⟩) (hg.block x h.lt (by simpa using hne))).trans h.c2, Nat.lt_of_lt_of_le h.lt hg.size⟩
/-- What Do and All answer, with what is known of the rows' places. -/
def DqP (w : World) (r : List Ro × Nat) (e : Ending) (w' : World) : Prop := ∃ (a : Option Addr) (c : Nat), e = .returned (.tuple #[.slice a r.1.length c, .int .i64 (r.2 : Nat)]) ∧ Ros w' a r.1 ∧ (0 < r.1.length → ∀ q, a = some q → w.heap.size ≤ q.block) ∧ r.1.length ≤ c ∧ c ≤ maxLen ∧ Below w.heap.size w w'
set_option maxRecDepth 100000 in
set_option maxHeartbeats 4000000 in
theorem with_any (y : Ro) (n c : Nat) (a : Option Addr) (L : List Ro) (hn : L.length = n) (hl : n * 40 ≤ 140737488351232) (w : World) (hU : Ros w a L) :
    Calls Try.prog 96 #[.slice a n c, roV y] w (DqP w (withR L y)) := by
  obtain ⟨yk, yv, yn⟩ := y
  obtain ⟨W, hW⟩ : ∃ W, w.alloc (.cells #[.string yk, .string yv, .int .u64 (yn : Nat)] 50) = W := ⟨_, rfl⟩
  obtain ⟨x3, hx3⟩ : ∃ x3, w.heap.size = x3 := ⟨_, rfl⟩
  have HR : B3 W x3 (.string yk) (.string yv) (.int .u64 (yn : Nat)) := hW ▸ B3.new hx3.symm _ _ _ _
  have B1 : Below w.heap.size w W := hW ▸ (Below.refl _ _).alloc (Nat.le_refl _) _
  have hz : W.heap.size = x3 + 1 := by rw [← hW, ← hx3]; simp
  have HZ := Lib.hid hz
  have HB := Lib.hid B1
  have HM := Lib.hid (hU.later B1)
  have HN := Lib.hid hn
  have HR0 := Lib.hid HR
  have hfin : ∀ (M : List Ro) (k : Nat), withR L ⟨yk, yv, yn⟩ = (M, k) → ∀ (a : Option Addr) (c : Nat) (w' : World), Ros w' a M → (0 < M.length → ∀ q, a = some q → w.heap.size ≤ q.block) → M.length ≤ c → c ≤ maxLen → Below w.heap.size w w' → DqP w (withR L ⟨yk, yv, yn⟩) (.returned (.tuple #[.slice a M.length c, .int .i64 (k : Nat)])) w' := fun M k e a c w' h1 h2 h3 h4 h5 => by rw [e]; exact ⟨a, c, rfl, h1, h2, h3, h4, h5⟩
  have HF := Lib.hid hfin
  obtain ⟨c0, c1, c2, lt⟩ := HR
  clear hU B1 hn hz hfin
  unfold roV
  go_enter Try.func96, Try.ntmps96
  go_wp2_with fail
  refine (place_any yk n c a L HN.out (by omega) W HM.out).mono ?_
  rintro e w2 ⟨⟨k, rfl, hk⟩, hb2⟩
  have HB2 := Lib.hid (HB.out.trans (hb2.mono HB.out.size))
  have HM2 := Lib.hid (HM.out.later hb2)
  have HR2 := Lib.hid (HR0.out.later hb2)
  have HK2 := Lib.hid (show Kb w2 x3 yk from ⟨HR2.out.c0, HR2.out.lt⟩)
  clear hb2 c0 c1 c2 lt
  rcases hk with ⟨rfl, hall⟩ | ⟨j, x, rfl, hx, hfx, hlt⟩
  · have HG := Lib.hid (getR_no yk L fun y hy => of_decide_eq_false (hall y hy))
    clear hall
    by_cases h32 : 32 ≤ n
    · have g : (32 : Int) ≤ (n : Int) := by omega
      have HE := Lib.hid (HF.out [] 5 (by unfold withR; rw [HG.out, if_neg (by simp), if_pos (by rw [HN.out]; exact h32)]) none 0 w2 (fun j x hx => by simp at hx) (fun h => by simp at h) (by simp) (by decide) HB2.out)
      go_wp2_with fail
      go_ret2
      exact HE.out
    have g : ¬ (32 : Int) ≤ (n : Int) := by omega
    have HWI := Lib.hid (show withR L ⟨yk, yv, yn⟩ = (insR ⟨yk, yv, yn⟩ L, 0) by unfold withR; rw [HG.out, if_neg (by simp), if_neg (by rw [HN.out]; exact h32)])
    clear HG
    go_wp2_with fail
    refine (indexW_any x3 n c yk a L HN.out (by omega) w2 HK2.out HM2.out).mono ?_
    rintro e w3 ⟨⟨k, rfl, hk⟩, hb3⟩
    have HB3 := Lib.hid (HB2.out.trans (hb3.mono HB2.out.size))
    have HM3 := Lib.hid (HM2.out.later hb3)
    have HR3 := Lib.hid (HR2.out.later hb3)
    clear hb3
    have hpx : ∃ p : Nat, p ≤ n ∧ (k = -1 ∧ n = p ∨ k = (p : Int)) ∧ insR ⟨yk, yv, yn⟩ L = L.take p ++ [⟨yk, yv, yn⟩] ++ L.drop p := by
      rcases hk with ⟨rfl, hall⟩ | ⟨j, x, rfl, hx, hfx, hlt⟩
      · refine ⟨n, Nat.le_refl _, .inl ⟨rfl, rfl⟩, (insR_take _ L n (by rw [HN.out]; exact Nat.le_refl _) (fun j x _ hx => hall x (List.mem_of_getElem? hx)) (fun x hx => ?_)).symm⟩
        have := (List.getElem?_eq_some_iff.1 hx).1
        rw [HN.out] at this; omega
      · have hj := (List.getElem?_eq_some_iff.1 hx).1
        rw [HN.out] at hj
        refine ⟨j, by omega, .inr rfl, (insR_take _ L j (by rw [HN.out]; omega) (fun i x hi hx => hlt i hi x hx) (fun z hz => ?_)).symm⟩
        rw [hx] at hz; cases hz; exact hfx
    obtain ⟨p, hpn, hkp, hins⟩ := hpx
    have HI := Lib.hid hins
    have HP := Lib.hid hpn
    obtain ⟨c0, c1, c2, lt⟩ := HR3.out
    clear hk hins hpn
    have i0 : (0 : Int) ≤ (p : Int) := by omega
    have hq0 : w.heap.size ≤ w3.drew.heap.size := HB3.out.size
    rcases hkp with ⟨rfl, rfl⟩ | rfl
    all_goals
      go_wp2_with fail
      go_region_law (first
        | (go_simp; go_at_call 34; refine (cloneR_any n c a L HN.out (by omega) _ (HM3.out.later (by go_grown))).mono ?_; rintro e w4 ⟨v1, rfl, hc1, hb1⟩; obtain ⟨a1, d1, rfl, _⟩ := hc1.form roT; have hq : Below w3.heap.size w3 w4 := Below.trans (by go_grown) (hb1.mono (by simp)); obtain ⟨e0, e1, e2, _⟩ := HR3.out.later hq; rw [HN.out] at hc1 ⊢)
        | (go_simp; go_at_call 105; first
            | with_reducible refine (insA w.heap.size n d1 _ yk yv yn a1 L w4 (Nat.le_trans HB3.out.size hq.size) (hc1.mono hq0) HN.out HP.out (by omega) HI.out).mono ?_
            | with_reducible refine (insB w.heap.size n d1 _ w3.heap.size yk yv yn a1 L w3 w4 rfl HB3.out.size hc1 hb1 HN.out HP.out (by omega) HI.out).mono ?_
           rintro e w5 ⟨a3, c3, rfl, hU3, hf3, hl3, hm3, hb3⟩))
      all_goals
        have HE := Lib.hid (HF.out _ 0 HWI.out a3 c3 w5 hU3 hf3 hl3 hm3 ((HB3.out.trans (hq.mono HB3.out.size)).trans hb3))
        clear hU3 hf3 hl3 hm3 hb3
        generalize (Value.slice a3 (insR ⟨yk, yv, yn⟩ L).length c3) = R at *
        go_wp2_with fail
        go_ret2
        exact HE.out
  · have hkx : x.key = yk := of_decide_eq_true hfx
    have HWI := Lib.hid (show withR L ⟨yk, yv, yn⟩ = (setR ⟨yk, yv, yn⟩ L, 0) by
      unfold withR
      rw [getR_first yk L j x hx hkx fun i hi y hy => of_decide_eq_false (hlt i hi y hy)]; rfl)
    have HST := Lib.hid (setR_at ⟨yk, yv, yn⟩ L j x hx hkx fun i hi y hy => of_decide_eq_false (hlt i hi y hy))
    have hjl := (List.getElem?_eq_some_iff.1 hx).1
    have HJ := Lib.hid hjl
    have hjn : j < n := by have := HN.out; omega
    have i0 : (0 : Int) ≤ (j : Int) := by omega
    have i1 : (j : Int) < (n : Int) := by omega
    clear hx hfx hlt hkx hjl
    go_wp2_with fail
    refine (cloneR_any n c a L HN.out (by omega) w2 HM2.out).mono ?_
    rintro e w4 ⟨v1, rfl, hc1, hb1⟩
    obtain ⟨g, d1, rfl, hg, hd1, hd2, hR1⟩ := Hd.of roT hc1 (by have := HJ.out; omega)
    have HB4 := Lib.hid (HB2.out.trans (hb1.mono HB2.out.size))
    obtain ⟨e0, e1, e2, _⟩ := HR2.out.later hb1
    obtain ⟨q0, q1, q2⟩ := HdR.cells hR1 (List.getElem?_eq_getElem HJ.out)
    have z0 := hR1.fz (j * 3)
    have z1 := hR1.fz (j * 3 + 1)
    have z2 := hR1.fz (j * 3 + 2)
    have HP := Lib.hid (hR1.put roT HJ.out ⟨yk, yv, yn⟩)
    have hgw : w.heap.size ≤ g := Nat.le_trans HB2.out.size hg
    have hBP := HB4.out.grown (sc_grown (roC ⟨yk, yv, yn⟩) (j * 3) w4) (Nat.le_trans HB2.out.size (hb1.size)) (fun k e => by cases e; exact hgw)
    have HE := Lib.hid (HF.out _ 0 HWI.out (some ⟨g, 0, none⟩) d1 _ (HST.out ▸ HP.out.row) (fun _ q e => by cases e; exact hgw) (by rw [setR_len]; exact hd1) hd2 hBP)
    rw [setR_len, HN.out] at HE
    rw [HN.out]
    have hgx : x3 ≠ g := by have := HR2.out.lt; omega
    generalize L[j].key = o0 at q0
    generalize L[j].val = o1 at q1
    generalize L[j].ver = o2 at q2
    clear hc1 hb1 hR1 hBP HF HP HST HWI
    go_wp2_with fail
    go_ret2
    exact HE.out
end Go.Proofs.Ythgnecggdlamfaa
