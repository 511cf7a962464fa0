/- The configuration of the last entry that has one: the program's. -/
import Derived.Test.YtdcpiaoadbbdoaaGreatDoorRb
import Derived.Test.YtdcpiaoadbbdoaaGreatDoorQi
set_option maxRecDepth 100000
set_option maxHeartbeats 16000000
namespace Go.Proofs.YtdcpiaoadbbdoaaGreatDoor
open Go.RowKit Go.Shelf
attribute [local go_sem] Oper.semAt_some

def LtP (w : World) (o : Option Cf) (e : Ending) (w' : World) : Prop := ∃ (c : Cf) (s1 s2 : Sa) (b : Bool), e = .returned (.tuple #[.agg #[.slice s1.a c.V.length s1.c, .slice s2.a c.L.length s2.c], .bool b]) ∧ (o = if b then some c else none) ∧ Us w' s1.a c.V ∧ Us w' s2.a c.L ∧ (0 < c.V.length → ∀ q, s1.a = some q → w.heap.size ≤ q.block) ∧ (0 < c.L.length → ∀ q, s2.a = some q → w.heap.size ≤ q.block) ∧ Below w.heap.size w w'
theorem Bk.own {W W' : World} {row : Option Nat} {B x : Nat} {T : TypeId} {L : List Value} (h : Bk W x T L) (hg : W.grownBy W' row) (hr : ∀ r, row = some r → B ≤ r ∧ ∃ o : Obj, W.heap[r]? = some o ∧ o.isCells = false) : Bk W' x T L :=
 h.same (hg.block x h.lt (fun e => by
  obtain ⟨_, o, ho, hc⟩ := hr x e.symm
  rw [h.row] at ho; cases ho; cases hc))
theorem cells_of_cell {W : World} {b i : Nat} {v : Value} (h : W.cell? ⟨b, i, none⟩ = some v) {o : Obj} (ho : W.heap[b]? = some o) : o.isCells = true := by
 cases o <;> simp [World.cell?, ho, Obj.isCells] at h ⊢
theorem Us.own {W W' : World} {row : Option Nat} {B : Nat} {a : Option Addr} {L : List Nat} (h : Us W a L) (hg : W.grownBy W' row) (hr : ∀ r, row = some r → B ≤ r ∧ ∃ o : Obj, W.heap[r]? = some o ∧ o.isCells = false) : Us W' a L := fun j y hy => by
 obtain ⟨b, off, e, hlt, c⟩ := h j y hy
 have hb := hg.block b hlt (fun e2 => by
  obtain ⟨_, o, ho, hc⟩ := hr b e2.symm
  rw [cells_of_cell c ho] at hc; cases hc)
 exact ⟨b, off, e, Nat.lt_of_lt_of_le hlt hg.size, (World.cell?_of_block hb).trans c⟩
def LtI (W0 : World) (pre : List Ne) (W : World) : Prop := Below W0.heap.size W0 W ∧ ∀ x ∈ nes pre, toldE x.2 = none
def LtX (w : World) (c : Code) (pre : List Ne) (W : World) : Prop := c = .ret ∧ ∃ (pre' : List (Nat × En)) (x : Nat × En) (cf : Cf) (s1 s2 : Sa), nes pre = pre' ++ [x] ∧ (∀ y ∈ pre', toldE y.2 = none) ∧ toldE x.2 = some cf ∧
 Bk W w.heap.size 25 [.slice s1.a cf.V.length s1.c, .slice s2.a cf.L.length s2.c] ∧ Bk W (w.heap.size + 1) 4 [.bool true] ∧ Us W s1.a cf.V ∧ Us W s2.a cf.L ∧ (0 < cf.V.length → ∀ q, s1.a = some q → w.heap.size ≤ q.block) ∧ (0 < cf.L.length → ∀ q, s2.a = some q → w.heap.size ≤ q.block) ∧ Below w.heap.size w W
theorem ltI_own (W0 : World) : OwnFrom W0.heap.size (LtI W0) := OwnFrom.and (ownFrom_below (Nat.le_refl _) (Nat.le_refl _)) (fun _ _ _ _ hs _ _ => hs)
theorem ltX_own (w : World) (B : Nat) (hB : w.heap.size ≤ B) (c : Code) : OwnFrom B (LtX w c) := by
 rintro s W W' row ⟨h0, pre', x, cf, s1, s2, h1, h2, h3, h4, h5, h6, h7, h8, h9, h10⟩ hg hr
 exact ⟨h0, pre', x, cf, s1, s2, h1, h2, h3, h4.own hg hr, h5.own hg hr, h6.own hg hr, h7.own hg hr, h8, h9, ownFrom_below (Nat.le_refl _) hB s W W' row h10 hg hr⟩
theorem told_bwd {L : List En} : ∀ (m : Nat), m ≤ L.length → (∀ x ∈ bwdT L m, toldE x.2 = none) → lastC (L.take m) = none
 | 0, _, _ => rfl
 | m + 1, hm, h => by
  obtain ⟨x, hx⟩ : ∃ x, L[m]? = some x := ⟨_, List.getElem?_eq_getElem (by omega)⟩
  rw [bwdT_succ hx] at h
  rw [List.take_add_one, hx]
  simp only [Option.toList]
  rw [lastC_snoc, h (m, x) (List.mem_cons_self ..)]
  exact told_bwd m (by omega) (fun y hy => h y (List.mem_cons_of_mem _ hy))
theorem told_bwd_some {L : List En} {x : Nat × En} {cf : Cf} (hc : toldE x.2 = some cf) : ∀ (m : Nat) (pre : List (Nat × En)), m ≤ L.length → pre ++ [x] <+: bwdT L m → (∀ y ∈ pre, toldE y.2 = none) → lastC (L.take m) = some cf
 | 0, pre, _, h, _ => by
  obtain ⟨s, hs⟩ := h
  have := congrArg List.length hs
  simp [bwdT] at this
 | m + 1, pre, hm, h, hn => by
  obtain ⟨y, hy⟩ : ∃ y, L[m]? = some y := ⟨_, List.getElem?_eq_getElem (by omega)⟩
  rw [bwdT_succ hy] at h
  rw [List.take_add_one, hy]
  simp only [Option.toList]
  rw [lastC_snoc]
  cases pre with
  | nil =>
   obtain ⟨s, hs⟩ := h
   simp only [List.nil_append, List.cons_append, List.cons.injEq] at hs
   obtain ⟨rfl, _⟩ := hs
   rw [hc]
  | cons p pre =>
   obtain ⟨s, hs⟩ := h
   simp only [List.cons_append, List.cons.injEq] at hs
   obtain ⟨rfl, hs⟩ := hs
   rw [hn _ (List.mem_cons_self ..)]
   exact told_bwd_some hc m pre (by omega) ⟨s, by simpa using hs⟩ (fun y hy => hn y (List.mem_cons_of_mem _ hy))
theorem told_no {s : List UInt8} (h : cutB s = false) : toldB s = none := by
 cases s with
 | nil => rfl
 | cons c r => simp only [cutB, decide_eq_false_iff_not] at h; simp only [toldB, if_neg h]
theorem told_yes {s : List UInt8} (h : cutB s = true) : toldB s = if (tkG (cutR s)).2 = 0 then some ⟨(tkG (cutR s)).1.1, (tkG (cutR s)).1.2⟩ else none := by
 cases s with
 | nil => cases h
 | cons c r =>
  have hr : cutR (c :: r) = r := by unfold cutR; rw [h]; rfl
  simp only [cutB, decide_eq_true_eq] at h
  rw [hr]
  simp only [toldB, if_pos h]
theorem told_mk (t : Nat) (s : List UInt8) : toldE ⟨t, ⟨s.toArray⟩⟩ = toldB s := rfl
def LtA (w W0 : World) (len c : Nat) (a : Option Addr) (x : Ne) (a' : Act) (W : World) : Prop := ∃ B, W0.heap.size ≤ B ∧ Bk W B 65 [.int .u64 (x.1.2.t : Nat), .string x.1.2.d] ∧
 a' = { tmps := #[.slice a len c, undef, .pointer (some ⟨w.heap.size, 0, none⟩), .pointer (some ⟨w.heap.size + 1, 0, none⟩), undef, .pointer (some ⟨B, 0, none⟩), undef, undef, undef, undef, .slice a len c, .func (.func 156) #[] #[.pointer (some ⟨w.heap.size + 1 + 1, 0, none⟩)], .int .i64 (x.1.1 : Nat), .agg #[.int .u64 (x.1.2.t : Nat), .string x.1.2.d], undef, undef, undef, undef, undef, undef, undef, undef, undef, undef, undef, undef, undef, undef, undef, undef, undef], defers := [] }
theorem ltA_own (w W0 : World) (len c : Nat) (a : Option Addr) (B : Nat) (x : Ne) (a' : Act) : OwnFrom B (fun (_ : Unit) W => LtA w W0 len c a x a' W) := by
 rintro s W W' row ⟨B2, h1, h2, h3⟩ hg hr
 exact ⟨B2, h1, h2.own hg hr, h3⟩
theorem latest_in (n : Nat) (hn : 5 ≤ n) (len c : Nat) (a : Option Addr) (L : List En) (hL : L.length = len) (hl : len ≤ 140737488351232) (hD : ∀ x ∈ L, x.d.size ≤ 140737488351232) (w : World) (hE : Ents w a L) :
 CallsIn Fence.wide n Tryz.prog 71 #[.slice a len c] w (LtP w (lastC L)) := by
 have h1 : 1 ≤ n := by omega
 have HL := hI_ hL
 have HD := hI_ hD
 obtain ⟨W0, hW0⟩ : ∃ W0, ((w.alloc (.cells #[.slice none 0 0, .slice none 0 0] 25)).alloc (.cells #[.bool false] 4)).alloc (.cells #[.slice a len c] 26) = W0 := ⟨_, rfl⟩
 have HB : Below w.heap.size w W0 := hW0 ▸ (((Below.refl _ w).alloc (Nat.le_refl _) _).alloc (by simp) _).alloc (by simp; omega) _
 have HZ := hI_ (show W0.heap.size = w.heap.size + 3 by rw [← hW0]; simp)
 have HR : Bk W0 w.heap.size 25 [.slice none 0 0, .slice none 0 0] := hW0 ▸ ((Bk.new w #[.slice none 0 0, .slice none 0 0] _).later ((Below.refl _ _).alloc (Nat.le_refl _) _)).later ((Below.refl _ _).alloc (Nat.le_refl _) _)
 have HF : Bk W0 (w.heap.size + 1) 4 [.bool false] := hW0 ▸ ⟨by
  have h := Bk.new (w.alloc (.cells #[.slice none 0 0, .slice none 0 0] 25)) #[.bool false] 4
  rw [World.size_alloc] at h
  exact (h.later ((Below.refl _ _).alloc (Nat.le_refl _) _)).row⟩
 have HBn : Bk W0 (w.heap.size + 1 + 1) 26 [.slice a len c] := hW0 ▸ ⟨by
  have h := Bk.new ((w.alloc (.cells #[.slice none 0 0, .slice none 0 0] 25)).alloc (.cells #[.bool false] 4)) #[.slice a len c] 26
  rw [World.size_alloc, World.size_alloc] at h
  exact h.row⟩
 have hE0 := hE.later HB
 clear hL hD hE
 refine callsIn_of_wp_marks Tryz.func71 rfl trivial ?_ rfl
 simp only [Tryz.ntmps71, List.size_toArray, List.length_cons, List.length_nil, Nat.reduceAdd, Nat.reduceSub, Array.replicate_succ, Array.replicate_zero, List.push_toArray, List.append_toArray, List.nil_append, List.cons_append]
 gi_wp2_with (refine ⟨trivial, ?_⟩; gi_at_call 124; refine (callsIn_wide (n := n - 1) |>.2 (backward_any _ _ _ _)).mono ?_; rintro e w' ⟨rfl, rfl⟩)
 have hc0 := HR.bx.c 0 _ rfl
 have hbn := HBn.bx.c 0 _ rfl
 refine wpIn_rangeFunc_ownH rfl h1 (gf := 156) (lb := #[.pointer (some ⟨w.heap.size + 1 + 1, 0, none⟩)]) rfl trivial (enters_of Tryz.func156 (by kernel_rfl) rfl)
  (back_stops (n - 1) (by omega) (w.heap.size + 1 + 1) len c a L HL.out hl HD.out W0 HBn.lt hbn hE0) belowK_t (belowK_b (Nat.le_refl _)) (Below.refl _ _) (fun _ => rfl)
  (LtI W0) (LtX w) (ltI_own W0) (ltX_own w _ HB.size) ⟨Below.refl _ _, fun x hx => by cases hx⟩ (LtA w W0 len c a) (ltA_own w W0 len c a _) ?assign ?body ?done ?stop
 case assign =>
  rintro l pre ⟨⟨i, ⟨t, d⟩⟩, hds⟩ W K hI hK
  gi_wp2
  exact hK _ _ ((KeepsOthers.alloc _ _).from _) ((Below.refl _ _).alloc hI.1.size _) ⟨hI.1.alloc hI.1.size _, hI.2⟩ ⟨W.heap.size, hI.1.size, Bk.new W #[.int .u64 (t : Nat), .string d] _, rfl⟩
 case body =>
  rintro l pre ⟨⟨i, ⟨t, d⟩⟩, hds⟩ a' W hl2 hr ⟨hI, hpre⟩ ⟨B, hB2, hbox, rfl⟩ hN
  obtain ⟨s, rfl⟩ : ∃ s : List UInt8, d = ⟨s.toArray⟩ := ⟨d.data.toList, by cases d; simp⟩
  have hss : s.length ≤ 140737488351232 := by have := str_size s; simp only at hds; omega
  have hbc := hbox.bx.c 1 _ rfl
  have hR := HR.later hI
  have hF := HF.later hI
  have hBW := HB.trans (hI.mono HB.size)
  have hn1 : 1 ≤ n - 1 - 1 := by omega
  obtain ⟨b, hb⟩ : ∃ b, cutB s = b := ⟨_, rfl⟩
  have HCB := hI_ hb
  cases b
  · have HFI := hI_ (show LtI W0 (pre ++ [(⟨(i, ⟨t, ⟨s.toArray⟩⟩), hds⟩ : Ne)]) W from ⟨hI, fun y hy => by
     rw [nes_snoc] at hy
     rcases List.mem_append.1 hy with h | h
     · exact hpre y h
     · simp only [List.mem_singleton] at h; subst h; rw [told_mk]; exact told_no hb⟩)
    clear hb hI hpre hR hF hBW
    gi_wp2_with (refine ⟨trivial, ?_⟩; gi_at_call 125; refine (CallsIn.inRound l (callsIn_wide.2 (cut_any s hss _))).mono ?_; rintro e w2 ⟨rfl, rfl⟩; rw [HCB.out])
    exact ⟨(KeepsOthers.refl _).from _, Below.refl _ _, HFI.out⟩
  · have hrl : (cutR s).length ≤ 140737488351232 := by unfold cutR; rw [hb]; simp; omega
    have HTY := hI_ (told_yes hb)
    clear hb
    gi_wp2_with (refine ⟨trivial, ?_⟩; gi_at_call 125; refine (CallsIn.inRound l (callsIn_wide.2 (cut_any s hss _))).mono ?_; rintro e w2 ⟨rfl, rfl⟩; rw [HCB.out])
    refine ⟨trivial, ?_⟩
    refine (CallsIn.inRound l (callsIn_wide.2 (pTake_any (cutR s) hrl _))).mono ?_
    rintro e w3 ⟨a3, c3, a4, c4, rfl, hV, hU, h3, h4, hb3⟩
    obtain ⟨k2, hk2⟩ : ∃ k2, (tkG (cutR s)).2 = k2 := ⟨_, rfl⟩
    have hI3 : Below W0.heap.size W0 w3 := hI.trans (hb3.mono hI.size)
    obtain ⟨w4, y4, hw4, hy4, B4, H4, Z4⟩ := bk_new w3 #[.slice a3 (tkG (cutR s)).1.1.length c3, .slice a4 (tkG (cutR s)).1.2.length c4] 25
    have B4' : Below w3.heap.size w3 w4 := hy4 ▸ B4
    have hKF := hI_ (show KeepsFrom W0.heap.size W w4 from ((KeepsOthers.of_grownBy (below_none hb3) (fun _ _ e => by cases e)).trans (KeepsOthers.of_grownBy (below_none B4') (fun _ _ e => by cases e))).from _)
    have hBW4 := hI_ (show Below W0.heap.size W w4 from (hb3.mono hI.size).trans (B4'.mono hI3.size))
    rw [hk2] at HTY ⊢
    by_cases h0 : k2 = 0
    · subst h0
      have HT2 := hI_ (show toldB s = some ⟨(tkG (cutR s)).1.1, (tkG (cutR s)).1.2⟩ by rw [HTY.out, if_pos rfl])
      have hR4 := (hR.later hb3).later B4'
      have hF4 := (hF.later hb3).later B4'
      have hB4 := (hBW.trans (hb3.mono hBW.size)).trans (B4'.mono (hBW.trans (hb3.mono hBW.size)).size)
      have hs0 := w.heap.size
      have HX := hI_ (show ∀ W9, (w4.setCell ⟨w.heap.size, 0, none⟩ (.slice a3 (tkG (cutR s)).1.1.length c3)).setCell ⟨w.heap.size, 1, none⟩ (.slice a4 (tkG (cutR s)).1.2.length c4) = W9 →
       KeepsFrom W0.heap.size W (W9.setCell ⟨w.heap.size + 1, 0, none⟩ (.bool true)) ∧ LtX w .ret (pre ++ [(⟨(i, ⟨t, ⟨s.toArray⟩⟩), hds⟩ : Ne)]) (W9.setCell ⟨w.heap.size + 1, 0, none⟩ (.bool true)) from fun W9 h9 => by
       subst h9
       have k1 := setCell_grown w4 w.heap.size 0 (.slice a3 (tkG (cutR s)).1.1.length c3)
       have k2 := setCell_grown (w4.setCell ⟨w.heap.size, 0, none⟩ (.slice a3 (tkG (cutR s)).1.1.length c3)) w.heap.size 1 (.slice a4 (tkG (cutR s)).1.2.length c4)
       have k3 := setCell_grown ((w4.setCell ⟨w.heap.size, 0, none⟩ (.slice a3 (tkG (cutR s)).1.1.length c3)).setCell ⟨w.heap.size, 1, none⟩ (.slice a4 (tkG (cutR s)).1.2.length c4)) (w.heap.size + 1) 0 (.bool true)
       have hw0 := hF4.lt
       have hz := HZ.out
       have hWz := hI.size
       have hne : w.heap.size ≠ w.heap.size + 1 := by omega
       have hneV : ∀ x, x ≤ w.heap.size + 1 → 0 < (tkG (cutR s)).1.1.length → ∀ q, a3 = some q → q.block ≠ x := fun x hx h q e => by have := h3 h q e; omega
       have hneU : ∀ x, x ≤ w.heap.size + 1 → 0 < (tkG (cutR s)).1.2.length → ∀ q, a4 = some q → q.block ≠ x := fun x hx h q e => by have := h4 h q e; omega
       refine ⟨(((hKF.out).trans ((KeepsOthers.setCell _ _ _).from _)).trans ((KeepsOthers.setCell _ _ _).from _)).trans ((KeepsOthers.setCell _ _ _).from _), rfl, nes pre, (i, ⟨t, ⟨s.toArray⟩⟩), ⟨(tkG (cutR s)).1.1, (tkG (cutR s)).1.2⟩, ⟨a3, c3⟩, ⟨a4, c4⟩, nes_snoc _ _, hpre, by rw [told_mk]; exact HT2.out, ?_, ?_, ?_, ?_, ?_, ?_, ?_⟩
       · exact ((hR4.set 0 _).set 1 _).grown k3 hne
       · exact ((hF4.grown k1 hne.symm).grown k2 hne.symm).set 0 _
       · exact (((hV.later B4').grown k1 (hneV _ (by omega))).grown k2 (hneV _ (by omega))).grown k3 (hneV _ (by omega))
       · exact (((hU.later B4').grown k1 (hneU _ (by omega))).grown k2 (hneU _ (by omega))).grown k3 (hneU _ (by omega))
       · exact fun h q e => by have := h3 h q e; omega
       · exact fun h q e => by have := h4 h q e; omega
       · exact ((hB4.setCell (Nat.le_refl _) _).setCell (Nat.le_refl _) _).setCell (Nat.le_succ _) _)
      obtain ⟨W9, hW9⟩ : ∃ W9, (w4.setCell ⟨w.heap.size, 0, none⟩ (.slice a3 (tkG (cutR s)).1.1.length c3)).setCell ⟨w.heap.size, 1, none⟩ (.slice a4 (tkG (cutR s)).1.2.length c4) = W9 := ⟨_, rfl⟩
      have HX9 := hI_ (HX.out W9 hW9)
      have d0 := hR4.bx.c 0 _ rfl
      have d1 := hR4.bx.c 1 _ rfl
      have df := hR4.bx.fz
      have d4 := H4.bx.c 0 _ rfl
      have d5 := H4.bx.c 1 _ rfl
      have hF9 : Bk W9 (w.heap.size + 1) 4 [.bool false] := hW9 ▸ (hF4.grown (setCell_grown _ _ _ _) (by omega)).grown (setCell_grown _ _ _ _) (by omega)
      have f0 := hF9.bx.c 0 _ rfl
      have ff := hF9.bx.fz
      clear hV hU hR4 hF4 hB4 hR hF hBW hI hpre hb3 H4 hF9 hI3 B4 B4' hk2 HX
      gi_wp2
      exact HX9.out
    · have g : (k2 == 0) = false := by simp; omega
      have HFI := hI_ (show LtI W0 (pre ++ [(⟨(i, ⟨t, ⟨s.toArray⟩⟩), hds⟩ : Ne)]) w4 from ⟨hI3.trans (B4'.mono hI3.size), fun y hy => by
       rw [nes_snoc] at hy
       rcases List.mem_append.1 hy with h | h
       · exact hpre y h
       · simp only [List.mem_singleton] at h; subst h; rw [told_mk, HTY.out, if_neg h0]⟩)
      clear hV hU hR hF hBW hI hpre hb3 H4 hI3 B4 B4' hk2 h0 hbox
      gi_wp2
      exact ⟨hKF.out, hBW4.out, HFI.out⟩
 case done =>
  rintro D ys W hD hys ⟨hI, hn2⟩ hK
  rw [hys] at hn2
  have HC := hI_ (show lastC L = none by
   have h := told_bwd L.length (Nat.le_refl _) (by rw [HL.out]; exact hn2)
   rwa [List.take_length] at h)
  have hR := HR.later hI
  have hF := HF.later hI
  have hBW := HB.trans (hI.mono HB.size)
  obtain ⟨W9, hW9⟩ : ∃ W9, ((W.setCell ⟨w.heap.size, 0, none⟩ (.slice none 0 0)).setCell ⟨w.heap.size, 1, none⟩ (.slice none 0 0)) = W9 := ⟨_, rfl⟩
  have k1 := setCell_grown W w.heap.size 0 (.slice none 0 0)
  have k2 := setCell_grown (W.setCell ⟨w.heap.size, 0, none⟩ (.slice none 0 0)) w.heap.size 1 (.slice none 0 0)
  have hR9 : Bk W9 w.heap.size 25 [.slice none 0 0, .slice none 0 0] := hW9 ▸ (hR.set 0 _).set 1 _
  have hF9 : Bk W9 (w.heap.size + 1) 4 [.bool false] := hW9 ▸ (hF.grown k1 (by omega)).grown k2 (by omega)
  have k3 := setCell_grown W9 (w.heap.size + 1) 0 (.bool false)
  have hR10 := hR9.grown k3 (by omega)
  have hF10 : Bk (W9.setCell ⟨w.heap.size + 1, 0, none⟩ (.bool false)) (w.heap.size + 1) 4 [.bool false] := hF9.set 0 _
  have hB10 : Below w.heap.size w (W9.setCell ⟨w.heap.size + 1, 0, none⟩ (.bool false)) := by subst hW9; exact ((hBW.setCell (Nat.le_refl _) _).setCell (Nat.le_refl _) _).setCell (Nat.le_succ _) _
  have hK10 : (W9.setCell ⟨w.heap.size + 1, 0, none⟩ (.bool false)).heap[D]? = some (.deferred (some [])) := by subst hW9; exact (((KeepsOthers.setCell _ _ _).trans (KeepsOthers.setCell _ _ _)).trans (KeepsOthers.setCell _ _ _)).same D _ hK rfl
  have d0 := hR.bx.c 0 _ rfl
  have d1 := hR.bx.c 1 _ rfl
  have df := hR.bx.fz
  have f0 := hF9.bx.c 0 _ rfl
  have ff := hF9.bx.fz
  have hDw := hI_ (show w.heap.size ≤ D by have := HB.size; omega)
  clear hn2 hys hR hF hBW hR9 hF9 k1 k2 k3 hI hK
  gi_wp2
  refine ⟨by simp, .inl ⟨_, _, rfl, run_takeDeferred hK10, ?_⟩⟩
  have hg := grownBy_putObj' (W9.setCell ⟨w.heap.size + 1, 0, none⟩ (.bool false)) D (.deferred none)
  have hro : ∀ r, some D = some r → w.heap.size ≤ r ∧ ∃ o : Obj, (W9.setCell ⟨w.heap.size + 1, 0, none⟩ (.bool false)).heap[r]? = some o ∧ o.isCells = false := fun r e => by cases e; exact ⟨hDw.out, _, hK10, rfl⟩
  refine ⟨_, results_bk_cell Tryz.results71 _ rfl rfl confT (hR10.own hg hro) rfl ocB (hF10.own hg hro), ⟨[], []⟩, ⟨none, 0⟩, ⟨none, 0⟩, false, rfl, HC.out, Us.nil _ _, Us.nil _ _, fun h => absurd h (Nat.lt_irrefl _), fun h => absurd h (Nat.lt_irrefl _), hB10.trans (belowK_b (w := w) (Nat.le_refl _) _ D _ _ hDw.out hK10 rfl rfl)⟩
 case stop =>
  rintro D c pre W hD hpr ⟨rfl, pre', x, cf, s1, s2, hpx, hnn, htx, hR, hF, hV, hU, h3, h4, hB⟩ hK
  have HC := hI_ (show lastC L = some cf by
   have h := told_bwd_some htx L.length pre' (Nat.le_refl _) (by rw [HL.out, ← hpx]; exact hpr) hnn
   rwa [List.take_length] at h)
  have hDw := hI_ (show w.heap.size ≤ D by have := HB.size; omega)
  gi_wp2
  refine ⟨by simp, .inl ⟨_, _, rfl, run_takeDeferred hK, ?_⟩⟩
  have hg := grownBy_putObj' W D (.deferred none)
  have hro : ∀ r, some D = some r → w.heap.size ≤ r ∧ ∃ o : Obj, W.heap[r]? = some o ∧ o.isCells = false := fun r e => by cases e; exact ⟨hDw.out, _, hK, rfl⟩
  exact ⟨_, results_bk_cell Tryz.results71 _ rfl rfl confT (hR.own hg hro) rfl ocB (hF.own hg hro), cf, s1, s2, true, rfl, HC.out, hV.own hg hro, hU.own hg hro, h3, h4, hB.trans (belowK_b (w := w) (Nat.le_refl _) _ D _ _ hDw.out hK rfl rfl)⟩
theorem pLatest_any (len c : Nat) (a : Option Addr) (L : List En) (hL : L.length = len) (hl : len ≤ 140737488351232) (hD : ∀ x ∈ L, x.d.size ≤ 140737488351232) (w : World) (hE : Ents w a L) : Calls Tryz.prog 71 #[.slice a len c] w (LtP w (lastC L)) :=
 callsIn_wide.1 (latest_in 5 (Nat.le_refl _) len c a L hL hl hD w hE)

def CfP (w : World) (c : Cf) (e : Ending) (w' : World) : Prop := ∃ (s1 s2 : Sa), e = .returned (.agg #[.slice s1.a c.V.length s1.c, .slice s2.a c.L.length s2.c]) ∧ Us w' s1.a c.V ∧ Us w' s2.a c.L ∧ Below w.heap.size w w'
def CfQ (w : World) (ci : Cf) (i1 i2 : Sa) (c : Cf) (e : Ending) (w' : World) : Prop := ∃ (s1 s2 : Sa), e = .returned (.agg #[.slice s1.a c.V.length s1.c, .slice s2.a c.L.length s2.c]) ∧ Us w' s1.a c.V ∧ Us w' s2.a c.L ∧ ((c = ci ∧ s1 = i1 ∧ s2 = i2) ∨ ((0 < c.V.length → ∀ q, s1.a = some q → w.heap.size ≤ q.block) ∧ (0 < c.L.length → ∀ q, s2.a = some q → w.heap.size ≤ q.block))) ∧ Below w.heap.size w w'
theorem us_elder {w : World} {a : Option Addr} {L : List Nat} (h : Us w a L) {x : Nat} (hx : w.heap.size ≤ x) : 0 < L.length → ∀ q, a = some q → q.block ≠ x := fun h0 q e => by
 obtain ⟨b, off, e2, hlt⟩ := h.addr h0
 rw [e2] at e; cases e
 simp only; omega
theorem pConfAt_any (ci : Cf) (s1 s2 es : Sa) (g : Lg) (hl : g.L.length ≤ 140737488351232) (hD : ∀ x ∈ g.L, x.d.size ≤ 140737488351232) (hsn : g.snap.size ≤ 140737488351232) (w : World) (hV : Us w s1.a ci.V) (hU : Us w s2.a ci.L) (hE : Ents w es.a g.L) :
 Calls Tryz.prog 49 #[.agg #[.slice s1.a ci.V.length s1.c, .slice s2.a ci.L.length s2.c], .agg #[.int .u64 g.base, .int .u64 g.bt, .string g.snap, .slice es.a g.L.length es.c]] w (CfQ w ci s1 s2 (confA ci g)) := by
 obtain ⟨gb, gt, gs, gL⟩ := g
 obtain ⟨s, rfl⟩ : ∃ s : List UInt8, gs = ⟨s.toArray⟩ := ⟨gs.data.toList, by cases gs; simp⟩
 simp only at hl hD hsn hE ⊢
 obtain ⟨W0, y0, hW0, hy0, B0, H0, Z0⟩ := bk_new w #[.slice s1.a ci.V.length s1.c, .slice s2.a ci.L.length s2.c] 25
 obtain ⟨W1, y1, hW1, hy1, B1, HL, Z1⟩ := bk_new W0 #[.int .u64 gb, .int .u64 gt, .string ⟨s.toArray⟩, .slice es.a gL.length es.c] 28
 obtain ⟨W2, y2, hW2, hy2e, B2, HR, Z2⟩ := bk_new W1 #[.slice none 0 0, .slice none 0 0] 25
 have hz0 := Z0.out
 have hz1 := Z1.out
 have hz2 := Z2.out
 have HB : Below w.heap.size w W2 := (hy0 ▸ B0).trans ((B1.mono (by omega)).trans (B2.mono (by omega)))
 have HI : Bk W2 y0 25 [.slice s1.a ci.V.length s1.c, .slice s2.a ci.L.length s2.c] := (H0.later (hy1 ▸ B1)).later (hy2e ▸ B2)
 replace HL := HL.later (hy2e ▸ B2)
 have hy2 := hI_ (show w.heap.size ≤ y2 ∧ y0 < y2 ∧ y1 < y2 ∧ W2.heap.size = y2 + 1 by omega)
 have HV := hV.later HB
 have HU := hU.later HB
 have HE := hE.later HB
 have hneV := us_elder hV (x := y2) (by omega)
 have hneU := us_elder hU (x := y2) (by omega)
 have hss : s.length ≤ 140737488351232 := by have := str_size s; omega
 have HCA := hI_ (show confA ci ⟨gb, gt, ⟨s.toArray⟩, gL⟩ = match lastC gL with | some c => c | none => if 0 < gb then (match appG s with | some r => r.1 | none => ci) else ci from rfl)
 generalize confA ci ⟨gb, gt, ⟨s.toArray⟩, gL⟩ = CC at *
 have HNV := hI_ hneV
 have HNU := hI_ hneU
 clear hV hU hE B0 B1 B2 H0 hz0 hz1 hz2 hneV hneU hsn
 go_enter Tryz.func49, Tryz.ntmps49
 go_wp2_with (first
  | (refine lCc rfl _ rfl rfl (ocA rfl) (by assumption) rfl ?_))
 refine (pLatest_any _ _ _ gL rfl hl hD _ HE).mono ?_
 rintro e w3 ⟨c, t1, t2, b, rfl, hc, hV3, hU3, h3, h4, hb⟩
 obtain ⟨w4, y4, hw4, hy4, B4, H4, Z4⟩ := bk_new w3 #[.slice t1.a c.V.length t1.c, .slice t2.a c.L.length t2.c] 25
 have B4' : Below w3.heap.size w3 w4 := hy4 ▸ B4
 have HZ3 := hI_ (show y2 < W2.heap.size from HR.lt)
 replace HB := (HB.trans (hb.mono HB.size)).trans (B4'.mono (HB.trans (hb.mono HB.size)).size)
 replace HR := (HR.later hb).later B4'
 replace HL := (HL.later hb).later B4'
 replace HI := (HI.later hb).later B4'
 replace HV := (HV.later hb).later B4'
 replace HU := (HU.later hb).later B4'
 replace hV3 := hV3.later B4'
 replace hU3 := hU3.later B4'
 have HC := hI_ hc
 have G3 := hI_ h3
 have G4 := hI_ h4
 clear hb HE hc B4 B4' h3 h4
 cases b
 case true =>
  have HC2 := hI_ (show CC = c by rw [HCA.out, HC.out]; rfl)
  go_wp2_with (first
   | (refine lBk rfl _ rfl rfl confT (by assumption) rfl ?_)
   | (refine sBk rfl _ _ rfl rfl rfl confT HR rfl rfl rfl ?_; intro w' hk hg; replace HB := bGr HB hg HB.size (by have := hy2.out; omega); replace hV3 := hV3.grown hg (fun h q e => by have := G3.out h q e; have := HZ3.out; omega); replace hU3 := hU3.grown hg (fun h q e => by have := G4.out h q e; have := HZ3.out; omega); replace HR := hk; clear hk hg))
  refine bodyPost_ret (v := .agg #[.slice t1.a c.V.length t1.c, .slice t2.a c.L.length t2.c]) (by rw [results_bk Tryz.results49 _ rfl confT HR rfl]) rfl ?_
  exact ⟨t1, t2, by rw [HC2.out], by rw [HC2.out]; exact hV3, by rw [HC2.out]; exact hU3, .inr ⟨by rw [HC2.out]; exact fun h q e => by have := G3.out h q e; have := HZ3.out; have := hy2.out; omega, by rw [HC2.out]; exact fun h q e => by have := G4.out h q e; have := HZ3.out; have := hy2.out; omega⟩, HB⟩
 case false =>
  clear hV3 hU3
  go_wp2_with (first
   | (refine lCc rfl _ rfl rfl (ocA rfl) (by assumption) rfl ?_))
  refine (pApp_any s hss _).mono ?_
  rintro e w5 ⟨c5, u1, u2, r, o, rfl, ho, hV5, hU5, h5, h6, hb⟩
  obtain ⟨w6, y6, hw6, hy6, B6, H6, Z6⟩ := bk_new w5 #[.slice u1.a c5.V.length u1.c, .slice u2.a c5.L.length u2.c] 25
  have B6' : Below w5.heap.size w5 w6 := hy6 ▸ B6
  have HZ5 := hI_ (show y2 < w4.heap.size from HR.lt)
  replace HB := (HB.trans (hb.mono HB.size)).trans (B6'.mono (HB.trans (hb.mono HB.size)).size)
  replace HR := (HR.later hb).later B6'
  replace HL := (HL.later hb).later B6'
  replace HI := (HI.later hb).later B6'
  replace HV := (HV.later hb).later B6'
  replace HU := (HU.later hb).later B6'
  replace hV5 := hV5.later B6'
  replace hU5 := hU5.later B6'
  have HO := hI_ ho
  have G5 := hI_ h5
  have G6 := hI_ h6
  clear hb ho B6 B6' h5 h6 H4
  have HI2 := hI_ (show o = false ∨ ¬ 0 < gb → CC = ci from fun h => by
   rw [HCA.out, HC.out]
   show (if 0 < gb then (match appG s with | some r => r.1 | none => ci) else ci) = ci
   by_cases hg : 0 < gb
   · rw [if_pos hg, HO.out]
     rcases h with h | h
     · subst h; rfl
     · exact absurd hg h
   · rw [if_neg hg])
  cases o
  case false =>
   have HC2 := hI_ (HI2.out (.inl rfl))
   clear hV5 hU5
   go_wp2_with (first
    | (refine lCc rfl _ rfl rfl (ocA rfl) (by assumption) rfl ?_)
    | (refine lBk rfl _ rfl rfl confT (by assumption) rfl ?_)
    | (refine sBk rfl _ _ rfl rfl rfl confT HR rfl rfl rfl ?_; intro w' hk hg; replace HB := bGr HB hg HB.size (by have := hy2.out; omega); replace HV := HV.grown hg (HNV.out); replace HU := HU.grown hg (HNU.out); replace HR := hk; clear hk hg))
   refine bodyPost_ret (v := .agg #[.slice s1.a ci.V.length s1.c, .slice s2.a ci.L.length s2.c]) (by rw [results_bk Tryz.results49 _ rfl confT HR rfl]) rfl ?_
   exact ⟨s1, s2, by rw [HC2.out], by rw [HC2.out]; exact HV, by rw [HC2.out]; exact HU, .inl ⟨HC2.out, rfl, rfl⟩, HB⟩
  case true =>
   by_cases hg : 0 < gb
   case pos =>
    have HC2 := hI_ (show CC = c5 by rw [HCA.out, HC.out]; show (if 0 < gb then (match appG s with | some r => r.1 | none => ci) else ci) = c5; rw [if_pos hg, HO.out]; rfl)
    have g1 : (0 : Int) < (gb : Int) := by omega
    clear HV HU
    have l0 := HL.bx.c 0 _ rfl
    go_wp2_with (first
     | (refine lCc rfl _ rfl rfl (ocA rfl) (by assumption) rfl ?_)
     | (refine lBk rfl _ rfl rfl confT (by assumption) rfl ?_)
     | (refine sBk rfl _ _ rfl rfl rfl confT HR rfl rfl rfl ?_; intro w' hk hg; replace HB := bGr HB hg HB.size (by have := hy2.out; omega); replace hV5 := hV5.grown hg (fun h q e => by have := G5.out h q e; have := HZ5.out; omega); replace hU5 := hU5.grown hg (fun h q e => by have := G6.out h q e; have := HZ5.out; omega); replace HR := hk; clear hk hg))
    refine bodyPost_ret (v := .agg #[.slice u1.a c5.V.length u1.c, .slice u2.a c5.L.length u2.c]) (by rw [results_bk Tryz.results49 _ rfl confT HR rfl]) rfl ?_
    exact ⟨u1, u2, by rw [HC2.out], by rw [HC2.out]; exact hV5, by rw [HC2.out]; exact hU5, .inr ⟨by rw [HC2.out]; exact fun h q e => by have := G5.out h q e; have := HZ5.out; have := hy2.out; omega, by rw [HC2.out]; exact fun h q e => by have := G6.out h q e; have := HZ5.out; have := hy2.out; omega⟩, HB⟩
   case neg =>
    have HC2 := hI_ (HI2.out (.inr hg))
    have g1 : ¬ (0 : Int) < (gb : Int) := by omega
    clear hV5 hU5
    have l0 := HL.bx.c 0 _ rfl
    go_wp2_with (first
     | (refine lCc rfl _ rfl rfl (ocA rfl) (by assumption) rfl ?_)
     | (refine lBk rfl _ rfl rfl confT (by assumption) rfl ?_)
     | (refine sBk rfl _ _ rfl rfl rfl confT HR rfl rfl rfl ?_; intro w' hk hg; replace HB := bGr HB hg HB.size (by have := hy2.out; omega); replace HV := HV.grown hg (HNV.out); replace HU := HU.grown hg (HNU.out); replace HR := hk; clear hk hg))
    refine bodyPost_ret (v := .agg #[.slice s1.a ci.V.length s1.c, .slice s2.a ci.L.length s2.c]) (by rw [results_bk Tryz.results49 _ rfl confT HR rfl]) rfl ?_
    exact ⟨s1, s2, by rw [HC2.out], by rw [HC2.out]; exact HV, by rw [HC2.out]; exact HU, .inl ⟨HC2.out, rfl, rfl⟩, HB⟩
theorem pConf_any (p : Pn) (d : Ad) (hB : Bd p) (K : Nat) (w : World) (hM : NdM K w p d) : Calls Tryz.prog 26 #[ndV p d] w (CfP w p.conf) := by
 obtain ⟨W, hW, HB, HN, Z0⟩ := nk_new w p d
 unfold ndA at hW
 have hl := hB.ents
 obtain ⟨W1, y, hW1, hy, B1, HR, Z1⟩ := bk_new W #[.slice none 0 0, .slice none 0 0] 25
 replace HN := HN.later (hy ▸ B1)
 have HZ := hI_ (show w.heap.size < y by have := Z0.out; omega)
 replace HB := HB.trans (B1.mono (by have := Z0.out; omega))
 have HM := hM.later HB
 clear B1
 go_enter Tryz.func26, Tryz.ntmps26
 go_wp2_with (first
  | (refine lSb rfl _ rfl rfl [.slice d.v.a p.c.V.length d.v.c, .slice d.l.a p.c.L.length d.l.c] confT (by assumption) rfl rfl ?_)
  | (refine lSb rfl _ rfl rfl [.int .u64 p.g.base, .int .u64 p.g.bt, .string p.g.snap, .slice d.e.a p.g.L.length d.e.c] logT (by assumption) rfl rfl ?_))
 refine (pConfAt_any p.c d.v d.l d.e p.g (by omega) (fun x hx => (hB.data x hx).2) hB.snap _ HM.v HM.l HM.e).mono ?_
 rintro e w3 ⟨s1, s2, rfl, hV, hU, hq, hb⟩
 have hcc : confA p.c p.g = p.conf := rfl
 rw [hcc] at *
 have HZ3 := hI_ (show y < W1.heap.size from HR.lt)
 have hne : (0 < p.conf.V.length → ∀ q, s1.a = some q → q.block ≠ y) ∧ (0 < p.conf.L.length → ∀ q, s2.a = some q → q.block ≠ y) := by
  rcases hq with ⟨h1, h2, h3⟩ | ⟨h1, h2⟩
  · have k1 := us_elder hM.v (x := y) (by have := HZ.out; omega)
    have k2 := us_elder hM.l (x := y) (by have := HZ.out; omega)
    rw [← h1] at k1 k2
    rw [h2, h3]
    exact ⟨k1, k2⟩
  · exact ⟨fun h q e => by have := h1 h q e; have := HZ3.out; omega, fun h q e => by have := h2 h q e; have := HZ3.out; omega⟩
 have HNE := hI_ hne
 replace HB := HB.trans (hb.mono HB.size)
 replace HR := HR.later hb
 clear hcc hb hq hne HN HM
 go_wp2_with (first
  | (refine sBk rfl _ _ rfl rfl rfl confT HR rfl rfl rfl ?_; intro w' hk hg; replace HB := bGr HB hg HB.size (by have := HZ.out; omega); replace hV := hV.grown hg HNE.out.1; replace hU := hU.grown hg HNE.out.2; replace HR := hk; clear hk hg))
 refine bodyPost_ret (v := .agg #[.slice s1.a p.conf.V.length s1.c, .slice s2.a p.conf.L.length s2.c]) (by rw [results_bk Tryz.results26 _ rfl confT HR rfl]) rfl ?_
 exact ⟨s1, s2, rfl, hV, hU, HB⟩
end Go.Proofs.YtdcpiaoadbbdoaaGreatDoor
