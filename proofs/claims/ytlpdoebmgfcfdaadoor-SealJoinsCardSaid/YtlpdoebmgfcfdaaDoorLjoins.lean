/- SealJoins: sealed texts one behind the other are told in their order, and then what is sealed in what follows. -/
import Derived.Test.YtlpdoebmgfcfdaaDoorShown
import Derived.Test.YtlpdoebmgfcfdaaDoorPwhole
import Derived.Test.YtlpdoebmgfcfdaaDoorJm
namespace Go.Proofs.YtlpdoebmgfcfdaaDoor
open Go.RowKit Go.Shelf
attribute [local go_sem] Oper.semAt_some

/-- The call's own boxes, and that what lay ahead of it lies as it lay. -/
structure Jb (a : Option Addr) (len cap : Nat) (w wr : World) : Prop where
  c0 : wr.cell? ⟨w.heap.size, 0, none⟩ = some (.slice a len cap)
  c1 : wr.cell? ⟨w.heap.size + 1, 0, none⟩ = some (.bool false)
  f1 : wr.frozen? ⟨w.heap.size + 1, 0, none⟩ = false
  sz : w.heap.size + 2 ≤ wr.heap.size
  bel : Below w.heap.size w wr
theorem Jb.later {a : Option Addr} {len cap : Nat} {w wr w2 : World} (h : Jb a len cap w wr) (hb : Below wr.heap.size wr w2) : Jb a len cap w w2 := by
  have := h.sz
  exact ⟨(hb.cell (p := ⟨w.heap.size, 0, none⟩) (by show w.heap.size < _; omega)).trans h.c0, (hb.cell (p := ⟨w.heap.size + 1, 0, none⟩) (by show w.heap.size + 1 < _; omega)).trans h.c1,
    (hb.frozen (p := ⟨w.heap.size + 1, 0, none⟩) (by show w.heap.size + 1 < _; omega)).trans h.f1, Nat.le_trans h.sz hb.size, h.bel.trans (hb.mono (by omega))⟩
theorem jb_start (a : Option Addr) (len cap : Nat) (w : World) : Jb a len cap w ((w.alloc (.cells #[.slice a len cap] 35)).alloc (.cells #[.bool false] 4)) := by
  have h0 := cell_new_l w (.slice a len cap) 35
  have h1 := cell_new_l (w.alloc (.cells #[.slice a len cap] 35)) (.bool false) 4
  rw [World.size_alloc] at h1
  exact ⟨cell_alloc_l _ h0.1, h1.1, h1.2, by simp, ((Below.refl _ w).alloc (Nat.le_refl _) _).alloc (by simp) _⟩
theorem jb_own {β : Type} {a : Option Addr} {len cap : Nat} {w : World} {B : Nat} (hB : w.heap.size + 2 ≤ B) : OwnFrom B (fun (_ : β) W => Jb a len cap w W) := fun s A C row hs hg hr =>
  ⟨cell_kept hs.c0 hg (fun r e => (hr r e).2), cell_kept hs.c1 hg (fun r e => (hr r e).2), (frozen_kept hs.c1 hg (fun r e => (hr r e).2)).trans hs.f1, Nat.le_trans hs.sz hg.size,
   hs.bel.grown hg hs.bel.size (fun k e => by have := (hr k e).1; omega)⟩
theorem Jb.set {a : Option Addr} {len cap : Nat} {w wr : World} (h : Jb a len cap w wr) {k : Nat} (hk : w.heap.size + 2 ≤ k) (v : Value) : Jb a len cap w (wr.setCell ⟨k, 0, none⟩ v) := by
  refine ⟨?_, ?_, ?_, by simpa using h.sz, h.bel.setCell (by show w.heap.size ≤ k; omega) _⟩
  · rw [World.cell?_setCell_other _ _ _ _ (by intro e; have := congrArg Addr.block e; simp only at this; omega)]; exact h.c0
  · rw [World.cell?_setCell_other _ _ _ _ (by intro e; have := congrArg Addr.block e; simp only at this; omega)]; exact h.c1
  · rw [World.frozen?_setCell]; exact h.f1
theorem Jb.row {a : Option Addr} {len cap : Nat} {w wr : World} (h : Jb a len cap w wr) {ss : List ByteArray} (hr : StrRow w a len ss) : StrRow wr a len ss :=
  ⟨hr.1, hr.2.1, fun i x hx => by
    obtain ⟨b, off, e, hlt, hc⟩ := hr.2.2 i x hx
    exact ⟨b, off, e, by have := h.bel.size; omega, (h.bel.cell (p := ⟨b, off + i, none⟩) hlt).trans hc⟩⟩
set_option maxRecDepth 100000 in
set_option maxHeartbeats 2000000 in
theorem joins_in (n : Nat) (hn : 5 ≤ n) (a : Option Addr) (len cap : Nat) (ss : List ByteArray) (more : ByteArray) (hm : more.size ≤ 140737488351232) (w : World) (hrow : StrRow w a len ss) (hT : Tz w) :
    CallsIn Fence.wide n Tryd.prog 9 #[.slice a len cap, .string more] w fun e w' => e = .returned (.bool true) ∧ Below w.heap.size w w' := by
  have h1 : 1 ≤ n := by omega
  have hl1 := hrow.2.1
  refine callsIn_of_wp_marks Tryd.func9 rfl trivial ?_ rfl
  simp only [Tryd.ntmps9, List.size_toArray, List.length_cons, List.length_nil, Nat.reduceAdd, Nat.reduceSub, Array.replicate_succ, Array.replicate_zero, List.push_toArray, List.append_toArray, List.nil_append, List.cons_append]
  gi_wp2_with (refine ⟨trivial, ?_⟩; gi_at_call 11; refine (callsIn_wide (n := n - 1) |>.2 (shown_any _ (hT.below (((Below.refl _ _).alloc hT.n _).alloc (by have := hT.n; simp; omega) _)))).mono ?_; rintro e w1 ⟨rfl, hb1⟩)
  have hj1 := (jb_start a len cap w).later hb1
  clear hb1
  gi_loopw [6, 7] (fun b i wr => ∃ k : Nat, k ≤ len ∧ i = .int .i64 k ∧ b = .string ⟨(putAll (ss.take k)).toArray⟩ ∧ (∀ s ∈ ss.take k, s.size ≤ 65536) ∧ Jb a len cap w wr) (fun _ i _ => len - (intOf i).toNat)
  case atStart => exact ⟨0, Nat.zero_le _, rfl, rfl, by simp, hj1⟩
  case round =>
    obtain ⟨k, hk, rfl, rfl, hsh, hj⟩ := hrel
    have hc0 := hj.c0
    by_cases hlt : k < len
    · have hks : k < ss.length := by have := hrow.1; omega
      obtain ⟨b, off, rfl, hblt, hcell⟩ := (hj.row hrow).2.2 k ss[k] (List.getElem?_eq_getElem hks)
      obtain ⟨s, hs⟩ : ∃ s, ss[k] = s := ⟨_, rfl⟩
      rw [hs] at hcell
      have hbl : (putAll (ss.take k)).length ≤ k * 65560 := Nat.le_trans (putAll_len _ hsh) (by rw [List.length_take]; exact Nat.mul_le_mul_right _ (Nat.min_le_left _ _))
      obtain ⟨B, hB⟩ : ∃ B, putAll (ss.take k) = B := ⟨_, rfl⟩
      rw [hB] at hbl ⊢
      have HB := Lib.hid hB; clear hB
      have HS := Lib.hid hs; clear hs
      have hTr : Tz wr := hT.below (hj.bel.mono hT.n)
      by_cases hsz : s.size ≤ 65536
      · have hpl : (putB s.data.toList).length ≤ 65560 := by rw [len_put, len_data]; have := numB_le s.size; omega
        have HH := Lib.hid hsh; clear hsh
        gi_wp2_with (refine ⟨trivial, ?_⟩; gi_at_call 14; refine (callsIn_wide.2 (put_any s _ hsz hTr)).mono ?_; rintro e w2 ⟨rfl, hb2⟩)
        go_roundw
        case rel =>
          have e1 : ss.take (k + 1) = ss.take k ++ [s] := by rw [List.take_succ_eq_append_getElem hks, HS.out]
          refine ⟨k + 1, by omega, by go_num, ?_, ?_, hj.later hb2⟩
          · rw [e1, putAll_snoc, HB.out, app_mk]
          · rw [e1]; intro x hx
            rcases List.mem_append.1 hx with hx | hx
            · exact HH.out x hx
            · rw [List.mem_singleton.1 hx]; exact hsz
        case measure => simp [intOf]; omega
      · have hsz' : 65536 < s.size := by omega
        have hc1 := hj.c1
        have hf1 := hj.f1
        gi_wp2_with (refine ⟨trivial, ?_⟩; gi_at_call 14; refine (callsIn_wide.2 (put_big s _ hsz')).mono ?_; rintro e w2 ⟨rfl, rfl⟩)
        have hc4 := World.cell?_setCell_same' wr ⟨w.heap.size + 1, 0, none⟩ (.bool true) (by rw [hc1]; rfl)
        refine ⟨.bool true, ?_, rfl, hj.bel.setCell (by show w.heap.size ≤ w.heap.size + 1; omega) _⟩
        simp [results, Tryd.f9, go_sem, hc4]
    · obtain rfl : k = len := by omega
      have hbl : (putAll (ss.take k)).length ≤ k * 65560 := Nat.le_trans (putAll_len _ hsh) (by rw [List.length_take]; exact Nat.mul_le_mul_right _ (Nat.min_le_left _ _))
      have hst : ss.take k = ss := List.take_of_length_le (by have := hrow.1; omega)
      rw [hst] at hbl hsh ⊢
      have HA := Lib.hid (all_put ss hsh more.data.toList).1
      have HZ := Lib.hid (size_put ss hsh more.data.toList)
      have hml := len_data more
      have hz1 := sizeB_le more.data.toList
      have hz0 := sizeB_nonneg (allB more.data.toList)
      rw [hml] at hz1
      obtain ⟨z, hz⟩ : ∃ z, sizeB (allB more.data.toList) = z := ⟨_, rfl⟩
      rw [hz] at HZ hz1 hz0
      have HZM := Lib.hid hz; clear hz hml
      obtain ⟨B, hB⟩ : ∃ B, putAll ss = B := ⟨_, rfl⟩
      rw [hB] at hbl HA HZ ⊢
      have hn1 : (allB (B ++ more.data.toList)).length ≤ B.length + more.size := by have := all_len_le (B ++ more.data.toList); rw [List.length_append, len_data] at this; exact this
      clear hB hst
      have HSH := Lib.hid hsh; clear hsh
      gi_wp2_with (refine ⟨trivial, ?_⟩; gi_at_call 19; refine (callsIn_wide (n := n - 1) |>.2 (all_any _ _)).mono ?_; rintro e w' ⟨rfl, rfl⟩)
      rw [app_mk]
      have hN := cell_new_l wr (.int .i64 0) 3
      have hS := cell_new_l (wr.alloc (.cells #[.int .i64 0] 3)) (.string ⟨(B ++ more.data.toList).toArray⟩) 9
      rw [World.size_alloc] at hS
      have hj2 : Jb a k cap w ((wr.alloc (.cells #[.int .i64 0] 3)).alloc (.cells #[.string ⟨(B ++ more.data.toList).toArray⟩] 9)) := hj.later (((Below.refl _ wr).alloc (Nat.le_refl _) _).alloc (by simp) _)
      have hsz := hj.sz
      refine range_one h1 (gf := 28) (lb := #[.pointer (some ⟨wr.heap.size + 1, 0, none⟩)]) rfl (enters_of Tryd.func28 (by kernel_rfl) rfl) (p := 40) (q := 11) (enc := fun x : Sh => .string ⟨x.1.toArray⟩)
        (all_stops (n - 1) (by omega) (wr.heap.size + 1) (B ++ more.data.toList) (by rw [List.length_append, len_data]; unfold maxLen; omega) _ (by simp) hS.1)
        (fun pre W => Jb a k cap w W ∧ (W.cell? ⟨wr.heap.size, 0, none⟩ = some (.int .i64 (pre.length : Int)) ∧ W.frozen? ⟨wr.heap.size, 0, none⟩ = false))
        (fun (c : Code) (pre : List Sh) (_ : World) => c = .ret ∧ ∃ i : Nat, ∃ t : ByteArray, ss[i]? = some t ∧ ∃ x, (vals pre)[i]? = some x ∧ x ≠ t.data.toList)
        (OwnFrom.and (jb_own (by simp; omega)) (Own.from (fun s A B row hs hg hr => ⟨cell_kept hs.1 hg hr, (frozen_kept hs.1 hg hr).trans hs.2⟩) _))
        (fun c s A B row hs _ _ => hs)
        ⟨hj2, cell_alloc_l _ hN.1, frozen_alloc_l _ hN.1 hN.2⟩ ?assign ?body ?done ?stop
      case assign =>
        intro l x W K hK
        gi_wp2
        simpa using hK
      case body =>
        rintro l pre ⟨x, hxl⟩ W ⟨hJ, hcn, hfn⟩ hlen
        have hc0 := hJ.c0
        have hp1 : pre.length < B.length + more.size := by omega
        have hp2 : ((pre ++ [(⟨x, hxl⟩ : Sh)]).length : Int) = (pre.length : Int) + 1 := by simp
        have fin : Jb a k cap w (W.setCell ⟨wr.heap.size, 0, none⟩ (.int .i64 ((pre.length : Int) + 1))) ∧ (W.setCell ⟨wr.heap.size, 0, none⟩ (.int .i64 ((pre.length : Int) + 1))).cell? ⟨wr.heap.size, 0, none⟩ = some (.int .i64 ((pre ++ [(⟨x, hxl⟩ : Sh)]).length : Int)) ∧ (W.setCell ⟨wr.heap.size, 0, none⟩ (.int .i64 ((pre.length : Int) + 1))).frozen? ⟨wr.heap.size, 0, none⟩ = false := by
          refine ⟨hJ.set (by omega) _, ?_, ?_⟩
          · rw [hp2]; exact World.cell?_setCell_same' _ _ _ (by rw [hcn]; rfl)
          · rw [World.frozen?_setCell]; exact hfn
        have FIN := Lib.hid fin; clear fin hp2
        by_cases hi : pre.length < k
        · have hks : pre.length < ss.length := by have := hrow.1; omega
          obtain ⟨b, off, rfl, hblt, hcell⟩ := (hJ.row hrow).2.2 pre.length ss[pre.length] (List.getElem?_eq_getElem hks)
          have HI : Hid (ss[pre.length]? = some ss[pre.length]) := List.getElem?_eq_getElem hks
          generalize ss[pre.length] = t at hcell HI
          by_cases hxt : x = t.data.toList
          · have q1 : (x == t.toList) = true := by rw [hxt, ByteArray.toList_eq]; simp
            clear hxt
            gi_wp2
            exact ⟨KeepsOthers.setCell _ _ _, trivial, FIN.out⟩
          · have q1 : (x == t.toList) = false := by rw [ByteArray.toList_eq]; simpa using hxt
            have HX := Lib.hid hxt; clear hxt
            have hc1 := hJ.c1
            have hf1 := hJ.f1
            gi_wp2
            exact ⟨KeepsOthers.setCell _ _ _, rfl, pre.length, t, HI.out, x, by rw [vals_snoc, List.getElem?_append_right (by rw [vals_len]; exact Nat.le_refl _), vals_len]; simp, HX.out⟩
        · gi_wp2
          exact ⟨KeepsOthers.setCell _ _ _, trivial, FIN.out⟩
      case done =>
        rintro D ys W hD hS2 ⟨hJ, hcn, hfn⟩ hK
        have hy0 : ys.length = (allB (B ++ more.data.toList)).length := by rw [← hS2, vals_len]
        have hy1 : k ≤ ys.length := by
          have := hrow.1
          rw [hy0, HA.out, List.length_append]; unfold txts; rw [List.length_map]; omega
        have hy2 : ys.length ≤ B.length + more.size := by omega
        clear hy0 hS2
        have hc0 := hJ.c0
        have hc1 := hJ.c1
        have hf1 := hJ.f1
        have HD := Lib.hid hD; clear hD
        gi_wp2
        refine ⟨trivial, ?_⟩
        refine (callsIn_wide.2 (whole_s _ _ (by rw [ByteArray.size_append, size_arr]; unfold maxLen; omega))).mono ?_
        rintro e w2 ⟨rfl, hb2⟩
        rw [data_app, show (ByteArray.mk B.toArray).data.toList = B from rfl, HZ.out]
        have hJ2 := hJ.later hb2
        have hc02 := hJ2.c0
        gi_wp2
        refine ⟨trivial, ?_⟩
        refine (callsIn_wide.2 (whole_s more _ (by unfold maxLen; omega))).mono ?_
        rintro e w3 ⟨rfl, hb3⟩
        rw [HZM.out]
        have hJ3 := hJ2.later hb3
        have hc3 := hJ3.c1
        have hf3 := hJ3.f1
        have hq : (((B.length : Int) + z) == (B.length : Int) + z) = true := by simp
        gi_wp2
        have hDlt : D < W.heap.size := (Array.getElem?_eq_some_iff.1 hK).1
        have hK3 : w3.heap[D]? = some (.deferred (some [])) := (hb3.block D (Nat.lt_of_lt_of_le hDlt hb2.size)).trans ((hb2.block D hDlt).trans hK)
        have hK' := (KeepsOthers.setCell w3 ⟨w.heap.size + 1, 0, none⟩ (.bool true)).same D _ hK3 rfl
        refine ⟨by simp, .inl ⟨_, _, rfl, run_takeDeferred hK', ?_⟩⟩
        have hc5 := cell_kept (World.cell?_setCell_same' w3 ⟨w.heap.size + 1, 0, none⟩ (.bool true) (by rw [hc3]; rfl)) (grownBy_putObj' _ D (.deferred none)) (fun r e => by cases e; exact ⟨_, hK', rfl⟩)
        refine ⟨.bool true, ?_, rfl, (hJ3.bel.setCell (p := ⟨w.heap.size + 1, 0, none⟩) (by show w.heap.size ≤ w.heap.size + 1; omega) _).trans (belowK_b (w := w) (Nat.le_refl _) _ D _ _ (by have := HD.out; simp at this; omega) hK' rfl rfl)⟩
        simp [results, Tryd.f9, go_sem, hc5]
      case stop =>
        rintro D c pre W _ hpre ⟨rfl, i, t, hi, x, hx, hne⟩ hK
        exfalso
        obtain ⟨suf, hsuf⟩ := hpre
        have e1 : (allB (B ++ more.data.toList))[i]? = some x := by
          rw [← hsuf, List.getElem?_append_left (List.getElem?_eq_some_iff.1 hx).1]; exact hx
        rw [HA.out] at e1
        have hil : i < ss.length := (List.getElem?_eq_some_iff.1 hi).1
        rw [List.getElem?_append_left (by unfold txts; rw [List.length_map]; exact hil)] at e1
        unfold txts at e1
        rw [List.getElem?_map, hi] at e1
        exact hne (by simpa using e1.symm)
/-- SealJoins, every input. -/
theorem law_SealJoins (a : Option Addr) (len cap : Nat) (ss : List ByteArray) (more : ByteArray) (w : World) (hrow : StrRow w a len ss) (hm : more.size ≤ 140737488351232) (hT : Tz w) : Calls Tryd.prog 9 #[.slice a len cap, .string more] w fun e w' => e = .returned (.bool true) ∧ Below w.heap.size w w' :=
  callsIn_wide.1 (joins_in 5 (Nat.le_refl _) a len cap ss more hm w hrow hT)
end Go.Proofs.YtlpdoebmgfcfdaaDoor
