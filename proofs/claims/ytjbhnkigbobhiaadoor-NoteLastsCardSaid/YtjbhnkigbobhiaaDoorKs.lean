/- The program's Fold, walked. -/
import Derived.Test.YtjbhnkigbobhiaaDoorKg
namespace Go.Proofs.YtjbhnkigbobhiaaDoor
open Go.RowKit

theorem step_tv (s : Sg) (m : Nt) (h : ¬ m.k = 1) : (s.step m).term = s.term ∧ (s.step m).vote = s.vote := by
  unfold Sg.step
  rw [if_neg h]
  split
  · split <;> exact ⟨rfl, rfl⟩
  split
  · exact ⟨rfl, rfl⟩
  split
  · split <;> exact ⟨rfl, rfl⟩
  · exact ⟨rfl, rfl⟩
/-- What Fold answers, and that its entries are no elder block's. -/
def FoQ (w : World) (s : Sg) (e : Ending) (w' : World) : Prop := ∃ a c, e = .returned (s.val a c) ∧ Ents w' a s.L ∧ (∀ q, a = some q → w.heap.size ≤ q.block) ∧ Below w.heap.size w w'
set_option maxRecDepth 100000 in
set_option maxHeartbeats 8000000 in
theorem pFold_far (a0 : Option Addr) (n c0 : Nat) (L0 : List Nt) (hn : L0.length = n) (hl : n ≤ 140737488351232) (w : World) (hN : Nts w a0 L0) :
    Calls Tryd.prog 12 #[.slice a0 n c0] w (FoQ w (Sg.fold L0)) := by
  have HN := Lib.hid hn; clear hn
  have hz0 : Fp w ((w.alloc (.cells #[.int .u64 0, .int .u64 0, .int .u64 0, .int .u64 0, .string ⟨#[]⟩, .slice none 0 0] 36)).alloc (.cells #[.int .u64 0, .int .u64 0, .int .u64 0, .int .u64 0, .string ⟨#[]⟩, .slice none 0 0] 36)) Sg.zero none 0 := by
    refine ⟨Sx.new (by simp) Sg.zero none 0 _, (Sx.new rfl Sg.zero none 0 _).later ((Below.refl _ _).alloc (Nat.le_refl _) _), Oe.nil _ _, by go_grown⟩
  have HZ := Lib.hid hz0; clear hz0
  go_enter Tryd.func12, Tryd.ntmps12
  go_wp2_with fail
  go_loopw [8] (fun i wr => ∃ k a c, k ≤ n ∧ i = .int .i64 k ∧ Fp w wr ((L0.take k).foldl Sg.step Sg.zero) a c) (fun i _ => n - (intOf i).toNat)
  case atStart => exact ⟨0, none, 0, Nat.zero_le _, rfl, HZ.out⟩
  case round =>
    clear HZ
    obtain ⟨k, a, c, hk, rfl, hFr⟩ := hrel
    have hfit := Sg.fit_foldl (L0.take k) Sg.zero Sg.fit_zero
    by_cases hlt : k < n
    · have hkl : k < L0.length := by have := HN.out; omega
      obtain ⟨x, hx⟩ : ∃ x, L0[k]? = some x := ⟨_, List.getElem?_eq_getElem hkl⟩
      have hsucc := Sg.fold_succ L0 k x hx
      obtain ⟨s, hs⟩ : ∃ s, (L0.take k).foldl Sg.step Sg.zero = s := ⟨_, rfl⟩
      rw [hs] at hFr hfit hsucc
      obtain ⟨b, off, rfl, hbb, p0, p1, p2, p3, p4⟩ := (hN.later hFr.below) k x hx
      have i0 : (0 : Int) ≤ (k : Int) := by omega
      have i1 : (k : Int) < (n : Int) := by omega
      have B1 : Below wr.heap.size wr (wr.alloc (.cells #[.int .i64 x.k, .int .u64 x.i, .int .u64 x.t, .int .u64 x.v, .string x.d] 24)) := (Below.refl _ _).alloc (Nat.le_refl _) _
      have hF2 := hFr.later B1
      have q0 := hF2.box.c0
      have q1 := hF2.box.c1
      have q2 := hF2.box.c2
      have q3 := hF2.box.c3
      have q4 := hF2.box.c4
      have q5 := hF2.box.c5
      have qz := hF2.box.fz
      have ql := hF2.box.lt
      have qb : w.heap.size + 2 ≤ wr.heap.size := by have := hFr.box.lt; omega
      have HX := Lib.hid hx
      have HS := Lib.hid hs
      have HSU := Lib.hid hsucc
      have HFR := Lib.hid hF2
      have HFI := Lib.hid hfit
      have HB := Lib.hid B1
      clear hx hs hsucc hFr hF2 hfit hkl B1
      by_cases k1 : x.k = 1
      · have f1 : (x.k == 1) = true := by simpa using k1
        have hstep : s.step x = { s with term := x.t, vote := x.v } := by unfold Sg.step; rw [if_pos k1]
        have HST := Lib.hid hstep
        clear k1 hstep
        go_wp2_with fail
        go_region
        all_goals
          go_wp2_with fail
          have hfin : Fp w (((wr.alloc (.cells #[.int .i64 x.k, .int .u64 x.i, .int .u64 x.t, .int .u64 x.v, .string x.d] 24)).setCell ⟨w.heap.size + 1, 0, none⟩ (.int .u64 x.t)).setCell ⟨w.heap.size + 1, 1, none⟩ (.int .u64 x.v)) ((L0.take (k + 1)).foldl Sg.step Sg.zero) a c := by
            rw [HSU.out, HST.out]; exact HFR.out.hard x.t x.v
          go_roundw
          case rel => exact ⟨k + 1, a, c, by omega, by go_num, hfin.later (Below.refl _ _).drew⟩
          case measure => simp [intOf]; omega
      have f1 : (x.k == 1) = false := by simpa using k1
      have htv := step_tv s x k1
      have HTV := Lib.hid htv
      clear k1 htv
      by_cases k2 : x.k = 2
      · have f2 : (x.k == 2) = true := by simpa using k2
        have HK := Lib.hid k2
        clear k2
        go_wp2_with fail
        refine (appended_any (w.heap.size + 2) s a c HFI.out _ HFR.out.oe (by simp; omega) x HK.out).mono ?_
        rintro e w2 ⟨a', c', rfl, hO', hb'⟩
        have x1 : w.heap.size + 1 < w.heap.size + 2 := by omega
        have y2 := (hb'.cell (p := ⟨w.heap.size + 1, 2, none⟩) x1).trans q2
        have y3 := (hb'.cell (p := ⟨w.heap.size + 1, 3, none⟩) x1).trans q3
        have y4 := (hb'.cell (p := ⟨w.heap.size + 1, 4, none⟩) x1).trans q4
        have y5 := (hb'.cell (p := ⟨w.heap.size + 1, 5, none⟩) x1).trans q5
        have yz : ∀ j, w2.frozen? ⟨w.heap.size + 1, j, none⟩ = false := fun j => (hb'.frozen (p := ⟨w.heap.size + 1, j, none⟩) x1).trans (qz j)
        have hfin : Fp w (setLg w2 (w.heap.size + 1) (s.step x) a' c') ((L0.take (k + 1)).foldl Sg.step Sg.zero) a' c' := by
          rw [HSU.out]; exact HFR.out.lg hO' hb' HTV.out.1 HTV.out.2
        have HFIN := Lib.hid hfin
        clear hO' hb' hfin q0 q1 q2 q3 q4 q5 qz
        go_wp2_with fail
        go_roundw
        case rel => exact ⟨k + 1, a', c', by omega, by go_num, HFIN.out⟩
        case measure => simp [intOf]; omega
      have f2 : (x.k == 2) = false := by simpa using k2
      by_cases k3 : x.k = 3
      · have f3 : (x.k == 3) = true := by simpa using k3
        have HK := Lib.hid k3
        clear k3
        go_wp2_with fail
        refine (cut_any (w.heap.size + 2) s a c HFI.out _ HFR.out.oe (by simp; omega) x HK.out).mono ?_
        rintro e w2 ⟨a', c', rfl, hO', hb'⟩
        have x1 : w.heap.size + 1 < w.heap.size + 2 := by omega
        have y2 := (hb'.cell (p := ⟨w.heap.size + 1, 2, none⟩) x1).trans q2
        have y3 := (hb'.cell (p := ⟨w.heap.size + 1, 3, none⟩) x1).trans q3
        have y4 := (hb'.cell (p := ⟨w.heap.size + 1, 4, none⟩) x1).trans q4
        have y5 := (hb'.cell (p := ⟨w.heap.size + 1, 5, none⟩) x1).trans q5
        have yz : ∀ j, w2.frozen? ⟨w.heap.size + 1, j, none⟩ = false := fun j => (hb'.frozen (p := ⟨w.heap.size + 1, j, none⟩) x1).trans (qz j)
        have hfin : Fp w (setLg w2 (w.heap.size + 1) (s.step x) a' c') ((L0.take (k + 1)).foldl Sg.step Sg.zero) a' c' := by
          rw [HSU.out]; exact HFR.out.lg hO' hb' HTV.out.1 HTV.out.2
        have HFIN := Lib.hid hfin
        clear hO' hb' hfin q0 q1 q2 q3 q4 q5 qz
        go_wp2_with fail
        go_roundw
        case rel => exact ⟨k + 1, a', c', by omega, by go_num, HFIN.out⟩
        case measure => simp [intOf]; omega
      have f3 : (x.k == 3) = false := by simpa using k3
      by_cases k4 : x.k = 4
      · have f4 : (x.k == 4) = true := by simpa using k4
        have HK := Lib.hid k4
        clear k4
        go_wp2_with fail
        refine (snapped_any (w.heap.size + 2) s a c HFI.out _ HFR.out.oe (by simp; omega) x HK.out).mono ?_
        rintro e w2 ⟨a', c', rfl, hO', hb'⟩
        have x1 : w.heap.size + 1 < w.heap.size + 2 := by omega
        have y2 := (hb'.cell (p := ⟨w.heap.size + 1, 2, none⟩) x1).trans q2
        have y3 := (hb'.cell (p := ⟨w.heap.size + 1, 3, none⟩) x1).trans q3
        have y4 := (hb'.cell (p := ⟨w.heap.size + 1, 4, none⟩) x1).trans q4
        have y5 := (hb'.cell (p := ⟨w.heap.size + 1, 5, none⟩) x1).trans q5
        have yz : ∀ j, w2.frozen? ⟨w.heap.size + 1, j, none⟩ = false := fun j => (hb'.frozen (p := ⟨w.heap.size + 1, j, none⟩) x1).trans (qz j)
        have hfin : Fp w (setLg w2 (w.heap.size + 1) (s.step x) a' c') ((L0.take (k + 1)).foldl Sg.step Sg.zero) a' c' := by
          rw [HSU.out]; exact HFR.out.lg hO' hb' HTV.out.1 HTV.out.2
        have HFIN := Lib.hid hfin
        clear hO' hb' hfin q0 q1 q2 q3 q4 q5 qz
        go_wp2_with fail
        go_roundw
        case rel => exact ⟨k + 1, a', c', by omega, by go_num, HFIN.out⟩
        case measure => simp [intOf]; omega
      have f4 : (x.k == 4) = false := by simpa using k4
      · have hstep : s.step x = s := by
          have g1 : ¬ x.k = 1 := by simpa using f1
          unfold Sg.step; rw [if_neg g1, if_neg k2, if_neg k3, if_neg k4]
        have hfin : Fp w (wr.alloc (.cells #[.int .i64 x.k, .int .u64 x.i, .int .u64 x.t, .int .u64 x.v, .string x.d] 24)) ((L0.take (k + 1)).foldl Sg.step Sg.zero) a c := by
          rw [HSU.out, hstep]; exact HFR.out
        have HFIN := Lib.hid hfin
        clear k2 k3 k4 hstep hfin
        go_wp2_with fail
        go_roundw
        case rel => exact ⟨k + 1, a, c, by omega, by go_num, HFIN.out⟩
        case measure => simp [intOf]; omega
    · obtain rfl : k = n := by omega
      have e : (L0.take k).foldl Sg.step Sg.zero = Sg.fold L0 := by rw [List.take_of_length_le (by have := HN.out; omega)]; rfl
      rw [e] at hFr
      obtain ⟨⟨q0, q1, q2, q3, q4, q5, qz, ql⟩, ⟨r0, r1, r2, r3, r4, r5, rz, rl⟩, hO, hb⟩ := hFr
      have HO := Lib.hid hO
      clear hO e hfit
      go_wp2_with fail
      refine bodyPost_ret (v := (Sg.fold L0).val a c) (by simp [results, Tryd.results12, go_sem, r0, r1, r2, r3, r4, r5]) rfl ?_
      have n0 : ∀ q, a = some q → q.block ≠ w.heap.size := fun q e => by have := (HO.out.far q e).1; omega
      refine ⟨a, c, rfl, ?_, ?_, ?_⟩
      · exact set6_ents HO.out.ents n0 (Sg.fold L0) a c
      · exact fun q e => by have := (HO.out.far q e).1; omega
      · exact set6_below hb (Nat.le_refl _) (Sg.fold L0) a c
theorem pFold_any (a0 : Option Addr) (n c0 : Nat) (L0 : List Nt) (hn : L0.length = n) (hl : n ≤ 140737488351232) (w : World) (hN : Nts w a0 L0) :
    Calls Tryd.prog 12 #[.slice a0 n c0] w (FoP w (Sg.fold L0)) :=
  (pFold_far a0 n c0 L0 hn hl w hN).mono fun _ _ ⟨a, c, h1, h2, _, h4⟩ => ⟨a, c, h1, h2, h4⟩
end Go.Proofs.YtjbhnkigbobhiaaDoor
/- The document's example, at the head of all statements of layer 4. -/
namespace Go.Proofs.YtjbhnkigbobhiaaDoor
open Go.RowKit

def exL : List Nt := [⟨1, 0, 3, 2, ⟨#[]⟩⟩, ⟨2, 1, 3, 0, ⟨#[97]⟩⟩, ⟨2, 2, 3, 0, ⟨#[98]⟩⟩, ⟨3, 2, 0, 0, ⟨#[]⟩⟩]
def exN : Nt := ⟨4, 1, 3, 0, ⟨#[]⟩⟩
theorem fold_exL : Sg.fold exL = ⟨3, 2, 0, 0, ⟨#[]⟩, [⟨3, ⟨#[97]⟩⟩]⟩ := by simp [Sg.fold, exL, Sg.step, Sg.zero]
theorem fold_exN : Sg.fold (exL ++ [exN]) = ⟨3, 2, 1, 3, ⟨#[]⟩, []⟩ := by
  have e : Sg.fold (exL ++ [exN]) = (Sg.fold exL).step exN := by unfold Sg.fold; rw [List.foldl_append]; rfl
  rw [e, fold_exL]; simp [exN, Sg.step, keptL]
set_option maxRecDepth 100000 in
set_option maxHeartbeats 4000000 in
theorem shown_any (w : World) : Calls Tryd.prog 6 #[] w fun e w' => e = .returned (.bool true) ∧ Below w.heap.size w w' := by
  obtain ⟨i0, hi, hz0, hz1, hz2⟩ := info_parts infoNote
  have hown0 := World.ownsRow_lit (base := w.heap.size) (e := 24) (size := 5) w (ntsCells exL).toArray 4 (Nat.le_refl _) (by unfold maxLen; omega) rfl
  obtain ⟨a0, c0, e0, hN0⟩ := nts_of_owns (L := exL) hown0
  cases e0
  have HOW := Lib.hid hown0
  have HNT := Lib.hid hN0
  have HI := Lib.hid hi
  have HZ0 := Lib.hid hz0
  have HZ1 := Lib.hid hz1
  have HZ2 := Lib.hid hz2
  clear hown0 hN0 hi hz0 hz1 hz2
  go_enter Tryd.func6, Tryd.ntmps6
  go_wp2_with fail
  refine (pFold_any _ 4 4 exL rfl (by omega) _ HNT.out).mono ?_
  rintro e w1 ⟨a1, c1, rfl, _, hb1⟩
  have hown1 := HOW.out.kept ⟨hb1.os, hb1.tape, hb1.output, hb1.size, fun k hk _ => hb1.block k hk⟩ (row := none) (.inr (by simp [Value.ownBlock]))
  have B1 : Below w.heap.size w w1 := ((Below.refl _ w).alloc (Nat.le_refl _) _).trans (hb1.mono (by simp))
  have hsz1 : w.heap.size < w1.heap.size := by have := hb1.size; simp at this; omega
  rw [fold_exL]
  clear hb1
  have HO1 := Lib.hid hown1
  clear hown1
  go_wp2_with (at_builtin; refine wpList_append_own _ rfl _ _ 38 rfl w.heap.size 24 i0 (.agg #[.int .i64 0, .int .u64 0, .int .u64 0, .int .u64 0, .string ⟨#[]⟩]) 5 48 Tryd.underlying38 HI.out HZ0.out HZ1.out HZ2.out rfl (by decide) _ _ _ rfl ((HO1.out.alloc _).alloc _) ⟨w1.heap.size + 1, 0, none⟩ 1 1 (ntCells exN) rfl rfl ?c1 ?c2 ?c3 ?c4 ?c5 ?_)
  case c1 => intro j u hj; rw [addHead]; exact (World.cell?_alloc_at _ _ _ _ (by simp)).trans (by rw [List.getElem?_toArray.symm] at hj; exact hj)
  case c2 => intro u hu; simp only [exN, ntCells, List.mem_cons, List.not_mem_nil, or_false] at hu; rcases hu with rfl | rfl | rfl | rfl | rfl <;> rfl
  case c3 => unfold maxLen; omega
  case c4 => omega
  case c5 => simp; omega
  intro v' w3 hown3 hgrow _
  obtain ⟨a2, c2, rfl, hN2⟩ := nts_of_owns (L := exL ++ [exN]) (by rw [ntsCells_snoc]; exact hown3)
  have hbk : ∀ j, w3.cell? ⟨w1.heap.size, j, none⟩ = (w1.alloc (.cells #[.int .u64 3, .int .u64 2, .int .u64 0, .int .u64 0, .string ⟨#[]⟩, .slice a1 1 c1] 36)).cell? ⟨w1.heap.size, j, none⟩ := fun j => by
    have h1 := World.cell?_of_block (w := (w1.alloc (.cells #[.int .u64 3, .int .u64 2, .int .u64 0, .int .u64 0, .string ⟨#[]⟩, .slice a1 1 c1] 36)).alloc (.cells (ntCells exN).toArray 24)) (a := ⟨w1.heap.size, j, none⟩) (hgrow.block w1.heap.size (by simp; omega) (by simp [Value.ownBlock]; omega))
    rw [h1]
    exact World.cell?_of_block (a := ⟨w1.heap.size, j, none⟩) (Below.heap_alloc _ _ _ (by simp))
  have x0 := (hbk 0).trans (by simp [go_sem] : _ = some (.int .u64 3))
  have x1 := (hbk 1).trans (by simp [go_sem] : _ = some (.int .u64 2))
  have x5 := (hbk 5).trans (by simp [go_sem] : _ = some (.slice a1 1 c1))
  have B3 : Below w.heap.size w w3 := ((B1.alloc (by omega) _).alloc (by simp; omega) _).grown hgrow (by simp; omega) (fun k e => by simp [Value.ownBlock] at e; omega)
  have hsz3 : w1.heap.size < w3.heap.size := by have := hgrow.size; simp at this; omega
  clear hown3 hgrow hbk
  have HN2 := Lib.hid hN2
  clear hN2
  go_wp2_with fail
  refine (pFold_any _ 5 _ (exL ++ [exN]) rfl (by omega) _ HN2.out).mono ?_
  rintro e w4 ⟨a3, c3, rfl, _, hb4⟩
  rw [fold_exN]
  have y0 := (hb4.cell (p := ⟨w1.heap.size, 0, none⟩) hsz3).trans x0
  have y1 := (hb4.cell (p := ⟨w1.heap.size, 1, none⟩) hsz3).trans x1
  have y5 := (hb4.cell (p := ⟨w1.heap.size, 5, none⟩) hsz3).trans x5
  have B4 := B3.trans (hb4.mono B3.size)
  have hsz4 : w1.heap.size < w4.heap.size := Nat.lt_of_lt_of_le hsz3 hb4.size
  have hB5 : Below w.heap.size w (w4.alloc (.cells #[.int .u64 3, .int .u64 2, .int .u64 1, .int .u64 3, .string ⟨#[]⟩, .slice a3 0 c3] 36)) := B4.alloc B4.size _
  have HB := Lib.hid hB5
  clear hb4 x0 x1 x5 B1 B3 B4 hB5
  go_wp2_with fail
  go_ret
  exact ⟨rfl, HB.out⟩
end Go.Proofs.YtjbhnkigbobhiaaDoor
