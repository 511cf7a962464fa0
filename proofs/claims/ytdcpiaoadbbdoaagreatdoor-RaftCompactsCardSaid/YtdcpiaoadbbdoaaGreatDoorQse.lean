/- slices.Sort of a short list of numbers. -/
import Derived.Test.YtdcpiaoadbbdoaaGreatDoorRb
import Derived.Test.YtdcpiaoadbbdoaaGreatDoorQh
import Derived.RegionTactic
import Derived.Deep.QuietTactic
import Derived.BigQuiet
import Derived.Test.YtdcpiaoadbbdoaaGreatDoorWk
import Derived.Test.YtdcpiaoadbbdoaaGreatDoorQk
import Derived.Deep.RegionHeld
set_option maxRecDepth 100000
set_option maxHeartbeats 16000000
namespace Go.Proofs.YtdcpiaoadbbdoaaGreatDoor
open Go.RowKit

theorem less_any (x y : Nat) (w : World) : Calls Tryz.prog 186 #[.int .u64 x, .int .u64 y] w fun e w' => e = .returned (.bool (decide (x < y))) ∧ w = w' := by
 by_cases h : x < y
 · have g : (x : Int) < (y : Int) := by omega
   go_enter Tryz.func186, Tryz.ntmps186
   go_wp2_with (go_at_call 193; refine (isNaN_any x _).mono ?_; rintro e w2 ⟨rfl, rfl⟩)
   go_ret
   exact ⟨by simp [h], rfl⟩
 · have g : ¬ (x : Int) < (y : Int) := by omega
   go_enter Tryz.func186, Tryz.ntmps186
   go_wp2_with (go_at_call 193; refine (isNaN_any x _).mono ?_; rintro e w2 ⟨rfl, rfl⟩)
   go_ret
   exact ⟨by simp [h], rfl⟩
def swapL (D : List Nat) (j : Nat) : List Nat := (D.set j ((D[j + 1]?).getD 0)).set (j + 1) ((D[j]?).getD 0)
theorem swapL_at {D : List Nat} {j : Nat} (hj : j + 1 < D.length) (k : Nat) : (swapL D j)[k]?.getD 0 = if k = j then (D[j + 1]?).getD 0 else if k = j + 1 then (D[j]?).getD 0 else (D[k]?).getD 0 := by
 unfold swapL
 rw [List.getElem?_set, List.getElem?_set]
 by_cases h1 : k = j
 · subst h1; rw [if_pos rfl, if_neg (by omega), if_pos rfl, if_pos (by omega)]; rfl
 · rw [if_neg h1]
   by_cases h2 : k = j + 1
   · subst h2; rw [if_pos rfl, if_pos rfl, if_pos (by simpa using hj)]; rfl
   · rw [if_neg h2, if_neg (fun e => h2 e.symm), if_neg (fun e => h1 e.symm)]
theorem swapL_perm {D : List Nat} {j : Nat} (hj : j + 1 < D.length) : (swapL D j).Perm D := by
 induction D generalizing j with
 | nil => simp at hj
 | cons x r ih =>
  cases j with
  | zero =>
   cases r with
   | nil => simp at hj
   | cons y t => simp only [swapL]; simp; exact List.Perm.swap x y t
  | succ j =>
   have h := ih (j := j) (by simpa using hj)
   have e : swapL (x :: r) (j + 1) = x :: swapL r j := by simp [swapL]
   rw [e]; exact h.cons x
def Srt (D : List Nat) (i j : Nat) : Prop := ∀ a b, a < b → b ≤ i → b ≠ j → (D[a]?).getD 0 ≤ (D[b]?).getD 0
def SrtA (D : List Nat) (i : Nat) : Prop := ∀ a b, a < b → b < i → (D[a]?).getD 0 ≤ (D[b]?).getD 0
theorem srt_step {D : List Nat} {i j : Nat} (hj : j + 1 < D.length) (_ : j + 1 ≤ i) (h : Srt D i (j + 1)) (hlt : (D[j + 1]?).getD 0 < (D[j]?).getD 0) : Srt (swapL D j) i j := fun a b hab hbi hbj => by
 have ea := swapL_at hj a
 have eb := swapL_at hj b
 by_cases hb1 : b = j + 1
 · rw [if_neg hbj, if_pos hb1] at eb
   by_cases ha : a = j
   · rw [if_pos ha] at ea; omega
   · rw [if_neg ha, if_neg (by omega)] at ea
     have := h a j (by omega) (by omega) (by omega); omega
 · rw [if_neg hbj, if_neg hb1] at eb
   by_cases ha : a = j
   · rw [if_pos ha] at ea
     have := h (j + 1) b (by omega) hbi hb1; omega
   · rw [if_neg ha] at ea
     by_cases ha2 : a = j + 1
     · rw [if_pos ha2] at ea
       have := h j b (by omega) hbi hb1; omega
     · rw [if_neg ha2] at ea
       have := h a b hab hbi hb1; omega
theorem srt_end {D : List Nat} {i j : Nat} (h : Srt D i j) (hs : j = 0 ∨ (D[j - 1]?).getD 0 ≤ (D[j]?).getD 0) : SrtA D (i + 1) := fun a b hab hb => by
 by_cases hbj : b = j
 · subst hbj
   rcases hs with h0 | h0
   · omega
   · by_cases ha : a = b - 1
     · subst ha; exact h0
     · exact Nat.le_trans (h a (b - 1) (by omega) (by omega) (by omega)) h0
 · exact h a b hab (by omega) hbj
theorem Us.put {w : World} {g : Nat} {D : List Nat} (h : Us w (some ⟨g, 0, none⟩) D) (i v : Nat) (hi : i < D.length) : Us (w.setCell ⟨g, i, none⟩ (.int .u64 v)) (some ⟨g, 0, none⟩) (D.set i v) := fun j y hy => by
 rw [List.getElem?_set] at hy
 by_cases hij : i = j
 · subst hij
   rw [if_pos rfl, if_pos hi] at hy
   obtain rfl : v = y := Option.some.inj hy
   obtain ⟨b, off, e, hlt, c⟩ := h i _ (List.getElem?_eq_getElem hi)
   cases e
   rw [Nat.zero_add] at c
   exact ⟨g, 0, rfl, by simpa using hlt, by rw [Nat.zero_add]; simp [go_sem, c]⟩
 · rw [if_neg hij] at hy
   obtain ⟨b, off, e, hlt, c⟩ := h j y hy
   cases e
   exact ⟨g, 0, rfl, by simpa using hlt, by rw [World.cell?_setCell_other _ _ _ _ (by simp)]; exact c⟩
theorem Us.at0 {w : World} {g : Nat} {D : List Nat} (h : Us w (some ⟨g, 0, none⟩) D) {i : Nat} (hi : i < D.length) : w.cell? ⟨g, i, none⟩ = some (.int .u64 ((D[i]?).getD 0 : Nat)) := by
 obtain ⟨b, off, e, _, c⟩ := h i _ (List.getElem?_eq_getElem hi)
 cases e
 rw [List.getElem?_eq_getElem hi]
 rw [Nat.zero_add] at c; exact c
def SoP (g : Nat) (D : List Nat) (w w' : World) : Prop := ∃ S, S.Perm D ∧ SrtA S S.length ∧ Us w' (some ⟨g, 0, none⟩) S ∧ (∀ j, w'.frozen? ⟨g, j, none⟩ = false) ∧ w.grownBy w' (some g)
theorem grown_drewN {w w' : World} {x : Nat} (h : w.grownBy w' (some x)) (q : Nat) : w.grownBy (w'.drewN q) (some x) := ⟨h.os, h.tape, h.output, h.size, h.block⟩
theorem Us.drewN' {w : World} {a : Option Addr} {D : List Nat} (h : Us w a D) (q : Nat) : Us (w.drewN q) a D := h.later (below_drewN (Below.refl _ _) _)
theorem frozen_drewN {w : World} {g : Nat} (h : ∀ j, w.frozen? ⟨g, j, none⟩ = false) (q : Nat) : ∀ j, (w.drewN q).frozen? ⟨g, j, none⟩ = false := fun j => h j
theorem grown_refl (w : World) (x : Nat) : w.grownBy w (some x) := ⟨rfl, rfl, rfl, Nat.le_refl _, fun _ _ _ => rfl⟩
theorem ins_any (n c g : Nat) (D : List Nat) (hn : D.length = n) (hl : n ≤ 12) (w : World) (hU : Us w (some ⟨g, 0, none⟩) D) (hf : ∀ j, w.frozen? ⟨g, j, none⟩ = false) :
 Calls Tryz.prog 194 #[.slice (some ⟨g, 0, none⟩) n c, .int .i64 0, .int .i64 n] w fun e w' => e = .returned (.tuple #[]) ∧ SoP g D w w' := by
 have HN := hI_ hn
 clear hn
 go_enter Tryz.func194, Tryz.ntmps194
 go_wp2_with fail
 go_loopw [6] (fun u wr => ∃ (i : Nat) (S : List Nat), 1 ≤ i ∧ (i ≤ n ∨ i = 1) ∧ u = .int .i64 i ∧ S.Perm D ∧ SrtA S i ∧ Us wr (some ⟨g, 0, none⟩) S ∧ (∀ j, wr.frozen? ⟨g, j, none⟩ = false) ∧ w.grownBy wr (some g)) (fun u _ => n - (intOf u).toNat)
 case atStart => exact ⟨1, D, Nat.le_refl _, .inr rfl, rfl, List.Perm.refl _, fun a b hab hb => by omega, hU, hf, grown_refl _ _⟩
 case round =>
  obtain ⟨i, S, hi1, hi2, rfl, hp, hs, hu, hfz, hg⟩ := hrel
  have hSl : S.length = n := by rw [hp.length_eq]; exact HN.out
  by_cases hlt : i < n
  case neg =>
   have g1 : ¬ (i : Int) < (n : Int) := by omega
   have HF := hI_ (show SoP g D w wr from ⟨S, hp, fun a b hab hb => by
    by_cases h : i = 1
    · exact hs a b hab (by omega)
    · exact hs a b hab (by omega), hu, hfz, hg⟩)
   clear hu hp hs
   go_wp2_with fail
   refine bodyPost_end (results_none rfl _ _ _) rfl ?_
   exact ⟨rfl, HF.out⟩
  case pos =>
   have g1 : (i : Int) < (n : Int) := by omega
   have HP := hI_ hp
   have HS := hI_ hs
   have HG := hI_ hg
   have HU := hI_ hu
   have HFZ := hI_ hfz
   clear hp hs hg hu hfz
   go_wp2_with fail
   obtain ⟨wp, rfl⟩ : ∃ x, x = wr := ⟨_, rfl⟩
   go_loopw [7] (fun u wr => ∃ (j : Nat) (S : List Nat), j ≤ i ∧ u = .int .i64 j ∧ S.Perm D ∧ Srt S i j ∧ Us wr (some ⟨g, 0, none⟩) S ∧ (∀ j, wr.frozen? ⟨g, j, none⟩ = false) ∧ w.grownBy wr (some g)) (fun u _ => (intOf u).toNat)
   case atStart => exact ⟨i, S, Nat.le_refl _, rfl, HP.out, fun a b hab hbi hbj => HS.out a b hab (by omega), HU.out, HFZ.out, HG.out⟩
   case round =>
    obtain ⟨j, S, hji, rfl, hp, hs, hu, hfz, hg⟩ := hrel
    have hSl : S.length = n := by rw [hp.length_eq]; exact HN.out
    have HP := hI_ hp
    have HS := hI_ hs
    have HG := hI_ hg
    have HU := hI_ hu
    have HFZ := hI_ hfz
    by_cases hj0 : j = 0
    case pos =>
     subst hj0
     have HE := hI_ (srt_end hs (.inl rfl))
     clear hp hs hg hu hfz
     go_wp2_with fail
     go_quiet (fail)
     go_wp2_with fail
     go_roundw
     case rel => exact ⟨i + 1, S, by omega, .inl (by omega), by go_num, HP.out, HE.out, HU.out.drewN' _, frozen_drewN HFZ.out _, grown_drewN HG.out _⟩
     case measure => simp [intOf]; omega
    case neg =>
     have k0 := hu.at0 (i := j) (by omega)
     have k1 := hu.at0 (i := j - 1) (by omega)
     have z1 : IntKind.i64.wrap ((j : Int) - 1) = ((j - 1 : Nat) : Int) := by rw [IntWalk.i64_in _ (by omega)]; omega
     have z2 : (j : Int) - 1 = ((j - 1 : Nat) : Int) := by omega
     obtain ⟨x, hx⟩ : ∃ x, (S[j]?).getD 0 = x := ⟨_, rfl⟩
     obtain ⟨y, hy⟩ : ∃ y, (S[j - 1]?).getD 0 = y := ⟨_, rfl⟩
     rw [hx] at k0
     rw [hy] at k1
     obtain ⟨q, hq⟩ : ∃ q, j - 1 = q := ⟨_, rfl⟩
     rw [hq] at k1 z1 z2 hy
     have i0 : decide (0 < j) = true := decide_eq_true (by omega)
     have i1 : (j : Int) < (n : Int) := by omega
     have i2 : (0 : Int) ≤ (q : Int) := by omega
     have i3 : (q : Int) < (n : Int) := by omega
     have i4 : (0 : Int) ≤ (j : Int) := by omega
     have HX := hI_ hx
     have HY := hI_ hy
     have HQ := hI_ hq
     clear hp hs hg hu hx hy hq
     by_cases hxy : x < y
     case neg =>
      have HE := hI_ (srt_end HS.out (.inr (by rw [HX.out, HQ.out, HY.out]; omega)))
      go_wp2_with fail
      go_quiet ((go_at_call 186; exact Calls.quiet_of_same ((less_any x y _).mono fun _ _ h => ⟨h.1.trans (by rw [decide_eq_false hxy]), h.2.symm⟩)))
      go_wp2_with fail
      go_roundw
      case rel => exact ⟨i + 1, S, by omega, .inl (by omega), by go_num, HP.out, HE.out, HU.out.drewN' _, frozen_drewN HFZ.out _, grown_drewN HG.out _⟩
      case measure => simp [intOf]; omega
     case pos =>
      go_wp2_with fail
      go_quiet ((go_at_call 186; exact Calls.quiet_of_same ((less_any x y _).mono fun _ _ h => ⟨h.1.trans (by rw [decide_eq_true hxy]), h.2.symm⟩)))
      have HU2 := hI_ (HU.out.drewN' nq)
      have HZ2 := hI_ (frozen_drewN HFZ.out nq)
      have HG2 := hI_ (grown_drewN HG.out nq)
      have k0' := k0
      have hz := frozen_drewN HFZ.out nq
      go_wp2_with fail
      have FIN := hI_ (show ∀ W, ((wr.drewN (nq + 1)).setCell ⟨g, j, none⟩ (.int .u64 y)).setCell ⟨g, q, none⟩ (.int .u64 x) = W → (swapL S q).Perm D ∧ Srt (swapL S q) i q ∧ Us W (some ⟨g, 0, none⟩) (swapL S q) ∧ (∀ j, W.frozen? ⟨g, j, none⟩ = false) ∧ w.grownBy W (some g) from fun W hW => by
       subst hW
       have hq := HQ.out
       obtain rfl : j = q + 1 := by omega
       have e : swapL S q = (S.set (q + 1) y).set q x := by
        unfold swapL
        rw [HX.out, HY.out, List.set_comm _ _ (by omega)]
       refine ⟨(swapL_perm (by omega)).trans HP.out, srt_step (by omega) hji HS.out (by rw [HX.out, HY.out]; exact hxy), ?_, ?_, ?_⟩
       · rw [e]
         exact ((HU.out.drewN' (nq + 1)).put (q + 1) y (by omega)).put q x (by rw [List.length_set]; omega)
       · intro j
         rw [World.frozen?_setCell, World.frozen?_setCell]
         exact frozen_drewN HFZ.out _ j
       · exact grown_trans (grown_trans (grown_drewN HG.out _) (setCell_grown _ _ _ _)) (setCell_grown _ _ _ _))
      have hjq := hI_ (show q < j by have := HQ.out; omega)
      go_region
      all_goals
       generalize hW : ((wr.drewN (nq + 1)).setCell ⟨g, j, none⟩ (.int .u64 y)).setCell ⟨g, q, none⟩ (.int .u64 x) = W9
       have HW := hI_ (FIN.out W9 hW)
       clear hW
       go_wp2_with fail
       go_roundw
       case rel =>
        obtain ⟨h1, h2, h3, h4, h5⟩ := HW.out
        exact ⟨q, swapL S q, by have := hjq.out; omega, by first | rfl | go_num, h1, h2, h3, h4, h5⟩
       case measure => have := hjq.out; simp [intOf]; omega
theorem bitsLen_any (n : Nat) (hn : n ≤ 12) (w : World) : Calls Tryz.prog 172 #[.int .u64 n] w fun e w' => (∃ k : Int, e = .returned (.int .i64 k)) ∧ w = w' := by
 have h := Any.bits_Len (SlLaysF0.n15.bits (P := Tryz.prog) (ρ := Tryz.sortL_ren) { Tryz.sortL with }) (n : Int) w (by omega) (by omega)
 change Calls Tryz.prog 172 _ _ _ at h
 exact h.mono fun e w' ⟨h1, h2⟩ => ⟨⟨_, h1⟩, h2.symm⟩
theorem pdq_any (n c g : Nat) (k : Int) (D : List Nat) (hn : D.length = n) (hl : n ≤ 12) (w : World) (hU : Us w (some ⟨g, 0, none⟩) D) (hf : ∀ j, w.frozen? ⟨g, j, none⟩ = false) :
 Calls Tryz.prog 171 #[.slice (some ⟨g, 0, none⟩) n c, .int .i64 0, .int .i64 n, .int .i64 k] w fun e w' => e = .returned (.tuple #[]) ∧ SoP g D w w' := by
 have g1 : (n : Int) ≤ 12 := by omega
 have w1 : IntKind.i64.wrap ((n : Int) - 0) = (n : Int) := by rw [Int.sub_zero]; exact IntWalk.i64_in _ (by omega)
 have HF := hI_ hf
 go_enter Tryz.func171, Tryz.ntmps171
 go_wp2_with fail
 refine wp_loop_rounds 1 ?_
 rw [rounds_succ]
 go_wp2_with fail
 refine (ins_any n c g D hn hl _ hU HF.out).mono ?_
 rintro e w2 ⟨rfl, hs⟩
 have HS := hI_ hs
 clear hs
 go_wp2_with fail
 refine bodyPost_ret (results_none rfl _ _ _) rfl ?_
 exact ⟨rfl, HS.out⟩
theorem sortU_any (n c g : Nat) (D : List Nat) (hn : D.length = n) (hl : n ≤ 12) (w : World) (hU : Us w (some ⟨g, 0, none⟩) D) (hf : ∀ j, w.frozen? ⟨g, j, none⟩ = false) :
 Calls Tryz.prog 136 #[.slice (some ⟨g, 0, none⟩) n c] w fun e w' => e = .returned (.tuple #[]) ∧ SoP g D w w' := by
 have HF := hI_ hf
 have w1 : IntKind.u64.wrap (n : Int) = (n : Int) := IntWalk.u64_in _ (by omega)
 go_enter Tryz.func136, Tryz.ntmps136
 go_wp2_with fail
 refine (bitsLen_any n hl _).mono ?_
 rintro e w2 ⟨⟨k, rfl⟩, rfl⟩
 go_wp2_with fail
 refine (pdq_any n c g k D hn hl _ hU HF.out).mono ?_
 rintro e w2 ⟨rfl, hs⟩
 have HS := hI_ hs
 clear hs
 go_wp2_with fail
 refine bodyPost_end (results_none rfl _ _ _) rfl ?_
 exact ⟨rfl, HS.out⟩

theorem us_rw {w : World} {a : Option Addr} {L : List Nat} (h : Us w a L) : Rw 1 u64C w a L := fun j x hx => by
 obtain ⟨b, off, e, hlt, c⟩ := h j x hx
 refine ⟨b, off, e, hlt, fun i u hu => ?_⟩
 match i, hu with
 | 0, hu => cases hu; rw [Nat.mul_one]; exact c
theorem grow_any (n : Nat) (hn : 1 ≤ n) (hl : n ≤ 12) (w : World) :
 Calls Tryz.prog 170 #[.slice none 0 0, .int .i64 n] w fun e w' => ∃ v, e = .returned v ∧ Cq 22 1 u64C w.heap.size w' v [] ∧ Below w.heap.size w w' := by
 obtain ⟨i0, hi, hz0, hz1, hz2⟩ := info_parts usT.info
 have hr := Lib.run_append_nil_zeros (P := Tryz.prog) w 23 3 23 22 i0 _ .i64 .i64 Tryz.underlying23 Tryz.underlying3 hi hz0 n (by omega) (by rw [hz1]; decide) (by omega) (by rw [hz2]; omega)
 have hcl := grownCap_le_maxLen w n 0 22 (by unfold maxLen; omega)
 have hcg := grownCap_ge w n 0 22
 obtain ⟨cap, hcap⟩ : ∃ cap, grownCap w n 0 22 = cap := ⟨_, rfl⟩
 rw [hcap] at hr hcl hcg
 obtain ⟨W, hW⟩ : ∃ W, w.drew.alloc (.cells (Builtin.zeroCells (Value.int .u64 0).cells n ++ Builtin.zeroCells (Value.int .u64 0).cells (cap - n)) 22) = W := ⟨_, rfl⟩
 rw [hW] at hr
 have HF := hI_ (show Cq 22 1 u64C w.heap.size W (.slice (some ⟨w.heap.size, 0, none⟩) 0 cap) [] ∧ Below w.heap.size w W from by
  subst hW
  refine ⟨.inr ⟨rfl, .inr ⟨w.heap.size, cap, _, rfl, Nat.le_refl _, heap_alloc_new w.drew _, Nat.zero_le _, hcl, ?_, rfl⟩⟩, ((Below.refl _ _).drew).alloc (Nat.le_refl _) _⟩
  rw [Array.size_append, size_zeroCells, size_zeroCells]
  simp [Value.cells]; omega)
 have HR := hI_ hr
 have g1 : ¬ (n : Int) < 0 := by omega
 have g2 : (0 : Int) < (n : Int) := by omega
 have w1 : IntKind.i64.wrap ((n : Int) - 0) = (n : Int) := by rw [Int.sub_zero]; exact IntWalk.i64_in _ (by omega)
 have i2 : (0 : Int) ≤ (cap : Int) := by omega
 clear hr hW hcap hcl hcg hi hz0 hz1 hz2
 go_enter Tryz.func170, Tryz.ntmps170
 go_wp2_with (at_builtin; refine Lib.wpList_append_run _ rfl _ _ 23 3 rfl (.slice none 0 0) (.int .i64 n) rfl rfl _ _ HR.out ?_)
 go_ret
 exact ⟨_, rfl, HF.out.1, HF.out.2⟩
theorem concat_any (g n m c c2 : Nat) (a a2 : Option Addr) (V L : List Nat) (hn : V.length = n) (hm : L.length = m) (h1 : 1 ≤ n) (hnl : n ≤ 7) (hml : m ≤ 3) (w : World) (k0 : w.cell? ⟨g, 0, none⟩ = some (.slice a n c)) (k1 : w.cell? ⟨g, 1, none⟩ = some (.slice a2 m c2)) (hg : g < w.heap.size) (hV : Us w a V) (hL : Us w a2 L) :
 Calls Tryz.prog 135 #[.slice (some ⟨g, 0, none⟩) 2 2] w fun e w' => ∃ v, e = .returned v ∧ Cq 22 1 u64C w.heap.size w' v (V ++ L) ∧ Below w.heap.size w w' := by
 have HN := hI_ hn
 have HM := hI_ hm
 have K0 := hI_ k0
 have K1 := hI_ k1
 have w1 : IntKind.i64.wrap (0 + (n : Int)) = (n : Int) := by rw [Int.zero_add]; exact IntWalk.i64_in _ (by omega)
 obtain ⟨z, hz⟩ : ∃ z, n + m = z := ⟨_, rfl⟩
 have w2 : IntKind.i64.wrap ((n : Int) + (m : Int)) = (z : Int) := by rw [IntWalk.i64_in _ (by omega)]; omega
 have w3 : (n : Int) + (m : Int) = (z : Int) := by omega
 have g1 : ¬ (n : Int) < 0 := by omega
 have g2 : ¬ (z : Int) < 0 := by omega
 clear hn hm
 go_enter Tryz.func135, Tryz.ntmps135
 go_wp2_with fail
 refine wp_loop_rounds 3 ?_
 iterate 3 (any_goals (rw [rounds_succ]; go_wp2_with fail))
 refine (grow_any z (by omega) (by omega) _).mono ?_
 rintro e x2 ⟨v2, rfl, hc2, hb2⟩
 have q0 := (hb2.cell (p := ⟨g, 0, none⟩) hg).trans K0.out
 have q1 := (hb2.cell (p := ⟨g, 1, none⟩) hg).trans K1.out
 obtain ⟨v3, x3, hr3, hc3, hb3⟩ := app_rw usT w.heap.size x2 23 v2 [] hc2 a n c V HN.out (us_rw (hV.later hb2)) (by simp; omega) hb2.size
 have p0 := (hb3.cell (p := ⟨g, 0, none⟩) hg).trans q0
 have p1 := (hb3.cell (p := ⟨g, 1, none⟩) hg).trans q1
 obtain ⟨v4, x4, hr4, hc4, hb4⟩ := app_rw usT w.heap.size x3 23 v3 ([] ++ V) hc3 a2 m c2 L HM.out (us_rw (hL.later (hb2.trans hb3))) (by simp; have := HN.out; omega) (Nat.le_trans hb2.size hb3.size)
 have s0 := (hb4.cell (p := ⟨g, 0, none⟩) hg).trans p0
 have HR3 := hI_ hr3
 have HR4 := hI_ hr4
 have HF := hI_ (show Cq 22 1 u64C w.heap.size x4 v4 (V ++ L) ∧ Below w.heap.size w x4 from ⟨by simpa using hc4, (hb2.trans hb3).trans hb4⟩)
 clear hr3 hr4 hc2 hc3 hc4 hb2 hb3 hb4 hV hL k0 k1
 go_wp2_with fail
 refine wp_loop_rounds 3 ?_
 iterate 3 (any_goals (rw [rounds_succ]; go_wp2_with (at_builtin; first | (refine Lib.wpList_append_run _ rfl _ _ 23 23 rfl v2 (.slice a n c) rfl rfl _ _ HR3.out ?_) | (refine Lib.wpList_append_run _ rfl _ _ 23 23 rfl v3 (.slice a2 m c2) rfl rfl _ _ HR4.out ?_))))
 go_ret
 exact ⟨v4, rfl, HF.out.1, HF.out.2⟩

theorem strict_ext : ∀ (A B : List Nat), A.Pairwise (· < ·) → B.Pairwise (· < ·) → (∀ x, x ∈ A ↔ x ∈ B) → A = B
 | [], [], _, _, _ => rfl
 | [], b :: B, _, _, h => by have := (h b).2 (List.mem_cons_self ..); cases this
 | a :: A, [], _, _, h => by have := (h a).1 (List.mem_cons_self ..); cases this
 | a :: A, b :: B, hA, hB, h => by
  rw [List.pairwise_cons] at hA hB
  have hab : a = b := by
   rcases List.mem_cons.1 ((h a).1 (List.mem_cons_self ..)) with e | e
   · exact e
   · rcases List.mem_cons.1 ((h b).2 (List.mem_cons_self ..)) with e2 | e2
     · exact e2.symm
     · have := hB.1 a e; have := hA.1 b e2; omega
  subst hab
  rw [strict_ext A B hA.2 hB.2 (fun x => ⟨fun hx => by
   rcases List.mem_cons.1 ((h x).1 (List.mem_cons_of_mem _ hx)) with e | e
   · have := hA.1 x hx; omega
   · exact e, fun hx => by
   rcases List.mem_cons.1 ((h x).2 (List.mem_cons_of_mem _ hx)) with e | e
   · have := hB.1 x hx; omega
   · exact e⟩)]
theorem srtA_pair {S : List Nat} (h : SrtA S S.length) : S.Pairwise (· ≤ ·) := List.pairwise_iff_getElem.2 fun i j hi hj hij => by
 have := h i j hij hj
 rwa [List.getElem?_eq_getElem hi, List.getElem?_eq_getElem hj] at this
theorem strict_of {S : List Nat} (h : S.Pairwise (· ≤ ·)) (hn : S.Nodup) : S.Pairwise (· < ·) := by
 rw [List.Nodup, ] at hn
 exact (h.and hn).imp fun ⟨h1, h2⟩ => by omega
theorem tkG_may {s : List UInt8} (h : (tkG s).2 = 0) : mayB (tkG s).1.1 (tkG s).1.2 = true := by
 unfold tkG at h ⊢
 by_cases h1 : (tkNums 7 s).2.2 ≠ 0
 · rw [if_pos h1] at h; simp at h
 · rw [if_neg h1] at h ⊢
   by_cases h2 : (tkNums 3 (tkNums 7 s).2.1).2.2 ≠ 0 ∨ (tkNums 3 (tkNums 7 s).2.1).2.1 ≠ [] ∨ mayB (tkNums 7 s).1 (tkNums 3 (tkNums 7 s).2.1).1 = false
   · rw [if_pos h2] at h; simp at h
   · rw [if_neg h2]
     cases hb : mayB (tkNums 7 s).1 (tkNums 3 (tkNums 7 s).2.1).1 with
     | true => rfl
     | false => exact absurd (.inr (.inr hb)) h2
theorem told_may {s : List UInt8} {c : Cf} (h : toldB s = some c) : mayB c.V c.L = true := by
 cases s with
 | nil => cases h
 | cons x r =>
  simp only [toldB] at h
  by_cases h1 : x.toNat = 99
  · rw [if_pos h1] at h
    by_cases h2 : (tkG r).2 = 0
    · rw [if_pos h2] at h; cases h; exact tkG_may h2
    · rw [if_neg h2] at h; cases h
  · rw [if_neg h1] at h; cases h
theorem app_may {s : List UInt8} {c : Cf} {r : List UInt8} (h : appG s = some (c, r)) : mayB c.V c.L = true := by
 unfold appG at h
 split at h
 · cases h
 · rename_i b r' hb
   by_cases h2 : (tkG b).2 = 0
   · rw [if_pos h2] at h; cases h; exact tkG_may h2
   · rw [if_neg h2] at h; cases h
theorem confA_may {ci : Cf} (g : Lg) (h : mayB ci.V ci.L = true) : mayB (confA ci g).V (confA ci g).L = true := by
 unfold confA
 split
 · rename_i c hc
   obtain ⟨x, _, hx⟩ := List.exists_of_findSome?_eq_some hc
   exact told_may hx
 · split
   · split
     · rename_i r hr
       obtain ⟨c, r⟩ := r
       exact app_may hr
     · exact h
   · exact h
theorem conf_may {p : Pn} (h : mayB p.c.V p.c.L = true) : mayB p.conf.V p.conf.L = true := confA_may p.g h
theorem oth_mem {c : Cf} {id x : Nat} (h : mayB c.V c.L = true) : x ∈ othersL c id ↔ (x ≠ id ∧ (x ∈ c.V ∨ x ∈ c.L)) := by
 obtain ⟨_, h1, _, h2, _, _⟩ := mayB_iff.1 h
 unfold othersL
 simp only [List.mem_filter, List.mem_range, Bool.and_eq_true, decide_eq_true_eq, Bool.not_eq_true', decide_eq_false_iff_not, Bool.or_eq_true, hasN_iff]
 constructor
 · rintro ⟨_, _, h3, h4⟩; exact ⟨h3, h4⟩
 · rintro ⟨h3, h4⟩
   have h5 : 0 < x ∧ x ≤ 63 := h4.elim (h1 x) (h2 x)
   exact ⟨by omega, by omega, h3, h4⟩
theorem oth_strict (c : Cf) (id : Nat) : (othersL c id).Pairwise (· < ·) := List.Pairwise.filter _ List.pairwise_lt_range
theorem oth_of_sorted {c : Cf} {id : Nat} {S : List Nat} (h : mayB c.V c.L = true) (hp : S.Perm (c.V ++ c.L)) (hs : SrtA S S.length) : lessR id S = othersL c id := by
 obtain ⟨_, _, hv, _, hl, hd⟩ := mayB_iff.1 h
 have hnd : (c.V ++ c.L).Nodup := List.nodup_append.2 ⟨hv.imp fun h => Nat.ne_of_lt h, hl.imp fun h => Nat.ne_of_lt h, fun a ha b hb e => hd b hb (e ▸ ha)⟩
 have hst := strict_of (srtA_pair hs) (hp.nodup_iff.2 hnd)
 refine strict_ext _ _ (hst.filter _) (oth_strict c id) fun x => ?_
 rw [oth_mem h]
 unfold lessR
 simp only [List.mem_filter, Bool.not_eq_true', decide_eq_false_iff_not, hp.mem_iff, List.mem_append]
 exact ⟨fun ⟨a, b⟩ => ⟨b, a⟩, fun ⟨a, b⟩ => ⟨b, a⟩⟩
theorem nodup_len : ∀ (A B : List Nat), A.Nodup → (∀ x ∈ A, x ∈ B) → A.length ≤ B.length
 | [], _, _, _ => Nat.zero_le _
 | a :: A, B, hn, h => by
  rw [List.nodup_cons] at hn
  have ha := h a (List.mem_cons_self ..)
  have h2 := nodup_len A (B.erase a) hn.2 (fun x hx => (List.mem_erase_of_ne (fun e => hn.1 (by rw [← e]; exact hx))).2 (h x (List.mem_cons_of_mem _ hx)))
  rw [List.length_erase_of_mem ha] at h2
  have := List.length_pos_of_mem ha
  simp only [List.length_cons]; omega
theorem oth_len (c : Cf) (id : Nat) (h : mayB c.V c.L = true) : (othersL c id).length ≤ 10 := by
 obtain ⟨⟨_, h1, h2⟩, _, hv, _, hl, hd⟩ := mayB_iff.1 h
 have hnd : (othersL c id).Nodup := (oth_strict c id).imp fun h => Nat.ne_of_lt h
 have hsub : ∀ x ∈ othersL c id, x ∈ c.V ++ c.L := fun x hx => List.mem_append.2 ((oth_mem h).1 hx).2
 have := nodup_len _ _ hnd hsub
 rw [List.length_append] at this
 omega
def OtP (w : World) (M : List Nat) (e : Ending) (w' : World) : Prop := ∃ a c, e = .returned (.slice a M.length c) ∧ Us w' a M ∧ (0 < M.length → ∀ q, a = some q → w.heap.size ≤ q.block) ∧ Below w.heap.size w w'
theorem pOthers_any (p : Pn) (d : Ad) (hBd : Bd p) (K : Nat) (w : World) (hM : NdM K w p d) : Calls Tryz.prog 81 #[ndV p d] w (OtP w p.oth) := by
 obtain ⟨W, hW, HB, HN, Z0⟩ := nk_new w p d
 unfold ndA at hW
 have HM := hM.later HB
 have hmay := conf_may hBd.may
 obtain ⟨⟨hv0, hv7, hl3⟩, _⟩ := mayB_iff.1 hmay
 go_enter Tryz.func81, Tryz.ntmps81
 go_wp2_with (first
  | (refine lBk rfl _ rfl rfl nodeT (by assumption) rfl ?_))
 refine (pConf_any p d hBd K _ HM).mono ?_
 rintro e w1 ⟨s1, s2, rfl, hV, hU, hb⟩
 replace HB := HB.trans (hb.mono HB.size)
 replace HN := HN.later hb
 clear HM hb
 obtain ⟨w2, y2, hw2, hy2, B2, H2, _⟩ := bk_new w1 #[.slice s1.a p.conf.V.length s1.c, .slice s2.a p.conf.L.length s2.c] 25
 have B2' : Below w1.heap.size w1 w2 := hy2 ▸ B2
 obtain ⟨w3, y3, hw3, hy3, B3, H3, _⟩ := bk_new w2 #[.slice s1.a p.conf.V.length s1.c, .slice s2.a p.conf.L.length s2.c] 23
 have B3' : Below w2.heap.size w2 w3 := hy3 ▸ B3
 replace HN := (HN.later B2').later B3'
 replace HB := (HB.trans (B2'.mono HB.size)).trans (B3'.mono (HB.trans (B2'.mono HB.size)).size)
 have hV3 := (hV.later B2').later B3'
 have hU3 := (hU.later B2').later B3'
 have HC := hI_ (concat_any y3 _ _ s1.c s2.c s1.a s2.a p.conf.V p.conf.L rfl rfl hv0 hv7 hl3 w3 (H3.bx.c 0 _ rfl) (H3.bx.c 1 _ rfl) H3.lt hV3 hU3)
 clear hV hU B2 B2' B3 B3' hV3 hU3 H3
 go_wp2_with (first
  | (refine lCc rfl _ rfl rfl (ocA rfl) (by assumption) rfl ?_))
 refine HC.out.mono ?_
 rintro e w4 ⟨v4, rfl, hc4, hb⟩
 have hsz := hI_ (show w.heap.size ≤ w3.heap.size from HB.size)
 have HNl := hI_ HN.lt
 replace HB := HB.trans (hb.mono HB.size)
 replace HN := HN.later hb
 clear hb HC
 rcases hc4 with ⟨h0, _⟩ | hO
 · exfalso
   have := congrArg List.length h0
   rw [List.length_append, List.length_nil] at this; omega
 rcases hO.2 with ⟨_, h0⟩ | ⟨g, cap, cur, rfl, hBg, hg, hc1, hc2, hc3, htk⟩
 · exfalso
   rw [List.length_append] at h0; omega
 have hlen : (p.conf.V ++ p.conf.L).length ≤ 12 := by rw [List.length_append]; omega
 have hus : Us w4 (some ⟨g, 0, none⟩) (p.conf.V ++ p.conf.L) := Rw.us (fun j x hx => by
  have h1 := (Array.getElem?_eq_some_iff.1 hg).1
  refine ⟨g, 0, rfl, h1, fun i u hu => ?_⟩
  have h2 := rwC_at (f := u64C) (k := 1) (fun _ => rfl) (p.conf.V ++ p.conf.L) j x hx i u hu
  have hj := (List.getElem?_eq_some_iff.1 h2).1
  rw [rwC_len (k := 1) (fun _ => rfl)] at hj
  rw [cell_of_row w4 g _ cur _ _ hg, ← Array.getElem?_toList]
  rw [← htk, List.getElem?_take_of_lt (by omega)] at h2
  rw [Nat.zero_add]; exact h2)
 have hfz : ∀ j, w4.frozen? ⟨g, j, none⟩ = false := fun j => by simp [World.frozen?, hg]
 obtain ⟨n, hn⟩ : ∃ n, (p.conf.V ++ p.conf.L).length = n := ⟨_, rfl⟩
 have HS := hI_ (sortU_any n cap g (p.conf.V ++ p.conf.L) hn (by omega) w4 hus hfz)
 have hn10 : n * 8 ≤ 140737488351232 := by omega
 have HNN := hI_ hn
 have HBg := hI_ hBg
 have HG := hI_ (Array.getElem?_eq_some_iff.1 hg).1
 rw [hn]
 clear hO hg hc1 hc2 hc3 htk hus hfz hn hBg
 go_wp2_with fail
 refine HS.out.mono ?_
 rintro e w5 ⟨rfl, S, hp, hs, hus, hfz, hgr⟩
 have hgb := HBg.out
 replace HB := bGr HB hgr HB.size (by have := hsz.out; omega)
 replace HN := HN.grown hgr (by have := HNl.out; omega)
 have HP := hI_ (show lessR p.id S = p.oth from oth_of_sorted hmay hp hs)
 have HSL := hI_ (show S.length = n by rw [hp.length_eq]; exact HNN.out)
 have HU := hI_ hus
 clear hp hs hfz hgr HS hus
 go_wp2_with (first
  | (refine lCc rfl _ rfl rfl (ocA rfl) (by assumption) rfl ?_))
 refine (withoutR_any p.id n cap _ S HSL.out hn10 _ HU.out).mono ?_
 rintro e w6 ⟨a6, c6, rfl, hu6, hf6, hb⟩
 rw [HP.out] at *
 have HF := hI_ (show OtP w p.oth (.returned (.slice a6 p.oth.length c6)) w6 from ⟨a6, c6, rfl, hu6, fun h q e => by have := hf6 h q e; have := HB.size; omega, HB.trans (hb.mono HB.size)⟩)
 generalize (Value.slice a6 p.oth.length c6) = R at *
 clear hu6 hf6 hb
 go_wp2_with fail
 go_ret
 exact HF.out
theorem fldV : ∀ (x y : Value) (w : World), (Instr.field 25 (.agg #[x, y]) 0).run Tryz.prog w = .ok x w := fun _ _ _ => by kernel_rfl
theorem pRivals_any (p : Pn) (d : Ad) (hBd : Bd p) (K : Nat) (w : World) (hM : NdM K w p d) : Calls Tryz.prog 121 #[ndV p d] w (OtP w (rivalsL p.conf p.id)) := by
 obtain ⟨W, hW, HB, HN, Z0⟩ := nk_new w p d
 unfold ndA at hW
 have hmay := conf_may hBd.may
 obtain ⟨⟨hv0, hv7, hl3⟩, _⟩ := mayB_iff.1 hmay
 have hfld := fldV
 go_enter Tryz.func121, Tryz.ntmps121
 go_wp2_with fail
 refine wp_region_held_drew (S := fun w' => Bk w' w.heap.size 34 (ndL p d) ∧ Below w.heap.size w w') (by kernel_rfl) (⟨HN.later ((Below.refl _ _).drew), HB.drew⟩) (fun HS => ?_)
 refine tkh (i := 0) (v := (.agg (ndL p d).toArray)) rfl ⟨by rfl, fun _ hSw => eLb _ rfl rfl nodeT hSw.1 rfl⟩ HS ?_
 try simp only [ly, Act.put]
 refine tkp (i := 3) rfl HS ?_
 refine tkh (i := 4) (v := (.int .u64 p.id)) rfl ⟨by rfl, fun _ hSw => exec_load_c _ rfl rfl ocU hSw.1 rfl⟩ HS ?_
 try simp only [ly, Act.put]
 refine onh (r := 1) (by kernel_rfl) rfl (fun KK hK => ?_)
 go_simp
 refine (pConf_any p d hBd K _ (hM.later HS.2)).mono ?_
 rintro e w2 ⟨s1, s2, rfl, hV, hU, hb⟩
 have HV := hI_ hV
 go_wp2_with fail
 refine hK.out _ _ ⟨HS.1.later hb, HS.2.trans (hb.mono HS.2.size)⟩ (fun HS => ?_)
 clear hK
 try simp only [ly, Act.put]
 refine tkp (i := 2) rfl HS ?_
 try simp only [ly, Act.put]
 refine onh (r := 5) (by kernel_rfl) rfl (fun KK hK => ?_)
 go_simp
 refine (withoutR_any p.id _ s1.c s1.a p.conf.V rfl (by omega) _ HV.out).mono ?_
 rintro e w3 ⟨a3, c3, rfl, hu3, hf3, hb⟩
 have HF := hI_ (show OtP w (rivalsL p.conf p.id) (.returned (.slice a3 (lessR p.id p.conf.V).length c3)) w3 from ⟨a3, c3, rfl, hu3, fun h q e => by have := hf3 h q e; have := HS.2.size; omega, HS.2.trans (hb.mono HS.2.size)⟩)
 generalize (Value.slice a3 (lessR p.id p.conf.V).length c3) = R at *
 go_wp2_with fail
 refine hK.out _ _ ⟨HS.1.later hb, HS.2.trans (hb.mono HS.2.size)⟩ (fun HS => ?_)
 clear hK
 try simp only [ly, Act.put]
 refine tkp (i := 6) rfl HS ?_
 try simp only [ly, Act.put]
 refine wpAnyH_done (by kernel_rfl) ?_ _
 go_wp2_with fail
 go_ret
 exact HF.out

theorem mark_lt' {q : Nat} : ∀ {L : List Mk}, (∀ x ∈ L, x.n < 18446744073709551616) → (markN q L).1 < 18446744073709551616
 | [], _ => by simp [markN]
 | x :: r, h => by
  unfold markN
  split
  · exact h x (List.mem_cons_self ..)
  · exact mark_lt' (fun y hy => h y (List.mem_cons_of_mem _ hy))
theorem agr_lt {p : Pn} (h : Bd p) : p.agr < 18446744073709551616 := by
 unfold Pn.agr agL
 cases hx : (descL (mks p.conf.V p.mat))[(mks p.conf.V p.mat).length / 2]? with
 | none => decide
 | some s =>
  have h1 : s ∈ mks p.conf.V p.mat := (List.mergeSort_perm _ _).mem_iff.1 (List.mem_of_getElem? hx)
  unfold mks at h1
  obtain ⟨v, _, rfl⟩ := List.mem_map.1 h1
  exact mark_lt' h.marks

theorem bd_add {p : Pn} (h : Bd p) {dt : ByteArray} (hd : dt.size ≤ 140737488351232) (h0 : addX p dt = 0) : Bd { p with g := addG p.g ⟨p.term, dt⟩ } := by
 have hf : addG p.g ⟨p.term, dt⟩ = { p.g with L := p.g.L ++ [⟨p.term, dt⟩] } := by unfold addG; rw [if_pos (show addE p.g ⟨p.term, dt⟩ = 0 from h0)]
 have hl : p.g.L.length < 1024 := by
  unfold addX addE at h0
  by_cases h1 : 1024 ≤ p.g.L.length ∨ 1099511627776 ≤ p.g.base + p.g.L.length
  · rw [if_pos h1] at h0; cases h0
  · omega
 rw [hf]
 refine ⟨h.id, h.may, h.term, h.vote, h.base, h.bt, h.snap, ?_, ?_, h.commit, h.voices, h.ids, h.next, h.mat, h.marks, h.nexts⟩
 · simp only [List.length_append, List.length_cons, List.length_nil]; omega
 · intro x hx
   rcases List.mem_append.1 hx with hx | hx
   · exact h.data x hx
   · simp only [List.mem_singleton] at hx; subst hx
     exact ⟨h.term, hd⟩
section
variable {P : Program} {ops : Array Oper} {Q : Exit → Act → World → Prop} {md : Region.Mode} {S : World → Prop} {z : Nat}

def AnyZ (P : Program) (md : Region.Mode) (ops : Array Oper) (Q : Exit → Act → World → Prop) (S : World → Prop) (z : Nat) : Nat → Array Bool → Act → World → Prop
 | 0, l, a, w => Region.ready md ops l = [] ∧ Q .normal a w
 | n + 1, l, a, w => (Region.ready md ops l = [] → Q .normal a w) ∧ ∀ i ∈ Region.ready md ops l, wpOp P ops Q i (fun a' w' => (i = z ∨ S w') ∧ AnyZ P md ops Q S z n (l.setIfInBounds i true) a' w') a w
theorem anyZ_any : ∀ (n : Nat) (l : Array Bool) (a : Act) (w : World), AnyZ P md ops Q S z n l a w → wpAny P md ops Q n l a w
 | 0, _, _, _, h => h
 | n + 1, _, _, _, h => ⟨h.1, fun i hi => wpOp_mono (fun a' w' h' => anyZ_any n _ a' w' h'.2) (h.2 i hi)⟩
def Waits (md : Region.Mode) (ops : Array Oper) (z i : Nat) : Bool := match ops[z]? with
 | some o => o.after.any fun e => Region.binds md e && e.on == i
 | none => true
theorem waits_no {i : Nat} {l : Array Bool} (h : Waits md ops z i = true) (hi : i ∈ Region.ready md ops l) : z ∉ Region.ready md ops l := fun hz => by
 obtain ⟨h0, _⟩ := mem_ready.1 hi
 obtain ⟨_, o, ho, hall⟩ := mem_ready.1 hz
 unfold Waits at h
 rw [ho] at h
 simp only [Array.any_eq_true, Bool.and_eq_true, beq_iff_eq] at h
 obtain ⟨k, hk, h1, h2⟩ := h
 have h3 := hall _ (Array.getElem_mem hk) h1
 rw [h2] at h3
 rcases Nat.lt_or_ge i l.size with h' | h'
 · simp [h'] at h0 h3; rw [h0] at h3; cases h3
 · simp [Array.getElem?_eq_none h'] at h3
theorem anyZ_first {i : Nat} {oi : Oper} {v : Value} (hi : ops[i]? = some oi) (hw : Waits md ops z i = true) (hiz : i ≠ z) (hsel : ∀ (j : Nat) (o : Oper) cs b, ops[j]? = some o → o.op ≠ .select cs b)
 (hQ : ∀ c a w, Q (.panic c) (a.put oi.dst v) w → Q (.panic c) a w) :
 ∀ (n : Nat) (l : Array Bool) (a : Act) (w : World),
  (∀ j oj, ops[j]? = some oj → j ≠ i → l.getD j true = false → (∀ e ∈ oj.after, Region.binds md e = true → e.on ≠ i) → oi.apart ops oj = true) →
  i ∈ Region.ready md ops l → YieldsIf P ops S oi v a → S w →
  AnyZ P md ops Q S z n (l.setIfInBounds i true) (a.put oi.dst v) w → AnyZ P md ops Q S z (n + 1) l a w
 | 0, l, a, w, _, hr, hy, hS, H => ⟨fun h => (by rw [h] at hr; cases hr), fun j hj => by
  by_cases hji : j = i
  · subst hji; exact hy.wpOp hi hS ⟨.inr hS, H⟩
  · have := ready_mono hj hji
    rw [H.1] at this; cases this⟩
 | n + 1, l, a, w, hfree, hr, hy, hS, H => ⟨fun h => (by rw [h] at hr; cases hr), fun j hj => by
  by_cases hji : j = i
  · subst hji; exact hy.wpOp hi hS ⟨.inr hS, H⟩
  have hjz : j ≠ z := fun e => waits_no hw hr (e ▸ hj)
  obtain ⟨hjun, oj, hoj, hall⟩ := mem_ready.1 hj
  have hnot : ∀ e ∈ oj.after, Region.binds md e = true → e.on ≠ i := fun e he hb heq => by
   have h1 := hall e he hb
   have h0 := (mem_ready.1 hr).1
   rw [heq] at h1
   rcases Nat.lt_or_ge i l.size with h' | h'
   · simp [h'] at h0 h1; rw [h0] at h1; cases h1
   · simp [Array.getElem?_eq_none h'] at h1
  refine wpOp_mono (fun a' w' h3 => ⟨.inr (h3.2.1.resolve_left hjz), anyZ_first hi hw hiz hsel hQ n (l.setIfInBounds j true) a' w' (fun k ok hk hki hun hno => hfree k ok hk hki (by
   by_cases hjk : j = k
   · subst hjk; exact hjun
   · rw [getD_set_ne true hjk] at hun; exact hun) hno) (ready_mono hr (Ne.symm hji)) h3.1 (h3.2.1.resolve_left hjz) (by rw [Array.setIfInBounds_comm _ _ hji]; exact h3.2.2)⟩)
   (wpOp_putIf hoj (hfree j oj hoj hji hjun hnot) (fun cs b => hsel i oi cs b hi) (fun cs b => hsel j oj cs b hoj) hQ hy (H.2 j (ready_mono hj hji)))⟩
theorem anyZ_take {i : Nat} {oi : Oper} {v : Value} {n : Nat} {l : Array Bool} {a : Act} {w : World} (hi : ops[i]? = some oi) (hw : Waits md ops z i = true) (hiz : Nat.beq i z = false)
 (hs : Region.noSelect ops = true) (hf : Region.free md ops l i = true) (hr : (Region.ready md ops l).contains i = true)
 (hQ : ∀ c a w, Q (.panic c) (a.put oi.dst v) w → Q (.panic c) a w) (hy : YieldsIf P ops S oi v a) (hS : S w)
 (h : AnyZ P md ops Q S z n (l.setIfInBounds i true) (a.put oi.dst v) w) : AnyZ P md ops Q S z (n + 1) l a w :=
 anyZ_first hi hw (fun e => by rw [e] at hiz; simp at hiz) (Region.noSelect_spec hs) hQ n l a w (Region.free_spec hi hf) (by simpa using hr) hy hS h
theorem anyZ_one {i : Nat} {o : Oper} {n : Nat} {l : Array Bool} {a : Act} {w : World} (hr : Region.ready md ops l = [i]) (ho : ops[i]? = some o)
 (h : ∀ K' : Act → World → Prop, Shut (∀ a w, S w → (S w → AnyZ P md ops Q S z n (l.setIfInBounds i true) a w) → K' a w) → if Region.wanted o (yielded ops a.tmps) = true then Oper.wp P o a w K' Q else K' (a.put o.dst undef) w) : AnyZ P md ops Q S z (n + 1) l a w :=
 ⟨fun h0 => (by rw [hr] at h0; cases h0), fun j hj => by
  rw [hr, List.mem_singleton] at hj
  subst hj
  exact wpOp_step ho (fun K' hK => h K' (fun a w hS hW => hK a w ⟨.inr hS, hW hS⟩))⟩
theorem anyZ_last {o : Oper} {n : Nat} {l : Array Bool} {a : Act} {w : World} (hr : Region.ready md ops l = [z]) (ho : ops[z]? = some o) (hr2 : Region.ready md ops (l.setIfInBounds z true) = [])
 (h : ∀ K' : Act → World → Prop, Shut (∀ a w, Q .normal a w → K' a w) → if Region.wanted o (yielded ops a.tmps) = true then Oper.wp P o a w K' Q else K' (a.put o.dst undef) w) : AnyZ P md ops Q S z (n + 1) l a w :=
 ⟨fun h0 => (by rw [hr] at h0; cases h0), fun j hj => by
  rw [hr, List.mem_singleton] at hj
  subst hj
  refine wpOp_step ho (fun K' hK => h K' (fun a w hq => hK a w ⟨.inl rfl, ?_⟩))
  cases n with
  | zero => exact ⟨hr2, hq⟩
  | succ n => exact ⟨fun _ => hq, by rw [hr2]; simp⟩⟩
theorem wp_region_z {id : Nat} {a : Act} {w : World} (z : Nat) (hm : P.follows .mixedOrders = true) (hS : S w.drew)
 (h : S w.drew → AnyZ P .any ops Q S z ops.size (Array.replicate ops.size false) a w.drew) : (Code.region id ops true).wp P Q a w := wp_region_any hm (anyZ_any _ _ _ _ (h hS))
end

theorem mark_lt {q : Nat} : ∀ {L : List Mk}, (∀ x ∈ L, x.n < 18446744073709551616) → (markN q L).1 < 18446744073709551616
 | [], _ => by simp [markN]
 | x :: r, h => by
  unfold markN
  split
  · exact h x (List.mem_cons_self ..)
  · exact mark_lt (fun y hy => h y (List.mem_cons_of_mem _ hy))
theorem MgM.box {w w' : World} {L : List Mg} {y : Nat} {T : TypeId} (h : MgM w L) (hg : w.grownBy w' (some y)) (hy : ∃ cur, w.heap[y]? = some (.cells cur T (0, 0))) (hT : T ≠ 65) : MgM w' L := fun x hx => (h x hx).imp id fun h => h.kept hg (by
 rcases h.2 with ⟨e, _⟩ | ⟨g, cap, cur, e, _, hb, _⟩
 · exact .inl (by rw [e]; rfl)
 · refine .inr fun e2 => ?_
   rw [e] at e2; simp [Value.ownBlock] at e2
   subst e2
   obtain ⟨cur', hy⟩ := hy
   rw [hy] at hb
   cases hb
   exact hT rfl)
theorem messNe : 59 ≠ 65 := by decide
@[reducible] def mgA (x : Mg) : Array Value := #[.int .i64 x.kind, .int .u64 x.fr, .int .u64 x.dst, .int .u64 x.term, .int .u64 x.i, .int .u64 x.lt, .int .u64 x.commit, .bool x.ok, .slice x.at_ x.es.length x.cap, .string x.snap]
theorem cqG_one (w : World) (x : Mg) (h : MgM w [x]) : CqG w.heap.size (w.alloc (.cells (mgA x) 59)) (.slice (some ⟨w.heap.size, 0, none⟩) 1 1) [x] :=
 ⟨.inr ⟨rfl, .inr ⟨w.heap.size, 1, _, rfl, Nat.le_refl _, heap_alloc_new w _, Nat.le_refl _, by decide, rfl, rfl⟩⟩, h.later ((Below.refl _ _).alloc (Nat.le_refl _) _)⟩
theorem cloneE_any (n c : Nat) (a : Option Addr) (L : List En) (hn : L.length = n) (hl : n * 24 ≤ 140737488355328) (w : World) (hM : Rw 2 enCells w a L) :
 Calls Tryz.prog 169 #[.slice a n c] w (ClP 65 2 enCells w L) := by
 cases a with
 | none =>
  have hL : L = [] := by
   cases L with
   | nil => rfl
   | cons x r => obtain ⟨b, off, e, _⟩ := hM.addr (by simp); cases e
  subst hL
  clear hl hn hM
  have q22 : ∀ (w : World) (a : Option Addr) (n c n' c' : Nat), (binOp .eql 26 (.slice a n c) (.slice none n' c')).run Tryz.prog w = .ok (.bool a.isNone) w := fun w a n c n' c' => Lib.run_eql_slice_nil w _ _ a n c n' c' Tryz.underlying26
  go_enter Tryz.func169, Tryz.ntmps169
  go_wp2_with fail
  go_ret
  exact ⟨_, rfl, Cq.nil _ _ none, Below.refl _ _⟩
 | some p =>
  have B0 : Below w.heap.size w (w.alloc (.cells #[] 65)) := (Below.refl _ _).alloc (Nat.le_refl _) _
  obtain ⟨v', w', hr, hc, hb⟩ := app_rw enT w.heap.size (w.alloc (.cells #[] 65)) 26 (.slice (some ⟨w.heap.size, 0, none⟩) 0 0) [] (Cq.nil _ _ _) (some p) n c L hn (hM.later B0) (by simpa using hl) (by simp)
  have HR := hI_ hr
  have HC := hI_ (And.intro hc (B0.trans hb))
  clear hr hc hb hM hn B0 hl
  have q22 : ∀ (w : World) (a : Option Addr) (n c n' c' : Nat), (binOp .eql 26 (.slice a n c) (.slice none n' c')).run Tryz.prog w = .ok (.bool a.isNone) w := fun w a n c n' c' => Lib.run_eql_slice_nil w _ _ a n c n' c' Tryz.underlying26
  go_enter Tryz.func169, Tryz.ntmps169
  go_wp2_with (at_builtin; refine Lib.wpList_append_run _ rfl _ _ 26 26 rfl (.slice (some ⟨w.heap.size, 0, none⟩) 0 0) (.slice (some p) n c) rfl rfl _ _ HR.out ?_)
  go_wp2_with fail
  go_ret
  exact ⟨_, rfl, HC.out.1, HC.out.2⟩
theorem mgM_clone {w : World} {B : Nat} {v : Value} {L : List En} (h : Cq 65 2 enCells B w v L) : ∃ a c, v = .slice a L.length c ∧ ∀ x : Mg, x.es = L → x.at_ = a → x.cap = c → MgM w [x] := by
 obtain ⟨a, c, e, _⟩ := h.form enT
 refine ⟨a, c, e, fun x h1 h2 h3 y hy => ?_⟩
 simp only [List.mem_singleton] at hy
 subst hy
 rcases h with ⟨h0, _⟩ | h
 · exact .inl (h1.trans h0)
 · right
   rw [h1, h2, h3, ← e]
   exact owns_less h (Nat.zero_le _)
def PoP (w : World) (m : Mg) (e : Ending) (w' : World) : Prop := ∃ x : Mg, e = .returned (mgV x) ∧ x.pl = m ∧ MgM w' [x] ∧ Below w.heap.size w w'

end Go.Proofs.YtdcpiaoadbbdoaaGreatDoor
