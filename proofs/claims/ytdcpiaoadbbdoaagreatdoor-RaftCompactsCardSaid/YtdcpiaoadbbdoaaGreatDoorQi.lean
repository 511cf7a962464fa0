/- A range over a list from its end: the iterator. -/
import Derived.Test.YtdcpiaoadbbdoaaGreatDoorRb
import Derived.Test.YtdcpiaoadbbdoaaGreatDoorQc
import Derived.RangeFuncNested
import Derived.RangeFuncFrom
import Derived.RangeFuncBound
import Derived.RangeFuncCalls
import Derived.RangeFuncLeaves
import Derived.RangeFuncBox
import Derived.Shelf.Abstract
import Derived.Shelf.RegionOpen
import Derived.OwnWalkIn
import Derived.TacticsInMore
import Derived.LoopNIn
import Derived.LoopIn
import Derived.KernelRfl
set_option maxRecDepth 100000
set_option maxHeartbeats 16000000
namespace Go.Proofs.YtdcpiaoadbbdoaaGreatDoor
open Go.RowKit Go.Shelf
attribute [local go_sem] Oper.semAt_some

theorem below_none {w w' : World} (h : Below w.heap.size w w') : w.grownBy w' none := ⟨h.os, h.tape, h.output, h.size, fun k hk _ => h.block k hk⟩
def bwdT (L : List En) : Nat → List (Nat × En)
 | 0 => []
 | m + 1 => match L[m]? with
  | some x => (m, x) :: bwdT L m
  | none => bwdT L m
theorem bwdT_succ {L : List En} {m : Nat} {x : En} (h : L[m]? = some x) : bwdT L (m + 1) = (m, x) :: bwdT L m := by simp only [bwdT, h]
abbrev Ne := { x : Nat × En // x.2.d.size ≤ 140737488351232 }
@[reducible] def enV (x : Ne) : Array Value := #[.int .i64 (x.1.1 : Nat), .agg #[.int .u64 (x.1.2.t : Nat), .string x.1.2.d]]
def nes (l : List Ne) : List (Nat × En) := l.map (·.1)
theorem nes_snoc (l : List Ne) (x : Ne) : nes (l ++ [x]) = nes l ++ [x.1] := by simp [nes]
theorem back1_in (n : Nat) (hn : 1 ≤ n) (l Bn len c : Nat) (a : Option Addr) (L : List En) (hL : L.length = len) (hl : len ≤ 140737488351232) (hD : ∀ x ∈ L, x.d.size ≤ 140737488351232) (J Jx : List Ne → World → Prop)
 (w W : World) (hW : Below w.heap.size w W) (_ : AbidesFrom W.heap.size J)
 (hY : ∀ pre (x : Ne) W, J pre W → pre.length < (bwdT L len).length → YieldAt Fence.wide (n - 1) Tryz.prog l (enV x) W fun e W' =>
  (e = .returned (.bool true) ∧ J (pre ++ [x]) W' ∧ Below w.heap.size W W') ∨ (e = .returned (.bool false) ∧ Jx (pre ++ [x]) W'))
 (hB : Bn < w.heap.size) (hBn : w.cell? ⟨Bn, 0, none⟩ = some (.slice a len c)) (hE : Ents w a L) (h0 : J [] W) :
 CallsIn Fence.wide n Tryz.prog 156 #[.func (.yield l) #[] #[], .pointer (some ⟨Bn, 0, none⟩)] W fun e W' => (∃ v, e = .returned v) ∧
  ((∃ ys, nes ys = bwdT L len ∧ J ys W') ∨ (∃ pre, nes pre <+: bwdT L len ∧ Jx pre W')) := by
 have hc0 := (hW.cell (p := ⟨Bn, 0, none⟩) hB).trans hBn
 have HL := hI_ hL
 have hw0 : IntKind.i64.wrap ((len : Int) - 1) = (len : Int) - 1 := IntWalk.i64_in _ (by omega)
 clear hL
 refine callsIn_of_wp Tryz.func156 rfl trivial ?_ rfl
 simp only [Tryz.ntmps156, List.size_toArray, List.length_cons, List.length_nil, Nat.reduceAdd, Nat.reduceSub, Array.replicate_succ, Array.replicate_zero, List.push_toArray, List.append_toArray, List.nil_append, List.cons_append]
 gi_wp2
 gi_loopw [3] (fun p wr => ∃ (m : Nat) (pre : List Ne), m ≤ len ∧ p = .int .i64 ((m : Int) - 1) ∧ bwdT L len = nes pre ++ bwdT L m ∧ J pre wr ∧ Below w.heap.size w wr)
  (fun p wr => (intOf p + 1).toNat)
 case atStart => exact ⟨len, [], Nat.le_refl _, rfl, rfl, h0, hW⟩
 case round =>
  obtain ⟨m, pre, hm, rfl, hx, hJs, hb⟩ := hrel
  have hc := (hb.cell (p := ⟨Bn, 0, none⟩) hB).trans hBn
  cases m with
  | zero =>
   have HX := hI_ (show bwdT L len = nes pre by rw [hx]; simp [bwdT])
   have HJ := hI_ hJs
   clear hx hJs
   rw [show (((0 : Nat) : Int) - 1) = -1 from rfl]
   gi_wp2
   refine bodyPost_end (results_none rfl _ _ _) rfl ?_
   exact ⟨⟨_, rfl⟩, .inl ⟨pre, HX.out.symm, HJ.out⟩⟩
  | succ m =>
   obtain ⟨x, hxm⟩ : ∃ x, L[m]? = some x := ⟨_, List.getElem?_eq_getElem (by have := HL.out; omega)⟩
   obtain ⟨b, off, rfl, hlt, p0, p1⟩ := (hE.later hb) m x hxm
   have hxs : x.d.size ≤ 140737488351232 := hD x (List.mem_of_getElem? hxm)
   have hx2 : bwdT L len = nes pre ++ (m, x) :: bwdT L m := by rw [hx, bwdT_succ hxm]
   obtain ⟨fn, tmps, assign, body, hy, hR⟩ := hY pre ⟨(m, x), hxs⟩ wr hJs (by rw [hx2]; simp [nes])
   have HX := hI_ hx2
   have e1 : (((m + 1 : Nat) : Int) - 1) = (m : Int) := by omega
   have i0 : (0 : Int) ≤ (m : Int) := by omega
   have i1 : (m : Int) < (len : Int) := by omega
   have hw1 : IntKind.i64.wrap ((m : Int) - 1) = (m : Int) - 1 := IntWalk.i64_in _ (by omega)
   obtain ⟨xt, xd⟩ := x
   simp only at hy p0 p1 hxs
   rw [e1]
   clear hx hx2 hxm e1
   gi_wp2
   refine hR.mono ?_
   rintro e W3 (⟨rfl, hJ5, hCk⟩ | ⟨rfl, hJx⟩)
   · gi_wp2
     go_roundw
     case rel => exact ⟨m, pre ++ [⟨(m, ⟨xt, xd⟩), hxs⟩], by omega, rfl, by rw [HX.out, nes_snoc]; simp, hJ5, hb.trans hCk⟩
     case measure => simp [intOf]
   · gi_wp2
     refine bodyPost_ret (results_none rfl _ _ _) rfl ?_
     exact ⟨⟨_, rfl⟩, .inr ⟨pre ++ [⟨(m, ⟨xt, xd⟩), hxs⟩], ⟨bwdT L m, by rw [HX.out, nes_snoc]; simp⟩, hJx⟩⟩
theorem back_stops (n : Nat) (hn : 1 ≤ n) (Bn len c : Nat) (a : Option Addr) (L : List En) (hL : L.length = len) (hl : len ≤ 140737488351232) (hD : ∀ x ∈ L, x.d.size ≤ 140737488351232) (w : World) (hlt : Bn < w.heap.size) (hBn : w.cell? ⟨Bn, 0, none⟩ = some (.slice a len c)) (hE : Ents w a L) :
 SeqStopsK Fence.wide n Tryz.prog 156 #[.pointer (some ⟨Bn, 0, none⟩)] enV (Below w.heap.size) (fun ys => nes ys = bwdT L len) (fun pre => nes pre <+: bwdT L len) (bwdT L len).length w := fun l J Jx W hW hJ _ hY h0 =>
 back1_in n hn l Bn len c a L hL hl hD J Jx w W hW hJ (fun pre x W1 hj hl => hY pre x W1 hj hl) hlt hBn hE h0
theorem backward_any (a : Option Addr) (n c : Nat) (w : World) : Calls Tryz.prog 124 #[.slice a n c] w fun e w' => e = .returned (.func (.func 156) #[] #[.pointer (some ⟨w.heap.size, 0, none⟩)]) ∧ w' = w.alloc (.cells #[.slice a n c] 26) := by
 go_enter Tryz.func124, Tryz.ntmps124
 go_wp2
 go_ret
 exact ⟨rfl, rfl⟩
end Go.Proofs.YtdcpiaoadbbdoaaGreatDoor
