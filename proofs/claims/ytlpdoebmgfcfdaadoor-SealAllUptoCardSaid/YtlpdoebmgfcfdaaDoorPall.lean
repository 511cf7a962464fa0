/- seal.All: the iterator's contract: each sealed text in its order, up to where none is, or where a round says 'no more'. -/
import Derived.Test.YtlpdoebmgfcfdaaDoorAm
import Derived.Test.YtlpdoebmgfcfdaaDoorPtakes
import Derived.RangeFuncNested
import Derived.RangeFuncFrom
import Derived.RangeFuncBound
import Derived.RangeFuncCalls
import Derived.RangeFuncLeaves
import Derived.Shelf.Abstract
import Derived.Shelf.RegionOpen
import Derived.WalkKit
import Derived.OwnWalkIn
import Derived.TacticsInMore
import Derived.LoopNIn
import Derived.LoopIn
namespace Go.Proofs.YtlpdoebmgfcfdaaDoor
open Go.RowKit Go.Shelf
attribute [local go_sem] Oper.semAt_some

theorem below_grown {w w' : World} (h : Below w.heap.size w w') : w.grownBy w' none := ⟨h.os, h.tape, h.output, h.size, fun k hk _ => h.block k hk⟩
theorem below_others {w w' : World} (h : Below w.heap.size w w') : KeepsOthers w w' := KeepsOthers.of_grownBy (below_grown h) (fun _ _ e => by cases e)
theorem cell_new_l (W : World) (v : Value) (t : TypeId) : (W.alloc (.cells #[v] t)).cell? ⟨W.heap.size, 0, none⟩ = some v ∧ (W.alloc (.cells #[v] t)).frozen? ⟨W.heap.size, 0, none⟩ = false :=
  ⟨(World.cell?_alloc_new _ _ _ _).trans rfl, by
    have h : (W.alloc (.cells #[v] t)).heap[W.heap.size]? = some (.cells #[v] t (0, 0)) := heap_alloc_new W _
    simp only [World.frozen?, h]; simp⟩
theorem cell_alloc_l {W : World} {a : Addr} {v : Value} (o : Obj) (h : W.cell? a = some v) : (W.alloc o).cell? a = some v := cell_kept h (World.grownBy_alloc W o none) (fun r e => by cases e)
theorem frozen_alloc_l {W : World} {a : Addr} {v : Value} (o : Obj) (h : W.cell? a = some v) (hf : W.frozen? a = false) : (W.alloc o).frozen? a = false := (frozen_kept h (World.grownBy_alloc W o none) (fun r e => by cases e)).trans hf
/-- The size of a string in a slot. -/
def sizeOf' : Value → Nat | .string s => s.size | _ => 0
set_option maxRecDepth 100000 in
set_option maxHeartbeats 2000000 in
theorem all1_in (n : Nat) (hn : 1 ≤ n) (l Bn : Nat) (b : List UInt8) (hb : b.length ≤ maxLen) (J Jx : List (List UInt8) → World → Prop)
    (W : World) (hJ : AbidesFrom W.heap.size J)
    (hY : ∀ pre x W, x.length ≤ 65536 → J pre W → pre.length < (allB b).length → YieldAt Fence.wide (n - 1) Tryd.prog l #[.string ⟨x.toArray⟩] W fun e W' =>
      (e = .returned (.bool true) ∧ J (pre ++ [x]) W' ∧ True) ∨ (e = .returned (.bool false) ∧ Jx (pre ++ [x]) W'))
    (hBn : W.cell? ⟨Bn, 0, none⟩ = some (.string ⟨b.toArray⟩)) (h0 : J [] W) :
    CallsIn Fence.wide n Tryd.prog 28 #[.func (.yield l) #[] #[], .pointer (some ⟨Bn, 0, none⟩)] W fun e W' => (∃ v, e = .returned v) ∧
      ((∃ ys, ys = allB b ∧ J ys W') ∨ (∃ pre, pre <+: allB b ∧ Jx pre W')) := by
  refine callsIn_of_wp Tryd.func28 rfl trivial ?_ rfl
  simp only [Tryd.ntmps28, List.size_toArray, List.length_cons, List.length_nil, Nat.reduceAdd, Nat.reduceSub, Array.replicate_succ, Array.replicate_zero, List.push_toArray, List.append_toArray, List.nil_append, List.cons_append]
  gi_wp2
  gi_loopw [3] (fun p wr => ∃ (pre : List (List UInt8)) (r : List UInt8), p = .string ⟨r.toArray⟩ ∧ r.length ≤ b.length ∧ allB b = pre ++ allB r ∧ J pre wr)
    (fun p wr => sizeOf' p)
  case atStart =>
    exact ⟨[], b, rfl, Nat.le_refl _, rfl, h0⟩
  case round =>
    obtain ⟨pre, r, rfl, hr, hx, hJs⟩ := hrel
    obtain ⟨t, q, x, hk⟩ : ∃ t q x, tkSeal r = (t, q, x) := ⟨_, _, _, rfl⟩
    have HK := Lib.hid hk
    have hT := callsIn_wide (n := n - 1) |>.2 (takes_any ⟨r.toArray⟩ (by show r.toArray.size ≤ _; simp; omega) wr)
    by_cases hx0 : x = 0
    · subst hx0
      have hl := tkSeal_less hk
      have ha := (all_ok hk).1
      have hshort := (tkSeal_parts hk).2.1
      clear hk
      gi_wp2_with (refine ⟨trivial, ?_⟩; gi_at_call 16; refine hT.mono ?_; rintro e w2 ⟨rfl, hb2⟩; rw [show (ByteArray.mk r.toArray).data.toList = r from rfl, HK.out]; have hJ2 := hJ _ _ _ _ hJs (below_grown hb2) (fun _ e => by cases e); obtain ⟨fn, tmps, assign, body, hy, hR⟩ := hY pre t w2 hshort hJ2 (by rw [hx, ha]; simp))
      refine hR.mono ?_
      rintro e W3 (⟨rfl, hJ3, -⟩ | ⟨rfl, hJx3⟩)
      · gi_wp2
        go_roundw
        case rel => exact ⟨pre ++ [t], q, rfl, by omega, by rw [hx, ha]; simp, hJ3⟩
        case measure => simp [sizeOf']; show q.toArray.size < r.toArray.size; simpa using hl
      · gi_wp2
        refine bodyPost_ret (results_none rfl _ _ _) rfl ?_
        exact ⟨⟨_, rfl⟩, .inr ⟨pre ++ [t], ⟨allB q, by rw [hx, ha]; simp⟩, hJx3⟩⟩
    · have hx2 : (((x : Nat) : Int) == 0) = false := by simpa using hx0
      clear hk
      gi_wp2_with (refine ⟨trivial, ?_⟩; gi_at_call 16; refine hT.mono ?_; rintro e w2 ⟨rfl, hb2⟩; rw [show (ByteArray.mk r.toArray).data.toList = r from rfl, HK.out])
      refine ⟨fun _ h => (by cases h), ?_⟩
      gi_wp2
      refine bodyPost_ret (results_none rfl _ _ _) rfl ?_
      exact ⟨⟨_, rfl⟩, .inl ⟨pre, by rw [hx, (all_end HK.out hx0).1, List.append_nil], hJ _ _ _ _ hJs (below_grown hb2) (fun _ e => by cases e)⟩⟩
/-- A text that is not too long. -/
abbrev Sh := { t : List UInt8 // t.length ≤ 65536 }
def vals (l : List Sh) : List (List UInt8) := l.map Subtype.val
theorem vals_snoc (l : List Sh) (x : Sh) : vals (l ++ [x]) = vals l ++ [x.1] := by simp [vals]
theorem vals_len (l : List Sh) : (vals l).length = l.length := by simp [vals]
/-- The iterator's contract, as the law for a range over it takes it. -/
theorem all_stops (n : Nat) (hn : 1 ≤ n) (Bn : Nat) (b : List UInt8) (hb : b.length ≤ maxLen) (w : World) (hlt : Bn < w.heap.size) (hBn : w.cell? ⟨Bn, 0, none⟩ = some (.string ⟨b.toArray⟩)) :
    SeqStopsK Fence.wide n Tryd.prog 28 #[.pointer (some ⟨Bn, 0, none⟩)] (fun x : Sh => #[.string ⟨x.1.toArray⟩]) (fun _ _ => True) (fun ys => vals ys = allB b) (fun pre => vals pre <+: allB b) (allB b).length w := fun l J Jx W hW hJ _ hY h0 => by
  refine (all1_in n hn l Bn b hb (fun pre W => ∃ q : List Sh, vals q = pre ∧ J q W) (fun pre W => ∃ q : List Sh, vals q = pre ∧ Jx q W) W ?_ ?_ ((hW.cell (p := ⟨Bn, 0, none⟩) hlt).trans hBn) ⟨[], rfl, h0⟩).mono ?_
  · rintro pre A B row ⟨q, hq, hj⟩ hg hr
    exact ⟨q, hq, hJ _ _ _ _ hj hg hr⟩
  · rintro pre x W1 hx ⟨q, rfl, hj⟩ hlen
    refine (hY q ⟨x, hx⟩ W1 hj (by rw [vals_len] at hlen; exact hlen)).mono ?_
    rintro e W' (⟨rfl, h, -⟩ | ⟨rfl, h⟩)
    · exact .inl ⟨rfl, ⟨q ++ [⟨x, hx⟩], vals_snoc _ _, h⟩, trivial⟩
    · exact .inr ⟨rfl, ⟨q ++ [⟨x, hx⟩], vals_snoc _ _, h⟩⟩
  · rintro e W' ⟨hv, (⟨ys, rfl, q, hq, hj⟩ | ⟨pre, hp, q, rfl, hj⟩)⟩
    · exact ⟨hv, .inl ⟨q, hq, hj⟩⟩
    · exact ⟨hv, .inr ⟨q, hp, hj⟩⟩
/-- seal.All: the text in a new cell, and the function that ranges over it. -/
theorem all_any (b : ByteArray) (w : World) : Calls Tryd.prog 19 #[.string b] w fun e w' => e = .returned (.func (.func 28) #[] #[.pointer (some ⟨w.heap.size, 0, none⟩)]) ∧ w' = w.alloc (.cells #[.string b] 9) := by
  go_enter Tryd.func19, Tryd.ntmps19
  go_wp2
  go_ret
  exact ⟨rfl, rfl⟩
/-- A range with one loop variable, at the law of the caller: the slots after the assignment are told by two stores. -/
theorem range_one {α : Type} {P : Program} {n : Nat} {g : Operand} {p q : Tmp} {assign body : Code} {Q : Exit → Act → World → Prop} {a : Act} {w : World}
    (h1 : 1 ≤ n) {gf : Nat} {lb : Array Value} (hg : a.eval g = .func (.func gf) #[] lb) (eg : ∀ args w, (callFunc gf args).run P w = .ok (.enter gf args) w)
    {enc : α → Value} {S Sp : List α → Prop} {N : Nat} (hseq : SeqStopsK Fence.wide (n - 1) P gf lb (fun x => #[enc x]) (fun _ _ => True) S Sp N w)
    (I : List α → World → Prop) (Ix : Code → List α → World → Prop) (hI : OwnFrom w.heap.size I) (hIx : ∀ c, OwnFrom w.heap.size (Ix c)) (h0 : I [] w)
    (hassign : ∀ (l : Nat) (x : α) (W : World) (K : Act → World → Prop), K { tmps := (a.tmps.setIfInBounds p (enc x)).setIfInBounds q (enc x), defers := [] } W →
      assign.wpIn (Fence.wide.inRound l) (n - 1 - 1) P (Exit.then K (fun _ _ _ => False)) { tmps := a.tmps.setIfInBounds p (enc x), defers := [] } W)
    (hbody : ∀ (l : Nat) (pre : List α) (x : α) (W : World), I pre W → pre.length < N → body.wpIn (Fence.wide.inRound l) (n - 1 - 1) P (ownPostK (fun _ _ => True) I Ix (pre ++ [x]) W) { tmps := (a.tmps.setIfInBounds p (enc x)).setIfInBounds q (enc x), defers := [] } W)
    (hdone : ∀ (D : Nat) (xs : List α) (W : World), w.heap.size ≤ D → S xs → I xs W → W.heap[D]? = some (.deferred (some [])) → Q .normal { a with defers := { target := .collected D, args := #[] } :: a.defers } W)
    (hstop : ∀ (D : Nat) (c : Code) (pre : List α) (W : World), w.heap.size ≤ D → Sp pre → Ix c pre W → W.heap[D]? = some (.deferred (some [])) → c.wpIn Fence.wide n P Q { a with defers := { target := .collected D, args := #[] } :: a.defers } W) :
    (Code.rangeFunc g #[p] assign body).wpIn Fence.wide n P Q a w :=
  wpIn_rangeFunc_ownF rfl h1 hg trivial eg hseq (fun _ _ => trivial) (fun _ _ _ _ _ _ _ _ => trivial) (Below.refl _ _) (fun _ => rfl) I Ix hI hIx h0
    (fun x => { tmps := (a.tmps.setIfInBounds p (enc x)).setIfInBounds q (enc x), defers := [] }) (fun l x W K hK => by
      have e : (#[p].zip #[enc x] : Array (Tmp × Value)) = #[(p, enc x)] := by simp
      rw [e]
      exact hassign l x W K hK) hbody hdone hstop
end Go.Proofs.YtlpdoebmgfcfdaaDoor
