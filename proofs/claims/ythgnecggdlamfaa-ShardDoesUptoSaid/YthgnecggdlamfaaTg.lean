/- A region that draws its order: what it loads may be taken first, if no operation that may come ahead of a mark writes there. -/
import Derived.OrdersHeld
import Derived.Deep.RegionHeld3
import Derived.Test.YthgnecggdlamfaaTa
import Derived.Test.YthgnecggdlamfaaYq
import Derived.Test.YthgnecggdlamfaaTe
namespace Go.Proofs.Ythgnecggdlamfaa
open Go

section
variable {P : Program} {ops : Array Oper} {Q : Exit → Act → World → Prop} {S : World → Prop} {k : Nat}

/-- Whatever order is picked; S holds behind each operation that is carried out while number k hasn't come up. -/
def tillK (P : Program) (ops : Array Oper) (Q : Exit → Act → World → Prop) (S : World → Prop) (k : Nat) : Nat → Array Bool → Act → World → Prop
  | 0, l, a, w => Region.ready .any ops l = [] ∧ Q .normal a w
  | n + 1, l, a, w => (Region.ready .any ops l = [] → Q .normal a w) ∧
      ∀ i ∈ Region.ready .any ops l, wpOp P ops Q i (fun a' w' => ((l.setIfInBounds i true).getD k true = false → S w') ∧ tillK P ops Q S k n (l.setIfInBounds i true) a' w') a w
theorem tillK_any : ∀ (n : Nat) (l : Array Bool) (a : Act) (w : World), tillK P ops Q S k n l a w → wpAny P .any ops Q n l a w
  | 0, _, _, _, h => h
  | n + 1, _, _, _, h => ⟨h.1, fun i hi => wpOp_mono (fun _ _ h' => tillK_any n _ _ _ h'.2) (h.2 i hi)⟩
theorem tillK_begin {id : Nat} {a : Act} {w : World} (hm : P.follows .mixedOrders = true) (h : tillK P ops Q S k ops.size (Array.replicate ops.size false) a w.drew) : (Code.region id ops true).wp P Q a w :=
  wp_region_any hm (tillK_any _ _ _ _ h)
/-- One that number k waits for is taken first. -/
theorem tillK_first {i : Nat} {oi ok : Oper} {v : Value} (hi : ops[i]? = some oi) (hk : ops[k]? = some ok) (hw : ∃ e ∈ ok.after, Region.binds .any e = true ∧ e.on = i) (hsel : Region.noSelect ops = true)
    (hQ : ∀ c a w, Q (.panic c) (a.put oi.dst v) w → Q (.panic c) a w) (hik : i ≠ k) :
    ∀ (n : Nat) (l : Array Bool) (a : Act) (w : World),
      (∀ j oj, ops[j]? = some oj → j ≠ i → l.getD j true = false → (∀ e ∈ oj.after, Region.binds .any e = true → e.on ≠ i) → oi.apart ops oj = true) →
      i ∈ Region.ready .any ops l → l.getD k true = false → YieldsIf P ops S oi v a → S w →
      tillK P ops Q S k n (l.setIfInBounds i true) (a.put oi.dst v) w → tillK P ops Q S k (n + 1) l a w
  | 0, l, a, w, _, hr, hlk, hy, hS, H => by
    refine ⟨fun h => (by rw [h] at hr; cases hr), fun j hj => ?_⟩
    by_cases e : j = i
    · subst e; exact hy.wpOp hi hS ⟨fun _ => hS, H⟩
    · have := ready_mono hj e
      rw [H.1] at this; cases this
  | n + 1, l, a, w, hf, hr, hlk, hy, hS, H => by
    refine ⟨fun h => (by rw [h] at hr; cases hr), fun j hj => ?_⟩
    by_cases e : j = i
    · subst e; exact hy.wpOp hi hS ⟨fun _ => hS, H⟩
    have hir := (mem_ready.1 hr).1
    obtain ⟨hju, oj, hoj, hall⟩ := mem_ready.1 hj
    have hun : ∀ x : Nat, x = i → l.getD x false = false := fun x hx => by
      subst hx
      by_cases hlt : x < l.size
      · simp only [Array.getD_eq_getD_getElem?, Array.getElem?_eq_getElem hlt, Option.getD_some] at hir ⊢
        exact hir
      · simp only [Array.getD_eq_getD_getElem?, Array.getElem?_eq_none (Nat.le_of_not_lt hlt), Option.getD_none] at hir
        cases hir
    have hjk : j ≠ k := fun e2 => by
      subst e2
      rw [hoj] at hk
      cases hk
      obtain ⟨e, he, hb, hon⟩ := hw
      have h1 := hall e he hb
      rw [hun _ hon] at h1; cases h1
    have hno : ∀ e ∈ oj.after, Region.binds .any e = true → e.on ≠ i := fun e he hb hon => by
      have h1 := hall e he hb
      rw [hun _ hon] at h1; cases h1
    have h2 := wpOp_putIf hoj (hf j oj hoj e hju hno) (fun cs b => Region.noSelect_spec hsel i oi cs b hi) (fun cs b => Region.noSelect_spec hsel j oj cs b hoj) hQ hy (H.2 j (ready_mono hj e))
    have hk2 : (l.setIfInBounds j true).getD k true = false := by rw [getD_set_ne true hjk]; exact hlk
    have hk3 : ((l.setIfInBounds i true).setIfInBounds j true).getD k true = false := by rw [getD_set_ne true hjk, getD_set_ne true hik]; exact hlk
    refine wpOp_mono (fun a' w' h3 => ⟨fun _ => h3.2.1 hk3, tillK_first hi hk hw hsel hQ hik n (l.setIfInBounds j true) a' w' (fun x ox hox hxi hxu hxn => hf x ox hox hxi ?_ hxn) (ready_mono hr (Ne.symm e)) hk2 h3.1 (h3.2.1 hk3) ?_⟩) h2
    · by_cases hjx : j = x
      · subst hjx; exact hju
      · rw [getD_set_ne true hjx] at hxu; exact hxu
    · rw [Array.setIfInBounds_comm _ _ e]
      exact h3.2.2
theorem tillK_take {i : Nat} {oi : Oper} {v : Value} {n : Nat} {l : Array Bool} {a : Act} {w : World} (hi : ops[i]? = some oi) (hw : (ops[k]?.any fun ok => ok.after.any fun e => Region.binds .any e && e.on == i) = true) (hsel : Region.noSelect ops = true)
    (hf : Region.free .any ops l i = true) (hr : (Region.ready .any ops l).contains i = true) (hlk : l.getD k true = false) (hik : (i == k) = false)
    (hQ : ∀ c a w, Q (.panic c) (a.put oi.dst v) w → Q (.panic c) a w) (hy : YieldsIf P ops S oi v a) (hS : S w)
    (h : tillK P ops Q S k n (l.setIfInBounds i true) (a.put oi.dst v) w) : tillK P ops Q S k (n + 1) l a w := by
  cases hk : ops[k]? with
  | none => rw [hk] at hw; cases hw
  | some ok =>
    rw [hk] at hw
    simp only [Option.any_some, Array.any_eq_true', Bool.and_eq_true, beq_iff_eq] at hw
    obtain ⟨e, he, hb, hon⟩ := hw
    exact tillK_first hi hk ⟨e, he, hb, hon⟩ hsel hQ (by simpa using hik) n l a w (Region.free_spec hi hf) (by simpa using hr) hlk hy hS h
/-- The one that may come up is carried out; S is to be shown behind it. -/
theorem tillK_step {i : Nat} {o : Oper} {n : Nat} {l : Array Bool} {a : Act} {w : World} (hr : Region.ready .any ops l = [i]) (ho : ops[i]? = some o) (hw : Region.wanted o (yielded ops a.tmps) = true)
    (h : ∀ K' : Act → World → Prop, Shut (∀ a' w', ((l.setIfInBounds i true).getD k true = false → S w') → tillK P ops Q S k n (l.setIfInBounds i true) a' w' → K' a' w') → Oper.wp P o a w K' Q) : tillK P ops Q S k (n + 1) l a w := by
  refine ⟨fun h0 => (by rw [hr] at h0; cases h0), fun j hj => ?_⟩
  rw [hr] at hj
  obtain rfl : j = i := by simpa using hj
  exact wpOp_step ho (fun K' hK => by rw [if_pos hw]; exact h K' (fun a' w' h1 h2 => hK a' w' ⟨h1, h2⟩))
theorem tillK_done {n : Nat} {l : Array Bool} {a : Act} {w : World} (hr : Region.ready .any ops l = []) (h : Q .normal a w) : tillK P ops Q S k n l a w := by
  cases n with
  | zero => exact ⟨hr, h⟩
  | succ n => exact ⟨fun _ => h, by rw [hr]; simp⟩
end
end Go.Proofs.Ythgnecggdlamfaa
/- A drawn region with two boxes of its own: forks; what stands behind both stores. -/
namespace Go.Proofs.Ythgnecggdlamfaa
open Go Go.RowKit

section
variable {P : Program} {ops : Array Oper} {Q : Exit → Act → World → Prop} {S : World → Prop} {k : Nat}
theorem tillK_step2 {i j : Nat} {oi oj : Oper} {n : Nat} {l : Array Bool} {a : Act} {w : World} (hr : Region.ready .any ops l = [i, j]) (hi : ops[i]? = some oi) (hj : ops[j]? = some oj) (wi : Region.wanted oi (yielded ops a.tmps) = true) (wj : Region.wanted oj (yielded ops a.tmps) = true)
    (hI : ∀ K' : Act → World → Prop, Shut (∀ a' w', ((l.setIfInBounds i true).getD k true = false → S w') → tillK P ops Q S k n (l.setIfInBounds i true) a' w' → K' a' w') → Oper.wp P oi a w K' Q)
    (hJ : ∀ K' : Act → World → Prop, Shut (∀ a' w', ((l.setIfInBounds j true).getD k true = false → S w') → tillK P ops Q S k n (l.setIfInBounds j true) a' w' → K' a' w') → Oper.wp P oj a w K' Q) : tillK P ops Q S k (n + 1) l a w := by
  refine ⟨fun h0 => (by rw [hr] at h0; cases h0), fun x hx => ?_⟩
  rw [hr] at hx
  rcases List.mem_cons.1 hx with rfl | hx
  · exact wpOp_step hi (fun K' hK => by rw [if_pos wi]; exact hI K' (fun a' w' h1 h2 => hK a' w' ⟨h1, h2⟩))
  obtain rfl : x = j := by simpa using hx
  exact wpOp_step hj (fun K' hK => by rw [if_pos wj]; exact hJ K' (fun a' w' h1 h2 => hK a' w' ⟨h1, h2⟩))
theorem tillK_step3 {i j m : Nat} {oi oj om : Oper} {n : Nat} {l : Array Bool} {a : Act} {w : World} (hr : Region.ready .any ops l = [i, j, m]) (hi : ops[i]? = some oi) (hj : ops[j]? = some oj) (hm : ops[m]? = some om) (wi : Region.wanted oi (yielded ops a.tmps) = true) (wj : Region.wanted oj (yielded ops a.tmps) = true) (wm : Region.wanted om (yielded ops a.tmps) = true)
    (hI : ∀ K' : Act → World → Prop, Shut (∀ a' w', ((l.setIfInBounds i true).getD k true = false → S w') → tillK P ops Q S k n (l.setIfInBounds i true) a' w' → K' a' w') → Oper.wp P oi a w K' Q)
    (hJ : ∀ K' : Act → World → Prop, Shut (∀ a' w', ((l.setIfInBounds j true).getD k true = false → S w') → tillK P ops Q S k n (l.setIfInBounds j true) a' w' → K' a' w') → Oper.wp P oj a w K' Q)
    (hM : ∀ K' : Act → World → Prop, Shut (∀ a' w', ((l.setIfInBounds m true).getD k true = false → S w') → tillK P ops Q S k n (l.setIfInBounds m true) a' w' → K' a' w') → Oper.wp P om a w K' Q) : tillK P ops Q S k (n + 1) l a w := by
  refine ⟨fun h0 => (by rw [hr] at h0; cases h0), fun x hx => ?_⟩
  rw [hr] at hx
  rcases List.mem_cons.1 hx with rfl | hx
  · exact wpOp_step hi (fun K' hK => by rw [if_pos wi]; exact hI K' (fun a' w' h1 h2 => hK a' w' ⟨h1, h2⟩))
  rcases List.mem_cons.1 hx with rfl | hx
  · exact wpOp_step hj (fun K' hK => by rw [if_pos wj]; exact hJ K' (fun a' w' h1 h2 => hK a' w' ⟨h1, h2⟩))
  obtain rfl : x = m := by simpa using hx
  exact wpOp_step hm (fun K' hK => by rw [if_pos wm]; exact hM K' (fun a' w' h1 h2 => hK a' w' ⟨h1, h2⟩))
end
/-- The new box of a shard, the new box of an answer: what they come to. -/
structure TwB (w0 wr U : World) (x8 x6 x7 : Nat) (s s' : Sh) (A A' : Sad) (n : Ans) : Prop where
  old : LB w0 U x8 s A
  new : LB w0 U x6 s' A'
  an : AnB U x7 n
  n86 : x8 ≠ x6
  n87 : x8 ≠ x7
  n67 : x6 ≠ x7
  b : Below wr.heap.size wr U
/-- What stands ahead of the two stores. -/
structure TwA (w0 wr V : World) (x8 x6 x7 : Nat) (s s' : Sh) (A A' : Sad) : Prop where
  old : LB w0 wr x8 s A
  m : ShM V s' A'
  k6 : KB V x6 sK
  k7 : KB V x7 aK
  l6 : wr.heap.size ≤ x6
  l7 : wr.heap.size ≤ x7
  n67 : x6 ≠ x7
  b : Below wr.heap.size wr V
theorem TwA.fin {w0 wr V : World} {x8 x6 x7 : Nat} {s s' : Sh} {A A' : Sad} (n : Ans) (h : TwA w0 wr V x8 x6 x7 s s' A A') :
    ∀ U, U = set5s (set5s V x6 (.slice A'.ra s'.rows.length A'.rc) (.slice A'.ha s'.holds.length A'.hc) (.slice A'.oa s'.opn.length A'.oc) (.slice A'.da s'.done.length A'.dc) (.int .u64 (s'.ver : Nat))) x7 (.int .i64 (n.err : Nat)) (.string n.val) (.int .u64 (n.ver : Nat)) (.bool n.found) (.bool n.cm) → TwB w0 wr U x8 x6 x7 s s' A A' n := fun U hU => by
  have hlt := h.old.kb.lt
  have h6 := h.l6
  have h7 := h.l7
  have hol := h.old.l
  have hbU : Below wr.heap.size wr U := hU ▸ below_set5s (below_set5s h.b h6) h7
  obtain ⟨d0, d1, d2, d3, d4⟩ := h.k6.cells5 (.slice A'.ra s'.rows.length A'.rc) (.slice A'.ha s'.holds.length A'.hc) (.slice A'.oa s'.opn.length A'.oc) (.slice A'.da s'.done.length A'.dc) (.int .u64 (s'.ver : Nat))
  have k6 : KB (set5s V x6 (.slice A'.ra s'.rows.length A'.rc) (.slice A'.ha s'.holds.length A'.hc) (.slice A'.oa s'.opn.length A'.oc) (.slice A'.da s'.done.length A'.dc) (.int .u64 (s'.ver : Nat))) x6 sK := h.k6.set5
  have k7 : KB (set5s V x6 (.slice A'.ra s'.rows.length A'.rc) (.slice A'.ha s'.holds.length A'.hc) (.slice A'.oa s'.opn.length A'.oc) (.slice A'.da s'.done.length A'.dc) (.int .u64 (s'.ver : Nat))) x7 aK := h.k7.far5 h.n67
  have m6 := h.m.set5 (x := x6) (.slice A'.ra s'.rows.length A'.rc) (.slice A'.ha s'.holds.length A'.hc) (.slice A'.oa s'.opn.length A'.oc) (.slice A'.da s'.done.length A'.dc) (.int .u64 (s'.ver : Nat)) h.k6 fits_s rfl
  obtain ⟨V1, hV1⟩ : ∃ V1, set5s V x6 (.slice A'.ra s'.rows.length A'.rc) (.slice A'.ha s'.holds.length A'.hc) (.slice A'.oa s'.opn.length A'.oc) (.slice A'.da s'.done.length A'.dc) (.int .u64 (s'.ver : Nat)) = V1 := ⟨_, rfl⟩
  rw [hV1] at d0 d1 d2 d3 d4 k6 k7 m6 hU
  have hn : x7 ≠ x6 := fun e => h.n67 e.symm
  refine ⟨h.old.later hbU, ?_, hU ▸ k7.answer n, by omega, by omega, h.n67, hbU⟩
  subst hU
  have f : ∀ j v, V1.cell? ⟨x6, j, none⟩ = some v → (set5s V1 x7 (.int .i64 (n.err : Nat)) (.string n.val) (.int .u64 (n.ver : Nat)) (.bool n.found) (.bool n.cm)).cell? ⟨x6, j, none⟩ = some v := fun j v e => by
    rw [set5s, World.cell?_setCell_far _ _ _ _ hn, World.cell?_setCell_far _ _ _ _ hn, World.cell?_setCell_far _ _ _ _ hn, World.cell?_setCell_far _ _ _ _ hn, World.cell?_setCell_far _ _ _ _ hn]; exact e
  exact ⟨k6.far5 hn, f _ _ d0, f _ _ d1, f _ _ d2, f _ _ d3, f _ _ d4, m6.set5 _ _ _ _ _ k7 fits_a rfl, by omega⟩
end Go.Proofs.Ythgnecggdlamfaa
/- slices.Clone of the five lists, and where the copies lie; a shard of one's own. -/
namespace Go.Proofs.Ythgnecggdlamfaa
open Go.RowKit

set_option maxHeartbeats 1000000 in
theorem cloneRow_any (n c : Nat) (a : Option Addr) (L : List Ro) (hn : L.length = n) (hl : n * 40 ≤ 140737488355328) (w : World) (hM : Ros w a L) :
    Calls Try.prog 34 #[.slice a n c] w (ClQ 50 3 roC w L) := by
  cases a with
  | none =>
    have hL : L = [] := by
      cases L with
      | nil => rfl
      | cons x r => obtain ⟨b, off, e, _⟩ := hM.addr (by simp); cases e
    subst hL
    clear hl hn hM
    have q22 : ∀ (w : World) (a : Option Addr) (n c n' c' : Nat), (binOp .eql 22 (.slice a n c) (.slice none n' c')).run Try.prog w = .ok (.bool a.isNone) w := fun w a n c n' c' => Lib.run_eql_slice_nil w _ _ a n c n' c' Try.underlying22
    go_enter Try.func34, Try.ntmps34
    go_wp2_with fail
    go_ret
    exact ⟨none, 0, rfl, Cq.nil _ _ none, Below.refl _ _, fun q e => by cases e⟩
  | some p =>
    obtain ⟨v', w', hr, hc, hb, hlo⟩ := app_new roT w 22 p n c L hn hM hl
    have HR := Lib.hid hr
    have HF := Lib.hid (show ClQ 50 3 roC w L (.returned v') w' from by
      obtain ⟨a', c', rfl, _⟩ := hc.form roT
      exact ⟨a', c', rfl, hc, hb, fun q e => hlo q _ c' (by rw [e])⟩)
    clear hr hc hb hM hn hl hlo
    have q22 : ∀ (w : World) (a : Option Addr) (n c n' c' : Nat), (binOp .eql 22 (.slice a n c) (.slice none n' c')).run Try.prog w = .ok (.bool a.isNone) w := fun w a n c n' c' => Lib.run_eql_slice_nil w _ _ a n c n' c' Try.underlying22
    go_enter Try.func34, Try.ntmps34
    go_wp2_with (at_builtin; refine Lib.wpList_append_run _ rfl _ _ 22 22 rfl (.slice (some ⟨w.heap.size, 0, none⟩) 0 0) (.slice (some p) n c) rfl rfl _ _ HR.out ?_)
    go_wp2_with fail
    go_ret
    exact HF.out
set_option maxHeartbeats 1000000 in
theorem cloneHold_any (n c : Nat) (a : Option Addr) (L : List Ho) (hn : L.length = n) (hl : n * 40 ≤ 140737488355328) (w : World) (hM : Hos w a L) :
    Calls Try.prog 35 #[.slice a n c] w (ClQ 75 4 hoC w L) := by
  cases a with
  | none =>
    have hL : L = [] := by
      cases L with
      | nil => rfl
      | cons x r => obtain ⟨b, off, e, _⟩ := hM.addr (by simp); cases e
    subst hL
    clear hl hn hM
    have q22 : ∀ (w : World) (a : Option Addr) (n c n' c' : Nat), (binOp .eql 23 (.slice a n c) (.slice none n' c')).run Try.prog w = .ok (.bool a.isNone) w := fun w a n c n' c' => Lib.run_eql_slice_nil w _ _ a n c n' c' Try.underlying23
    go_enter Try.func35, Try.ntmps35
    go_wp2_with fail
    go_ret
    exact ⟨none, 0, rfl, Cq.nil _ _ none, Below.refl _ _, fun q e => by cases e⟩
  | some p =>
    obtain ⟨v', w', hr, hc, hb, hlo⟩ := app_new hoT w 23 p n c L hn hM hl
    have HR := Lib.hid hr
    have HF := Lib.hid (show ClQ 75 4 hoC w L (.returned v') w' from by
      obtain ⟨a', c', rfl, _⟩ := hc.form hoT
      exact ⟨a', c', rfl, hc, hb, fun q e => hlo q _ c' (by rw [e])⟩)
    clear hr hc hb hM hn hl hlo
    have q22 : ∀ (w : World) (a : Option Addr) (n c n' c' : Nat), (binOp .eql 23 (.slice a n c) (.slice none n' c')).run Try.prog w = .ok (.bool a.isNone) w := fun w a n c n' c' => Lib.run_eql_slice_nil w _ _ a n c n' c' Try.underlying23
    go_enter Try.func35, Try.ntmps35
    go_wp2_with (at_builtin; refine Lib.wpList_append_run _ rfl _ _ 23 23 rfl (.slice (some ⟨w.heap.size, 0, none⟩) 0 0) (.slice (some p) n c) rfl rfl _ _ HR.out ?_)
    go_wp2_with fail
    go_ret
    exact HF.out
set_option maxHeartbeats 1000000 in
theorem cloneOpen_any (n c : Nat) (a : Option Addr) (L : List SopM) (hn : L.length = n) (hl : n * 48 ≤ 140737488355328) (w : World) (hM : Rw 5 sopC w a L) :
    Calls Try.prog 36 #[.slice a n c] w (ClQ 48 5 sopC w L) := by
  cases a with
  | none =>
    have hL : L = [] := by
      cases L with
      | nil => rfl
      | cons x r => obtain ⟨b, off, e, _⟩ := hM.addr (by simp); cases e
    subst hL
    clear hl hn hM
    have q22 : ∀ (w : World) (a : Option Addr) (n c n' c' : Nat), (binOp .eql 24 (.slice a n c) (.slice none n' c')).run Try.prog w = .ok (.bool a.isNone) w := fun w a n c n' c' => Lib.run_eql_slice_nil w _ _ a n c n' c' Try.underlying24
    go_enter Try.func36, Try.ntmps36
    go_wp2_with fail
    go_ret
    exact ⟨none, 0, rfl, Cq.nil _ _ none, Below.refl _ _, fun q e => by cases e⟩
  | some p =>
    obtain ⟨v', w', hr, hc, hb, hlo⟩ := app_new sopT w 24 p n c L hn hM hl
    have HR := Lib.hid hr
    have HF := Lib.hid (show ClQ 48 5 sopC w L (.returned v') w' from by
      obtain ⟨a', c', rfl, _⟩ := hc.form sopT
      exact ⟨a', c', rfl, hc, hb, fun q e => hlo q _ c' (by rw [e])⟩)
    clear hr hc hb hM hn hl hlo
    have q22 : ∀ (w : World) (a : Option Addr) (n c n' c' : Nat), (binOp .eql 24 (.slice a n c) (.slice none n' c')).run Try.prog w = .ok (.bool a.isNone) w := fun w a n c n' c' => Lib.run_eql_slice_nil w _ _ a n c n' c' Try.underlying24
    go_enter Try.func36, Try.ntmps36
    go_wp2_with (at_builtin; refine Lib.wpList_append_run _ rfl _ _ 24 24 rfl (.slice (some ⟨w.heap.size, 0, none⟩) 0 0) (.slice (some p) n c) rfl rfl _ _ HR.out ?_)
    go_wp2_with fail
    go_ret
    exact HF.out
set_option maxHeartbeats 1000000 in
theorem cloneDone_any (n c : Nat) (a : Option Addr) (L : List Sdn) (hn : L.length = n) (hl : n * 24 ≤ 140737488355328) (w : World) (hM : Rw 3 sdnC w a L) :
    Calls Try.prog 37 #[.slice a n c] w (ClQ 68 3 sdnC w L) := by
  cases a with
  | none =>
    have hL : L = [] := by
      cases L with
      | nil => rfl
      | cons x r => obtain ⟨b, off, e, _⟩ := hM.addr (by simp); cases e
    subst hL
    clear hl hn hM
    have q22 : ∀ (w : World) (a : Option Addr) (n c n' c' : Nat), (binOp .eql 25 (.slice a n c) (.slice none n' c')).run Try.prog w = .ok (.bool a.isNone) w := fun w a n c n' c' => Lib.run_eql_slice_nil w _ _ a n c n' c' Try.underlying25
    go_enter Try.func37, Try.ntmps37
    go_wp2_with fail
    go_ret
    exact ⟨none, 0, rfl, Cq.nil _ _ none, Below.refl _ _, fun q e => by cases e⟩
  | some p =>
    obtain ⟨v', w', hr, hc, hb, hlo⟩ := app_new sdnT w 25 p n c L hn hM hl
    have HR := Lib.hid hr
    have HF := Lib.hid (show ClQ 68 3 sdnC w L (.returned v') w' from by
      obtain ⟨a', c', rfl, _⟩ := hc.form sdnT
      exact ⟨a', c', rfl, hc, hb, fun q e => hlo q _ c' (by rw [e])⟩)
    clear hr hc hb hM hn hl hlo
    have q22 : ∀ (w : World) (a : Option Addr) (n c n' c' : Nat), (binOp .eql 25 (.slice a n c) (.slice none n' c')).run Try.prog w = .ok (.bool a.isNone) w := fun w a n c n' c' => Lib.run_eql_slice_nil w _ _ a n c n' c' Try.underlying25
    go_enter Try.func37, Try.ntmps37
    go_wp2_with (at_builtin; refine Lib.wpList_append_run _ rfl _ _ 25 25 rfl (.slice (some ⟨w.heap.size, 0, none⟩) 0 0) (.slice (some p) n c) rfl rfl _ _ HR.out ?_)
    go_wp2_with fail
    go_ret
    exact HF.out
set_option maxHeartbeats 1000000 in
theorem clonePut_any (n c : Nat) (a : Option Addr) (L : List Pu) (hn : L.length = n) (hl : n * 40 ≤ 140737488355328) (w : World) (hM : Pus w a L) :
    Calls Try.prog 38 #[.slice a n c] w (ClQ 54 3 puC w L) := by
  cases a with
  | none =>
    have hL : L = [] := by
      cases L with
      | nil => rfl
      | cons x r => obtain ⟨b, off, e, _⟩ := hM.addr (by simp); cases e
    subst hL
    clear hl hn hM
    have q22 : ∀ (w : World) (a : Option Addr) (n c n' c' : Nat), (binOp .eql 31 (.slice a n c) (.slice none n' c')).run Try.prog w = .ok (.bool a.isNone) w := fun w a n c n' c' => Lib.run_eql_slice_nil w _ _ a n c n' c' Try.underlying31
    go_enter Try.func38, Try.ntmps38
    go_wp2_with fail
    go_ret
    exact ⟨none, 0, rfl, Cq.nil _ _ none, Below.refl _ _, fun q e => by cases e⟩
  | some p =>
    obtain ⟨v', w', hr, hc, hb, hlo⟩ := app_new puT w 31 p n c L hn hM hl
    have HR := Lib.hid hr
    have HF := Lib.hid (show ClQ 54 3 puC w L (.returned v') w' from by
      obtain ⟨a', c', rfl, _⟩ := hc.form puT
      exact ⟨a', c', rfl, hc, hb, fun q e => hlo q _ c' (by rw [e])⟩)
    clear hr hc hb hM hn hl hlo
    have q22 : ∀ (w : World) (a : Option Addr) (n c n' c' : Nat), (binOp .eql 31 (.slice a n c) (.slice none n' c')).run Try.prog w = .ok (.bool a.isNone) w := fun w a n c n' c' => Lib.run_eql_slice_nil w _ _ a n c n' c' Try.underlying31
    go_enter Try.func38, Try.ntmps38
    go_wp2_with (at_builtin; refine Lib.wpList_append_run _ rfl _ _ 31 31 rfl (.slice (some ⟨w.heap.size, 0, none⟩) 0 0) (.slice (some p) n c) rfl rfl _ _ HR.out ?_)
    go_wp2_with fail
    go_ret
    exact HF.out
/-- A list that doesn't lie in a block. -/
def NE (a : Option Addr) (g : Nat) : Prop := ∀ r, a = some r → r.block ≠ g
theorem NE.nb {a : Option Addr} {g : Nat} (h : NE a g) (n : Nat) : NB a n g := fun _ q hq => h q hq
/-- A list that lies between two blocks. -/
def LI (a : Option Addr) (lo hi : Nat) : Prop := ∀ q, a = some q → lo ≤ q.block ∧ q.block < hi
theorem LI.mono {a : Option Addr} {lo hi lo' hi' : Nat} (h : LI a lo hi) (h1 : lo' ≤ lo) (h2 : hi ≤ hi') : LI a lo' hi' := fun q e => ⟨Nat.le_trans h1 (h q e).1, Nat.lt_of_lt_of_le (h q e).2 h2⟩
theorem LI.ne {a : Option Addr} {lo hi g : Nat} (h : LI a lo hi) (hg : g < lo ∨ hi ≤ g) : NE a g := fun r e => by have := h r e; omega
/-- A store in one block, with its lists elsewhere. -/
theorem ShM.grown {w w' : World} {s : Sh} {A : Sad} (h : ShM w s A) {g : Nat} (hg : w.grownBy w' (some g)) (h1 : NB A.ra s.rows.length g) (h2 : NB A.ha s.holds.length g) (h3 : NB A.oa A.om.length g) (h4 : NB A.da s.done.length g) (h5 : ∀ y ∈ A.om, NB y.a y.x.puts.length g) : ShM w' s A :=
  ⟨rw_grown h.rows hg h1, rw_grown h.holds hg h2, h.om, rw_grown h.opn hg h3, fun y hy => rw_grown (h.puts y hy) hg (h5 y hy), rw_grown h.done hg h4, h.cp⟩
/-- A shard of the call's own: what is written there is nobody else's. -/
structure ShC (B : Nat) (w : World) (s : Sh) (A : Sad) : Prop where
  m : ShM w s A
  opn : Cq 48 5 sopC B w (.slice A.oa s.opn.length A.oc) A.om
  done : Cq 68 3 sdnC B w (.slice A.da s.done.length A.dc) s.done
  lr : LI A.ra B w.heap.size
  lh : LI A.ha B w.heap.size
  lo : LI A.oa B w.heap.size
  ld : LI A.da B w.heap.size
  lp : ∀ y ∈ A.om, LI y.a B w.heap.size
  so : ∀ q, A.oa = some q → NE A.ra q.block ∧ NE A.ha q.block ∧ NE A.da q.block ∧ ∀ y ∈ A.om, NE y.a q.block
  sd : ∀ q, A.da = some q → NE A.ra q.block ∧ NE A.ha q.block ∧ NE A.oa q.block ∧ ∀ y ∈ A.om, NE y.a q.block
theorem ShC.later {B : Nat} {w w' : World} {s : Sh} {A : Sad} (h : ShC B w s A) (hb : Below w.heap.size w w') : ShC B w' s A :=
  ⟨h.m.later hb, h.opn.later hb, h.done.later hb, h.lr.mono (Nat.le_refl _) hb.size, h.lh.mono (Nat.le_refl _) hb.size, h.lo.mono (Nat.le_refl _) hb.size, h.ld.mono (Nat.le_refl _) hb.size, fun y hy => (h.lp y hy).mono (Nat.le_refl _) hb.size, h.so, h.sd⟩
/-- A store in an elder block. -/
theorem ShC.box {B g : Nat} {w w' : World} {s : Sh} {A : Sad} (h : ShC B w s A) (hg : w.grownBy w' (some g)) (hl : g < B) : ShC B w' s A :=
  ⟨h.m.grown hg ((h.lr.ne (.inl hl)).nb _) ((h.lh.ne (.inl hl)).nb _) ((h.lo.ne (.inl hl)).nb _) ((h.ld.ne (.inl hl)).nb _) (fun y hy => ((h.lp y hy).ne (.inl hl)).nb _), h.opn.grown hg hl, h.done.grown hg hl, h.lr.mono (Nat.le_refl _) hg.size, h.lh.mono (Nat.le_refl _) hg.size, h.lo.mono (Nat.le_refl _) hg.size, h.ld.mono (Nat.le_refl _) hg.size, fun y hy => (h.lp y hy).mono (Nat.le_refl _) hg.size, h.so, h.sd⟩
theorem ShC.mono {B B' : Nat} {w : World} {s : Sh} {A : Sad} (h : ShC B w s A) (hB : B' ≤ B) : ShC B' w s A :=
  ⟨h.m, h.opn.mono hB, h.done.mono hB, h.lr.mono hB (Nat.le_refl _), h.lh.mono hB (Nat.le_refl _), h.lo.mono hB (Nat.le_refl _), h.ld.mono hB (Nat.le_refl _), fun y hy => (h.lp y hy).mono hB (Nat.le_refl _), h.so, h.sd⟩
end Go.Proofs.Ythgnecggdlamfaa
