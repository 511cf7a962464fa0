/- A region that draws its order: what it loads may be taken first, if no operation that may come ahead of a mark writes there. -/
import Derived.OrdersHeld
import Derived.Deep.RegionHeld3
import Derived.Test.YtohhkacnjhgamaaPa
namespace Go.Proofs.Ytohhkacnjhgamaa
open Go

section
variable {P : Program} {ops : Array Oper} {Q : Exit → Act → World → Prop} {S : World → Prop} {k : Nat}

/-- Whatever order is picked; S holds behind each operation that is carried out while number k hasn't come up. -/
def tillK (P : Program) (ops : Array Oper) (Q : Exit → Act → World → Prop) (S : World → Prop) (k : Nat) : Nat → Array Bool → Act → World → Prop
  | 0, l, a, w => Region.ready .any ops l = [] ∧ Q .normal a w
  | n + 1, l, a, w => (Region.ready .any ops l = [] → Q .normal a w) ∧
      ∀ i ∈ Region.ready .any ops l, wpOp P ops Q i (fun a' w' => ((l.setIfInBounds i true).getD k true = false → S w') ∧ tillK P ops Q S k n (l.setIfInBounds i true) a' w') a w
theorem tillK_any : ∀ (n : Nat) (l : Array Bool) (a : Act) (w : World), tillK P ops Q S k n l a w → wpAny P .any ops Q n l a w
  | 0, _, _, _, h => h
  | n + 1, _, _, _, h => ⟨h.1, fun i hi => wpOp_mono (fun _ _ h' => tillK_any n _ _ _ h'.2) (h.2 i hi)⟩
theorem tillK_begin {id : Nat} {a : Act} {w : World} (hm : P.follows .mixedOrders = true) (h : tillK P ops Q S k ops.size (Array.replicate ops.size false) a w.drew) : (Code.region id ops true).wp P Q a w :=
  wp_region_any hm (tillK_any _ _ _ _ h)
/-- One that number k waits for is taken first. -/
theorem tillK_first {i : Nat} {oi ok : Oper} {v : Value} (hi : ops[i]? = some oi) (hk : ops[k]? = some ok) (hw : ∃ e ∈ ok.after, Region.binds .any e = true ∧ e.on = i) (hsel : Region.noSelect ops = true)
    (hQ : ∀ c a w, Q (.panic c) (a.put oi.dst v) w → Q (.panic c) a w) (hik : i ≠ k) :
    ∀ (n : Nat) (l : Array Bool) (a : Act) (w : World),
      (∀ j oj, ops[j]? = some oj → j ≠ i → l.getD j true = false → (∀ e ∈ oj.after, Region.binds .any e = true → e.on ≠ i) → oi.apart ops oj = true) →
      i ∈ Region.ready .any ops l → l.getD k true = false → YieldsIf P ops S oi v a → S w →
      tillK P ops Q S k n (l.setIfInBounds i true) (a.put oi.dst v) w → tillK P ops Q S k (n + 1) l a w
  | 0, l, a, w, _, hr, hlk, hy, hS, H => by
    refine ⟨fun h => (by rw [h] at hr; cases hr), fun j hj => ?_⟩
    by_cases e : j = i
    · subst e; exact hy.wpOp hi hS ⟨fun _ => hS, H⟩
    · have := ready_mono hj e
      rw [H.1] at this; cases this
  | n + 1, l, a, w, hf, hr, hlk, hy, hS, H => by
    refine ⟨fun h => (by rw [h] at hr; cases hr), fun j hj => ?_⟩
    by_cases e : j = i
    · subst e; exact hy.wpOp hi hS ⟨fun _ => hS, H⟩
    have hir := (mem_ready.1 hr).1
    obtain ⟨hju, oj, hoj, hall⟩ := mem_ready.1 hj
    have hun : ∀ x : Nat, x = i → l.getD x false = false := fun x hx => by
      subst hx
      by_cases hlt : x < l.size
      · simp only [Array.getD_eq_getD_getElem?, Array.getElem?_eq_getElem hlt, Option.getD_some] at hir ⊢
        exact hir
      · simp only [Array.getD_eq_getD_getElem?, Array.getElem?_eq_none (Nat.le_of_not_lt hlt), Option.getD_none] at hir
        cases hir
    have hjk : j ≠ k := fun e2 => by
      subst e2
      rw [hoj] at hk
      cases hk
      obtain ⟨e, he, hb, hon⟩ := hw
      have h1 := hall e he hb
      rw [hun _ hon] at h1; cases h1
    have hno : ∀ e ∈ oj.after, Region.binds .any e = true → e.on ≠ i := fun e he hb hon => by
      have h1 := hall e he hb
      rw [hun _ hon] at h1; cases h1
    have h2 := wpOp_putIf hoj (hf j oj hoj e hju hno) (fun cs b => Region.noSelect_spec hsel i oi cs b hi) (fun cs b => Region.noSelect_spec hsel j oj cs b hoj) hQ hy (H.2 j (ready_mono hj e))
    have hk2 : (l.setIfInBounds j true).getD k true = false := by rw [getD_set_ne true hjk]; exact hlk
    have hk3 : ((l.setIfInBounds i true).setIfInBounds j true).getD k true = false := by rw [getD_set_ne true hjk, getD_set_ne true hik]; exact hlk
    refine wpOp_mono (fun a' w' h3 => ⟨fun _ => h3.2.1 hk3, tillK_first hi hk hw hsel hQ hik n (l.setIfInBounds j true) a' w' (fun x ox hox hxi hxu hxn => hf x ox hox hxi ?_ hxn) (ready_mono hr (Ne.symm e)) hk2 h3.1 (h3.2.1 hk3) ?_⟩) h2
    · by_cases hjx : j = x
      · subst hjx; exact hju
      · rw [getD_set_ne true hjx] at hxu; exact hxu
    · rw [Array.setIfInBounds_comm _ _ e]
      exact h3.2.2
theorem tillK_take {i : Nat} {oi : Oper} {v : Value} {n : Nat} {l : Array Bool} {a : Act} {w : World} (hi : ops[i]? = some oi) (hw : (ops[k]?.any fun ok => ok.after.any fun e => Region.binds .any e && e.on == i) = true) (hsel : Region.noSelect ops = true)
    (hf : Region.free .any ops l i = true) (hr : (Region.ready .any ops l).contains i = true) (hlk : l.getD k true = false) (hik : (i == k) = false)
    (hQ : ∀ c a w, Q (.panic c) (a.put oi.dst v) w → Q (.panic c) a w) (hy : YieldsIf P ops S oi v a) (hS : S w)
    (h : tillK P ops Q S k n (l.setIfInBounds i true) (a.put oi.dst v) w) : tillK P ops Q S k (n + 1) l a w := by
  cases hk : ops[k]? with
  | none => rw [hk] at hw; cases hw
  | some ok =>
    rw [hk] at hw
    simp only [Option.any_some, Array.any_eq_true', Bool.and_eq_true, beq_iff_eq] at hw
    obtain ⟨e, he, hb, hon⟩ := hw
    exact tillK_first hi hk ⟨e, he, hb, hon⟩ hsel hQ (by simpa using hik) n l a w (Region.free_spec hi hf) (by simpa using hr) hlk hy hS h
/-- The one that may come up is carried out; S is to be shown behind it. -/
theorem tillK_step {i : Nat} {o : Oper} {n : Nat} {l : Array Bool} {a : Act} {w : World} (hr : Region.ready .any ops l = [i]) (ho : ops[i]? = some o) (hw : Region.wanted o (yielded ops a.tmps) = true)
    (h : ∀ K' : Act → World → Prop, Shut (∀ a' w', ((l.setIfInBounds i true).getD k true = false → S w') → tillK P ops Q S k n (l.setIfInBounds i true) a' w' → K' a' w') → Oper.wp P o a w K' Q) : tillK P ops Q S k (n + 1) l a w := by
  refine ⟨fun h0 => (by rw [hr] at h0; cases h0), fun j hj => ?_⟩
  rw [hr] at hj
  obtain rfl : j = i := by simpa using hj
  exact wpOp_step ho (fun K' hK => by rw [if_pos hw]; exact h K' (fun a' w' h1 h2 => hK a' w' ⟨h1, h2⟩))
theorem tillK_done {n : Nat} {l : Array Bool} {a : Act} {w : World} (hr : Region.ready .any ops l = []) (h : Q .normal a w) : tillK P ops Q S k n l a w := by
  cases n with
  | zero => exact ⟨hr, h⟩
  | succ n => exact ⟨fun _ => h, by rw [hr]; simp⟩
end
end Go.Proofs.Ytohhkacnjhgamaa
