/- What a store in one block keeps; append with the block that it may write; open transactions, ended ones as rows. -/
import Derived.Test.YthgnecggdlamfaaGreatYl
import Derived.Test.YthgnecggdlamfaaGreatHd
import Derived.OrdersHeld
import Derived.Deep.RegionHeld3
namespace Go.Proofs.YthgnecggdlamfaaGreat
open Go.RowKit

/-- A list that lies in another block. -/
def NB (a : Option Addr) (n g : Nat) : Prop := 0 < n → ∀ q, a = some q → q.block ≠ g
theorem NB.lt {a : Option Addr} {n g B : Nat} (h : 0 < n → ∀ q, a = some q → q.block < B) (hg : B ≤ g) : NB a n g := fun h0 q hq => by have := h h0 q hq; omega
theorem NB.ge {a : Option Addr} {n g B : Nat} (h : 0 < n → ∀ q, a = some q → B ≤ q.block) (hg : g < B) : NB a n g := fun h0 q hq => by have := h h0 q hq; omega
section
variable {α : Type} {k : Nat} {f : α → List Value} {w w' : World} {a : Option Addr} {L : List α}
theorem rw_lt (h : Rw k f w a L) : 0 < L.length → ∀ q, a = some q → q.block < w.heap.size := by
  intro h0 q hq
  obtain ⟨b, off, e, hb, _⟩ := h 0 L[0] (List.getElem?_eq_getElem h0)
  rw [hq] at e
  cases e
  exact hb
theorem rw_grown (h : Rw k f w a L) {g : Nat} (hg : w.grownBy w' (some g)) (hn : NB a L.length g) : Rw k f w' a L := by
  intro j x hx
  obtain ⟨b, off, e, hb, c⟩ := h j x hx
  have hj := (List.getElem?_eq_some_iff.1 hx).1
  have hne : b ≠ g := hn (by omega) _ e
  exact ⟨b, off, e, Nat.lt_of_lt_of_le hb hg.size, fun i u hu => (World.cell?_of_block (a := ⟨b, off + j * k + i, none⟩) (hg.block b hb (by simpa using hne))).trans (c i u hu)⟩
theorem rw_none (h : Rw k f w a L) (hg : w.grownBy w' none) : Rw k f w' a L := h.later ⟨hg.os, hg.tape, hg.output, hg.size, fun k hk => hg.block k hk (by simp)⟩
end
section
variable {α : Type} {T E : TypeId} {k bs : Nat} {z : Value} {f : α → List Value} {B : Nat} {w : World} {v : Value} {L : List α}
/-- append(row, list...), and which block it may write. -/
theorem app_rwG (R : RowT T E k bs z f) (B : Nat) (w : World) (ty : TypeId) (v : Value) (L : List α) (h : Cq E k f B w v L) (a : Option Addr) (m c : Nat) (M : List α) (hm : M.length = m) (hM : Rw k f w a M) (hl : (L.length + m) * bs ≤ 140737488355328) (hB : B ≤ w.heap.size) :
    ∃ v' w', (Builtin.append_ #[T, T] ty #[v, .slice a m c]).run Tryz.prog w = .ok v' w' ∧ (Cq E k f B w' v' (L ++ M) ∧ (m = 0 → v' = v ∧ w' = w) ∧ ∃ r, w.grownBy w' r ∧ ∀ g, r = some g → B ≤ g ∧ ∃ n' c', v = .slice (some ⟨g, 0, none⟩) n' c') := by
  obtain ⟨i0, hi, hz0, hz1', hz2'⟩ := info_parts R.info
  rcases Nat.eq_zero_or_pos m with h0 | h0
  · subst h0
    have hM0 : M = [] := List.length_eq_zero_iff.1 hm
    subst hM0
    rw [List.append_nil]
    have hs : Src Tryz.prog i0.size T (.slice a 0 c) 0 [] w := by
      cases a with
      | none => exact Src.ofNil w R.und c
      | some p => exact Src.ofSlice w R.und p 0 c [] (by simp) (by simp) (by simp)
    have hv : ∃ ao n cap, v = .slice ao n cap ∧ n ≤ cap := by
      rcases h with ⟨_, ao, rfl⟩ | h
      · exact ⟨ao, 0, 0, rfl, Nat.le_refl _⟩
      · rcases h.2 with ⟨rfl, h0⟩ | ⟨g, cap, cur, rfl, _, _, hn, _⟩
        · exact ⟨none, 0, 0, rfl, Nat.le_refl _⟩
        · exact ⟨_, _, cap, rfl, hn⟩
    obtain ⟨ao, n, cap, rfl, hle⟩ := hv
    exact ⟨_, _, run_append_nothing w _ _ ty _ i0 R.und hi ao n cap hle _ hs, h, fun _ => ⟨rfl, rfl⟩, none, ⟨rfl, rfl, rfl, Nat.le_refl _, fun _ _ _ => rfl⟩, fun g e => by cases e⟩
  · obtain ⟨b1, off, rfl, hb1⟩ := hM.addr (by omega)
    have hrow := rw_row R.len R.kp hM
    have hnews : ∀ j u, (rwC f M)[j]? = some u → w.cell? ((⟨b1, off, none⟩ : Addr).add j) = some u := fun j u hj => by rw [addAny']; exact hrow j u hj
    have hlen : (rwC f M).length = m * k := by rw [rwC_len R.len, hm]
    have hmx := maxLen_of R.bp hl
    rcases h with ⟨rfl, ao, rfl⟩ | h
    · simp only [List.length_nil, Nat.zero_add] at hl hmx
      cases ao with
      | none =>
        obtain ⟨v', w', hr, hown, hg, _⟩ := run_append_own (P := Tryz.prog) w B T ty E i0 _ k bs R.und hi hz0 hz1' hz2' R.zs R.kp (.slice none 0 0) 0 [] (World.ownsRow_nil w B _ k) ⟨b1, off, none⟩ m c (rwC f M) hlen hnews (oneRw R M) (by simpa using hmx) (by simpa using hl) hB
        refine ⟨v', w', hr, .inr ?_, fun h => by omega, _, hg, fun g e => by simp [Value.ownBlock] at e⟩
        simpa [hm] using hown
      | some b =>
        obtain ⟨v', w', hr, hown, hg⟩ := run_append_arg_grows (P := Tryz.prog) w T ty E i0 _ k bs R.und hi hz0 hz1' hz2' R.zs R.kp b 0 0 [] (by simp) (by simp)
          ⟨b1, off, none⟩ m c (rwC f M) hlen hnews (by omega) (by simpa using hmx) (by simpa using hl)
        refine ⟨v', w', hr, .inr ?_, fun h => by omega, _, hg, fun g e => by simp at e⟩
        have hown' := owns_less hown hB
        simpa [hm] using hown'
    · obtain ⟨v', w', hr, hown, hg, _⟩ := run_append_own (P := Tryz.prog) w B T ty E i0 _ k bs R.und hi hz0 hz1' hz2' R.zs R.kp v L.length (rwC f L) h ⟨b1, off, none⟩ m c (rwC f M) hlen hnews (oneRw R M) hmx hl hB
      refine ⟨v', w', hr, .inr ?_, fun h => by omega, _, hg, fun g e => ⟨(h.lt g e).1, ?_⟩⟩
      · rw [List.length_append, rwC_app, hm]
        exact hown
      · rcases h.2 with ⟨rfl, _⟩ | ⟨g', cap, cur, rfl, _⟩
        · simp [Value.ownBlock] at e
        · simp only [Value.ownBlock, Option.some.injEq] at e
          subst e
          exact ⟨_, _, rfl⟩
/-- A store in another block keeps a row of one's own. -/
theorem Cq.grownT (_ : RowT T E k bs z f) (h : Cq E k f B w v L) {w' : World} {g : Nat} (hg : w.grownBy w' (some g)) (hn : ∀ n c, v ≠ .slice (some ⟨g, 0, none⟩) n c) : Cq E k f B w' v L := by
  rcases h with h | h
  · exact .inl h
  · refine .inr (h.kept hg ?_)
    rcases h.2 with ⟨rfl, _⟩ | ⟨g', cap, cur, rfl, _⟩
    · exact .inl (by simp [Value.ownBlock])
    · refine .inr ?_
      simp only [Value.ownBlock]
      intro e
      cases e
      exact hn _ _ rfl
end
/-- append(E{}, list...), as Clone does it. -/
theorem app_new {α : Type} {T E : TypeId} {k bs : Nat} {z : Value} {f : α → List Value} (R : RowT T E k bs z f) (w : World) (ty : TypeId) (p : Addr) (m c : Nat) (M : List α) (hm : M.length = m) (hM : Rw k f w (some p) M) (hl : m * bs ≤ 140737488355328) :
    ∃ v' w', (Builtin.append_ #[T, T] ty #[.slice (some ⟨w.heap.size, 0, none⟩) 0 0, .slice (some p) m c]).run Tryz.prog (w.alloc (.cells #[] E)) = .ok v' w' ∧ Cq E k f w.heap.size w' v' M ∧ Below w.heap.size w w' ∧ ∀ q n c, v' = .slice (some q) n c → w.heap.size ≤ q.block ∧ q.block < w'.heap.size := by
  have B0 : Below w.heap.size w (w.alloc (.cells #[] E)) := (Below.refl _ _).alloc (Nat.le_refl _) _
  obtain ⟨v', w', hr, hc, h0, r, hg, hr2⟩ := app_rwG R w.heap.size (w.alloc (.cells #[] E)) ty (.slice (some ⟨w.heap.size, 0, none⟩) 0 0) [] (Cq.nil _ _ _) (some p) m c M hm (hM.later B0) (by simpa using hl) (by simp)
  rw [List.nil_append] at hc
  have hb : Below w.heap.size w w' := B0.grown hg (by simp) (fun g e => (hr2 g e).1)
  refine ⟨v', w', hr, hc, hb, fun q n c e => ?_⟩
  rcases Nat.eq_zero_or_pos m with h | h
  · obtain ⟨e1, e2⟩ := h0 h
    rw [e1] at e
    injection e with e _ _
    injection e with e
    subst e
    rw [e2]
    exact ⟨Nat.le_refl _, by simp⟩
  · obtain ⟨a', c', e2, hR, h2, _⟩ := hc.form R
    rw [e] at e2
    injection e2 with e2 _ _
    subst e2
    exact ⟨h2 (by omega) _ rfl, rw_lt hR (by omega) _ rfl⟩
/-- What Clone answers: a row of its own, where it lies. -/
def ClQ {α : Type} (E : TypeId) (k : Nat) (f : α → List Value) (w : World) (L : List α) (e : Ending) (w' : World) : Prop := ∃ a c, e = .returned (.slice a L.length c) ∧ Cq E k f w.heap.size w' (.slice a L.length c) L ∧ Below w.heap.size w w' ∧ ∀ q, a = some q → w.heap.size ≤ q.block ∧ q.block < w'.heap.size
theorem sopT : RowT 24 50 5 48 (.agg #[.int .u64 0, .int .u64 0, .bool false, .bool false, .slice none 0 0]) sopC where
  und := Tryz.underlying24
  info := by kernel_rfl
  zs := rfl
  kp := by decide
  bp := by decide
  len _ := rfl
  one x u hu := by
    simp only [sopC, List.mem_cons, List.not_mem_nil, or_false] at hu
    rcases hu with rfl | rfl | rfl | rfl | rfl <;> rfl
theorem sdnT : RowT 25 64 3 24 (.agg #[.int .u64 0, .int .u64 0, .bool false]) sdnC where
  und := Tryz.underlying25
  info := by kernel_rfl
  zs := rfl
  kp := by decide
  bp := by decide
  len _ := rfl
  one x u hu := by
    simp only [sdnC, List.mem_cons, List.not_mem_nil, or_false] at hu
    rcases hu with rfl | rfl | rfl <;> rfl
end Go.Proofs.YthgnecggdlamfaaGreat
/- A region that draws its order: what it loads may be taken first, if no operation that may come ahead of a mark writes there. -/
namespace Go.Proofs.YthgnecggdlamfaaGreat
open Go

section
variable {P : Program} {ops : Array Oper} {Q : Exit → Act → World → Prop} {S : World → Prop} {k : Nat}

/-- Whatever order is picked; S holds behind each operation that is carried out while number k hasn't come up. -/
def tillK (P : Program) (ops : Array Oper) (Q : Exit → Act → World → Prop) (S : World → Prop) (k : Nat) : Nat → Array Bool → Act → World → Prop
  | 0, l, a, w => Region.ready .any ops l = [] ∧ Q .normal a w
  | n + 1, l, a, w => (Region.ready .any ops l = [] → Q .normal a w) ∧
      ∀ i ∈ Region.ready .any ops l, wpOp P ops Q i (fun a' w' => ((l.setIfInBounds i true).getD k true = false → S w') ∧ tillK P ops Q S k n (l.setIfInBounds i true) a' w') a w
theorem tillK_any : ∀ (n : Nat) (l : Array Bool) (a : Act) (w : World), tillK P ops Q S k n l a w → wpAny P .any ops Q n l a w
  | 0, _, _, _, h => h
  | n + 1, _, _, _, h => ⟨h.1, fun i hi => wpOp_mono (fun _ _ h' => tillK_any n _ _ _ h'.2) (h.2 i hi)⟩
theorem tillK_begin {id : Nat} {a : Act} {w : World} (hm : P.follows .mixedOrders = true) (h : tillK P ops Q S k ops.size (Array.replicate ops.size false) a w.drew) : (Code.region id ops true).wp P Q a w :=
  wp_region_any hm (tillK_any _ _ _ _ h)
/-- One that number k waits for is taken first. -/
theorem tillK_first {i : Nat} {oi ok : Oper} {v : Value} (hi : ops[i]? = some oi) (hk : ops[k]? = some ok) (hw : ∃ e ∈ ok.after, Region.binds .any e = true ∧ e.on = i) (hsel : Region.noSelect ops = true)
    (hQ : ∀ c a w, Q (.panic c) (a.put oi.dst v) w → Q (.panic c) a w) (hik : i ≠ k) :
    ∀ (n : Nat) (l : Array Bool) (a : Act) (w : World),
      (∀ j oj, ops[j]? = some oj → j ≠ i → l.getD j true = false → (∀ e ∈ oj.after, Region.binds .any e = true → e.on ≠ i) → oi.apart ops oj = true) →
      i ∈ Region.ready .any ops l → l.getD k true = false → YieldsIf P ops S oi v a → S w →
      tillK P ops Q S k n (l.setIfInBounds i true) (a.put oi.dst v) w → tillK P ops Q S k (n + 1) l a w
  | 0, l, a, w, _, hr, hlk, hy, hS, H => by
    refine ⟨fun h => (by rw [h] at hr; cases hr), fun j hj => ?_⟩
    by_cases e : j = i
    · subst e; exact hy.wpOp hi hS ⟨fun _ => hS, H⟩
    · have := ready_mono hj e
      rw [H.1] at this; cases this
  | n + 1, l, a, w, hf, hr, hlk, hy, hS, H => by
    refine ⟨fun h => (by rw [h] at hr; cases hr), fun j hj => ?_⟩
    by_cases e : j = i
    · subst e; exact hy.wpOp hi hS ⟨fun _ => hS, H⟩
    have hir := (mem_ready.1 hr).1
    obtain ⟨hju, oj, hoj, hall⟩ := mem_ready.1 hj
    have hun : ∀ x : Nat, x = i → l.getD x false = false := fun x hx => by
      subst hx
      by_cases hlt : x < l.size
      · simp only [Array.getD_eq_getD_getElem?, Array.getElem?_eq_getElem hlt, Option.getD_some] at hir ⊢
        exact hir
      · simp only [Array.getD_eq_getD_getElem?, Array.getElem?_eq_none (Nat.le_of_not_lt hlt), Option.getD_none] at hir
        cases hir
    have hjk : j ≠ k := fun e2 => by
      subst e2
      rw [hoj] at hk
      cases hk
      obtain ⟨e, he, hb, hon⟩ := hw
      have h1 := hall e he hb
      rw [hun _ hon] at h1; cases h1
    have hno : ∀ e ∈ oj.after, Region.binds .any e = true → e.on ≠ i := fun e he hb hon => by
      have h1 := hall e he hb
      rw [hun _ hon] at h1; cases h1
    have h2 := wpOp_putIf hoj (hf j oj hoj e hju hno) (fun cs b => Region.noSelect_spec hsel i oi cs b hi) (fun cs b => Region.noSelect_spec hsel j oj cs b hoj) hQ hy (H.2 j (ready_mono hj e))
    have hk2 : (l.setIfInBounds j true).getD k true = false := by rw [getD_set_ne true hjk]; exact hlk
    have hk3 : ((l.setIfInBounds i true).setIfInBounds j true).getD k true = false := by rw [getD_set_ne true hjk, getD_set_ne true hik]; exact hlk
    refine wpOp_mono (fun a' w' h3 => ⟨fun _ => h3.2.1 hk3, tillK_first hi hk hw hsel hQ hik n (l.setIfInBounds j true) a' w' (fun x ox hox hxi hxu hxn => hf x ox hox hxi ?_ hxn) (ready_mono hr (Ne.symm e)) hk2 h3.1 (h3.2.1 hk3) ?_⟩) h2
    · by_cases hjx : j = x
      · subst hjx; exact hju
      · rw [getD_set_ne true hjx] at hxu; exact hxu
    · rw [Array.setIfInBounds_comm _ _ e]
      exact h3.2.2
theorem tillK_take {i : Nat} {oi : Oper} {v : Value} {n : Nat} {l : Array Bool} {a : Act} {w : World} (hi : ops[i]? = some oi) (hw : (ops[k]?.any fun ok => ok.after.any fun e => Region.binds .any e && e.on == i) = true) (hsel : Region.noSelect ops = true)
    (hf : Region.free .any ops l i = true) (hr : (Region.ready .any ops l).contains i = true) (hlk : l.getD k true = false) (hik : (i == k) = false)
    (hQ : ∀ c a w, Q (.panic c) (a.put oi.dst v) w → Q (.panic c) a w) (hy : YieldsIf P ops S oi v a) (hS : S w)
    (h : tillK P ops Q S k n (l.setIfInBounds i true) (a.put oi.dst v) w) : tillK P ops Q S k (n + 1) l a w := by
  cases hk : ops[k]? with
  | none => rw [hk] at hw; cases hw
  | some ok =>
    rw [hk] at hw
    simp only [Option.any_some, Array.any_eq_true', Bool.and_eq_true, beq_iff_eq] at hw
    obtain ⟨e, he, hb, hon⟩ := hw
    exact tillK_first hi hk ⟨e, he, hb, hon⟩ hsel hQ (by simpa using hik) n l a w (Region.free_spec hi hf) (by simpa using hr) hlk hy hS h
/-- The one that may come up is carried out; S is to be shown behind it. -/
theorem tillK_step {i : Nat} {o : Oper} {n : Nat} {l : Array Bool} {a : Act} {w : World} (hr : Region.ready .any ops l = [i]) (ho : ops[i]? = some o) (hw : Region.wanted o (yielded ops a.tmps) = true)
    (h : ∀ K' : Act → World → Prop, Shut (∀ a' w', ((l.setIfInBounds i true).getD k true = false → S w') → tillK P ops Q S k n (l.setIfInBounds i true) a' w' → K' a' w') → Oper.wp P o a w K' Q) : tillK P ops Q S k (n + 1) l a w := by
  refine ⟨fun h0 => (by rw [hr] at h0; cases h0), fun j hj => ?_⟩
  rw [hr] at hj
  obtain rfl : j = i := by simpa using hj
  exact wpOp_step ho (fun K' hK => by rw [if_pos hw]; exact h K' (fun a' w' h1 h2 => hK a' w' ⟨h1, h2⟩))
theorem tillK_done {n : Nat} {l : Array Bool} {a : Act} {w : World} (hr : Region.ready .any ops l = []) (h : Q .normal a w) : tillK P ops Q S k n l a w := by
  cases n with
  | zero => exact ⟨hr, h⟩
  | succ n => exact ⟨fun _ => h, by rw [hr]; simp⟩
end
end Go.Proofs.YthgnecggdlamfaaGreat
