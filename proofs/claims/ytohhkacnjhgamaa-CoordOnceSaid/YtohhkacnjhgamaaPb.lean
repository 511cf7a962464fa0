/- slices.Clone of deals and of numbers; deals of one's own. -/
import Derived.Test.YtohhkacnjhgamaaTo
import Derived.Test.YtohhkacnjhgamaaOc
namespace Go.Proofs.Ytohhkacnjhgamaa
open Go.RowKit

theorem nuT : RowT 29 25 1 8 (.int .u64 0) numC where
  und := Try.underlying29
  info := by kernel_rfl
  zs := rfl
  kp := by decide
  bp := by decide
  len _ := rfl
  one x u hu := by
    simp only [numC, List.mem_cons, List.not_mem_nil, or_false] at hu
    rcases hu with rfl <;> rfl
theorem dlT : RowT 22 31 4 48 (.agg #[.int .u64 0, .int .u64 0, .slice none 0 0, .int .i64 0]) dlC where
  und := Try.underlying22
  info := by kernel_rfl
  zs := rfl
  kp := by decide
  bp := by decide
  len _ := rfl
  one x u hu := by
    simp only [dlC, List.mem_cons, List.not_mem_nil, or_false] at hu
    rcases hu with rfl | rfl | rfl | rfl <;> rfl
set_option maxHeartbeats 1000000 in
theorem cloneU_any (n c : Nat) (a : Option Addr) (L : List Nat) (hn : L.length = n) (hl : n * 8 ≤ 140737488355328) (w : World) (hM : Rw 1 numC w a L) :
    Calls Try.prog 30 #[.slice a n c] w (ClQ 25 1 numC w L) := by
  cases a with
  | none =>
    have hL : L = [] := by
      cases L with
      | nil => rfl
      | cons x r => obtain ⟨b, off, e, _⟩ := hM.addr (by simp); cases e
    subst hL
    clear hl hn hM
    have q22 : ∀ (w : World) (a : Option Addr) (n c n' c' : Nat), (binOp .eql 29 (.slice a n c) (.slice none n' c')).run Try.prog w = .ok (.bool a.isNone) w := fun w a n c n' c' => Lib.run_eql_slice_nil w _ _ a n c n' c' Try.underlying29
    go_enter Try.func30, Try.ntmps30
    go_wp2_with fail
    go_ret
    exact ⟨none, 0, rfl, Cq.nil _ _ none, Below.refl _ _, fun q e => by cases e⟩
  | some p =>
    obtain ⟨v', w', hr, hc, hb, hlo⟩ := app_new nuT w 29 p n c L hn hM hl
    have HR := Lib.hid hr
    have HF := Lib.hid (show ClQ 25 1 numC w L (.returned v') w' from by
      obtain ⟨a', c', rfl, _⟩ := hc.form nuT
      exact ⟨a', c', rfl, hc, hb, fun q e => hlo q _ c' (by rw [e])⟩)
    clear hr hc hb hM hn hl hlo
    have q22 : ∀ (w : World) (a : Option Addr) (n c n' c' : Nat), (binOp .eql 29 (.slice a n c) (.slice none n' c')).run Try.prog w = .ok (.bool a.isNone) w := fun w a n c n' c' => Lib.run_eql_slice_nil w _ _ a n c n' c' Try.underlying29
    go_enter Try.func30, Try.ntmps30
    go_wp2_with (at_builtin; refine Lib.wpList_append_run _ rfl _ _ 29 29 rfl (.slice (some ⟨w.heap.size, 0, none⟩) 0 0) (.slice (some p) n c) rfl rfl _ _ HR.out ?_)
    go_wp2_with fail
    go_ret
    exact HF.out
set_option maxHeartbeats 1000000 in
theorem cloneDl_any (n c : Nat) (a : Option Addr) (L : List DlM) (hn : L.length = n) (hl : n * 48 ≤ 140737488355328) (w : World) (hM : Rw 4 dlC w a L) :
    Calls Try.prog 32 #[.slice a n c] w (ClQ 31 4 dlC w L) := by
  cases a with
  | none =>
    have hL : L = [] := by
      cases L with
      | nil => rfl
      | cons x r => obtain ⟨b, off, e, _⟩ := hM.addr (by simp); cases e
    subst hL
    clear hl hn hM
    have q22 : ∀ (w : World) (a : Option Addr) (n c n' c' : Nat), (binOp .eql 22 (.slice a n c) (.slice none n' c')).run Try.prog w = .ok (.bool a.isNone) w := fun w a n c n' c' => Lib.run_eql_slice_nil w _ _ a n c n' c' Try.underlying22
    go_enter Try.func32, Try.ntmps32
    go_wp2_with fail
    go_ret
    exact ⟨none, 0, rfl, Cq.nil _ _ none, Below.refl _ _, fun q e => by cases e⟩
  | some p =>
    obtain ⟨v', w', hr, hc, hb, hlo⟩ := app_new dlT w 22 p n c L hn hM hl
    have HR := Lib.hid hr
    have HF := Lib.hid (show ClQ 31 4 dlC w L (.returned v') w' from by
      obtain ⟨a', c', rfl, _⟩ := hc.form dlT
      exact ⟨a', c', rfl, hc, hb, fun q e => hlo q _ c' (by rw [e])⟩)
    clear hr hc hb hM hn hl hlo
    have q22 : ∀ (w : World) (a : Option Addr) (n c n' c' : Nat), (binOp .eql 22 (.slice a n c) (.slice none n' c')).run Try.prog w = .ok (.bool a.isNone) w := fun w a n c n' c' => Lib.run_eql_slice_nil w _ _ a n c n' c' Try.underlying22
    go_enter Try.func32, Try.ntmps32
    go_wp2_with (at_builtin; refine Lib.wpList_append_run _ rfl _ _ 22 22 rfl (.slice (some ⟨w.heap.size, 0, none⟩) 0 0) (.slice (some p) n c) rfl rfl _ _ HR.out ?_)
    go_wp2_with fail
    go_ret
    exact HF.out
/-- A coordinator of the call's own: what is written there is nobody else's. -/
structure CoC (B : Nat) (w : World) (L : List Dl) (A : Cad) : Prop where
  m : CoM w L A
  row : Cq 31 4 dlC B w (.slice A.a L.length A.c) A.om
  lo : LI A.a B w.heap.size
  lp : ∀ y ∈ A.om, LI y.a B w.heap.size
  so : ∀ q, A.a = some q → ∀ y ∈ A.om, NE y.a q.block
theorem CoC.later {B : Nat} {w w' : World} {L : List Dl} {A : Cad} (h : CoC B w L A) (hb : Below w.heap.size w w') : CoC B w' L A :=
  ⟨h.m.later hb, h.row.later hb, h.lo.mono (Nat.le_refl _) hb.size, fun y hy => (h.lp y hy).mono (Nat.le_refl _) hb.size, h.so⟩
theorem CoM.grown {w w' : World} {L : List Dl} {A : Cad} (h : CoM w L A) {g : Nat} (hg : w.grownBy w' (some g)) (h1 : NB A.a A.om.length g) (h2 : ∀ y ∈ A.om, NB y.a y.x.parts.length g) : CoM w' L A :=
  ⟨h.om, rw_grown h.row hg h1, fun y hy => rw_grown (h.parts y hy) hg (h2 y hy), h.cp, h.pp⟩
/-- A store in an elder block. -/
theorem CoC.box {B g : Nat} {w w' : World} {L : List Dl} {A : Cad} (h : CoC B w L A) (hg : w.grownBy w' (some g)) (hl : g < B) : CoC B w' L A :=
  ⟨h.m.grown hg ((h.lo.ne (.inl hl)).nb _) (fun y hy => ((h.lp y hy).ne (.inl hl)).nb _), h.row.grown hg hl, h.lo.mono (Nat.le_refl _) hg.size, fun y hy => (h.lp y hy).mono (Nat.le_refl _) hg.size, h.so⟩
theorem CoC.mono {B B' : Nat} {w : World} {L : List Dl} {A : Cad} (h : CoC B w L A) (hB : B' ≤ B) : CoC B' w L A :=
  ⟨h.m, h.row.mono hB, h.lo.mono hB (Nat.le_refl _), fun y hy => (h.lp y hy).mono hB (Nat.le_refl _), h.so⟩
end Go.Proofs.Ytohhkacnjhgamaa
