/- slices.Clone of the five lists, and where the copies lie; a shard of one's own. -/
import Derived.Test.YthgnecggdlamfaaGreatTe
import Derived.Test.YthgnecggdlamfaaGreatTo
namespace Go.Proofs.YthgnecggdlamfaaGreat
open Go.RowKit

set_option maxHeartbeats 1000000 in
theorem cloneRow_any (n c : Nat) (a : Option Addr) (L : List Ro) (hn : L.length = n) (hl : n * 40 ≤ 140737488355328) (w : World) (hM : Ros w a L) :
    Calls Tryz.prog 55 #[.slice a n c] w (ClQ 46 3 roC w L) := by
  cases a with
  | none =>
    have hL : L = [] := by
      cases L with
      | nil => rfl
      | cons x r => obtain ⟨b, off, e, _⟩ := hM.addr (by simp); cases e
    subst hL
    clear hl hn hM
    have q22 : ∀ (w : World) (a : Option Addr) (n c n' c' : Nat), (binOp .eql 22 (.slice a n c) (.slice none n' c')).run Tryz.prog w = .ok (.bool a.isNone) w := fun w a n c n' c' => Lib.run_eql_slice_nil w _ _ a n c n' c' Tryz.underlying22
    go_enter Tryz.func55, Tryz.ntmps55
    go_wp2_with fail
    go_ret
    exact ⟨none, 0, rfl, Cq.nil _ _ none, Below.refl _ _, fun q e => by cases e⟩
  | some p =>
    obtain ⟨v', w', hr, hc, hb, hlo⟩ := app_new roT w 22 p n c L hn hM hl
    have HR := Lib.hid hr
    have HF := Lib.hid (show ClQ 46 3 roC w L (.returned v') w' from by
      obtain ⟨a', c', rfl, _⟩ := hc.form roT
      exact ⟨a', c', rfl, hc, hb, fun q e => hlo q _ c' (by rw [e])⟩)
    clear hr hc hb hM hn hl hlo
    have q22 : ∀ (w : World) (a : Option Addr) (n c n' c' : Nat), (binOp .eql 22 (.slice a n c) (.slice none n' c')).run Tryz.prog w = .ok (.bool a.isNone) w := fun w a n c n' c' => Lib.run_eql_slice_nil w _ _ a n c n' c' Tryz.underlying22
    go_enter Tryz.func55, Tryz.ntmps55
    go_wp2_with (at_builtin; refine Lib.wpList_append_run _ rfl _ _ 22 22 rfl (.slice (some ⟨w.heap.size, 0, none⟩) 0 0) (.slice (some p) n c) rfl rfl _ _ HR.out ?_)
    go_wp2_with fail
    go_ret
    exact HF.out
set_option maxHeartbeats 1000000 in
theorem cloneHold_any (n c : Nat) (a : Option Addr) (L : List Ho) (hn : L.length = n) (hl : n * 40 ≤ 140737488355328) (w : World) (hM : Hos w a L) :
    Calls Tryz.prog 56 #[.slice a n c] w (ClQ 54 4 hoC w L) := by
  cases a with
  | none =>
    have hL : L = [] := by
      cases L with
      | nil => rfl
      | cons x r => obtain ⟨b, off, e, _⟩ := hM.addr (by simp); cases e
    subst hL
    clear hl hn hM
    have q22 : ∀ (w : World) (a : Option Addr) (n c n' c' : Nat), (binOp .eql 23 (.slice a n c) (.slice none n' c')).run Tryz.prog w = .ok (.bool a.isNone) w := fun w a n c n' c' => Lib.run_eql_slice_nil w _ _ a n c n' c' Tryz.underlying23
    go_enter Tryz.func56, Tryz.ntmps56
    go_wp2_with fail
    go_ret
    exact ⟨none, 0, rfl, Cq.nil _ _ none, Below.refl _ _, fun q e => by cases e⟩
  | some p =>
    obtain ⟨v', w', hr, hc, hb, hlo⟩ := app_new hoT w 23 p n c L hn hM hl
    have HR := Lib.hid hr
    have HF := Lib.hid (show ClQ 54 4 hoC w L (.returned v') w' from by
      obtain ⟨a', c', rfl, _⟩ := hc.form hoT
      exact ⟨a', c', rfl, hc, hb, fun q e => hlo q _ c' (by rw [e])⟩)
    clear hr hc hb hM hn hl hlo
    have q22 : ∀ (w : World) (a : Option Addr) (n c n' c' : Nat), (binOp .eql 23 (.slice a n c) (.slice none n' c')).run Tryz.prog w = .ok (.bool a.isNone) w := fun w a n c n' c' => Lib.run_eql_slice_nil w _ _ a n c n' c' Tryz.underlying23
    go_enter Tryz.func56, Tryz.ntmps56
    go_wp2_with (at_builtin; refine Lib.wpList_append_run _ rfl _ _ 23 23 rfl (.slice (some ⟨w.heap.size, 0, none⟩) 0 0) (.slice (some p) n c) rfl rfl _ _ HR.out ?_)
    go_wp2_with fail
    go_ret
    exact HF.out
set_option maxHeartbeats 1000000 in
theorem cloneOpen_any (n c : Nat) (a : Option Addr) (L : List SopM) (hn : L.length = n) (hl : n * 48 ≤ 140737488355328) (w : World) (hM : Rw 5 sopC w a L) :
    Calls Tryz.prog 57 #[.slice a n c] w (ClQ 50 5 sopC w L) := by
  cases a with
  | none =>
    have hL : L = [] := by
      cases L with
      | nil => rfl
      | cons x r => obtain ⟨b, off, e, _⟩ := hM.addr (by simp); cases e
    subst hL
    clear hl hn hM
    have q22 : ∀ (w : World) (a : Option Addr) (n c n' c' : Nat), (binOp .eql 24 (.slice a n c) (.slice none n' c')).run Tryz.prog w = .ok (.bool a.isNone) w := fun w a n c n' c' => Lib.run_eql_slice_nil w _ _ a n c n' c' Tryz.underlying24
    go_enter Tryz.func57, Tryz.ntmps57
    go_wp2_with fail
    go_ret
    exact ⟨none, 0, rfl, Cq.nil _ _ none, Below.refl _ _, fun q e => by cases e⟩
  | some p =>
    obtain ⟨v', w', hr, hc, hb, hlo⟩ := app_new sopT w 24 p n c L hn hM hl
    have HR := Lib.hid hr
    have HF := Lib.hid (show ClQ 50 5 sopC w L (.returned v') w' from by
      obtain ⟨a', c', rfl, _⟩ := hc.form sopT
      exact ⟨a', c', rfl, hc, hb, fun q e => hlo q _ c' (by rw [e])⟩)
    clear hr hc hb hM hn hl hlo
    have q22 : ∀ (w : World) (a : Option Addr) (n c n' c' : Nat), (binOp .eql 24 (.slice a n c) (.slice none n' c')).run Tryz.prog w = .ok (.bool a.isNone) w := fun w a n c n' c' => Lib.run_eql_slice_nil w _ _ a n c n' c' Tryz.underlying24
    go_enter Tryz.func57, Tryz.ntmps57
    go_wp2_with (at_builtin; refine Lib.wpList_append_run _ rfl _ _ 24 24 rfl (.slice (some ⟨w.heap.size, 0, none⟩) 0 0) (.slice (some p) n c) rfl rfl _ _ HR.out ?_)
    go_wp2_with fail
    go_ret
    exact HF.out
set_option maxHeartbeats 1000000 in
theorem cloneDone_any (n c : Nat) (a : Option Addr) (L : List Sdn) (hn : L.length = n) (hl : n * 24 ≤ 140737488355328) (w : World) (hM : Rw 3 sdnC w a L) :
    Calls Tryz.prog 58 #[.slice a n c] w (ClQ 64 3 sdnC w L) := by
  cases a with
  | none =>
    have hL : L = [] := by
      cases L with
      | nil => rfl
      | cons x r => obtain ⟨b, off, e, _⟩ := hM.addr (by simp); cases e
    subst hL
    clear hl hn hM
    have q22 : ∀ (w : World) (a : Option Addr) (n c n' c' : Nat), (binOp .eql 25 (.slice a n c) (.slice none n' c')).run Tryz.prog w = .ok (.bool a.isNone) w := fun w a n c n' c' => Lib.run_eql_slice_nil w _ _ a n c n' c' Tryz.underlying25
    go_enter Tryz.func58, Tryz.ntmps58
    go_wp2_with fail
    go_ret
    exact ⟨none, 0, rfl, Cq.nil _ _ none, Below.refl _ _, fun q e => by cases e⟩
  | some p =>
    obtain ⟨v', w', hr, hc, hb, hlo⟩ := app_new sdnT w 25 p n c L hn hM hl
    have HR := Lib.hid hr
    have HF := Lib.hid (show ClQ 64 3 sdnC w L (.returned v') w' from by
      obtain ⟨a', c', rfl, _⟩ := hc.form sdnT
      exact ⟨a', c', rfl, hc, hb, fun q e => hlo q _ c' (by rw [e])⟩)
    clear hr hc hb hM hn hl hlo
    have q22 : ∀ (w : World) (a : Option Addr) (n c n' c' : Nat), (binOp .eql 25 (.slice a n c) (.slice none n' c')).run Tryz.prog w = .ok (.bool a.isNone) w := fun w a n c n' c' => Lib.run_eql_slice_nil w _ _ a n c n' c' Tryz.underlying25
    go_enter Tryz.func58, Tryz.ntmps58
    go_wp2_with (at_builtin; refine Lib.wpList_append_run _ rfl _ _ 25 25 rfl (.slice (some ⟨w.heap.size, 0, none⟩) 0 0) (.slice (some p) n c) rfl rfl _ _ HR.out ?_)
    go_wp2_with fail
    go_ret
    exact HF.out
set_option maxHeartbeats 1000000 in
theorem clonePut_any (n c : Nat) (a : Option Addr) (L : List Pu) (hn : L.length = n) (hl : n * 40 ≤ 140737488355328) (w : World) (hM : Pus w a L) :
    Calls Tryz.prog 59 #[.slice a n c] w (ClQ 35 3 puC w L) := by
  cases a with
  | none =>
    have hL : L = [] := by
      cases L with
      | nil => rfl
      | cons x r => obtain ⟨b, off, e, _⟩ := hM.addr (by simp); cases e
    subst hL
    clear hl hn hM
    have q22 : ∀ (w : World) (a : Option Addr) (n c n' c' : Nat), (binOp .eql 36 (.slice a n c) (.slice none n' c')).run Tryz.prog w = .ok (.bool a.isNone) w := fun w a n c n' c' => Lib.run_eql_slice_nil w _ _ a n c n' c' Tryz.underlying36
    go_enter Tryz.func59, Tryz.ntmps59
    go_wp2_with fail
    go_ret
    exact ⟨none, 0, rfl, Cq.nil _ _ none, Below.refl _ _, fun q e => by cases e⟩
  | some p =>
    obtain ⟨v', w', hr, hc, hb, hlo⟩ := app_new puT w 36 p n c L hn hM hl
    have HR := Lib.hid hr
    have HF := Lib.hid (show ClQ 35 3 puC w L (.returned v') w' from by
      obtain ⟨a', c', rfl, _⟩ := hc.form puT
      exact ⟨a', c', rfl, hc, hb, fun q e => hlo q _ c' (by rw [e])⟩)
    clear hr hc hb hM hn hl hlo
    have q22 : ∀ (w : World) (a : Option Addr) (n c n' c' : Nat), (binOp .eql 36 (.slice a n c) (.slice none n' c')).run Tryz.prog w = .ok (.bool a.isNone) w := fun w a n c n' c' => Lib.run_eql_slice_nil w _ _ a n c n' c' Tryz.underlying36
    go_enter Tryz.func59, Tryz.ntmps59
    go_wp2_with (at_builtin; refine Lib.wpList_append_run _ rfl _ _ 36 36 rfl (.slice (some ⟨w.heap.size, 0, none⟩) 0 0) (.slice (some p) n c) rfl rfl _ _ HR.out ?_)
    go_wp2_with fail
    go_ret
    exact HF.out
/-- A list that doesn't lie in a block. -/
def NE (a : Option Addr) (g : Nat) : Prop := ∀ r, a = some r → r.block ≠ g
theorem NE.nb {a : Option Addr} {g : Nat} (h : NE a g) (n : Nat) : NB a n g := fun _ q hq => h q hq
/-- A list that lies between two blocks. -/
def LI (a : Option Addr) (lo hi : Nat) : Prop := ∀ q, a = some q → lo ≤ q.block ∧ q.block < hi
theorem LI.mono {a : Option Addr} {lo hi lo' hi' : Nat} (h : LI a lo hi) (h1 : lo' ≤ lo) (h2 : hi ≤ hi') : LI a lo' hi' := fun q e => ⟨Nat.le_trans h1 (h q e).1, Nat.lt_of_lt_of_le (h q e).2 h2⟩
theorem LI.ne {a : Option Addr} {lo hi g : Nat} (h : LI a lo hi) (hg : g < lo ∨ hi ≤ g) : NE a g := fun r e => by have := h r e; omega
/-- A store in one block, with its lists elsewhere. -/
theorem ShM.grown {w w' : World} {s : Sh} {A : Sad} (h : ShM w s A) {g : Nat} (hg : w.grownBy w' (some g)) (h1 : NB A.ra s.rows.length g) (h2 : NB A.ha s.holds.length g) (h3 : NB A.oa A.om.length g) (h4 : NB A.da s.done.length g) (h5 : ∀ y ∈ A.om, NB y.a y.x.puts.length g) : ShM w' s A :=
  ⟨rw_grown h.rows hg h1, rw_grown h.holds hg h2, h.om, rw_grown h.opn hg h3, fun y hy => rw_grown (h.puts y hy) hg (h5 y hy), rw_grown h.done hg h4, h.cp⟩
/-- A shard of the call's own: what is written there is nobody else's. -/
structure ShC (B : Nat) (w : World) (s : Sh) (A : Sad) : Prop where
  m : ShM w s A
  opn : Cq 50 5 sopC B w (.slice A.oa s.opn.length A.oc) A.om
  done : Cq 64 3 sdnC B w (.slice A.da s.done.length A.dc) s.done
  lr : LI A.ra B w.heap.size
  lh : LI A.ha B w.heap.size
  lo : LI A.oa B w.heap.size
  ld : LI A.da B w.heap.size
  lp : ∀ y ∈ A.om, LI y.a B w.heap.size
  so : ∀ q, A.oa = some q → NE A.ra q.block ∧ NE A.ha q.block ∧ NE A.da q.block ∧ ∀ y ∈ A.om, NE y.a q.block
  sd : ∀ q, A.da = some q → NE A.ra q.block ∧ NE A.ha q.block ∧ NE A.oa q.block ∧ ∀ y ∈ A.om, NE y.a q.block
theorem ShC.later {B : Nat} {w w' : World} {s : Sh} {A : Sad} (h : ShC B w s A) (hb : Below w.heap.size w w') : ShC B w' s A :=
  ⟨h.m.later hb, h.opn.later hb, h.done.later hb, h.lr.mono (Nat.le_refl _) hb.size, h.lh.mono (Nat.le_refl _) hb.size, h.lo.mono (Nat.le_refl _) hb.size, h.ld.mono (Nat.le_refl _) hb.size, fun y hy => (h.lp y hy).mono (Nat.le_refl _) hb.size, h.so, h.sd⟩
/-- A store in an elder block. -/
theorem ShC.box {B g : Nat} {w w' : World} {s : Sh} {A : Sad} (h : ShC B w s A) (hg : w.grownBy w' (some g)) (hl : g < B) : ShC B w' s A :=
  ⟨h.m.grown hg ((h.lr.ne (.inl hl)).nb _) ((h.lh.ne (.inl hl)).nb _) ((h.lo.ne (.inl hl)).nb _) ((h.ld.ne (.inl hl)).nb _) (fun y hy => ((h.lp y hy).ne (.inl hl)).nb _), h.opn.grown hg hl, h.done.grown hg hl, h.lr.mono (Nat.le_refl _) hg.size, h.lh.mono (Nat.le_refl _) hg.size, h.lo.mono (Nat.le_refl _) hg.size, h.ld.mono (Nat.le_refl _) hg.size, fun y hy => (h.lp y hy).mono (Nat.le_refl _) hg.size, h.so, h.sd⟩
theorem ShC.mono {B B' : Nat} {w : World} {s : Sh} {A : Sad} (h : ShC B w s A) (hB : B' ≤ B) : ShC B' w s A :=
  ⟨h.m, h.opn.mono hB, h.done.mono hB, h.lr.mono hB (Nat.le_refl _), h.lh.mono hB (Nat.le_refl _), h.lo.mono hB (Nat.le_refl _), h.ld.mono hB (Nat.le_refl _), fun y hy => (h.lp y hy).mono hB (Nat.le_refl _), h.so, h.sd⟩
end Go.Proofs.YthgnecggdlamfaaGreat
