/- Orders in memory; outcome, decide: the program's. -/
import Derived.Test.YtohhkacnjhgamaaPj
namespace Go.Proofs.Ytohhkacnjhgamaa
open Go.RowKit Go.Maps

/-- An order as Go has it: its key, where its puts and parts lie. -/
@[reducible] def odV (o : Cod) (key : ByteArray) (q : Option Addr) (qn qc : Nat) (a : Option Addr) (c : Nat) : Value := .agg #[.int .i64 o.kind, .int .u64 (o.t.age : Nat), .int .u64 (o.t.id : Nat), .string key, .slice q qn qc, .bool o.cm, .slice a o.parts.length c]
/-- What an order that decides comes to. -/
def dcdC (L : List Dl) (t : Tx) (b : Bool) : List Dl × Nat × Bool := match fndC t L with
  | none => if b = true then (L, 7, false) else if 64 ≤ L.length then (L, 5, false) else (L ++ [⟨t, [], 2⟩], 0, false)
  | some d => (setC t (endC d.st b) L, 0, decide (endC d.st b = 1))
theorem set_pix {t : Tx} {st : Int} : ∀ {L : List Dl} {i k : Nat} {d : Dl}, pixC t i L = some (i + k) → L[k]? = some d → setC t st L = L.set k ⟨d.t, d.parts, st⟩
  | [], _, _, _, h, _ => by simp [pixC] at h
  | x :: r, i, k, d, h, hd => by
    rw [pixC] at h
    rw [setC]
    by_cases hx : x.t = t
    · rw [if_pos hx] at h
      have := Option.some.inj h
      obtain rfl : k = 0 := by omega
      obtain rfl : x = d := by simpa using hd
      rw [if_pos hx]; rfl
    · rw [if_neg hx] at h
      have hk := pix_lt h
      obtain ⟨j, rfl⟩ : ∃ j, k = j + 1 := ⟨k - 1, by omega⟩
      rw [if_neg hx, List.set_cons_succ]
      have hd' : r[j]? = some d := by simpa using hd
      rw [set_pix (i := i + 1) (k := j) (by rw [h]; congr 1; omega) hd']
theorem set_noop {t : Tx} {L : List Dl} {k : Nat} {d : Dl} (h : pixC t 0 L = some k) (hd : L[k]? = some d) : setC t d.st L = L := by
  rw [set_pix (k := k) (by rw [h, Nat.zero_add]) hd]
  exact set_selfD hd
set_option maxRecDepth 100000 in
set_option maxHeartbeats 2000000 in
theorem outcome_any (b : Bool) (w : World) :
    Calls Try.prog 34 #[.bool b] w fun e w' => e = .returned (.int .i64 (if b then 1 else 2)) ∧ w' = w := by
  cases b
  all_goals
    go_enter Try.func34, Try.ntmps34
    go_wp2_with fail
    go_ret
    exact ⟨by first | rfl | simp, rfl⟩
/-- One deal's state turned. -/
theorem CoC.put {B g : Nat} {w : World} {L : List Dl} {A : Cad} (h : CoC B w L A) {k : Nat} {y : DlM} (hy : A.om[k]? = some y) (st : Int) (hg : A.a = some ⟨g, 0, none⟩) :
    CoM (w.setCell ⟨g, k * 4 + 3, none⟩ (.int .i64 st)) (L.set k ⟨y.x.t, y.x.parts, st⟩) ⟨A.a, A.c, A.om.set k ⟨⟨y.x.t, y.x.parts, st⟩, y.a, y.c⟩⟩ := by
  have hgr := sc_one w g (k * 4 + 3) (.int .i64 st)
  have hk := (List.getElem?_eq_some_iff.1 hy).1
  obtain ⟨g', c', e, _, _, hcm, hd⟩ := Hd.of dlT h.row (by omega)
  injection e with ea _ ec
  rw [hg] at ea
  injection ea with ea
  injection ea with ea
  subst ea ec
  have hput := hd.put1 dlT (o := 3) (y := ⟨⟨y.x.t, y.x.parts, st⟩, y.a, y.c⟩) (u := .int .i64 st) hy rfl (fun t ht => by rcases t with _ | _ | _ | _ | t <;> first | rfl | exact absurd rfl ht)
  have hmem : ∀ z ∈ A.om.set k ⟨⟨y.x.t, y.x.parts, st⟩, y.a, y.c⟩, ∃ u ∈ A.om, z.a = u.a ∧ z.x.parts = u.x.parts ∧ z.c = u.c := fun z hz => by
    rcases List.mem_or_eq_of_mem_set hz with e | e
    · exact ⟨z, e, rfl, rfl, rfl⟩
    · exact ⟨y, List.mem_of_getElem? hy, by rw [e], by rw [e], by rw [e]⟩
  refine ⟨?_, ?_, fun z hz => ?_, ?_, fun z hz => ?_⟩
  · rw [List.map_set, h.m.om]
  · have := hput.row
    rw [← hg] at this; exact this
  · obtain ⟨u, hu, e1, e2, _⟩ := hmem z hz
    rw [e1, e2]
    exact rw_grown (h.m.parts u hu) hgr ((h.so _ hg u hu).nb _)
  · rw [List.length_set]; exact h.m.cp
  · obtain ⟨u, hu, _, e2, e3⟩ := hmem z hz
    rw [e2, e3]; exact h.m.pp u hu
/-- The boxes of a way of an order: a coordinator, an order, the results. -/
structure WaB (x : Nat) (n : Nat) (A : Cad) (o : Cod) (key : ByteArray) (q : Option Addr) (qn qc : Nat) (a : Option Addr) (c : Nat) (w : World) : Prop where
  k : KB w x [1]
  cc : w.cell? ⟨x, 0, none⟩ = some (.slice A.a n A.c)
  ol : x + 1 < w.heap.size
  oz : ∀ j, w.frozen? ⟨x + 1, j, none⟩ = false
  kd : w.cell? ⟨x + 1, 0, none⟩ = some (.int .i64 o.kind)
  t0 : w.cell? ⟨x + 1, 1, none⟩ = some (.int .u64 (o.t.age : Nat))
  t1 : w.cell? ⟨x + 1, 2, none⟩ = some (.int .u64 (o.t.id : Nat))
  ky : w.cell? ⟨x + 1, 3, none⟩ = some (.string key)
  pu : w.cell? ⟨x + 1, 4, none⟩ = some (.slice q qn qc)
  cm : w.cell? ⟨x + 1, 5, none⟩ = some (.bool o.cm)
  pa : w.cell? ⟨x + 1, 6, none⟩ = some (.slice a o.parts.length c)
  r : RcB w (x + 1 + 1) (x + 1 + 1 + 1)
theorem WaB.later {x n : Nat} {A : Cad} {o : Cod} {key : ByteArray} {q : Option Addr} {qn qc : Nat} {a : Option Addr} {c : Nat} {w w' : World} (h : WaB x n A o key q qn qc a c w) (hb : Below w.heap.size w w') : WaB x n A o key q qn qc a c w' := by
  have hl := h.ol
  have f : ∀ j v, w.cell? ⟨x + 1, j, none⟩ = some v → w'.cell? ⟨x + 1, j, none⟩ = some v := fun j v e => (hb.cell (p := ⟨x + 1, j, none⟩) hl).trans e
  exact ⟨h.k.later hb, (hb.cell (p := ⟨x, 0, none⟩) h.k.lt).trans h.cc, Nat.lt_of_lt_of_le hl hb.size, fun j => (hb.frozen (p := ⟨x + 1, j, none⟩) hl).trans (h.oz j), f _ _ h.kd, f _ _ h.t0, f _ _ h.t1, f _ _ h.ky, f _ _ h.pu, f _ _ h.cm, f _ _ h.pa, h.r.later hb⟩
theorem WaB.grown {x n : Nat} {A : Cad} {o : Cod} {key : ByteArray} {q : Option Addr} {qn qc : Nat} {a : Option Addr} {c : Nat} {w w' : World} (h : WaB x n A o key q qn qc a c w) {g : Nat} (hg : w.grownBy w' (some g)) (hx : g < x ∨ x + 1 + 1 + 1 < g) : WaB x n A o key q qn qc a c w' := by
  have hl := h.ol
  have f : ∀ j v, w.cell? ⟨x + 1, j, none⟩ = some v → w'.cell? ⟨x + 1, j, none⟩ = some v := fun j v e => (World.cell?_of_block (a := ⟨x + 1, j, none⟩) (hg.block (x + 1) hl (by simp; omega))).trans e
  exact ⟨h.k.grownK hg (by omega), (World.cell?_of_block (a := ⟨x, 0, none⟩) (hg.block x h.k.lt (by simp; omega))).trans h.cc, Nat.lt_of_lt_of_le hl hg.size, fun j => by
    have := h.oz j
    simp only [World.frozen?] at this ⊢
    rw [hg.block (x + 1) hl (by simp; omega)]; exact this, f _ _ h.kd, f _ _ h.t0, f _ _ h.t1, f _ _ h.ky, f _ _ h.pu, f _ _ h.cm, f _ _ h.pa, h.r.grown hg (by omega) (by omega)⟩
/-- The memory in which a way of an order begins. -/
@[reducible] def waW (L : List Dl) (A : Cad) (o : Cod) (key : ByteArray) (q : Option Addr) (qn qc : Nat) (a : Option Addr) (c : Nat) (w : World) : World :=
  (((w.alloc (.cells #[.slice A.a L.length A.c] 24)).alloc (.cells #[.int .i64 o.kind, .int .u64 (o.t.age : Nat), .int .u64 (o.t.id : Nat), .string key, .slice q qn qc, .bool o.cm, .slice a o.parts.length c] 46)).alloc (.cells #[.slice none 0 0] 24)).alloc (.cells #[.int .i64 0, .string ⟨#[]⟩, .int .u64 0, .bool false, .bool false] 41)
theorem waW_box {L : List Dl} {A : Cad} {o : Cod} {key : ByteArray} {q : Option Addr} {qn qc : Nat} {a : Option Addr} {c : Nat} {w W : World} (hW : waW L A o key q qn qc a c w = W) {x : Nat} (hx : w.heap.size = x) :
    WaB x L.length A o key q qn qc a c W ∧ Below w.heap.size w W ∧ W.heap.size = x + 1 + 1 + 1 + 1 := by
  subst hW hx
  have b1 : ∀ (w : World) (o : Obj), Below w.heap.size w (w.alloc o) := fun w o => (Below.refl _ _).alloc (Nat.le_refl _) _
  refine ⟨⟨(((KB.new1 rfl _ _).later (b1 _ _)).later (b1 _ _)).later (b1 _ _), by simp [go_sem], by simp, fun j => by simp [go_sem], by simp [go_sem], by simp [go_sem], by simp [go_sem], by simp [go_sem], by simp [go_sem], by simp [go_sem], by simp [go_sem], ⟨(KB.new1 (by simp) _ _).later (b1 _ _), KB.new5 (by simp) _ _ _ _ _ _, by omega⟩⟩, by go_grown, by simp⟩
end Go.Proofs.Ytohhkacnjhgamaa
