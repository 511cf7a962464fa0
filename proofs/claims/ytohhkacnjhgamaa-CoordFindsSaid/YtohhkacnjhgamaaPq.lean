/- What the laws on orders need: orders in memory, a coordinator in a box of the law's own; shown. -/
import Derived.Test.YtohhkacnjhgamaaPp
namespace Go.Proofs.Ytohhkacnjhgamaa
open Go Go.RowKit

section
variable {P : Program} {ops : Array Oper} {Q : Exit → Act → World → Prop} {S : World → Prop} {k : Nat}
theorem tillK_step2 {i j : Nat} {oi oj : Oper} {n : Nat} {l : Array Bool} {a : Act} {w : World} (hr : Region.ready .any ops l = [i, j]) (hi : ops[i]? = some oi) (hj : ops[j]? = some oj) (wi : Region.wanted oi (yielded ops a.tmps) = true) (wj : Region.wanted oj (yielded ops a.tmps) = true)
    (hI : ∀ K' : Act → World → Prop, Shut (∀ a' w', ((l.setIfInBounds i true).getD k true = false → S w') → tillK P ops Q S k n (l.setIfInBounds i true) a' w' → K' a' w') → Oper.wp P oi a w K' Q)
    (hJ : ∀ K' : Act → World → Prop, Shut (∀ a' w', ((l.setIfInBounds j true).getD k true = false → S w') → tillK P ops Q S k n (l.setIfInBounds j true) a' w' → K' a' w') → Oper.wp P oj a w K' Q) : tillK P ops Q S k (n + 1) l a w := by
  refine ⟨fun h0 => (by rw [hr] at h0; cases h0), fun x hx => ?_⟩
  rw [hr] at hx
  rcases List.mem_cons.1 hx with rfl | hx
  · exact wpOp_step hi (fun K' hK => by rw [if_pos wi]; exact hI K' (fun a' w' h1 h2 => hK a' w' ⟨h1, h2⟩))
  obtain rfl : x = j := by simpa using hx
  exact wpOp_step hj (fun K' hK => by rw [if_pos wj]; exact hJ K' (fun a' w' h1 h2 => hK a' w' ⟨h1, h2⟩))
theorem tillK_step3 {i j m : Nat} {oi oj om : Oper} {n : Nat} {l : Array Bool} {a : Act} {w : World} (hr : Region.ready .any ops l = [i, j, m]) (hi : ops[i]? = some oi) (hj : ops[j]? = some oj) (hm : ops[m]? = some om) (wi : Region.wanted oi (yielded ops a.tmps) = true) (wj : Region.wanted oj (yielded ops a.tmps) = true) (wm : Region.wanted om (yielded ops a.tmps) = true)
    (hI : ∀ K' : Act → World → Prop, Shut (∀ a' w', ((l.setIfInBounds i true).getD k true = false → S w') → tillK P ops Q S k n (l.setIfInBounds i true) a' w' → K' a' w') → Oper.wp P oi a w K' Q)
    (hJ : ∀ K' : Act → World → Prop, Shut (∀ a' w', ((l.setIfInBounds j true).getD k true = false → S w') → tillK P ops Q S k n (l.setIfInBounds j true) a' w' → K' a' w') → Oper.wp P oj a w K' Q)
    (hM : ∀ K' : Act → World → Prop, Shut (∀ a' w', ((l.setIfInBounds m true).getD k true = false → S w') → tillK P ops Q S k n (l.setIfInBounds m true) a' w' → K' a' w') → Oper.wp P om a w K' Q) : tillK P ops Q S k (n + 1) l a w := by
  refine ⟨fun h0 => (by rw [hr] at h0; cases h0), fun x hx => ?_⟩
  rw [hr] at hx
  rcases List.mem_cons.1 hx with rfl | hx
  · exact wpOp_step hi (fun K' hK => by rw [if_pos wi]; exact hI K' (fun a' w' h1 h2 => hK a' w' ⟨h1, h2⟩))
  rcases List.mem_cons.1 hx with rfl | hx
  · exact wpOp_step hj (fun K' hK => by rw [if_pos wj]; exact hJ K' (fun a' w' h1 h2 => hK a' w' ⟨h1, h2⟩))
  obtain rfl : x = m := by simpa using hx
  exact wpOp_step hm (fun K' hK => by rw [if_pos wm]; exact hM K' (fun a' w' h1 h2 => hK a' w' ⟨h1, h2⟩))
end
/-- An order, with its key and where its lists lie. -/
structure OdM where
  x : Cod
  key : ByteArray
  q : Option Addr
  qn : Nat
  qc : Nat
  a : Option Addr
  c : Nat
def odC (y : OdM) : List Value := [.int .i64 y.x.kind, .int .u64 (y.x.t.age : Nat), .int .u64 (y.x.t.id : Nat), .string y.key, .slice y.q y.qn y.qc, .bool y.x.cm, .slice y.a y.x.parts.length y.c]
/-- Orders as they come in. -/
structure OdIn (W : World) (a : Option Addr) (n c : Nat) (L : List OdM) : Prop where
  hlen : L.length = n
  room : n * 88 ≤ 140737488351232
  mem : Rw 7 odC W a L
  each : ∀ y ∈ L, Nus W y.a y.x.parts ∧ y.x.parts.length ≤ 140737488351232 ∧ okX y.x.t
theorem OdIn.cells {w w0 : World} {a : Option Addr} {n c : Nat} {L : List OdM} (I : OdIn w0 a n c L) (hb : Below w0.heap.size w0 w) {k : Nat} {y : OdM} (hy : L[k]? = some y) : ∃ b off, a = some ⟨b, off, none⟩ ∧ b < w0.heap.size ∧ w.cell? ⟨b, off + k * 7, none⟩ = some (.int .i64 y.x.kind) ∧ w.cell? ⟨b, off + k * 7 + 1, none⟩ = some (.int .u64 (y.x.t.age : Nat)) ∧ w.cell? ⟨b, off + k * 7 + 2, none⟩ = some (.int .u64 (y.x.t.id : Nat)) ∧ w.cell? ⟨b, off + k * 7 + 3, none⟩ = some (.string y.key) ∧ w.cell? ⟨b, off + k * 7 + 4, none⟩ = some (.slice y.q y.qn y.qc) ∧ w.cell? ⟨b, off + k * 7 + 5, none⟩ = some (.bool y.x.cm) ∧ w.cell? ⟨b, off + k * 7 + 6, none⟩ = some (.slice y.a y.x.parts.length y.c) := by
  obtain ⟨b, off, e, hlt, c⟩ := I.mem k y hy
  have f : ∀ i u, (odC y)[i]? = some u → w.cell? ⟨b, off + k * 7 + i, none⟩ = some u := fun i u hu => (hb.cell (p := ⟨b, off + k * 7 + i, none⟩) hlt).trans (c i u hu)
  exact ⟨b, off, e, hlt, f 0 _ rfl, f 1 _ rfl, f 2 _ rfl, f 3 _ rfl, f 4 _ rfl, f 5 _ rfl, f 6 _ rfl⟩
theorem nofit_n : NoFit numC [1] := by
  intro y o h
  have h0 := h 0 _ rfl
  rcases o with _ | o <;> simp [kdV] at h0
/-- A coordinator in a box of the law's own. -/
structure LBc (w0 w : World) (x : Nat) (L : List Dl) (A : Cad) : Prop where
  kb : KB w x [1]
  c0 : w.cell? ⟨x, 0, none⟩ = some (.slice A.a L.length A.c)
  m : CoM w L A
  l : w0.heap.size ≤ x
theorem LBc.later {w0 w w' : World} {x : Nat} {L : List Dl} {A : Cad} (h : LBc w0 w x L A) (hb : Below w.heap.size w w') : LBc w0 w' x L A :=
  ⟨h.kb.later hb, (hb.cell (p := ⟨x, 0, none⟩) h.kb.lt).trans h.c0, h.m.later hb, h.l⟩
/-- A store into a box of that kind touches no coordinator. -/
theorem CoM.kb1 {w : World} {L : List Dl} {A : Cad} (h : CoM w L A) {x : Nat} (hk : KB w x [1]) (v : Value) : CoM (w.setCell ⟨x, 0, none⟩ v) L A :=
  h.grown (sc_one w x 0 v) (Rw.notin h.row hk nofit_c) (fun y hy => Rw.notin (h.parts y hy) hk nofit_n)
theorem LBc.put {w0 w : World} {x : Nat} {L : List Dl} {A : Cad} (h : LBc w0 w x L A) {L' : List Dl} {A' : Cad} (hm : CoM w L' A') : LBc w0 (w.setCell ⟨x, 0, none⟩ (.slice A'.a L'.length A'.c)) x L' A' := by
  obtain ⟨u, e⟩ := h.kb.so 0 (by decide)
  exact ⟨h.kb.set rfl, by simp [go_sem, e], hm.kb1 h.kb _, h.l⟩
theorem com_nil (w : World) : CoM w [] ⟨none, 0, []⟩ := ⟨rfl, Rw.nil _, fun y hy => by simp at hy, by decide, fun y hy => by simp at hy⟩
theorem LBc.new {w0 w W : World} (hl : w0.heap.size ≤ w.heap.size) (hW : w.alloc (.cells #[.slice none 0 0] 24) = W) : Below w.heap.size w W ∧ LBc w0 W w.heap.size [] ⟨none, 0, []⟩ := by
  subst hW
  exact ⟨by go_grown, ⟨KB.new1 rfl _ _, by simp [go_sem], com_nil _, hl⟩⟩
/-- What a law's loop knows of its coordinator. -/
structure LSc (L : List Dl) : Prop where
  ok : rightC L = true
  tx : ∀ x ∈ L, okX x.t
theorem LSc.nil : LSc [] := ⟨by decide, fun x hx => by simp at hx⟩
theorem may_le {l : List Nat} (h : mayC l = true) : l.length ≤ 8 := by
  unfold mayC at h
  rw [Bool.and_eq_true, Bool.and_eq_true, decide_eq_true_iff, decide_eq_true_iff] at h
  exact h.2.1
theorem LSc.len {L : List Dl} (h : LSc L) : L.length ≤ 64 := ((right_iffC L).1 h.ok).1
theorem LSc.parts {L : List Dl} (h : LSc L) : ∀ x ∈ L, x.parts.length ≤ 8 := fun x hx => by
  have := ((right_iffC L).1 h.ok).2.2 x hx
  unfold dlOk at this
  rw [Bool.and_eq_true, Bool.or_eq_true, Bool.and_eq_true, decide_eq_true_iff, decide_eq_true_iff] at this
  rcases this.2 with h | h
  · exact may_le h
  · omega
theorem set_tx {t : Tx} {st : Int} {L : List Dl} {x : Dl} (h : x ∈ setC t st L) : ∃ y ∈ L, x.t = y.t := by
  rcases set_mem h with h1 | ⟨d, h1, h2⟩
  · exact ⟨x, h1, rfl⟩
  · exact ⟨d, fnd_mem h1, by rw [h2]⟩
theorem do_tx {L : List Dl} {o : Cod} (h : ∀ x ∈ L, okX x.t) (ho : okX o.t) : ∀ x ∈ (doC L o).1, okX x.t := by
  have hone : ∀ d : Dl, d.t = o.t → ∀ x ∈ L ++ [d], okX x.t := fun d hd x hx => by
    rcases List.mem_append.1 hx with e | e
    · exact h x e
    · obtain rfl : x = d := by simpa using e
      rw [hd]; exact ho
  unfold doC
  split
  · split
    · exact h
    split
    · split
      · exact h
      split <;> exact h
    · split
      · exact h
      · exact hone _ rfl
  split
  · exact h
  split
  · split
    · exact h
    split
    · exact h
    · exact hone _ rfl
  · intro x hx
    obtain ⟨y, hy, e⟩ := set_tx hx
    rw [e]; exact h y hy
theorem LSc.step {L : List Dl} (h : LSc L) {o : Cod} (ho : okX o.t) : LSc (doC L o).1 := ⟨do_right h.ok o, do_tx h.tx ho⟩
/-- Do, as a law's loop calls it. -/
theorem LSc.doo {L : List Dl} (h : LSc L) (A : Cad) {o : Cod} (ho : okX o.t) (hpl : o.parts.length ≤ 140737488351232) (key : ByteArray) (q : Option Addr) (qn qc : Nat) (a : Option Addr) (c : Nat) (w : World) (hM : CoM w L A) (hP : Nus w a o.parts) :
    Calls Try.prog 16 #[coV L A, odV o key q qn qc a c] w (DoP w (doC L o)) :=
  do_any L A o key q qn qc a c w hM (by have := h.len; omega) (fun x hx => by have := h.parts x hx; omega) h.tx ho hpl hP
/-- An answer in a box of the law's own. -/
structure AnB (w : World) (x : Nat) (n : Nat) (b : Bool) : Prop where
  kb : KB w x anK
  c0 : w.cell? ⟨x, 0, none⟩ = some (.int .i64 (n : Nat))
  c4 : w.cell? ⟨x, 4, none⟩ = some (.bool b)
theorem AnB.later {w w' : World} {x n : Nat} {b : Bool} (h : AnB w x n b) (hb : Below w.heap.size w w') : AnB w' x n b :=
  ⟨h.kb.later hb, (hb.cell (p := ⟨x, 0, none⟩) h.kb.lt).trans h.c0, (hb.cell (p := ⟨x, 4, none⟩) h.kb.lt).trans h.c4⟩
theorem AnB.grown {w w' : World} {x n g : Nat} {b : Bool} (h : AnB w x n b) (hg : w.grownBy w' (some g)) (hne : x ≠ g) : AnB w' x n b :=
  ⟨h.kb.grownK hg hne, (World.cell?_of_block (a := ⟨x, 0, none⟩) (hg.block x h.kb.lt (by simpa using hne))).trans h.c0, (World.cell?_of_block (a := ⟨x, 4, none⟩) (hg.block x h.kb.lt (by simpa using hne))).trans h.c4⟩
theorem AnB.new {w : World} {x : Nat} (hx : x = w.heap.size) (n : Nat) (b : Bool) (T : TypeId) : AnB (w.alloc (.cells #[.int .i64 (n : Nat), .string ⟨#[]⟩, .int .u64 0, .bool false, .bool b] T)) x n b := by
  subst hx
  exact ⟨KB.new5 rfl _ _ _ _ _ _, by simp [go_sem], by simp [go_sem]⟩
theorem AnB.set5 {w : World} {x : Nat} (h : KB w x anK) (n : Nat) (b : Bool) : AnB (set5a w x (.int .i64 (n : Nat)) (.string ⟨#[]⟩) (.int .u64 0) (.bool false) (.bool b)) x n b := by
  obtain ⟨u0, e0⟩ := h.so 0 (by decide)
  obtain ⟨u4, e4⟩ := h.so 4 (by decide)
  exact ⟨((((h.set (i := 0) (v := .int .i64 (n : Nat)) rfl).set (i := 1) (v := .string ⟨#[]⟩) rfl).set (i := 2) (v := .int .u64 0) rfl).set (i := 3) (v := .bool false) rfl).set (i := 4) (v := .bool b) rfl, by simp [go_sem, e0], by simp [go_sem, e4]⟩
end Go.Proofs.Ytohhkacnjhgamaa
