/- The reference of layer 4: Step: a state behind one note more: the plain kinds. -/
import Derived.Test.YtjbhnkigbobhiaaDoorSe
namespace Go.Proofs.YtjbhnkigbobhiaaDoor
open Go.RowKit

set_option maxRecDepth 100000 in
set_option maxHeartbeats 4000000 in
theorem step_1 (term vote base bt n c : Nat) (snap : ByteArray) (a : Option Addr) (L : List En) (hn : L.length = n) (w : World) (hE : Ents w a L) (k : Int) (i t v : Nat) (d : ByteArray) (h1 : k = 1) :
    Calls Tryd.prog 39 #[.agg #[.int .u64 term, .int .u64 vote, .int .u64 base, .int .u64 bt, .string snap, .slice a n c], .agg #[.int .i64 k, .int .u64 i, .int .u64 t, .int .u64 v, .string d]] w (StP w a (Sg.step ⟨term, vote, base, bt, snap, L⟩ ⟨k, i, t, v, d⟩)) := by
  subst h1
  have hf : ∀ w', Below w.heap.size w w' → StP w a (Sg.step ⟨term, vote, base, bt, snap, L⟩ ⟨1, i, t, v, d⟩) (.returned (.agg #[.int .u64 t, .int .u64 v, .int .u64 base, .int .u64 bt, .string snap, .slice a n c])) w' := fun w' hb => by
    have e : Sg.step ⟨term, vote, base, bt, snap, L⟩ ⟨1, i, t, v, d⟩ = ⟨t, v, base, bt, snap, L⟩ := by simp [Sg.step]
    rw [e]; exact ⟨a, c, by simp only; rw [hn], hE.later hb, hb, .inl rfl⟩
  have HF := Lib.hid hf; clear hf hE hn
  go_enter Tryd.func39, Tryd.ntmps39
  go_wp2_with fail
  refine bodyPost_ret (v := .agg #[.int .u64 t, .int .u64 v, .int .u64 base, .int .u64 bt, .string snap, .slice a n c]) (by simp [results, Tryd.results39, go_sem]) rfl ?_
  refine HF.out _ ?_
  go_grown
set_option maxRecDepth 100000 in
set_option maxHeartbeats 4000000 in
theorem step_0 (term vote base bt n c : Nat) (snap : ByteArray) (a : Option Addr) (L : List En) (hn : L.length = n) (w : World) (hE : Ents w a L) (k : Int) (i t v : Nat) (d : ByteArray) (h1 : ¬ k = 1) (h2 : ¬ k = 2) (h3 : ¬ k = 3) (h4 : ¬ k = 4) :
    Calls Tryd.prog 39 #[.agg #[.int .u64 term, .int .u64 vote, .int .u64 base, .int .u64 bt, .string snap, .slice a n c], .agg #[.int .i64 k, .int .u64 i, .int .u64 t, .int .u64 v, .string d]] w (StP w a (Sg.step ⟨term, vote, base, bt, snap, L⟩ ⟨k, i, t, v, d⟩)) := by
  have hf : ∀ w', Below w.heap.size w w' → StP w a (Sg.step ⟨term, vote, base, bt, snap, L⟩ ⟨k, i, t, v, d⟩) (.returned (.agg #[.int .u64 term, .int .u64 vote, .int .u64 base, .int .u64 bt, .string snap, .slice a n c])) w' := fun w' hb => by
    have e : Sg.step ⟨term, vote, base, bt, snap, L⟩ ⟨k, i, t, v, d⟩ = ⟨term, vote, base, bt, snap, L⟩ := by simp [Sg.step, h1, h2, h3, h4]
    rw [e]; exact ⟨a, c, by simp only; rw [hn], hE.later hb, hb, .inl rfl⟩
  have HF := Lib.hid hf; clear hf hE hn
  have f1 : (k == 1) = false := by simpa using h1
  have f2 : (k == 2) = false := by simpa using h2
  have f3 : (k == 3) = false := by simpa using h3
  have f4 : (k == 4) = false := by simpa using h4
  clear h1 h2 h3 h4
  go_enter Tryd.func39, Tryd.ntmps39
  go_wp2_with fail
  refine bodyPost_ret (v := .agg #[.int .u64 term, .int .u64 vote, .int .u64 base, .int .u64 bt, .string snap, .slice a n c]) (by simp [results, Tryd.results39, go_sem]) rfl ?_
  refine HF.out _ ?_
  go_grown
set_option maxRecDepth 100000 in
set_option maxHeartbeats 4000000 in
theorem step_4a (term vote base bt n c : Nat) (snap : ByteArray) (a : Option Addr) (L : List En) (hn : L.length = n) (w : World) (hE : Ents w a L) (k : Int) (i t v : Nat) (d : ByteArray) (h1 : k = 4) (h2 : i ≤ base) :
    Calls Tryd.prog 39 #[.agg #[.int .u64 term, .int .u64 vote, .int .u64 base, .int .u64 bt, .string snap, .slice a n c], .agg #[.int .i64 k, .int .u64 i, .int .u64 t, .int .u64 v, .string d]] w (StP w a (Sg.step ⟨term, vote, base, bt, snap, L⟩ ⟨k, i, t, v, d⟩)) := by
  subst h1
  have hf : ∀ w', Below w.heap.size w w' → StP w a (Sg.step ⟨term, vote, base, bt, snap, L⟩ ⟨4, i, t, v, d⟩) (.returned (.agg #[.int .u64 term, .int .u64 vote, .int .u64 base, .int .u64 bt, .string snap, .slice a n c])) w' := fun w' hb => by
    have e : Sg.step ⟨term, vote, base, bt, snap, L⟩ ⟨4, i, t, v, d⟩ = ⟨term, vote, base, bt, snap, L⟩ := by simp [Sg.step, h2]
    rw [e]; exact ⟨a, c, by simp only; rw [hn], hE.later hb, hb, .inl rfl⟩
  have HF := Lib.hid hf; clear hf hE hn
  have g1 : (i : Int) ≤ (base : Int) := by omega
  go_enter Tryd.func39, Tryd.ntmps39
  go_wp2_with fail
  refine bodyPost_ret (v := .agg #[.int .u64 term, .int .u64 vote, .int .u64 base, .int .u64 bt, .string snap, .slice a n c]) (by simp [results, Tryd.results39, go_sem]) rfl ?_
  refine HF.out _ ?_
  go_grown
set_option maxRecDepth 100000 in
set_option maxHeartbeats 4000000 in
theorem step_4b (term vote base bt n c : Nat) (snap : ByteArray) (a : Option Addr) (L : List En) (hn : L.length = n) (w : World) (hE : Ents w a L) (k : Int) (i t v : Nat) (d : ByteArray) (h1 : k = 4) (h2 : ¬ i ≤ base) (h3 : 1099511627776 < i) :
    Calls Tryd.prog 39 #[.agg #[.int .u64 term, .int .u64 vote, .int .u64 base, .int .u64 bt, .string snap, .slice a n c], .agg #[.int .i64 k, .int .u64 i, .int .u64 t, .int .u64 v, .string d]] w (StP w a (Sg.step ⟨term, vote, base, bt, snap, L⟩ ⟨k, i, t, v, d⟩)) := by
  subst h1
  have hf : ∀ w', Below w.heap.size w w' → StP w a (Sg.step ⟨term, vote, base, bt, snap, L⟩ ⟨4, i, t, v, d⟩) (.returned (.agg #[.int .u64 term, .int .u64 vote, .int .u64 base, .int .u64 bt, .string snap, .slice a n c])) w' := fun w' hb => by
    have e : Sg.step ⟨term, vote, base, bt, snap, L⟩ ⟨4, i, t, v, d⟩ = ⟨term, vote, base, bt, snap, L⟩ := by simp [Sg.step, h3]
    rw [e]; exact ⟨a, c, by simp only; rw [hn], hE.later hb, hb, .inl rfl⟩
  have HF := Lib.hid hf; clear hf hE hn
  have g1 : ¬ (i : Int) ≤ (base : Int) := by omega
  have g2 : (1099511627776 : Int) < (i : Int) := by omega
  go_enter Tryd.func39, Tryd.ntmps39
  go_wp2_with fail
  refine bodyPost_ret (v := .agg #[.int .u64 term, .int .u64 vote, .int .u64 base, .int .u64 bt, .string snap, .slice a n c]) (by simp [results, Tryd.results39, go_sem]) rfl ?_
  refine HF.out _ ?_
  go_grown
end Go.Proofs.YtjbhnkigbobhiaaDoor
