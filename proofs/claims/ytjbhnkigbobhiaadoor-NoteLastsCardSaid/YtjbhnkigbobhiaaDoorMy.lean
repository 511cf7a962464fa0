/- The reference of layer 4: May: which states may be. -/
import Derived.Test.YtjbhnkigbobhiaaDoorAn
import Derived.Deep.QuietTactic
import Derived.BigQuiet
namespace Go.Proofs.YtjbhnkigbobhiaaDoor
open Go.RowKit

/-- Which entries may stand there. -/
def entOk (term bt : Nat) (L : List En) (k : Nat) : Prop := ∀ x, L[k]? = some x → x.t ≤ term ∧ bt ≤ x.t ∧ (∀ y, 0 < k → L[k - 1]? = some y → y.t ≤ x.t) ∧ x.d.size ≤ 4096
/-- Which states may be. -/
def stOk (term vote base bt : Nat) (snap : ByteArray) (L : List En) : Prop :=
  term ≤ 4611686018427387903 ∧ vote ≤ 4611686018427387903 ∧ base ≤ 1099511627776 ∧ L.length ≤ 1024 ∧ base + L.length ≤ 1099511627776 ∧ snap.size ≤ 4096 ∧ bt ≤ term ∧ (base = 0 → bt = 0 ∧ snap.size = 0) ∧ ∀ k, entOk term bt L k
/-- The answer, with the state's own truth behind it. -/
def MayP (P : Prop) (w : World) (e : Ending) (w' : World) : Prop := (∃ b : Bool, e = .returned (.bool b) ∧ (b = true ↔ P)) ∧ Below w.heap.size w w'
theorem mayP_no {P : Prop} {w w' : World} (h : ¬ P) (hb : Below w.heap.size w w') : MayP P w (.returned (.bool false)) w' := ⟨⟨false, rfl, by simp [h]⟩, hb⟩
theorem mayP_yes {P : Prop} {w w' : World} (h : P) (hb : Below w.heap.size w w') : MayP P w (.returned (.bool true)) w' := ⟨⟨true, rfl, by simp [h]⟩, hb⟩
set_option maxHeartbeats 4000000 in
set_option maxRecDepth 100000 in
theorem may_1 (term vote base bt n c : Nat) (snap : ByteArray) (a : Option Addr) (L : List En) (hn : L.length = n) (_ : n ≤ 140737488351232) (_ : snap.size ≤ 140737488351232) (w : World) (h : 4611686018427387903 < term) :
    Calls Tryd.prog 9 #[.agg #[.int .u64 term, .int .u64 vote, .int .u64 base, .int .u64 bt, .string snap, .slice a n c]] w (MayP (stOk term vote base bt snap L) w) := by
  have hno : ¬ stOk term vote base bt snap L := by rintro ⟨a1, _⟩; omega
  have HNO := Lib.hid hno; clear hno
  have HN := Lib.hid hn; clear hn
  have g1 : (4611686018427387903 : Int) < (term : Int) := by omega
  go_enter Tryd.func9, Tryd.ntmps9
  go_wp2_with fail
  go_ret
  exact mayP_no HNO.out (by go_grown)
set_option maxHeartbeats 4000000 in
set_option maxRecDepth 100000 in
theorem may_2 (term vote base bt n c : Nat) (snap : ByteArray) (a : Option Addr) (L : List En) (hn : L.length = n) (_ : n ≤ 140737488351232) (_ : snap.size ≤ 140737488351232) (w : World) (h1 : ¬ 4611686018427387903 < term) (h : 4611686018427387903 < vote) :
    Calls Tryd.prog 9 #[.agg #[.int .u64 term, .int .u64 vote, .int .u64 base, .int .u64 bt, .string snap, .slice a n c]] w (MayP (stOk term vote base bt snap L) w) := by
  have hno : ¬ stOk term vote base bt snap L := by rintro ⟨_, a1, _⟩; omega
  have HNO := Lib.hid hno; clear hno
  have HN := Lib.hid hn; clear hn
  have g1 : ¬ (4611686018427387903 : Int) < (term : Int) := by omega
  have g2 : (4611686018427387903 : Int) < (vote : Int) := by omega
  go_enter Tryd.func9, Tryd.ntmps9
  go_wp2_with fail
  go_ret
  exact mayP_no HNO.out (by go_grown)
set_option maxHeartbeats 4000000 in
set_option maxRecDepth 100000 in
theorem may_3 (term vote base bt n c : Nat) (snap : ByteArray) (a : Option Addr) (L : List En) (hn : L.length = n) (_ : n ≤ 140737488351232) (_ : snap.size ≤ 140737488351232) (w : World) (h1 : ¬ 4611686018427387903 < term) (h2 : ¬ 4611686018427387903 < vote) (h : 1099511627776 < base) :
    Calls Tryd.prog 9 #[.agg #[.int .u64 term, .int .u64 vote, .int .u64 base, .int .u64 bt, .string snap, .slice a n c]] w (MayP (stOk term vote base bt snap L) w) := by
  have hno : ¬ stOk term vote base bt snap L := by rintro ⟨_, _, a1, _⟩; omega
  have HNO := Lib.hid hno; clear hno
  have HN := Lib.hid hn; clear hn
  have g1 : ¬ (4611686018427387903 : Int) < (term : Int) := by omega
  have g2 : ¬ (4611686018427387903 : Int) < (vote : Int) := by omega
  have g3 : (1099511627776 : Int) < (base : Int) := by omega
  go_enter Tryd.func9, Tryd.ntmps9
  go_wp2_with fail
  go_ret
  exact mayP_no HNO.out (by go_grown)
set_option maxHeartbeats 4000000 in
set_option maxRecDepth 100000 in
theorem may_4 (term vote base bt n c : Nat) (snap : ByteArray) (a : Option Addr) (L : List En) (hn : L.length = n) (hl : n ≤ 140737488351232) (_ : snap.size ≤ 140737488351232) (w : World) (h1 : ¬ 4611686018427387903 < term) (h2 : ¬ 4611686018427387903 < vote) (h3 : ¬ 1099511627776 < base) (h : 1024 < n) :
    Calls Tryd.prog 9 #[.agg #[.int .u64 term, .int .u64 vote, .int .u64 base, .int .u64 bt, .string snap, .slice a n c]] w (MayP (stOk term vote base bt snap L) w) := by
  have hno : ¬ stOk term vote base bt snap L := by rintro ⟨_, _, _, a1, _⟩; omega
  have HNO := Lib.hid hno; clear hno
  have HN := Lib.hid hn; clear hn
  have g1 : ¬ (4611686018427387903 : Int) < (term : Int) := by omega
  have g2 : ¬ (4611686018427387903 : Int) < (vote : Int) := by omega
  have g3 : ¬ (1099511627776 : Int) < (base : Int) := by omega
  have g4 : (1024 : Int) < (n : Int) := by omega
  go_enter Tryd.func9, Tryd.ntmps9
  go_wp2_with fail
  go_ret
  exact mayP_no HNO.out (by go_grown)
set_option maxHeartbeats 4000000 in
set_option maxRecDepth 100000 in
theorem may_5 (term vote base bt n c : Nat) (snap : ByteArray) (a : Option Addr) (L : List En) (hn : L.length = n) (hl : n ≤ 140737488351232) (_ : snap.size ≤ 140737488351232) (w : World) (h1 : ¬ 4611686018427387903 < term) (h2 : ¬ 4611686018427387903 < vote) (h3 : ¬ 1099511627776 < base) (h4 : ¬ 1024 < n) (h : 1099511627776 < base + n) :
    Calls Tryd.prog 9 #[.agg #[.int .u64 term, .int .u64 vote, .int .u64 base, .int .u64 bt, .string snap, .slice a n c]] w (MayP (stOk term vote base bt snap L) w) := by
  have hno : ¬ stOk term vote base bt snap L := by rintro ⟨_, _, _, _, a1, _⟩; omega
  have HNO := Lib.hid hno; clear hno
  have HN := Lib.hid hn; clear hn
  have g1 : ¬ (4611686018427387903 : Int) < (term : Int) := by omega
  have g2 : ¬ (4611686018427387903 : Int) < (vote : Int) := by omega
  have g3 : ¬ (1099511627776 : Int) < (base : Int) := by omega
  have g4 : ¬ (1024 : Int) < (n : Int) := by omega
  have g5 : (1099511627776 : Int) < ((base + n : Nat) : Int) := by omega
  go_enter Tryd.func9, Tryd.ntmps9
  go_wp2_with fail
  have hB : Below w.heap.size w ((w.alloc (.cells #[.int .u64 term, .int .u64 vote, .int .u64 base, .int .u64 bt, .string snap, .slice a n c] 36)).alloc (.cells #[.int .u64 base, .int .u64 bt, .string snap, .slice a n c] 34)) := by go_grown
  refine (refLast_any _ _ _ _ _ _ _ (by omega) (by omega)).mono ?_
  rintro e w1 ⟨rfl, hb1⟩
  have x0 : w1.cell? ⟨w.heap.size, 0, none⟩ = some (.int .u64 term) := (hb1.cell (p := ⟨w.heap.size, 0, none⟩) (by simp; omega)).trans (by simp [go_sem])
  have y0 : w1.cell? ⟨w.heap.size + 1, 0, none⟩ = some (.int .u64 base) := (hb1.cell (p := ⟨w.heap.size + 1, 0, none⟩) (by simp)).trans (by simp [go_sem])
  have y1 : w1.cell? ⟨w.heap.size + 1, 1, none⟩ = some (.int .u64 bt) := (hb1.cell (p := ⟨w.heap.size + 1, 1, none⟩) (by simp)).trans (by simp [go_sem])
  have y2 : w1.cell? ⟨w.heap.size + 1, 2, none⟩ = some (.string snap) := (hb1.cell (p := ⟨w.heap.size + 1, 2, none⟩) (by simp)).trans (by simp [go_sem])
  have y3 : w1.cell? ⟨w.heap.size + 1, 3, none⟩ = some (.slice a n c) := (hb1.cell (p := ⟨w.heap.size + 1, 3, none⟩) (by simp)).trans (by simp [go_sem])
  have hz1 : w.heap.size + 1 < w1.heap.size := by have := hb1.size; simp at this; omega
  have B1 := hB.trans (hb1.mono hB.size)
  clear hb1 hB
  go_wp2_with fail
  go_ret
  exact mayP_no HNO.out B1
set_option maxHeartbeats 4000000 in
set_option maxRecDepth 100000 in
theorem may_6 (term vote base bt n c : Nat) (snap : ByteArray) (a : Option Addr) (L : List En) (hn : L.length = n) (hl : n ≤ 140737488351232) (hs : snap.size ≤ 140737488351232) (w : World) (h1 : ¬ 4611686018427387903 < term) (h2 : ¬ 4611686018427387903 < vote) (h3 : ¬ 1099511627776 < base) (h4 : ¬ 1024 < n) (h5 : ¬ 1099511627776 < base + n) (h : 4096 < snap.size) :
    Calls Tryd.prog 9 #[.agg #[.int .u64 term, .int .u64 vote, .int .u64 base, .int .u64 bt, .string snap, .slice a n c]] w (MayP (stOk term vote base bt snap L) w) := by
  have hno : ¬ stOk term vote base bt snap L := by rintro ⟨_, _, _, _, _, a1, _⟩; omega
  have HNO := Lib.hid hno; clear hno
  have HN := Lib.hid hn; clear hn
  have g1 : ¬ (4611686018427387903 : Int) < (term : Int) := by omega
  have g2 : ¬ (4611686018427387903 : Int) < (vote : Int) := by omega
  have g3 : ¬ (1099511627776 : Int) < (base : Int) := by omega
  have g4 : ¬ (1024 : Int) < (n : Int) := by omega
  have g5 : ¬ (1099511627776 : Int) < ((base + n : Nat) : Int) := by omega
  have g6 : (4096 : Int) < (snap.size : Int) := by omega
  go_enter Tryd.func9, Tryd.ntmps9
  go_wp2_with fail
  have hB : Below w.heap.size w ((w.alloc (.cells #[.int .u64 term, .int .u64 vote, .int .u64 base, .int .u64 bt, .string snap, .slice a n c] 36)).alloc (.cells #[.int .u64 base, .int .u64 bt, .string snap, .slice a n c] 34)) := by go_grown
  refine (refLast_any _ _ _ _ _ _ _ (by omega) (by omega)).mono ?_
  rintro e w1 ⟨rfl, hb1⟩
  have x0 : w1.cell? ⟨w.heap.size, 0, none⟩ = some (.int .u64 term) := (hb1.cell (p := ⟨w.heap.size, 0, none⟩) (by simp; omega)).trans (by simp [go_sem])
  have y0 : w1.cell? ⟨w.heap.size + 1, 0, none⟩ = some (.int .u64 base) := (hb1.cell (p := ⟨w.heap.size + 1, 0, none⟩) (by simp)).trans (by simp [go_sem])
  have y1 : w1.cell? ⟨w.heap.size + 1, 1, none⟩ = some (.int .u64 bt) := (hb1.cell (p := ⟨w.heap.size + 1, 1, none⟩) (by simp)).trans (by simp [go_sem])
  have y2 : w1.cell? ⟨w.heap.size + 1, 2, none⟩ = some (.string snap) := (hb1.cell (p := ⟨w.heap.size + 1, 2, none⟩) (by simp)).trans (by simp [go_sem])
  have y3 : w1.cell? ⟨w.heap.size + 1, 3, none⟩ = some (.slice a n c) := (hb1.cell (p := ⟨w.heap.size + 1, 3, none⟩) (by simp)).trans (by simp [go_sem])
  have hz1 : w.heap.size + 1 < w1.heap.size := by have := hb1.size; simp at this; omega
  have B1 := hB.trans (hb1.mono hB.size)
  clear hb1 hB
  go_wp2_with fail
  go_ret
  exact mayP_no HNO.out B1
set_option maxHeartbeats 4000000 in
set_option maxRecDepth 100000 in
theorem may_7 (term vote base bt n c : Nat) (snap : ByteArray) (a : Option Addr) (L : List En) (hn : L.length = n) (hl : n ≤ 140737488351232) (hs : snap.size ≤ 140737488351232) (w : World) (h1 : ¬ 4611686018427387903 < term) (h2 : ¬ 4611686018427387903 < vote) (h3 : ¬ 1099511627776 < base) (h4 : ¬ 1024 < n) (h5 : ¬ 1099511627776 < base + n) (h6 : ¬ 4096 < snap.size) (h : term < bt) :
    Calls Tryd.prog 9 #[.agg #[.int .u64 term, .int .u64 vote, .int .u64 base, .int .u64 bt, .string snap, .slice a n c]] w (MayP (stOk term vote base bt snap L) w) := by
  have hno : ¬ stOk term vote base bt snap L := by rintro ⟨_, _, _, _, _, _, a1, _⟩; omega
  have HNO := Lib.hid hno; clear hno
  have HN := Lib.hid hn; clear hn
  have g1 : ¬ (4611686018427387903 : Int) < (term : Int) := by omega
  have g2 : ¬ (4611686018427387903 : Int) < (vote : Int) := by omega
  have g3 : ¬ (1099511627776 : Int) < (base : Int) := by omega
  have g4 : ¬ (1024 : Int) < (n : Int) := by omega
  have g5 : ¬ (1099511627776 : Int) < ((base + n : Nat) : Int) := by omega
  have g6 : ¬ (4096 : Int) < (snap.size : Int) := by omega
  have g7 : (term : Int) < (bt : Int) := by omega
  go_enter Tryd.func9, Tryd.ntmps9
  go_wp2_with fail
  have hB : Below w.heap.size w ((w.alloc (.cells #[.int .u64 term, .int .u64 vote, .int .u64 base, .int .u64 bt, .string snap, .slice a n c] 36)).alloc (.cells #[.int .u64 base, .int .u64 bt, .string snap, .slice a n c] 34)) := by go_grown
  refine (refLast_any _ _ _ _ _ _ _ (by omega) (by omega)).mono ?_
  rintro e w1 ⟨rfl, hb1⟩
  have x0 : w1.cell? ⟨w.heap.size, 0, none⟩ = some (.int .u64 term) := (hb1.cell (p := ⟨w.heap.size, 0, none⟩) (by simp; omega)).trans (by simp [go_sem])
  have y0 : w1.cell? ⟨w.heap.size + 1, 0, none⟩ = some (.int .u64 base) := (hb1.cell (p := ⟨w.heap.size + 1, 0, none⟩) (by simp)).trans (by simp [go_sem])
  have y1 : w1.cell? ⟨w.heap.size + 1, 1, none⟩ = some (.int .u64 bt) := (hb1.cell (p := ⟨w.heap.size + 1, 1, none⟩) (by simp)).trans (by simp [go_sem])
  have y2 : w1.cell? ⟨w.heap.size + 1, 2, none⟩ = some (.string snap) := (hb1.cell (p := ⟨w.heap.size + 1, 2, none⟩) (by simp)).trans (by simp [go_sem])
  have y3 : w1.cell? ⟨w.heap.size + 1, 3, none⟩ = some (.slice a n c) := (hb1.cell (p := ⟨w.heap.size + 1, 3, none⟩) (by simp)).trans (by simp [go_sem])
  have hz1 : w.heap.size + 1 < w1.heap.size := by have := hb1.size; simp at this; omega
  have B1 := hB.trans (hb1.mono hB.size)
  clear hb1 hB
  go_wp2_with fail
  go_ret
  exact mayP_no HNO.out B1
set_option maxHeartbeats 4000000 in
set_option maxRecDepth 100000 in
theorem may_8 (term vote base bt n c : Nat) (snap : ByteArray) (a : Option Addr) (L : List En) (hn : L.length = n) (hl : n ≤ 140737488351232) (hs : snap.size ≤ 140737488351232) (w : World) (h1 : ¬ 4611686018427387903 < term) (h2 : ¬ 4611686018427387903 < vote) (h3 : ¬ 1099511627776 < base) (h4 : ¬ 1024 < n) (h5 : ¬ 1099511627776 < base + n) (h6 : ¬ 4096 < snap.size) (h7 : ¬ term < bt) (h : base = 0) (hb : 0 < bt) :
    Calls Tryd.prog 9 #[.agg #[.int .u64 term, .int .u64 vote, .int .u64 base, .int .u64 bt, .string snap, .slice a n c]] w (MayP (stOk term vote base bt snap L) w) := by
  have hno : ¬ stOk term vote base bt snap L := by rintro ⟨_, _, _, _, _, _, _, a1, _⟩; have := (a1 h).1; omega
  have HNO := Lib.hid hno; clear hno
  have HN := Lib.hid hn; clear hn
  have g1 : ¬ (4611686018427387903 : Int) < (term : Int) := by omega
  have g2 : ¬ (4611686018427387903 : Int) < (vote : Int) := by omega
  have g3 : ¬ (1099511627776 : Int) < (base : Int) := by omega
  have g4 : ¬ (1024 : Int) < (n : Int) := by omega
  have g5 : ¬ (1099511627776 : Int) < ((base + n : Nat) : Int) := by omega
  have g6 : ¬ (4096 : Int) < (snap.size : Int) := by omega
  have g7 : ¬ (term : Int) < (bt : Int) := by omega
  have gb : ((base : Int) == 0) = true := by simp [h]
  have HB0 := Lib.hid h; clear h
  have g8 : (0 : Int) < (bt : Int) := by omega
  go_enter Tryd.func9, Tryd.ntmps9
  go_wp2_with fail
  have hB : Below w.heap.size w ((w.alloc (.cells #[.int .u64 term, .int .u64 vote, .int .u64 base, .int .u64 bt, .string snap, .slice a n c] 36)).alloc (.cells #[.int .u64 base, .int .u64 bt, .string snap, .slice a n c] 34)) := by go_grown
  refine (refLast_any _ _ _ _ _ _ _ (by omega) (by omega)).mono ?_
  rintro e w1 ⟨rfl, hb1⟩
  have x0 : w1.cell? ⟨w.heap.size, 0, none⟩ = some (.int .u64 term) := (hb1.cell (p := ⟨w.heap.size, 0, none⟩) (by simp; omega)).trans (by simp [go_sem])
  have y0 : w1.cell? ⟨w.heap.size + 1, 0, none⟩ = some (.int .u64 base) := (hb1.cell (p := ⟨w.heap.size + 1, 0, none⟩) (by simp)).trans (by simp [go_sem])
  have y1 : w1.cell? ⟨w.heap.size + 1, 1, none⟩ = some (.int .u64 bt) := (hb1.cell (p := ⟨w.heap.size + 1, 1, none⟩) (by simp)).trans (by simp [go_sem])
  have y2 : w1.cell? ⟨w.heap.size + 1, 2, none⟩ = some (.string snap) := (hb1.cell (p := ⟨w.heap.size + 1, 2, none⟩) (by simp)).trans (by simp [go_sem])
  have y3 : w1.cell? ⟨w.heap.size + 1, 3, none⟩ = some (.slice a n c) := (hb1.cell (p := ⟨w.heap.size + 1, 3, none⟩) (by simp)).trans (by simp [go_sem])
  have hz1 : w.heap.size + 1 < w1.heap.size := by have := hb1.size; simp at this; omega
  have B1 := hB.trans (hb1.mono hB.size)
  clear hb1 hB
  go_wp2_with fail
  go_ret
  exact mayP_no HNO.out B1
set_option maxHeartbeats 4000000 in
set_option maxRecDepth 100000 in
theorem may_9 (term vote base bt n c : Nat) (snap : ByteArray) (a : Option Addr) (L : List En) (hn : L.length = n) (hl : n ≤ 140737488351232) (hs : snap.size ≤ 140737488351232) (w : World) (h1 : ¬ 4611686018427387903 < term) (h2 : ¬ 4611686018427387903 < vote) (h3 : ¬ 1099511627776 < base) (h4 : ¬ 1024 < n) (h5 : ¬ 1099511627776 < base + n) (h6 : ¬ 4096 < snap.size) (h7 : ¬ term < bt) (h : base = 0) (hb : ¬ 0 < bt) (hc : 0 < snap.size) :
    Calls Tryd.prog 9 #[.agg #[.int .u64 term, .int .u64 vote, .int .u64 base, .int .u64 bt, .string snap, .slice a n c]] w (MayP (stOk term vote base bt snap L) w) := by
  have hno : ¬ stOk term vote base bt snap L := by rintro ⟨_, _, _, _, _, _, _, a1, _⟩; have := (a1 h).2; omega
  have HNO := Lib.hid hno; clear hno
  have HN := Lib.hid hn; clear hn
  have g1 : ¬ (4611686018427387903 : Int) < (term : Int) := by omega
  have g2 : ¬ (4611686018427387903 : Int) < (vote : Int) := by omega
  have g3 : ¬ (1099511627776 : Int) < (base : Int) := by omega
  have g4 : ¬ (1024 : Int) < (n : Int) := by omega
  have g5 : ¬ (1099511627776 : Int) < ((base + n : Nat) : Int) := by omega
  have g6 : ¬ (4096 : Int) < (snap.size : Int) := by omega
  have g7 : ¬ (term : Int) < (bt : Int) := by omega
  have gb : ((base : Int) == 0) = true := by simp [h]
  have HB0 := Lib.hid h; clear h
  have g8 : ¬ (0 : Int) < (bt : Int) := by omega
  have g9 : (0 : Int) < (snap.size : Int) := by omega
  go_enter Tryd.func9, Tryd.ntmps9
  go_wp2_with fail
  have hB : Below w.heap.size w ((w.alloc (.cells #[.int .u64 term, .int .u64 vote, .int .u64 base, .int .u64 bt, .string snap, .slice a n c] 36)).alloc (.cells #[.int .u64 base, .int .u64 bt, .string snap, .slice a n c] 34)) := by go_grown
  refine (refLast_any _ _ _ _ _ _ _ (by omega) (by omega)).mono ?_
  rintro e w1 ⟨rfl, hb1⟩
  have x0 : w1.cell? ⟨w.heap.size, 0, none⟩ = some (.int .u64 term) := (hb1.cell (p := ⟨w.heap.size, 0, none⟩) (by simp; omega)).trans (by simp [go_sem])
  have y0 : w1.cell? ⟨w.heap.size + 1, 0, none⟩ = some (.int .u64 base) := (hb1.cell (p := ⟨w.heap.size + 1, 0, none⟩) (by simp)).trans (by simp [go_sem])
  have y1 : w1.cell? ⟨w.heap.size + 1, 1, none⟩ = some (.int .u64 bt) := (hb1.cell (p := ⟨w.heap.size + 1, 1, none⟩) (by simp)).trans (by simp [go_sem])
  have y2 : w1.cell? ⟨w.heap.size + 1, 2, none⟩ = some (.string snap) := (hb1.cell (p := ⟨w.heap.size + 1, 2, none⟩) (by simp)).trans (by simp [go_sem])
  have y3 : w1.cell? ⟨w.heap.size + 1, 3, none⟩ = some (.slice a n c) := (hb1.cell (p := ⟨w.heap.size + 1, 3, none⟩) (by simp)).trans (by simp [go_sem])
  have hz1 : w.heap.size + 1 < w1.heap.size := by have := hb1.size; simp at this; omega
  have B1 := hB.trans (hb1.mono hB.size)
  clear hb1 hB
  go_wp2_with fail
  go_ret
  exact mayP_no HNO.out B1
end Go.Proofs.YtjbhnkigbobhiaaDoor
