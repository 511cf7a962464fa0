/- The reference of layer 4: Step, whatever note; Fold. -/
import Derived.Test.YtjbhnkigbobhiaaDoorSa
import Derived.Test.YtjbhnkigbobhiaaDoorSb
import Derived.Test.YtjbhnkigbobhiaaDoorSc
import Derived.Test.YtjbhnkigbobhiaaDoorSd
import Derived.Test.YtjbhnkigbobhiaaDoorSg
import Derived.Test.YtjbhnkigbobhiaaDoorSi
import Derived.Outline
namespace Go.Proofs.YtjbhnkigbobhiaaDoor
open Go.RowKit

@[reducible] def Sg.val (s : Sg) (a : Option Addr) (c : Nat) : Value := .agg #[.int .u64 s.term, .int .u64 s.vote, .int .u64 s.base, .int .u64 s.bt, .string s.snap, .slice a s.L.length c]
theorem step_any (s : Sg) (a : Option Addr) (c : Nat) (hf : s.fit) (w : World) (hE : Ents w a s.L) (m : Nt) :
    Calls Tryd.prog 39 #[s.val a c, m.val] w (StP w a (s.step m)) := by
  obtain ⟨hl, hb⟩ := hf
  obtain ⟨term, vote, base, bt, snap, L⟩ := s
  obtain ⟨k, i, t, v, d⟩ := m
  simp only at hl hb hE
  by_cases k1 : k = 1
  · exact step_1 term vote base bt _ c snap a L rfl w hE k i t v d k1
  by_cases k2 : k = 2
  · subst k2
    by_cases h1 : i = base + L.length + 1
    · by_cases h2 : L.length < 1024
      · by_cases h3 : i ≤ 1099511627776
        · exact step_2e term vote base bt _ c snap a L rfl hl hb w hE i t v d h1 h2 h3
        · exact step_2c term vote base bt _ c snap a L rfl hl hb w hE i t v d h1 h2 h3
      · exact step_2b term vote base bt _ c snap a L rfl hl hb w hE i t v d h1 h2
    · exact step_2a term vote base bt _ c snap a L rfl hl hb w hE i t v d h1
  by_cases k3 : k = 3
  · subst k3; exact step_3 term vote base bt _ c snap a L rfl hl hb w hE i t v d
  by_cases k4 : k = 4
  · by_cases h1 : i ≤ base
    · exact step_4a term vote base bt _ c snap a L rfl w hE k i t v d k4 h1
    by_cases h2 : 1099511627776 < i
    · exact step_4b term vote base bt _ c snap a L rfl w hE k i t v d k4 h1 h2
    · subst k4; exact step_4 term vote base bt _ c snap a L rfl hl hb w hE i t v d (by omega) (by omega)
  · exact step_0 term vote base bt _ c snap a L rfl w hE k i t v d k1 k2 k3 k4
/-- A state's box. -/
structure Sx (w : World) (x : Nat) (s : Sg) (a : Option Addr) (c : Nat) : Prop where
  c0 : w.cell? ⟨x, 0, none⟩ = some (.int .u64 s.term)
  c1 : w.cell? ⟨x, 1, none⟩ = some (.int .u64 s.vote)
  c2 : w.cell? ⟨x, 2, none⟩ = some (.int .u64 s.base)
  c3 : w.cell? ⟨x, 3, none⟩ = some (.int .u64 s.bt)
  c4 : w.cell? ⟨x, 4, none⟩ = some (.string s.snap)
  c5 : w.cell? ⟨x, 5, none⟩ = some (.slice a s.L.length c)
  fz : ∀ j, w.frozen? ⟨x, j, none⟩ = false
  lt : x < w.heap.size
theorem Sx.later {w w' : World} {x : Nat} {s : Sg} {a : Option Addr} {c : Nat} (h : Sx w x s a c) (hb : Below w.heap.size w w') : Sx w' x s a c :=
  ⟨(hb.cell (p := ⟨x, 0, none⟩) h.lt).trans h.c0, (hb.cell (p := ⟨x, 1, none⟩) h.lt).trans h.c1, (hb.cell (p := ⟨x, 2, none⟩) h.lt).trans h.c2, (hb.cell (p := ⟨x, 3, none⟩) h.lt).trans h.c3, (hb.cell (p := ⟨x, 4, none⟩) h.lt).trans h.c4, (hb.cell (p := ⟨x, 5, none⟩) h.lt).trans h.c5,
    fun j => (hb.frozen (p := ⟨x, j, none⟩) h.lt).trans (h.fz j), Nat.lt_of_lt_of_le h.lt hb.size⟩
/-- A state's box written whole. -/
def set6 (w : World) (x : Nat) (s : Sg) (a : Option Addr) (c : Nat) : World :=
  (((((w.setCell ⟨x, 0, none⟩ (.int .u64 s.term)).setCell ⟨x, 1, none⟩ (.int .u64 s.vote)).setCell ⟨x, 2, none⟩ (.int .u64 s.base)).setCell ⟨x, 3, none⟩ (.int .u64 s.bt)).setCell ⟨x, 4, none⟩ (.string s.snap)).setCell ⟨x, 5, none⟩ (.slice a s.L.length c)
theorem Sx.set {w : World} {x : Nat} {s : Sg} {a : Option Addr} {c : Nat} (h : Sx w x s a c) (s' : Sg) (a' : Option Addr) (c' : Nat) : Sx (set6 w x s' a' c') x s' a' c' := by
  obtain ⟨h0, h1, h2, h3, h4, h5, hz, hl⟩ := h
  unfold set6
  refine ⟨?_, ?_, ?_, ?_, ?_, ?_, fun j => ?_, by simpa using hl⟩ <;> simp [go_sem, h0, h1, h2, h3, h4, h5, hz]
theorem set6_below {B : Nat} {w0 w : World} {x : Nat} (h : Below B w0 w) (hx : B ≤ x) (s : Sg) (a : Option Addr) (c : Nat) : Below B w0 (set6 w x s a c) :=
  (((((h.setCell hx _).setCell hx _).setCell hx _).setCell hx _).setCell hx _).setCell hx _
theorem set6_far {w : World} {x b : Nat} (hne : x ≠ b) (s : Sg) (a : Option Addr) (c o : Nat) : (set6 w x s a c).cell? ⟨b, o, none⟩ = w.cell? ⟨b, o, none⟩ := by
  unfold set6
  exact (World.cell?_setCell_far _ ⟨x, 5, none⟩ ⟨b, o, none⟩ _ hne).trans ((World.cell?_setCell_far _ ⟨x, 4, none⟩ ⟨b, o, none⟩ _ hne).trans ((World.cell?_setCell_far _ ⟨x, 3, none⟩ ⟨b, o, none⟩ _ hne).trans ((World.cell?_setCell_far _ ⟨x, 2, none⟩ ⟨b, o, none⟩ _ hne).trans ((World.cell?_setCell_far _ ⟨x, 1, none⟩ ⟨b, o, none⟩ _ hne).trans (World.cell?_setCell_far _ ⟨x, 0, none⟩ ⟨b, o, none⟩ _ hne)))))
theorem set6_ents {w : World} {a0 : Option Addr} {L : List En} (h : Ents w a0 L) {x : Nat} (hne : ∀ q, a0 = some q → q.block ≠ x) (s : Sg) (a : Option Addr) (c : Nat) : Ents (set6 w x s a c) a0 L := by
  unfold set6
  exact ents_set (ents_set (ents_set (ents_set (ents_set (ents_set h hne _ _) hne _ _) hne _ _) hne _ _) hne _ _) hne _ _
end Go.Proofs.YtjbhnkigbobhiaaDoor
