/- A []byte of the call's own, whatever its block's tag: bytes, and a string appended to it. -/
import Derived.Test.YtifdgjmbecilhaaDoorConv
import Derived.Lib.FrozenHead
import Derived.Deep.AppendSrc
import Derived.Laws.IdiomCopy
namespace Go.Proofs.YtifdgjmbecilhaaDoor
open Go.RowKit

/-- The bytes that v holds, in a block at or above B; what is behind them may be written. -/
def Buf (w : World) (B : Nat) (v : Value) (bs : List UInt8) : Prop :=
  ∃ g cap, v = .slice (some ⟨g, 0, none⟩) bs.length cap ∧ B ≤ g ∧ g < w.heap.size ∧ bs.length ≤ cap ∧ (∀ j x, bs[j]? = some x → w.cell? ⟨g, j, none⟩ = some (u8v x)) ∧
    ∀ j, bs.length ≤ j → j < cap → (w.cell? ⟨g, j, none⟩).isSome = true ∧ w.frozen? ⟨g, j, none⟩ = false
theorem Buf.later {w w' : World} {B : Nat} {v : Value} {bs : List UInt8} (h : Buf w B v bs) (hb : Below w.heap.size w w') : Buf w' B v bs := by
  obtain ⟨g, cap, rfl, hB, hg, hc, h1, h2⟩ := h
  exact ⟨g, cap, rfl, hB, Nat.lt_of_lt_of_le hg hb.size, hc, fun j x hx => (hb.cell (p := ⟨g, j, none⟩) hg).trans (h1 j x hx), fun j h3 h4 => by rw [hb.cell (p := ⟨g, j, none⟩) hg, hb.frozen (p := ⟨g, j, none⟩) hg]; exact h2 j h3 h4⟩
theorem below_setCells {B : Nat} {a : World} {b : Nat} (hB : B ≤ b) : ∀ (vs : List Value) (o : Nat) (w : World), Below B a w → Below B a (w.setCells b o vs)
  | [], _, _, h => h
  | _ :: r, o, _, h => below_setCells hB r (o + 1) _ (h.setCell hB _)
theorem size_setCells (b : Nat) : ∀ (vs : List Value) (o : Nat) (w : World), (w.setCells b o vs).heap.size = w.heap.size
  | [], _, _ => rfl
  | _ :: r, o, w => by rw [World.setCells, size_setCells b r (o + 1), World.size_setCell]
theorem byteCells_u8v (s : ByteArray) : byteCells s = s.data.toList.map u8v := rfl
theorem infoByte : (Tryd.prog.info? 5).map (fun i => (i.zero, i.size, i.bytes)) = some (some (.int .u8 0), 1, 1) := by kernel_rfl
/-- append(v, s...). -/
theorem buf_app (ty : TypeId) (w : World) (B : Nat) (hBw : B ≤ w.heap.size) (v : Value) (bs : List UInt8) (s : ByteArray) (h : Buf w B v bs) (hn : bs.length + s.size ≤ 70368744177664) :
    ∃ v' w', (Builtin.append_ #[69, 9] ty #[v, .string s]).run Tryd.prog w = .ok v' w' ∧ Buf w' B v' (bs ++ s.data.toList) ∧ ∀ a, Below B a w → Below B a w' := by
  obtain ⟨i0, hi, hz0, hz1, hz2⟩ := info_parts infoByte
  obtain ⟨g, cap, rfl, hB, hg, hc, h1, h2⟩ := h
  have hl : (byteCells s).length = s.size := byteCells_length s
  have hsl : s.data.toList.length = s.size := by simp
  have hsrc : Src Tryd.prog i0.size 9 (.string s) s.size (byteCells s) w := by rw [hz1]; exact Src.ofString w Tryd.underlying9 s
  by_cases hroom : bs.length + s.size ≤ cap
  · have hr := run_append_room_src (P := Tryd.prog) w 69 9 ty 5 i0 Tryd.underlying69 hi g 0 bs.length cap (.string s) s.size (byteCells s) hsrc hroom
      (fun j hj => by rw [hz1, Nat.mul_one, Nat.zero_add]; exact (h2 _ (by omega) (by omega)).1) (fun j hj => by rw [hz1, Nat.mul_one, Nat.zero_add]; exact (h2 _ (by omega) (by omega)).2)
    rw [hz1, Nat.mul_one, Nat.zero_add] at hr
    refine ⟨_, _, hr, ⟨g, cap, ?_, hB, by rw [size_setCells]; exact hg, ?_, ?_, ?_⟩, fun a ha => below_setCells hB _ _ _ ha⟩
    · rw [List.length_append, hsl]
    · rw [List.length_append, hsl]; exact hroom
    · intro j x hx
      by_cases hj : j < bs.length
      · rw [World.cell?_setCells_out _ _ _ _ _ (fun _ _ => .inl hj)]
        rw [List.getElem?_append_left hj] at hx; exact h1 j x hx
      · have hj2 : j - bs.length < s.size := by have := (List.getElem?_eq_some_iff.1 hx).1; rw [List.length_append, hsl] at this; omega
        have hc2 := World.cell?_setCells_in g (byteCells s) bs.length w (fun i hi' => (h2 _ (by omega) (by omega)).1) (j - bs.length) (by omega)
        rw [show bs.length + (j - bs.length) = j by omega] at hc2
        rw [hc2]
        rw [List.getElem?_append_right (by omega)] at hx
        have hx2 : s.data.toList[j - bs.length]'(by omega) = x := by rw [List.getElem?_eq_getElem (by omega)] at hx; exact Option.some.inj hx
        simp only [byteCells_u8v, List.getElem_map, hx2]
    · intro j h3 h4
      rw [List.length_append, hsl] at h3
      rw [World.cell?_setCells_out _ _ _ _ _ (fun _ _ => .inr (by rw [hl]; exact h3)), World.frozen?_setCells]
      exact h2 j (by omega) h4
  · have hold : (Builtin.firstCells i0.size bs.length (.slice (some ⟨g, 0, none⟩) bs.length cap)).run Tryd.prog w.drew = .ok (bs.map u8v).toArray w.drew := by
      refine run_firstCells_some w.drew i0.size bs.length ⟨g, 0, none⟩ bs.length cap (bs.map u8v) (by rw [hz1]; simp) (fun j u hj => ?_)
      rw [addHead]
      rw [List.getElem?_map] at hj
      obtain ⟨x, hx, rfl⟩ := Option.map_eq_some_iff.1 hj
      exact h1 j x hx
    have hr := run_append_grow_src (P := Tryd.prog) w 69 9 ty 5 i0 (.int .u8 0) Tryd.underlying69 hi hz0 (some ⟨g, 0, none⟩) bs.length cap (bs.map u8v) hold (.string s) s.size (byteCells s) hsrc (by omega) (by omega)
      (by rw [hz2]; exact growslice_fits (by omega) (by omega))
    have hge := grownCap_ge w (bs.length + s.size) cap 5
    generalize grownCap w (bs.length + s.size) cap 5 = gc at hr hge
    have hrow : ∀ (j : Nat) (x : UInt8), (bs ++ s.data.toList)[j]? = some x → ((bs.map u8v ++ byteCells s).toArray ++ Builtin.zeroCells (Value.int IntKind.u8 0).cells (gc - (bs.length + s.size)))[j]? = some (u8v x) := by
      intro j x hx
      have hj : j < bs.length + s.size := by have := (List.getElem?_eq_some_iff.1 hx).1; rw [List.length_append, hsl] at this; exact this
      rw [Array.getElem?_append_left (by simp [hl]; omega), List.getElem?_toArray, byteCells_u8v, ← List.map_append, List.getElem?_map, hx]; rfl
    refine ⟨_, _, hr, ⟨w.heap.size, gc, ?_, hBw, by simp, ?_, ?_, ?_⟩, fun a ha => ha.drew.alloc (by simpa using hBw) _⟩
    · rw [List.length_append, hsl]
    · rw [List.length_append, hsl]; exact hge
    · intro j x hx
      have := hrow j x hx
      exact (World.cell?_alloc_at (w := w.drew) _ _ w.heap.size j rfl).trans this
    · intro j h3 h4
      rw [List.length_append, hsl] at h3
      constructor
      · rw [World.cell?_alloc_at (w := w.drew) _ _ w.heap.size j rfl, Array.getElem?_eq_getElem (by simp [size_zeroCells, hl]; show j < bs.length + s.size + (gc - (bs.length + s.size)) * 1; omega)]
        rfl
      · exact World.frozen?_alloc_at (w := w.drew) _ _ w.heap.size j rfl
/-- The operation, for the walk. -/
theorem wpList_buf_app {ops : Array Oper} {rest : List Oper} {o : Oper} {a : Act} {Q : Exit → Act → World → Prop} {w : World} (hgd : o.guard = none) (sl x : Operand)
    (ho : o.op = .call { callee := .builtin .append, args := #[sl, x], argTypes := #[69, 9] })
    (B : Nat) (hBw : B ≤ w.heap.size) (v : Value) (bs : List UInt8) (s : ByteArray) (hs : a.eval sl = v) (hx : a.eval x = .string s) (hb : Buf w B v bs) (hn : bs.length + s.size ≤ 70368744177664)
    (h : ∀ v' w', Buf w' B v' (bs ++ s.data.toList) → (∀ a, Below B a w → Below B a w') → wpList Tryd.prog ops Q rest (a.put o.dst v') w') : wpList Tryd.prog ops Q (o :: rest) a w := by
  refine wpList_plain hgd fun K hK => ?_
  obtain ⟨v', w', hr, h2, h3⟩ := buf_app o.type w B hBw v bs s hb hn
  unfold Oper.wp execOp
  simp only [ho, resolve, invoke, builtin, Sem.run_bind, Sem.run_pure, Result.andThen_ok, List.map_toArray, List.map_cons, List.map_nil, hs, hx, hr]
  exact hK _ _ (h v' w' h2 h3)
/-- []byte(s). -/
theorem buf_conv (w : World) (B : Nat) (hB : B ≤ w.heap.size) (l : List UInt8) : ∃ v W1, (convert 9 69 (.string ⟨l.toArray⟩)).run Tryd.prog w = .ok v W1 ∧ Buf W1 B v l ∧ Below w.heap.size w W1 := by
  have hr := run_bytes_of_string w 9 69 5 ⟨l.toArray⟩ Tryd.underlying9 Tryd.underlying69 Tryd.underlying5
  have hge := grownCap_ge w (ByteArray.mk l.toArray).size 0 5
  generalize grownCap w (ByteArray.mk l.toArray).size 0 5 = gc at hr hge
  have hl : (ByteArray.mk l.toArray).size = l.length := size_arr l
  have hsz : (bytesRow ⟨l.toArray⟩ gc).size = gc := by unfold bytesRow; simp; rw [hl] at hge; omega
  have h2 : (w.drew.alloc (.cells (bytesRow ⟨l.toArray⟩ gc) 5 ((bytesRow ⟨l.toArray⟩ gc).size, (bytesRow ⟨l.toArray⟩ gc).size + 1))).heap[w.heap.size]? = some (.cells (bytesRow ⟨l.toArray⟩ gc) 5 ((bytesRow ⟨l.toArray⟩ gc).size, (bytesRow ⟨l.toArray⟩ gc).size + 1)) := by
    show (w.heap.push _)[w.heap.size]? = _
    simp
  refine ⟨_, _, hr, ⟨w.heap.size, gc, by rw [hl], hB, by simp, by omega, ?_, ?_⟩, (Below.refl _ _).drew.alloc (Nat.le_refl _) _⟩
  · intro j x hj
    simp only [World.cell?, h2]
    have hlt := (List.getElem?_eq_some_iff.1 hj).1
    unfold bytesRow
    rw [Array.getElem?_append_left (by simpa using hlt)]
    simp [hj, u8v]
  · intro j _ h4
    constructor
    · simp only [World.cell?, h2]
      rw [Array.getElem?_eq_getElem (by rw [hsz]; exact h4)]; rfl
    · simp only [World.frozen?, h2]
      simp; omega
end Go.Proofs.YtifdgjmbecilhaaDoor
