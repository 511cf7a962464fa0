/- Voices: a clone; whether a node has voted; Say, the program's and the document's; whether two lists are the same. -/
import Derived.Test.YtmcmanjniloeaaaRg
import Derived.Test.YtmcmanjniloeaaaRa
import Derived.Test.YtmcmanjniloeaaaWd
import Derived.Laws.StructEq
namespace Go.Proofs.Ytmcmanjniloeaaa
open Go.RowKit

theorem voT : RowT (α := Vo) 31 33 2 16 (.agg #[.int .u64 0, .bool false]) voC :=
  ⟨Try.underlying31, by kernel_rfl, rfl, by decide, by decide, fun _ => rfl, fun x u hu => by
    simp only [voC, List.mem_cons, List.not_mem_nil, or_false] at hu
    rcases hu with rfl | rfl <;> rfl⟩
abbrev CqV (B : Nat) (w : World) (v : Value) (L : List Vo) : Prop := Cq 33 2 voC B w v L
theorem Rw.vo {w : World} {a : Option Addr} {L : List Vo} {k : Nat} {x : Vo} (h : Vs w a L) (hx : L[k]? = some x) : ∃ b off, a = some ⟨b, off, none⟩ ∧ b < w.heap.size ∧ w.cell? ⟨b, off + k * 2, none⟩ = some (.int .u64 (x.id : Nat)) ∧ w.cell? ⟨b, off + k * 2 + 1, none⟩ = some (.bool x.y) := by
  obtain ⟨b, off, e, hb, hc⟩ := h k x hx
  exact ⟨b, off, e, hb, by simpa using hc 0 _ rfl, hc 1 _ rfl⟩
set_option maxHeartbeats 1000000 in
/-- slices.Clone. -/
theorem cloneV_any (n c : Nat) (a : Option Addr) (L : List Vo) (hn : L.length = n) (hl : n * 16 ≤ 140737488355328) (w : World) (hM : Vs w a L) :
    Calls Try.prog 20 #[.slice a n c] w (ClP 33 2 voC w L) := by
  cases a with
  | none =>
    have hL : L = [] := by
      cases L with
      | nil => rfl
      | cons x r => obtain ⟨b, off, e, _⟩ := hM.addr (by simp); cases e
    subst hL
    clear hl hn hM
    have q22 : ∀ (w : World) (a : Option Addr) (n c n' c' : Nat), (binOp .eql 31 (.slice a n c) (.slice none n' c')).run Try.prog w = .ok (.bool a.isNone) w := fun w a n c n' c' => Lib.run_eql_slice_nil w _ _ a n c n' c' Try.underlying31
    go_enter Try.func20, Try.ntmps20
    go_wp2_with fail
    go_ret
    exact ⟨_, rfl, Cq.nil _ _ none, Below.refl _ _⟩
  | some p =>
    have B0 : Below w.heap.size w (w.alloc (.cells #[] 33)) := (Below.refl _ _).alloc (Nat.le_refl _) _
    obtain ⟨v', w', hr, hc, hb⟩ := app_rw voT w.heap.size (w.alloc (.cells #[] 33)) 31 (.slice (some ⟨w.heap.size, 0, none⟩) 0 0) [] (Cq.nil _ _ _) (some p) n c L hn (hM.later B0) (by simpa using hl) (by simp)
    have HR := Lib.hid hr
    have HC := Lib.hid (And.intro hc (B0.trans hb))
    clear hr hc hb hM hn B0 hl
    have q22 : ∀ (w : World) (a : Option Addr) (n c n' c' : Nat), (binOp .eql 31 (.slice a n c) (.slice none n' c')).run Try.prog w = .ok (.bool a.isNone) w := fun w a n c n' c' => Lib.run_eql_slice_nil w _ _ a n c n' c' Try.underlying31
    go_enter Try.func20, Try.ntmps20
    go_wp2_with (at_builtin; refine Lib.wpList_append_run _ rfl _ _ 31 31 rfl (.slice (some ⟨w.heap.size, 0, none⟩) 0 0) (.slice (some p) n c) rfl rfl _ _ HR.out ?_)
    go_wp2_with fail
    go_ret
    exact ⟨_, rfl, HC.out.1, HC.out.2⟩
/-- A voice in a box. -/
structure Vb (w : World) (x : Nat) (i : Nat) (y : Bool) : Prop where
  c0 : w.cell? ⟨x, 0, none⟩ = some (.int .u64 i)
  c1 : w.cell? ⟨x, 1, none⟩ = some (.bool y)
  lt : x < w.heap.size
theorem Vb.new {w : World} {x : Nat} (hx : x = w.heap.size) (i : Nat) (y : Bool) (T : TypeId) : Vb (w.alloc (.cells #[.int .u64 i, .bool y] T)) x i y := by
  subst hx
  exact ⟨by simp [go_sem], by simp [go_sem], by simp⟩
theorem Vb.later {w w' : World} {x i : Nat} {y : Bool} (h : Vb w x i y) (hb : Below w.heap.size w w') : Vb w' x i y :=
  ⟨(hb.cell (p := ⟨x, 0, none⟩) h.lt).trans h.c0, (hb.cell (p := ⟨x, 1, none⟩) h.lt).trans h.c1, Nat.lt_of_lt_of_le h.lt hb.size⟩
theorem beq_nat (j i : Nat) : ((j : Int) == (i : Int)) = decide (j = i) := by
  by_cases h : j = i
  · subst h; simp
  · have h2 : (j : Int) ≠ i := by omega
    simp [h, h2]
set_option maxHeartbeats 1000000 in
theorem say1_any (i h j : Nat) (y z : Bool) (w : World) (H : Vb w h i y) :
    Calls Try.prog 21 #[.agg #[.int .u64 j, .bool z], .pointer (some ⟨h, 0, none⟩)] w fun e w' => e = .returned (.bool (decide (j = i))) ∧ Below w.heap.size w w' := by
  obtain ⟨c0, c1, lt⟩ := H
  go_enter Try.func21, Try.ntmps21
  go_wp2_with fail
  go_ret
  exact ⟨by simp [beq_nat], by go_grown⟩
/-- Whether a node has voted. -/
def saidV (i : Nat) : List Vo → Bool
  | [] => false
  | x :: r => decide (x.id = i) || saidV i r
theorem saidV_at {i k : Nat} {L : List Vo} {x : Vo} (hx : L[k]? = some x) : saidV i (L.drop k) = (decide (x.id = i) || saidV i (L.drop (k + 1))) := by
  obtain ⟨hk, rfl⟩ := List.getElem?_eq_some_iff.1 hx
  rw [List.drop_eq_getElem_cons hk]; rfl
/-- What IndexFunc answers. -/
def IxP (w : World) (f : Bool) (e : Ending) (w' : World) : Prop := ∃ k : Int, e = .returned (.int .i64 k) ∧ (0 ≤ k ↔ f = true) ∧ Below w.heap.size w w'
set_option maxHeartbeats 2000000 in
theorem index_any (i h n c : Nat) (y : Bool) (a : Option Addr) (L : List Vo) (hn : L.length = n) (hl : n ≤ 140737488351232) (w : World) (H : Vb w h i y) (hE : Vs w a L) :
    Calls Try.prog 30 #[.slice a n c, .func (.func 21) #[] #[.pointer (some ⟨h, 0, none⟩)]] w (IxP w (saidV i L)) := by
  have HN := Lib.hid hn
  have HE := Lib.hid hE
  have HH := Lib.hid H
  clear hn hE
  go_enter Try.func30, Try.ntmps30
  go_wp2_with fail
  go_loopw [8] (fun u wr => ∃ (k : Nat), k ≤ n ∧ u = .int .i64 k ∧ saidV i L = saidV i (L.drop k) ∧ Below w.heap.size w wr) (fun u _ => n - (intOf u).toNat)
  case atStart => exact ⟨0, Nat.zero_le _, rfl, rfl, Below.refl _ _⟩
  case round =>
    obtain ⟨k, hk, rfl, hf, B⟩ := hrel
    have HFB := Lib.hid hf
    clear hf
    by_cases hlt : k < n
    · obtain ⟨x, hx⟩ : ∃ x, L[k]? = some x := ⟨_, List.getElem?_eq_getElem (by rw [HN.out]; exact hlt)⟩
      obtain ⟨b, off, rfl, hb, P0, P1⟩ := (HE.out.later B).vo hx
      have HFA := Lib.hid (saidV_at (i := i) hx)
      have i0 : (0 : Int) ≤ (k : Int) := by omega
      have i1 : (k : Int) < (n : Int) := by omega
      clear hx
      go_wp2_with fail
      refine (say1_any i h x.id y x.y _ (HH.out.later B)).mono ?_
      rintro e w2 ⟨rfl, hb3⟩
      have B3 := B.trans (hb3.mono B.size)
      clear hb3
      by_cases hfl : x.id = i
      · have g : decide (x.id = i) = true := decide_eq_true hfl
        have HT := Lib.hid (show saidV i L = true by rw [HFB.out, HFA.out, g]; rfl)
        go_wp2_with fail
        go_ret
        exact ⟨k, rfl, ⟨fun _ => HT.out, fun _ => by omega⟩, B3⟩
      · have g : decide (x.id = i) = false := decide_eq_false hfl
        have HT := Lib.hid (show saidV i L = saidV i (L.drop (k + 1)) by rw [HFB.out, HFA.out, g]; rfl)
        go_wp2_with fail
        go_roundw
        case rel => exact ⟨k + 1, by omega, by go_num, HT.out, B3⟩
        case measure => simp [intOf]; omega
    · have HT := Lib.hid (show saidV i L = false by rw [HFB.out, List.drop_eq_nil_of_le (by rw [HN.out]; omega)]; rfl)
      go_wp2_with fail
      go_ret
      exact ⟨-1, rfl, ⟨fun h => by omega, fun h => by rw [HT.out] at h; simp at h⟩, B⟩
set_option maxHeartbeats 2000000 in
theorem contains_any (i h n c : Nat) (y : Bool) (a : Option Addr) (L : List Vo) (hn : L.length = n) (hl : n ≤ 140737488351232) (w : World) (H : Vb w h i y) (hE : Vs w a L) :
    Calls Try.prog 22 #[.slice a n c, .func (.func 21) #[] #[.pointer (some ⟨h, 0, none⟩)]] w fun e w' => e = .returned (.bool (saidV i L)) ∧ Below w.heap.size w w' := by
  go_enter Try.func22, Try.ntmps22
  go_wp2_with fail
  refine (index_any i h n c y a L hn hl _ H hE).mono ?_
  rintro e w2 ⟨k, rfl, hk, hb2⟩
  have HK := Lib.hid hk
  clear hk hE
  go_wp2_with fail
  go_ret
  refine ⟨?_, hb2⟩
  have h := HK.out
  cases hf : saidV i L
  · rw [hf] at h; simp at h; simp; omega
  · rw [hf] at h; simp at h; simp; omega
/-- What Say answers. -/
def sayL (L : List Vo) (i : Nat) (y : Bool) : List Vo := if saidV i L then L else L ++ [⟨i, y⟩]
theorem sayL_len (L : List Vo) (i : Nat) (y : Bool) : (sayL L i y).length ≤ L.length + 1 := by unfold sayL; split <;> simp
def SyP (w : World) (L : List Vo) (e : Ending) (w' : World) : Prop := ∃ v', e = .returned v' ∧ CqV w.heap.size w' v' L ∧ Below w.heap.size w w'
set_option maxRecDepth 100000 in
set_option maxHeartbeats 2000000 in
theorem pSay_any (i n c : Nat) (y : Bool) (a : Option Addr) (L : List Vo) (hn : L.length = n) (hl : n * 16 ≤ 140737488351232) (w : World) (hE : Vs w a L) :
    Calls Try.prog 12 #[.slice a n c, .agg #[.int .u64 i, .bool y]] w (SyP w (sayL L i y)) := by
  have HN := Lib.hid hn
  have HE := Lib.hid hE
  have HB := Lib.hid (Vb.new (w := w) rfl i y 33)
  have HW := Lib.hid (show Below w.heap.size w (w.alloc (.cells #[.int .u64 i, .bool y] 33)) by go_grown)
  clear hn hE
  go_enter Try.func12, Try.ntmps12
  go_wp2_with fail
  generalize w.alloc (.cells #[.int .u64 i, .bool y] 33) = W at *
  refine (cloneV_any n c a L HN.out (by omega) _ (HE.out.later HW.out)).mono ?_
  rintro e w2 ⟨v', rfl, hc, hb⟩
  have HC := Lib.hid hc
  have HB2 := Lib.hid (HB.out.later hb)
  have HW2 := Lib.hid (HW.out.trans (hb.mono HW.out.size))
  have hle := HW.out.size
  clear hc hb
  go_wp2_with fail
  refine (contains_any i w.heap.size n c y a L HN.out (by omega) _ HB2.out (HE.out.later HW2.out)).mono ?_
  rintro e w3 ⟨rfl, hb3⟩
  have HC3 := Lib.hid (HC.out.later hb3)
  have HW3 := Lib.hid (HW2.out.trans (hb3.mono HW2.out.size))
  obtain ⟨v0, v1, vl⟩ := HB2.out.later hb3
  clear hb3
  obtain ⟨b, hb⟩ : ∃ b, saidV i L = b := ⟨_, rfl⟩
  rw [hb]
  cases b
  · have HT := Lib.hid (show sayL L i y = L ++ [⟨i, y⟩] by unfold sayL; rw [hb]; rfl)
    have B3 : Below w3.heap.size w3 (w3.alloc (.cells #[.int .u64 i, .bool y] 33)) := (Below.refl _ _).alloc (Nat.le_refl _) _
    obtain ⟨v2, w4, hr, hc4, hb4⟩ := app_rw voT w.heap.size _ 31 v' L ((HC3.out.mono hle).later B3) (some ⟨w3.heap.size, 0, none⟩) 1 1 [(⟨i, y⟩ : Vo)] rfl (rw_one (f := voC) w3 rfl (⟨i, y⟩ : Vo) rfl 33) (by have := HN.out; omega) (Nat.le_trans HW3.out.size B3.size)
    have HR := Lib.hid hr
    have HC4 := Lib.hid (And.intro hc4 ((HW3.out.trans (B3.mono HW3.out.size)).trans hb4))
    clear hr hc4 hb4 B3
    go_wp2_with (at_builtin; refine Lib.wpList_append_run _ rfl _ _ 31 31 rfl v' (.slice (some ⟨w3.heap.size, 0, none⟩) 1 1) rfl rfl _ _ HR.out ?_)
    go_wp2_with fail
    go_ret
    exact ⟨v2, rfl, by rw [HT.out]; exact HC4.out.1, HC4.out.2⟩
  · have HT := Lib.hid (show sayL L i y = L by unfold sayL; rw [hb]; rfl)
    go_wp2_with fail
    go_ret
    exact ⟨v', rfl, by rw [HT.out]; exact HC3.out.mono hle, HW3.out⟩
end Go.Proofs.Ytmcmanjniloeaaa
