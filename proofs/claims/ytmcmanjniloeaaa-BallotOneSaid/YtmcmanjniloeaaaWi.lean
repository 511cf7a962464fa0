/- A map whose keys are voices: the keys; the first voices; Count's parts. -/
import Derived.Test.YtmcmanjniloeaaaWg
import Derived.Test.YtmcmanjniloeaaaGw
import Derived.DeepKeys4
import Derived.Maps.OwnSet
namespace Go.Proofs.Ytmcmanjniloeaaa
open Go.RowKit Go.Maps

theorem laidOut7 : laidOutB Try.prog = true := by kernel_rfl
theorem keyedVo : Keyed Try.prog 33 :=
  Keyed.of_law (deep_law_laid laidOut7 (m := 2) (by omega) (of_decide_eq_true (by kernel_rfl)) (by kernel_rfl) (by rw [Try.underlying33]))
theorem keyType7 : Try.prog.keyType 33 = true := by kernel_rfl
theorem formed7 {c0 c1 : Value} : (Value.agg #[c0, c1]).formed Try.prog 33 = true := by simp [Value.formed, Try.underlying33, cellsVoice]
theorem keyVo_some (i : Nat) (y : Bool) (h : i < 18446744073709551616) : (keyOf Try.prog 33 (.agg #[.int .u64 (i : Nat), .bool y])).isSome = true := by
  have wf : (Lit.int .u64 (i : Nat)).wf = true := by simp [Lit.wf, IntKind.min, IntKind.max, IntKind.signed, IntKind.bits]; omega
  obtain ⟨m, hm⟩ : ∃ m, Try.prog.types.size = m + 1 := ⟨Try.prog.types.size - 1, by have : 0 < Try.prog.types.size := of_decide_eq_true (by kernel_rfl); omega⟩
  unfold keyOf
  rw [Try.underlying33]
  simp only [keyType7, formed7, Bool.and_self, ↓reduceIte, Option.isSome_map]
  unfold Program.keyLits
  rw [Try.underlying33, hm]
  simp [Program.keyLits, Try.underlying22, Try.underlying4, cellsVoice, cellsU64, cellsBool, Value.cells, wf]
/-- A voice's key. -/
noncomputable def kvo (i : Nat) (y : Bool) : Lit := (keyOf Try.prog 33 (.agg #[.int .u64 (i : Nat), .bool y])).getD (.bool false)
theorem keyVo (i : Nat) (y : Bool) (h : i < 18446744073709551616) : keyOf Try.prog 33 (.agg #[.int .u64 (i : Nat), .bool y]) = some (kvo i y) := by
  have := keyVo_some i y h
  unfold kvo
  cases hk : keyOf Try.prog 33 (.agg #[.int .u64 (i : Nat), .bool y])
  · rw [hk] at this; cases this
  · rfl
theorem kvo_lit (i : Nat) (y : Bool) (h : i < 18446744073709551616) : WideAt.IsKeyLit (kvo i y) := keyedVo.key (keyVo i y h)
theorem kvo_ne {i j : Nat} {y z : Bool} (h : i < 18446744073709551616) (h2 : j < 18446744073709551616) (hne : ¬ (i = j ∧ y = z)) : kvo i y ≠ kvo j z := fun e => by
  have h3 := keyVo j z h2
  rw [← e] at h3
  have := keyedVo.inj (keyVo i y h) h3
  injection this with this
  simp at this
  exact hne ⟨by omega, this.2⟩
abbrev VM (w : World) (b n : Nat) (D : DataW Unit) : Prop := w.ownsMap Try.prog 33 (unitElem (H := Unit)) b n D
theorem vm_under {w w' : World} {b n B : Nat} {D : DataW Unit} (h : VM w b n D) (hb : Below B w w') (hlt : b < B) : VM w' b n D := by
  obtain ⟨es, clock, h1, r⟩ := h
  exact ⟨es, clock, by rw [hb.block b hlt]; exact h1, r⟩
theorem vm_later {w w' : World} {b n : Nat} {D : DataW Unit} (h : VM w b n D) (hb : Below w.heap.size w w') : VM w' b n D := vm_under h hb h.lt
/-- A map of first voices. -/
def FvP (D : DataW Unit) (L : List Vo) : Prop := ∀ (i : Nat) (y : Bool), i < 18446744073709551616 → Maps.has D (kvo i y) = decide (vcF i L = if y then 1 else 2)
theorem vcF_le (i : Nat) (L : List Vo) : vcF i L ≤ 2 := by
  induction L with
  | nil => simp [vcF]
  | cons x r ih =>
    unfold vcF
    split
    · split <;> omega
    · exact ih
set_option maxRecDepth 100000 in
set_option maxHeartbeats 4000000 in
theorem voted_any (q b n i : Nat) (D : DataW Unit) (L : List Vo) (hi : i < 18446744073709551616) (w : World) (hown : VM w b n D) (hq : w.cell? ⟨q, 0, none⟩ = some (.map (some b))) (hql : q < w.heap.size) (hD : FvP D L) :
    Calls Try.prog 31 #[.int .u64 i, .pointer (some ⟨q, 0, none⟩)] w fun e w' => e = .returned (.bool (decide (vcF i L ≠ 0))) ∧ Below w.heap.size w w' := by
  have h1 := hD i true hi
  have h2 := hD i false hi
  simp only [↓reduceIte, Bool.false_eq_true] at h1 h2
  have k1 := keyVo i true hi
  have k2 := keyVo i false hi
  have hle := vcF_le i L
  obtain ⟨c, hc⟩ : ∃ c, vcF i L = c := ⟨_, rfl⟩
  rw [hc] at h1 h2 hle ⊢
  have hq2 := (show Below w.heap.size w (w.alloc (.cells #[] 61)) by go_grown).cell (p := ⟨q, 0, none⟩) hql
  rw [hq] at hq2
  have HW := Lib.hid hown
  clear hD hc
  have h3 : c = 0 ∨ c = 1 ∨ c = 2 := by omega
  rcases h3 with rfl | rfl | rfl
  all_goals
    simp at h1 h2
    have HH1 := Lib.hid h1
    have HH2 := Lib.hid h2
    clear h1 h2
    go_enter Try.func31, Try.ntmps31
    go_wp2_with (first
      | (at_lookup; refine wpList_lookup_own_unit _ rfl _ _ 59 rfl 33 61 keyedVo Try.underlying59 (zeroUnit _) b n _ rfl HW.out _ _ rfl k1 ?_; rw [HH1.out])
      | (at_lookup; refine wpList_lookup_own_unit _ rfl _ _ 59 rfl 33 61 keyedVo Try.underlying59 (zeroUnit _) b n _ rfl (HW.out.alloc _) _ _ rfl k2 ?_; rw [HH2.out])
      | go_in)
    go_ret
    exact ⟨by first | rfl | simp, by go_grown⟩
end Go.Proofs.Ytmcmanjniloeaaa
