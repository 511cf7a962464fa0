/- A list without a number: the program's without; the document's less and put. -/
import Derived.Test.YtmnakfonfpdneaaDoorHi
namespace Go.Proofs.YtmnakfonfpdneaaDoor
open Go.RowKit Go.Shelf Go.Lib Go.Sort

/-- A list without a number. -/
def lessN (id : Nat) (L : List Nat) : List Nat := L.filter fun x => !decide (x = id)
theorem gives_any (id x h : Nat) (W : World) (hc : W.cell? ⟨h, 0, none⟩ = some (.int .u64 id)) :
    FnGives Tryd.prog 67 #[.pointer (some ⟨h, 0, none⟩)] #[enc64 x] (.bool (decide (x = id))) W := by
  show Calls Tryd.prog 67 #[.int .u64 (x : Nat), .pointer (some ⟨h, 0, none⟩)] W _
  by_cases he : x = id
  · subst he
    go_enter Tryd.func67, Tryd.ntmps67
    go_wp2_with fail
    go_ret
    exact ⟨by simp, 0, rfl⟩
  · have g : ((x : Int) == (id : Int)) = false := by simp; omega
    rw [decide_eq_false he]
    go_enter Tryd.func67, Tryd.ntmps67
    go_wp2_with fail
    go_ret
    exact ⟨by simp, 0, rfl⟩
set_option maxHeartbeats 1000000 in
theorem indexF0_any (c : Nat) (a : Option Addr) (fv : Value) (w : World) :
    Calls Tryd.prog 42 #[.slice a 0 c, fv] w fun e w' => e = .returned (.int .i64 (-1)) ∧ w = w' := by
  go_enter Tryd.func42, Tryd.ntmps42
  go_wp2_with fail
  refine wp_loop_rounds 1 ?_
  rw [rounds_succ]
  go_wp2_with fail
  go_ret
  exact ⟨rfl, rfl⟩
set_option maxHeartbeats 1000000 in
theorem delete0_any (c : Nat) (a : Option Addr) (fv : Value) (w : World) :
    Calls Tryd.prog 66 #[.slice a 0 c, fv] w fun e w' => e = .returned (.slice a 0 c) ∧ w = w' := by
  go_enter Tryd.func66, Tryd.ntmps66
  go_wp2_with fail
  refine (indexF0_any c a fv _).mono ?_
  rintro e w2 ⟨rfl, rfl⟩
  go_wp2_with fail
  go_ret
  exact ⟨rfl, rfl⟩
set_option maxHeartbeats 1000000 in
theorem delete_any (B id h n c : Nat) (a : Option Addr) (L : List Nat) (hn : L.length = n) (hl : n ≤ 140737488351232) (w : World) (hO : CqU B w (.slice a n c) L) (hB : B ≤ w.heap.size) (hN : Nb w h id) (hfar : ∀ q, a = some q → 0 < n → q.block ≠ h) :
    Calls Tryd.prog 66 #[.slice a n c, .func (.func 67) #[] #[.pointer (some ⟨h, 0, none⟩)]] w (InP B w (lessN id L)) := by
  have hnil : n = 0 → Calls Tryd.prog 66 #[.slice a n c, .func (.func 67) #[] #[.pointer (some ⟨h, 0, none⟩)]] w (InP B w (lessN id L)) := fun h0 => by
    subst h0
    obtain rfl : L = [] := List.length_eq_zero_iff.1 hn
    refine (delete0_any c a _ w).mono ?_
    rintro e w' ⟨rfl, rfl⟩
    exact ⟨a, c, rfl, Us.nil _ _, fun h => absurd h (Nat.not_lt_zero _), Below.refl _ _⟩
  rcases hO with ⟨h0, _⟩ | hO
  · exact hnil (by rw [← hn, h0]; rfl)
  rcases hO.2 with ⟨_, h0⟩ | ⟨g, cap, cur, e0, hBg, hg, h1, h2, h3, _⟩
  · exact hnil (by omega)
  injection e0 with ea en ec
  subst ea ec
  have hg' : g < w.heap.size := lt_of_row hg
  by_cases h0 : n = 0
  · exact hnil h0
  have hgh : h ≠ g := fun e => hfar _ rfl (by omega) e.symm
  rw [hn] at hO
  have eg : ∀ args w, (callFunc 67 args).run Tryd.prog w = .ok (.enter 67 args) w := enters_of Tryd.func67 (by kernel_rfl) rfl
  have hH : Holds enc64 w g 0 L.toArray := fun j hj => by
    have hj' : j < L.length := by simpa using hj
    refine ⟨?_, by simpa using hO.frozenAt (0 + j)⟩
    have h1 := hO.cellAt j (by omega)
    rw [Nat.zero_add, h1, usCells_at L j L[j] (List.getElem?_eq_getElem hj')]
    rw [getElem!_pos L.toArray j (by simpa using hj')]
    simp [enc64]
  have hD := AnyE.slices_DeleteFunc Tryd.delU enc64 (fun _ => rfl) (fun x => decide (x = id)) 67 #[.pointer (some ⟨h, 0, none⟩)] eg 0 Tryd.zeroValue38 g 0 c L.toArray w
    (fun W x hb => gives_any id x h W ((hb.cell (p := ⟨h, 0, none⟩) hN.lt).trans hN.c))
    (fun m os dk x _ => gives_any id x h _ (by
      unfold sortWorld
      rw [cell?_grow _ _ _ (by show h < (putRow _ _ _ _ _).heap.size; rw [size_putRow]; exact hN.lt), cell?_putRow_other _ _ g 0 _ _ (Or.inl hgh)]
      exact hN.c)) hH (by simp; omega) (by simp; omega)
  change Calls Tryd.prog 66 _ _ _ at hD
  rw [show L.toArray.size = n by simpa using hn] at hD
  refine hD.mono ?_
  rintro e w' ⟨rfl, q, hw⟩
  have hle : (lessN id L).length ≤ n := by rw [← hn]; exact List.length_filter_le _ _
  have hw2 : w' = putRow enc64 (Sort.ahead w q) g 0 (lessN id L ++ List.replicate (n - (lessN id L).length) 0).toArray := hw
  refine ⟨some ⟨g, 0, none⟩, c, rfl, fun j x hx => ⟨g, 0, rfl, ?_, ?_⟩, fun _ q e => by cases e; exact hBg, ?_⟩
  · rw [hw2, size_putRow]; exact hg'
  · have hj := (List.getElem?_eq_some_iff.1 hx).1
    have hh := holds_putRow enc64 (Sort.ahead w q) g 0 L.toArray (lessN id L ++ List.replicate (n - (lessN id L).length) 0).toArray (holds_ahead _ _ _ _ _ _ hH) (by simp; omega)
    have h1 := (hh j (by simp; omega)).1
    rw [hw2, h1, getElem!_pos _ j (by simp; omega)]
    obtain ⟨_, h2⟩ := List.getElem?_eq_some_iff.1 hx
    simp [enc64, List.getElem_append_left hj, h2]
  · refine (Below.refl B w).grown (row := some g) ?_ hB (fun k e => by cases e; exact hBg)
    rw [hw2]
    refine ⟨rfl, rfl, rfl, by simp, fun k hk hne => ?_⟩
    have hgk : g ≠ k := fun e => hne (by rw [e])
    simp [putRow, mapBlock, Sort.ahead, Array.getElem?_modify, hgk]
set_option maxHeartbeats 1000000 in
theorem without_any (id n c : Nat) (a : Option Addr) (L : List Nat) (hn : L.length = n) (hl : n * 8 ≤ 140737488351232) (w : World) (hU : Us w a L) :
    Calls Tryd.prog 49 #[.slice a n c, .int .u64 id] w (WiP w (lessN id L)) := by
  have B0 := Lib.hid (show Below w.heap.size w (w.alloc (.cells #[.int .u64 id] 38)) from (Below.refl _ _).alloc (Nat.le_refl _) _)
  have N0 := Lib.hid (Nb.new (w := w) rfl id 38)
  have HU := Lib.hid (hU.later B0.out)
  have HN := Lib.hid hn
  have HL := Lib.hid hl
  clear hU hn hl
  go_enter Tryd.func49, Tryd.ntmps49
  go_wp2_with fail
  refine (cloneU_any n c a L HN.out (by have := HL.out; omega) _ HU.out).mono ?_
  rintro e w1 ⟨v1, rfl, hc1, hb1⟩
  obtain ⟨a1, c1, rfl, _, hf, _⟩ := hc1.form
  have HC := Lib.hid hc1
  have HF1 := Lib.hid hf
  have HB := Lib.hid hb1
  have N1 := Lib.hid (N0.out.later hb1)
  clear hc1 hb1 hf
  rw [HN.out] at HC HF1 ⊢
  go_wp2_with fail
  refine (delete_any (w.heap.size + 1) id w.heap.size n c1 a1 L HN.out (by have := HL.out; omega) w1 (by have h := HC.out; simpa using h) (by have := HB.out.size; simpa using this) N1.out (fun q e h0 => by have := HF1.out h0 q e; simp at this; omega)).mono ?_
  rintro e w3 ⟨a3, c3, rfl, hU3, hf3, hb3⟩
  have HF := Lib.hid (show WiP w (lessN id L) (.returned (.slice a3 (lessN id L).length c3)) w3 from ⟨a3, c3, rfl, hU3, fun h q e => Nat.le_of_succ_le (hf3 h q e), (B0.out.trans ((HB.out.trans (hb3.mono (by simp))).mono B0.out.size))⟩)
  clear hU3 hb3 hf3
  generalize (Value.slice a3 (lessN id L).length c3) = R at *
  go_wp2_with fail
  go_ret
  exact HF.out
end Go.Proofs.YtmnakfonfpdneaaDoor
