/- Layer 3: Crash: whatever tape there is. -/
import Derived.Test.YtifldjbpomnfaaaTr
namespace Go.Proofs.Ytifldjbpomnfaaa
open Go.RowKit

set_option maxHeartbeats 4000000 in
theorem crash_z1 (a b : ByteArray) (p n : Int) (o : Bool) (w : World) (hs : a.size + b.size ≤ 1125899906842624) (h0 : ¬ 0 < n) : Calls Try.prog 17 #[.agg #[.string a, .string b, .int .i64 p, .bool o], .int .i64 n] w fun e w' =>
    e = .returned (.agg #[.string (a), .string ByteArray.empty, .int .i64 (-1), .bool false]) ∧ Below w.heap.size w w' := by
  have hb : ¬ (b.size : Int) < n := by omega
  have hy3 : ¬ 9223372036854775807 < a.size := by omega
  · go_enter Try.func17, Try.ntmps17
    go_wp2_with fail
    generalize hW : ((w.alloc (.cells #[.string a, .string b, .int .i64 p, .bool o] 23)).alloc (.cells #[.string ⟨#[]⟩, .string ⟨#[]⟩, .int .i64 0, .bool false] 23)) = W
    have c0 : W.cell? ⟨w.heap.size, 0, none⟩ = some (.string a) := by subst hW; simp [go_sem]
    have c1 : W.cell? ⟨w.heap.size, 1, none⟩ = some (.string b) := by subst hW; simp [go_sem]
    have c2 : W.cell? ⟨w.heap.size, 2, none⟩ = some (.int .i64 p) := by subst hW; simp [go_sem]
    have c3 : W.cell? ⟨w.heap.size, 3, none⟩ = some (.bool o) := by subst hW; simp [go_sem]
    have d0 : W.cell? ⟨w.heap.size + 1, 0, none⟩ = some (.string ⟨#[]⟩) := by subst hW; simp [go_sem]
    have d1 : W.cell? ⟨w.heap.size + 1, 1, none⟩ = some (.string ⟨#[]⟩) := by subst hW; simp [go_sem]
    have d2 : W.cell? ⟨w.heap.size + 1, 2, none⟩ = some (.int .i64 0) := by subst hW; simp [go_sem]
    have d3 : W.cell? ⟨w.heap.size + 1, 3, none⟩ = some (.bool false) := by subst hW; simp [go_sem]
    have fz : ∀ i, W.frozen? ⟨w.heap.size + 1, i, none⟩ = false := by subst hW; intro i; simp [go_sem]
    have hz : w.heap.size + 1 < W.heap.size := by subst hW; simp
    have hB : Below w.heap.size w W := by subst hW; go_grown
    clear hW
    have hz0 : w.heap.size < W.heap.size := by omega
    have hne : W.heap.size ≠ w.heap.size := by omega
    go_region_held3 (fun w' => w'.cell? ⟨w.heap.size, 0, none⟩ = some (.string a) ∧ w'.cell? ⟨w.heap.size, 1, none⟩ = some (.string b) ∧ w'.cell? ⟨w.heap.size, 2, none⟩ = some (.int .i64 p) ∧ w'.cell? ⟨w.heap.size, 3, none⟩ = some (.bool o))
      (first | (with_reducible exact ⟨C0, C1, C2, C3⟩) | (with_reducible exact ⟨(four_far hne _ _ _ _ _).trans C0, (four_far hne _ _ _ _ _).trans C1, (four_far hne _ _ _ _ _).trans C2, (four_far hne _ _ _ _ _).trans C3⟩) | (with_reducible exact ⟨(World.cell?_alloc_past _ _ _ hz3).trans C0, (World.cell?_alloc_past _ _ _ hz3).trans C1, (World.cell?_alloc_past _ _ _ hz3).trans C2, (World.cell?_alloc_past _ _ _ hz3).trans C3⟩) | go_keep)
      (first | (go_at_call 25; refine (settled_any _ _ _ _ _ _).mono ?_; rintro e w1 ⟨rfl, hb1⟩; obtain ⟨hc1, hf1⟩ := bcell hb1; have hz1 : W.heap.size ≤ w1.heap.size := (by have := hb1.size; simp at this; omega); have hz2 : w.heap.size + 1 < w1.heap.size := (by omega); have hz3 : w.heap.size < w1.heap.size := (by omega); have C0 : w1.cell? ⟨w.heap.size, 0, none⟩ = some (.string a) := ((hc1 _ _ (by simp <;> omega)).trans (by simp [go_sem, hz0, c0])); have C1 : w1.cell? ⟨w.heap.size, 1, none⟩ = some (.string b) := ((hc1 _ _ (by simp <;> omega)).trans (by simp [go_sem, hz0, c1])); have C2 : w1.cell? ⟨w.heap.size, 2, none⟩ = some (.int .i64 p) := ((hc1 _ _ (by simp <;> omega)).trans (by simp [go_sem, hz0, c2])); have C3 : w1.cell? ⟨w.heap.size, 3, none⟩ = some (.bool o) := ((hc1 _ _ (by simp <;> omega)).trans (by simp [go_sem, hz0, c3])); have D0 : w1.cell? ⟨w.heap.size + 1, 0, none⟩ = some (.string ⟨#[]⟩) := ((hc1 _ _ (by simp <;> omega)).trans (by simp [go_sem, hz, d0])); have D1 : w1.cell? ⟨w.heap.size + 1, 1, none⟩ = some (.string ⟨#[]⟩) := ((hc1 _ _ (by simp <;> omega)).trans (by simp [go_sem, hz, d1])); have D2 : w1.cell? ⟨w.heap.size + 1, 2, none⟩ = some (.int .i64 0) := ((hc1 _ _ (by simp <;> omega)).trans (by simp [go_sem, hz, d2])); have D3 : w1.cell? ⟨w.heap.size + 1, 3, none⟩ = some (.bool false) := ((hc1 _ _ (by simp <;> omega)).trans (by simp [go_sem, hz, d3])); have FZ : ∀ i, w1.frozen? ⟨w.heap.size + 1, i, none⟩ = false := (fun i => (hf1 _ _ (by simp <;> omega)).trans (by simp [go_sem, hz, fz])); (try (have E0 : w1.cell? ⟨W.heap.size, 0, none⟩ = some (.string ⟨#[]⟩) := ((hc1 _ _ (by simp)).trans (by simp [go_sem])); have E1 : w1.cell? ⟨W.heap.size, 1, none⟩ = some (.string ⟨#[]⟩) := ((hc1 _ _ (by simp)).trans (by simp [go_sem])); have E2 : w1.cell? ⟨W.heap.size, 2, none⟩ = some (.int .i64 0) := ((hc1 _ _ (by simp)).trans (by simp [go_sem])); have E3 : w1.cell? ⟨W.heap.size, 3, none⟩ = some (.bool false) := ((hc1 _ _ (by simp)).trans (by simp [go_sem])); have EF : ∀ i, w1.frozen? ⟨W.heap.size, i, none⟩ = false := (fun i => (hf1 _ _ (by simp)).trans (by simp [go_sem])); have hz4 : W.heap.size < w1.heap.size := (by have := hb1.size; simp at this; omega))); clear hc1 hf1))
    · clear hne hz0 fz d0 d1 d2 d3 c0 c1 c2 c3 C0 C1 C2 C3
      go_wp2_with fail
      refine bodyPost_ret (v := .agg #[.string (a), .string ByteArray.empty, .int .i64 (-1), .bool false]) (by simp [results, Try.results17, go_sem, D0, D1, D2, D3, hz2]) rfl ⟨rfl, ?_⟩
      exact (set4_below (hB.drew.trans (hb1.mono (by simp; omega))) (x := w.heap.size + 1) (by omega)).alloc (by rw [set4_size]; omega) _
    · have hne2 : W.heap.size ≠ w.heap.size + 1 := by omega
      obtain ⟨V, hV⟩ : ∃ V, V = set4 w1 W.heap.size (.string (a)) (.string ByteArray.empty) (.int .i64 p) (.bool o) := ⟨_, rfl⟩
      change Exit.then _ _ _ _ (set4 w1 W.heap.size _ _ _ _)
      rw [← hV]
      obtain ⟨G0, G1, G2, G3⟩ := set4_at (v0 := .string (a)) (v1 := .string ByteArray.empty) (v2 := .int .i64 p) (v3 := .bool o) E0 E1 E2 E3
      rw [← hV] at G0 G1 G2 G3
      have F0 : V.cell? ⟨w.heap.size + 1, 0, none⟩ = some (.string ⟨#[]⟩) := by rw [hV]; exact (set4_far hne2 _ _ _ _ _).trans D0
      have F1 : V.cell? ⟨w.heap.size + 1, 1, none⟩ = some (.string ⟨#[]⟩) := by rw [hV]; exact (set4_far hne2 _ _ _ _ _).trans D1
      have F2 : V.cell? ⟨w.heap.size + 1, 2, none⟩ = some (.int .i64 0) := by rw [hV]; exact (set4_far hne2 _ _ _ _ _).trans D2
      have F3 : V.cell? ⟨w.heap.size + 1, 3, none⟩ = some (.bool false) := by rw [hV]; exact (set4_far hne2 _ _ _ _ _).trans D3
      have FZ2 : ∀ i, V.frozen? ⟨w.heap.size + 1, i, none⟩ = false := fun i => by rw [hV, set4_frozen]; exact FZ i
      have EF2 : ∀ i, V.frozen? ⟨W.heap.size, i, none⟩ = false := fun i => by rw [hV, set4_frozen]; exact EF i
      have hVb : Below w.heap.size w V := by rw [hV]; exact set4_below (hB.drew.trans (((Below.refl _ W.drew).alloc (by simp; omega) _).trans (hb1.mono (by simp; omega)))) (by omega)
      have hV1 : W.heap.size < V.heap.size := by rw [hV, set4_size]; exact hz4
      clear hV hne hz0 fz FZ EF d0 d1 d2 d3 c0 c1 c2 c3 C0 C1 C2 C3 D0 D1 D2 D3 E0 E1 E2 E3
      go_wp2_with fail
      refine bodyPost_ret (v := .agg #[.string (a), .string ByteArray.empty, .int .i64 (-1), .bool false]) (by simp [results, Try.results17, go_sem, World.cell?_setCell_far, F0, F1, F2, F3, hne2]) rfl ⟨rfl, ?_⟩
      exact set4_below ((hVb.setCell (by show w.heap.size ≤ W.heap.size; omega) _).setCell (by show w.heap.size ≤ W.heap.size; omega) _) (x := w.heap.size + 1) (by omega)
end Go.Proofs.Ytifldjbpomnfaaa
