/- The document's Answer; and the example at the head of all statements. -/
import Derived.Test.YtmcmanjniloeaaaWb
namespace Go.Proofs.Ytmcmanjniloeaaa
open Go.RowKit

set_option maxRecDepth 100000 in
set_option maxHeartbeats 4000000 in
theorem ras_n (t v lt li : Nat) (h : Bool) (at' fr alt ali : Nat) (w : World) (hn : newB alt ali lt li = false) :
    Calls Try.prog 10 #[v5 t v lt li h, v5 at' fr alt ali true] w (AnP w (ansS ⟨t, v, lt, li, h⟩ ⟨at', fr, alt, ali, true⟩)) := by
  have hf : ∀ w', Below w.heap.size w w' → AnP w (ansS ⟨t, v, lt, li, h⟩ ⟨at', fr, alt, ali, true⟩) (.returned (.tuple #[v5 t v lt li h, .bool false])) w' := fun w' hb => by
    have e : ansS ⟨t, v, lt, li, h⟩ ⟨at', fr, alt, ali, true⟩ = (⟨t, v, lt, li, h⟩, false) := by simp [ansS, hn]
    rw [e]; exact ⟨rfl, hb⟩
  have HF := Lib.hid hf
  clear hf
  have HN := Lib.hid hn
  clear hn
  have HS := Lib.hid (Bx.start w t v lt li h at' fr alt ali true 24 26)
  go_enter Try.func10, Try.ntmps10
  go_wp2_with fail
  refine (rNewer_any alt ali lt li _).mono ?_
  rintro e w9 ⟨rfl, rfl⟩
  rw [HN.out]
  go_wp2_with fail
  generalize (((w.alloc (.cells #[.int .u64 t, .int .u64 v, .int .u64 lt, .int .u64 li, .bool h] 24)).alloc (.cells #[.int .u64 at', .int .u64 fr, .int .u64 alt, .int .u64 ali, .bool true] 26)).alloc (.cells #[.int .u64 0, .int .u64 0, .int .u64 0, .int .u64 0, .bool false] 24)) = W at *
  obtain ⟨s0, s1, s2, s3, s4, sz, sl⟩ := HS.out.s
  obtain ⟨a0, a1, a2, a3, a4, az, al⟩ := HS.out.a
  obtain ⟨r0, r1, r2, r3, r4, rz, rl⟩ := HS.out.r
  have K1 : B5 W.drew w.heap.size t v lt li h ∧ B5 W.drew (w.heap.size + 1) at' fr alt ali true := ⟨HS.out.s.drew, HS.out.a.drew⟩
  refine wp_region_held_drew (S := fun w' => B5 w' w.heap.size t v lt li h ∧ B5 w' (w.heap.size + 1) at' fr alt ali true) (by kernel_rfl) K1 (fun hHeld => ?_)
  refine wpAnyH_take (i := 0) (v := ?_) rfl (by kernel_rfl) (by kernel_rfl) (by kernel_rfl) (fun _ _ _ h => h) (Or.inl ⟨by rfl, ?hy0⟩) (by assumption) ?_
  case hy0 => (intro w0 hSw; obtain ⟨⟨q0, q1, q2, q3, q4, _, _⟩, ⟨p0, p1, p2, p3, p4, _, _⟩⟩ := hSw; go_simp; (try with_reducible rfl))
  try simp only [List.getElem_toArray, List.getElem_cons_zero, Act.put, List.setIfInBounds_toArray, List.set_cons_zero, List.set_cons_succ]
  refine wpAnyH_take (i := 1) (v := ?_) rfl (by kernel_rfl) (by kernel_rfl) (by kernel_rfl) (fun _ _ _ h => h) (Or.inl ⟨by rfl, ?hy1⟩) (by assumption) ?_
  case hy1 => (intro w0 hSw; obtain ⟨⟨q0, q1, q2, q3, q4, _, _⟩, ⟨p0, p1, p2, p3, p4, _, _⟩⟩ := hSw; go_simp; (try with_reducible rfl))
  try simp only [List.getElem_toArray, List.getElem_cons_succ, List.getElem_cons_zero, Act.put, List.setIfInBounds_toArray, List.set_cons_zero, List.set_cons_succ]
  refine wpAnyH_take (i := 2) (v := ?_) rfl (by kernel_rfl) (by kernel_rfl) (by kernel_rfl) (fun _ _ _ h => h) (Or.inl ⟨by rfl, ?hy2⟩) (by assumption) ?_
  case hy2 => (intro w0 hSw; obtain ⟨⟨q0, q1, q2, q3, q4, _, _⟩, ⟨p0, p1, p2, p3, p4, _, _⟩⟩ := hSw; go_simp; (try with_reducible rfl))
  try simp only [List.getElem_toArray, List.getElem_cons_succ, List.getElem_cons_zero, Act.put, List.setIfInBounds_toArray, List.set_cons_zero, List.set_cons_succ]
  refine wpAnyH_take (i := 3) (v := undef) rfl (by kernel_rfl) (by kernel_rfl) (by kernel_rfl) (fun _ _ _ h => h) (Or.inr ⟨by rfl, rfl⟩) (by assumption) ?_
  try simp only [List.getElem_toArray, List.getElem_cons_succ, List.getElem_cons_zero, Act.put, List.setIfInBounds_toArray, List.set_cons_zero, List.set_cons_succ]
  refine wpAnyH_take (i := 4) (v := undef) rfl (by kernel_rfl) (by kernel_rfl) (by kernel_rfl) (fun _ _ _ h => h) (Or.inr ⟨by rfl, rfl⟩) (by assumption) ?_
  try simp only [List.getElem_toArray, List.getElem_cons_succ, List.getElem_cons_zero, Act.put, List.setIfInBounds_toArray, List.set_cons_zero, List.set_cons_succ]
  refine wpAnyH_take (i := 5) (v := undef) rfl (by kernel_rfl) (by kernel_rfl) (by kernel_rfl) (fun _ _ _ h => h) (Or.inr ⟨by rfl, rfl⟩) (by assumption) ?_
  try simp only [List.getElem_toArray, List.getElem_cons_succ, List.getElem_cons_zero, Act.put, List.setIfInBounds_toArray, List.set_cons_zero, List.set_cons_succ]
  refine wpAnyH_take (i := 6) (v := ?_) rfl (by kernel_rfl) (by kernel_rfl) (by kernel_rfl) (fun _ _ _ h => h) (Or.inl ⟨by rfl, ?hy6⟩) (by assumption) ?_
  case hy6 => (intro w0 hSw; obtain ⟨⟨q0, q1, q2, q3, q4, _, _⟩, ⟨p0, p1, p2, p3, p4, _, _⟩⟩ := hSw; go_simp; (try with_reducible rfl))
  try simp only [List.getElem_toArray, List.getElem_cons_succ, List.getElem_cons_zero, Act.put, List.setIfInBounds_toArray, List.set_cons_zero, List.set_cons_succ]
  refine wpAnyH_take (i := 7) (v := ?_) rfl (by kernel_rfl) (by kernel_rfl) (by kernel_rfl) (fun _ _ _ h => h) (Or.inl ⟨by rfl, ?hy7⟩) (by assumption) ?_
  case hy7 => (intro w0 hSw; obtain ⟨⟨q0, q1, q2, q3, q4, _, _⟩, ⟨p0, p1, p2, p3, p4, _, _⟩⟩ := hSw; go_simp; (try with_reducible rfl))
  try simp only [List.getElem_toArray, List.getElem_cons_succ, List.getElem_cons_zero, Act.put, List.setIfInBounds_toArray, List.set_cons_zero, List.set_cons_succ]
  refine wpAnyH_take (i := 8) (v := undef) rfl (by kernel_rfl) (by kernel_rfl) (by kernel_rfl) (fun _ _ _ h => h) (Or.inr ⟨by rfl, rfl⟩) (by assumption) ?_
  try simp only [List.getElem_toArray, List.getElem_cons_succ, List.getElem_cons_zero, Act.put, List.setIfInBounds_toArray, List.set_cons_zero, List.set_cons_succ]
  refine wpAnyH_take (i := 9) (v := undef) rfl (by kernel_rfl) (by kernel_rfl) (by kernel_rfl) (fun _ _ _ h => h) (Or.inr ⟨by rfl, rfl⟩) (by assumption) ?_
  try simp only [List.getElem_toArray, List.getElem_cons_succ, List.getElem_cons_zero, Act.put, List.setIfInBounds_toArray, List.set_cons_zero, List.set_cons_succ]
  refine wpAnyH_take (i := 10) (v := undef) rfl (by kernel_rfl) (by kernel_rfl) (by kernel_rfl) (fun _ _ _ h => h) (Or.inr ⟨by rfl, rfl⟩) (by assumption) ?_
  try simp only [List.getElem_toArray, List.getElem_cons_succ, List.getElem_cons_zero, Act.put, List.setIfInBounds_toArray, List.set_cons_zero, List.set_cons_succ]
  refine wpAnyH_take (i := 11) (v := undef) rfl (by kernel_rfl) (by kernel_rfl) (by kernel_rfl) (fun _ _ _ h => h) (Or.inr ⟨by rfl, rfl⟩) (by assumption) ?_
  try simp only [List.getElem_toArray, List.getElem_cons_succ, List.getElem_cons_zero, Act.put, List.setIfInBounds_toArray, List.set_cons_zero, List.set_cons_succ]
  refine wpAnyH_take (i := 12) (v := undef) rfl (by kernel_rfl) (by kernel_rfl) (by kernel_rfl) (fun _ _ _ h => h) (Or.inr ⟨by rfl, rfl⟩) (by assumption) ?_
  try simp only [List.getElem_toArray, List.getElem_cons_succ, List.getElem_cons_zero, Act.put, List.setIfInBounds_toArray, List.set_cons_zero, List.set_cons_succ]
  refine wpAnyH_take (i := 13) (v := ?_) rfl (by kernel_rfl) (by kernel_rfl) (by kernel_rfl) (fun _ _ _ h => h) (Or.inl ⟨by rfl, ?hy13⟩) (by assumption) ?_
  case hy13 => (intro w0 hSw; obtain ⟨⟨q0, q1, q2, q3, q4, _, _⟩, ⟨p0, p1, p2, p3, p4, _, _⟩⟩ := hSw; go_simp; (try with_reducible rfl))
  try simp only [List.getElem_toArray, List.getElem_cons_succ, List.getElem_cons_zero, Act.put, List.setIfInBounds_toArray, List.set_cons_zero, List.set_cons_succ]
  refine wpAnyH_ready (rs := [14]) (by kernel_rfl) (by simp) ?_
  refine AllReadyH.cons rfl (fun K hK => ?_) AllReadyH.nil
  go_simp
  go_wp2_with fail
  refine hK.out _ _ ⟨((HS.out.s.far5 (y := w.heap.size + 1 + 1) (by omega) _ _ _ _ _).drew), ((HS.out.a.far5 (y := w.heap.size + 1 + 1) (by omega) _ _ _ _ _).drew)⟩ (fun hHeld2 => ?_)
  clear hK
  try simp only [List.getElem_toArray, List.getElem_cons_succ, List.getElem_cons_zero, Act.put, List.setIfInBounds_toArray, List.set_cons_zero, List.set_cons_succ]
  refine wpAnyH_take (i := 15) (v := ?_) rfl (by kernel_rfl) (by kernel_rfl) (by kernel_rfl) (fun _ _ _ h => h) (Or.inl ⟨by rfl, ?hy15⟩) (by assumption) ?_
  case hy15 => (intro w0 hSw; obtain ⟨⟨q0, q1, q2, q3, q4, _, _⟩, ⟨p0, p1, p2, p3, p4, _, _⟩⟩ := hSw; go_simp; (try with_reducible rfl))
  try simp only [List.getElem_toArray, List.getElem_cons_succ, List.getElem_cons_zero, Act.put, List.setIfInBounds_toArray, List.set_cons_zero, List.set_cons_succ]
  refine wpAnyH_done (by kernel_rfl) ?_ _
  go_wp2_with fail
  refine bodyPost_ret (v := .tuple #[v5 t v lt li h, .bool false]) (by simp [results, Try.results10, go_sem, r0, r1, r2, r3, r4]) rfl ?_
  exact HF.out _ ((below_set5 HS.out.b (by omega)).drew)
set_option maxRecDepth 100000 in
set_option maxHeartbeats 4000000 in
theorem ras_h (t v lt li : Nat) (at' fr alt ali : Nat) (w : World) (hn : newB alt ali lt li = true) :
    Calls Try.prog 10 #[v5 t v lt li true, v5 at' fr alt ali true] w (AnP w (ansS ⟨t, v, lt, li, true⟩ ⟨at', fr, alt, ali, true⟩)) := by
  have hf : ∀ w', Below w.heap.size w w' → AnP w (ansS ⟨t, v, lt, li, true⟩ ⟨at', fr, alt, ali, true⟩) (.returned (.tuple #[v5 t v lt li true, .bool false])) w' := fun w' hb => by
    have e : ansS ⟨t, v, lt, li, true⟩ ⟨at', fr, alt, ali, true⟩ = (⟨t, v, lt, li, true⟩, false) := by simp [ansS, hn]
    rw [e]; exact ⟨rfl, hb⟩
  have HF := Lib.hid hf
  clear hf
  have HN := Lib.hid hn
  clear hn
  have HS := Lib.hid (Bx.start w t v lt li true at' fr alt ali true 24 26)
  go_enter Try.func10, Try.ntmps10
  go_wp2_with fail
  refine (rNewer_any alt ali lt li _).mono ?_
  rintro e w9 ⟨rfl, rfl⟩
  rw [HN.out]
  go_wp2_with fail
  generalize (((w.alloc (.cells #[.int .u64 t, .int .u64 v, .int .u64 lt, .int .u64 li, .bool true] 24)).alloc (.cells #[.int .u64 at', .int .u64 fr, .int .u64 alt, .int .u64 ali, .bool true] 26)).alloc (.cells #[.int .u64 0, .int .u64 0, .int .u64 0, .int .u64 0, .bool false] 24)) = W at *
  obtain ⟨s0, s1, s2, s3, s4, sz, sl⟩ := HS.out.s
  obtain ⟨a0, a1, a2, a3, a4, az, al⟩ := HS.out.a
  obtain ⟨r0, r1, r2, r3, r4, rz, rl⟩ := HS.out.r
  have K1 : B5 W.drew w.heap.size t v lt li true ∧ B5 W.drew (w.heap.size + 1) at' fr alt ali true := ⟨HS.out.s.drew, HS.out.a.drew⟩
  refine wp_region_held_drew (S := fun w' => B5 w' w.heap.size t v lt li true ∧ B5 w' (w.heap.size + 1) at' fr alt ali true) (by kernel_rfl) K1 (fun hHeld => ?_)
  refine wpAnyH_take (i := 0) (v := ?_) rfl (by kernel_rfl) (by kernel_rfl) (by kernel_rfl) (fun _ _ _ h => h) (Or.inl ⟨by rfl, ?hy0⟩) (by assumption) ?_
  case hy0 => (intro w0 hSw; obtain ⟨⟨q0, q1, q2, q3, q4, _, _⟩, ⟨p0, p1, p2, p3, p4, _, _⟩⟩ := hSw; go_simp; (try with_reducible rfl))
  try simp only [List.getElem_toArray, List.getElem_cons_zero, Act.put, List.setIfInBounds_toArray, List.set_cons_zero, List.set_cons_succ]
  refine wpAnyH_take (i := 1) (v := ?_) rfl (by kernel_rfl) (by kernel_rfl) (by kernel_rfl) (fun _ _ _ h => h) (Or.inl ⟨by rfl, ?hy1⟩) (by assumption) ?_
  case hy1 => (intro w0 hSw; obtain ⟨⟨q0, q1, q2, q3, q4, _, _⟩, ⟨p0, p1, p2, p3, p4, _, _⟩⟩ := hSw; go_simp; (try with_reducible rfl))
  try simp only [List.getElem_toArray, List.getElem_cons_succ, List.getElem_cons_zero, Act.put, List.setIfInBounds_toArray, List.set_cons_zero, List.set_cons_succ]
  refine wpAnyH_take (i := 2) (v := ?_) rfl (by kernel_rfl) (by kernel_rfl) (by kernel_rfl) (fun _ _ _ h => h) (Or.inl ⟨by rfl, ?hy2⟩) (by assumption) ?_
  case hy2 => (intro w0 hSw; obtain ⟨⟨q0, q1, q2, q3, q4, _, _⟩, ⟨p0, p1, p2, p3, p4, _, _⟩⟩ := hSw; go_simp; (try with_reducible rfl))
  try simp only [List.getElem_toArray, List.getElem_cons_succ, List.getElem_cons_zero, Act.put, List.setIfInBounds_toArray, List.set_cons_zero, List.set_cons_succ]
  refine wpAnyH_take (i := 3) (v := ?_) rfl (by kernel_rfl) (by kernel_rfl) (by kernel_rfl) (fun _ _ _ h => h) (Or.inl ⟨by rfl, ?hy3⟩) (by assumption) ?_
  case hy3 => (intro w0 hSw; obtain ⟨⟨q0, q1, q2, q3, q4, _, _⟩, ⟨p0, p1, p2, p3, p4, _, _⟩⟩ := hSw; go_simp; (try with_reducible rfl))
  try simp only [List.getElem_toArray, List.getElem_cons_succ, List.getElem_cons_zero, Act.put, List.setIfInBounds_toArray, List.set_cons_zero, List.set_cons_succ]
  refine wpAnyH_take (i := 4) (v := ?_) rfl (by kernel_rfl) (by kernel_rfl) (by kernel_rfl) (fun _ _ _ h => h) (Or.inl ⟨by rfl, ?hy4⟩) (by assumption) ?_
  case hy4 => (intro w0 hSw; obtain ⟨⟨q0, q1, q2, q3, q4, _, _⟩, ⟨p0, p1, p2, p3, p4, _, _⟩⟩ := hSw; go_simp; (try with_reducible rfl))
  try simp only [List.getElem_toArray, List.getElem_cons_succ, List.getElem_cons_zero, Act.put, List.setIfInBounds_toArray, List.set_cons_zero, List.set_cons_succ]
  refine wpAnyH_take (i := 5) (v := ?_) rfl (by kernel_rfl) (by kernel_rfl) (by kernel_rfl) (fun _ _ _ h => h) (Or.inl ⟨by rfl, ?hy5⟩) (by assumption) ?_
  case hy5 => (intro w0 hSw; obtain ⟨⟨q0, q1, q2, q3, q4, _, _⟩, ⟨p0, p1, p2, p3, p4, _, _⟩⟩ := hSw; go_simp; (try with_reducible rfl))
  try simp only [List.getElem_toArray, List.getElem_cons_succ, List.getElem_cons_zero, Act.put, List.setIfInBounds_toArray, List.set_cons_zero, List.set_cons_succ]
  refine wpAnyH_take (i := 6) (v := ?_) rfl (by kernel_rfl) (by kernel_rfl) (by kernel_rfl) (fun _ _ _ h => h) (Or.inl ⟨by rfl, ?hy6⟩) (by assumption) ?_
  case hy6 => (intro w0 hSw; obtain ⟨⟨q0, q1, q2, q3, q4, _, _⟩, ⟨p0, p1, p2, p3, p4, _, _⟩⟩ := hSw; go_simp; (try with_reducible rfl))
  try simp only [List.getElem_toArray, List.getElem_cons_succ, List.getElem_cons_zero, Act.put, List.setIfInBounds_toArray, List.set_cons_zero, List.set_cons_succ]
  refine wpAnyH_take (i := 7) (v := ?_) rfl (by kernel_rfl) (by kernel_rfl) (by kernel_rfl) (fun _ _ _ h => h) (Or.inl ⟨by rfl, ?hy7⟩) (by assumption) ?_
  case hy7 => (intro w0 hSw; obtain ⟨⟨q0, q1, q2, q3, q4, _, _⟩, ⟨p0, p1, p2, p3, p4, _, _⟩⟩ := hSw; go_simp; (try with_reducible rfl))
  try simp only [List.getElem_toArray, List.getElem_cons_succ, List.getElem_cons_zero, Act.put, List.setIfInBounds_toArray, List.set_cons_zero, List.set_cons_succ]
  refine wpAnyH_take (i := 8) (v := undef) rfl (by kernel_rfl) (by kernel_rfl) (by kernel_rfl) (fun _ _ _ h => h) (Or.inr ⟨by rfl, rfl⟩) (by assumption) ?_
  try simp only [List.getElem_toArray, List.getElem_cons_succ, List.getElem_cons_zero, Act.put, List.setIfInBounds_toArray, List.set_cons_zero, List.set_cons_succ]
  refine wpAnyH_take (i := 9) (v := undef) rfl (by kernel_rfl) (by kernel_rfl) (by kernel_rfl) (fun _ _ _ h => h) (Or.inr ⟨by rfl, rfl⟩) (by assumption) ?_
  try simp only [List.getElem_toArray, List.getElem_cons_succ, List.getElem_cons_zero, Act.put, List.setIfInBounds_toArray, List.set_cons_zero, List.set_cons_succ]
  refine wpAnyH_take (i := 10) (v := undef) rfl (by kernel_rfl) (by kernel_rfl) (by kernel_rfl) (fun _ _ _ h => h) (Or.inr ⟨by rfl, rfl⟩) (by assumption) ?_
  try simp only [List.getElem_toArray, List.getElem_cons_succ, List.getElem_cons_zero, Act.put, List.setIfInBounds_toArray, List.set_cons_zero, List.set_cons_succ]
  refine wpAnyH_take (i := 11) (v := undef) rfl (by kernel_rfl) (by kernel_rfl) (by kernel_rfl) (fun _ _ _ h => h) (Or.inr ⟨by rfl, rfl⟩) (by assumption) ?_
  try simp only [List.getElem_toArray, List.getElem_cons_succ, List.getElem_cons_zero, Act.put, List.setIfInBounds_toArray, List.set_cons_zero, List.set_cons_succ]
  refine wpAnyH_take (i := 12) (v := undef) rfl (by kernel_rfl) (by kernel_rfl) (by kernel_rfl) (fun _ _ _ h => h) (Or.inr ⟨by rfl, rfl⟩) (by assumption) ?_
  try simp only [List.getElem_toArray, List.getElem_cons_succ, List.getElem_cons_zero, Act.put, List.setIfInBounds_toArray, List.set_cons_zero, List.set_cons_succ]
  refine wpAnyH_take (i := 13) (v := ?_) rfl (by kernel_rfl) (by kernel_rfl) (by kernel_rfl) (fun _ _ _ h => h) (Or.inl ⟨by rfl, ?hy13⟩) (by assumption) ?_
  case hy13 => (intro w0 hSw; obtain ⟨⟨q0, q1, q2, q3, q4, _, _⟩, ⟨p0, p1, p2, p3, p4, _, _⟩⟩ := hSw; go_simp; (try with_reducible rfl))
  try simp only [List.getElem_toArray, List.getElem_cons_succ, List.getElem_cons_zero, Act.put, List.setIfInBounds_toArray, List.set_cons_zero, List.set_cons_succ]
  refine wpAnyH_ready (rs := [14]) (by kernel_rfl) (by simp) ?_
  refine AllReadyH.cons rfl (fun K hK => ?_) AllReadyH.nil
  go_simp
  go_wp2_with fail
  refine hK.out _ _ ⟨((HS.out.s.far5 (y := w.heap.size + 1 + 1) (by omega) _ _ _ _ _).drew), ((HS.out.a.far5 (y := w.heap.size + 1 + 1) (by omega) _ _ _ _ _).drew)⟩ (fun hHeld2 => ?_)
  clear hK
  try simp only [List.getElem_toArray, List.getElem_cons_succ, List.getElem_cons_zero, Act.put, List.setIfInBounds_toArray, List.set_cons_zero, List.set_cons_succ]
  refine wpAnyH_take (i := 15) (v := ?_) rfl (by kernel_rfl) (by kernel_rfl) (by kernel_rfl) (fun _ _ _ h => h) (Or.inl ⟨by rfl, ?hy15⟩) (by assumption) ?_
  case hy15 => (intro w0 hSw; obtain ⟨⟨q0, q1, q2, q3, q4, _, _⟩, ⟨p0, p1, p2, p3, p4, _, _⟩⟩ := hSw; go_simp; (try with_reducible rfl))
  try simp only [List.getElem_toArray, List.getElem_cons_succ, List.getElem_cons_zero, Act.put, List.setIfInBounds_toArray, List.set_cons_zero, List.set_cons_succ]
  refine wpAnyH_done (by kernel_rfl) ?_ _
  go_wp2_with fail
  refine bodyPost_ret (v := .tuple #[v5 t v lt li true, .bool false]) (by simp [results, Try.results10, go_sem, r0, r1, r2, r3, r4]) rfl ?_
  exact HF.out _ ((below_set5 HS.out.b (by omega)).drew)
set_option maxRecDepth 100000 in
set_option maxHeartbeats 4000000 in
theorem ras_y (t v lt li : Nat) (at' fr alt ali : Nat) (w : World) (hg : t < at') (hn : newB alt ali lt li = true) :
    Calls Try.prog 10 #[v5 t v lt li false, v5 at' fr alt ali true] w (AnP w (ansS ⟨t, v, lt, li, false⟩ ⟨at', fr, alt, ali, true⟩)) := by
  have hf : ∀ w', Below w.heap.size w w' → AnP w (ansS ⟨t, v, lt, li, false⟩ ⟨at', fr, alt, ali, true⟩) (.returned (.tuple #[v5 t v lt li false, .bool true])) w' := fun w' hb => by
    have e : ansS ⟨t, v, lt, li, false⟩ ⟨at', fr, alt, ali, true⟩ = (⟨t, v, lt, li, false⟩, true) := by simp [ansS, hg, hn]
    rw [e]; exact ⟨rfl, hb⟩
  have HF := Lib.hid hf
  clear hf
  have g : decide ((t : Int) < (at' : Int)) = true := by simp; omega
  have HN := Lib.hid hn
  clear hn
  have HS := Lib.hid (Bx.start w t v lt li false at' fr alt ali true 24 26)
  go_enter Try.func10, Try.ntmps10
  go_wp2_with fail
  refine (rNewer_any alt ali lt li _).mono ?_
  rintro e w9 ⟨rfl, rfl⟩
  rw [HN.out]
  go_wp2_with fail
  generalize (((w.alloc (.cells #[.int .u64 t, .int .u64 v, .int .u64 lt, .int .u64 li, .bool false] 24)).alloc (.cells #[.int .u64 at', .int .u64 fr, .int .u64 alt, .int .u64 ali, .bool true] 26)).alloc (.cells #[.int .u64 0, .int .u64 0, .int .u64 0, .int .u64 0, .bool false] 24)) = W at *
  obtain ⟨s0, s1, s2, s3, s4, sz, sl⟩ := HS.out.s
  obtain ⟨a0, a1, a2, a3, a4, az, al⟩ := HS.out.a
  obtain ⟨r0, r1, r2, r3, r4, rz, rl⟩ := HS.out.r
  have K1 : B5 W.drew w.heap.size t v lt li false ∧ B5 W.drew (w.heap.size + 1) at' fr alt ali true := ⟨HS.out.s.drew, HS.out.a.drew⟩
  refine wp_region_held_drew (S := fun w' => B5 w' w.heap.size t v lt li false ∧ B5 w' (w.heap.size + 1) at' fr alt ali true) (by kernel_rfl) K1 (fun hHeld => ?_)
  refine wpAnyH_take (i := 0) (v := ?_) rfl (by kernel_rfl) (by kernel_rfl) (by kernel_rfl) (fun _ _ _ h => h) (Or.inl ⟨by rfl, ?hy0⟩) (by assumption) ?_
  case hy0 => (intro w0 hSw; obtain ⟨⟨q0, q1, q2, q3, q4, _, _⟩, ⟨p0, p1, p2, p3, p4, _, _⟩⟩ := hSw; go_simp; (try with_reducible rfl))
  try simp only [List.getElem_toArray, List.getElem_cons_zero, Act.put, List.setIfInBounds_toArray, List.set_cons_zero, List.set_cons_succ]
  refine wpAnyH_take (i := 1) (v := ?_) rfl (by kernel_rfl) (by kernel_rfl) (by kernel_rfl) (fun _ _ _ h => h) (Or.inl ⟨by rfl, ?hy1⟩) (by assumption) ?_
  case hy1 => (intro w0 hSw; obtain ⟨⟨q0, q1, q2, q3, q4, _, _⟩, ⟨p0, p1, p2, p3, p4, _, _⟩⟩ := hSw; go_simp; (try with_reducible rfl))
  try simp only [List.getElem_toArray, List.getElem_cons_succ, List.getElem_cons_zero, Act.put, List.setIfInBounds_toArray, List.set_cons_zero, List.set_cons_succ]
  refine wpAnyH_take (i := 2) (v := ?_) rfl (by kernel_rfl) (by kernel_rfl) (by kernel_rfl) (fun _ _ _ h => h) (Or.inl ⟨by rfl, ?hy2⟩) (by assumption) ?_
  case hy2 => (intro w0 hSw; obtain ⟨⟨q0, q1, q2, q3, q4, _, _⟩, ⟨p0, p1, p2, p3, p4, _, _⟩⟩ := hSw; go_simp; (try with_reducible rfl))
  try simp only [List.getElem_toArray, List.getElem_cons_succ, List.getElem_cons_zero, Act.put, List.setIfInBounds_toArray, List.set_cons_zero, List.set_cons_succ]
  refine wpAnyH_take (i := 3) (v := ?_) rfl (by kernel_rfl) (by kernel_rfl) (by kernel_rfl) (fun _ _ _ h => h) (Or.inl ⟨by rfl, ?hy3⟩) (by assumption) ?_
  case hy3 => (intro w0 hSw; obtain ⟨⟨q0, q1, q2, q3, q4, _, _⟩, ⟨p0, p1, p2, p3, p4, _, _⟩⟩ := hSw; go_simp; (try with_reducible rfl))
  try simp only [List.getElem_toArray, List.getElem_cons_succ, List.getElem_cons_zero, Act.put, List.setIfInBounds_toArray, List.set_cons_zero, List.set_cons_succ]
  refine wpAnyH_take (i := 4) (v := ?_) rfl (by kernel_rfl) (by kernel_rfl) (by kernel_rfl) (fun _ _ _ h => h) (Or.inl ⟨by rfl, ?hy4⟩) (by assumption) ?_
  case hy4 => (intro w0 hSw; obtain ⟨⟨q0, q1, q2, q3, q4, _, _⟩, ⟨p0, p1, p2, p3, p4, _, _⟩⟩ := hSw; go_simp; (try with_reducible rfl))
  try simp only [List.getElem_toArray, List.getElem_cons_succ, List.getElem_cons_zero, Act.put, List.setIfInBounds_toArray, List.set_cons_zero, List.set_cons_succ]
  refine wpAnyH_take (i := 5) (v := ?_) rfl (by kernel_rfl) (by kernel_rfl) (by kernel_rfl) (fun _ _ _ h => h) (Or.inl ⟨by rfl, ?hy5⟩) (by assumption) ?_
  case hy5 => (intro w0 hSw; obtain ⟨⟨q0, q1, q2, q3, q4, _, _⟩, ⟨p0, p1, p2, p3, p4, _, _⟩⟩ := hSw; go_simp; (try with_reducible rfl))
  try simp only [List.getElem_toArray, List.getElem_cons_succ, List.getElem_cons_zero, Act.put, List.setIfInBounds_toArray, List.set_cons_zero, List.set_cons_succ]
  refine wpAnyH_take (i := 6) (v := ?_) rfl (by kernel_rfl) (by kernel_rfl) (by kernel_rfl) (fun _ _ _ h => h) (Or.inl ⟨by rfl, ?hy6⟩) (by assumption) ?_
  case hy6 => (intro w0 hSw; obtain ⟨⟨q0, q1, q2, q3, q4, _, _⟩, ⟨p0, p1, p2, p3, p4, _, _⟩⟩ := hSw; go_simp; (try with_reducible rfl))
  try simp only [List.getElem_toArray, List.getElem_cons_succ, List.getElem_cons_zero, Act.put, List.setIfInBounds_toArray, List.set_cons_zero, List.set_cons_succ]
  refine wpAnyH_take (i := 7) (v := ?_) rfl (by kernel_rfl) (by kernel_rfl) (by kernel_rfl) (fun _ _ _ h => h) (Or.inl ⟨by rfl, ?hy7⟩) (by assumption) ?_
  case hy7 => (intro w0 hSw; obtain ⟨⟨q0, q1, q2, q3, q4, _, _⟩, ⟨p0, p1, p2, p3, p4, _, _⟩⟩ := hSw; go_simp; (try with_reducible rfl))
  try simp only [List.getElem_toArray, List.getElem_cons_succ, List.getElem_cons_zero, Act.put, List.setIfInBounds_toArray, List.set_cons_zero, List.set_cons_succ]
  refine wpAnyH_take (i := 8) (v := ?_) rfl (by kernel_rfl) (by kernel_rfl) (by kernel_rfl) (fun _ _ _ h => h) (Or.inl ⟨by rfl, ?hy8⟩) (by assumption) ?_
  case hy8 => (intro w0 hSw; obtain ⟨⟨q0, q1, q2, q3, q4, _, _⟩, ⟨p0, p1, p2, p3, p4, _, _⟩⟩ := hSw; go_simp; (try with_reducible rfl))
  try simp only [List.getElem_toArray, List.getElem_cons_succ, List.getElem_cons_zero, Act.put, List.setIfInBounds_toArray, List.set_cons_zero, List.set_cons_succ]
  refine wpAnyH_take (i := 9) (v := ?_) rfl (by kernel_rfl) (by kernel_rfl) (by kernel_rfl) (fun _ _ _ h => h) (Or.inl ⟨by rfl, ?hy9⟩) (by assumption) ?_
  case hy9 => (intro w0 hSw; obtain ⟨⟨q0, q1, q2, q3, q4, _, _⟩, ⟨p0, p1, p2, p3, p4, _, _⟩⟩ := hSw; go_simp; (try with_reducible rfl))
  try simp only [List.getElem_toArray, List.getElem_cons_succ, List.getElem_cons_zero, Act.put, List.setIfInBounds_toArray, List.set_cons_zero, List.set_cons_succ]
  refine wpAnyH_take (i := 10) (v := ?_) rfl (by kernel_rfl) (by kernel_rfl) (by kernel_rfl) (fun _ _ _ h => h) (Or.inl ⟨by rfl, ?hy10⟩) (by assumption) ?_
  case hy10 => (intro w0 hSw; obtain ⟨⟨q0, q1, q2, q3, q4, _, _⟩, ⟨p0, p1, p2, p3, p4, _, _⟩⟩ := hSw; go_simp; (try with_reducible rfl))
  try simp only [List.getElem_toArray, List.getElem_cons_succ, List.getElem_cons_zero, Act.put, List.setIfInBounds_toArray, List.set_cons_zero, List.set_cons_succ]
  refine wpAnyH_take (i := 11) (v := ?_) rfl (by kernel_rfl) (by kernel_rfl) (by kernel_rfl) (fun _ _ _ h => h) (Or.inl ⟨by rfl, ?hy11⟩) (by assumption) ?_
  case hy11 => (intro w0 hSw; obtain ⟨⟨q0, q1, q2, q3, q4, _, _⟩, ⟨p0, p1, p2, p3, p4, _, _⟩⟩ := hSw; go_simp; (try with_reducible rfl))
  try simp only [List.getElem_toArray, List.getElem_cons_succ, List.getElem_cons_zero, Act.put, List.setIfInBounds_toArray, List.set_cons_zero, List.set_cons_succ]
  refine wpAnyH_take (i := 12) (v := ?_) rfl (by kernel_rfl) (by kernel_rfl) (by kernel_rfl) (fun _ _ _ h => h) (Or.inl ⟨by rfl, ?hy12⟩) (by assumption) ?_
  case hy12 => (intro w0 hSw; obtain ⟨⟨q0, q1, q2, q3, q4, _, _⟩, ⟨p0, p1, p2, p3, p4, _, _⟩⟩ := hSw; go_simp; (try with_reducible rfl))
  try simp only [List.getElem_toArray, List.getElem_cons_succ, List.getElem_cons_zero, Act.put, List.setIfInBounds_toArray, List.set_cons_zero, List.set_cons_succ]
  refine wpAnyH_take (i := 13) (v := ?_) rfl (by kernel_rfl) (by kernel_rfl) (by kernel_rfl) (fun _ _ _ h => h) (Or.inl ⟨by rfl, ?hy13⟩) (by assumption) ?_
  case hy13 => (intro w0 hSw; obtain ⟨⟨q0, q1, q2, q3, q4, _, _⟩, ⟨p0, p1, p2, p3, p4, _, _⟩⟩ := hSw; go_simp; (try with_reducible rfl))
  try simp only [List.getElem_toArray, List.getElem_cons_succ, List.getElem_cons_zero, Act.put, List.setIfInBounds_toArray, List.set_cons_zero, List.set_cons_succ]
  refine wpAnyH_ready (rs := [14]) (by kernel_rfl) (by simp) ?_
  refine AllReadyH.cons rfl (fun K hK => ?_) AllReadyH.nil
  go_simp
  go_wp2_with fail
  refine hK.out _ _ ⟨((HS.out.s.far5 (y := w.heap.size + 1 + 1) (by omega) _ _ _ _ _).drew), ((HS.out.a.far5 (y := w.heap.size + 1 + 1) (by omega) _ _ _ _ _).drew)⟩ (fun hHeld2 => ?_)
  clear hK
  try simp only [List.getElem_toArray, List.getElem_cons_succ, List.getElem_cons_zero, Act.put, List.setIfInBounds_toArray, List.set_cons_zero, List.set_cons_succ]
  refine wpAnyH_take (i := 15) (v := ?_) rfl (by kernel_rfl) (by kernel_rfl) (by kernel_rfl) (fun _ _ _ h => h) (Or.inl ⟨by rfl, ?hy15⟩) (by assumption) ?_
  case hy15 => (intro w0 hSw; obtain ⟨⟨q0, q1, q2, q3, q4, _, _⟩, ⟨p0, p1, p2, p3, p4, _, _⟩⟩ := hSw; go_simp; (try with_reducible rfl))
  try simp only [List.getElem_toArray, List.getElem_cons_succ, List.getElem_cons_zero, Act.put, List.setIfInBounds_toArray, List.set_cons_zero, List.set_cons_succ]
  refine wpAnyH_done (by kernel_rfl) ?_ _
  go_wp2_with fail
  refine bodyPost_ret (v := .tuple #[v5 t v lt li false, .bool true]) (by simp [results, Try.results10, go_sem, r0, r1, r2, r3, r4]) rfl ?_
  exact HF.out _ ((below_set5 HS.out.b (by omega)).drew)
set_option maxRecDepth 100000 in
set_option maxHeartbeats 4000000 in
theorem ras_l (t v lt li : Nat) (at' fr alt ali : Nat) (w : World) (hg : ¬ t < at') (hn : newB alt ali lt li = true) :
    Calls Try.prog 10 #[v5 t v lt li false, v5 at' fr alt ali true] w (AnP w (ansS ⟨t, v, lt, li, false⟩ ⟨at', fr, alt, ali, true⟩)) := by
  have hf : ∀ w', Below w.heap.size w w' → AnP w (ansS ⟨t, v, lt, li, false⟩ ⟨at', fr, alt, ali, true⟩) (.returned (.tuple #[v5 t v lt li false, .bool false])) w' := fun w' hb => by
    have e : ansS ⟨t, v, lt, li, false⟩ ⟨at', fr, alt, ali, true⟩ = (⟨t, v, lt, li, false⟩, false) := by simp [ansS, hg, hn]
    rw [e]; exact ⟨rfl, hb⟩
  have HF := Lib.hid hf
  clear hf
  have g : decide ((t : Int) < (at' : Int)) = false := by simp; omega
  have HN := Lib.hid hn
  clear hn
  have HS := Lib.hid (Bx.start w t v lt li false at' fr alt ali true 24 26)
  go_enter Try.func10, Try.ntmps10
  go_wp2_with fail
  refine (rNewer_any alt ali lt li _).mono ?_
  rintro e w9 ⟨rfl, rfl⟩
  rw [HN.out]
  go_wp2_with fail
  generalize (((w.alloc (.cells #[.int .u64 t, .int .u64 v, .int .u64 lt, .int .u64 li, .bool false] 24)).alloc (.cells #[.int .u64 at', .int .u64 fr, .int .u64 alt, .int .u64 ali, .bool true] 26)).alloc (.cells #[.int .u64 0, .int .u64 0, .int .u64 0, .int .u64 0, .bool false] 24)) = W at *
  obtain ⟨s0, s1, s2, s3, s4, sz, sl⟩ := HS.out.s
  obtain ⟨a0, a1, a2, a3, a4, az, al⟩ := HS.out.a
  obtain ⟨r0, r1, r2, r3, r4, rz, rl⟩ := HS.out.r
  have K1 : B5 W.drew w.heap.size t v lt li false ∧ B5 W.drew (w.heap.size + 1) at' fr alt ali true := ⟨HS.out.s.drew, HS.out.a.drew⟩
  refine wp_region_held_drew (S := fun w' => B5 w' w.heap.size t v lt li false ∧ B5 w' (w.heap.size + 1) at' fr alt ali true) (by kernel_rfl) K1 (fun hHeld => ?_)
  refine wpAnyH_take (i := 0) (v := ?_) rfl (by kernel_rfl) (by kernel_rfl) (by kernel_rfl) (fun _ _ _ h => h) (Or.inl ⟨by rfl, ?hy0⟩) (by assumption) ?_
  case hy0 => (intro w0 hSw; obtain ⟨⟨q0, q1, q2, q3, q4, _, _⟩, ⟨p0, p1, p2, p3, p4, _, _⟩⟩ := hSw; go_simp; (try with_reducible rfl))
  try simp only [List.getElem_toArray, List.getElem_cons_zero, Act.put, List.setIfInBounds_toArray, List.set_cons_zero, List.set_cons_succ]
  refine wpAnyH_take (i := 1) (v := ?_) rfl (by kernel_rfl) (by kernel_rfl) (by kernel_rfl) (fun _ _ _ h => h) (Or.inl ⟨by rfl, ?hy1⟩) (by assumption) ?_
  case hy1 => (intro w0 hSw; obtain ⟨⟨q0, q1, q2, q3, q4, _, _⟩, ⟨p0, p1, p2, p3, p4, _, _⟩⟩ := hSw; go_simp; (try with_reducible rfl))
  try simp only [List.getElem_toArray, List.getElem_cons_succ, List.getElem_cons_zero, Act.put, List.setIfInBounds_toArray, List.set_cons_zero, List.set_cons_succ]
  refine wpAnyH_take (i := 2) (v := ?_) rfl (by kernel_rfl) (by kernel_rfl) (by kernel_rfl) (fun _ _ _ h => h) (Or.inl ⟨by rfl, ?hy2⟩) (by assumption) ?_
  case hy2 => (intro w0 hSw; obtain ⟨⟨q0, q1, q2, q3, q4, _, _⟩, ⟨p0, p1, p2, p3, p4, _, _⟩⟩ := hSw; go_simp; (try with_reducible rfl))
  try simp only [List.getElem_toArray, List.getElem_cons_succ, List.getElem_cons_zero, Act.put, List.setIfInBounds_toArray, List.set_cons_zero, List.set_cons_succ]
  refine wpAnyH_take (i := 3) (v := ?_) rfl (by kernel_rfl) (by kernel_rfl) (by kernel_rfl) (fun _ _ _ h => h) (Or.inl ⟨by rfl, ?hy3⟩) (by assumption) ?_
  case hy3 => (intro w0 hSw; obtain ⟨⟨q0, q1, q2, q3, q4, _, _⟩, ⟨p0, p1, p2, p3, p4, _, _⟩⟩ := hSw; go_simp; (try with_reducible rfl))
  try simp only [List.getElem_toArray, List.getElem_cons_succ, List.getElem_cons_zero, Act.put, List.setIfInBounds_toArray, List.set_cons_zero, List.set_cons_succ]
  refine wpAnyH_take (i := 4) (v := ?_) rfl (by kernel_rfl) (by kernel_rfl) (by kernel_rfl) (fun _ _ _ h => h) (Or.inl ⟨by rfl, ?hy4⟩) (by assumption) ?_
  case hy4 => (intro w0 hSw; obtain ⟨⟨q0, q1, q2, q3, q4, _, _⟩, ⟨p0, p1, p2, p3, p4, _, _⟩⟩ := hSw; go_simp; (try with_reducible rfl))
  try simp only [List.getElem_toArray, List.getElem_cons_succ, List.getElem_cons_zero, Act.put, List.setIfInBounds_toArray, List.set_cons_zero, List.set_cons_succ]
  refine wpAnyH_take (i := 5) (v := ?_) rfl (by kernel_rfl) (by kernel_rfl) (by kernel_rfl) (fun _ _ _ h => h) (Or.inl ⟨by rfl, ?hy5⟩) (by assumption) ?_
  case hy5 => (intro w0 hSw; obtain ⟨⟨q0, q1, q2, q3, q4, _, _⟩, ⟨p0, p1, p2, p3, p4, _, _⟩⟩ := hSw; go_simp; (try with_reducible rfl))
  try simp only [List.getElem_toArray, List.getElem_cons_succ, List.getElem_cons_zero, Act.put, List.setIfInBounds_toArray, List.set_cons_zero, List.set_cons_succ]
  refine wpAnyH_take (i := 6) (v := ?_) rfl (by kernel_rfl) (by kernel_rfl) (by kernel_rfl) (fun _ _ _ h => h) (Or.inl ⟨by rfl, ?hy6⟩) (by assumption) ?_
  case hy6 => (intro w0 hSw; obtain ⟨⟨q0, q1, q2, q3, q4, _, _⟩, ⟨p0, p1, p2, p3, p4, _, _⟩⟩ := hSw; go_simp; (try with_reducible rfl))
  try simp only [List.getElem_toArray, List.getElem_cons_succ, List.getElem_cons_zero, Act.put, List.setIfInBounds_toArray, List.set_cons_zero, List.set_cons_succ]
  refine wpAnyH_take (i := 7) (v := ?_) rfl (by kernel_rfl) (by kernel_rfl) (by kernel_rfl) (fun _ _ _ h => h) (Or.inl ⟨by rfl, ?hy7⟩) (by assumption) ?_
  case hy7 => (intro w0 hSw; obtain ⟨⟨q0, q1, q2, q3, q4, _, _⟩, ⟨p0, p1, p2, p3, p4, _, _⟩⟩ := hSw; go_simp; (try with_reducible rfl))
  try simp only [List.getElem_toArray, List.getElem_cons_succ, List.getElem_cons_zero, Act.put, List.setIfInBounds_toArray, List.set_cons_zero, List.set_cons_succ]
  refine wpAnyH_take (i := 8) (v := ?_) rfl (by kernel_rfl) (by kernel_rfl) (by kernel_rfl) (fun _ _ _ h => h) (Or.inl ⟨by rfl, ?hy8⟩) (by assumption) ?_
  case hy8 => (intro w0 hSw; obtain ⟨⟨q0, q1, q2, q3, q4, _, _⟩, ⟨p0, p1, p2, p3, p4, _, _⟩⟩ := hSw; go_simp; (try with_reducible rfl))
  try simp only [List.getElem_toArray, List.getElem_cons_succ, List.getElem_cons_zero, Act.put, List.setIfInBounds_toArray, List.set_cons_zero, List.set_cons_succ]
  refine wpAnyH_take (i := 9) (v := ?_) rfl (by kernel_rfl) (by kernel_rfl) (by kernel_rfl) (fun _ _ _ h => h) (Or.inl ⟨by rfl, ?hy9⟩) (by assumption) ?_
  case hy9 => (intro w0 hSw; obtain ⟨⟨q0, q1, q2, q3, q4, _, _⟩, ⟨p0, p1, p2, p3, p4, _, _⟩⟩ := hSw; go_simp; (try with_reducible rfl))
  try simp only [List.getElem_toArray, List.getElem_cons_succ, List.getElem_cons_zero, Act.put, List.setIfInBounds_toArray, List.set_cons_zero, List.set_cons_succ]
  refine wpAnyH_take (i := 10) (v := ?_) rfl (by kernel_rfl) (by kernel_rfl) (by kernel_rfl) (fun _ _ _ h => h) (Or.inl ⟨by rfl, ?hy10⟩) (by assumption) ?_
  case hy10 => (intro w0 hSw; obtain ⟨⟨q0, q1, q2, q3, q4, _, _⟩, ⟨p0, p1, p2, p3, p4, _, _⟩⟩ := hSw; go_simp; (try with_reducible rfl))
  try simp only [List.getElem_toArray, List.getElem_cons_succ, List.getElem_cons_zero, Act.put, List.setIfInBounds_toArray, List.set_cons_zero, List.set_cons_succ]
  refine wpAnyH_take (i := 11) (v := ?_) rfl (by kernel_rfl) (by kernel_rfl) (by kernel_rfl) (fun _ _ _ h => h) (Or.inl ⟨by rfl, ?hy11⟩) (by assumption) ?_
  case hy11 => (intro w0 hSw; obtain ⟨⟨q0, q1, q2, q3, q4, _, _⟩, ⟨p0, p1, p2, p3, p4, _, _⟩⟩ := hSw; go_simp; (try with_reducible rfl))
  try simp only [List.getElem_toArray, List.getElem_cons_succ, List.getElem_cons_zero, Act.put, List.setIfInBounds_toArray, List.set_cons_zero, List.set_cons_succ]
  refine wpAnyH_take (i := 12) (v := ?_) rfl (by kernel_rfl) (by kernel_rfl) (by kernel_rfl) (fun _ _ _ h => h) (Or.inl ⟨by rfl, ?hy12⟩) (by assumption) ?_
  case hy12 => (intro w0 hSw; obtain ⟨⟨q0, q1, q2, q3, q4, _, _⟩, ⟨p0, p1, p2, p3, p4, _, _⟩⟩ := hSw; go_simp; (try with_reducible rfl))
  try simp only [List.getElem_toArray, List.getElem_cons_succ, List.getElem_cons_zero, Act.put, List.setIfInBounds_toArray, List.set_cons_zero, List.set_cons_succ]
  refine wpAnyH_take (i := 13) (v := ?_) rfl (by kernel_rfl) (by kernel_rfl) (by kernel_rfl) (fun _ _ _ h => h) (Or.inl ⟨by rfl, ?hy13⟩) (by assumption) ?_
  case hy13 => (intro w0 hSw; obtain ⟨⟨q0, q1, q2, q3, q4, _, _⟩, ⟨p0, p1, p2, p3, p4, _, _⟩⟩ := hSw; go_simp; (try with_reducible rfl))
  try simp only [List.getElem_toArray, List.getElem_cons_succ, List.getElem_cons_zero, Act.put, List.setIfInBounds_toArray, List.set_cons_zero, List.set_cons_succ]
  refine wpAnyH_ready (rs := [14]) (by kernel_rfl) (by simp) ?_
  refine AllReadyH.cons rfl (fun K hK => ?_) AllReadyH.nil
  go_simp
  go_wp2_with fail
  refine hK.out _ _ ⟨((HS.out.s.far5 (y := w.heap.size + 1 + 1) (by omega) _ _ _ _ _).drew), ((HS.out.a.far5 (y := w.heap.size + 1 + 1) (by omega) _ _ _ _ _).drew)⟩ (fun hHeld2 => ?_)
  clear hK
  try simp only [List.getElem_toArray, List.getElem_cons_succ, List.getElem_cons_zero, Act.put, List.setIfInBounds_toArray, List.set_cons_zero, List.set_cons_succ]
  refine wpAnyH_take (i := 15) (v := ?_) rfl (by kernel_rfl) (by kernel_rfl) (by kernel_rfl) (fun _ _ _ h => h) (Or.inl ⟨by rfl, ?hy15⟩) (by assumption) ?_
  case hy15 => (intro w0 hSw; obtain ⟨⟨q0, q1, q2, q3, q4, _, _⟩, ⟨p0, p1, p2, p3, p4, _, _⟩⟩ := hSw; go_simp; (try with_reducible rfl))
  try simp only [List.getElem_toArray, List.getElem_cons_succ, List.getElem_cons_zero, Act.put, List.setIfInBounds_toArray, List.set_cons_zero, List.set_cons_succ]
  refine wpAnyH_done (by kernel_rfl) ?_ _
  go_wp2_with fail
  refine bodyPost_ret (v := .tuple #[v5 t v lt li false, .bool false]) (by simp [results, Try.results10, go_sem, r0, r1, r2, r3, r4]) rfl ?_
  exact HF.out _ ((below_set5 HS.out.b (by omega)).drew)
set_option maxRecDepth 100000 in
set_option maxHeartbeats 4000000 in
theorem ras_low (t v lt li : Nat) (h : Bool) (at' fr alt ali : Nat) (w : World) (hg : at' < t) :
    Calls Try.prog 10 #[v5 t v lt li h, v5 at' fr alt ali false] w (AnP w (ansS ⟨t, v, lt, li, h⟩ ⟨at', fr, alt, ali, false⟩)) := by
  have hf : ∀ w', Below w.heap.size w w' → AnP w (ansS ⟨t, v, lt, li, h⟩ ⟨at', fr, alt, ali, false⟩) (.returned (.tuple #[v5 t v lt li h, .bool false])) w' := fun w' hb => by
    have e : ansS ⟨t, v, lt, li, h⟩ ⟨at', fr, alt, ali, false⟩ = (⟨t, v, lt, li, h⟩, false) := by simp [ansS, hg]
    rw [e]; exact ⟨rfl, hb⟩
  have HF := Lib.hid hf
  clear hf
  have g : (at' : Int) < (t : Int) := by omega
  have g2 : ¬ (t : Int) < (at' : Int) := by omega
  obtain ⟨nb, hn⟩ : ∃ b, newB alt ali lt li = b := ⟨_, rfl⟩
  have HN := Lib.hid hn
  clear hn
  go_enter Try.func10, Try.ntmps10
  go_wp2_with fail
  refine (rNewer_any alt ali lt li _).mono ?_
  rintro e w9 ⟨rfl, rfl⟩
  rw [HN.out]
  go_wp2_with fail
  refine bodyPost_ret (v := .tuple #[v5 t v lt li h, .bool false]) (by simp [results, Try.results10, go_sem]) rfl ?_
  exact HF.out _ (by go_grown)
set_option maxRecDepth 100000 in
set_option maxHeartbeats 4000000 in
theorem ras_heard (t v lt li : Nat) (at' fr alt ali : Nat) (w : World) (hg : t < at') :
    Calls Try.prog 10 #[v5 t v lt li true, v5 at' fr alt ali false] w (AnP w (ansS ⟨t, v, lt, li, true⟩ ⟨at', fr, alt, ali, false⟩)) := by
  have hf : ∀ w', Below w.heap.size w w' → AnP w (ansS ⟨t, v, lt, li, true⟩ ⟨at', fr, alt, ali, false⟩) (.returned (.tuple #[v5 t v lt li true, .bool false])) w' := fun w' hb => by
    have e : ansS ⟨t, v, lt, li, true⟩ ⟨at', fr, alt, ali, false⟩ = (⟨t, v, lt, li, true⟩, false) := by simp [ansS, hg]
    rw [e]; exact ⟨rfl, hb⟩
  have HF := Lib.hid hf
  clear hf
  have g : ¬ (at' : Int) < (t : Int) := by omega
  have g2 : (t : Int) < (at' : Int) := by omega
  obtain ⟨nb, hn⟩ : ∃ b, newB alt ali lt li = b := ⟨_, rfl⟩
  have HN := Lib.hid hn
  clear hn
  go_enter Try.func10, Try.ntmps10
  go_wp2_with fail
  refine (rNewer_any alt ali lt li _).mono ?_
  rintro e w9 ⟨rfl, rfl⟩
  rw [HN.out]
  go_wp2_with fail
  refine bodyPost_ret (v := .tuple #[v5 t v lt li true, .bool false]) (by simp [results, Try.results10, go_sem]) rfl ?_
  exact HF.out _ (by go_grown)
set_option maxRecDepth 100000 in
set_option maxHeartbeats 4000000 in
theorem ras_up_n (t v lt li : Nat) (at' fr alt ali : Nat) (w : World) (hg : t < at') (hn : newB alt ali lt li = false) :
    Calls Try.prog 10 #[v5 t v lt li false, v5 at' fr alt ali false] w (AnP w (ansS ⟨t, v, lt, li, false⟩ ⟨at', fr, alt, ali, false⟩)) := by
  have hf : ∀ w', Below w.heap.size w w' → AnP w (ansS ⟨t, v, lt, li, false⟩ ⟨at', fr, alt, ali, false⟩) (.returned (.tuple #[v5 at' 0 lt li false, .bool false])) w' := fun w' hb => by
    have e : ansS ⟨t, v, lt, li, false⟩ ⟨at', fr, alt, ali, false⟩ = (⟨at', 0, lt, li, false⟩, false) := by simp [ansS, hg, show ¬ at' < t by omega, hn, openB]
    rw [e]; exact ⟨rfl, hb⟩
  have HF := Lib.hid hf
  clear hf
  have g : ¬ (at' : Int) < (t : Int) := by omega
  have g2 : (t : Int) < (at' : Int) := by omega
  have HN := Lib.hid hn
  clear hn
  go_enter Try.func10, Try.ntmps10
  go_wp2_with fail
  refine (rNewer_any alt ali lt li _).mono ?_
  rintro e w9 ⟨rfl, rfl⟩
  rw [HN.out]
  go_wp2_with fail
  refine bodyPost_ret (v := .tuple #[v5 at' 0 lt li false, .bool false]) (by simp [results, Try.results10, go_sem]) rfl ?_
  exact HF.out _ (by go_grown)
set_option maxRecDepth 100000 in
set_option maxHeartbeats 4000000 in
theorem ras_up_0 (t v lt li : Nat) (at' fr alt ali : Nat) (w : World) (hg : t < at') (hn : newB alt ali lt li = true) (hv : fr = 0) :
    Calls Try.prog 10 #[v5 t v lt li false, v5 at' fr alt ali false] w (AnP w (ansS ⟨t, v, lt, li, false⟩ ⟨at', fr, alt, ali, false⟩)) := by
  have hf : ∀ w', Below w.heap.size w w' → AnP w (ansS ⟨t, v, lt, li, false⟩ ⟨at', fr, alt, ali, false⟩) (.returned (.tuple #[v5 at' 0 lt li false, .bool false])) w' := fun w' hb => by
    have e : ansS ⟨t, v, lt, li, false⟩ ⟨at', fr, alt, ali, false⟩ = (⟨at', 0, lt, li, false⟩, false) := by simp [ansS, hg, show ¬ at' < t by omega, hn, openB, hv]
    rw [e]; exact ⟨rfl, hb⟩
  have HF := Lib.hid hf
  clear hf
  have g : ¬ (at' : Int) < (t : Int) := by omega
  have g2 : (t : Int) < (at' : Int) := by omega
  have HN := Lib.hid hn
  clear hn
  subst hv
  go_enter Try.func10, Try.ntmps10
  go_wp2_with fail
  refine (rNewer_any alt ali lt li _).mono ?_
  rintro e w9 ⟨rfl, rfl⟩
  rw [HN.out]
  go_wp2_with fail
  refine bodyPost_ret (v := .tuple #[v5 at' 0 lt li false, .bool false]) (by simp [results, Try.results10, go_sem]) rfl ?_
  exact HF.out _ (by go_grown)
set_option maxRecDepth 100000 in
set_option maxHeartbeats 4000000 in
theorem ras_up_y (t v lt li : Nat) (at' fr alt ali : Nat) (w : World) (hg : t < at') (hn : newB alt ali lt li = true) (hv : ¬ fr = 0) :
    Calls Try.prog 10 #[v5 t v lt li false, v5 at' fr alt ali false] w (AnP w (ansS ⟨t, v, lt, li, false⟩ ⟨at', fr, alt, ali, false⟩)) := by
  have hf : ∀ w', Below w.heap.size w w' → AnP w (ansS ⟨t, v, lt, li, false⟩ ⟨at', fr, alt, ali, false⟩) (.returned (.tuple #[v5 at' fr lt li false, .bool true])) w' := fun w' hb => by
    have e : ansS ⟨t, v, lt, li, false⟩ ⟨at', fr, alt, ali, false⟩ = (⟨at', fr, lt, li, false⟩, true) := by simp [ansS, hg, show ¬ at' < t by omega, hn, openB, hv]
    rw [e]; exact ⟨rfl, hb⟩
  have HF := Lib.hid hf
  clear hf
  have g : ¬ (at' : Int) < (t : Int) := by omega
  have g2 : (t : Int) < (at' : Int) := by omega
  have HN := Lib.hid hn
  clear hn
  have f0 : ((fr : Int) == 0) = false := by simp; omega
  go_enter Try.func10, Try.ntmps10
  go_wp2_with fail
  refine (rNewer_any alt ali lt li _).mono ?_
  rintro e w9 ⟨rfl, rfl⟩
  rw [HN.out]
  go_wp2_with fail
  refine bodyPost_ret (v := .tuple #[v5 at' fr lt li false, .bool true]) (by simp [results, Try.results10, go_sem]) rfl ?_
  exact HF.out _ (by go_grown)
set_option maxRecDepth 100000 in
set_option maxHeartbeats 4000000 in
theorem ras_eq_n (t v lt li : Nat) (h : Bool) (at' fr alt ali : Nat) (w : World) (hg : at' = t) (hn : newB alt ali lt li = false) :
    Calls Try.prog 10 #[v5 t v lt li h, v5 at' fr alt ali false] w (AnP w (ansS ⟨t, v, lt, li, h⟩ ⟨at', fr, alt, ali, false⟩)) := by
  have hf : ∀ w', Below w.heap.size w w' → AnP w (ansS ⟨t, v, lt, li, h⟩ ⟨at', fr, alt, ali, false⟩) (.returned (.tuple #[v5 t v lt li h, .bool false])) w' := fun w' hb => by
    have e : ansS ⟨t, v, lt, li, h⟩ ⟨at', fr, alt, ali, false⟩ = (⟨t, v, lt, li, h⟩, false) := by simp [ansS, hg, hn, openB]
    rw [e]; exact ⟨rfl, hb⟩
  have HF := Lib.hid hf
  clear hf
  have HN := Lib.hid hn
  clear hn
  subst hg
  go_enter Try.func10, Try.ntmps10
  go_wp2_with fail
  refine (rNewer_any alt ali lt li _).mono ?_
  rintro e w9 ⟨rfl, rfl⟩
  rw [HN.out]
  go_wp2_with fail
  refine bodyPost_ret (v := .tuple #[v5 at' v lt li h, .bool false]) (by simp [results, Try.results10, go_sem]) rfl ?_
  exact HF.out _ (by go_grown)
set_option maxRecDepth 100000 in
set_option maxHeartbeats 4000000 in
theorem ras_eq_0 (t v lt li : Nat) (h : Bool) (at' fr alt ali : Nat) (w : World) (hg : at' = t) (hn : newB alt ali lt li = true) (hv : fr = 0) :
    Calls Try.prog 10 #[v5 t v lt li h, v5 at' fr alt ali false] w (AnP w (ansS ⟨t, v, lt, li, h⟩ ⟨at', fr, alt, ali, false⟩)) := by
  have hf : ∀ w', Below w.heap.size w w' → AnP w (ansS ⟨t, v, lt, li, h⟩ ⟨at', fr, alt, ali, false⟩) (.returned (.tuple #[v5 t v lt li h, .bool false])) w' := fun w' hb => by
    have e : ansS ⟨t, v, lt, li, h⟩ ⟨at', fr, alt, ali, false⟩ = (⟨t, v, lt, li, h⟩, false) := by simp [ansS, hg, hn, openB, hv]
    rw [e]; exact ⟨rfl, hb⟩
  have HF := Lib.hid hf
  clear hf
  have HN := Lib.hid hn
  clear hn
  subst hg
  subst hv
  go_enter Try.func10, Try.ntmps10
  go_wp2_with fail
  refine (rNewer_any alt ali lt li _).mono ?_
  rintro e w9 ⟨rfl, rfl⟩
  rw [HN.out]
  go_wp2_with fail
  refine bodyPost_ret (v := .tuple #[v5 at' v lt li h, .bool false]) (by simp [results, Try.results10, go_sem]) rfl ?_
  exact HF.out _ (by go_grown)
set_option maxRecDepth 100000 in
set_option maxHeartbeats 4000000 in
theorem ras_eq_f (t v lt li : Nat) (h : Bool) (at' fr alt ali : Nat) (w : World) (hg : at' = t) (hn : newB alt ali lt li = true) (hv : ¬ fr = 0) (hv2 : v = 0) :
    Calls Try.prog 10 #[v5 t v lt li h, v5 at' fr alt ali false] w (AnP w (ansS ⟨t, v, lt, li, h⟩ ⟨at', fr, alt, ali, false⟩)) := by
  have hf : ∀ w', Below w.heap.size w w' → AnP w (ansS ⟨t, v, lt, li, h⟩ ⟨at', fr, alt, ali, false⟩) (.returned (.tuple #[v5 t fr lt li h, .bool true])) w' := fun w' hb => by
    have e : ansS ⟨t, v, lt, li, h⟩ ⟨at', fr, alt, ali, false⟩ = (⟨t, fr, lt, li, h⟩, true) := by simp [ansS, hg, hn, openB, hv, hv2]
    rw [e]; exact ⟨rfl, hb⟩
  have HF := Lib.hid hf
  clear hf
  have HN := Lib.hid hn
  clear hn
  subst hg
  have f0 : ((fr : Int) == 0) = false := by simp; omega
  subst hv2
  go_enter Try.func10, Try.ntmps10
  go_wp2_with fail
  refine (rNewer_any alt ali lt li _).mono ?_
  rintro e w9 ⟨rfl, rfl⟩
  rw [HN.out]
  go_wp2_with fail
  refine bodyPost_ret (v := .tuple #[v5 at' fr lt li h, .bool true]) (by simp [results, Try.results10, go_sem]) rfl ?_
  exact HF.out _ (by go_grown)
set_option maxRecDepth 100000 in
set_option maxHeartbeats 4000000 in
theorem ras_eq_s (t v lt li : Nat) (h : Bool) (at' fr alt ali : Nat) (w : World) (hg : at' = t) (hn : newB alt ali lt li = true) (hv : ¬ fr = 0) (hv2 : ¬ v = 0) (hv3 : v = fr) :
    Calls Try.prog 10 #[v5 t v lt li h, v5 at' fr alt ali false] w (AnP w (ansS ⟨t, v, lt, li, h⟩ ⟨at', fr, alt, ali, false⟩)) := by
  have hf : ∀ w', Below w.heap.size w w' → AnP w (ansS ⟨t, v, lt, li, h⟩ ⟨at', fr, alt, ali, false⟩) (.returned (.tuple #[v5 t fr lt li h, .bool true])) w' := fun w' hb => by
    have e : ansS ⟨t, v, lt, li, h⟩ ⟨at', fr, alt, ali, false⟩ = (⟨t, fr, lt, li, h⟩, true) := by simp [ansS, hg, hn, openB, hv, hv3]
    rw [e]; exact ⟨rfl, hb⟩
  have HF := Lib.hid hf
  clear hf
  have HN := Lib.hid hn
  clear hn
  subst hg
  have f0 : ((fr : Int) == 0) = false := by simp; omega
  have f1 : ((v : Int) == 0) = false := by simp; omega
  subst hv3
  go_enter Try.func10, Try.ntmps10
  go_wp2_with fail
  refine (rNewer_any alt ali lt li _).mono ?_
  rintro e w9 ⟨rfl, rfl⟩
  rw [HN.out]
  go_wp2_with fail
  refine bodyPost_ret (v := .tuple #[v5 at' v lt li h, .bool true]) (by simp [results, Try.results10, go_sem]) rfl ?_
  exact HF.out _ (by go_grown)
set_option maxRecDepth 100000 in
set_option maxHeartbeats 4000000 in
theorem ras_eq_o (t v lt li : Nat) (h : Bool) (at' fr alt ali : Nat) (w : World) (hg : at' = t) (hn : newB alt ali lt li = true) (hv : ¬ fr = 0) (hv2 : ¬ v = 0) (hv3 : ¬ v = fr) :
    Calls Try.prog 10 #[v5 t v lt li h, v5 at' fr alt ali false] w (AnP w (ansS ⟨t, v, lt, li, h⟩ ⟨at', fr, alt, ali, false⟩)) := by
  have hf : ∀ w', Below w.heap.size w w' → AnP w (ansS ⟨t, v, lt, li, h⟩ ⟨at', fr, alt, ali, false⟩) (.returned (.tuple #[v5 t v lt li h, .bool false])) w' := fun w' hb => by
    have e : ansS ⟨t, v, lt, li, h⟩ ⟨at', fr, alt, ali, false⟩ = (⟨t, v, lt, li, h⟩, false) := by simp [ansS, hg, hn, openB, hv, hv2, hv3]
    rw [e]; exact ⟨rfl, hb⟩
  have HF := Lib.hid hf
  clear hf
  have HN := Lib.hid hn
  clear hn
  subst hg
  have f0 : ((fr : Int) == 0) = false := by simp; omega
  have f1 : ((v : Int) == 0) = false := by simp; omega
  have f2 : ((v : Int) == (fr : Int)) = false := by simp; omega
  go_enter Try.func10, Try.ntmps10
  go_wp2_with fail
  refine (rNewer_any alt ali lt li _).mono ?_
  rintro e w9 ⟨rfl, rfl⟩
  rw [HN.out]
  go_wp2_with fail
  refine bodyPost_ret (v := .tuple #[v5 at' v lt li h, .bool false]) (by simp [results, Try.results10, go_sem]) rfl ?_
  exact HF.out _ (by go_grown)
/-- What a seat answers, and is then, as the document says. -/
theorem rAnswer_any (t v lt li : Nat) (h : Bool) (at' fr alt ali : Nat) (p : Bool) (w : World) :
    Calls Try.prog 10 #[v5 t v lt li h, v5 at' fr alt ali p] w (AnP w (ansS ⟨t, v, lt, li, h⟩ ⟨at', fr, alt, ali, p⟩)) := by
  cases p
  · by_cases h1 : at' < t
    · exact ras_low t v lt li h at' fr alt ali w h1
    · by_cases h2 : t < at'
      · cases h
        · cases hn : newB alt ali lt li
          · exact ras_up_n t v lt li at' fr alt ali w h2 hn
          · by_cases hv : fr = 0
            · exact ras_up_0 t v lt li at' fr alt ali w h2 hn hv
            · exact ras_up_y t v lt li at' fr alt ali w h2 hn hv
        · exact ras_heard t v lt li at' fr alt ali w h2
      · have h3 : at' = t := by omega
        cases hn : newB alt ali lt li
        · exact ras_eq_n t v lt li h at' fr alt ali w h3 hn
        · by_cases hv : fr = 0
          · exact ras_eq_0 t v lt li h at' fr alt ali w h3 hn hv
          · by_cases hv2 : v = 0
            · exact ras_eq_f t v lt li h at' fr alt ali w h3 hn hv hv2
            · by_cases hv3 : v = fr
              · exact ras_eq_s t v lt li h at' fr alt ali w h3 hn hv hv2 hv3
              · exact ras_eq_o t v lt li h at' fr alt ali w h3 hn hv hv2 hv3
  · cases hn : newB alt ali lt li
    · exact ras_n t v lt li h at' fr alt ali w hn
    · cases h
      · by_cases h1 : t < at'
        · exact ras_y t v lt li at' fr alt ali w h1 hn
        · exact ras_l t v lt li at' fr alt ali w h1 hn
      · exact ras_h t v lt li at' fr alt ali w hn
end Go.Proofs.Ytmcmanjniloeaaa
