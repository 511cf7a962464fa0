/- The reference of layer 4: Fold: what notes come to. -/
import Derived.Test.YtjbhnkigbobhiaaDoorSj
import Derived.Outline
namespace Go.Proofs.YtjbhnkigbobhiaaDoor
open Go.RowKit

/-- What Fold answers. -/
def FoP (w : World) (s : Sg) (e : Ending) (w' : World) : Prop := ∃ a c, e = .returned (s.val a c) ∧ Ents w' a s.L ∧ Below w.heap.size w w'
/-- What holds of the boxes behind k notes. -/
structure Fr (w wr : World) (s : Sg) (a : Option Addr) (c : Nat) : Prop where
  box : Sx wr (w.heap.size + 1) s a c
  res : Sx wr w.heap.size Sg.zero none 0
  ents : Ents wr a s.L
  far : ∀ q, a = some q → w.heap.size + 2 ≤ q.block
  below : Below w.heap.size w wr
theorem Sx.new {w : World} {x : Nat} (hx : x = w.heap.size) (s : Sg) (a : Option Addr) (c : Nat) (t : TypeId) : Sx (w.alloc (.cells #[.int .u64 s.term, .int .u64 s.vote, .int .u64 s.base, .int .u64 s.bt, .string s.snap, .slice a s.L.length c] t)) x s a c := by
  subst hx
  exact ⟨by simp [go_sem], by simp [go_sem], by simp [go_sem], by simp [go_sem], by simp [go_sem], by simp [go_sem], fun j => by simp [go_sem], by simp⟩
theorem Fr.step {w wr w2 : World} {s s' : Sg} {a a' : Option Addr} {c c' : Nat} (h : Fr w wr s a c) (hE : Ents w2 a' s'.L) (hb : Below wr.heap.size wr w2) (ho : a' = a ∨ ∀ q, a' = some q → wr.heap.size ≤ q.block) : Fr w (set6 w2 (w.heap.size + 1) s' a' c') s' a' c' := by
  obtain ⟨h1, h2, h3, h4, h5⟩ := h
  have hsz := h1.lt
  have hfar : ∀ q, a' = some q → w.heap.size + 2 ≤ q.block := by
    rcases ho with rfl | ho
    · exact h4
    · intro q e; have := ho q e; omega
  have r := h2.later hb
  refine ⟨(h1.later hb).set s' a' c', ?_, set6_ents hE (fun q e => by have := hfar q e; omega) s' a' c', hfar, set6_below (h5.trans (hb.mono h5.size)) (by omega) s' a' c'⟩
  have hne : w.heap.size + 1 ≠ w.heap.size := by omega
  refine ⟨(set6_far hne _ _ _ _).trans r.c0, (set6_far hne _ _ _ _).trans r.c1, (set6_far hne _ _ _ _).trans r.c2, (set6_far hne _ _ _ _).trans r.c3, (set6_far hne _ _ _ _).trans r.c4, (set6_far hne _ _ _ _).trans r.c5, fun j => ?_, ?_⟩
  · unfold set6; simp [go_sem, r.fz]
  · have := r.lt; unfold set6; simpa using this
set_option maxRecDepth 100000 in
set_option maxHeartbeats 4000000 in
theorem refFold_any (a0 : Option Addr) (n c0 : Nat) (L0 : List Nt) (hn : L0.length = n) (hl : n ≤ 140737488351232) (w : World) (hN : Nts w a0 L0) :
    Calls Tryd.prog 20 #[.slice a0 n c0] w (FoP w (Sg.fold L0)) := by
  have HN := Lib.hid hn; clear hn
  have hz0 : Fr w ((w.alloc (.cells #[.int .u64 0, .int .u64 0, .int .u64 0, .int .u64 0, .string ⟨#[]⟩, .slice none 0 0] 36)).alloc (.cells #[.int .u64 0, .int .u64 0, .int .u64 0, .int .u64 0, .string ⟨#[]⟩, .slice none 0 0] 36)) Sg.zero none 0 := by
    refine ⟨Sx.new (by simp) Sg.zero none 0 _, (Sx.new rfl Sg.zero none 0 _).later ((Below.refl _ _).alloc (Nat.le_refl _) _), fun j x h => by simp [Sg.zero] at h, (fun q h => by cases h), by go_grown⟩
  have HZ := Lib.hid hz0; clear hz0
  go_enter Tryd.func20, Tryd.ntmps20
  go_wp2_with fail
  go_loopw [4] (fun i wr => ∃ k a c, k ≤ n ∧ i = .int .i64 k ∧ Fr w wr ((L0.take k).foldl Sg.step Sg.zero) a c) (fun i _ => n - (intOf i).toNat)
  case atStart => exact ⟨0, none, 0, Nat.zero_le _, rfl, HZ.out⟩
  case round =>
    clear HZ
    obtain ⟨k, a, c, hk, rfl, hFr⟩ := hrel
    have hfit := Sg.fit_foldl (L0.take k) Sg.zero Sg.fit_zero
    by_cases hlt : k < n
    · have hkl : k < L0.length := by have := HN.out; omega
      obtain ⟨x, hx⟩ : ∃ x, L0[k]? = some x := ⟨_, List.getElem?_eq_getElem hkl⟩
      have hsucc := Sg.fold_succ L0 k x hx
      obtain ⟨s, hs⟩ : ∃ s, (L0.take k).foldl Sg.step Sg.zero = s := ⟨_, rfl⟩
      rw [hs] at hFr hfit hsucc
      obtain ⟨b, off, rfl, hbb, p0, p1, p2, p3, p4⟩ := (hN.later hFr.below) k x hx
      have q0 := hFr.box.c0
      have q1 := hFr.box.c1
      have q2 := hFr.box.c2
      have q3 := hFr.box.c3
      have q4 := hFr.box.c4
      have q5 := hFr.box.c5
      have i0 : (0 : Int) ≤ (k : Int) := by omega
      have i1 : (k : Int) < (n : Int) := by omega
      have HX := Lib.hid hx
      have HS := Lib.hid hs
      have HSU := Lib.hid hsucc
      have HFR := Lib.hid hFr
      have HFI := Lib.hid hfit
      clear hx hs hsucc hFr hfit hkl
      go_wp2_with fail
      go_region_with (go_at_call 39; (with_reducible refine (step_any s a c HFI.out _ (HFR.out.ents.later (Below.refl _ _).drew) x).mono ?_); rintro e w2 ⟨a', c', rfl, hE', hb', hor⟩; obtain ⟨r0, r1, r2, r3, r4, r5, rz, rl⟩ := HFR.out.box.later ((Below.refl _ _).drew.trans hb'); have HE' := Lib.hid hE'; have HO := Lib.hid hor; clear hE' hor)
      all_goals
        go_wp2_with fail
        have hfin : Fr w (set6 w2 (w.heap.size + 1) (s.step x) a' c') ((L0.take (k + 1)).foldl Sg.step Sg.zero) a' c' := by
          rw [HSU.out]; exact HFR.out.step (c' := c') HE'.out ((Below.refl _ _).drew.trans hb') HO.out
        go_roundw
        case rel => exact ⟨k + 1, a', c', by omega, by go_num, hfin⟩
        case measure => simp [intOf]; omega
    · obtain rfl : k = n := by omega
      have e : (L0.take k).foldl Sg.step Sg.zero = Sg.fold L0 := by rw [List.take_of_length_le (by have := HN.out; omega)]; rfl
      rw [e] at hFr
      obtain ⟨⟨q0, q1, q2, q3, q4, q5, qz, ql⟩, ⟨r0, r1, r2, r3, r4, r5, rz, rl⟩, hE, hfar, hb⟩ := hFr
      have HE := Lib.hid hE
      have HF := Lib.hid hfar
      clear hE hfar e hfit
      go_wp2_with fail
      refine bodyPost_ret (v := (Sg.fold L0).val a c) (by simp [results, Tryd.results20, go_sem, r0, r1, r2, r3, r4, r5]) rfl ?_
      have n0 : ∀ q, a = some q → q.block ≠ w.heap.size := fun q e => by have := HF.out q e; omega
      refine ⟨a, c, rfl, ?_, ?_⟩
      · exact set6_ents HE.out n0 (Sg.fold L0) a c
      · exact set6_below hb (Nat.le_refl _) (Sg.fold L0) a c
end Go.Proofs.YtjbhnkigbobhiaaDoor
