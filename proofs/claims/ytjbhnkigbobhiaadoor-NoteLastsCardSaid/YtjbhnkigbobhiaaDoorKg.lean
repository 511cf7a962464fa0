/- The reference of layer 4: Fold: what notes come to. -/
import Derived.Test.YtjbhnkigbobhiaaDoorSj
import Derived.Outline
import Derived.Test.YtjbhnkigbobhiaaDoorKc
import Derived.Test.YtjbhnkigbobhiaaDoorKd
import Derived.Test.YtjbhnkigbobhiaaDoorKe
import Derived.Test.YtjbhnkigbobhiaaDoorKf
namespace Go.Proofs.YtjbhnkigbobhiaaDoor
open Go.RowKit

/-- What Fold answers. -/
def FoP (w : World) (s : Sg) (e : Ending) (w' : World) : Prop := ∃ a c, e = .returned (s.val a c) ∧ Ents w' a s.L ∧ Below w.heap.size w w'
/-- What holds of the boxes behind k notes. -/
structure Fr (w wr : World) (s : Sg) (a : Option Addr) (c : Nat) : Prop where
  box : Sx wr (w.heap.size + 1) s a c
  res : Sx wr w.heap.size Sg.zero none 0
  ents : Ents wr a s.L
  far : ∀ q, a = some q → w.heap.size + 2 ≤ q.block
  below : Below w.heap.size w wr
theorem Sx.new {w : World} {x : Nat} (hx : x = w.heap.size) (s : Sg) (a : Option Addr) (c : Nat) (t : TypeId) : Sx (w.alloc (.cells #[.int .u64 s.term, .int .u64 s.vote, .int .u64 s.base, .int .u64 s.bt, .string s.snap, .slice a s.L.length c] t)) x s a c := by
  subst hx
  exact ⟨by simp [go_sem], by simp [go_sem], by simp [go_sem], by simp [go_sem], by simp [go_sem], by simp [go_sem], fun j => by simp [go_sem], by simp⟩
theorem Fr.step {w wr w2 : World} {s s' : Sg} {a a' : Option Addr} {c c' : Nat} (h : Fr w wr s a c) (hE : Ents w2 a' s'.L) (hb : Below wr.heap.size wr w2) (ho : a' = a ∨ ∀ q, a' = some q → wr.heap.size ≤ q.block) : Fr w (set6 w2 (w.heap.size + 1) s' a' c') s' a' c' := by
  obtain ⟨h1, h2, h3, h4, h5⟩ := h
  have hsz := h1.lt
  have hfar : ∀ q, a' = some q → w.heap.size + 2 ≤ q.block := by
    rcases ho with rfl | ho
    · exact h4
    · intro q e; have := ho q e; omega
  have r := h2.later hb
  refine ⟨(h1.later hb).set s' a' c', ?_, set6_ents hE (fun q e => by have := hfar q e; omega) s' a' c', hfar, set6_below (h5.trans (hb.mono h5.size)) (by omega) s' a' c'⟩
  have hne : w.heap.size + 1 ≠ w.heap.size := by omega
  refine ⟨(set6_far hne _ _ _ _).trans r.c0, (set6_far hne _ _ _ _).trans r.c1, (set6_far hne _ _ _ _).trans r.c2, (set6_far hne _ _ _ _).trans r.c3, (set6_far hne _ _ _ _).trans r.c4, (set6_far hne _ _ _ _).trans r.c5, fun j => ?_, ?_⟩
  · unfold set6; simp [go_sem, r.fz]
  · have := r.lt; unfold set6; simpa using this
set_option maxRecDepth 100000 in
set_option maxHeartbeats 4000000 in
theorem refFold_any (a0 : Option Addr) (n c0 : Nat) (L0 : List Nt) (hn : L0.length = n) (hl : n ≤ 140737488351232) (w : World) (hN : Nts w a0 L0) :
    Calls Tryd.prog 20 #[.slice a0 n c0] w (FoP w (Sg.fold L0)) := by
  have HN := Lib.hid hn; clear hn
  have hz0 : Fr w ((w.alloc (.cells #[.int .u64 0, .int .u64 0, .int .u64 0, .int .u64 0, .string ⟨#[]⟩, .slice none 0 0] 36)).alloc (.cells #[.int .u64 0, .int .u64 0, .int .u64 0, .int .u64 0, .string ⟨#[]⟩, .slice none 0 0] 36)) Sg.zero none 0 := by
    refine ⟨Sx.new (by simp) Sg.zero none 0 _, (Sx.new rfl Sg.zero none 0 _).later ((Below.refl _ _).alloc (Nat.le_refl _) _), fun j x h => by simp [Sg.zero] at h, (fun q h => by cases h), by go_grown⟩
  have HZ := Lib.hid hz0; clear hz0
  go_enter Tryd.func20, Tryd.ntmps20
  go_wp2_with fail
  go_loopw [4] (fun i wr => ∃ k a c, k ≤ n ∧ i = .int .i64 k ∧ Fr w wr ((L0.take k).foldl Sg.step Sg.zero) a c) (fun i _ => n - (intOf i).toNat)
  case atStart => exact ⟨0, none, 0, Nat.zero_le _, rfl, HZ.out⟩
  case round =>
    clear HZ
    obtain ⟨k, a, c, hk, rfl, hFr⟩ := hrel
    have hfit := Sg.fit_foldl (L0.take k) Sg.zero Sg.fit_zero
    by_cases hlt : k < n
    · have hkl : k < L0.length := by have := HN.out; omega
      obtain ⟨x, hx⟩ : ∃ x, L0[k]? = some x := ⟨_, List.getElem?_eq_getElem hkl⟩
      have hsucc := Sg.fold_succ L0 k x hx
      obtain ⟨s, hs⟩ : ∃ s, (L0.take k).foldl Sg.step Sg.zero = s := ⟨_, rfl⟩
      rw [hs] at hFr hfit hsucc
      obtain ⟨b, off, rfl, hbb, p0, p1, p2, p3, p4⟩ := (hN.later hFr.below) k x hx
      have q0 := hFr.box.c0
      have q1 := hFr.box.c1
      have q2 := hFr.box.c2
      have q3 := hFr.box.c3
      have q4 := hFr.box.c4
      have q5 := hFr.box.c5
      have i0 : (0 : Int) ≤ (k : Int) := by omega
      have i1 : (k : Int) < (n : Int) := by omega
      have HX := Lib.hid hx
      have HS := Lib.hid hs
      have HSU := Lib.hid hsucc
      have HFR := Lib.hid hFr
      have HFI := Lib.hid hfit
      clear hx hs hsucc hFr hfit hkl
      go_wp2_with fail
      go_region_with (go_at_call 39; (with_reducible refine (step_any s a c HFI.out _ (HFR.out.ents.later (Below.refl _ _).drew) x).mono ?_); rintro e w2 ⟨a', c', rfl, hE', hb', hor⟩; obtain ⟨r0, r1, r2, r3, r4, r5, rz, rl⟩ := HFR.out.box.later ((Below.refl _ _).drew.trans hb'); have HE' := Lib.hid hE'; have HO := Lib.hid hor; clear hE' hor)
      all_goals
        go_wp2_with fail
        have hfin : Fr w (set6 w2 (w.heap.size + 1) (s.step x) a' c') ((L0.take (k + 1)).foldl Sg.step Sg.zero) a' c' := by
          rw [HSU.out]; exact HFR.out.step (c' := c') HE'.out ((Below.refl _ _).drew.trans hb') HO.out
        go_roundw
        case rel => exact ⟨k + 1, a', c', by omega, by go_num, hfin⟩
        case measure => simp [intOf]; omega
    · obtain rfl : k = n := by omega
      have e : (L0.take k).foldl Sg.step Sg.zero = Sg.fold L0 := by rw [List.take_of_length_le (by have := HN.out; omega)]; rfl
      rw [e] at hFr
      obtain ⟨⟨q0, q1, q2, q3, q4, q5, qz, ql⟩, ⟨r0, r1, r2, r3, r4, r5, rz, rl⟩, hE, hfar, hb⟩ := hFr
      have HE := Lib.hid hE
      have HF := Lib.hid hfar
      clear hE hfar e hfit
      go_wp2_with fail
      refine bodyPost_ret (v := (Sg.fold L0).val a c) (by simp [results, Tryd.results20, go_sem, r0, r1, r2, r3, r4, r5]) rfl ?_
      have n0 : ∀ q, a = some q → q.block ≠ w.heap.size := fun q e => by have := HF.out q e; omega
      refine ⟨a, c, rfl, ?_, ?_⟩
      · exact set6_ents HE.out n0 (Sg.fold L0) a c
      · exact set6_below hb (Nat.le_refl _) (Sg.fold L0) a c
end Go.Proofs.YtjbhnkigbobhiaaDoor
/- The program's Fold: what notes come to. -/
namespace Go.Proofs.YtjbhnkigbobhiaaDoor
open Go.RowKit

theorem appended_any (B : Nat) (s : Sg) (a : Option Addr) (c : Nat) (hf : s.fit) (w : World) (hO : Oe B w a c s.L) (hBw : B ≤ w.heap.size) (m : Nt) (hk : m.k = 2) :
    Calls Tryd.prog 30 #[s.log a c, m.val] w (LgP B w (s.step m)) := by
  obtain ⟨hl, hb⟩ := hf
  obtain ⟨term, vote, base, bt, snap, L⟩ := s
  obtain ⟨k, i, t, v, d⟩ := m
  simp only at hl hb hO hk
  subst hk
  by_cases h1 : i = base + L.length + 1
  · by_cases h3 : i ≤ 1099511627776
    · by_cases h2 : L.length < 1024
      · exact appended_d B term vote base bt _ c snap a L rfl hl hb w hO hBw i t v d h1 h3 h2
      · exact appended_c B term vote base bt _ c snap a L rfl hl hb w hO hBw i t v d h1 h3 h2
    · exact appended_b B term vote base bt _ c snap a L rfl hl hb w hO hBw i t v d h1 h3
  · exact appended_a B term vote base bt _ c snap a L rfl hl hb w hO hBw i t v d h1
theorem cut_any (B : Nat) (s : Sg) (a : Option Addr) (c : Nat) (hf : s.fit) (w : World) (hO : Oe B w a c s.L) (hBw : B ≤ w.heap.size) (m : Nt) (hk : m.k = 3) :
    Calls Tryd.prog 31 #[s.log a c, .int .u64 m.i] w (LgP B w (s.step m)) := by
  obtain ⟨hl, hb⟩ := hf
  obtain ⟨term, vote, base, bt, snap, L⟩ := s
  obtain ⟨k, i, t, v, d⟩ := m
  simp only at hl hb hO hk
  subst hk
  have e : Sg.step ⟨term, vote, base, bt, snap, L⟩ ⟨3, i, t, v, d⟩ = ⟨term, vote, base, bt, snap, L.take (i - 1 - base)⟩ := by simp [Sg.step]
  rw [e]
  by_cases h1 : i ≤ base
  · exact cut_lo B base bt _ c snap a L rfl hl hb w hO hBw i h1
  by_cases h2 : i ≤ base + L.length
  · exact cut_hi B base bt _ c snap a L rfl hl hb w hO hBw i (by omega) h2
  · exact cut_no B base bt _ c snap a L rfl hl hb w hO hBw i h2
theorem snapped_any (B : Nat) (s : Sg) (a : Option Addr) (c : Nat) (hf : s.fit) (w : World) (hO : Oe B w a c s.L) (hBw : B ≤ w.heap.size) (m : Nt) (hk : m.k = 4) :
    Calls Tryd.prog 32 #[s.log a c, m.val] w (LgP B w (s.step m)) := by
  obtain ⟨hl, hb⟩ := hf
  obtain ⟨term, vote, base, bt, snap, L⟩ := s
  obtain ⟨k, i, t, v, d⟩ := m
  simp only at hl hb hO hk
  subst hk
  have e : LgP B w (Sg.step ⟨term, vote, base, bt, snap, L⟩ ⟨4, i, t, v, d⟩) = LgP B w (Sg.step ⟨0, 0, base, bt, snap, L⟩ ⟨4, i, t, v, d⟩) := by
    unfold LgP Sg.step
    simp only [show ¬ (4 : Int) = 1 by decide, show ¬ (4 : Int) = 2 by decide, show ¬ (4 : Int) = 3 by decide, if_false, if_true]
    split <;> rfl
  rw [e]
  by_cases h1 : i ≤ base
  · exact snapped_a B base bt _ c snap a L rfl hl hb w hO hBw i t v d h1
  by_cases h2 : 1099511627776 < i
  · exact snapped_b B base bt _ c snap a L rfl hl hb w hO hBw i t v d h1 h2
  by_cases h3 : base + L.length < i
  · exact snapped_c B base bt _ c snap a L rfl hl hb w hO hBw i t v d (by omega) (by omega) h3
  · obtain ⟨x, hx⟩ : ∃ x, L[i - base - 1]? = some x := ⟨_, List.getElem?_eq_getElem (by omega)⟩
    obtain ⟨g, off, rfl, _⟩ := hO.ents _ x hx
    by_cases ht : x.t = t
    · exact snapped_e B base bt _ c snap g off L rfl hl hb w hO hBw i t v d (by omega) (by omega) (by omega) x hx ht
    · exact snapped_d B base bt _ c snap g off L rfl hl hb w hO hBw i t v d (by omega) (by omega) (by omega) x hx ht
/-- What holds of the program's boxes behind k notes. -/
structure Fp (w wr : World) (s : Sg) (a : Option Addr) (c : Nat) : Prop where
  box : Sx wr (w.heap.size + 1) s a c
  res : Sx wr w.heap.size Sg.zero none 0
  oe : Oe (w.heap.size + 2) wr a c s.L
  below : Below w.heap.size w wr
theorem Fp.later {w wr w' : World} {s : Sg} {a : Option Addr} {c : Nat} (h : Fp w wr s a c) (hb : Below wr.heap.size wr w') : Fp w w' s a c :=
  ⟨h.box.later hb, h.res.later hb, h.oe.later hb, h.below.trans (hb.mono h.below.size)⟩
/-- A state's log written. -/
def setLg (w : World) (x : Nat) (s : Sg) (a : Option Addr) (c : Nat) : World :=
  (((w.setCell ⟨x, 2, none⟩ (.int .u64 s.base)).setCell ⟨x, 3, none⟩ (.int .u64 s.bt)).setCell ⟨x, 4, none⟩ (.string s.snap)).setCell ⟨x, 5, none⟩ (.slice a s.L.length c)
theorem Fp.lg {w wr w2 : World} {s s' : Sg} {a a' : Option Addr} {c c' : Nat} (h : Fp w wr s a c) (hO : Oe (w.heap.size + 2) w2 a' c' s'.L) (hb : Below (w.heap.size + 2) wr w2) (ht : s'.term = s.term) (hv : s'.vote = s.vote) : Fp w (setLg w2 (w.heap.size + 1) s' a' c') s' a' c' := by
  obtain ⟨h1, h2, h3, h4⟩ := h
  have x1 : w.heap.size + 1 < w.heap.size + 2 := by omega
  have x0 : w.heap.size < w.heap.size + 2 := by omega
  have y0 := (hb.cell (p := ⟨w.heap.size + 1, 0, none⟩) x1).trans h1.c0
  have y1 := (hb.cell (p := ⟨w.heap.size + 1, 1, none⟩) x1).trans h1.c1
  have y2 := (hb.cell (p := ⟨w.heap.size + 1, 2, none⟩) x1).trans h1.c2
  have y3 := (hb.cell (p := ⟨w.heap.size + 1, 3, none⟩) x1).trans h1.c3
  have y4 := (hb.cell (p := ⟨w.heap.size + 1, 4, none⟩) x1).trans h1.c4
  have y5 := (hb.cell (p := ⟨w.heap.size + 1, 5, none⟩) x1).trans h1.c5
  have yz : ∀ j, w2.frozen? ⟨w.heap.size + 1, j, none⟩ = false := fun j => (hb.frozen (p := ⟨w.heap.size + 1, j, none⟩) x1).trans (h1.fz j)
  have z0 := (hb.cell (p := ⟨w.heap.size, 0, none⟩) x0).trans h2.c0
  have z1 := (hb.cell (p := ⟨w.heap.size, 1, none⟩) x0).trans h2.c1
  have z2 := (hb.cell (p := ⟨w.heap.size, 2, none⟩) x0).trans h2.c2
  have z3 := (hb.cell (p := ⟨w.heap.size, 3, none⟩) x0).trans h2.c3
  have z4 := (hb.cell (p := ⟨w.heap.size, 4, none⟩) x0).trans h2.c4
  have z5 := (hb.cell (p := ⟨w.heap.size, 5, none⟩) x0).trans h2.c5
  have zz : ∀ j, w2.frozen? ⟨w.heap.size, j, none⟩ = false := fun j => (hb.frozen (p := ⟨w.heap.size, j, none⟩) x0).trans (h2.fz j)
  have hl := Nat.lt_of_lt_of_le h1.lt hb.size
  have hne : w.heap.size + 1 ≠ w.heap.size := by omega
  have hfar : ∀ q, a' = some q → q.block ≠ w.heap.size + 1 := fun q e => by have := (hO.far q e).1; omega
  unfold setLg
  have far : ∀ j, (((((w2.setCell ⟨w.heap.size + 1, 2, none⟩ (.int .u64 s'.base)).setCell ⟨w.heap.size + 1, 3, none⟩ (.int .u64 s'.bt)).setCell ⟨w.heap.size + 1, 4, none⟩ (.string s'.snap)).setCell ⟨w.heap.size + 1, 5, none⟩ (.slice a' s'.L.length c')).cell? ⟨w.heap.size, j, none⟩) = w2.cell? ⟨w.heap.size, j, none⟩ := fun j =>
    (World.cell?_setCell_far _ ⟨w.heap.size + 1, 5, none⟩ ⟨w.heap.size, j, none⟩ _ hne).trans ((World.cell?_setCell_far _ ⟨w.heap.size + 1, 4, none⟩ ⟨w.heap.size, j, none⟩ _ hne).trans ((World.cell?_setCell_far _ ⟨w.heap.size + 1, 3, none⟩ ⟨w.heap.size, j, none⟩ _ hne).trans (World.cell?_setCell_far _ ⟨w.heap.size + 1, 2, none⟩ ⟨w.heap.size, j, none⟩ _ hne)))
  refine ⟨⟨by rw [ht]; simp [go_sem, y0], by rw [hv]; simp [go_sem, y1], by simp [go_sem, y2], by simp [go_sem, y3], by simp [go_sem, y4], by simp [go_sem, y5], fun j => by simp [go_sem, yz], by simpa using hl⟩, ⟨(far 0).trans z0, (far 1).trans z1, (far 2).trans z2, (far 3).trans z3, (far 4).trans z4, (far 5).trans z5, fun j => by simp [go_sem, zz], by simp; omega⟩,
    (((hO.set hfar _ _).set hfar _ _).set hfar _ _).set hfar _ _, ((((h4.trans (hb.mono (by omega))).setCell (by simp) _).setCell (by simp) _).setCell (by simp) _).setCell (by simp) _⟩
theorem Fp.hard {w wr : World} {s : Sg} {a : Option Addr} {c : Nat} (h : Fp w wr s a c) (t v : Nat) : Fp w ((wr.setCell ⟨w.heap.size + 1, 0, none⟩ (.int .u64 t)).setCell ⟨w.heap.size + 1, 1, none⟩ (.int .u64 v)) { s with term := t, vote := v } a c := by
  obtain ⟨⟨y0, y1, y2, y3, y4, y5, yz, yl⟩, ⟨z0, z1, z2, z3, z4, z5, zz, zl⟩, h3, h4⟩ := h
  have hne : w.heap.size + 1 ≠ w.heap.size := by omega
  have hfar : ∀ q, a = some q → q.block ≠ w.heap.size + 1 := fun q e => by have := (h3.far q e).1; omega
  have far : ∀ j, (((wr.setCell ⟨w.heap.size + 1, 0, none⟩ (.int .u64 t)).setCell ⟨w.heap.size + 1, 1, none⟩ (.int .u64 v)).cell? ⟨w.heap.size, j, none⟩) = wr.cell? ⟨w.heap.size, j, none⟩ := fun j =>
    (World.cell?_setCell_far _ ⟨w.heap.size + 1, 1, none⟩ ⟨w.heap.size, j, none⟩ _ hne).trans (World.cell?_setCell_far _ ⟨w.heap.size + 1, 0, none⟩ ⟨w.heap.size, j, none⟩ _ hne)
  refine ⟨⟨by simp [go_sem, y0], by simp [go_sem, y1], by simp [go_sem, y2], by simp [go_sem, y3], by simp [go_sem, y4], by simp [go_sem, y5], fun j => by simp [go_sem, yz], by simpa using yl⟩, ⟨(far 0).trans z0, (far 1).trans z1, (far 2).trans z2, (far 3).trans z3, (far 4).trans z4, (far 5).trans z5, fun j => by simp [go_sem, zz], by simpa using zl⟩,
    (h3.set hfar _ _).set hfar _ _, (h4.setCell (by simp) _).setCell (by simp) _⟩
end Go.Proofs.YtjbhnkigbobhiaaDoor
