/- The program's Answer: what a seat answers, and is then. -/
import Derived.Test.YtdcpiaoadbbdoaaGreatBulk
import Derived.Test.YtdcpiaoadbbdoaaGreatWa
set_option maxRecDepth 100000
set_option maxHeartbeats 16000000
namespace Go.Proofs.YtdcpiaoadbbdoaaGreat
open Go.RowKit

def ansS (s : Se) (a : Ak) : Se × Bool :=
 if a.p then (s, decide (s.t < a.t) && (!s.h && newB a.lt a.li s.lt s.li))
 else if a.t < s.t ∨ (s.t < a.t ∧ s.h = true) then (s, false)
 else
  let s1 : Se := if s.t < a.t then ⟨a.t, 0, s.lt, s.li, s.h⟩ else s
  if openB s1.v a.fr && newB a.lt a.li s.lt s.li then (⟨s1.t, a.fr, s1.lt, s1.li, s1.h⟩, true) else (s1, false)
def AnP (w : World) (r : Se × Bool) (e : Ending) (w' : World) : Prop :=
 e = .returned (.tuple #[v5 r.1.t r.1.v r.1.lt r.1.li r.1.h, .bool r.2]) ∧ Below w.heap.size w w'
@[reducible] def set5 (w1 : World) (x : Nat) (v0 v1 v2 v3 v4 : Value) : World := ((((w1.setCell ⟨x, 0, none⟩ v0).setCell ⟨x, 1, none⟩ v1).setCell ⟨x, 2, none⟩ v2).setCell ⟨x, 3, none⟩ v3).setCell ⟨x, 4, none⟩ v4
theorem below_set5 {w w1 : World} {B x : Nat} {v0 v1 v2 v3 v4 : Value} (h : Below B w w1) (hx : B ≤ x) : Below B w (set5 w1 x v0 v1 v2 v3 v4) :=
 ((((h.setCell hx _).setCell hx _).setCell hx _).setCell hx _).setCell hx _
theorem B5.far {w : World} {x : Nat} {a b c d : Nat} {o : Bool} (h : B5 w x a b c d o) {y : Nat} (hne : y ≠ x) (i : Nat) (z : Value) : B5 (w.setCell ⟨y, i, none⟩ z) x a b c d o :=
 ⟨(World.cell?_setCell_far _ _ _ _ hne).trans h.c0, (World.cell?_setCell_far _ _ _ _ hne).trans h.c1, (World.cell?_setCell_far _ _ _ _ hne).trans h.c2, (World.cell?_setCell_far _ _ _ _ hne).trans h.c3, (World.cell?_setCell_far _ _ _ _ hne).trans h.c4, fun j => by simpa using h.fz j, by simpa using h.lt⟩
theorem B5.far5 {w : World} {x : Nat} {a b c d : Nat} {o : Bool} (h : B5 w x a b c d o) {y : Nat} (hne : y ≠ x) (v0 v1 v2 v3 v4 : Value) : B5 (set5 w y v0 v1 v2 v3 v4) x a b c d o :=
 ((((h.far hne _ _).far hne _ _).far hne _ _).far hne _ _).far hne _ _
theorem B5.drew {w : World} {x : Nat} {a b c d : Nat} {o : Bool} (h : B5 w x a b c d o) : B5 w.drew x a b c d o := h.later ((Below.refl _ _).drew)
structure BxW (w W : World) (t v lt li : Nat) (h : Bool) (at' fr alt ali : Nat) (p : Bool) : Prop where
 s : B5 W w.heap.size t v lt li h
 a : B5 W (w.heap.size + 1) at' fr alt ali p
 r : B5 W (w.heap.size + 1 + 1) 0 0 0 0 false
 b : Below w.heap.size w W
theorem BxW.later {w W W' : World} {t v lt li : Nat} {h : Bool} {at' fr alt ali : Nat} {p : Bool} (H : BxW w W t v lt li h at' fr alt ali p) (hb : Below W.heap.size W W') : BxW w W' t v lt li h at' fr alt ali p :=
 ⟨H.s.later hb, H.a.later hb, H.r.later hb, H.b.trans (hb.mono H.b.size)⟩
theorem BxW.start (w : World) (t v lt li : Nat) (h : Bool) (at' fr alt ali : Nat) (p : Bool) (T U : TypeId) :
 BxW w (((w.alloc (.cells #[.int .u64 t, .int .u64 v, .int .u64 lt, .int .u64 li, .bool h] T)).alloc (.cells #[.int .u64 at', .int .u64 fr, .int .u64 alt, .int .u64 ali, .bool p] U)).alloc (.cells #[.int .u64 0, .int .u64 0, .int .u64 0, .int .u64 0, .bool false] T)) t v lt li h at' fr alt ali p :=
 ⟨((B5.new rfl _ _ _ _ _ _).past _).past _, (B5.new (by simp) _ _ _ _ _ _).past _, B5.new (by simp) _ _ _ _ _ _, by go_grown⟩
theorem ans_pre0 (t v lt li : Nat) (h : Bool) (at' fr alt ali : Nat) (w : World) (hg : ¬ t < at') :
 Calls Tryz.prog 70 #[v5 t v lt li h, v5 at' fr alt ali true] w (AnP w (ansS ⟨t, v, lt, li, h⟩ ⟨at', fr, alt, ali, true⟩)) := by
 have hf : ∀ w', Below w.heap.size w w' → AnP w (ansS ⟨t, v, lt, li, h⟩ ⟨at', fr, alt, ali, true⟩) (.returned (.tuple #[v5 t v lt li h, .bool false])) w' := fun w' hb => by
  have e : ansS ⟨t, v, lt, li, h⟩ ⟨at', fr, alt, ali, true⟩ = (⟨t, v, lt, li, h⟩, false) := by simp [ansS, hg]
  rw [e]; exact ⟨rfl, hb⟩
 have HF := hI_ hf
 clear hf
 have g : decide ((t : Int) < (at' : Int)) = false := by simp; omega
 have HS := hI_ (BxW.start w t v lt li h at' fr alt ali true 115 120)
 go_enter Tryz.func70, Tryz.ntmps70
 go_wp2_with fail
 generalize (((w.alloc (.cells #[.int .u64 t, .int .u64 v, .int .u64 lt, .int .u64 li, .bool h] 115)).alloc (.cells #[.int .u64 at', .int .u64 fr, .int .u64 alt, .int .u64 ali, .bool true] 120)).alloc (.cells #[.int .u64 0, .int .u64 0, .int .u64 0, .int .u64 0, .bool false] 115)) = W at *
 obtain ⟨s0, s1, s2, s3, s4, sz, sl⟩ := HS.out.s
 obtain ⟨a0, a1, a2, a3, a4, az, al⟩ := HS.out.a
 obtain ⟨r0, r1, r2, r3, r4, rz, rl⟩ := HS.out.r
 have K1 : B5 W.drew w.heap.size t v lt li h ∧ B5 W.drew (w.heap.size + 1) at' fr alt ali true := ⟨HS.out.s.drew, HS.out.a.drew⟩
 refine wp_region_held_drew (S := fun w' => B5 w' w.heap.size t v lt li h ∧ B5 w' (w.heap.size + 1) at' fr alt ali true) (by kernel_rfl) K1 (fun hHeld => ?_)
 refine wpAnyH_take (i := 0) (v := ?_) rfl (by kernel_rfl) (by kernel_rfl) (by kernel_rfl) (fun _ _ _ h => h) (Or.inl ⟨by rfl, ?hy0⟩) (by assumption) ?_
 case hy0 => (intro w0 hSw; obtain ⟨⟨q0, q1, q2, q3, q4, _, _⟩, ⟨p0, p1, p2, p3, p4, _, _⟩⟩ := hSw; go_simp; (try with_reducible rfl))
 try simp only [ly, Act.put]
 refine wpAnyH_take (i := 1) (v := ?_) rfl (by kernel_rfl) (by kernel_rfl) (by kernel_rfl) (fun _ _ _ h => h) (Or.inl ⟨by rfl, ?hy1⟩) (by assumption) ?_
 case hy1 => (intro w0 hSw; obtain ⟨⟨q0, q1, q2, q3, q4, _, _⟩, ⟨p0, p1, p2, p3, p4, _, _⟩⟩ := hSw; go_simp; (try with_reducible rfl))
 try simp only [ly, Act.put]
 refine wpAnyH_take (i := 2) (v := ?_) rfl (by kernel_rfl) (by kernel_rfl) (by kernel_rfl) (fun _ _ _ h => h) (Or.inl ⟨by rfl, ?hy2⟩) (by assumption) ?_
 case hy2 => (intro w0 hSw; obtain ⟨⟨q0, q1, q2, q3, q4, _, _⟩, ⟨p0, p1, p2, p3, p4, _, _⟩⟩ := hSw; go_simp; (try with_reducible rfl))
 try simp only [ly, Act.put]
 refine wpAnyH_take (i := 3) (v := undef) rfl (by kernel_rfl) (by kernel_rfl) (by kernel_rfl) (fun _ _ _ h => h) (Or.inr ⟨by rfl, rfl⟩) (by assumption) ?_
 try simp only [ly, Act.put]
 refine wpAnyH_take (i := 4) (v := undef) rfl (by kernel_rfl) (by kernel_rfl) (by kernel_rfl) (fun _ _ _ h => h) (Or.inr ⟨by rfl, rfl⟩) (by assumption) ?_
 try simp only [ly, Act.put]
 refine wpAnyH_take (i := 5) (v := undef) rfl (by kernel_rfl) (by kernel_rfl) (by kernel_rfl) (fun _ _ _ h => h) (Or.inr ⟨by rfl, rfl⟩) (by assumption) ?_
 try simp only [ly, Act.put]
 refine wpAnyH_take (i := 6) (v := ?_) rfl (by kernel_rfl) (by kernel_rfl) (by kernel_rfl) (fun _ _ _ h => h) (Or.inl ⟨by rfl, ?hy6⟩) (by assumption) ?_
 case hy6 => (intro w0 hSw; obtain ⟨⟨q0, q1, q2, q3, q4, _, _⟩, ⟨p0, p1, p2, p3, p4, _, _⟩⟩ := hSw; go_simp; (try with_reducible rfl))
 try simp only [ly, Act.put]
 refine wpAnyH_take (i := 7) (v := ?_) rfl (by kernel_rfl) (by kernel_rfl) (by kernel_rfl) (fun _ _ _ h => h) (Or.inl ⟨by rfl, ?hy7⟩) (by assumption) ?_
 case hy7 => (intro w0 hSw; obtain ⟨⟨q0, q1, q2, q3, q4, _, _⟩, ⟨p0, p1, p2, p3, p4, _, _⟩⟩ := hSw; go_simp; (try with_reducible rfl))
 try simp only [ly, Act.put]
 refine wpAnyH_take (i := 8) (v := undef) rfl (by kernel_rfl) (by kernel_rfl) (by kernel_rfl) (fun _ _ _ h => h) (Or.inr ⟨by rfl, rfl⟩) (by assumption) ?_
 try simp only [ly, Act.put]
 refine wpAnyH_take (i := 9) (v := undef) rfl (by kernel_rfl) (by kernel_rfl) (by kernel_rfl) (fun _ _ _ h => h) (Or.inr ⟨by rfl, rfl⟩) (by assumption) ?_
 try simp only [ly, Act.put]
 refine wpAnyH_take (i := 10) (v := undef) rfl (by kernel_rfl) (by kernel_rfl) (by kernel_rfl) (fun _ _ _ h => h) (Or.inr ⟨by rfl, rfl⟩) (by assumption) ?_
 try simp only [ly, Act.put]
 refine wpAnyH_take (i := 11) (v := ?_) rfl (by kernel_rfl) (by kernel_rfl) (by kernel_rfl) (fun _ _ _ h => h) (Or.inl ⟨by rfl, ?hy11⟩) (by assumption) ?_
 case hy11 => (intro w0 hSw; obtain ⟨⟨q0, q1, q2, q3, q4, _, _⟩, ⟨p0, p1, p2, p3, p4, _, _⟩⟩ := hSw; go_simp; (try with_reducible rfl))
 try simp only [ly, Act.put]
 refine wpAnyH_ready (rs := [12]) (by kernel_rfl) (by simp) ?_
 refine AllReadyH.cons rfl (fun K hK => ?_) AllReadyH.nil
 go_simp
 go_wp2_with fail
 refine hK.out _ _ ⟨((HS.out.s.far5 (y := w.heap.size + 1 + 1) (by omega) _ _ _ _ _).drew), ((HS.out.a.far5 (y := w.heap.size + 1 + 1) (by omega) _ _ _ _ _).drew)⟩ (fun hHeld2 => ?_)
 clear hK
 try simp only [ly, Act.put]
 refine wpAnyH_take (i := 13) (v := ?_) rfl (by kernel_rfl) (by kernel_rfl) (by kernel_rfl) (fun _ _ _ h => h) (Or.inl ⟨by rfl, ?hy13⟩) (by assumption) ?_
 case hy13 => (intro w0 hSw; obtain ⟨⟨q0, q1, q2, q3, q4, _, _⟩, ⟨p0, p1, p2, p3, p4, _, _⟩⟩ := hSw; go_simp; (try with_reducible rfl))
 try simp only [ly, Act.put]
 refine wpAnyH_done (by kernel_rfl) ?_ _
 go_wp2_with fail
 refine bodyPost_ret (v := .tuple #[v5 t v lt li h, .bool false]) (by simp [results, Tryz.results70, go_sem, r0, r1, r2, r3, r4]) rfl ?_
 exact HF.out _ ((below_set5 HS.out.b (by omega)).drew)
theorem ans_pre1 (t v lt li : Nat) (at' fr alt ali : Nat) (w : World) (hg : t < at') :
 Calls Tryz.prog 70 #[v5 t v lt li true, v5 at' fr alt ali true] w (AnP w (ansS ⟨t, v, lt, li, true⟩ ⟨at', fr, alt, ali, true⟩)) := by
 have hf : ∀ w', Below w.heap.size w w' → AnP w (ansS ⟨t, v, lt, li, true⟩ ⟨at', fr, alt, ali, true⟩) (.returned (.tuple #[v5 t v lt li true, .bool false])) w' := fun w' hb => by
  have e : ansS ⟨t, v, lt, li, true⟩ ⟨at', fr, alt, ali, true⟩ = (⟨t, v, lt, li, true⟩, false) := by simp [ansS, hg]
  rw [e]; exact ⟨rfl, hb⟩
 have HF := hI_ hf
 clear hf
 have g : decide ((t : Int) < (at' : Int)) = true := by simp; omega
 have HS := hI_ (BxW.start w t v lt li true at' fr alt ali true 115 120)
 go_enter Tryz.func70, Tryz.ntmps70
 go_wp2_with fail
 generalize (((w.alloc (.cells #[.int .u64 t, .int .u64 v, .int .u64 lt, .int .u64 li, .bool true] 115)).alloc (.cells #[.int .u64 at', .int .u64 fr, .int .u64 alt, .int .u64 ali, .bool true] 120)).alloc (.cells #[.int .u64 0, .int .u64 0, .int .u64 0, .int .u64 0, .bool false] 115)) = W at *
 obtain ⟨s0, s1, s2, s3, s4, sz, sl⟩ := HS.out.s
 obtain ⟨a0, a1, a2, a3, a4, az, al⟩ := HS.out.a
 obtain ⟨r0, r1, r2, r3, r4, rz, rl⟩ := HS.out.r
 have K1 : B5 W.drew w.heap.size t v lt li true ∧ B5 W.drew (w.heap.size + 1) at' fr alt ali true := ⟨HS.out.s.drew, HS.out.a.drew⟩
 refine wp_region_held_drew (S := fun w' => B5 w' w.heap.size t v lt li true ∧ B5 w' (w.heap.size + 1) at' fr alt ali true) (by kernel_rfl) K1 (fun hHeld => ?_)
 refine wpAnyH_take (i := 0) (v := ?_) rfl (by kernel_rfl) (by kernel_rfl) (by kernel_rfl) (fun _ _ _ h => h) (Or.inl ⟨by rfl, ?hy0⟩) (by assumption) ?_
 case hy0 => (intro w0 hSw; obtain ⟨⟨q0, q1, q2, q3, q4, _, _⟩, ⟨p0, p1, p2, p3, p4, _, _⟩⟩ := hSw; go_simp; (try with_reducible rfl))
 try simp only [ly, Act.put]
 refine wpAnyH_take (i := 1) (v := ?_) rfl (by kernel_rfl) (by kernel_rfl) (by kernel_rfl) (fun _ _ _ h => h) (Or.inl ⟨by rfl, ?hy1⟩) (by assumption) ?_
 case hy1 => (intro w0 hSw; obtain ⟨⟨q0, q1, q2, q3, q4, _, _⟩, ⟨p0, p1, p2, p3, p4, _, _⟩⟩ := hSw; go_simp; (try with_reducible rfl))
 try simp only [ly, Act.put]
 refine wpAnyH_take (i := 2) (v := ?_) rfl (by kernel_rfl) (by kernel_rfl) (by kernel_rfl) (fun _ _ _ h => h) (Or.inl ⟨by rfl, ?hy2⟩) (by assumption) ?_
 case hy2 => (intro w0 hSw; obtain ⟨⟨q0, q1, q2, q3, q4, _, _⟩, ⟨p0, p1, p2, p3, p4, _, _⟩⟩ := hSw; go_simp; (try with_reducible rfl))
 try simp only [ly, Act.put]
 refine wpAnyH_take (i := 3) (v := ?_) rfl (by kernel_rfl) (by kernel_rfl) (by kernel_rfl) (fun _ _ _ h => h) (Or.inl ⟨by rfl, ?hy3⟩) (by assumption) ?_
 case hy3 => (intro w0 hSw; obtain ⟨⟨q0, q1, q2, q3, q4, _, _⟩, ⟨p0, p1, p2, p3, p4, _, _⟩⟩ := hSw; go_simp; (try with_reducible rfl))
 try simp only [ly, Act.put]
 refine wpAnyH_take (i := 4) (v := ?_) rfl (by kernel_rfl) (by kernel_rfl) (by kernel_rfl) (fun _ _ _ h => h) (Or.inl ⟨by rfl, ?hy4⟩) (by assumption) ?_
 case hy4 => (intro w0 hSw; obtain ⟨⟨q0, q1, q2, q3, q4, _, _⟩, ⟨p0, p1, p2, p3, p4, _, _⟩⟩ := hSw; go_simp; (try with_reducible rfl))
 try simp only [ly, Act.put]
 refine wpAnyH_take (i := 5) (v := ?_) rfl (by kernel_rfl) (by kernel_rfl) (by kernel_rfl) (fun _ _ _ h => h) (Or.inl ⟨by rfl, ?hy5⟩) (by assumption) ?_
 case hy5 => (intro w0 hSw; obtain ⟨⟨q0, q1, q2, q3, q4, _, _⟩, ⟨p0, p1, p2, p3, p4, _, _⟩⟩ := hSw; go_simp; (try with_reducible rfl))
 try simp only [ly, Act.put]
 refine wpAnyH_take (i := 6) (v := ?_) rfl (by kernel_rfl) (by kernel_rfl) (by kernel_rfl) (fun _ _ _ h => h) (Or.inl ⟨by rfl, ?hy6⟩) (by assumption) ?_
 case hy6 => (intro w0 hSw; obtain ⟨⟨q0, q1, q2, q3, q4, _, _⟩, ⟨p0, p1, p2, p3, p4, _, _⟩⟩ := hSw; go_simp; (try with_reducible rfl))
 try simp only [ly, Act.put]
 refine wpAnyH_take (i := 7) (v := ?_) rfl (by kernel_rfl) (by kernel_rfl) (by kernel_rfl) (fun _ _ _ h => h) (Or.inl ⟨by rfl, ?hy7⟩) (by assumption) ?_
 case hy7 => (intro w0 hSw; obtain ⟨⟨q0, q1, q2, q3, q4, _, _⟩, ⟨p0, p1, p2, p3, p4, _, _⟩⟩ := hSw; go_simp; (try with_reducible rfl))
 try simp only [ly, Act.put]
 refine wpAnyH_take (i := 8) (v := undef) rfl (by kernel_rfl) (by kernel_rfl) (by kernel_rfl) (fun _ _ _ h => h) (Or.inr ⟨by rfl, rfl⟩) (by assumption) ?_
 try simp only [ly, Act.put]
 refine wpAnyH_take (i := 9) (v := undef) rfl (by kernel_rfl) (by kernel_rfl) (by kernel_rfl) (fun _ _ _ h => h) (Or.inr ⟨by rfl, rfl⟩) (by assumption) ?_
 try simp only [ly, Act.put]
 refine wpAnyH_take (i := 10) (v := undef) rfl (by kernel_rfl) (by kernel_rfl) (by kernel_rfl) (fun _ _ _ h => h) (Or.inr ⟨by rfl, rfl⟩) (by assumption) ?_
 try simp only [ly, Act.put]
 refine wpAnyH_take (i := 11) (v := ?_) rfl (by kernel_rfl) (by kernel_rfl) (by kernel_rfl) (fun _ _ _ h => h) (Or.inl ⟨by rfl, ?hy11⟩) (by assumption) ?_
 case hy11 => (intro w0 hSw; obtain ⟨⟨q0, q1, q2, q3, q4, _, _⟩, ⟨p0, p1, p2, p3, p4, _, _⟩⟩ := hSw; go_simp; (try with_reducible rfl))
 try simp only [ly, Act.put]
 refine wpAnyH_ready (rs := [12]) (by kernel_rfl) (by simp) ?_
 refine AllReadyH.cons rfl (fun K hK => ?_) AllReadyH.nil
 go_simp
 go_wp2_with fail
 refine hK.out _ _ ⟨((HS.out.s.far5 (y := w.heap.size + 1 + 1) (by omega) _ _ _ _ _).drew), ((HS.out.a.far5 (y := w.heap.size + 1 + 1) (by omega) _ _ _ _ _).drew)⟩ (fun hHeld2 => ?_)
 clear hK
 try simp only [ly, Act.put]
 refine wpAnyH_take (i := 13) (v := ?_) rfl (by kernel_rfl) (by kernel_rfl) (by kernel_rfl) (fun _ _ _ h => h) (Or.inl ⟨by rfl, ?hy13⟩) (by assumption) ?_
 case hy13 => (intro w0 hSw; obtain ⟨⟨q0, q1, q2, q3, q4, _, _⟩, ⟨p0, p1, p2, p3, p4, _, _⟩⟩ := hSw; go_simp; (try with_reducible rfl))
 try simp only [ly, Act.put]
 refine wpAnyH_done (by kernel_rfl) ?_ _
 go_wp2_with fail
 refine bodyPost_ret (v := .tuple #[v5 t v lt li true, .bool false]) (by simp [results, Tryz.results70, go_sem, r0, r1, r2, r3, r4]) rfl ?_
 exact HF.out _ ((below_set5 HS.out.b (by omega)).drew)
theorem ans_pre2 (t v lt li : Nat) (at' fr alt ali : Nat) (w : World) (hg : t < at') :
 Calls Tryz.prog 70 #[v5 t v lt li false, v5 at' fr alt ali true] w (AnP w (ansS ⟨t, v, lt, li, false⟩ ⟨at', fr, alt, ali, true⟩)) := by
 have hf : ∀ w', Below w.heap.size w w' → AnP w (ansS ⟨t, v, lt, li, false⟩ ⟨at', fr, alt, ali, true⟩) (.returned (.tuple #[v5 t v lt li false, .bool (newB alt ali lt li)])) w' := fun w' hb => by
  have e : ansS ⟨t, v, lt, li, false⟩ ⟨at', fr, alt, ali, true⟩ = (⟨t, v, lt, li, false⟩, (newB alt ali lt li)) := by simp [ansS, hg]
  rw [e]; exact ⟨rfl, hb⟩
 have HF := hI_ hf
 clear hf
 have g : decide ((t : Int) < (at' : Int)) = true := by simp; omega
 have HS := hI_ (BxW.start w t v lt li false at' fr alt ali true 115 120)
 go_enter Tryz.func70, Tryz.ntmps70
 go_wp2_with fail
 generalize (((w.alloc (.cells #[.int .u64 t, .int .u64 v, .int .u64 lt, .int .u64 li, .bool false] 115)).alloc (.cells #[.int .u64 at', .int .u64 fr, .int .u64 alt, .int .u64 ali, .bool true] 120)).alloc (.cells #[.int .u64 0, .int .u64 0, .int .u64 0, .int .u64 0, .bool false] 115)) = W at *
 obtain ⟨s0, s1, s2, s3, s4, sz, sl⟩ := HS.out.s
 obtain ⟨a0, a1, a2, a3, a4, az, al⟩ := HS.out.a
 obtain ⟨r0, r1, r2, r3, r4, rz, rl⟩ := HS.out.r
 have K1 : B5 W.drew w.heap.size t v lt li false ∧ B5 W.drew (w.heap.size + 1) at' fr alt ali true := ⟨HS.out.s.drew, HS.out.a.drew⟩
 refine wp_region_held_drew (S := fun w' => B5 w' w.heap.size t v lt li false ∧ B5 w' (w.heap.size + 1) at' fr alt ali true) (by kernel_rfl) K1 (fun hHeld => ?_)
 refine wpAnyH_take (i := 0) (v := ?_) rfl (by kernel_rfl) (by kernel_rfl) (by kernel_rfl) (fun _ _ _ h => h) (Or.inl ⟨by rfl, ?hy0⟩) (by assumption) ?_
 case hy0 => (intro w0 hSw; obtain ⟨⟨q0, q1, q2, q3, q4, _, _⟩, ⟨p0, p1, p2, p3, p4, _, _⟩⟩ := hSw; go_simp; (try with_reducible rfl))
 try simp only [ly, Act.put]
 refine wpAnyH_take (i := 1) (v := ?_) rfl (by kernel_rfl) (by kernel_rfl) (by kernel_rfl) (fun _ _ _ h => h) (Or.inl ⟨by rfl, ?hy1⟩) (by assumption) ?_
 case hy1 => (intro w0 hSw; obtain ⟨⟨q0, q1, q2, q3, q4, _, _⟩, ⟨p0, p1, p2, p3, p4, _, _⟩⟩ := hSw; go_simp; (try with_reducible rfl))
 try simp only [ly, Act.put]
 refine wpAnyH_take (i := 2) (v := ?_) rfl (by kernel_rfl) (by kernel_rfl) (by kernel_rfl) (fun _ _ _ h => h) (Or.inl ⟨by rfl, ?hy2⟩) (by assumption) ?_
 case hy2 => (intro w0 hSw; obtain ⟨⟨q0, q1, q2, q3, q4, _, _⟩, ⟨p0, p1, p2, p3, p4, _, _⟩⟩ := hSw; go_simp; (try with_reducible rfl))
 try simp only [ly, Act.put]
 refine wpAnyH_take (i := 3) (v := ?_) rfl (by kernel_rfl) (by kernel_rfl) (by kernel_rfl) (fun _ _ _ h => h) (Or.inl ⟨by rfl, ?hy3⟩) (by assumption) ?_
 case hy3 => (intro w0 hSw; obtain ⟨⟨q0, q1, q2, q3, q4, _, _⟩, ⟨p0, p1, p2, p3, p4, _, _⟩⟩ := hSw; go_simp; (try with_reducible rfl))
 try simp only [ly, Act.put]
 refine wpAnyH_take (i := 4) (v := ?_) rfl (by kernel_rfl) (by kernel_rfl) (by kernel_rfl) (fun _ _ _ h => h) (Or.inl ⟨by rfl, ?hy4⟩) (by assumption) ?_
 case hy4 => (intro w0 hSw; obtain ⟨⟨q0, q1, q2, q3, q4, _, _⟩, ⟨p0, p1, p2, p3, p4, _, _⟩⟩ := hSw; go_simp; (try with_reducible rfl))
 try simp only [ly, Act.put]
 refine wpAnyH_take (i := 5) (v := ?_) rfl (by kernel_rfl) (by kernel_rfl) (by kernel_rfl) (fun _ _ _ h => h) (Or.inl ⟨by rfl, ?hy5⟩) (by assumption) ?_
 case hy5 => (intro w0 hSw; obtain ⟨⟨q0, q1, q2, q3, q4, _, _⟩, ⟨p0, p1, p2, p3, p4, _, _⟩⟩ := hSw; go_simp; (try with_reducible rfl))
 try simp only [ly, Act.put]
 refine wpAnyH_take (i := 6) (v := ?_) rfl (by kernel_rfl) (by kernel_rfl) (by kernel_rfl) (fun _ _ _ h => h) (Or.inl ⟨by rfl, ?hy6⟩) (by assumption) ?_
 case hy6 => (intro w0 hSw; obtain ⟨⟨q0, q1, q2, q3, q4, _, _⟩, ⟨p0, p1, p2, p3, p4, _, _⟩⟩ := hSw; go_simp; (try with_reducible rfl))
 try simp only [ly, Act.put]
 refine wpAnyH_take (i := 7) (v := ?_) rfl (by kernel_rfl) (by kernel_rfl) (by kernel_rfl) (fun _ _ _ h => h) (Or.inl ⟨by rfl, ?hy7⟩) (by assumption) ?_
 case hy7 => (intro w0 hSw; obtain ⟨⟨q0, q1, q2, q3, q4, _, _⟩, ⟨p0, p1, p2, p3, p4, _, _⟩⟩ := hSw; go_simp; (try with_reducible rfl))
 try simp only [ly, Act.put]
 refine wpAnyH_take (i := 8) (v := ?_) rfl (by kernel_rfl) (by kernel_rfl) (by kernel_rfl) (fun _ _ _ h => h) (Or.inl ⟨by rfl, ?hy8⟩) (by assumption) ?_
 case hy8 => (intro w0 hSw; obtain ⟨⟨q0, q1, q2, q3, q4, _, _⟩, ⟨p0, p1, p2, p3, p4, _, _⟩⟩ := hSw; go_simp; (try with_reducible rfl))
 try simp only [ly, Act.put]
 refine wpAnyH_take (i := 9) (v := ?_) rfl (by kernel_rfl) (by kernel_rfl) (by kernel_rfl) (fun _ _ _ h => h) (Or.inl ⟨by rfl, ?hy9⟩) (by assumption) ?_
 case hy9 => (intro w0 hSw; obtain ⟨⟨q0, q1, q2, q3, q4, _, _⟩, ⟨p0, p1, p2, p3, p4, _, _⟩⟩ := hSw; go_simp; (try with_reducible rfl))
 try simp only [ly, Act.put]
 refine wpAnyH_ready (rs := [10]) (by kernel_rfl) (by simp) ?_
 refine AllReadyH.cons rfl (fun K hK => ?_) AllReadyH.nil
 go_simp
 go_at_call 99
 (with_reducible refine (pRecent_any t v lt li false at' fr alt ali true _).mono ?_)
 rintro e w2 ⟨rfl, hb2⟩
 have K2 := And.intro (HS.out.s.drew.later hb2) (HS.out.a.drew.later hb2)
 have R2 := HS.out.r.drew.later hb2
 have B2 := HS.out.b.drew.trans (hb2.mono HS.out.b.drew.size)
 clear s0 s1 s2 s3 s4 a0 a1 a2 a3 a4 r0 r1 r2 r3 r4 hb2
 obtain ⟨r0, r1, r2, r3, r4, rz2, rl2⟩ := R2
 go_wp2_with fail
 refine hK.out _ _ K2 (fun hHeld2 => ?_)
 clear hK
 try simp only [ly, Act.put]
 refine wpAnyH_take (i := 11) (v := ?_) rfl (by kernel_rfl) (by kernel_rfl) (by kernel_rfl) (fun _ _ _ h => h) (Or.inl ⟨by rfl, ?hy11⟩) (by assumption) ?_
 case hy11 => (intro w0 hSw; obtain ⟨⟨q0, q1, q2, q3, q4, _, _⟩, ⟨p0, p1, p2, p3, p4, _, _⟩⟩ := hSw; go_simp; (try with_reducible rfl))
 try simp only [ly, Act.put]
 refine wpAnyH_ready (rs := [12]) (by kernel_rfl) (by simp) ?_
 refine AllReadyH.cons rfl (fun K hK => ?_) AllReadyH.nil
 go_simp
 go_wp2_with fail
 refine hK.out _ _ ⟨((K2.1.far5 (y := w.heap.size + 1 + 1) (by omega) _ _ _ _ _)), ((K2.2.far5 (y := w.heap.size + 1 + 1) (by omega) _ _ _ _ _))⟩ (fun hHeld3 => ?_)
 clear hK
 try simp only [ly, Act.put]
 refine wpAnyH_take (i := 13) (v := ?_) rfl (by kernel_rfl) (by kernel_rfl) (by kernel_rfl) (fun _ _ _ h => h) (Or.inl ⟨by rfl, ?hy13⟩) (by assumption) ?_
 case hy13 => (intro w0 hSw; obtain ⟨⟨q0, q1, q2, q3, q4, _, _⟩, ⟨p0, p1, p2, p3, p4, _, _⟩⟩ := hSw; go_simp; (try with_reducible rfl))
 try simp only [ly, Act.put]
 refine wpAnyH_done (by kernel_rfl) ?_ _
 go_wp2_with fail
 refine bodyPost_ret (v := .tuple #[v5 t v lt li false, .bool (newB alt ali lt li)]) (by simp [results, Tryz.results70, go_sem, r0, r1, r2, r3, r4]) rfl ?_
 exact HF.out _ (below_set5 B2 (by omega))
theorem ans_low (t v lt li : Nat) (h : Bool) (at' fr alt ali : Nat) (w : World) (hg : at' < t) :
 Calls Tryz.prog 70 #[v5 t v lt li h, v5 at' fr alt ali false] w (AnP w (ansS ⟨t, v, lt, li, h⟩ ⟨at', fr, alt, ali, false⟩)) := by
 have hf : ∀ w', Below w.heap.size w w' → AnP w (ansS ⟨t, v, lt, li, h⟩ ⟨at', fr, alt, ali, false⟩) (.returned (.tuple #[v5 t v lt li h, .bool false])) w' := fun w' hb => by
  have e : ansS ⟨t, v, lt, li, h⟩ ⟨at', fr, alt, ali, false⟩ = (⟨t, v, lt, li, h⟩, false) := by simp [ansS, hg]
  rw [e]; exact ⟨rfl, hb⟩
 have HF := hI_ hf
 clear hf
 have g : (at' : Int) < (t : Int) := by omega
 have g2 : ¬ (t : Int) < (at' : Int) := by omega
 go_enter Tryz.func70, Tryz.ntmps70
 go_wp2_with fail
 refine bodyPost_ret (v := .tuple #[v5 t v lt li h, .bool false]) (by simp [results, Tryz.results70, go_sem]) rfl ?_
 exact HF.out _ (by go_grown)
theorem ans_heard (t v lt li : Nat) (at' fr alt ali : Nat) (w : World) (hg : t < at') :
 Calls Tryz.prog 70 #[v5 t v lt li true, v5 at' fr alt ali false] w (AnP w (ansS ⟨t, v, lt, li, true⟩ ⟨at', fr, alt, ali, false⟩)) := by
 have hf : ∀ w', Below w.heap.size w w' → AnP w (ansS ⟨t, v, lt, li, true⟩ ⟨at', fr, alt, ali, false⟩) (.returned (.tuple #[v5 t v lt li true, .bool false])) w' := fun w' hb => by
  have e : ansS ⟨t, v, lt, li, true⟩ ⟨at', fr, alt, ali, false⟩ = (⟨t, v, lt, li, true⟩, false) := by simp [ansS, hg]
  rw [e]; exact ⟨rfl, hb⟩
 have HF := hI_ hf
 clear hf
 have g : ¬ (at' : Int) < (t : Int) := by omega
 have g2 : (t : Int) < (at' : Int) := by omega
 go_enter Tryz.func70, Tryz.ntmps70
 go_wp2_with fail
 refine bodyPost_ret (v := .tuple #[v5 t v lt li true, .bool false]) (by simp [results, Tryz.results70, go_sem]) rfl ?_
 exact HF.out _ (by go_grown)
theorem ans_up (t v lt li : Nat) (at' fr alt ali : Nat) (w : World) (hg : t < at') :
 Calls Tryz.prog 70 #[v5 t v lt li false, v5 at' fr alt ali false] w (AnP w (ansS ⟨t, v, lt, li, false⟩ ⟨at', fr, alt, ali, false⟩)) := by
 have hf0 : openB 0 fr = false ∨ newB alt ali lt li = false → ∀ w', Below w.heap.size w w' → AnP w (ansS ⟨t, v, lt, li, false⟩ ⟨at', fr, alt, ali, false⟩) (.returned (.tuple #[v5 at' 0 lt li false, .bool false])) w' := fun hx w' hb => by
  have e : ansS ⟨t, v, lt, li, false⟩ ⟨at', fr, alt, ali, false⟩ = (⟨at', 0, lt, li, false⟩, false) := by rcases hx with hx | hx <;> simp [ansS, hg, show ¬ at' < t by omega, hx]
  rw [e]; exact ⟨rfl, hb⟩
 have HF0 := hI_ hf0
 clear hf0
 have hf1 : openB 0 fr = true → newB alt ali lt li = true → ∀ w', Below w.heap.size w w' → AnP w (ansS ⟨t, v, lt, li, false⟩ ⟨at', fr, alt, ali, false⟩) (.returned (.tuple #[v5 at' fr lt li false, .bool true])) w' := fun hx hy w' hb => by
  have e : ansS ⟨t, v, lt, li, false⟩ ⟨at', fr, alt, ali, false⟩ = (⟨at', fr, lt, li, false⟩, true) := by simp [ansS, hg, show ¬ at' < t by omega, hx, hy]
  rw [e]; exact ⟨rfl, hb⟩
 have HF1 := hI_ hf1
 clear hf1
 have g : ¬ (at' : Int) < (t : Int) := by omega
 have g2 : (t : Int) < (at' : Int) := by omega
 have HS := hI_ (BxW.start w at' 0 lt li false at' fr alt ali false 115 120)
 obtain ⟨ob, ho⟩ : ∃ b, openB 0 fr = b := ⟨_, rfl⟩
 have HO := hI_ ho
 obtain ⟨nb, hn⟩ : ∃ b, newB alt ali lt li = b := ⟨_, rfl⟩
 have HN := hI_ hn
 clear ho hn
 go_enter Tryz.func70, Tryz.ntmps70
 go_wp2_with fail
 generalize (((w.alloc (.cells #[.int .u64 at', .int .u64 0, .int .u64 lt, .int .u64 li, .bool false] 115)).alloc (.cells #[.int .u64 at', .int .u64 fr, .int .u64 alt, .int .u64 ali, .bool false] 120)).alloc (.cells #[.int .u64 0, .int .u64 0, .int .u64 0, .int .u64 0, .bool false] 115)) = W at *
 refine (pOpen_any at' 0 lt li false at' fr alt ali false _).mono ?_
 rintro e w1 ⟨rfl, hb1⟩
 rw [HO.out]
 have HS1 := hI_ (HS.out.later hb1)
 clear hb1
 obtain ⟨s0, s1, s2, s3, s4, sz, sl⟩ := HS1.out.s
 obtain ⟨a0, a1, a2, a3, a4, az, al⟩ := HS1.out.a
 obtain ⟨r0, r1, r2, r3, r4, rz, rl⟩ := HS1.out.r
 cases ob
 · go_wp2_with fail
   refine bodyPost_ret (v := .tuple #[v5 at' 0 lt li false, .bool false]) (by simp [results, Tryz.results70, go_sem, r0, r1, r2, r3, r4]) rfl ?_
   exact HF0.out (.inl HO.out) _ (below_set5 HS1.out.b (by omega))
 · go_wp2_with fail
   refine (pRecent_any at' 0 lt li false at' fr alt ali false _).mono ?_
   rintro e w2 ⟨rfl, hb2⟩
   rw [HN.out]
   have HS3 := hI_ (HS1.out.later hb2)
   clear hb2 s0 s1 s2 s3 s4 sz sl a0 a1 a2 a3 a4 az al r0 r1 r2 r3 r4 rz rl
   obtain ⟨s0, s1, s2, s3, s4, sz, sl⟩ := HS3.out.s
   obtain ⟨a0, a1, a2, a3, a4, az, al⟩ := HS3.out.a
   obtain ⟨r0, r1, r2, r3, r4, rz, rl⟩ := HS3.out.r
   cases nb
   · go_wp2_with fail
     refine bodyPost_ret (v := .tuple #[v5 at' 0 lt li false, .bool false]) (by simp [results, Tryz.results70, go_sem, r0, r1, r2, r3, r4]) rfl ?_
     exact HF0.out (.inr HN.out) _ (below_set5 HS3.out.b (by omega))
   · go_wp2_with fail
     refine bodyPost_ret (v := .tuple #[v5 at' fr lt li false, .bool true]) (by simp [results, Tryz.results70, go_sem, r0, r1, r2, r3, r4]) rfl ?_
     exact HF1.out HO.out HN.out _ (below_set5 (HS3.out.b.setCell (Nat.le_refl _) _) (by omega))
theorem ans_eq (t v lt li : Nat) (h : Bool) (at' fr alt ali : Nat) (w : World) (hg : at' = t) :
 Calls Tryz.prog 70 #[v5 t v lt li h, v5 at' fr alt ali false] w (AnP w (ansS ⟨t, v, lt, li, h⟩ ⟨at', fr, alt, ali, false⟩)) := by
 have hf0 : openB v fr = false ∨ newB alt ali lt li = false → ∀ w', Below w.heap.size w w' → AnP w (ansS ⟨t, v, lt, li, h⟩ ⟨at', fr, alt, ali, false⟩) (.returned (.tuple #[v5 t v lt li h, .bool false])) w' := fun hx w' hb => by
  have e : ansS ⟨t, v, lt, li, h⟩ ⟨at', fr, alt, ali, false⟩ = (⟨t, v, lt, li, h⟩, false) := by rcases hx with hx | hx <;> simp [ansS, hg, hx]
  rw [e]; exact ⟨rfl, hb⟩
 have HF0 := hI_ hf0
 clear hf0
 have hf1 : openB v fr = true → newB alt ali lt li = true → ∀ w', Below w.heap.size w w' → AnP w (ansS ⟨t, v, lt, li, h⟩ ⟨at', fr, alt, ali, false⟩) (.returned (.tuple #[v5 t fr lt li h, .bool true])) w' := fun hx hy w' hb => by
  have e : ansS ⟨t, v, lt, li, h⟩ ⟨at', fr, alt, ali, false⟩ = (⟨t, fr, lt, li, h⟩, true) := by simp [ansS, hg, hx, hy]
  rw [e]; exact ⟨rfl, hb⟩
 have HF1 := hI_ hf1
 clear hf1
 subst hg
 have HS := hI_ (BxW.start w at' v lt li h at' fr alt ali false 115 120)
 obtain ⟨ob, ho⟩ : ∃ b, openB v fr = b := ⟨_, rfl⟩
 have HO := hI_ ho
 obtain ⟨nb, hn⟩ : ∃ b, newB alt ali lt li = b := ⟨_, rfl⟩
 have HN := hI_ hn
 clear ho hn
 go_enter Tryz.func70, Tryz.ntmps70
 go_wp2_with fail
 generalize (((w.alloc (.cells #[.int .u64 at', .int .u64 v, .int .u64 lt, .int .u64 li, .bool h] 115)).alloc (.cells #[.int .u64 at', .int .u64 fr, .int .u64 alt, .int .u64 ali, .bool false] 120)).alloc (.cells #[.int .u64 0, .int .u64 0, .int .u64 0, .int .u64 0, .bool false] 115)) = W at *
 refine (pOpen_any at' v lt li h at' fr alt ali false _).mono ?_
 rintro e w1 ⟨rfl, hb1⟩
 rw [HO.out]
 have HS1 := hI_ (HS.out.later hb1)
 clear hb1
 obtain ⟨s0, s1, s2, s3, s4, sz, sl⟩ := HS1.out.s
 obtain ⟨a0, a1, a2, a3, a4, az, al⟩ := HS1.out.a
 obtain ⟨r0, r1, r2, r3, r4, rz, rl⟩ := HS1.out.r
 cases ob
 · go_wp2_with fail
   refine bodyPost_ret (v := .tuple #[v5 at' v lt li h, .bool false]) (by simp [results, Tryz.results70, go_sem, r0, r1, r2, r3, r4]) rfl ?_
   exact HF0.out (.inl HO.out) _ (below_set5 HS1.out.b (by omega))
 · go_wp2_with fail
   refine (pRecent_any at' v lt li h at' fr alt ali false _).mono ?_
   rintro e w2 ⟨rfl, hb2⟩
   rw [HN.out]
   have HS3 := hI_ (HS1.out.later hb2)
   clear hb2 s0 s1 s2 s3 s4 sz sl a0 a1 a2 a3 a4 az al r0 r1 r2 r3 r4 rz rl
   obtain ⟨s0, s1, s2, s3, s4, sz, sl⟩ := HS3.out.s
   obtain ⟨a0, a1, a2, a3, a4, az, al⟩ := HS3.out.a
   obtain ⟨r0, r1, r2, r3, r4, rz, rl⟩ := HS3.out.r
   cases nb
   · go_wp2_with fail
     refine bodyPost_ret (v := .tuple #[v5 at' v lt li h, .bool false]) (by simp [results, Tryz.results70, go_sem, r0, r1, r2, r3, r4]) rfl ?_
     exact HF0.out (.inr HN.out) _ (below_set5 HS3.out.b (by omega))
   · go_wp2_with fail
     refine bodyPost_ret (v := .tuple #[v5 at' fr lt li h, .bool true]) (by simp [results, Tryz.results70, go_sem, r0, r1, r2, r3, r4]) rfl ?_
     exact HF1.out HO.out HN.out _ (below_set5 (HS3.out.b.setCell (Nat.le_refl _) _) (by omega))
theorem pAnswer_any (t v lt li : Nat) (h : Bool) (at' fr alt ali : Nat) (p : Bool) (w : World) :
 Calls Tryz.prog 70 #[v5 t v lt li h, v5 at' fr alt ali p] w (AnP w (ansS ⟨t, v, lt, li, h⟩ ⟨at', fr, alt, ali, p⟩)) := by
 cases p
 · by_cases h1 : at' < t
   · exact ans_low t v lt li h at' fr alt ali w h1
   · by_cases h2 : t < at'
     · cases h
       · exact ans_up t v lt li at' fr alt ali w h2
       · exact ans_heard t v lt li at' fr alt ali w h2
     · exact ans_eq t v lt li h at' fr alt ali w (by omega)
 · by_cases h1 : t < at'
   · cases h
     · exact ans_pre2 t v lt li at' fr alt ali w h1
     · exact ans_pre1 t v lt li at' fr alt ali w h1
   · exact ans_pre0 t v lt li h at' fr alt ali w h1
end Go.Proofs.YtdcpiaoadbbdoaaGreat
