/- One order: the document's Do over what its three ways answer. -/
import Derived.Test.YthgnecggdlamfaaYl
import Derived.Deep.RegionLaw
import Derived.Test.YthgnecggdlamfaaTh
namespace Go.Proofs.Ythgnecggdlamfaa
open Go.RowKit

@[reducible] def doW (w : World) (s : Sh) (A : Sad) (o : Odr) (a : Option Addr) (c : Nat) (u : Value) : World := (((w.alloc (.cells #[.slice A.ra s.rows.length A.rc, .slice A.ha s.holds.length A.hc, .slice A.oa s.opn.length A.oc, .slice A.da s.done.length A.dc, .int .u64 (s.ver : Nat)] 28)).alloc (.cells #[.int .i64 o.kind, .int .u64 (o.t.age : Nat), .int .u64 (o.t.id : Nat), .string o.key, .slice a o.puts.length c, .bool o.cm, u] 34)).alloc (.cells #[.slice none 0 0, .slice none 0 0, .slice none 0 0, .slice none 0 0, .int .u64 0] 28)).alloc (.cells #[.int .i64 0, .string ⟨#[]⟩, .int .u64 0, .bool false, .bool false] 38)
theorem doW_rs (w : World) (s : Sh) (A : Sad) (o : Odr) (a : Option Addr) (c : Nat) (u : Value) : RsB w (doW w s A o a c u) (w.heap.size + 1 + 1) (w.heap.size + 1 + 1 + 1) := by
  refine ⟨?_, ?_, by omega, by omega, by go_grown⟩
  · exact (KB.new5 (by simp) _ _ _ _ _ _).later ((Below.refl _ _).alloc (Nat.le_refl _) _)
  · exact KB.new5 (by simp) _ _ _ _ _ _
theorem OrP.mk' {w w2 : World} {x4 x5 : Nat} {r : Sh × Ans} {A : Sad} (hR : RsB w w2 x4 x5) (hM : ShM w2 r.1 A) :
    ∀ u, u = set5s (set5s w2 x4 (.slice A.ra r.1.rows.length A.rc) (.slice A.ha r.1.holds.length A.hc) (.slice A.oa r.1.opn.length A.oc) (.slice A.da r.1.done.length A.dc) (.int .u64 (r.1.ver : Nat))) x5 (.int .i64 (r.2.err : Nat)) (.string r.2.val) (.int .u64 (r.2.ver : Nat)) (.bool r.2.found) (.bool r.2.cm) → OrP w r (.returned (.tuple #[shV r.1 A, ansV r.2])) u :=
  fun u hu => by
    obtain ⟨h1, h2⟩ := hR.fin hM r.2 u hu
    exact ⟨A, rfl, h1, h2⟩
theorem OrP.mkN {w w2 : World} {x4 x5 : Nat} {s : Sh} {A : Sad} (n : Nat) (z : Int) (hz : (n : Int) = z) (hR : RsB w w2 x4 x5) (hM : ShM w2 s A) :
    ∀ u, u = ((set5s (set5s w2 x4 (.slice A.ra s.rows.length A.rc) (.slice A.ha s.holds.length A.hc) (.slice A.oa s.opn.length A.oc) (.slice A.da s.done.length A.dc) (.int .u64 (s.ver : Nat))) x5 (.int .i64 z) (.string ⟨#[]⟩) (.int .u64 0) (.bool false) (.bool false)).alloc (.cells #[.int .i64 z, .string ⟨#[]⟩, .int .u64 0, .bool false, .bool false] 38)).drew → OrP w (s, ansE n) (.returned (.tuple #[shV s A, .agg #[.int .i64 z, .string ⟨#[]⟩, .int .u64 0, .bool false, .bool false]])) u :=
  fun u hu => by
    subst hz
    obtain ⟨h1, h2⟩ := hR.fin hM (ansE n) _ rfl
    rw [hu]
    exact ⟨A, rfl, h1.later ((Below.refl _ _).alloc (Nat.le_refl _) _).drew, ((h2.alloc h2.size _).drew)⟩
set_option maxRecDepth 100000 in
set_option maxHeartbeats 4000000 in
theorem rDoIn_any (s : Sh) (A : Sad) (o : Odr) (a : Option Addr) (c : Nat) (q : Option Addr) (qn qc : Nat) (w : World) (hM : ShM w s A) (hk : o.kind = 1 ∨ o.kind = 2 ∨ o.kind = 3 ∨ o.kind = 4)
    (cA : ∀ w', Below w.heap.size w w' → o.kind = 1 ∨ o.kind = 2 → Calls Try.prog 22 #[shV s A, odrV o a c (.slice q qn qc)] w' (OrP w' (asksS s o)))
    (cP : ∀ w', Below w.heap.size w w' → o.kind = 3 → Calls Try.prog 23 #[shV s A, odrV o a c (.slice q qn qc)] w' (OrP w' (prepS s o)))
    (cF : ∀ w', Below w.heap.size w w' → o.kind = 4 → Calls Try.prog 24 #[shV s A, odrV o a c (.slice q qn qc)] w' (OrP w' (finS s o))) :
    Calls Try.prog 11 #[shV s A, odrV o a c (.slice q qn qc)] w (OrP w (doS s o)) := by
  obtain ⟨W, hW⟩ : ∃ W, doW w s A o a c (.slice q qn qc) = W := ⟨_, rfl⟩
  have HR := Lib.hid (hW ▸ doW_rs w s A o a c (.slice q qn qc))
  have HW := Lib.hid hW
  have HMW := Lib.hid (hM.later HR.out.b)
  obtain ⟨r, hr⟩ : ∃ r, doS s o = r := ⟨_, rfl⟩
  rw [hr]
  have HA := Lib.hid (show o.kind = 1 ∨ o.kind = 2 → Calls Try.prog 22 #[shV s A, odrV o a c (.slice q qn qc)] W (OrP W r) from fun h => by
    have := cA W HR.out.b h; rw [← hr, doS, if_pos h]; exact this)
  have HP := Lib.hid (show o.kind = 3 → Calls Try.prog 23 #[shV s A, odrV o a c (.slice q qn qc)] W (OrP W r) from fun h => by
    have := cP W HR.out.b h; rw [← hr, doS, if_neg (by omega), if_pos h]; exact this)
  have HF := Lib.hid (show o.kind = 4 → Calls Try.prog 24 #[shV s A, odrV o a c (.slice q qn qc)] W (OrP W r) from fun h => by
    have := cF W HR.out.b h; rw [← hr, doS, if_neg (by omega), if_neg (by omega), if_pos h]; exact this)
  -- what stands behind a call
  have HE := Lib.hid (show ∀ w2 A2, Below W.heap.size W w2 → ShM w2 r.1 A2 → RsB w w2 (w.heap.size + 1 + 1) (w.heap.size + 1 + 1 + 1) from fun w2 A2 hb _ => HR.out.later hb)
  obtain ⟨kd, t, key, P, cm⟩ := o
  obtain ⟨⟨rr, rh, ro, rd, rv⟩, ⟨ae, av, an, af, ac⟩⟩ := r
  simp only at HA HP HF HE hk
  have HK := Lib.hid hk
  clear hk
  clear cA cP cF hM hW hr
  by_cases h1 : kd = 1
  · subst h1
    go_enter Try.func11, Try.ntmps11
    go_wp2_with fail
    have hWX := HW.out
    simp only [doW] at hWX
    rw [hWX]
    clear hWX
    refine (HA.out (by simp)).mono ?_
    rintro e w2 ⟨A2, rfl, hM2, hb2⟩
    have HR2 := Lib.hid (HE.out w2 A2 hb2 hM2)
    have HFI := Lib.hid (OrP.mk' (r := (⟨rr, rh, ro, rd, rv⟩, ⟨ae, av, an, af, ac⟩)) HR2.out hM2)
    obtain ⟨u0, e0⟩ := HR2.out.s.so 0 (by decide)
    obtain ⟨u1, e1⟩ := HR2.out.s.so 1 (by decide)
    obtain ⟨u2, e2⟩ := HR2.out.s.so 2 (by decide)
    obtain ⟨u3, e3⟩ := HR2.out.s.so 3 (by decide)
    obtain ⟨u4, e4⟩ := HR2.out.s.so 4 (by decide)
    obtain ⟨v0, g0⟩ := HR2.out.a.so 0 (by decide)
    obtain ⟨v1, g1⟩ := HR2.out.a.so 1 (by decide)
    obtain ⟨v2, g2⟩ := HR2.out.a.so 2 (by decide)
    obtain ⟨v3, g3⟩ := HR2.out.a.so 3 (by decide)
    obtain ⟨v4, g4⟩ := HR2.out.a.so 4 (by decide)
    have f4 := HR2.out.s.fz
    have f5 := HR2.out.a.fz
    clear hM2 hb2
    go_wp2_with fail
    refine bodyPost_ret (v := .tuple #[shV ⟨rr, rh, ro, rd, rv⟩ A2, ansV ⟨ae, av, an, af, ac⟩]) (by simp [results, Try.results11, go_sem, e0, e1, e2, e3, e4, g0, g1, g2, g3, g4]) rfl ?_
    exact HFI.out _ rfl
  have n1 : (kd == 1) = false := by simpa using h1
  by_cases h2 : kd = 2
  · subst h2
    go_enter Try.func11, Try.ntmps11
    go_wp2_with fail
    have hWX := HW.out
    simp only [doW] at hWX
    rw [hWX]
    clear hWX
    refine (HA.out (by simp)).mono ?_
    rintro e w2 ⟨A2, rfl, hM2, hb2⟩
    have HR2 := Lib.hid (HE.out w2 A2 hb2 hM2)
    have HFI := Lib.hid (OrP.mk' (r := (⟨rr, rh, ro, rd, rv⟩, ⟨ae, av, an, af, ac⟩)) HR2.out hM2)
    obtain ⟨u0, e0⟩ := HR2.out.s.so 0 (by decide)
    obtain ⟨u1, e1⟩ := HR2.out.s.so 1 (by decide)
    obtain ⟨u2, e2⟩ := HR2.out.s.so 2 (by decide)
    obtain ⟨u3, e3⟩ := HR2.out.s.so 3 (by decide)
    obtain ⟨u4, e4⟩ := HR2.out.s.so 4 (by decide)
    obtain ⟨v0, g0⟩ := HR2.out.a.so 0 (by decide)
    obtain ⟨v1, g1⟩ := HR2.out.a.so 1 (by decide)
    obtain ⟨v2, g2⟩ := HR2.out.a.so 2 (by decide)
    obtain ⟨v3, g3⟩ := HR2.out.a.so 3 (by decide)
    obtain ⟨v4, g4⟩ := HR2.out.a.so 4 (by decide)
    have f4 := HR2.out.s.fz
    have f5 := HR2.out.a.fz
    clear hM2 hb2
    go_wp2_with fail
    refine bodyPost_ret (v := .tuple #[shV ⟨rr, rh, ro, rd, rv⟩ A2, ansV ⟨ae, av, an, af, ac⟩]) (by simp [results, Try.results11, go_sem, e0, e1, e2, e3, e4, g0, g1, g2, g3, g4]) rfl ?_
    exact HFI.out _ rfl
  have n2 : (kd == 2) = false := by simpa using h2
  by_cases h3 : kd = 3
  · subst h3
    go_enter Try.func11, Try.ntmps11
    go_wp2_with fail
    have hWX := HW.out
    simp only [doW] at hWX
    rw [hWX]
    clear hWX
    refine (HP.out (by simp)).mono ?_
    rintro e w2 ⟨A2, rfl, hM2, hb2⟩
    have HR2 := Lib.hid (HE.out w2 A2 hb2 hM2)
    have HFI := Lib.hid (OrP.mk' (r := (⟨rr, rh, ro, rd, rv⟩, ⟨ae, av, an, af, ac⟩)) HR2.out hM2)
    obtain ⟨u0, e0⟩ := HR2.out.s.so 0 (by decide)
    obtain ⟨u1, e1⟩ := HR2.out.s.so 1 (by decide)
    obtain ⟨u2, e2⟩ := HR2.out.s.so 2 (by decide)
    obtain ⟨u3, e3⟩ := HR2.out.s.so 3 (by decide)
    obtain ⟨u4, e4⟩ := HR2.out.s.so 4 (by decide)
    obtain ⟨v0, g0⟩ := HR2.out.a.so 0 (by decide)
    obtain ⟨v1, g1⟩ := HR2.out.a.so 1 (by decide)
    obtain ⟨v2, g2⟩ := HR2.out.a.so 2 (by decide)
    obtain ⟨v3, g3⟩ := HR2.out.a.so 3 (by decide)
    obtain ⟨v4, g4⟩ := HR2.out.a.so 4 (by decide)
    have f4 := HR2.out.s.fz
    have f5 := HR2.out.a.fz
    clear hM2 hb2
    go_wp2_with fail
    refine bodyPost_ret (v := .tuple #[shV ⟨rr, rh, ro, rd, rv⟩ A2, ansV ⟨ae, av, an, af, ac⟩]) (by simp [results, Try.results11, go_sem, e0, e1, e2, e3, e4, g0, g1, g2, g3, g4]) rfl ?_
    exact HFI.out _ rfl
  have n3 : (kd == 3) = false := by simpa using h3
  by_cases h4 : kd = 4
  · subst h4
    go_enter Try.func11, Try.ntmps11
    go_wp2_with fail
    have hWX := HW.out
    simp only [doW] at hWX
    rw [hWX]
    clear hWX
    refine (HF.out (by simp)).mono ?_
    rintro e w2 ⟨A2, rfl, hM2, hb2⟩
    have HR2 := Lib.hid (HE.out w2 A2 hb2 hM2)
    have HFI := Lib.hid (OrP.mk' (r := (⟨rr, rh, ro, rd, rv⟩, ⟨ae, av, an, af, ac⟩)) HR2.out hM2)
    obtain ⟨u0, e0⟩ := HR2.out.s.so 0 (by decide)
    obtain ⟨u1, e1⟩ := HR2.out.s.so 1 (by decide)
    obtain ⟨u2, e2⟩ := HR2.out.s.so 2 (by decide)
    obtain ⟨u3, e3⟩ := HR2.out.s.so 3 (by decide)
    obtain ⟨u4, e4⟩ := HR2.out.s.so 4 (by decide)
    obtain ⟨v0, g0⟩ := HR2.out.a.so 0 (by decide)
    obtain ⟨v1, g1⟩ := HR2.out.a.so 1 (by decide)
    obtain ⟨v2, g2⟩ := HR2.out.a.so 2 (by decide)
    obtain ⟨v3, g3⟩ := HR2.out.a.so 3 (by decide)
    obtain ⟨v4, g4⟩ := HR2.out.a.so 4 (by decide)
    have f4 := HR2.out.s.fz
    have f5 := HR2.out.a.fz
    clear hM2 hb2
    go_wp2_with fail
    refine bodyPost_ret (v := .tuple #[shV ⟨rr, rh, ro, rd, rv⟩ A2, ansV ⟨ae, av, an, af, ac⟩]) (by simp [results, Try.results11, go_sem, e0, e1, e2, e3, e4, g0, g1, g2, g3, g4]) rfl ?_
    exact HFI.out _ rfl
  have hk := HK.out
  omega
end Go.Proofs.Ythgnecggdlamfaa
/- What the program's ways of an order need; mayAccess. -/
namespace Go.Proofs.Ythgnecggdlamfaa
open Go.RowKit

/-- What a way of an order answers; it may write what lies from B on. -/
def OrB (B : Nat) (w : World) (r : Sh × Ans) (e : Ending) (w' : World) : Prop := ∃ A, e = .returned (.tuple #[shV r.1 A, ansV r.2]) ∧ ShM w' r.1 A ∧ Below B w w'
/-- The two boxes of the results. -/
structure RsC (B : Nat) (w0 w : World) (x4 x5 : Nat) : Prop where
  s : KB w x4 sK
  a : KB w x5 aK
  l4 : B ≤ x4
  l5 : x4 < x5
  b : Below B w0 w
theorem RsC.later {B : Nat} {w0 w w' : World} {x4 x5 : Nat} (h : RsC B w0 w x4 x5) (hB : B ≤ w.heap.size) (hb : Below w.heap.size w w') : RsC B w0 w' x4 x5 :=
  ⟨h.s.later hb, h.a.later hb, h.l4, h.l5, h.b.trans (hb.mono hB)⟩
theorem RsC.size {B : Nat} {w0 w : World} {x4 x5 : Nat} (h : RsC B w0 w x4 x5) : B ≤ w.heap.size := Nat.le_trans h.l4 (Nat.le_of_lt h.s.lt)
theorem RsC.grown {B g : Nat} {w0 w w' : World} {x4 x5 : Nat} (h : RsC B w0 w x4 x5) (hg : w.grownBy w' (some g)) (hB : B ≤ g) (h4 : x4 ≠ g) (h5 : x5 ≠ g) : RsC B w0 w' x4 x5 :=
  ⟨h.s.grownK hg h4, h.a.grownK hg h5, h.l4, h.l5, h.b.grown hg h.size (fun k e => by cases e; exact hB)⟩
theorem OrB.mk' {B : Nat} {w w2 : World} {x4 x5 : Nat} {r : Sh × Ans} {A : Sad} (hR : RsC B w w2 x4 x5) (hM : ShM w2 r.1 A) :
    ∀ u, u = set5s (set5s w2 x4 (.slice A.ra r.1.rows.length A.rc) (.slice A.ha r.1.holds.length A.hc) (.slice A.oa r.1.opn.length A.oc) (.slice A.da r.1.done.length A.dc) (.int .u64 (r.1.ver : Nat))) x5 (.int .i64 (r.2.err : Nat)) (.string r.2.val) (.int .u64 (r.2.ver : Nat)) (.bool r.2.found) (.bool r.2.cm) → OrB B w r (.returned (.tuple #[shV r.1 A, ansV r.2])) u :=
  fun u hu => by
    rw [hu]
    exact ⟨A, rfl, (hM.set5 _ _ _ _ _ hR.s fits_s rfl).set5 _ _ _ _ _ (hR.a.far5 (by have := hR.l5; omega)) fits_a rfl, below_set5s (below_set5s hR.b hR.l4) (Nat.le_trans hR.l4 (Nat.le_of_lt hR.l5))⟩
theorem OrB.drew {B : Nat} {w w' : World} {r : Sh × Ans} {e : Ending} (h : OrB B w r e w') : OrB B w r e w'.drew := by
  obtain ⟨A, h1, h2, h3⟩ := h
  exact ⟨A, h1, h2.later (Below.refl _ _).drew, h3.drew⟩
/-- An order in a box. -/
structure OB (w : World) (x : Nat) (o : Odr) (a : Option Addr) (c : Nat) (u : Value) : Prop where
  lt : x < w.heap.size
  c0 : w.cell? ⟨x, 0, none⟩ = some (.int .i64 o.kind)
  c1 : w.cell? ⟨x, 1, none⟩ = some (.int .u64 (o.t.age : Nat))
  c2 : w.cell? ⟨x, 2, none⟩ = some (.int .u64 (o.t.id : Nat))
  c3 : w.cell? ⟨x, 3, none⟩ = some (.string o.key)
  c4 : w.cell? ⟨x, 4, none⟩ = some (.slice a o.puts.length c)
  c5 : w.cell? ⟨x, 5, none⟩ = some (.bool o.cm)
  c6 : w.cell? ⟨x, 6, none⟩ = some u
theorem OB.keep {w w' : World} {x : Nat} {o : Odr} {a : Option Addr} {c : Nat} {u : Value} (h : OB w x o a c u) (hl : w.heap.size ≤ w'.heap.size) (f : ∀ j v, w.cell? ⟨x, j, none⟩ = some v → w'.cell? ⟨x, j, none⟩ = some v) : OB w' x o a c u :=
  ⟨Nat.lt_of_lt_of_le h.lt hl, f _ _ h.c0, f _ _ h.c1, f _ _ h.c2, f _ _ h.c3, f _ _ h.c4, f _ _ h.c5, f _ _ h.c6⟩
theorem OB.later {w w' : World} {x : Nat} {o : Odr} {a : Option Addr} {c : Nat} {u : Value} (h : OB w x o a c u) (hb : Below w.heap.size w w') : OB w' x o a c u :=
  h.keep hb.size fun j _ e => (hb.cell (p := ⟨x, j, none⟩) h.lt).trans e
theorem OB.grown {w w' : World} {x g : Nat} {o : Odr} {a : Option Addr} {c : Nat} {u : Value} (h : OB w x o a c u) (hg : w.grownBy w' (some g)) (hne : x ≠ g) : OB w' x o a c u :=
  h.keep hg.size fun j v e => (World.cell?_of_block (a := ⟨x, j, none⟩) (hg.block x h.lt (by simpa using hne))).trans e
/-- The four boxes of a way of an order. -/
theorem four {w W : World} {s : Sh} {A : Sad} {o : Odr} {a : Option Addr} {c x : Nat} {u : Value} (hW : doW w s A o a c u = W) (hx : w.heap.size = x) : BS W x s A ∧ OB W (x + 1) o a c u ∧ RsC w.heap.size w W (x + 1 + 1) (x + 1 + 1 + 1) ∧ Below w.heap.size w W ∧ W.heap.size = x + 1 + 1 + 1 + 1 := by
  subst hW hx
  have h := doW_rs w s A o a c u
  refine ⟨⟨?_, by simp [doW, go_sem], by simp [doW, go_sem], by simp [doW, go_sem], by simp [doW, go_sem], by simp [doW, go_sem]⟩, ⟨by simp [doW], by simp [doW, go_sem], by simp [doW, go_sem], by simp [doW, go_sem], by simp [doW, go_sem], by simp [doW, go_sem], by simp [doW, go_sem], by simp [doW, go_sem]⟩, ⟨h.s, h.a, h.l4, h.l5, h.b⟩, h.b, by simp [doW]⟩
  unfold doW
  exact (((KB.new5 rfl _ _ _ _ _ _).later ((Below.refl _ _).alloc (Nat.le_refl _) _)).later ((Below.refl _ _).alloc (Nat.le_refl _) _)).later ((Below.refl _ _).alloc (Nat.le_refl _) _)
/-- Why a transaction that is not over may not ask for a lock. -/
def mayA (s : Sh) (o : Odr) : Nat :=
  if o.key.size < 1 ∨ 16 < o.key.size then 1
  else match knoS o.t s.opn with
    | none => if 64 ≤ s.opn.length + s.done.length then 5 else 0
    | some x => if x.wd then 12 else if x.fm then 9 else 0
set_option maxRecDepth 100000 in
set_option maxHeartbeats 4000000 in
theorem mayAccess_any (s : Sh) (A : Sad) (o : Odr) (a : Option Addr) (c : Nat) (u : Value) (w : World) (hM : ShM w s A) (zs : SzS s) (hk : o.key.size ≤ 140737488351232) :
    Calls Try.prog 41 #[shV s A, odrV o a c u] w fun e w' => e = .returned (.int .i64 (mayA s o : Nat)) ∧ Below w.heap.size w w' := by
  obtain ⟨W, hW⟩ : ∃ W, (w.alloc (.cells #[.slice A.ra s.rows.length A.rc, .slice A.ha s.holds.length A.hc, .slice A.oa s.opn.length A.oc, .slice A.da s.done.length A.dc, .int .u64 (s.ver : Nat)] 28)).alloc (.cells #[.int .i64 o.kind, .int .u64 (o.t.age : Nat), .int .u64 (o.t.id : Nat), .string o.key, .slice a o.puts.length c, .bool o.cm, u] 34) = W := ⟨_, rfl⟩
  obtain ⟨x2, hx2⟩ : ∃ x, w.heap.size = x := ⟨_, rfl⟩
  have hX : Below w.heap.size w W ∧ BS W x2 s A ∧ OB W (x2 + 1) o a c u := by
    subst hW hx2
    refine ⟨by go_grown, ⟨(KB.new5 rfl _ _ _ _ _ _).later ((Below.refl _ _).alloc (Nat.le_refl _) _), by simp [go_sem], by simp [go_sem], by simp [go_sem], by simp [go_sem], by simp [go_sem]⟩, ⟨by simp, by simp [go_sem], by simp [go_sem], by simp [go_sem], by simp [go_sem], by simp [go_sem], by simp [go_sem], by simp [go_sem]⟩⟩
  obtain ⟨hB, hS, hO⟩ := hX
  have hol : s.opn.length ≤ 140737488351232 := by have := zs.olen; omega
  have hdl : s.done.length ≤ 140737488351232 := by have := zs.dlen; omega
  have HOP := Lib.hid (fun w' (h : Below W.heap.size W w') => openAt_any s A o.t w' ((hM.later hB).later h) hol)
  have HFU := Lib.hid (fun w' => full_any s A w' hol hdl)
  have HM := Lib.hid (hM.later hB)
  have HB := Lib.hid hB
  have HS := Lib.hid hS
  have HO := Lib.hid hO
  have HW := Lib.hid hW
  have HX2 := Lib.hid hx2
  obtain ⟨r, hr⟩ : ∃ r, mayA s o = r := ⟨_, rfl⟩
  rw [hr]
  have HR := Lib.hid hr
  obtain ⟨kd, ⟨ta, ti⟩, key, P, cm⟩ := o
  obtain ⟨_, o0, o1, o2, o3, o4, o5, o6⟩ := hO
  obtain ⟨_, c0, c1, c2, c3, c4⟩ := hS
  simp only at o0 o1 o2 o3 o4 o5 hk HOP
  clear hM zs hB hW hx2 hr
  by_cases h1 : key.size < 1
  · obtain rfl : r = 1 := by rw [← HR.out]; unfold mayA; rw [if_pos (.inl h1)]
    have g1 : (key.size : Int) < 1 := by omega
    clear h1
    go_enter Try.func41, Try.ntmps41
    go_wp2_with fail
    try rw [HW.out]
    go_wp2_with fail
    go_ret
    exact ⟨by first | rfl | simp, HB.out⟩
  have g1 : ¬ (key.size : Int) < 1 := by omega
  by_cases h2 : 16 < key.size
  · obtain rfl : r = 1 := by rw [← HR.out]; unfold mayA; rw [if_pos (.inr h2)]
    have g2 : (16 : Int) < (key.size : Int) := by omega
    clear h1 h2
    go_enter Try.func41, Try.ntmps41
    go_wp2_with fail
    try rw [HW.out]
    go_wp2_with fail
    go_ret
    exact ⟨by first | rfl | simp, HB.out⟩
  have g2 : ¬ (16 : Int) < (key.size : Int) := by omega
  have HR2 := Lib.hid (show r = match knoS ⟨ta, ti⟩ s.opn with
    | none => if 64 ≤ s.opn.length + s.done.length then 5 else 0
    | some x => if x.wd then 12 else if x.fm then 9 else 0 from by rw [← HR.out]; unfold mayA; rw [if_neg (fun h => by rcases h with h | h; exact h1 h; exact h2 h)])
  clear h1 h2
  go_enter Try.func41, Try.ntmps41
  go_wp2_with fail
  rw [HW.out, HX2.out]
  go_wp2_with fail
  refine (HOP.out W (Below.refl _ _)).mono ?_
  rintro e w1 ⟨rfl, hb1⟩
  have HB1 := Lib.hid (HB.out.trans (hb1.mono HB.out.size))
  obtain ⟨_, c0', c1', c2', c3', c4'⟩ := HS.out.later hb1
  have HM1 := Lib.hid (HM.out.later hb1)
  clear hb1 c0 c1 c2 c3 c4 o0 o1 o2 o3 o4 o5 o6
  rcases kix_kno ⟨ta, ti⟩ s.opn 0 with ⟨h3, h4⟩ | ⟨j, x, h3, h4, h5⟩
  · rw [h3]
    have HR3 := Lib.hid (show r = if 64 ≤ s.opn.length + s.done.length then 5 else 0 from by rw [HR2.out, h4])
    clear h3 h4
    have g3 : ixI none = -1 := rfl
    rw [g3]
    clear g3
    go_wp2_with fail
    refine (HFU.out w1).mono ?_
    rintro e w2 ⟨rfl, hb2⟩
    have HB2 := Lib.hid (HB1.out.trans (hb2.mono HB1.out.size))
    clear hb2
    by_cases h64 : 64 ≤ s.opn.length + s.done.length
    · rw [decide_eq_true h64]
      obtain rfl : r = 5 := by rw [HR3.out, if_pos h64]
      clear h64
      go_wp2_with fail
      go_ret
      exact ⟨by first | rfl | simp, HB2.out⟩
    · rw [decide_eq_false h64]
      obtain rfl : r = 0 := by rw [HR3.out, if_neg h64]
      clear h64
      go_wp2_with fail
      go_ret
      exact ⟨by first | rfl | simp, HB2.out⟩
  · rw [h3, Nat.zero_add]
    have HR3 := Lib.hid (show r = if x.wd then 12 else if x.fm then 9 else 0 from by rw [HR2.out, h5])
    have hjl := (List.getElem?_eq_some_iff.1 h4).1
    obtain ⟨y, hy⟩ : ∃ y, A.om[j]? = some y := ⟨_, List.getElem?_eq_getElem (by rw [HM1.out.olen]; exact hjl)⟩
    have hyx : y.x = x := by
      have h6 : s.opn[j]? = some y.x := by rw [← HM1.out.om, List.getElem?_map, hy]; rfl
      rw [h4] at h6
      exact (Option.some.inj h6).symm
    obtain ⟨b, off, e, _, p0, p1, p2, p3, p4⟩ := Sop.cells HM1.out.opn hy
    rw [hyx] at p2 p3
    obtain ⟨oo, hoo⟩ : ∃ q, A.oa = q := ⟨_, rfl⟩
    rw [hoo] at e c2'
    subst e
    obtain ⟨on, hon⟩ : ∃ n, s.opn.length = n := ⟨_, rfl⟩
    rw [hon] at c2' hjl
    have i0 : (0 : Int) ≤ (j : Int) := by omega
    have i1 : (j : Int) < (on : Int) := by omega
    have i2 : ¬ (j : Int) < 0 := by omega
    have g3 : ixI (some j) = (j : Int) := rfl
    rw [g3]
    clear g3 h3 h4 h5 hy hyx p0 p1 p4 hoo hon hjl
    obtain ⟨xt, xf, xw, xp⟩ := x
    simp only at p2 p3 HR3
    cases xw
    · cases xf
      · obtain rfl : r = 0 := HR3.out
        go_wp2_with fail
        go_ret
        exact ⟨by first | rfl | simp, HB1.out⟩
      · obtain rfl : r = 9 := HR3.out
        go_wp2_with fail
        go_ret
        exact ⟨by first | rfl | simp, HB1.out⟩
    · obtain rfl : r = 12 := HR3.out
      go_wp2_with fail
      go_ret
      exact ⟨by first | rfl | simp, HB1.out⟩
end Go.Proofs.Ythgnecggdlamfaa
