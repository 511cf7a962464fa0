/- An answer that refuses: the document's no; orders and answers as Go has them. -/
import Derived.Test.YthgnecggdlamfaaYi
namespace Go.Proofs.Ythgnecggdlamfaa
open Go.RowKit

/-- An answer as Go has it. -/
@[reducible] def ansV (x : Ans) : Value := .agg #[.int .i64 (x.err : Nat), .string x.val, .int .u64 (x.ver : Nat), .bool x.found, .bool x.cm]
/-- An order as Go has it, with where its puts lie and whatever its parts are. -/
@[reducible] def odrV (o : Odr) (a : Option Addr) (c : Nat) (u : Value) : Value := .agg #[.int .i64 o.kind, .int .u64 (o.t.age : Nat), .int .u64 (o.t.id : Nat), .string o.key, .slice a o.puts.length c, .bool o.cm, u]
/-- What an order is answered: a shard in memory and an answer. -/
def OrP (w : World) (r : Sh × Ans) (e : Ending) (w' : World) : Prop := ∃ A, e = .returned (.tuple #[shV r.1 A, ansV r.2]) ∧ ShM w' r.1 A ∧ Below w.heap.size w w'
/-- The memory behind a refusal. -/
@[reducible] def noW (n : Nat) (w : World) : World := w.alloc (.cells #[.int .i64 n, .string ⟨#[]⟩, .int .u64 0, .bool false, .bool false] 38)
set_option maxRecDepth 100000 in
set_option maxHeartbeats 4000000 in
theorem rNoW_any (n : Nat) (w : World) :
    Calls Try.prog 25 #[.int .i64 n] w fun e w' => e = .returned (ansV (ansE n)) ∧ w' = noW n w := by
  go_enter Try.func25, Try.ntmps25
  go_wp2_with fail
  refine bodyPost_ret (v := ansV (ansE n)) (by simp [results, Try.results25, go_sem, ansE]) rfl ?_
  exact ⟨rfl, rfl⟩
theorem rNo_any (n : Nat) (w : World) :
    Calls Try.prog 25 #[.int .i64 n] w fun e w' => e = .returned (ansV (ansE n)) ∧ Below w.heap.size w w' :=
  (rNoW_any n w).mono (by rintro e w' ⟨rfl, rfl⟩; exact ⟨rfl, by go_grown⟩)
end Go.Proofs.Ythgnecggdlamfaa
/- Boxes of which each cell's kind is known: what is laid in one can lie in no list of a shard. -/
namespace Go.Proofs.Ythgnecggdlamfaa
open Go.RowKit

/-- A value's kind. -/
def kdV : Value → Nat
  | .slice _ _ _ => 1
  | .int .u64 _ => 2
  | .int .i64 _ => 3
  | .string _ => 4
  | .bool _ => 5
  | _ => 0
/-- A box whose cells have the given kinds, and no others. -/
structure KB (w : World) (x : Nat) (ks : List Nat) : Prop where
  cs : ∀ (o : Nat) (u : Value), w.cell? ⟨x, o, none⟩ = some u → ks[o]? = some (kdV u)
  so : ∀ o, o < ks.length → ∃ u, w.cell? ⟨x, o, none⟩ = some u
  fz : ∀ j, w.frozen? ⟨x, j, none⟩ = false
  lt : x < w.heap.size
theorem KB.later {w w' : World} {x : Nat} {ks : List Nat} (h : KB w x ks) (hb : Below w.heap.size w w') : KB w' x ks :=
  ⟨fun o u e => h.cs o u ((hb.cell (p := ⟨x, o, none⟩) h.lt).symm.trans e), fun o ho => by obtain ⟨u, e⟩ := h.so o ho; exact ⟨u, (hb.cell (p := ⟨x, o, none⟩) h.lt).trans e⟩, fun j => (hb.frozen (p := ⟨x, j, none⟩) h.lt).trans (h.fz j), Nat.lt_of_lt_of_le h.lt hb.size⟩
theorem KB.far {w : World} {x : Nat} {ks : List Nat} (h : KB w x ks) {y : Nat} (hne : y ≠ x) (i : Nat) (v : Value) : KB (w.setCell ⟨y, i, none⟩ v) x ks :=
  ⟨fun o u e => h.cs o u ((World.cell?_setCell_far _ _ _ _ hne).symm.trans e), fun o ho => by obtain ⟨u, e⟩ := h.so o ho; exact ⟨u, (World.cell?_setCell_far _ _ _ _ hne).trans e⟩, fun j => by simpa using h.fz j, by simpa using h.lt⟩
theorem KB.set {w : World} {x : Nat} {ks : List Nat} (h : KB w x ks) {i : Nat} {v : Value} (hv : ks[i]? = some (kdV v)) : KB (w.setCell ⟨x, i, none⟩ v) x ks := by
  obtain ⟨hi, _⟩ := List.getElem?_eq_some_iff.1 hv
  obtain ⟨ui, hui⟩ := h.so i hi
  refine ⟨fun o u e => ?_, fun o ho => ?_, fun j => by simpa using h.fz j, by simpa using h.lt⟩
  · by_cases ho : o = i
    · subst ho
      simp [go_sem, hui] at e
      rw [← e]; exact hv
    · exact h.cs o u (by simpa [go_sem, ho, Ne.symm ho] using e)
  · by_cases hoi : o = i
    · subst hoi; exact ⟨v, by simp [go_sem, hui]⟩
    · obtain ⟨u, e⟩ := h.so o ho; exact ⟨u, by simpa [go_sem, hoi, Ne.symm hoi] using e⟩
theorem KB.new5 {w : World} {x : Nat} (hx : x = w.heap.size) (v0 v1 v2 v3 v4 : Value) (T : TypeId) : KB (w.alloc (.cells #[v0, v1, v2, v3, v4] T)) x [kdV v0, kdV v1, kdV v2, kdV v3, kdV v4] := by
  subst hx
  refine ⟨fun o u e => ?_, fun o ho => ?_, fun j => by simp [go_sem], by simp⟩
  · match o, e with
    | 0, e => simp [go_sem] at e; simp [e]
    | 1, e => simp [go_sem] at e; simp [e]
    | 2, e => simp [go_sem] at e; simp [e]
    | 3, e => simp [go_sem] at e; simp [e]
    | 4, e => simp [go_sem] at e; simp [e]
    | o + 5, e => simp [go_sem] at e
  · match o, ho with
    | 0, _ => exact ⟨v0, by simp [go_sem]⟩
    | 1, _ => exact ⟨v1, by simp [go_sem]⟩
    | 2, _ => exact ⟨v2, by simp [go_sem]⟩
    | 3, _ => exact ⟨v3, by simp [go_sem]⟩
    | 4, _ => exact ⟨v4, by simp [go_sem]⟩
    | o + 5, h => simp at h; omega
/-- No row of such elements fits among the kinds. -/
def NoFit {α : Type} (f : α → List Value) (ks : List Nat) : Prop := ∀ (y : α) (o : Nat), ¬ ∀ (i : Nat) (u : Value), (f y)[i]? = some u → ks[o + i]? = some (kdV u)
theorem Rw.notin {α : Type} {k : Nat} {f : α → List Value} {w : World} {a : Option Addr} {L : List α} (h : Rw k f w a L) {x : Nat} {ks : List Nat} (hK : KB w x ks) (hn : NoFit f ks) : 0 < L.length → ∀ q, a = some q → q.block ≠ x := by
  intro hL q hq hqx
  obtain ⟨b, off, e, _, c⟩ := h 0 L[0] (List.getElem?_eq_getElem hL)
  rw [e] at hq
  obtain rfl := (Option.some.inj hq).symm
  simp only at hqx
  subst hqx
  refine hn L[0] off fun i u hu => hK.cs _ _ ?_
  have := c i u hu
  simpa using this
end Go.Proofs.Ythgnecggdlamfaa
/- A shard and an answer are laid in the boxes of a call's results: no list of a shard is touched. -/
namespace Go.Proofs.Ythgnecggdlamfaa
open Go.RowKit

/-- The kinds of a shard's cells, of an answer's. -/
abbrev sK : List Nat := [1, 1, 1, 1, 2]
abbrev aK : List Nat := [3, 4, 2, 5, 5]
structure Fits (ks : List Nat) : Prop where
  ro : NoFit roC ks
  pu : NoFit puC ks
  ho : NoFit hoC ks
  so : NoFit sopC ks
  dn : NoFit sdnC ks
theorem fits_s : Fits sK := by
  refine ⟨?_, ?_, ?_, ?_, ?_⟩
  all_goals
    intro y o h
    have h0 := h 0 _ rfl
    have h1 := h 1 _ rfl
    match o, h0, h1 with
    | 0, h0, h1 => simp [kdV] at h0 h1
    | 1, h0, h1 => simp [kdV] at h0 h1
    | 2, h0, h1 => simp [kdV] at h0 h1
    | 3, h0, h1 => simp [kdV] at h0 h1
    | 4, h0, h1 => simp [kdV] at h0 h1
    | o + 5, h0, h1 => simp at h0
theorem fits_a : Fits aK := by
  refine ⟨?_, ?_, ?_, ?_, ?_⟩
  all_goals
    intro y o h
    have h0 := h 0 _ rfl
    have h1 := h 1 _ rfl
    have h2 := h 2 _ rfl
    match o, h0, h1, h2 with
    | 0, h0, h1, h2 => simp [kdV] at h0 h1 h2
    | 1, h0, h1, h2 => simp [kdV] at h0 h1 h2
    | 2, h0, h1, h2 => simp [kdV] at h0 h1 h2
    | 3, h0, h1, h2 => simp [kdV] at h0 h1 h2
    | 4, h0, h1, h2 => simp [kdV] at h0 h1 h2
    | o + 5, h0, h1, h2 => simp at h0
theorem ShM.set {w : World} {s : Sh} {A : Sad} (h : ShM w s A) {x : Nat} {ks : List Nat} (hK : KB w x ks) (hf : Fits ks) (i : Nat) (v : Value) : ShM (w.setCell ⟨x, i, none⟩ v) s A :=
  ⟨h.rows.far (Rw.notin h.rows hK hf.ro) i v, h.holds.far (Rw.notin h.holds hK hf.ho) i v, h.om, h.opn.far (Rw.notin h.opn hK hf.so) i v, fun y hy => (h.puts y hy).far (Rw.notin (h.puts y hy) hK hf.pu) i v, h.done.far (Rw.notin h.done hK hf.dn) i v, h.cp⟩
@[reducible] def set5s (w1 : World) (x : Nat) (v0 v1 v2 v3 v4 : Value) : World := ((((w1.setCell ⟨x, 0, none⟩ v0).setCell ⟨x, 1, none⟩ v1).setCell ⟨x, 2, none⟩ v2).setCell ⟨x, 3, none⟩ v3).setCell ⟨x, 4, none⟩ v4
theorem below_set5s {w w1 : World} {B x : Nat} {v0 v1 v2 v3 v4 : Value} (h : Below B w w1) (hx : B ≤ x) : Below B w (set5s w1 x v0 v1 v2 v3 v4) :=
  ((((h.setCell hx _).setCell hx _).setCell hx _).setCell hx _).setCell hx _
theorem KB.set5 {w : World} {x : Nat} {v0 v1 v2 v3 v4 : Value} (h : KB w x [kdV v0, kdV v1, kdV v2, kdV v3, kdV v4]) : KB (set5s w x v0 v1 v2 v3 v4) x [kdV v0, kdV v1, kdV v2, kdV v3, kdV v4] :=
  ((((h.set (i := 0) (v := v0) rfl).set (i := 1) (v := v1) rfl).set (i := 2) (v := v2) rfl).set (i := 3) (v := v3) rfl).set (i := 4) (v := v4) rfl
theorem KB.far5 {w : World} {x y : Nat} {ks : List Nat} {v0 v1 v2 v3 v4 : Value} (h : KB w x ks) (hne : y ≠ x) : KB (set5s w y v0 v1 v2 v3 v4) x ks :=
  ((((h.far hne 0 v0).far hne 1 v1).far hne 2 v2).far hne 3 v3).far hne 4 v4
theorem ShM.set5 {w : World} {s : Sh} {A : Sad} (h : ShM w s A) {x : Nat} (v0 v1 v2 v3 v4 : Value) {ks : List Nat} (hK : KB w x ks) (hf : Fits ks) (e : ks = [kdV v0, kdV v1, kdV v2, kdV v3, kdV v4]) : ShM (set5s w x v0 v1 v2 v3 v4) s A := by
  subst e
  have k0 := hK.set (i := 0) (v := v0) rfl
  have k1 := k0.set (i := 1) (v := v1) rfl
  have k2 := k1.set (i := 2) (v := v2) rfl
  have k3 := k2.set (i := 3) (v := v3) rfl
  exact ((((h.set hK hf 0 v0).set k0 hf 1 v1).set k1 hf 2 v2).set k2 hf 3 v3).set k3 hf 4 v4
theorem below_fin {w wx : World} {x5 : Nat} (hl : w.heap.size ≤ x5) {u0 u1 u2 u3 u4 : Value} {x4 : Nat} (h4 : w.heap.size ≤ x4) {v0 v1 v2 v3 v4 : Value} (hB : Below w.heap.size w wx) : Below w.heap.size w (set5s (set5s wx x4 v0 v1 v2 v3 v4) x5 u0 u1 u2 u3 u4) :=
  below_set5s (below_set5s hB h4) hl
/-- The boxes of a call's results, a shard and an answer. -/
structure RsB (w0 w : World) (x4 x5 : Nat) : Prop where
  s : KB w x4 sK
  a : KB w x5 aK
  l4 : w0.heap.size ≤ x4
  l5 : x4 < x5
  b : Below w0.heap.size w0 w
theorem RsB.later {w0 w w' : World} {x4 x5 : Nat} (h : RsB w0 w x4 x5) (hb : Below w.heap.size w w') : RsB w0 w' x4 x5 :=
  ⟨h.s.later hb, h.a.later hb, h.l4, h.l5, h.b.trans (hb.mono h.b.size)⟩
/-- What is answered once both are laid. -/
theorem RsB.fin {w0 w : World} {x4 x5 : Nat} (h : RsB w0 w x4 x5) {s : Sh} {A : Sad} (hM : ShM w s A) (n : Ans) :
    ∀ u, u = set5s (set5s w x4 (.slice A.ra s.rows.length A.rc) (.slice A.ha s.holds.length A.hc) (.slice A.oa s.opn.length A.oc) (.slice A.da s.done.length A.dc) (.int .u64 (s.ver : Nat))) x5 (.int .i64 (n.err : Nat)) (.string n.val) (.int .u64 (n.ver : Nat)) (.bool n.found) (.bool n.cm) →
      ShM u s A ∧ Below w0.heap.size w0 u := fun u hu => by
  rw [hu]
  exact ⟨(hM.set5 _ _ _ _ _ h.s fits_s rfl).set5 _ _ _ _ _ (h.a.far5 (by have := h.l5; omega)) fits_a rfl, below_fin (by have := h.l4; have := h.l5; omega) h.l4 h.b⟩
end Go.Proofs.Ythgnecggdlamfaa
