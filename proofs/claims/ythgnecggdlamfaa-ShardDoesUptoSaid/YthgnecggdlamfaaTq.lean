/- Stores while a shard of one's own is in hand; append of an open transaction, of an ended one. -/
import Derived.Test.YthgnecggdlamfaaTi
import Derived.Test.YthgnecggdlamfaaYr
namespace Go.Proofs.Ythgnecggdlamfaa
open Go.RowKit

theorem noFit_tx : NoFit txC sK := by
  intro y o h
  have h0 := h 0 _ rfl
  have h1 := h 1 _ rfl
  match o, h0, h1 with
  | 0, h0, h1 => simp [kdV] at h0 h1
  | 1, h0, h1 => simp [kdV] at h0 h1
  | 2, h0, h1 => simp [kdV] at h0 h1
  | 3, h0, h1 => simp [kdV] at h0 h1
  | 4, h0, h1 => simp [kdV] at h0 h1
  | o + 5, h0, h1 => simp at h0
theorem grown_none {w w' : World} (h : w.grownBy w' none) (g : Nat) : w.grownBy w' (some g) := ⟨h.os, h.tape, h.output, h.size, fun k hk _ => h.block k hk (by simp)⟩
/-- A store in a box that is younger than the shard. -/
theorem ShC.far {B g hi : Nat} {w w' : World} {s : Sh} {A : Sad} (h : ShC B w s A) (hlt : ∀ a, (a = A.ra ∨ a = A.ha ∨ a = A.oa ∨ a = A.da ∨ ∃ y ∈ A.om, a = y.a) → LI a B hi) (hg : w.grownBy w' (some g)) (hx : hi ≤ g) : ShC B w' s A := by
  have ne : ∀ a, (a = A.ra ∨ a = A.ha ∨ a = A.oa ∨ a = A.da ∨ ∃ y ∈ A.om, a = y.a) → NE a g := fun a ha => (hlt a ha).ne (.inr hx)
  have nr := ne A.ra (.inl rfl)
  have nh := ne A.ha (.inr (.inl rfl))
  have no := ne A.oa (.inr (.inr (.inl rfl)))
  have nd := ne A.da (.inr (.inr (.inr (.inl rfl))))
  have np := fun y hy => ne y.a (.inr (.inr (.inr (.inr ⟨y, hy, rfl⟩))))
  refine ⟨h.m.grown hg (nr.nb _) (nh.nb _) (no.nb _) (nd.nb _) (fun y hy => (np y hy).nb _), h.opn.grownT sopT hg (fun n c e => ?_), h.done.grownT sdnT hg (fun n c e => ?_), h.lr.mono (Nat.le_refl _) hg.size, h.lh.mono (Nat.le_refl _) hg.size, h.lo.mono (Nat.le_refl _) hg.size, h.ld.mono (Nat.le_refl _) hg.size, fun y hy => (h.lp y hy).mono (Nat.le_refl _) hg.size, h.so, h.sd⟩
  · injection e with e _ _; exact no _ e rfl
  · injection e with e _ _; exact nd _ e rfl
/-- Where a shard's lists lie, told once. -/
theorem ShC.all {B : Nat} {w : World} {s : Sh} {A : Sad} (h : ShC B w s A) : ∀ a, (a = A.ra ∨ a = A.ha ∨ a = A.oa ∨ a = A.da ∨ ∃ y ∈ A.om, a = y.a) → LI a B w.heap.size := by
  rintro a (rfl | rfl | rfl | rfl | ⟨y, hy, rfl⟩)
  · exact h.lr
  · exact h.lh
  · exact h.lo
  · exact h.ld
  · exact h.lp y hy
/-- What stores among the open transactions keep: a block, and who lies elsewhere. -/
theorem ShC.opnG {B hi : Nat} {w w' : World} {s : Sh} {A : Sad} (h : ShC B w s A) (hlo : LI A.oa B hi) (hg : w.grownBy w' (A.oa.map fun q => q.block)) (hB : B ≤ w.heap.size) :
    ∃ g, w.grownBy w' (some g) ∧ B ≤ g ∧ (g < hi ∨ w.heap.size ≤ g) ∧ NE A.ra g ∧ NE A.ha g ∧ NE A.da g ∧ ∀ y ∈ A.om, NE y.a g := by
  cases ho : A.oa with
  | none =>
    rw [ho] at hg
    exact ⟨w.heap.size, grown_none hg _, hB, .inr (Nat.le_refl _), h.lr.ne (.inr (Nat.le_refl _)), h.lh.ne (.inr (Nat.le_refl _)), h.ld.ne (.inr (Nat.le_refl _)), fun y hy => (h.lp y hy).ne (.inr (Nat.le_refl _))⟩
  | some q =>
    rw [ho] at hg
    obtain ⟨h1, h2, h3, h4⟩ := h.so q ho
    have hq := hlo q ho
    exact ⟨q.block, hg, hq.1, .inl hq.2, h1, h2, h3, h4⟩
/-- append(open, one). -/
theorem appO (B : Nat) (w : World) (v : Value) (L : List SopM) (h : Cq 48 5 sopC B w v L) (t : Tx) (hl : (L.length + 1) * 48 ≤ 140737488355328) (hB : B ≤ w.heap.size) :
    ∃ a' c' w', (Builtin.append_ #[24, 24] 24 #[v, .slice (some ⟨w.heap.size, 0, none⟩) 1 1]).run Try.prog (w.alloc (.cells #[.int .u64 (t.age : Nat), .int .u64 (t.id : Nat), .bool false, .bool false, .slice none 0 0] 48)) = .ok (.slice a' (L.length + 1) c') w' ∧ Cq 48 5 sopC B w' (.slice a' (L.length + 1) c') (L ++ [⟨⟨t, false, false, []⟩, none, 0⟩]) ∧ ∃ g, w.grownBy w' (some g) ∧ (w.heap.size ≤ g ∨ B ≤ g ∧ ∃ n c, v = .slice (some ⟨g, 0, none⟩) n c) := by
  have B1 : Below w.heap.size w (w.alloc (.cells #[.int .u64 (t.age : Nat), .int .u64 (t.id : Nat), .bool false, .bool false, .slice none 0 0] 48)) := (Below.refl _ _).alloc (Nat.le_refl _) _
  obtain ⟨v', w', hr, hc, _, r, hg, hr2⟩ := app_rwG sopT B _ 24 v L (h.later B1) (some ⟨w.heap.size, 0, none⟩) 1 1 [⟨⟨t, false, false, []⟩, none, 0⟩] rfl (rw_one (f := sopC) w rfl ⟨⟨t, false, false, []⟩, none, 0⟩ rfl 48) hl (Nat.le_trans hB B1.size)
  obtain ⟨a', c', rfl, _⟩ := hc.form sopT
  rw [List.length_append, List.length_singleton] at hr hc
  refine ⟨a', c', w', hr, hc, ?_⟩
  cases r with
  | none => exact ⟨w.heap.size, grown_trans (grown_of B1) (grown_none hg _), .inl (Nat.le_refl _)⟩
  | some g =>
    obtain ⟨h1, h2⟩ := hr2 g rfl
    exact ⟨g, grown_trans (grown_of B1) hg, .inr ⟨h1, h2⟩⟩
/-- append(done, one). -/
theorem appD (B : Nat) (w : World) (v : Value) (L : List Sdn) (h : Cq 68 3 sdnC B w v L) (y : Sdn) (hl : (L.length + 1) * 24 ≤ 140737488355328) (hB : B ≤ w.heap.size) :
    ∃ a' c' w', (Builtin.append_ #[25, 25] 25 #[v, .slice (some ⟨w.heap.size, 0, none⟩) 1 1]).run Try.prog (w.alloc (.cells #[.int .u64 (y.t.age : Nat), .int .u64 (y.t.id : Nat), .bool y.cm] 68)) = .ok (.slice a' (L.length + 1) c') w' ∧ Cq 68 3 sdnC B w' (.slice a' (L.length + 1) c') (L ++ [y]) ∧ ∃ g, w.grownBy w' (some g) ∧ (w.heap.size ≤ g ∨ B ≤ g ∧ ∃ n c, v = .slice (some ⟨g, 0, none⟩) n c) := by
  have B1 : Below w.heap.size w (w.alloc (.cells #[.int .u64 (y.t.age : Nat), .int .u64 (y.t.id : Nat), .bool y.cm] 68)) := (Below.refl _ _).alloc (Nat.le_refl _) _
  obtain ⟨v', w', hr, hc, _, r, hg, hr2⟩ := app_rwG sdnT B _ 25 v L (h.later B1) (some ⟨w.heap.size, 0, none⟩) 1 1 [y] rfl (rw_one (f := sdnC) w rfl y rfl 68) hl (Nat.le_trans hB B1.size)
  obtain ⟨a', c', rfl, _⟩ := hc.form sdnT
  rw [List.length_append, List.length_singleton] at hr hc
  refine ⟨a', c', w', hr, hc, ?_⟩
  cases r with
  | none => exact ⟨w.heap.size, grown_trans (grown_of B1) (grown_none hg _), .inl (Nat.le_refl _)⟩
  | some g =>
    obtain ⟨h1, h2⟩ := hr2 g rfl
    exact ⟨g, grown_trans (grown_of B1) hg, .inr ⟨h1, h2⟩⟩
/-- What an asking transaction is answered, by steps. -/
theorem asks_over {s : Sh} {o : Odr} {c : Bool} (h : ovrS o.t s.done = some c) : asksS s o = (s, ansC 13 c) := by unfold asksS; rw [h]
theorem asks_may {s : Sh} {o : Odr} (h : ovrS o.t s.done = none) (hm : mayA s o ≠ 0) : asksS s o = (s, ansE (mayA s o)) := by
  unfold asksS mayA at *
  rw [h]
  simp only
  by_cases h1 : o.key.size < 1 ∨ 16 < o.key.size
  · rw [if_pos h1, if_pos h1]
  · rw [if_neg h1, if_neg h1] at *
    cases hk : knoS o.t s.opn with
    | none =>
      rw [hk] at hm
      simp only at hm ⊢
      by_cases h64 : 64 ≤ s.opn.length + s.done.length
      · simp [h64]
      · rw [if_neg h64] at hm; exact absurd rfl hm
    | some x =>
      rw [hk] at hm
      simp only [Option.any_some] at hm ⊢
      by_cases hw : x.wd = true
      · simp [hw]
      · by_cases hf : x.fm = true
        · simp [hw, hf]
        · simp [hw, hf] at hm
/-- What an asking transaction is told of a key. -/
def gAns (R : List Ro) (key : ByteArray) (ver : Nat) : Ans := match getR key R with
  | some x => ⟨0, x.val, x.ver, true, false⟩
  | none => ⟨0, ⟨#[]⟩, ver, false, false⟩
theorem gAns_eq (R : List Ro) (key : ByteArray) (ver : Nat) : gAns R key ver = ⟨0, ((getR key R).getD z0).val, if (getR key R).isSome then ((getR key R).getD z0).ver else ver, (getR key R).isSome, false⟩ := by
  unfold gAns
  cases getR key R <;> rfl
theorem asks_ask {s : Sh} {o : Odr} (h : ovrS o.t s.done = none) (hm : mayA s o = 0) {L : List Ho} {out : List Tx} {e : Nat} (ha : askH s.holds o.t o.key (decide (o.kind = 2)) (firmS s.opn) = (L, out, e)) :
    asksS s o = if e ≠ 0 then (s, ansE e) else (⟨s.rows, L, wndS out s.opn ++ (if (knoS o.t s.opn).isNone then [⟨o.t, false, false, []⟩] else []), s.done, s.ver⟩, gAns s.rows o.key s.ver) := by
  unfold mayA at hm
  unfold asksS
  rw [h, ha]
  simp only
  by_cases h1 : o.key.size < 1 ∨ 16 < o.key.size
  · rw [if_pos h1] at hm; cases hm
  · rw [if_neg h1] at hm ⊢
    cases hk : knoS o.t s.opn with
    | none =>
      rw [hk] at hm
      simp only at hm
      by_cases h64 : 64 ≤ s.opn.length + s.done.length
      · rw [if_pos h64] at hm; cases hm
      · simp [h64]
        rfl
    | some x =>
      rw [hk] at hm
      simp only at hm
      cases hw : x.wd
      · cases hf : x.fm
        · simp [hw, hf]
          rfl
        · rw [hw, hf] at hm; cases hm
      · rw [hw] at hm; cases hm
theorem ask_out_ok {L L2 : List Ho} {t : Tx} {key : ByteArray} {wr : Bool} {firm out : List Tx} {e : Nat} (hs : smallH L) (h : askH L t key wr firm = (L2, out, e)) : (∀ y ∈ out, okX y) ∧ out.length ≤ L.length := by
  rcases ask_cases L t key wr firm with ⟨e0, _, e1⟩ | ⟨e1, _⟩ | ⟨o2, h2, h3⟩
  · rw [h] at e1
    cases e1
    exact ⟨fun y hy => by simp at hy, by simp⟩
  · rw [h] at e1
    cases e1
    exact ⟨fun y hy => by simp at hy, by simp⟩
  · have h4 := way_ok L [] o2 hs (fun z hz => by simp at hz) h2
    have h5 := way_len L [] o2 h2
    rw [List.length_nil, Nat.zero_add] at h5
    rcases h3 with ⟨_, _, e1⟩ | ⟨_, e1⟩
    · rw [h] at e1; cases e1; exact ⟨h4, h5⟩
    · rw [h] at e1; cases e1; exact ⟨h4, h5⟩
theorem kix_wnd (t : Tx) (F : List Tx) : ∀ (O : List Sop) (i : Nat), kixS t i (wndS F O) = kixS t i O
  | [], _ => rfl
  | x :: r, i => by
    have := kix_wnd t F r (i + 1)
    unfold wndS at this ⊢
    simp only [List.map_cons, kixS, this]
theorem wnd_len (F : List Tx) (O : List Sop) : (wndS F O).length = O.length := by simp [wndS]
end Go.Proofs.Ythgnecggdlamfaa
/- What stays while a way of an order goes on. -/
namespace Go.Proofs.Ythgnecggdlamfaa
open Go.RowKit

/-- What stays while a way of an order goes on: the shard's box, the order's, the lists. -/
structure PB (x : Nat) (s : Sh) (A : Sad) (o : Odr) (a : Option Addr) (c : Nat) (u : Value) (w : World) : Prop where
  bs : BS w x s A
  ob : OB w (x + 1) o a c u
  m : ShM w s A
theorem PB.later {x : Nat} {s : Sh} {A : Sad} {o : Odr} {a : Option Addr} {c : Nat} {u : Value} {w w' : World} (h : PB x s A o a c u w) (hb : Below w.heap.size w w') : PB x s A o a c u w' := ⟨h.bs.later hb, h.ob.later hb, h.m.later hb⟩
theorem dn_at {w : World} {s : Sh} {A : Sad} {b off j : Nat} {y : Sdn} (h : ShM w s A) (hda : A.da = some ⟨b, off, none⟩) (hx : s.done[j]? = some y) : b < w.heap.size ∧ w.cell? ⟨b, off + j * 3, none⟩ = some (.int .u64 (y.t.age : Nat)) ∧ w.cell? ⟨b, off + j * 3 + 1, none⟩ = some (.int .u64 (y.t.id : Nat)) ∧ w.cell? ⟨b, off + j * 3 + 2, none⟩ = some (.bool y.cm) := by
  obtain ⟨b', off', e, h1, h2⟩ := Sdn.cells h.done hx
  rw [hda] at e
  cases e
  exact ⟨h1, h2⟩
theorem op_at {w : World} {s : Sh} {A : Sad} {b off j : Nat} {y : SopM} (h : ShM w s A) (hoa : A.oa = some ⟨b, off, none⟩) (hy : A.om[j]? = some y) : b < w.heap.size ∧ w.cell? ⟨b, off + j * 5, none⟩ = some (.int .u64 (y.x.t.age : Nat)) ∧ w.cell? ⟨b, off + j * 5 + 1, none⟩ = some (.int .u64 (y.x.t.id : Nat)) ∧ w.cell? ⟨b, off + j * 5 + 2, none⟩ = some (.bool y.x.fm) ∧ w.cell? ⟨b, off + j * 5 + 3, none⟩ = some (.bool y.x.wd) ∧ w.cell? ⟨b, off + j * 5 + 4, none⟩ = some (.slice y.a y.x.puts.length y.c) := by
  obtain ⟨b', off', e, h1, h2⟩ := Sop.cells h.opn hy
  rw [hoa] at e
  cases e
  exact ⟨h1, h2⟩
/-- A shard laid in another box. -/
theorem PB.set4 {x y : Nat} {s : Sh} {A : Sad} {o : Odr} {a : Option Addr} {c : Nat} {u : Value} {w : World} (h : PB x s A o a c u w) (hy : KB w y sK) (hne : x + 1 < y) (v0 v1 v2 v3 v4 : Value) (e : sK = [kdV v0, kdV v1, kdV v2, kdV v3, kdV v4]) : PB x s A o a c u (set5s w y v0 v1 v2 v3 v4) :=
  ⟨h.bs.grown (set5s_grown _ _ _ _ _ _ _) (by omega), h.ob.grown (set5s_grown _ _ _ _ _ _ _) (by omega), h.m.set5 _ _ _ _ _ hy fits_s e⟩
end Go.Proofs.Ythgnecggdlamfaa
