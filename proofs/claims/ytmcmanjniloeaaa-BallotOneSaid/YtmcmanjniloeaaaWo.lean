/- BallotOne: what holds ahead of each round. -/
import Derived.Test.YtmcmanjniloeaaaWm
import Derived.Test.YtmcmanjniloeaaaRu
import Derived.Deep.DeepCutAuto
import Derived.Deep.CutBlock
import Derived.Deep.RegionHeld3
import Derived.Deep.RegionLaw
namespace Go.Proofs.Ytmcmanjniloeaaa
open Go.RowKit

theorem rises_pair {L : List Nat} : ∀ {p : Nat}, risesF p L = true → (∀ x ∈ L, p < x) ∧ L.Pairwise (· < ·) := by
  induction L with
  | nil => intro p _; simp
  | cons x r ih =>
    intro p h
    simp only [risesF, Bool.and_eq_true, decide_eq_true_eq] at h
    obtain ⟨h1, h2⟩ := ih h.2
    exact ⟨fun y hy => by rcases List.mem_cons.1 hy with rfl | hy; exact h.1.1; have := h1 y hy; omega, List.pairwise_cons.2 ⟨h1, h2⟩⟩
theorem may_nodup {V L : List Nat} (h : mayB V L = true) : 0 < V.length ∧ V.length ≤ 7 ∧ V.Nodup := by
  simp only [mayB, membB, Bool.and_eq_true, decide_eq_true_eq] at h
  exact ⟨h.1.1.1, h.1.1.2.1, (rises_pair h.1.1.2.2).2.imp (fun h => Nat.ne_of_lt h)⟩
/-- The votes noted, list by list; each in memory of its own, behind B. -/
def IdsP (B : Nat) (w : World) (II : List Sv) (LL : List (List Nat)) : Prop :=
  II.length = LL.length ∧ ∀ (j : Nat) (s : Sv) (l : List Nat), II[j]? = some s → LL[j]? = some l → l.length = s.n ∧ Us w s.a l ∧ (0 < l.length → ∀ q, s.a = some q → B ≤ q.block)
theorem IdsP.later {B : Nat} {w w' : World} {II : List Sv} {LL : List (List Nat)} (h : IdsP B w II LL) (hb : Below w.heap.size w w') : IdsP B w' II LL :=
  ⟨h.1, fun j s l h1 h2 => ⟨(h.2 j s l h1 h2).1, (h.2 j s l h1 h2).2.1.later hb, (h.2 j s l h1 h2).2.2⟩⟩
theorem IdsP.far {B : Nat} {w : World} {II : List Sv} {LL : List (List Nat)} (h : IdsP B w II LL) {x : Nat} (hx : x < B) (o : Nat) (v : Value) : IdsP B (w.setCell ⟨x, o, none⟩ v) II LL :=
  ⟨h.1, fun j s l h1 h2 => ⟨(h.2 j s l h1 h2).1, (h.2 j s l h1 h2).2.1.set' (fun h0 q e => by have := (h.2 j s l h1 h2).2.2 h0 q e; omega) o v, (h.2 j s l h1 h2).2.2⟩⟩
theorem IdsP.put {B : Nat} {w : World} {II : List Sv} {LL : List (List Nat)} (h : IdsP B w II LL) (a : Nat) (s : Sv) (l : List Nat) (hl : l.length = s.n) (hU : Us w s.a l) (hB : 0 < l.length → ∀ q, s.a = some q → B ≤ q.block) : IdsP B w (II.set a s) (LL.set a l) := by
  refine ⟨by simp [h.1], fun j s' l' h1 h2 => ?_⟩
  by_cases e : j = a
  · subst e
    have hj1 := (List.getElem?_eq_some_iff.1 h1).1
    have hj2 := (List.getElem?_eq_some_iff.1 h2).1
    rw [List.length_set] at hj1 hj2
    obtain rfl : s = s' := by simpa [hj1] using h1
    obtain rfl : l = l' := by simpa [hj2] using h2
    exact ⟨hl, hU, hB⟩
  · rw [List.getElem?_set_ne (Ne.symm e)] at h1 h2
    exact h.2 j s' l' h1 h2
theorem idsP_start (B : Nat) (w : World) (n : Nat) : IdsP B w (List.replicate n ⟨none, 0, 0⟩) (List.replicate n []) := by
  refine ⟨by simp, fun j s l h1 h2 => ?_⟩
  obtain ⟨_, h1⟩ := List.getElem?_eq_some_iff.1 h1
  obtain ⟨_, h2⟩ := List.getElem?_eq_some_iff.1 h2
  simp at h1 h2; subst h1; subst h2
  exact ⟨rfl, Us.nil _ _, fun h => by simp at h⟩
/-- The box of what the law is asked of. -/
structure Ob (w : World) (x : Nat) (u v p q : Value) (t : Nat) : Prop where
  c0 : w.cell? ⟨x, 0, none⟩ = some u
  c1 : w.cell? ⟨x, 1, none⟩ = some v
  c2 : w.cell? ⟨x, 2, none⟩ = some p
  c3 : w.cell? ⟨x, 3, none⟩ = some q
  c4 : w.cell? ⟨x, 4, none⟩ = some (.int .u64 t)
theorem Cq.owns {α : Type} {T E : TypeId} {k bs : Nat} {z : Value} {f : α → List Value} {B : Nat} {w : World} {v : Value} {L : List α} (h : Cq E k f B w v L) (h0 : 0 < L.length) : w.ownsRow B E k v L.length (rwC f L) := by
  rcases h with ⟨rfl, _⟩ | h
  · simp at h0
  · exact h
/-- What holds ahead of each round of the orders. -/
structure OneRel (w wr : World) (n m bs cs bi ci B3 : Nat) (u1 u2 : Value) (V : List Nat) (A : List Ak) (tm k : Nat) (S : List Se) (II : List Sv) (LL : List (List Nat)) : Prop where
  sl : S.length = n
  il : II.length = m
  seats : wr.ownsRow w.heap.size 24 5 (.slice (some ⟨bs, 0, none⟩) n cs) n (rwC seC S)
  ids : wr.ownsRow w.heap.size 39 1 (.slice (some ⟨bi, 0, none⟩) m ci) m (rwC svC II)
  votes : IdsP B3 wr II LL
  len : ∀ (j : Nat) (l : List Nat), LL[j]? = some l → l.length ≤ k
  inv : OneInv V A tm S LL
  conf : Cb wr (w.heap.size + 1) u1 u2
  below : Below w.heap.size w wr
  room : B3 ≤ wr.heap.size
/-- Five cells of one row stored. -/
@[reducible] def set5o (w1 : World) (x o : Nat) (v0 v1 v2 v3 v4 : Value) : World := ((((w1.setCell ⟨x, o, none⟩ v0).setCell ⟨x, o + 1, none⟩ v1).setCell ⟨x, o + 2, none⟩ v2).setCell ⟨x, o + 3, none⟩ v3).setCell ⟨x, o + 4, none⟩ v4
section
variable {w wr : World} {n m bs cs bi ci B3 : Nat} {u1 u2 : Value} {V : List Nat} {A : List Ak} {tm k : Nat} {S : List Se} {II : List Sv} {LL : List (List Nat)}
theorem seat_cells {B : Nat} (h : wr.ownsRow B 24 5 (.slice (some ⟨bs, 0, none⟩) n cs) n (rwC seC S)) (hn : S.length = n) {v : Nat} {s : Se} (hs : S[v]? = some s) :
    wr.cell? ⟨bs, v * 5, none⟩ = some (.int .u64 (s.t : Nat)) ∧ wr.cell? ⟨bs, v * 5 + 1, none⟩ = some (.int .u64 (s.v : Nat)) ∧ wr.cell? ⟨bs, v * 5 + 2, none⟩ = some (.int .u64 (s.lt : Nat)) ∧ wr.cell? ⟨bs, v * 5 + 3, none⟩ = some (.int .u64 (s.li : Nat)) ∧ wr.cell? ⟨bs, v * 5 + 4, none⟩ = some (.bool s.h) := by
  have hv := (List.getElem?_eq_some_iff.1 hs).1
  have hat := rwC_at (f := seC) (k := 5) (fun _ => rfl) S v s hs
  refine ⟨?_, ?_, ?_, ?_, ?_⟩
  · rw [h.cellAt _ (by omega)]; exact hat 0 _ rfl
  · rw [h.cellAt _ (by omega)]; exact hat 1 _ rfl
  · rw [h.cellAt _ (by omega)]; exact hat 2 _ rfl
  · rw [h.cellAt _ (by omega)]; exact hat 3 _ rfl
  · rw [h.cellAt _ (by omega)]; exact hat 4 _ rfl
theorem id_cell {B : Nat} (h : wr.ownsRow B 39 1 (.slice (some ⟨bi, 0, none⟩) m ci) m (rwC svC II)) (hn : II.length = m) {j : Nat} {s : Sv} (hs : II[j]? = some s) : wr.cell? ⟨bi, j, none⟩ = some (.slice s.a s.n s.c) := by
  have hv := (List.getElem?_eq_some_iff.1 hs).1
  have hat := rwC_at (f := svC) (k := 1) (fun _ => rfl) II j s hs
  rw [h.cellAt _ (by omega)]; simpa using hat 0 _ rfl
theorem kept_later {B : Nat} {E : TypeId} {sz : Nat} {v : Value} {l : Nat} {xs : List Value} {w' : World} (h : wr.ownsRow B E sz v l xs) (hb : Below wr.heap.size wr w') : w'.ownsRow B E sz v l xs := by
  refine h.kept (row := none) ⟨hb.os, hb.tape, hb.output, hb.size, fun k hk _ => hb.block k hk⟩ ?_
  rcases h1 : v.ownBlock with _ | g
  · exact .inl rfl
  · exact .inr (by simp)
theorem OneRel.later {w' : World} (h : OneRel w wr n m bs cs bi ci B3 u1 u2 V A tm k S II LL) (hb : Below wr.heap.size wr w') : OneRel w w' n m bs cs bi ci B3 u1 u2 V A tm k S II LL :=
  ⟨h.sl, h.il, kept_later h.seats hb, kept_later h.ids hb, h.votes.later hb, h.len, h.inv, h.conf.later hb, h.below.trans (hb.mono h.below.size), Nat.le_trans h.room hb.size⟩
theorem OneRel.next (h : OneRel w wr n m bs cs bi ci B3 u1 u2 V A tm k S II LL) : OneRel w wr n m bs cs bi ci B3 u1 u2 V A tm (k + 1) S II LL :=
  ⟨h.sl, h.il, h.seats, h.ids, h.votes, fun j l hl => Nat.le_succ_of_le (h.len j l hl), h.inv, h.conf, h.below, h.room⟩
theorem OneRel.seat (h : OneRel w wr n m bs cs bi ci B3 u1 u2 V A tm k S II LL) (hbs : bs < B3) (hbi : bi < B3) (hne : bs ≠ bi) (hbw : w.heap.size + 1 < bs) {v : Nat} {s0 : Se} (hs : S[v]? = some s0) (s : Se) (hinv : OneInv V A tm (S.set v s) LL) :
    OneRel w (set5o wr bs (v * 5) (.int .u64 s.t) (.int .u64 s.v) (.int .u64 s.lt) (.int .u64 s.li) (.bool s.h)) n m bs cs bi ci B3 u1 u2 V A tm k (S.set v s) II LL := by
  have e := seC_set hs s
  refine ⟨by simpa using h.sl, h.il, ?_, ?_, ?_, h.len, hinv, ?_, ?_, ?_⟩
  · rw [← e]
    exact (((((h.seats.stored _ _).1.stored _ _).1.stored _ _).1.stored _ _).1.stored _ _).1
  · have hk : ∀ {W : World} (o : Nat) (v : Value), W.ownsRow w.heap.size 39 1 (.slice (some ⟨bi, 0, none⟩) m ci) m (rwC svC II) → (W.setCell ⟨bs, o, none⟩ v).ownsRow w.heap.size 39 1 (.slice (some ⟨bi, 0, none⟩) m ci) m (rwC svC II) := fun {W} o v hW =>
      hW.kept (row := some bs) ⟨rfl, rfl, rfl, by simp, fun k _ hk => heap_setCell_other W ⟨bs, o, none⟩ k v (fun e => hk (by simp [e]))⟩ (.inr (by simp [Value.ownBlock]; omega))
    exact hk _ _ (hk _ _ (hk _ _ (hk _ _ (hk _ _ h.ids))))
  · exact ((((h.votes.far hbs _ _).far hbs _ _).far hbs _ _).far hbs _ _).far hbs _ _
  · have hn : bs ≠ w.heap.size + 1 := by omega
    exact ((((h.conf.far hn _ _).far hn _ _).far hn _ _).far hn _ _).far hn _ _
  · have hn : w.heap.size ≤ bs := by omega
    exact ((((h.below.setCell hn _).setCell hn _).setCell hn _).setCell hn _).setCell hn _
  · have := h.room; simpa using this
theorem OneRel.vote (h : OneRel w wr n m bs cs bi ci B3 u1 u2 V A tm k S II LL) (hbs : bs < B3) (hbi : bi < B3) (hne : bs ≠ bi) (hbw : w.heap.size + 1 < bi) {a : Nat} {s0 : Sv} {l0 : List Nat} (hs : II[a]? = some s0) (hl : LL[a]? = some l0) (s : Sv) (id : Nat) (hsn : l0.length + 1 = s.n) (hU : Us wr s.a (l0 ++ [id])) (hB : ∀ q, s.a = some q → B3 ≤ q.block) (hinv : OneInv V A tm S (LL.set a (l0 ++ [id]))) :
    OneRel w (wr.setCell ⟨bi, a, none⟩ (.slice s.a s.n s.c)) n m bs cs bi ci B3 u1 u2 V A tm (k + 1) S (II.set a s) (LL.set a (l0 ++ [id])) := by
  have e := svC_set hs s
  refine ⟨h.sl, by simpa using h.il, ?_, ?_, ?_, ?_, hinv, ?_, ?_, ?_⟩
  · exact h.seats.kept (row := some bi) ⟨rfl, rfl, rfl, by simp, fun k _ hk => heap_setCell_other wr ⟨bi, a, none⟩ k _ (fun e => hk (by simp [e]))⟩ (.inr (by simp [Value.ownBlock]; omega))
  · rw [← e]; exact (h.ids.stored _ _).1
  · exact (h.votes.far hbi _ _).put a s (l0 ++ [id]) (by simpa using hsn) (hU.set' (fun _ q e => by have := hB q e; omega) _ _) (fun _ => hB)
  · intro j l hj
    by_cases e : j = a
    · subst e
      have hlt := (List.getElem?_eq_some_iff.1 hl).1
      obtain rfl : l0 ++ [id] = l := by simpa [hlt] using hj
      have := h.len j l0 hl
      simp; omega
    · rw [List.getElem?_set_ne (Ne.symm e)] at hj
      exact Nat.le_succ_of_le (h.len j l hj)
  · exact h.conf.far (by omega) _ _
  · have hn : w.heap.size ≤ bi := by omega
    exact h.below.setCell hn _
  · have := h.room; simpa using this
end
theorem cell_set5o {w1 : World} {x o : Nat} {v0 v1 v2 v3 v4 : Value} {p : Addr} {u : Value} (hne : x ≠ p.block) (h : w1.cell? p = some u) : (set5o w1 x o v0 v1 v2 v3 v4).cell? p = some u := by
  refine (World.cell?_setCell_far _ _ _ _ hne).trans ?_
  refine (World.cell?_setCell_far _ _ _ _ hne).trans ?_
  refine (World.cell?_setCell_far _ _ _ _ hne).trans ?_
  refine (World.cell?_setCell_far _ _ _ _ hne).trans ?_
  exact (World.cell?_setCell_far _ _ _ _ hne).trans h
/-- At a step of a region that draws: an append whose run is known. -/
theorem step_app7 {w : World} {ops : Array Oper} {o : Oper} {a : Act} {K : Act → World → Prop} {Q : Exit → Act → World → Prop} {E : Prop} (hgd : o.guard = none) (s x : Operand) (t : TypeId)
    (ho : o.op = .call { callee := .builtin .append, args := #[s, x], argTypes := #[t, t] }) (vs vx : Value) (hs : a.eval s = vs) (hx : a.eval x = vx) (Post : Value → World → Prop)
    (hr : ∃ v' w', (Builtin.append_ #[t, t] o.type #[vs, vx]).run Try.prog w = .ok v' w' ∧ Post v' w') (h : ∀ v' w', Post v' w' → K (a.put o.dst v') w') :
    if Region.wanted o (yielded ops a.tmps) = true then Oper.wp Try.prog o a w K Q else E := by
  have hw : Region.wanted o (yielded ops a.tmps) = true := by simp [Region.wanted, hgd]
  rw [if_pos hw]
  obtain ⟨v', w', hr, hp⟩ := hr
  unfold Oper.wp execOp
  simp only [ho, resolve, invoke, builtin, Sem.run_bind, Sem.run_pure, Result.andThen_ok, List.map_toArray, List.map_cons, List.map_nil, hs, hx, hr]
  exact h v' w' hp
theorem below_name {B : Nat} {w w' : World} (_ : Below B w w') : ∃ x, x = w' := ⟨w', rfl⟩
theorem one_fin {w wx : World} {n m bs cs bi ci B3 : Nat} {u1 u2 : Value} {V : List Nat} {A : List Ak} {tm k : Nat} {S : List Se} {II : List Sv} {LL : List (List Nat)} (h : OneRel w wx n m bs cs bi ci B3 u1 u2 V A tm k S II LL) (hbs : bs < B3) (hbi : bi < B3) (hne : bs ≠ bi) (hbw : w.heap.size + 1 < bs) {v : Nat} {s0 : Se} (hs : S[v]? = some s0) (rt rv rlt rli : Nat) (rh : Bool) (hinv : OneInv V A tm (S.set v ⟨rt, rv, rlt, rli, rh⟩) LL)
    {p q : Addr} {a b : Value} (hp : bs ≠ p.block) (hq : bs ≠ q.block) (h1 : wx.cell? p = some a) (h2 : wx.cell? q = some b) :
    ∀ u, u = set5o wx bs (v * 5) (.int .u64 rt) (.int .u64 rv) (.int .u64 rlt) (.int .u64 rli) (.bool rh) → OneRel w u n m bs cs bi ci B3 u1 u2 V A tm k (S.set v ⟨rt, rv, rlt, rli, rh⟩) II LL ∧ u.cell? p = some a ∧ u.cell? q = some b := fun u hu => by
  rw [hu]
  exact ⟨h.seat hbs hbi hne hbw hs ⟨rt, rv, rlt, rli, rh⟩ hinv, cell_set5o hp h1, cell_set5o hq h2⟩
theorem us_rw {w : World} {a : Option Addr} {L : List Nat} (h : Us w a L) : Rw 1 u64C w a L := fun j x hx => by
  obtain ⟨b, off, e, hb, hc⟩ := h j x hx
  refine ⟨b, off, e, hb, fun i u hu => ?_⟩
  have hi := (List.getElem?_eq_some_iff.1 hu).1
  obtain rfl : i = 0 := by simp [u64C] at hi; omega
  obtain rfl : Value.int .u64 (x : Nat) = u := by simpa [u64C] using hu
  simpa using hc
theorem one_noted {w wy wm : World} {n m bs cs bi ci B3 : Nat} {u1 u2 : Value} {V : List Nat} {A : List Ak} {tm t : Nat} {S : List Se} {II : List Sv} {LL : List (List Nat)} (h : OneRel w wy n m bs cs bi ci B3 u1 u2 V A tm t S II LL) (hb : Below wy.heap.size wy wm) (hbs : bs < B3) (hbi : bi < B3) (hne : bs ≠ bi) (hbw : w.heap.size + 1 < bi)
    {a : Nat} {s0 : Sv} {l : List Nat} (hs : II[a]? = some s0) (hl : LL[a]? = some l) (aw : Option Addr) (cw id X : Nat) (hU : Rw 1 u64C wm aw ([] ++ l ++ [id])) (hfar : 0 < ([] ++ l ++ [id]).length → ∀ q, aw = some q → X ≤ q.block) (hX : wy.heap.size ≤ X) (hinv : OneInv V A tm S (LL.set a (l ++ [id]))) :
    OneRel w (wm.setCell ⟨bi, a, none⟩ (.slice aw (l.length + 1) cw)) n m bs cs bi ci B3 u1 u2 V A tm (t + 1) S (II.set a ⟨aw, l.length + 1, cw⟩) (LL.set a (l ++ [id])) :=
  (h.later hb).vote hbs hbi hne hbw hs hl ⟨aw, l.length + 1, cw⟩ id rfl (Rw.us hU) (fun q e => Nat.le_trans h.room (Nat.le_trans hX (hfar (by simp) q e))) hinv
end Go.Proofs.Ytmcmanjniloeaaa
