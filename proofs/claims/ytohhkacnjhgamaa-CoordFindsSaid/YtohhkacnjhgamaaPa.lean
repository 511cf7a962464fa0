/- What a store in one block keeps; append with the block that it may write; boxes whose cells' kinds are known. -/
import Derived.Test.YtohhkacnjhgamaaHd
namespace Go.Proofs.Ytohhkacnjhgamaa

open Go.RowKit

/-- A list that lies in another block. -/
def NB (a : Option Addr) (n g : Nat) : Prop := 0 < n → ∀ q, a = some q → q.block ≠ g
theorem NB.lt {a : Option Addr} {n g B : Nat} (h : 0 < n → ∀ q, a = some q → q.block < B) (hg : B ≤ g) : NB a n g := fun h0 q hq => by have := h h0 q hq; omega
theorem NB.ge {a : Option Addr} {n g B : Nat} (h : 0 < n → ∀ q, a = some q → B ≤ q.block) (hg : g < B) : NB a n g := fun h0 q hq => by have := h h0 q hq; omega
section
variable {α : Type} {k : Nat} {f : α → List Value} {w w' : World} {a : Option Addr} {L : List α}
theorem rw_lt (h : Rw k f w a L) : 0 < L.length → ∀ q, a = some q → q.block < w.heap.size := by
  intro h0 q hq
  obtain ⟨b, off, e, hb, _⟩ := h 0 L[0] (List.getElem?_eq_getElem h0)
  rw [hq] at e
  cases e
  exact hb
theorem rw_grown (h : Rw k f w a L) {g : Nat} (hg : w.grownBy w' (some g)) (hn : NB a L.length g) : Rw k f w' a L := by
  intro j x hx
  obtain ⟨b, off, e, hb, c⟩ := h j x hx
  have hj := (List.getElem?_eq_some_iff.1 hx).1
  have hne : b ≠ g := hn (by omega) _ e
  exact ⟨b, off, e, Nat.lt_of_lt_of_le hb hg.size, fun i u hu => (World.cell?_of_block (a := ⟨b, off + j * k + i, none⟩) (hg.block b hb (by simpa using hne))).trans (c i u hu)⟩
theorem rw_none (h : Rw k f w a L) (hg : w.grownBy w' none) : Rw k f w' a L := h.later ⟨hg.os, hg.tape, hg.output, hg.size, fun k hk => hg.block k hk (by simp)⟩
end
section
variable {α : Type} {T E : TypeId} {k bs : Nat} {z : Value} {f : α → List Value} {B : Nat} {w : World} {v : Value} {L : List α}
/-- append(row, list...), and which block it may write. -/
theorem app_rwG (R : RowT T E k bs z f) (B : Nat) (w : World) (ty : TypeId) (v : Value) (L : List α) (h : Cq E k f B w v L) (a : Option Addr) (m c : Nat) (M : List α) (hm : M.length = m) (hM : Rw k f w a M) (hl : (L.length + m) * bs ≤ 140737488355328) (hB : B ≤ w.heap.size) :
    ∃ v' w', (Builtin.append_ #[T, T] ty #[v, .slice a m c]).run Try.prog w = .ok v' w' ∧ (Cq E k f B w' v' (L ++ M) ∧ (m = 0 → v' = v ∧ w' = w) ∧ ∃ r, w.grownBy w' r ∧ ∀ g, r = some g → B ≤ g ∧ ∃ n' c', v = .slice (some ⟨g, 0, none⟩) n' c') := by
  obtain ⟨i0, hi, hz0, hz1', hz2'⟩ := info_parts R.info
  rcases Nat.eq_zero_or_pos m with h0 | h0
  · subst h0
    have hM0 : M = [] := List.length_eq_zero_iff.1 hm
    subst hM0
    rw [List.append_nil]
    have hs : Src Try.prog i0.size T (.slice a 0 c) 0 [] w := by
      cases a with
      | none => exact Src.ofNil w R.und c
      | some p => exact Src.ofSlice w R.und p 0 c [] (by simp) (by simp) (by simp)
    have hv : ∃ ao n cap, v = .slice ao n cap ∧ n ≤ cap := by
      rcases h with ⟨_, ao, rfl⟩ | h
      · exact ⟨ao, 0, 0, rfl, Nat.le_refl _⟩
      · rcases h.2 with ⟨rfl, h0⟩ | ⟨g, cap, cur, rfl, _, _, hn, _⟩
        · exact ⟨none, 0, 0, rfl, Nat.le_refl _⟩
        · exact ⟨_, _, cap, rfl, hn⟩
    obtain ⟨ao, n, cap, rfl, hle⟩ := hv
    exact ⟨_, _, run_append_nothing w _ _ ty _ i0 R.und hi ao n cap hle _ hs, h, fun _ => ⟨rfl, rfl⟩, none, ⟨rfl, rfl, rfl, Nat.le_refl _, fun _ _ _ => rfl⟩, fun g e => by cases e⟩
  · obtain ⟨b1, off, rfl, hb1⟩ := hM.addr (by omega)
    have hrow := rw_row R.len R.kp hM
    have hnews : ∀ j u, (rwC f M)[j]? = some u → w.cell? ((⟨b1, off, none⟩ : Addr).add j) = some u := fun j u hj => by rw [addAny']; exact hrow j u hj
    have hlen : (rwC f M).length = m * k := by rw [rwC_len R.len, hm]
    have hmx := maxLen_of R.bp hl
    rcases h with ⟨rfl, ao, rfl⟩ | h
    · simp only [List.length_nil, Nat.zero_add] at hl hmx
      cases ao with
      | none =>
        obtain ⟨v', w', hr, hown, hg, _⟩ := run_append_own (P := Try.prog) w B T ty E i0 _ k bs R.und hi hz0 hz1' hz2' R.zs R.kp (.slice none 0 0) 0 [] (World.ownsRow_nil w B _ k) ⟨b1, off, none⟩ m c (rwC f M) hlen hnews (oneRw R M) (by simpa using hmx) (by simpa using hl) hB
        refine ⟨v', w', hr, .inr ?_, fun h => by omega, _, hg, fun g e => by simp [Value.ownBlock] at e⟩
        simpa [hm] using hown
      | some b =>
        obtain ⟨v', w', hr, hown, hg⟩ := run_append_arg_grows (P := Try.prog) w T ty E i0 _ k bs R.und hi hz0 hz1' hz2' R.zs R.kp b 0 0 [] (by simp) (by simp)
          ⟨b1, off, none⟩ m c (rwC f M) hlen hnews (by omega) (by simpa using hmx) (by simpa using hl)
        refine ⟨v', w', hr, .inr ?_, fun h => by omega, _, hg, fun g e => by simp at e⟩
        have hown' := owns_less hown hB
        simpa [hm] using hown'
    · obtain ⟨v', w', hr, hown, hg, _⟩ := run_append_own (P := Try.prog) w B T ty E i0 _ k bs R.und hi hz0 hz1' hz2' R.zs R.kp v L.length (rwC f L) h ⟨b1, off, none⟩ m c (rwC f M) hlen hnews (oneRw R M) hmx hl hB
      refine ⟨v', w', hr, .inr ?_, fun h => by omega, _, hg, fun g e => ⟨(h.lt g e).1, ?_⟩⟩
      · rw [List.length_append, rwC_app, hm]
        exact hown
      · rcases h.2 with ⟨rfl, _⟩ | ⟨g', cap, cur, rfl, _⟩
        · simp [Value.ownBlock] at e
        · simp only [Value.ownBlock, Option.some.injEq] at e
          subst e
          exact ⟨_, _, rfl⟩
/-- A store in another block keeps a row of one's own. -/
theorem Cq.grownT (_ : RowT T E k bs z f) (h : Cq E k f B w v L) {w' : World} {g : Nat} (hg : w.grownBy w' (some g)) (hn : ∀ n c, v ≠ .slice (some ⟨g, 0, none⟩) n c) : Cq E k f B w' v L := by
  rcases h with h | h
  · exact .inl h
  · refine .inr (h.kept hg ?_)
    rcases h.2 with ⟨rfl, _⟩ | ⟨g', cap, cur, rfl, _⟩
    · exact .inl (by simp [Value.ownBlock])
    · refine .inr ?_
      simp only [Value.ownBlock]
      intro e
      cases e
      exact hn _ _ rfl
end
/-- append(E{}, list...), as Clone does it. -/
theorem app_new {α : Type} {T E : TypeId} {k bs : Nat} {z : Value} {f : α → List Value} (R : RowT T E k bs z f) (w : World) (ty : TypeId) (p : Addr) (m c : Nat) (M : List α) (hm : M.length = m) (hM : Rw k f w (some p) M) (hl : m * bs ≤ 140737488355328) :
    ∃ v' w', (Builtin.append_ #[T, T] ty #[.slice (some ⟨w.heap.size, 0, none⟩) 0 0, .slice (some p) m c]).run Try.prog (w.alloc (.cells #[] E)) = .ok v' w' ∧ Cq E k f w.heap.size w' v' M ∧ Below w.heap.size w w' ∧ ∀ q n c, v' = .slice (some q) n c → w.heap.size ≤ q.block ∧ q.block < w'.heap.size := by
  have B0 : Below w.heap.size w (w.alloc (.cells #[] E)) := (Below.refl _ _).alloc (Nat.le_refl _) _
  obtain ⟨v', w', hr, hc, h0, r, hg, hr2⟩ := app_rwG R w.heap.size (w.alloc (.cells #[] E)) ty (.slice (some ⟨w.heap.size, 0, none⟩) 0 0) [] (Cq.nil _ _ _) (some p) m c M hm (hM.later B0) (by simpa using hl) (by simp)
  rw [List.nil_append] at hc
  have hb : Below w.heap.size w w' := B0.grown hg (by simp) (fun g e => (hr2 g e).1)
  refine ⟨v', w', hr, hc, hb, fun q n c e => ?_⟩
  rcases Nat.eq_zero_or_pos m with h | h
  · obtain ⟨e1, e2⟩ := h0 h
    rw [e1] at e
    injection e with e _ _
    injection e with e
    subst e
    rw [e2]
    exact ⟨Nat.le_refl _, by simp⟩
  · obtain ⟨a', c', e2, hR, h2, _⟩ := hc.form R
    rw [e] at e2
    injection e2 with e2 _ _
    subst e2
    exact ⟨h2 (by omega) _ rfl, rw_lt hR (by omega) _ rfl⟩
/-- What Clone answers: a row of its own, where it lies. -/
def ClQ {α : Type} (E : TypeId) (k : Nat) (f : α → List Value) (w : World) (L : List α) (e : Ending) (w' : World) : Prop := ∃ a c, e = .returned (.slice a L.length c) ∧ Cq E k f w.heap.size w' (.slice a L.length c) L ∧ Below w.heap.size w w' ∧ ∀ q, a = some q → w.heap.size ≤ q.block ∧ q.block < w'.heap.size


/-- A value's kind. -/
def kdV : Value → Nat
  | .slice _ _ _ => 1
  | .int .u64 _ => 2
  | .int .i64 _ => 3
  | .string _ => 4
  | .bool _ => 5
  | _ => 0
/-- A box whose cells have the given kinds, and no others. -/
structure KB (w : World) (x : Nat) (ks : List Nat) : Prop where
  cs : ∀ (o : Nat) (u : Value), w.cell? ⟨x, o, none⟩ = some u → ks[o]? = some (kdV u)
  so : ∀ o, o < ks.length → ∃ u, w.cell? ⟨x, o, none⟩ = some u
  fz : ∀ j, w.frozen? ⟨x, j, none⟩ = false
  lt : x < w.heap.size
theorem KB.later {w w' : World} {x : Nat} {ks : List Nat} (h : KB w x ks) (hb : Below w.heap.size w w') : KB w' x ks :=
  ⟨fun o u e => h.cs o u ((hb.cell (p := ⟨x, o, none⟩) h.lt).symm.trans e), fun o ho => by obtain ⟨u, e⟩ := h.so o ho; exact ⟨u, (hb.cell (p := ⟨x, o, none⟩) h.lt).trans e⟩, fun j => (hb.frozen (p := ⟨x, j, none⟩) h.lt).trans (h.fz j), Nat.lt_of_lt_of_le h.lt hb.size⟩
theorem KB.far {w : World} {x : Nat} {ks : List Nat} (h : KB w x ks) {y : Nat} (hne : y ≠ x) (i : Nat) (v : Value) : KB (w.setCell ⟨y, i, none⟩ v) x ks :=
  ⟨fun o u e => h.cs o u ((World.cell?_setCell_far _ _ _ _ hne).symm.trans e), fun o ho => by obtain ⟨u, e⟩ := h.so o ho; exact ⟨u, (World.cell?_setCell_far _ _ _ _ hne).trans e⟩, fun j => by simpa using h.fz j, by simpa using h.lt⟩
theorem KB.set {w : World} {x : Nat} {ks : List Nat} (h : KB w x ks) {i : Nat} {v : Value} (hv : ks[i]? = some (kdV v)) : KB (w.setCell ⟨x, i, none⟩ v) x ks := by
  obtain ⟨hi, _⟩ := List.getElem?_eq_some_iff.1 hv
  obtain ⟨ui, hui⟩ := h.so i hi
  refine ⟨fun o u e => ?_, fun o ho => ?_, fun j => by simpa using h.fz j, by simpa using h.lt⟩
  · by_cases ho : o = i
    · subst ho
      simp [go_sem, hui] at e
      rw [← e]; exact hv
    · exact h.cs o u (by simpa [go_sem, ho, Ne.symm ho] using e)
  · by_cases hoi : o = i
    · subst hoi; exact ⟨v, by simp [go_sem, hui]⟩
    · obtain ⟨u, e⟩ := h.so o ho; exact ⟨u, by simpa [go_sem, hoi, Ne.symm hoi] using e⟩
theorem KB.new5 {w : World} {x : Nat} (hx : x = w.heap.size) (v0 v1 v2 v3 v4 : Value) (T : TypeId) : KB (w.alloc (.cells #[v0, v1, v2, v3, v4] T)) x [kdV v0, kdV v1, kdV v2, kdV v3, kdV v4] := by
  subst hx
  refine ⟨fun o u e => ?_, fun o ho => ?_, fun j => by simp [go_sem], by simp⟩
  · match o, e with
    | 0, e => simp [go_sem] at e; simp [e]
    | 1, e => simp [go_sem] at e; simp [e]
    | 2, e => simp [go_sem] at e; simp [e]
    | 3, e => simp [go_sem] at e; simp [e]
    | 4, e => simp [go_sem] at e; simp [e]
    | o + 5, e => simp [go_sem] at e
  · match o, ho with
    | 0, _ => exact ⟨v0, by simp [go_sem]⟩
    | 1, _ => exact ⟨v1, by simp [go_sem]⟩
    | 2, _ => exact ⟨v2, by simp [go_sem]⟩
    | 3, _ => exact ⟨v3, by simp [go_sem]⟩
    | 4, _ => exact ⟨v4, by simp [go_sem]⟩
    | o + 5, h => simp at h; omega
/-- No row of such elements fits among the kinds. -/
def NoFit {α : Type} (f : α → List Value) (ks : List Nat) : Prop := ∀ (y : α) (o : Nat), ¬ ∀ (i : Nat) (u : Value), (f y)[i]? = some u → ks[o + i]? = some (kdV u)
theorem Rw.notin {α : Type} {k : Nat} {f : α → List Value} {w : World} {a : Option Addr} {L : List α} (h : Rw k f w a L) {x : Nat} {ks : List Nat} (hK : KB w x ks) (hn : NoFit f ks) : 0 < L.length → ∀ q, a = some q → q.block ≠ x := by
  intro hL q hq hqx
  obtain ⟨b, off, e, _, c⟩ := h 0 L[0] (List.getElem?_eq_getElem hL)
  rw [e] at hq
  obtain rfl := (Option.some.inj hq).symm
  simp only at hqx
  subst hqx
  refine hn L[0] off fun i u hu => hK.cs _ _ ?_
  have := c i u hu
  simpa using this
theorem grown_of {w w' : World} {b : Nat} (hb : Below w.heap.size w w') : w.grownBy w' (some b) := ⟨hb.os, hb.tape, hb.output, hb.size, fun k hk _ => hb.block k hk⟩
theorem grown_trans {w w1 w2 : World} {g : Nat} (h1 : w.grownBy w1 (some g)) (h2 : w1.grownBy w2 (some g)) : w.grownBy w2 (some g) :=
  ⟨h2.os.trans h1.os, h2.tape.trans h1.tape, h2.output.trans h1.output, Nat.le_trans h1.size h2.size, fun k hk hne => (h2.block k (Nat.lt_of_lt_of_le hk h1.size) hne).trans (h1.block k hk hne)⟩
theorem below_of {w w' : World} {b B : Nat} (hB : B ≤ b) (hs : B ≤ w.heap.size) (h : w.grownBy w' (some b)) : Below B w w' := (Below.refl B w).grown h hs (fun k e => by cases e; exact hB)
theorem Cq.grown {α : Type} {E : TypeId} {k : Nat} {f : α → List Value} {B g : Nat} {w w' : World} {v : Value} {L : List α} (h : Cq E k f B w v L) (hg : w.grownBy w' (some g)) (hne : g < B) : Cq E k f B w' v L := by
  rcases h with h | h
  · exact .inl h
  · refine .inr (h.kept (row := some g) hg ?_)
    rcases h1 : v.ownBlock with _ | q
    · exact .inl rfl
    · exact .inr (by have := (h.lt q h1).1; simp; omega)
theorem KB.grownK {w w' : World} {x g : Nat} {ks : List Nat} (h : KB w x ks) (hg : w.grownBy w' (some g)) (hne : x ≠ g) : KB w' x ks := by
  have hb := hg.block x h.lt (by simpa using hne)
  have f : ∀ j, w'.cell? ⟨x, j, none⟩ = w.cell? ⟨x, j, none⟩ := fun j => World.cell?_of_block (a := ⟨x, j, none⟩) hb
  exact ⟨fun o u e => h.cs o u ((f o).symm.trans e), fun o ho => by obtain ⟨u, e⟩ := h.so o ho; exact ⟨u, (f o).trans e⟩, fun j => by
    have := h.fz j
    simp only [World.frozen?] at this ⊢
    rw [hb]; exact this, Nat.lt_of_lt_of_le h.lt hg.size⟩
/-- A list that doesn't lie in a block. -/
def NE (a : Option Addr) (g : Nat) : Prop := ∀ r, a = some r → r.block ≠ g
theorem NE.nb {a : Option Addr} {g : Nat} (h : NE a g) (n : Nat) : NB a n g := fun _ q hq => h q hq
/-- A list that lies between two blocks. -/
def LI (a : Option Addr) (lo hi : Nat) : Prop := ∀ q, a = some q → lo ≤ q.block ∧ q.block < hi
theorem LI.mono {a : Option Addr} {lo hi lo' hi' : Nat} (h : LI a lo hi) (h1 : lo' ≤ lo) (h2 : hi ≤ hi') : LI a lo' hi' := fun q e => ⟨Nat.le_trans h1 (h q e).1, Nat.lt_of_lt_of_le (h q e).2 h2⟩
theorem LI.ne {a : Option Addr} {lo hi g : Nat} (h : LI a lo hi) (hg : g < lo ∨ hi ≤ g) : NE a g := fun r e => by have := h r e; omega
theorem Hd.put1 {α : Type} {k bs n g : Nat} {f : α → List Value} {w : World} {C : List α} {T E : TypeId} {z : Value} (R : RowT T E k bs z f) (h : Hd E k f w g n C) {i : Nat} {x y : α} (hx : C[i]? = some x) {o : Nat} {u : Value} (hu : (f y)[o]? = some u) (hr : ∀ t, t ≠ o → (f y)[t]? = (f x)[t]?) : Hd E k f (w.setCell ⟨g, i * k + o, none⟩ u) g n (C.set i y) := by
  have hle := h.le
  have hi := (List.getElem?_eq_some_iff.1 hx).1
  have ho := (List.getElem?_eq_some_iff.1 hu).1
  rw [R.len] at ho
  have hin : i * k + k ≤ n * k := by rw [show i * k + k = (i + 1) * k by rw [Nat.add_mul]; omega]; exact Nat.mul_le_mul_right k (by omega)
  refine ⟨fun j x' hx' t u' hu' => ?_, by rw [List.length_set]; exact hle, by simpa using h.lt, hd_setCell h.ty _ _⟩
  have htl := (List.getElem?_eq_some_iff.1 hu').1
  rw [R.len] at htl
  rw [List.getElem?_set] at hx'
  show (w.setCells g (i * k + o) [u]).cell? _ = _
  by_cases e : i = j
  · subst e
    rw [if_pos rfl, if_pos hi] at hx'
    obtain rfl : y = x' := Option.some.inj hx'
    by_cases hto : t = o
    · subst hto
      have := World.cell?_setCells_in g [u] (i * k + t) w (fun a ha => h.has (by simp at ha; omega)) 0 (by simp)
      simp only [Nat.add_zero] at this
      rw [this]
      rw [hu] at hu'; rw [← hu']; rfl
    · rw [World.cell?_setCells_out g _ _ _ _ (fun _ _ => by simp only [List.length_singleton]; omega)]
      exact h.c i x hx t u' (by rw [← hr t hto]; exact hu')
  · rw [if_neg e] at hx'
    rw [World.cell?_setCells_out g _ _ _ _ (fun _ _ => by
      rcases Nat.lt_or_gt_of_ne e with h1 | h1
      · right
        have : (i + 1) * k ≤ j * k := Nat.mul_le_mul_right k h1
        rw [Nat.add_mul, Nat.one_mul] at this
        simp only [List.length_singleton]; omega
      · left
        have : (j + 1) * k ≤ i * k := Nat.mul_le_mul_right k h1
        rw [Nat.add_mul, Nat.one_mul] at this
        simp only; omega)]
    exact h.c j x' hx' t u' hu'
end Go.Proofs.Ytohhkacnjhgamaa
