/- Layer 13's mathematics: how large what a shard holds can grow. -/
import Derived.Test.YthgnecggdlamfaaGreatYf
import Derived.Test.YthgnecggdlamfaaGreatYl
namespace Go.Proofs.YthgnecggdlamfaaGreat

/-- Keys and values that aren't too long. -/
def smlP (P : List Pu) : Prop := ∀ x ∈ P, x.key.size ≤ 140737488351232 ∧ x.val.size ≤ 140737488351232
def smlR (L : List Ro) : Prop := ∀ x ∈ L, x.key.size ≤ 140737488351232 ∧ x.val.size ≤ 140737488351232
/-- What a shard holds that began empty. -/
structure SzB (s : Sh) : Prop where
  hold : smallH s.holds
  hlen : s.holds.length ≤ 48
  opn : ∀ x ∈ s.opn, okX x.t
  done : ∀ x ∈ s.done, okX x.t
theorem nil_sz : SzB nilS := ⟨fun x hx => by simp [nilS] at hx, by decide, fun x hx => by simp [nilS] at hx, fun x hx => by simp [nilS] at hx⟩
theorem ask_smallS {L : List Ho} {t : Tx} {key : ByteArray} {wr : Bool} {firm : List Tx} (h : smallH L) (hk : okA key t) : smallH (askH L t key wr firm).1 := by
  rcases ask_cases L t key wr firm with ⟨e, _, e1⟩ | ⟨e1, _⟩ | ⟨out, _, ⟨_, _, e1⟩ | ⟨_, e1⟩⟩
  · rw [e1]; exact h
  · rw [e1]; exact h
  · rw [e1]
    intro x hx
    obtain ⟨z, h1, h2, h3, _⟩ := mem_raise hx
    rw [← h2, ← h3]; exact h z (mem_rest.1 h1).1
  · rw [e1]
    intro x hx
    rcases List.mem_append.1 hx with h1 | h1
    · exact h x (mem_rest.1 h1).1
    · obtain rfl : x = ⟨key, t, wr⟩ := by simpa using h1
      exact hk
theorem left_lenS (hs : Option Nat) (out : List Tx) : ∀ (L : List Ho) (i : Nat), (leftH hs out i L).1.length ≤ L.length
  | [], i => by simp [leftH]
  | x :: r, i => by
    have ih := left_lenS hs out r (i + 1)
    simp only [leftH]
    split
    · simp only [List.length_cons]; omega
    split
    · simp only [List.length_cons]; omega
    · simp only [List.length_cons]; omega
theorem ask_len48S (L : List Ho) (t : Tx) (key : ByteArray) (wr : Bool) (firm : List Tx) : (askH L t key wr firm).1.length ≤ max L.length 48 := by
  have hl := fun out => left_lenS (idxH t key 0 L) out L 0
  unfold askH
  split
  · simp only; omega
  rcases hw : wayH t key wr firm [] L with _ | out
  · simp only; omega
  · have := hl out
    simp only
    split
    · simp only; omega
    split
    · simp only; omega
    · rename_i h
      simp only [List.length_append, List.length_singleton]; omega
theorem asks_sz {s : Sh} {o : Odr} (h : SzB s) (ho : okA o.key o.t) : SzB (asksS s o).1 := by
  unfold asksS
  rcases hd : ovrS o.t s.done with _ | c
  case some => exact h
  simp only
  split
  · exact h
  split
  · exact h
  split
  · exact h
  split
  · exact h
  split
  · exact h
  refine ⟨ask_smallS h.hold ho, ?_, fun x hx => ?_, h.done⟩
  · have := ask_len48S s.holds o.t o.key (decide (o.kind = 2)) (firmS s.opn)
    have := h.hlen
    simp only; omega
  · rcases List.mem_append.1 hx with h1 | h1
    · obtain ⟨y, hy, rfl⟩ := List.mem_map.1 h1
      exact h.opn y hy
    · split at h1
      · obtain rfl : x = ⟨o.t, false, false, []⟩ := by simpa using h1
        exact ho.2
      · simp at h1
theorem prp_ok {t : Tx} {P : List Pu} : ∀ {O : List Sop}, (∀ x ∈ O, okX x.t) → ∀ x ∈ prpS t P O, okX x.t
  | [], _, x, hx => by simp [prpS] at hx
  | y :: r, h, x, hx => by
    simp only [prpS] at hx
    split at hx
    · rcases List.mem_cons.1 hx with e | e
      · rw [e]; exact h y (by simp)
      · exact h x (by simp [e])
    · rcases List.mem_cons.1 hx with e | e
      · rw [e]; exact h y (by simp)
      · exact prp_ok (fun z hz => h z (by simp [hz])) x e
theorem prep_sz {s : Sh} {o : Odr} (h : SzB s) : SzB (prepS s o).1 := by
  unfold prepS
  rcases hd : ovrS o.t s.done with _ | c
  case some => exact h
  simp only
  rcases hk : knoS o.t s.opn with _ | x
  · exact h
  simp only
  split
  · exact h
  split
  · split
    · exact h
    · exact h
  split
  · exact h
  split
  · exact h
  split
  · exact h
  exact ⟨h.hold, h.hlen, prp_ok h.opn, h.done⟩
theorem rel_sz {s : Sh} {o : Odr} (h : SzB s) (ho : okX o.t) (rows : List Ro) (ver : Nat) : SzB (relS rows ver s o) :=
  ⟨fun x hx => h.hold x (List.mem_filter.1 hx).1, Nat.le_trans (dropH_len _ _) h.hlen, fun x hx => h.opn x (List.mem_filter.1 hx).1, fun x hx => by
    rcases List.mem_append.1 hx with e | e
    · exact h.done x e
    · obtain rfl : x = ⟨o.t, o.cm⟩ := by simpa using e
      exact ho⟩
theorem fin_sz {s : Sh} {o : Odr} (h : SzB s) (ho : okX o.t) : SzB (finS s o).1 := by
  rcases fin_done s o with ⟨e, _⟩ | ⟨_, _, _, rows, ver, e, _⟩
  · rw [e]; exact h
  · rw [e]; exact rel_sz h ho rows ver
theorem do_sz {s : Sh} {o : Odr} (h : SzB s) (ho : okA o.key o.t) : SzB (doS s o).1 := by
  unfold doS
  split
  · exact asks_sz h ho
  split
  · exact prep_sz h
  split
  · exact fin_sz h ho.2
  · exact h
/-- What the walks ask of a shard's size. -/
structure SzS (s : Sh) : Prop where
  rlen : s.rows.length * 40 ≤ 140737488351232
  rows : smlR s.rows
  hlen : s.holds.length * 40 ≤ 140737488351232
  hold : smallH s.holds
  olen : s.opn.length * 48 ≤ 140737488351232
  opn : ∀ x ∈ s.opn, okX x.t ∧ x.puts.length * 40 ≤ 140737488351232 ∧ smlP x.puts
  dlen : s.done.length * 24 ≤ 140737488351232
  done : ∀ x ∈ s.done, okX x.t
  ver : s.ver < 18446744073709551616
  keys : (allK s []).length ≤ 900000000
theorem fits_small {P : List Pu} (h : fitsX P = 0) : P.length ≤ 8 ∧ smlP P := by
  refine ⟨?_, fun p hp => ?_⟩
  · unfold fitsX at h
    split at h
    · cases h
    · omega
  · have h1 := fits_one h hp
    unfold fitsX at h1
    rw [if_neg (by simp)] at h1
    split at h1
    · rename_i hf
      have := fitF_ok [p] [] hf p (by simp)
      unfold putOk at this
      simp only [Bool.and_eq_true, decide_eq_true_eq] at this
      exact ⟨by omega, by omega⟩
    · cases h1
theorem asc_ok : ∀ (L : List Ro) (p : Option ByteArray), ascF p L = true → ∀ x ∈ L, rowOk x = true
  | [], _, _, x, hx => by simp at hx
  | y :: r, p, h, x, hx => by
    simp only [ascF, Bool.and_eq_true] at h
    rcases List.mem_cons.1 hx with e | e
    · rw [e]; exact h.1
    · exact asc_ok r _ h.2.2 x e
theorem opnK_len : ∀ (O : List Sop), (∀ x ∈ O, x.puts.length ≤ 8) → (opnK O).length ≤ O.length * 8
  | [], _ => by simp [opnK]
  | x :: r, h => by
    have ih := opnK_len r fun y hy => h y (by simp [hy])
    have hx := h x (by simp)
    have h1 : (putK x.puts).length ≤ x.puts.length := by unfold putK; rw [List.length_map]; exact List.length_filter_le _ _
    unfold opnK at ih ⊢
    rw [List.flatMap_cons, List.length_append, List.length_cons]
    split
    · omega
    · simp only [List.length_nil]; omega
theorem sz_of {s : Sh} (h : OkS s) (hb : SzB s) (hv : s.ver < 18446744073709551616) : SzS s := by
  have hl := h.len
  have hh := hb.hlen
  have hp : ∀ x ∈ s.opn, x.puts.length ≤ 8 ∧ smlP x.puts := fun x hx => fits_small (h.op x hx).2.2.1
  have hk := opnK_len s.opn fun x hx => (hp x hx).1
  have hr : s.rows.length ≤ 32 ∧ smlR s.rows := by
    have h1 := h.rows
    simp only [rightB, Bool.and_eq_true, decide_eq_true_eq] at h1
    refine ⟨h1.1, fun x hx => ?_⟩
    have h2 := asc_ok s.rows none h1.2 x hx
    simp only [rowOk, Bool.and_eq_true, decide_eq_true_eq] at h2
    exact ⟨by omega, by omega⟩
  refine ⟨by omega, hr.2, by omega, hb.hold, by omega, fun x hx => ⟨hb.opn x hx, by have := (hp x hx).1; omega, (hp x hx).2⟩, by omega, hb.done, hv, ?_⟩
  unfold allK
  simp only [List.length_append, List.length_map]
  have : (putK []).length = 0 := rfl
  omega
end Go.Proofs.YthgnecggdlamfaaGreat
/- What the laws of layer 13 need of the program; orders in memory; a shard in a box of the law's own. -/
namespace Go.Proofs.YthgnecggdlamfaaGreat
open Go.RowKit

/-- What is asked of an order's size. -/
structure SzO (o : Odr) : Prop where
  ok : okA o.key o.t
  plen : o.puts.length * 40 ≤ 140737488351232
  puts : smlP o.puts
  kind : -9223372036854775808 ≤ o.kind ∧ o.kind < 9223372036854775808
/-- Whether shards are the same, element by element. -/
def samRo (x y : Ro) : Bool := decide (x.key = y.key) && (decide (x.val = y.val) && decide (x.ver = y.ver))
def samHo (x y : Ho) : Bool := decide (x.key = y.key) && (decide (x.t = y.t) && x.wr == y.wr)
def samOp (x y : Sop) : Bool := samPs x.puts y.puts && (decide (x.t = y.t) && (x.fm == y.fm && x.wd == y.wd))
def samDn (x y : Sdn) : Bool := decide (x.t = y.t) && x.cm == y.cm
def samL {α : Type} (f : α → α → Bool) : List α → List α → Bool
  | [], [] => true
  | x :: r, y :: s => f x y && samL f r s
  | _, _ => false
def samS (a b : Sh) : Bool := samL samRo a.rows b.rows && (samL samHo a.holds b.holds && (decide (a.ver = b.ver) && (samL samOp a.opn b.opn && samL samDn a.done b.done)))
/-- The program's contracts: TT is what they need of the tables. -/
structure PShard (TT : World → Prop) : Prop where
  below : ∀ {w w' : World}, TT w → Below w.heap.size w w' → TT w'
  doo : ∀ (s : Sh) (A : Sad) (o : Odr) (a : Option Addr) (c : Nat) (q : Option Addr) (qn qc : Nat) (w : World), TT w → ShM w s A → SzS s → SzO o → o.puts.length ≤ c → c ≤ maxLen → Pus w a o.puts →
    Calls Tryz.prog 9 #[shV s A, odrV o a c (.slice q qn qc)] w (OrP w (doS s o))
/-- An order, with where its lists lie. -/
structure OrM where
  x : Odr
  a : Option Addr
  c : Nat
  qa : Option Addr
  qn : Nat
  qc : Nat
def ordC (y : OrM) : List Value := [.int .i64 y.x.kind, .int .u64 (y.x.t.age : Nat), .int .u64 (y.x.t.id : Nat), .string y.x.key, .slice y.a y.x.puts.length y.c, .bool y.x.cm, .slice y.qa y.qn y.qc]
/-- Orders as they come in. -/
structure OrIn (W : World) (a : Option Addr) (n c : Nat) (L : List OrM) : Prop where
  hlen : L.length = n
  room : n * 88 ≤ 140737488351232
  mem : Rw 7 ordC W a L
  puts : ∀ y ∈ L, Pus W y.a y.x.puts ∧ y.x.puts.length ≤ y.c ∧ y.c ≤ maxLen ∧ SzO y.x
theorem OrIn.cells {w w0 : World} {a : Option Addr} {n c : Nat} {L : List OrM} (I : OrIn w0 a n c L) (hb : Below w0.heap.size w0 w) {k : Nat} {y : OrM} (hy : L[k]? = some y) : ∃ b off, a = some ⟨b, off, none⟩ ∧ b < w0.heap.size ∧ w.cell? ⟨b, off + k * 7, none⟩ = some (.int .i64 y.x.kind) ∧ w.cell? ⟨b, off + k * 7 + 1, none⟩ = some (.int .u64 (y.x.t.age : Nat)) ∧ w.cell? ⟨b, off + k * 7 + 2, none⟩ = some (.int .u64 (y.x.t.id : Nat)) ∧ w.cell? ⟨b, off + k * 7 + 3, none⟩ = some (.string y.x.key) ∧ w.cell? ⟨b, off + k * 7 + 4, none⟩ = some (.slice y.a y.x.puts.length y.c) ∧ w.cell? ⟨b, off + k * 7 + 5, none⟩ = some (.bool y.x.cm) ∧ w.cell? ⟨b, off + k * 7 + 6, none⟩ = some (.slice y.qa y.qn y.qc) := by
  obtain ⟨b, off, e, hlt, c⟩ := I.mem k y hy
  have f : ∀ i u, (ordC y)[i]? = some u → w.cell? ⟨b, off + k * 7 + i, none⟩ = some u := fun i u hu => (hb.cell (p := ⟨b, off + k * 7 + i, none⟩) hlt).trans (c i u hu)
  exact ⟨b, off, e, hlt, f 0 _ rfl, f 1 _ rfl, f 2 _ rfl, f 3 _ rfl, f 4 _ rfl, f 5 _ rfl, f 6 _ rfl⟩
/-- A shard in a box of the law's own. -/
structure LB (w0 w : World) (x : Nat) (s : Sh) (A : Sad) : Prop where
  kb : KB w x sK
  c0 : w.cell? ⟨x, 0, none⟩ = some (.slice A.ra s.rows.length A.rc)
  c1 : w.cell? ⟨x, 1, none⟩ = some (.slice A.ha s.holds.length A.hc)
  c2 : w.cell? ⟨x, 2, none⟩ = some (.slice A.oa s.opn.length A.oc)
  c3 : w.cell? ⟨x, 3, none⟩ = some (.slice A.da s.done.length A.dc)
  c4 : w.cell? ⟨x, 4, none⟩ = some (.int .u64 (s.ver : Nat))
  m : ShM w s A
  l : w0.heap.size ≤ x
theorem LB.later {w0 w w' : World} {x : Nat} {s : Sh} {A : Sad} (h : LB w0 w x s A) (hb : Below w.heap.size w w') : LB w0 w' x s A := by
  have f : ∀ j v, w.cell? ⟨x, j, none⟩ = some v → w'.cell? ⟨x, j, none⟩ = some v := fun j v e => (hb.cell (p := ⟨x, j, none⟩) h.kb.lt).trans e
  exact ⟨h.kb.later hb, f _ _ h.c0, f _ _ h.c1, f _ _ h.c2, f _ _ h.c3, f _ _ h.c4, h.m.later hb, h.l⟩
theorem KB.cells5 {w : World} {x : Nat} (h : KB w x sK) (v0 v1 v2 v3 v4 : Value) : (set5s w x v0 v1 v2 v3 v4).cell? ⟨x, 0, none⟩ = some v0 ∧ (set5s w x v0 v1 v2 v3 v4).cell? ⟨x, 1, none⟩ = some v1 ∧ (set5s w x v0 v1 v2 v3 v4).cell? ⟨x, 2, none⟩ = some v2 ∧ (set5s w x v0 v1 v2 v3 v4).cell? ⟨x, 3, none⟩ = some v3 ∧ (set5s w x v0 v1 v2 v3 v4).cell? ⟨x, 4, none⟩ = some v4 := by
  obtain ⟨u0, e0⟩ := h.so 0 (by decide)
  obtain ⟨u1, e1⟩ := h.so 1 (by decide)
  obtain ⟨u2, e2⟩ := h.so 2 (by decide)
  obtain ⟨u3, e3⟩ := h.so 3 (by decide)
  obtain ⟨u4, e4⟩ := h.so 4 (by decide)
  exact ⟨by simp [go_sem, e0], by simp [go_sem, e1], by simp [go_sem, e2], by simp [go_sem, e3], by simp [go_sem, e4]⟩
/-- Another shard is laid in the box. -/
theorem LB.put {w0 w : World} {x : Nat} {s s' : Sh} {A A' : Sad} (h : LB w0 w x s A) (hm : ShM w s' A') : LB w0 (set5s w x (.slice A'.ra s'.rows.length A'.rc) (.slice A'.ha s'.holds.length A'.hc) (.slice A'.oa s'.opn.length A'.oc) (.slice A'.da s'.done.length A'.dc) (.int .u64 (s'.ver : Nat))) x s' A' := by
  obtain ⟨c0, c1, c2, c3, c4⟩ := h.kb.cells5 (.slice A'.ra s'.rows.length A'.rc) (.slice A'.ha s'.holds.length A'.hc) (.slice A'.oa s'.opn.length A'.oc) (.slice A'.da s'.done.length A'.dc) (.int .u64 (s'.ver : Nat))
  exact ⟨h.kb.set5, c0, c1, c2, c3, c4, hm.set5 _ _ _ _ _ h.kb fits_s rfl, h.l⟩
theorem LB.putB {w0 w : World} {x : Nat} {s s' : Sh} {A A' : Sad} (h : LB w0 w x s A) (hm : ShM w s' A') (hB : Below w0.heap.size w0 w) : LB w0 (set5s w x (.slice A'.ra s'.rows.length A'.rc) (.slice A'.ha s'.holds.length A'.hc) (.slice A'.oa s'.opn.length A'.oc) (.slice A'.da s'.done.length A'.dc) (.int .u64 (s'.ver : Nat))) x s' A' ∧ Below w0.heap.size w0 (set5s w x (.slice A'.ra s'.rows.length A'.rc) (.slice A'.ha s'.holds.length A'.hc) (.slice A'.oa s'.opn.length A'.oc) (.slice A'.da s'.done.length A'.dc) (.int .u64 (s'.ver : Nat))) :=
  ⟨h.put hm, below_set5s hB h.l⟩
/-- A box of another kind is written. -/
theorem LB.far5 {w0 w : World} {x y : Nat} {s : Sh} {A : Sad} (h : LB w0 w x s A) (hy : KB w y sK) (hne : y ≠ x) (v0 v1 v2 v3 v4 : Value) (e : sK = [kdV v0, kdV v1, kdV v2, kdV v3, kdV v4]) : LB w0 (set5s w y v0 v1 v2 v3 v4) x s A := by
  have f : ∀ j v, w.cell? ⟨x, j, none⟩ = some v → (set5s w y v0 v1 v2 v3 v4).cell? ⟨x, j, none⟩ = some v := fun j v e => by
    unfold set5s
    rw [World.cell?_setCell_far _ _ _ _ hne, World.cell?_setCell_far _ _ _ _ hne, World.cell?_setCell_far _ _ _ _ hne, World.cell?_setCell_far _ _ _ _ hne, World.cell?_setCell_far _ _ _ _ hne]; exact e
  exact ⟨h.kb.far5 hne, f _ _ h.c0, f _ _ h.c1, f _ _ h.c2, f _ _ h.c3, f _ _ h.c4, h.m.set5 _ _ _ _ _ hy fits_s e, h.l⟩
/-- The empty shard in a new box. -/
def nilA : Sad := ⟨none, 0, none, 0, none, 0, [], none, 0⟩
theorem nil_m (w : World) : ShM w nilS nilA := by
  refine ⟨Rw.nil _, Rw.nil _, rfl, Rw.nil _, fun y hy => by simp [nilA] at hy, Rw.nil _, ⟨by decide, by decide, by decide, by decide, fun y hy => by simp [nilA] at hy⟩⟩
theorem LB.new {w0 w W : World} (hl : w0.heap.size ≤ w.heap.size) (hW : w.alloc (.cells #[.slice none 0 0, .slice none 0 0, .slice none 0 0, .slice none 0 0, .int .u64 0] 28) = W) : Below w.heap.size w W ∧ LB w0 W w.heap.size nilS nilA := by
  subst hW
  exact ⟨by go_grown, ⟨KB.new5 rfl _ _ _ _ _ _, by simp [go_sem, nilS, nilA], by simp [go_sem, nilS, nilA], by simp [go_sem, nilS, nilA], by simp [go_sem, nilS, nilA], by simp [go_sem, nilS], nil_m _, hl⟩⟩
/-- What a law's loop knows of its shard. -/
structure LS (s : Sh) (k : Nat) : Prop where
  ok : OkS s
  sz : SzB s
  ver : s.ver ≤ k
theorem LS.nil : LS nilS 0 := ⟨nil_ok, nil_sz, Nat.le_refl _⟩
theorem LS.step {s : Sh} {k : Nat} (h : LS s k) {o : Odr} (ho : SzO o) (hk : k < 4611686018427387903) : LS (doS s o).1 (k + 1) := by
  obtain ⟨h1, _, h3⟩ := do_okS h.ok o (by have := h.ver; omega)
  exact ⟨h1, do_sz h.sz ho.ok, by have := h.ver; omega⟩
theorem LS.mono {s : Sh} {k j : Nat} (h : LS s k) (hj : k ≤ j) : LS s j := ⟨h.ok, h.sz, Nat.le_trans h.ver hj⟩
theorem LS.szs {s : Sh} {k : Nat} (h : LS s k) (hk : k < 4611686018427387903) : SzS s := sz_of h.ok h.sz (by have := h.ver; omega)
/-- Each order of a list, one behind the other. -/
def runS (L : List OrM) (s : Sh) : Sh := L.foldl (fun s y => (doS s y.x).1) s
theorem runS_at {L : List OrM} {k : Nat} {y : OrM} (hy : L[k]? = some y) (s : Sh) : runS (L.take (k + 1)) s = (doS (runS (L.take k) s) y.x).1 := by
  rw [List.take_add_one, hy]
  unfold runS
  simp
end Go.Proofs.YthgnecggdlamfaaGreat
/- Whether rows, locks are the same, element by element: the document's. -/
namespace Go.Proofs.YthgnecggdlamfaaGreat
open Go.RowKit

theorem samL_at {α : Type} {f : α → α → Bool} {P Q : List α} {k : Nat} {x y : α} (hx : P[k]? = some x) (hy : Q[k]? = some y) : samL f (P.drop k) (Q.drop k) = (f x y && samL f (P.drop (k + 1)) (Q.drop (k + 1))) := by
  obtain ⟨hk, rfl⟩ := List.getElem?_eq_some_iff.1 hx
  obtain ⟨hk2, rfl⟩ := List.getElem?_eq_some_iff.1 hy
  rw [List.drop_eq_getElem_cons hk, List.drop_eq_getElem_cons hk2]; rfl
theorem samL_len {α : Type} (f : α → α → Bool) : ∀ (P Q : List α), P.length ≠ Q.length → samL f P Q = false
  | [], [], h => absurd rfl h
  | [], _ :: _, _ => rfl
  | _ :: _, [], _ => rfl
  | x :: r, y :: s, h => by
    rw [samL, samL_len f r s (fun e => h (by simp [e])), Bool.and_false]
set_option maxRecDepth 100000 in
set_option maxHeartbeats 4000000 in
theorem rSameRo_any (n c m d : Nat) (a b : Option Addr) (P Q : List Ro) (hn : P.length = n) (hl : n ≤ 140737488351232) (hm : Q.length = m) (hl2 : m ≤ 140737488351232) (w : World) (hP : Ros w a P) (hQ : Ros w b Q) :
    Calls Tryz.prog 33 #[.slice a n c, .slice b m d] w fun e w' => e = .returned (.bool (samL samRo P Q)) ∧ Below w.heap.size w w' := by
  have HN := Lib.hid hn
  have HM := Lib.hid hm
  have HP := Lib.hid hP
  have HQ := Lib.hid hQ
  by_cases hnm : n = m
  case neg =>
    have HE := Lib.hid (samL_len samRo P Q (by rw [hn, hm]; exact hnm))
    have g := int_ne hnm
    have gn : ((n : Int) != (m : Int)) = true := by simp; omega
    clear hn hm hP hQ hnm
    go_enter Tryz.func33, Tryz.ntmps33
    go_wp2_with fail
    go_ret
    exact ⟨by rw [HE.out]; first | rfl | simp, Below.refl _ _⟩
  subst hnm
  obtain ⟨r, hr⟩ : ∃ r, samL samRo P Q = r := ⟨_, rfl⟩
  rw [hr]
  have HR := Lib.hid (show samL samRo (P.drop 0) (Q.drop 0) = r from hr)
  clear hn hm hP hQ hr
  go_enter Tryz.func33, Tryz.ntmps33
  go_wp2_with fail
  go_loopw [5] (fun u wr => ∃ k : Nat, k ≤ n ∧ u = .int .i64 k ∧ samL samRo (P.drop k) (Q.drop k) = r ∧ Below w.heap.size w wr) (fun u _ => n - (intOf u).toNat)
  case atStart => exact ⟨0, Nat.zero_le _, rfl, HR.out, Below.refl _ _⟩
  case round =>
    obtain ⟨k, hk, rfl, hf, hB⟩ := hrel
    have HF := Lib.hid hf
    have HB := Lib.hid hB
    clear hf
    by_cases hlt : k < n
    case neg =>
      obtain rfl : r = true := by
        rw [← HF.out, List.drop_eq_nil_of_le (by rw [HN.out]; omega), List.drop_eq_nil_of_le (by rw [HM.out]; omega)]; rfl
      clear hB
      go_wp2_with fail
      go_ret
      exact ⟨by first | rfl | simp, HB.out⟩
    obtain ⟨x, hx⟩ : ∃ x, P[k]? = some x := ⟨_, List.getElem?_eq_getElem (by rw [HN.out]; exact hlt)⟩
    obtain ⟨y, hy⟩ : ∃ y, Q[k]? = some y := ⟨_, List.getElem?_eq_getElem (by rw [HM.out]; exact hlt)⟩
    have i0 : (0 : Int) ≤ (k : Int) := by omega
    have i1 : (k : Int) < (n : Int) := by omega
    have HA := Lib.hid (HF.out.symm.trans (samL_at hx hy))
    obtain ⟨b1, off, rfl, _, p0, p1, p2⟩ := Ros.cells (HP.out.later hB) hx
    obtain ⟨b2, off2, rfl, _, q0, q1, q2⟩ := Ros.cells (HQ.out.later hB) hy
    obtain ⟨xk, xv, xn⟩ := x
    obtain ⟨yk, yv, yn⟩ := y
    simp only at p0 q0 p1 q1 p2 q2 HA
    clear hx hy hB
    by_cases h0 : xk = yk
    case neg =>
      have g1 := ba_ne h0
      have g2 := ba_ne' h0
      obtain rfl : r = false := by rw [HA.out]; simp [samRo, h0]
      go_wp2_with fail
      go_quiet (fail)
      go_wp2_with fail
      go_ret
      exact ⟨by first | rfl | simp, below_drewN HB.out _⟩
    subst h0
    by_cases h1 : xv = yv
    case neg =>
      have g1 := ba_ne h1
      have g2 := ba_ne' h1
      obtain rfl : r = false := by rw [HA.out]; simp [samRo, h1]
      go_wp2_with fail
      go_quiet (fail)
      go_wp2_with fail
      go_ret
      exact ⟨by first | rfl | simp, below_drewN HB.out _⟩
    subst h1
    by_cases h2 : xn = yn
    case neg =>
      have g1 := int_ne h2
      obtain rfl : r = false := by rw [HA.out]; simp [samRo, h2]
      go_wp2_with fail
      go_quiet (fail)
      go_wp2_with fail
      go_ret
      exact ⟨by first | rfl | simp, below_drewN HB.out _⟩
    subst h2
    have HT := Lib.hid (show samL samRo (P.drop (k + 1)) (Q.drop (k + 1)) = r by rw [HA.out]; simp [samRo])
    go_wp2_with fail
    go_quiet (fail)
    go_wp2_with fail
    go_roundw
    case rel => exact ⟨k + 1, by omega, by go_num, HT.out, below_drewN HB.out _⟩
    case measure => simp [intOf]; omega
set_option maxRecDepth 100000 in
set_option maxHeartbeats 4000000 in
theorem rSameHo_any (n c m d : Nat) (a b : Option Addr) (P Q : List Ho) (hn : P.length = n) (hl : n ≤ 140737488351232) (hm : Q.length = m) (hl2 : m ≤ 140737488351232) (w : World) (hP : Hos w a P) (hQ : Hos w b Q) :
    Calls Tryz.prog 34 #[.slice a n c, .slice b m d] w fun e w' => e = .returned (.bool (samL samHo P Q)) ∧ Below w.heap.size w w' := by
  have HN := Lib.hid hn
  have HM := Lib.hid hm
  have HP := Lib.hid hP
  have HQ := Lib.hid hQ
  by_cases hnm : n = m
  case neg =>
    have HE := Lib.hid (samL_len samHo P Q (by rw [hn, hm]; exact hnm))
    have g := int_ne hnm
    have gn : ((n : Int) != (m : Int)) = true := by simp; omega
    clear hn hm hP hQ hnm
    go_enter Tryz.func34, Tryz.ntmps34
    go_wp2_with fail
    go_ret
    exact ⟨by rw [HE.out]; first | rfl | simp, Below.refl _ _⟩
  subst hnm
  obtain ⟨r, hr⟩ : ∃ r, samL samHo P Q = r := ⟨_, rfl⟩
  rw [hr]
  have HR := Lib.hid (show samL samHo (P.drop 0) (Q.drop 0) = r from hr)
  clear hn hm hP hQ hr
  go_enter Tryz.func34, Tryz.ntmps34
  go_wp2_with fail
  go_loopw [5] (fun u wr => ∃ k : Nat, k ≤ n ∧ u = .int .i64 k ∧ samL samHo (P.drop k) (Q.drop k) = r ∧ Below w.heap.size w wr) (fun u _ => n - (intOf u).toNat)
  case atStart => exact ⟨0, Nat.zero_le _, rfl, HR.out, Below.refl _ _⟩
  case round =>
    obtain ⟨k, hk, rfl, hf, hB⟩ := hrel
    have HF := Lib.hid hf
    have HB := Lib.hid hB
    clear hf
    by_cases hlt : k < n
    case neg =>
      obtain rfl : r = true := by
        rw [← HF.out, List.drop_eq_nil_of_le (by rw [HN.out]; omega), List.drop_eq_nil_of_le (by rw [HM.out]; omega)]; rfl
      clear hB
      go_wp2_with fail
      go_ret
      exact ⟨by first | rfl | simp, HB.out⟩
    obtain ⟨x, hx⟩ : ∃ x, P[k]? = some x := ⟨_, List.getElem?_eq_getElem (by rw [HN.out]; exact hlt)⟩
    obtain ⟨y, hy⟩ : ∃ y, Q[k]? = some y := ⟨_, List.getElem?_eq_getElem (by rw [HM.out]; exact hlt)⟩
    have i0 : (0 : Int) ≤ (k : Int) := by omega
    have i1 : (k : Int) < (n : Int) := by omega
    have HA := Lib.hid (HF.out.symm.trans (samL_at hx hy))
    obtain ⟨b1, off, rfl, _, p0, p1, p2, p3⟩ := Hos.cells (HP.out.later hB) hx
    obtain ⟨b2, off2, rfl, _, q0, q1, q2, q3⟩ := Hos.cells (HQ.out.later hB) hy
    obtain ⟨xk, ⟨xa, xi⟩, xw⟩ := x
    obtain ⟨yk, ⟨ya, yi⟩, yw⟩ := y
    simp only at p0 q0 p1 q1 p2 q2 p3 q3 HA
    clear hx hy hB
    by_cases h0 : xk = yk
    case neg =>
      have g1 := ba_ne h0
      have g2 := ba_ne' h0
      obtain rfl : r = false := by rw [HA.out]; simp [samHo, h0]
      go_wp2_with fail
      go_quiet (fail)
      go_wp2_with fail
      go_ret
      exact ⟨by first | rfl | simp, below_drewN HB.out _⟩
    subst h0
    by_cases h1 : xa = ya
    case neg =>
      have g1 := int_ne h1
      obtain rfl : r = false := by rw [HA.out]; simp [samHo, h1]
      go_wp2_with fail
      go_quiet (fail)
      go_wp2_with fail
      go_ret
      exact ⟨by first | rfl | simp, below_drewN HB.out _⟩
    subst h1
    by_cases h2 : xi = yi
    case neg =>
      have g1 := int_ne h2
      obtain rfl : r = false := by rw [HA.out]; simp [samHo, h2]
      go_wp2_with fail
      go_quiet (fail)
      go_wp2_with fail
      go_ret
      exact ⟨by first | rfl | simp, below_drewN HB.out _⟩
    subst h2
    by_cases h3 : xw = yw
    case neg =>
      have g1 : (xw == yw) = false := by simpa using h3
      obtain rfl : r = false := by rw [HA.out]; simp [samHo, g1]
      go_wp2_with fail
      go_quiet (fail)
      go_wp2_with fail
      go_ret
      exact ⟨by first | rfl | simp, below_drewN HB.out _⟩
    subst h3
    have HT := Lib.hid (show samL samHo (P.drop (k + 1)) (Q.drop (k + 1)) = r by rw [HA.out]; simp [samHo])
    go_wp2_with fail
    go_quiet (fail)
    go_wp2_with fail
    go_roundw
    case rel => exact ⟨k + 1, by omega, by go_num, HT.out, below_drewN HB.out _⟩
    case measure => simp [intOf]; omega
theorem samL_refl {α : Type} {f : α → α → Bool} (h : ∀ x, f x x = true) : ∀ L, samL f L L = true
  | [] => rfl
  | x :: r => by rw [samL, h x, samL_refl h r]; rfl
theorem samPs_refl : ∀ L, samPs L L = true
  | [] => rfl
  | x :: r => by rw [samPs, samPs_refl r]; simp [samP]
theorem samS_refl (s : Sh) : samS s s = true := by
  unfold samS
  rw [samL_refl (fun x => by simp [samRo]), samL_refl (fun x => by simp [samHo]), samL_refl (fun x => by simp [samOp, samPs_refl]), samL_refl (fun x => by simp [samDn])]
  simp
end Go.Proofs.YthgnecggdlamfaaGreat
