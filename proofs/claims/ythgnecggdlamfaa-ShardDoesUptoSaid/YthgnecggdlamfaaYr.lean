/- What the laws of layer 13 need of the program; orders in memory; a shard in a box of the law's own. -/
import Derived.Test.YthgnecggdlamfaaYl
import Derived.Test.YthgnecggdlamfaaTe
namespace Go.Proofs.Ythgnecggdlamfaa
open Go.RowKit

/-- What is asked of an order's size. -/
structure SzO (o : Odr) : Prop where
  ok : okA o.key o.t
  plen : o.puts.length * 40 ≤ 140737488351232
  puts : smlP o.puts
  kind : -9223372036854775808 ≤ o.kind ∧ o.kind < 9223372036854775808
/-- Whether shards are the same, element by element. -/
def samRo (x y : Ro) : Bool := decide (x.key = y.key) && (decide (x.val = y.val) && decide (x.ver = y.ver))
def samHo (x y : Ho) : Bool := decide (x.key = y.key) && (decide (x.t = y.t) && x.wr == y.wr)
def samOp (x y : Sop) : Bool := samPs x.puts y.puts && (decide (x.t = y.t) && (x.fm == y.fm && x.wd == y.wd))
def samDn (x y : Sdn) : Bool := decide (x.t = y.t) && x.cm == y.cm
def samL {α : Type} (f : α → α → Bool) : List α → List α → Bool
  | [], [] => true
  | x :: r, y :: s => f x y && samL f r s
  | _, _ => false
def samS (a b : Sh) : Bool := samL samRo a.rows b.rows && (samL samHo a.holds b.holds && (decide (a.ver = b.ver) && (samL samOp a.opn b.opn && samL samDn a.done b.done)))
/-- The program's contracts: TT is what they need of the tables. -/
structure PShard (TT : World → Prop) : Prop where
  below : ∀ {w w' : World}, TT w → Below w.heap.size w w' → TT w'
  doo : ∀ (s : Sh) (A : Sad) (o : Odr) (a : Option Addr) (c : Nat) (q : Option Addr) (qn qc : Nat) (w : World), TT w → ShM w s A → SzS s → SzO o → o.puts.length ≤ c → c ≤ maxLen → Pus w a o.puts →
    Calls Try.prog 10 #[shV s A, odrV o a c (.slice q qn qc)] w (OrP w (doS s o))
/-- An order, with where its lists lie. -/
structure OrM where
  x : Odr
  a : Option Addr
  c : Nat
  qa : Option Addr
  qn : Nat
  qc : Nat
def ordC (y : OrM) : List Value := [.int .i64 y.x.kind, .int .u64 (y.x.t.age : Nat), .int .u64 (y.x.t.id : Nat), .string y.x.key, .slice y.a y.x.puts.length y.c, .bool y.x.cm, .slice y.qa y.qn y.qc]
/-- Orders as they come in. -/
structure OrIn (W : World) (a : Option Addr) (n c : Nat) (L : List OrM) : Prop where
  hlen : L.length = n
  room : n * 88 ≤ 140737488351232
  mem : Rw 7 ordC W a L
  puts : ∀ y ∈ L, Pus W y.a y.x.puts ∧ y.x.puts.length ≤ y.c ∧ y.c ≤ maxLen ∧ SzO y.x
theorem OrIn.cells {w w0 : World} {a : Option Addr} {n c : Nat} {L : List OrM} (I : OrIn w0 a n c L) (hb : Below w0.heap.size w0 w) {k : Nat} {y : OrM} (hy : L[k]? = some y) : ∃ b off, a = some ⟨b, off, none⟩ ∧ b < w0.heap.size ∧ w.cell? ⟨b, off + k * 7, none⟩ = some (.int .i64 y.x.kind) ∧ w.cell? ⟨b, off + k * 7 + 1, none⟩ = some (.int .u64 (y.x.t.age : Nat)) ∧ w.cell? ⟨b, off + k * 7 + 2, none⟩ = some (.int .u64 (y.x.t.id : Nat)) ∧ w.cell? ⟨b, off + k * 7 + 3, none⟩ = some (.string y.x.key) ∧ w.cell? ⟨b, off + k * 7 + 4, none⟩ = some (.slice y.a y.x.puts.length y.c) ∧ w.cell? ⟨b, off + k * 7 + 5, none⟩ = some (.bool y.x.cm) ∧ w.cell? ⟨b, off + k * 7 + 6, none⟩ = some (.slice y.qa y.qn y.qc) := by
  obtain ⟨b, off, e, hlt, c⟩ := I.mem k y hy
  have f : ∀ i u, (ordC y)[i]? = some u → w.cell? ⟨b, off + k * 7 + i, none⟩ = some u := fun i u hu => (hb.cell (p := ⟨b, off + k * 7 + i, none⟩) hlt).trans (c i u hu)
  exact ⟨b, off, e, hlt, f 0 _ rfl, f 1 _ rfl, f 2 _ rfl, f 3 _ rfl, f 4 _ rfl, f 5 _ rfl, f 6 _ rfl⟩
/-- A shard in a box of the law's own. -/
structure LB (w0 w : World) (x : Nat) (s : Sh) (A : Sad) : Prop where
  kb : KB w x sK
  c0 : w.cell? ⟨x, 0, none⟩ = some (.slice A.ra s.rows.length A.rc)
  c1 : w.cell? ⟨x, 1, none⟩ = some (.slice A.ha s.holds.length A.hc)
  c2 : w.cell? ⟨x, 2, none⟩ = some (.slice A.oa s.opn.length A.oc)
  c3 : w.cell? ⟨x, 3, none⟩ = some (.slice A.da s.done.length A.dc)
  c4 : w.cell? ⟨x, 4, none⟩ = some (.int .u64 (s.ver : Nat))
  m : ShM w s A
  l : w0.heap.size ≤ x
theorem LB.later {w0 w w' : World} {x : Nat} {s : Sh} {A : Sad} (h : LB w0 w x s A) (hb : Below w.heap.size w w') : LB w0 w' x s A := by
  have f : ∀ j v, w.cell? ⟨x, j, none⟩ = some v → w'.cell? ⟨x, j, none⟩ = some v := fun j v e => (hb.cell (p := ⟨x, j, none⟩) h.kb.lt).trans e
  exact ⟨h.kb.later hb, f _ _ h.c0, f _ _ h.c1, f _ _ h.c2, f _ _ h.c3, f _ _ h.c4, h.m.later hb, h.l⟩
theorem KB.cells5 {w : World} {x : Nat} (h : KB w x sK) (v0 v1 v2 v3 v4 : Value) : (set5s w x v0 v1 v2 v3 v4).cell? ⟨x, 0, none⟩ = some v0 ∧ (set5s w x v0 v1 v2 v3 v4).cell? ⟨x, 1, none⟩ = some v1 ∧ (set5s w x v0 v1 v2 v3 v4).cell? ⟨x, 2, none⟩ = some v2 ∧ (set5s w x v0 v1 v2 v3 v4).cell? ⟨x, 3, none⟩ = some v3 ∧ (set5s w x v0 v1 v2 v3 v4).cell? ⟨x, 4, none⟩ = some v4 := by
  obtain ⟨u0, e0⟩ := h.so 0 (by decide)
  obtain ⟨u1, e1⟩ := h.so 1 (by decide)
  obtain ⟨u2, e2⟩ := h.so 2 (by decide)
  obtain ⟨u3, e3⟩ := h.so 3 (by decide)
  obtain ⟨u4, e4⟩ := h.so 4 (by decide)
  exact ⟨by simp [go_sem, e0], by simp [go_sem, e1], by simp [go_sem, e2], by simp [go_sem, e3], by simp [go_sem, e4]⟩
/-- Another shard is laid in the box. -/
theorem LB.put {w0 w : World} {x : Nat} {s s' : Sh} {A A' : Sad} (h : LB w0 w x s A) (hm : ShM w s' A') : LB w0 (set5s w x (.slice A'.ra s'.rows.length A'.rc) (.slice A'.ha s'.holds.length A'.hc) (.slice A'.oa s'.opn.length A'.oc) (.slice A'.da s'.done.length A'.dc) (.int .u64 (s'.ver : Nat))) x s' A' := by
  obtain ⟨c0, c1, c2, c3, c4⟩ := h.kb.cells5 (.slice A'.ra s'.rows.length A'.rc) (.slice A'.ha s'.holds.length A'.hc) (.slice A'.oa s'.opn.length A'.oc) (.slice A'.da s'.done.length A'.dc) (.int .u64 (s'.ver : Nat))
  exact ⟨h.kb.set5, c0, c1, c2, c3, c4, hm.set5 _ _ _ _ _ h.kb fits_s rfl, h.l⟩
theorem LB.putB {w0 w : World} {x : Nat} {s s' : Sh} {A A' : Sad} (h : LB w0 w x s A) (hm : ShM w s' A') (hB : Below w0.heap.size w0 w) : LB w0 (set5s w x (.slice A'.ra s'.rows.length A'.rc) (.slice A'.ha s'.holds.length A'.hc) (.slice A'.oa s'.opn.length A'.oc) (.slice A'.da s'.done.length A'.dc) (.int .u64 (s'.ver : Nat))) x s' A' ∧ Below w0.heap.size w0 (set5s w x (.slice A'.ra s'.rows.length A'.rc) (.slice A'.ha s'.holds.length A'.hc) (.slice A'.oa s'.opn.length A'.oc) (.slice A'.da s'.done.length A'.dc) (.int .u64 (s'.ver : Nat))) :=
  ⟨h.put hm, below_set5s hB h.l⟩
/-- A box of another kind is written. -/
theorem LB.far5 {w0 w : World} {x y : Nat} {s : Sh} {A : Sad} (h : LB w0 w x s A) (hy : KB w y sK) (hne : y ≠ x) (v0 v1 v2 v3 v4 : Value) (e : sK = [kdV v0, kdV v1, kdV v2, kdV v3, kdV v4]) : LB w0 (set5s w y v0 v1 v2 v3 v4) x s A := by
  have f : ∀ j v, w.cell? ⟨x, j, none⟩ = some v → (set5s w y v0 v1 v2 v3 v4).cell? ⟨x, j, none⟩ = some v := fun j v e => by
    unfold set5s
    rw [World.cell?_setCell_far _ _ _ _ hne, World.cell?_setCell_far _ _ _ _ hne, World.cell?_setCell_far _ _ _ _ hne, World.cell?_setCell_far _ _ _ _ hne, World.cell?_setCell_far _ _ _ _ hne]; exact e
  exact ⟨h.kb.far5 hne, f _ _ h.c0, f _ _ h.c1, f _ _ h.c2, f _ _ h.c3, f _ _ h.c4, h.m.set5 _ _ _ _ _ hy fits_s e, h.l⟩
/-- The empty shard in a new box. -/
def nilA : Sad := ⟨none, 0, none, 0, none, 0, [], none, 0⟩
theorem nil_m (w : World) : ShM w nilS nilA := by
  refine ⟨Rw.nil _, Rw.nil _, rfl, Rw.nil _, fun y hy => by simp [nilA] at hy, Rw.nil _, ⟨by decide, by decide, by decide, by decide, fun y hy => by simp [nilA] at hy⟩⟩
theorem LB.new {w0 w W : World} (hl : w0.heap.size ≤ w.heap.size) (hW : w.alloc (.cells #[.slice none 0 0, .slice none 0 0, .slice none 0 0, .slice none 0 0, .int .u64 0] 28) = W) : Below w.heap.size w W ∧ LB w0 W w.heap.size nilS nilA := by
  subst hW
  exact ⟨by go_grown, ⟨KB.new5 rfl _ _ _ _ _ _, by simp [go_sem, nilS, nilA], by simp [go_sem, nilS, nilA], by simp [go_sem, nilS, nilA], by simp [go_sem, nilS, nilA], by simp [go_sem, nilS], nil_m _, hl⟩⟩
/-- What a law's loop knows of its shard. -/
structure LS (s : Sh) (k : Nat) : Prop where
  ok : OkS s
  sz : SzB s
  ver : s.ver ≤ k
theorem LS.nil : LS nilS 0 := ⟨nil_ok, nil_sz, Nat.le_refl _⟩
theorem LS.step {s : Sh} {k : Nat} (h : LS s k) {o : Odr} (ho : SzO o) (hk : k < 4611686018427387903) : LS (doS s o).1 (k + 1) := by
  obtain ⟨h1, _, h3⟩ := do_okS h.ok o (by have := h.ver; omega)
  exact ⟨h1, do_sz h.sz ho.ok, by have := h.ver; omega⟩
theorem LS.mono {s : Sh} {k j : Nat} (h : LS s k) (hj : k ≤ j) : LS s j := ⟨h.ok, h.sz, Nat.le_trans h.ver hj⟩
theorem LS.szs {s : Sh} {k : Nat} (h : LS s k) (hk : k < 4611686018427387903) : SzS s := sz_of h.ok h.sz (by have := h.ver; omega)
/-- Each order of a list, one behind the other. -/
def runS (L : List OrM) (s : Sh) : Sh := L.foldl (fun s y => (doS s y.x).1) s
theorem runS_at {L : List OrM} {k : Nat} {y : OrM} (hy : L[k]? = some y) (s : Sh) : runS (L.take (k + 1)) s = (doS (runS (L.take k) s) y.x).1 := by
  rw [List.take_add_one, hy]
  unfold runS
  simp
end Go.Proofs.Ythgnecggdlamfaa
/- Whether a transaction is prepared: the law's own firm. -/
namespace Go.Proofs.Ythgnecggdlamfaa
open Go.RowKit

theorem frm_at {t : Tx} {L : List Sop} {k : Nat} {x : Sop} (hx : L[k]? = some x) : frmS t (L.drop k) = if x.t = t then x.fm else frmS t (L.drop (k + 1)) := by
  obtain ⟨hk, rfl⟩ := List.getElem?_eq_some_iff.1 hx
  rw [List.drop_eq_getElem_cons hk]
  unfold frmS
  rw [knoS]
  by_cases h : L[k].t = t
  · rw [if_pos h, if_pos h]
  · rw [if_neg h, if_neg h]
set_option maxRecDepth 100000 in
set_option maxHeartbeats 4000000 in
theorem rFirm_any (s : Sh) (A : Sad) (t : Tx) (hl : s.opn.length ≤ 140737488351232) (w : World) (hM : ShM w s A) :
    Calls Try.prog 14 #[shV s A, txV t] w fun e w' => e = .returned (.bool (frmS t s.opn)) ∧ Below w.heap.size w w' := by
  obtain ⟨ta, ti⟩ := t
  obtain ⟨n, hn⟩ : ∃ n, s.opn.length = n := ⟨_, rfl⟩
  obtain ⟨r, hr⟩ : ∃ r, frmS ⟨ta, ti⟩ s.opn = r := ⟨_, rfl⟩
  obtain ⟨W, hW⟩ : ∃ W, (w.alloc (.cells #[.slice A.ra s.rows.length A.rc, .slice A.ha s.holds.length A.hc, .slice A.oa s.opn.length A.oc, .slice A.da s.done.length A.dc, .int .u64 (s.ver : Nat)] 28)).alloc (.cells #[.int .u64 (ta : Nat), .int .u64 (ti : Nat)] 30) = W := ⟨_, rfl⟩
  obtain ⟨x2, hx2⟩ : ∃ x, w.heap.size = x := ⟨_, rfl⟩
  have hBX : Below w.heap.size w W ∧ x2 < W.heap.size ∧ W.cell? ⟨x2, 2, none⟩ = some (.slice A.oa s.opn.length A.oc) ∧ TxBox W (x2 + 1) ⟨ta, ti⟩ := by
    rw [← hW, ← hx2]
    exact ⟨by go_grown, by simp; omega, by simp [go_sem], ⟨by simp, by simp [go_sem], by simp [go_sem]⟩⟩
  rw [hn] at hBX hl
  obtain ⟨hB, hxl, hc2, hT⟩ := hBX
  have HB0 := Lib.hid hB
  have HM := Lib.hid (hM.later hB)
  have HN := Lib.hid hn
  have HR := Lib.hid (show frmS ⟨ta, ti⟩ (s.opn.drop 0) = r from hr)
  have HC2 := Lib.hid (fun (w' : World) (h : Below W.heap.size W w') => (h.cell (p := ⟨x2, 2, none⟩) hxl).trans hc2)
  have HT := Lib.hid hT
  have HW := Lib.hid hW
  have HX2 := Lib.hid hx2
  rw [hr]
  obtain ⟨aa, haa⟩ : ∃ x, A.oa = x := ⟨_, rfl⟩
  have hrows := HM.out.opn
  rw [haa] at HC2 hrows
  have HRW := Lib.hid hrows
  clear hB hM hn hr hW hx2 hc2 hT haa hxl hrows
  go_enter Try.func14, Try.ntmps14
  go_wp2_with fail
  rw [HW.out, HX2.out]
  go_loopw [5] (fun u wr => ∃ k : Nat, k ≤ n ∧ u = .int .i64 k ∧ frmS ⟨ta, ti⟩ (s.opn.drop k) = r ∧ Below W.heap.size W wr) (fun u _ => n - (intOf u).toNat)
  case atStart => exact ⟨0, Nat.zero_le _, rfl, HR.out, Below.refl _ _⟩
  case round =>
    obtain ⟨k, hk, rfl, hf, hB⟩ := hrel
    have HF := Lib.hid hf
    have HB := Lib.hid hB
    have c2 := HC2.out _ hB
    obtain ⟨_, q0, q1⟩ := HT.out.later hB
    simp only at q0 q1
    by_cases hlt : k < n
    case neg =>
      have i1 : ¬ (k : Int) < (n : Int) := by omega
      obtain rfl : r = false := by rw [← hf, List.drop_eq_nil_of_le (by rw [HN.out]; omega)]; rfl
      clear hB hf q0 q1
      go_wp2_with fail
      go_ret
      exact ⟨by first | rfl | simp, HB0.out.trans (HB.out.mono HB0.out.size)⟩
    have i0 : (0 : Int) ≤ (k : Int) := by omega
    have i1 : (k : Int) < (n : Int) := by omega
    obtain ⟨x, hx⟩ : ∃ x, s.opn[k]? = some x := ⟨_, List.getElem?_eq_getElem (by rw [HN.out]; exact hlt)⟩
    obtain ⟨y, hy⟩ : ∃ y, A.om[k]? = some y := ⟨_, List.getElem?_eq_getElem (by rw [HM.out.olen, HN.out]; exact hlt)⟩
    have hyx : y.x = x := by
      have h1 : (A.om.map fun y => y.x)[k]? = some y.x := by rw [List.getElem?_map, hy]; rfl
      rw [HM.out.om, hx] at h1
      exact (Option.some.inj h1).symm
    obtain ⟨b, off, rfl, hb, p0, p1, p2, _, _⟩ := Sop.cells (HRW.out.later hB) hy
    rw [hyx] at p0 p1 p2
    obtain ⟨⟨xa, xi⟩, xf, xw, xp⟩ := x
    simp only at p0 p1 p2
    clear hy hyx
    have HA := Lib.hid (hf.symm.trans (frm_at (t := ⟨ta, ti⟩) hx))
    clear hx hf
    by_cases he : (⟨xa, xi⟩ : Tx) = ⟨ta, ti⟩
    · obtain rfl : r = xf := by rw [HA.out, if_pos he]
      cases he
      clear hB
      go_wp2_with fail
      go_quiet (fail)
      go_wp2_with fail
      go_ret
      exact ⟨by first | rfl | simp, below_drewN (HB0.out.trans (HB.out.mono HB0.out.size)) _⟩
    · have HN2 := Lib.hid (show frmS ⟨ta, ti⟩ (s.opn.drop (k + 1)) = r by rw [HA.out, if_neg he])
      clear hB
      rcases tx_ne he with g | ⟨rfl, g⟩
      all_goals
        go_wp2_with fail
        go_quiet (fail)
        go_wp2_with fail
        go_roundw
        case rel => exact ⟨k + 1, by omega, by go_num, HN2.out, below_drewN HB.out _⟩
        case measure => simp [intOf]; omega
end Go.Proofs.Ythgnecggdlamfaa
/- Whether rows, locks are the same, element by element: the document's. -/
namespace Go.Proofs.Ythgnecggdlamfaa
open Go.RowKit

theorem samL_at {α : Type} {f : α → α → Bool} {P Q : List α} {k : Nat} {x y : α} (hx : P[k]? = some x) (hy : Q[k]? = some y) : samL f (P.drop k) (Q.drop k) = (f x y && samL f (P.drop (k + 1)) (Q.drop (k + 1))) := by
  obtain ⟨hk, rfl⟩ := List.getElem?_eq_some_iff.1 hx
  obtain ⟨hk2, rfl⟩ := List.getElem?_eq_some_iff.1 hy
  rw [List.drop_eq_getElem_cons hk, List.drop_eq_getElem_cons hk2]; rfl
theorem samL_len {α : Type} (f : α → α → Bool) : ∀ (P Q : List α), P.length ≠ Q.length → samL f P Q = false
  | [], [], h => absurd rfl h
  | [], _ :: _, _ => rfl
  | _ :: _, [], _ => rfl
  | x :: r, y :: s, h => by
    rw [samL, samL_len f r s (fun e => h (by simp [e])), Bool.and_false]
set_option maxRecDepth 100000 in
set_option maxHeartbeats 4000000 in
theorem rSameRo_any (n c m d : Nat) (a b : Option Addr) (P Q : List Ro) (hn : P.length = n) (hl : n ≤ 140737488351232) (hm : Q.length = m) (hl2 : m ≤ 140737488351232) (w : World) (hP : Ros w a P) (hQ : Ros w b Q) :
    Calls Try.prog 16 #[.slice a n c, .slice b m d] w fun e w' => e = .returned (.bool (samL samRo P Q)) ∧ Below w.heap.size w w' := by
  have HN := Lib.hid hn
  have HM := Lib.hid hm
  have HP := Lib.hid hP
  have HQ := Lib.hid hQ
  by_cases hnm : n = m
  case neg =>
    have HE := Lib.hid (samL_len samRo P Q (by rw [hn, hm]; exact hnm))
    have g := int_ne hnm
    have gn : ((n : Int) != (m : Int)) = true := by simp; omega
    clear hn hm hP hQ hnm
    go_enter Try.func16, Try.ntmps16
    go_wp2_with fail
    go_ret
    exact ⟨by rw [HE.out]; first | rfl | simp, Below.refl _ _⟩
  subst hnm
  obtain ⟨r, hr⟩ : ∃ r, samL samRo P Q = r := ⟨_, rfl⟩
  rw [hr]
  have HR := Lib.hid (show samL samRo (P.drop 0) (Q.drop 0) = r from hr)
  clear hn hm hP hQ hr
  go_enter Try.func16, Try.ntmps16
  go_wp2_with fail
  go_loopw [5] (fun u wr => ∃ k : Nat, k ≤ n ∧ u = .int .i64 k ∧ samL samRo (P.drop k) (Q.drop k) = r ∧ Below w.heap.size w wr) (fun u _ => n - (intOf u).toNat)
  case atStart => exact ⟨0, Nat.zero_le _, rfl, HR.out, Below.refl _ _⟩
  case round =>
    obtain ⟨k, hk, rfl, hf, hB⟩ := hrel
    have HF := Lib.hid hf
    have HB := Lib.hid hB
    clear hf
    by_cases hlt : k < n
    case neg =>
      obtain rfl : r = true := by
        rw [← HF.out, List.drop_eq_nil_of_le (by rw [HN.out]; omega), List.drop_eq_nil_of_le (by rw [HM.out]; omega)]; rfl
      clear hB
      go_wp2_with fail
      go_ret
      exact ⟨by first | rfl | simp, HB.out⟩
    obtain ⟨x, hx⟩ : ∃ x, P[k]? = some x := ⟨_, List.getElem?_eq_getElem (by rw [HN.out]; exact hlt)⟩
    obtain ⟨y, hy⟩ : ∃ y, Q[k]? = some y := ⟨_, List.getElem?_eq_getElem (by rw [HM.out]; exact hlt)⟩
    have i0 : (0 : Int) ≤ (k : Int) := by omega
    have i1 : (k : Int) < (n : Int) := by omega
    have HA := Lib.hid (HF.out.symm.trans (samL_at hx hy))
    obtain ⟨b1, off, rfl, _, p0, p1, p2⟩ := Ros.cells (HP.out.later hB) hx
    obtain ⟨b2, off2, rfl, _, q0, q1, q2⟩ := Ros.cells (HQ.out.later hB) hy
    obtain ⟨xk, xv, xn⟩ := x
    obtain ⟨yk, yv, yn⟩ := y
    simp only at p0 q0 p1 q1 p2 q2 HA
    clear hx hy hB
    by_cases h0 : xk = yk
    case neg =>
      have g1 := ba_ne h0
      have g2 := ba_ne' h0
      obtain rfl : r = false := by rw [HA.out]; simp [samRo, h0]
      go_wp2_with fail
      go_quiet (fail)
      go_wp2_with fail
      go_ret
      exact ⟨by first | rfl | simp, below_drewN HB.out _⟩
    subst h0
    by_cases h1 : xv = yv
    case neg =>
      have g1 := ba_ne h1
      have g2 := ba_ne' h1
      obtain rfl : r = false := by rw [HA.out]; simp [samRo, h1]
      go_wp2_with fail
      go_quiet (fail)
      go_wp2_with fail
      go_ret
      exact ⟨by first | rfl | simp, below_drewN HB.out _⟩
    subst h1
    by_cases h2 : xn = yn
    case neg =>
      have g1 := int_ne h2
      obtain rfl : r = false := by rw [HA.out]; simp [samRo, h2]
      go_wp2_with fail
      go_quiet (fail)
      go_wp2_with fail
      go_ret
      exact ⟨by first | rfl | simp, below_drewN HB.out _⟩
    subst h2
    have HT := Lib.hid (show samL samRo (P.drop (k + 1)) (Q.drop (k + 1)) = r by rw [HA.out]; simp [samRo])
    go_wp2_with fail
    go_quiet (fail)
    go_wp2_with fail
    go_roundw
    case rel => exact ⟨k + 1, by omega, by go_num, HT.out, below_drewN HB.out _⟩
    case measure => simp [intOf]; omega
set_option maxRecDepth 100000 in
set_option maxHeartbeats 4000000 in
theorem rSameHo_any (n c m d : Nat) (a b : Option Addr) (P Q : List Ho) (hn : P.length = n) (hl : n ≤ 140737488351232) (hm : Q.length = m) (hl2 : m ≤ 140737488351232) (w : World) (hP : Hos w a P) (hQ : Hos w b Q) :
    Calls Try.prog 26 #[.slice a n c, .slice b m d] w fun e w' => e = .returned (.bool (samL samHo P Q)) ∧ Below w.heap.size w w' := by
  have HN := Lib.hid hn
  have HM := Lib.hid hm
  have HP := Lib.hid hP
  have HQ := Lib.hid hQ
  by_cases hnm : n = m
  case neg =>
    have HE := Lib.hid (samL_len samHo P Q (by rw [hn, hm]; exact hnm))
    have g := int_ne hnm
    have gn : ((n : Int) != (m : Int)) = true := by simp; omega
    clear hn hm hP hQ hnm
    go_enter Try.func26, Try.ntmps26
    go_wp2_with fail
    go_ret
    exact ⟨by rw [HE.out]; first | rfl | simp, Below.refl _ _⟩
  subst hnm
  obtain ⟨r, hr⟩ : ∃ r, samL samHo P Q = r := ⟨_, rfl⟩
  rw [hr]
  have HR := Lib.hid (show samL samHo (P.drop 0) (Q.drop 0) = r from hr)
  clear hn hm hP hQ hr
  go_enter Try.func26, Try.ntmps26
  go_wp2_with fail
  go_loopw [5] (fun u wr => ∃ k : Nat, k ≤ n ∧ u = .int .i64 k ∧ samL samHo (P.drop k) (Q.drop k) = r ∧ Below w.heap.size w wr) (fun u _ => n - (intOf u).toNat)
  case atStart => exact ⟨0, Nat.zero_le _, rfl, HR.out, Below.refl _ _⟩
  case round =>
    obtain ⟨k, hk, rfl, hf, hB⟩ := hrel
    have HF := Lib.hid hf
    have HB := Lib.hid hB
    clear hf
    by_cases hlt : k < n
    case neg =>
      obtain rfl : r = true := by
        rw [← HF.out, List.drop_eq_nil_of_le (by rw [HN.out]; omega), List.drop_eq_nil_of_le (by rw [HM.out]; omega)]; rfl
      clear hB
      go_wp2_with fail
      go_ret
      exact ⟨by first | rfl | simp, HB.out⟩
    obtain ⟨x, hx⟩ : ∃ x, P[k]? = some x := ⟨_, List.getElem?_eq_getElem (by rw [HN.out]; exact hlt)⟩
    obtain ⟨y, hy⟩ : ∃ y, Q[k]? = some y := ⟨_, List.getElem?_eq_getElem (by rw [HM.out]; exact hlt)⟩
    have i0 : (0 : Int) ≤ (k : Int) := by omega
    have i1 : (k : Int) < (n : Int) := by omega
    have HA := Lib.hid (HF.out.symm.trans (samL_at hx hy))
    obtain ⟨b1, off, rfl, _, p0, p1, p2, p3⟩ := Hos.cells (HP.out.later hB) hx
    obtain ⟨b2, off2, rfl, _, q0, q1, q2, q3⟩ := Hos.cells (HQ.out.later hB) hy
    obtain ⟨xk, ⟨xa, xi⟩, xw⟩ := x
    obtain ⟨yk, ⟨ya, yi⟩, yw⟩ := y
    simp only at p0 q0 p1 q1 p2 q2 p3 q3 HA
    clear hx hy hB
    by_cases h0 : xk = yk
    case neg =>
      have g1 := ba_ne h0
      have g2 := ba_ne' h0
      obtain rfl : r = false := by rw [HA.out]; simp [samHo, h0]
      go_wp2_with fail
      go_quiet (fail)
      go_wp2_with fail
      go_ret
      exact ⟨by first | rfl | simp, below_drewN HB.out _⟩
    subst h0
    by_cases h1 : xa = ya
    case neg =>
      have g1 := int_ne h1
      obtain rfl : r = false := by rw [HA.out]; simp [samHo, h1]
      go_wp2_with fail
      go_quiet (fail)
      go_wp2_with fail
      go_ret
      exact ⟨by first | rfl | simp, below_drewN HB.out _⟩
    subst h1
    by_cases h2 : xi = yi
    case neg =>
      have g1 := int_ne h2
      obtain rfl : r = false := by rw [HA.out]; simp [samHo, h2]
      go_wp2_with fail
      go_quiet (fail)
      go_wp2_with fail
      go_ret
      exact ⟨by first | rfl | simp, below_drewN HB.out _⟩
    subst h2
    by_cases h3 : xw = yw
    case neg =>
      have g1 : (xw == yw) = false := by simpa using h3
      obtain rfl : r = false := by rw [HA.out]; simp [samHo, g1]
      go_wp2_with fail
      go_quiet (fail)
      go_wp2_with fail
      go_ret
      exact ⟨by first | rfl | simp, below_drewN HB.out _⟩
    subst h3
    have HT := Lib.hid (show samL samHo (P.drop (k + 1)) (Q.drop (k + 1)) = r by rw [HA.out]; simp [samHo])
    go_wp2_with fail
    go_quiet (fail)
    go_wp2_with fail
    go_roundw
    case rel => exact ⟨k + 1, by omega, by go_num, HT.out, below_drewN HB.out _⟩
    case measure => simp [intOf]; omega
theorem samL_refl {α : Type} {f : α → α → Bool} (h : ∀ x, f x x = true) : ∀ L, samL f L L = true
  | [] => rfl
  | x :: r => by rw [samL, h x, samL_refl h r]; rfl
theorem samPs_refl : ∀ L, samPs L L = true
  | [] => rfl
  | x :: r => by rw [samPs, samPs_refl r]; simp [samP]
theorem samS_refl (s : Sh) : samS s s = true := by
  unfold samS
  rw [samL_refl (fun x => by simp [samRo]), samL_refl (fun x => by simp [samHo]), samL_refl (fun x => by simp [samOp, samPs_refl]), samL_refl (fun x => by simp [samDn])]
  simp
end Go.Proofs.Ythgnecggdlamfaa
