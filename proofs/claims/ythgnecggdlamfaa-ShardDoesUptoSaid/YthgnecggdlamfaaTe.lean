/- Layer 13's mathematics: how large what a shard holds can grow. -/
import Derived.Test.YthgnecggdlamfaaYf
import Derived.Test.YthgnecggdlamfaaTc
import Derived.Test.YthgnecggdlamfaaTd
import Derived.Test.YthgnecggdlamfaaNj
namespace Go.Proofs.Ythgnecggdlamfaa

/-- Keys and values that aren't too long. -/
def smlP (P : List Pu) : Prop := ∀ x ∈ P, x.key.size ≤ 140737488351232 ∧ x.val.size ≤ 140737488351232
def smlR (L : List Ro) : Prop := ∀ x ∈ L, x.key.size ≤ 140737488351232 ∧ x.val.size ≤ 140737488351232
/-- What a shard holds that began empty. -/
structure SzB (s : Sh) : Prop where
  hold : smallH s.holds
  hlen : s.holds.length ≤ 48
  opn : ∀ x ∈ s.opn, okX x.t
  done : ∀ x ∈ s.done, okX x.t
theorem nil_sz : SzB nilS := ⟨fun x hx => by simp [nilS] at hx, by decide, fun x hx => by simp [nilS] at hx, fun x hx => by simp [nilS] at hx⟩
theorem ask_smallS {L : List Ho} {t : Tx} {key : ByteArray} {wr : Bool} {firm : List Tx} (h : smallH L) (hk : okA key t) : smallH (askH L t key wr firm).1 := by
  rcases ask_cases L t key wr firm with ⟨e, _, e1⟩ | ⟨e1, _⟩ | ⟨out, _, ⟨_, _, e1⟩ | ⟨_, e1⟩⟩
  · rw [e1]; exact h
  · rw [e1]; exact h
  · rw [e1]
    intro x hx
    obtain ⟨z, h1, h2, h3, _⟩ := mem_raise hx
    rw [← h2, ← h3]; exact h z (mem_rest.1 h1).1
  · rw [e1]
    intro x hx
    rcases List.mem_append.1 hx with h1 | h1
    · exact h x (mem_rest.1 h1).1
    · obtain rfl : x = ⟨key, t, wr⟩ := by simpa using h1
      exact hk
theorem left_lenS (hs : Option Nat) (out : List Tx) : ∀ (L : List Ho) (i : Nat), (leftH hs out i L).1.length ≤ L.length
  | [], i => by simp [leftH]
  | x :: r, i => by
    have ih := left_lenS hs out r (i + 1)
    simp only [leftH]
    split
    · simp only [List.length_cons]; omega
    split
    · simp only [List.length_cons]; omega
    · simp only [List.length_cons]; omega
theorem ask_len48S (L : List Ho) (t : Tx) (key : ByteArray) (wr : Bool) (firm : List Tx) : (askH L t key wr firm).1.length ≤ max L.length 48 := by
  have hl := fun out => left_lenS (idxH t key 0 L) out L 0
  unfold askH
  split
  · simp only; omega
  rcases hw : wayH t key wr firm [] L with _ | out
  · simp only; omega
  · have := hl out
    simp only
    split
    · simp only; omega
    split
    · simp only; omega
    · rename_i h
      simp only [List.length_append, List.length_singleton]; omega
theorem asks_sz {s : Sh} {o : Odr} (h : SzB s) (ho : okA o.key o.t) : SzB (asksS s o).1 := by
  unfold asksS
  rcases hd : ovrS o.t s.done with _ | c
  case some => exact h
  simp only
  split
  · exact h
  split
  · exact h
  split
  · exact h
  split
  · exact h
  split
  · exact h
  refine ⟨ask_smallS h.hold ho, ?_, fun x hx => ?_, h.done⟩
  · have := ask_len48S s.holds o.t o.key (decide (o.kind = 2)) (firmS s.opn)
    have := h.hlen
    simp only; omega
  · rcases List.mem_append.1 hx with h1 | h1
    · obtain ⟨y, hy, rfl⟩ := List.mem_map.1 h1
      exact h.opn y hy
    · split at h1
      · obtain rfl : x = ⟨o.t, false, false, []⟩ := by simpa using h1
        exact ho.2
      · simp at h1
theorem prp_ok {t : Tx} {P : List Pu} : ∀ {O : List Sop}, (∀ x ∈ O, okX x.t) → ∀ x ∈ prpS t P O, okX x.t
  | [], _, x, hx => by simp [prpS] at hx
  | y :: r, h, x, hx => by
    simp only [prpS] at hx
    split at hx
    · rcases List.mem_cons.1 hx with e | e
      · rw [e]; exact h y (by simp)
      · exact h x (by simp [e])
    · rcases List.mem_cons.1 hx with e | e
      · rw [e]; exact h y (by simp)
      · exact prp_ok (fun z hz => h z (by simp [hz])) x e
theorem prep_sz {s : Sh} {o : Odr} (h : SzB s) : SzB (prepS s o).1 := by
  unfold prepS
  rcases hd : ovrS o.t s.done with _ | c
  case some => exact h
  simp only
  rcases hk : knoS o.t s.opn with _ | x
  · exact h
  simp only
  split
  · exact h
  split
  · split
    · exact h
    · exact h
  split
  · exact h
  split
  · exact h
  split
  · exact h
  exact ⟨h.hold, h.hlen, prp_ok h.opn, h.done⟩
theorem rel_sz {s : Sh} {o : Odr} (h : SzB s) (ho : okX o.t) (rows : List Ro) (ver : Nat) : SzB (relS rows ver s o) :=
  ⟨fun x hx => h.hold x (List.mem_filter.1 hx).1, Nat.le_trans (dropH_len _ _) h.hlen, fun x hx => h.opn x (List.mem_filter.1 hx).1, fun x hx => by
    rcases List.mem_append.1 hx with e | e
    · exact h.done x e
    · obtain rfl : x = ⟨o.t, o.cm⟩ := by simpa using e
      exact ho⟩
theorem fin_sz {s : Sh} {o : Odr} (h : SzB s) (ho : okX o.t) : SzB (finS s o).1 := by
  rcases fin_done s o with ⟨e, _⟩ | ⟨_, _, _, rows, ver, e, _⟩
  · rw [e]; exact h
  · rw [e]; exact rel_sz h ho rows ver
theorem do_sz {s : Sh} {o : Odr} (h : SzB s) (ho : okA o.key o.t) : SzB (doS s o).1 := by
  unfold doS
  split
  · exact asks_sz h ho
  split
  · exact prep_sz h
  split
  · exact fin_sz h ho.2
  · exact h
/-- What the walks ask of a shard's size. -/
structure SzS (s : Sh) : Prop where
  rlen : s.rows.length * 40 ≤ 140737488351232
  rows : smlR s.rows
  hlen : s.holds.length * 40 ≤ 140737488351232
  hold : smallH s.holds
  olen : s.opn.length * 48 ≤ 140737488351232
  opn : ∀ x ∈ s.opn, okX x.t ∧ x.puts.length * 40 ≤ 140737488351232 ∧ smlP x.puts
  dlen : s.done.length * 24 ≤ 140737488351232
  done : ∀ x ∈ s.done, okX x.t
  ver : s.ver < 18446744073709551616
  keys : (allK s []).length ≤ 900000000
theorem fits_small {P : List Pu} (h : fitsX P = 0) : P.length ≤ 8 ∧ smlP P := by
  refine ⟨?_, fun p hp => ?_⟩
  · unfold fitsX at h
    split at h
    · cases h
    · omega
  · have h1 := fits_one h hp
    unfold fitsX at h1
    rw [if_neg (by simp)] at h1
    split at h1
    · rename_i hf
      have := fitF_ok [p] [] hf p (by simp)
      unfold putOk at this
      simp only [Bool.and_eq_true, decide_eq_true_eq] at this
      exact ⟨by omega, by omega⟩
    · cases h1
theorem asc_ok : ∀ (L : List Ro) (p : Option ByteArray), ascF p L = true → ∀ x ∈ L, rowOk x = true
  | [], _, _, x, hx => by simp at hx
  | y :: r, p, h, x, hx => by
    simp only [ascF, Bool.and_eq_true] at h
    rcases List.mem_cons.1 hx with e | e
    · rw [e]; exact h.1
    · exact asc_ok r _ h.2.2 x e
theorem opnK_len : ∀ (O : List Sop), (∀ x ∈ O, x.puts.length ≤ 8) → (opnK O).length ≤ O.length * 8
  | [], _ => by simp [opnK]
  | x :: r, h => by
    have ih := opnK_len r fun y hy => h y (by simp [hy])
    have hx := h x (by simp)
    have h1 : (putK x.puts).length ≤ x.puts.length := by unfold putK; rw [List.length_map]; exact List.length_filter_le _ _
    unfold opnK at ih ⊢
    rw [List.flatMap_cons, List.length_append, List.length_cons]
    split
    · omega
    · simp only [List.length_nil]; omega
theorem sz_of {s : Sh} (h : OkS s) (hb : SzB s) (hv : s.ver < 18446744073709551616) : SzS s := by
  have hl := h.len
  have hh := hb.hlen
  have hp : ∀ x ∈ s.opn, x.puts.length ≤ 8 ∧ smlP x.puts := fun x hx => fits_small (h.op x hx).2.2.1
  have hk := opnK_len s.opn fun x hx => (hp x hx).1
  have hr : s.rows.length ≤ 32 ∧ smlR s.rows := by
    have h1 := h.rows
    simp only [rightB, Bool.and_eq_true, decide_eq_true_eq] at h1
    refine ⟨h1.1, fun x hx => ?_⟩
    have h2 := asc_ok s.rows none h1.2 x hx
    simp only [rowOk, Bool.and_eq_true, decide_eq_true_eq] at h2
    exact ⟨by omega, by omega⟩
  refine ⟨by omega, hr.2, by omega, hb.hold, by omega, fun x hx => ⟨hb.opn x hx, by have := (hp x hx).1; omega, (hp x hx).2⟩, by omega, hb.done, hv, ?_⟩
  unfold allK
  simp only [List.length_append, List.length_map]
  have : (putK []).length = 0 := rfl
  omega
end Go.Proofs.Ythgnecggdlamfaa
/- The firm ones; whether one owns what is put; whether there would be too many keys: the program's. -/
namespace Go.Proofs.Ythgnecggdlamfaa
open Go.RowKit Go.Maps

/-- What cells there are stay. -/
structure KC (w w' : World) : Prop where
  size : w.heap.size ≤ w'.heap.size
  c : ∀ p v, w.cell? p = some v → w'.cell? p = some v
theorem cell_lt {w : World} {p : Addr} {v : Value} (h : w.cell? p = some v) : p.block < w.heap.size := by
  unfold World.cell? at h
  by_cases hl : p.block < w.heap.size
  · exact hl
  · rw [Array.getElem?_eq_none (by omega)] at h; simp at h
theorem KC.refl (w : World) : KC w w := ⟨Nat.le_refl _, fun _ _ h => h⟩
theorem KC.trans {w w1 w2 : World} (h : KC w w1) (h2 : KC w1 w2) : KC w w2 := ⟨Nat.le_trans h.size h2.size, fun p v e => h2.c p v (h.c p v e)⟩
theorem KC.below {w w' : World} (h : Below w.heap.size w w') : KC w w' := ⟨h.size, fun _ _ e => (h.cell (cell_lt e)).trans e⟩
theorem KC.set {w w' : World} {b n : Nat} {K : List ByteArray} (hK : KS w b n K) (h : w.grownBy w' (some b)) : KC w w' :=
  ⟨h.size, fun p v e => (World.cell?_of_block (a := p) (h.block p.block (cell_lt e) (by simpa using hK.cell e))).trans e⟩
theorem rw_keep {α : Type} {k : Nat} {f : α → List Value} {w w' : World} {a : Option Addr} {L : List α} (h : Rw k f w a L) (hk : KC w w') : Rw k f w' a L := by
  intro j x hx
  obtain ⟨b, off, e, hb, c⟩ := h j x hx
  exact ⟨b, off, e, Nat.lt_of_lt_of_le hb hk.size, fun i u hu => hk.c _ _ (c i u hu)⟩
theorem firmS_at {O : List Sop} {k : Nat} {x : Sop} (hx : O[k]? = some x) : firmS (O.take (k + 1)) = firmS (O.take k) ++ if x.fm then [x.t] else [] := by
  rw [takeP_snoc hx]
  unfold firmS
  rw [List.filter_append, List.map_append]
  cases h : x.fm <;> simp [h]
theorem firmS_len (O : List Sop) : (firmS O).length ≤ O.length := by
  unfold firmS; rw [List.length_map]; exact List.length_filter_le _ _
theorem firmS_mem {O : List Sop} {t : Tx} (h : t ∈ firmS O) : ∃ x ∈ O, x.t = t := by
  unfold firmS at h
  obtain ⟨x, hx, rfl⟩ := List.mem_map.1 h
  exact ⟨x, (List.mem_filter.1 hx).1, rfl⟩
/-- What firm answers. -/
def FmP (O : List Sop) (w : World) (e : Ending) (w' : World) : Prop := (∃ a c, e = .returned (.slice a (firmS O).length c) ∧ Txs w' a (firmS O)) ∧ Below w.heap.size w w'
set_option maxRecDepth 100000 in
set_option maxHeartbeats 4000000 in
theorem firm_any (s : Sh) (A : Sad) (w : World) (hM : ShM w s A) (hl : s.opn.length * 48 ≤ 140737488351232) :
    Calls Try.prog 43 #[shV s A] w (FmP s.opn w) := by
  obtain ⟨n, hn⟩ : ∃ n, s.opn.length = n := ⟨_, rfl⟩
  obtain ⟨W, hW⟩ : ∃ W, w.alloc (.cells #[.slice A.ra s.rows.length A.rc, .slice A.ha s.holds.length A.hc, .slice A.oa s.opn.length A.oc, .slice A.da s.done.length A.dc, .int .u64 (s.ver : Nat)] 28) = W := ⟨_, rfl⟩
  obtain ⟨x1, hx1⟩ : ∃ x, w.heap.size = x := ⟨_, rfl⟩
  have hBX : Below w.heap.size w W ∧ W.cell? ⟨x1, 2, none⟩ = some (.slice A.oa s.opn.length A.oc) := by
    rw [← hW, ← hx1]
    exact ⟨by go_grown, by simp [go_sem]⟩
  rw [show shV s A = .agg #[.slice A.ra s.rows.length A.rc, .slice A.ha s.holds.length A.hc, .slice A.oa s.opn.length A.oc, .slice A.da s.done.length A.dc, .int .u64 (s.ver : Nat)] from rfl]
  rw [hn] at hBX hl hW ⊢
  obtain ⟨hB, c2⟩ := hBX
  have HM := Lib.hid (hM.later hB)
  have HN := Lib.hid hn
  have HB := Lib.hid hB
  clear hM hn hB
  go_enter Try.func43, Try.ntmps43
  go_wp2_with fail
  clear c2
  go_loopw [3, 9] (fun lv iv wr => ∃ (k : Nat) (a' : Option Addr) (c' : Nat), k ≤ n ∧ iv = .int .i64 k ∧ lv = .slice a' (firmS (s.opn.take k)).length c' ∧ CqX W.heap.size wr (.slice a' (firmS (s.opn.take k)).length c') (firmS (s.opn.take k)) ∧ Below W.heap.size W wr) (fun _ iv _ => n - (intOf iv).toNat)
  case atStart => exact ⟨0, none, 0, Nat.zero_le _, rfl, by simp [firmS], by simp only [List.take_zero, firmS, List.filter_nil, List.map_nil, List.length_nil]; exact Cq.nil _ _ _, Below.refl _ _⟩
  case round =>
    obtain ⟨k, a', c', hk, rfl, rfl, hQ, hBw⟩ := hrel
    have HQ := Lib.hid hQ
    have HBW := Lib.hid hBw
    clear hQ hBw
    by_cases hlt : k < n
    · obtain ⟨y, hy⟩ : ∃ y, A.om[k]? = some y := ⟨_, List.getElem?_eq_getElem (by rw [HM.out.olen, HN.out]; exact hlt)⟩
      have hx : s.opn[k]? = some y.x := by rw [← HM.out.om, List.getElem?_map, hy]; rfl
      have HAT := Lib.hid (firmS_at hx)
      have hln := firmS_len (s.opn.take k)
      rw [List.length_take] at hln
      obtain ⟨b, off, e, _, p0, p1, p2, p3, p4⟩ := Sop.cells (HM.out.opn.later HBW.out) hy
      obtain ⟨oo, hoo⟩ : ∃ o, A.oa = o := ⟨_, rfl⟩
      rw [hoo] at e
      rw [hoo]
      subst e
      have HOO := Lib.hid hoo
      have i0 : (0 : Int) ≤ (k : Int) := by omega
      have i1 : (k : Int) < (n : Int) := by omega
      clear hx hy hoo
      obtain ⟨⟨⟨ya, yi⟩, yf, yw, yp⟩, pa, pc⟩ := y
      simp only at p0 p1 p2 p3 p4 HAT
      obtain ⟨W1, hW1⟩ : ∃ W1, (wr.alloc (.cells #[.int .u64 (ya : Nat), .int .u64 (yi : Nat), .bool yf, .bool yw, .slice pa yp.length pc] 48)) = W1 := ⟨_, rfl⟩
      obtain ⟨x5, hx5⟩ : ∃ x5, wr.heap.size = x5 := ⟨_, rfl⟩
      have BV : Below wr.heap.size wr W1 := hW1 ▸ (Below.refl _ _).alloc (Nat.le_refl _) _
      have hV : W1.cell? ⟨x5, 0, none⟩ = some (.int .u64 (ya : Nat)) ∧ W1.cell? ⟨x5, 1, none⟩ = some (.int .u64 (yi : Nat)) ∧ W1.cell? ⟨x5, 2, none⟩ = some (.bool yf) := by
        rw [← hW1, ← hx5]; exact ⟨by simp [go_sem], by simp [go_sem], by simp [go_sem]⟩
      obtain ⟨v0, v1, v2⟩ := hV
      have HQV := Lib.hid (HQ.out.later BV)
      have HBV := Lib.hid (HBW.out.trans (BV.mono HBW.out.size))
      clear BV
      by_cases hyf : yf = true
      · rw [hyf] at v2
        have HAP := Lib.hid (show firmS (s.opn.take (k + 1)) = firmS (s.opn.take k) ++ [⟨ya, yi⟩] from by rw [HAT.out, hyf]; rfl)
        clear hyf
        obtain ⟨a6, c6, w6, hr6, hc6, hb6⟩ := appX W.heap.size W1 _ _ HQV.out ⟨ya, yi⟩ (by omega) HBV.out.size
        have HR6 := Lib.hid hr6
        have HQ6 := Lib.hid (show CqX W.heap.size w6 (.slice a6 (firmS (s.opn.take (k + 1))).length c6) (firmS (s.opn.take (k + 1))) from by rw [HAP.out, List.length_append, List.length_singleton]; exact hc6)
        have HB6 := Lib.hid (HBV.out.trans hb6)
        have HLN := Lib.hid (show (firmS (s.opn.take (k + 1))).length = (firmS (s.opn.take k)).length + 1 from by rw [HAP.out, List.length_append, List.length_singleton])
        clear hr6 hc6 hb6 hln
        go_wp2_with (at_builtin; refine Lib.wpList_append_run _ rfl _ _ 83 83 rfl _ (.slice (some ⟨W1.heap.size, 0, none⟩) 1 1) rfl rfl _ _ HR6.out ?_)
        go_roundw
        case rel => exact ⟨k + 1, a6, c6, by omega, by go_num, by rw [HLN.out], HQ6.out, HB6.out⟩
        case measure => simp [intOf]; omega
      · have hy2 : yf = false := by simpa using hyf
        rw [hy2] at v2
        have HAP := Lib.hid (show firmS (s.opn.take (k + 1)) = firmS (s.opn.take k) from by rw [HAT.out, hy2]; simp)
        clear hyf hy2 hln
        go_wp2_with fail
        go_roundw
        case rel => exact ⟨k + 1, a', c', by omega, by go_num, by rw [HAP.out], by rw [HAP.out]; exact HQV.out, HBV.out⟩
        case measure => simp [intOf]; omega
    · have i1 : ¬ (k : Int) < (n : Int) := by omega
      have e : s.opn.take k = s.opn := List.take_of_length_le (by rw [HN.out]; omega)
      have HQ2 := Lib.hid (show CqX W.heap.size wr (.slice a' (firmS (s.opn.take k)).length c') (firmS s.opn) ∧ (firmS (s.opn.take k)).length = (firmS s.opn).length from by
        have := HQ.out
        rw [e] at this
        rw [e]; exact ⟨this, rfl⟩)
      clear e
      go_wp2_with fail
      go_ret
      obtain ⟨q1, q2⟩ := HQ2.out
      obtain ⟨a2, c2, e2, hR, _⟩ := q1.form txT
      injection e2 with e3 _ _
      exact ⟨⟨a', c', by rw [q2]; first | rfl | simp, by rw [e3]; exact hR⟩, HB.out.trans (HBW.out.mono HB.out.size)⟩
set_option maxRecDepth 100000 in
set_option maxHeartbeats 1000000 in
theorem owns1_any (x : Pu) (h1 h2 n c : Nat) (a : Option Addr) (L : List Ho) (t : Tx) (hn : L.length = n) (hl : n ≤ 140737488351232) (hs : smallH L) (hk : x.key.size ≤ 140737488351232) (w : World) (H1 : B1 w h1 (.slice a n c)) (H2 : TxBox w h2 t) (hM : Hos w a L) :
    Calls Try.prog 91 #[puV x, .pointer (some ⟨h1, 0, none⟩), .pointer (some ⟨h2, 0, none⟩)] w fun e w' => e = .returned (.bool (!hasH t x.key true L)) ∧ Below w.heap.size w w' := by
  obtain ⟨xk, xv, xg⟩ := x
  obtain ⟨ta, ti⟩ := t
  simp only at hk
  obtain ⟨W, hW⟩ : ∃ W, w.alloc (.cells #[.string xk, .string xv, .bool xg] 54) = W := ⟨_, rfl⟩
  have BV : Below w.heap.size w W := hW ▸ (Below.refl _ _).alloc (Nat.le_refl _) _
  obtain ⟨q0, _⟩ := H1.later BV
  have r0 : W.cell? ⟨w.heap.size, 0, none⟩ = some (.string xk) := by rw [← hW]; simp [go_sem]
  obtain ⟨_, t0, t1⟩ := H2.later BV
  simp only at t0 t1
  have HC := Lib.hid (pHas_any n c a L ⟨ta, ti⟩ xk true hn hl hs W (hM.later BV))
  obtain ⟨r, hr⟩ : ∃ r, hasH ⟨ta, ti⟩ xk true L = r := ⟨_, rfl⟩
  rw [hr] at HC ⊢
  have HB := Lib.hid BV
  clear hr H1 H2 hM BV
  go_enter Try.func91, Try.ntmps91
  go_wp2_with fail
  refine HC.out.mono ?_
  rintro e w2 ⟨rfl, hb2⟩
  have HB2 := Lib.hid (HB.out.trans (hb2.mono HB.out.size))
  clear hb2
  go_wp2_with fail
  go_ret
  exact ⟨by first | rfl | simp, HB2.out⟩
theorem owns1_run (p1 p2 : Value) (x : Pu) (w : World) : (callFunc 91 (#[.agg #[.string x.key, .string x.val, .bool x.gone]] ++ #[p1, p2])).run Try.prog w = .ok (.enter 91 (#[.agg #[.string x.key, .string x.val, .bool x.gone]] ++ #[p1, p2])) w := by kernel_rfl
set_option maxRecDepth 100000 in
set_option maxHeartbeats 1000000 in
theorem containsU_any (fn : Nat) (caps : Array Value) (f : Pu → Bool) (n c : Nat) (a : Option Addr) (L : List Pu) (hn : L.length = n) (hl : n ≤ 140737488351232) (w : World) (hR : ∀ (x : Pu) (w : World), (callFunc fn (#[.agg #[.string x.key, .string x.val, .bool x.gone]] ++ caps)).run Try.prog w = .ok (.enter fn (#[.agg #[.string x.key, .string x.val, .bool x.gone]] ++ caps)) w) (H : ClU w.heap.size fn caps f L w) (hM : Pus w a L) :
    Calls Try.prog 90 #[.slice a n c, .func (.func fn) #[] caps] w fun e w' => e = .returned (.bool (L.any f)) ∧ Below w.heap.size w w' := by
  have HI := Lib.hid (indexU_any fn caps f n c a L hn hl w hR H hM)
  clear hn H hM hR
  go_enter Try.func90, Try.ntmps90
  go_wp2_with fail
  refine HI.out.mono ?_
  rintro e w2 ⟨⟨k, rfl, hk⟩, hb2⟩
  have HQ := Lib.hid (fsG_any hk)
  have HB2 := Lib.hid hb2
  clear hk hb2
  by_cases h0 : (0 : Int) ≤ k
  · have HQ2 := Lib.hid (HQ.out.trans (decide_eq_true h0))
    go_wp2_with fail
    go_ret
    exact ⟨by rw [HQ2.out]; first | rfl | (simp; omega), HB2.out⟩
  · have HQ2 := Lib.hid (HQ.out.trans (decide_eq_false h0))
    go_wp2_with fail
    go_ret
    exact ⟨by rw [HQ2.out]; first | rfl | (simp; omega), HB2.out⟩
set_option maxRecDepth 100000 in
set_option maxHeartbeats 1000000 in
theorem owns_any (n c m d : Nat) (a b : Option Addr) (L : List Ho) (t : Tx) (P : List Pu) (hn : L.length = n) (hl : n ≤ 140737488351232) (hs : smallH L) (hm : P.length = m) (hl2 : m ≤ 140737488351232) (hp : smlP P) (w : World) (hM : Hos w a L) (hP : Pus w b P) :
    Calls Try.prog 72 #[.slice a n c, txV t, .slice b m d] w fun e w' => e = .returned (.bool (P.all fun p => hasH t p.key true L)) ∧ Below w.heap.size w w' := by
  obtain ⟨ta, ti⟩ := t
  obtain ⟨W, hW⟩ : ∃ W, (w.alloc (.cells #[.slice a n c] 23)).alloc (.cells #[.int .u64 (ta : Nat), .int .u64 (ti : Nat)] 30) = W := ⟨_, rfl⟩
  obtain ⟨x3, hx3⟩ : ∃ x, w.heap.size = x := ⟨_, rfl⟩
  have hBX : Below w.heap.size w W ∧ B1 W x3 (.slice a n c) ∧ TxBox W (x3 + 1) ⟨ta, ti⟩ := by
    rw [← hW, ← hx3]
    exact ⟨by go_grown, ⟨by simp [go_sem], by simp; omega⟩, ⟨by simp, by simp [go_sem], by simp [go_sem]⟩⟩
  obtain ⟨hB, h1, h2⟩ := hBX
  have HC := Lib.hid (containsU_any 91 #[.pointer (some ⟨x3, 0, none⟩), .pointer (some ⟨x3 + 1, 0, none⟩)] (fun p => !hasH ⟨ta, ti⟩ p.key true L) m d b P hm hl2 W (owns1_run _ _) (fun x hx w' hb => owns1_any x _ _ n c a L ⟨ta, ti⟩ hn hl hs (hp x hx).1 w' (h1.later hb) (h2.later hb) ((hM.later hB).later hb)) (hP.later hB))
  have he : (P.all fun p => hasH ⟨ta, ti⟩ p.key true L) = !(P.any fun p => !hasH ⟨ta, ti⟩ p.key true L) := by
    rw [List.not_any_eq_all_not]; simp
  rw [he]
  obtain ⟨r, hr⟩ : ∃ r, (P.any fun p => !hasH ⟨ta, ti⟩ p.key true L) = r := ⟨_, rfl⟩
  rw [hr] at HC ⊢
  have HB := Lib.hid hB
  have HW := Lib.hid hW
  have HX3 := Lib.hid hx3
  clear hr he h1 h2 hB hW hx3 hM hP hs hp hn hm
  go_enter Try.func72, Try.ntmps72
  go_wp2_with fail
  rw [HW.out, HX3.out]
  refine HC.out.mono ?_
  rintro e w2 ⟨rfl, hb2⟩
  have HB2 := Lib.hid (HB.out.trans (hb2.mono HB.out.size))
  clear hb2
  go_wp2_with fail
  go_ret
  exact ⟨by first | rfl | simp, HB2.out⟩
end Go.Proofs.Ythgnecggdlamfaa
