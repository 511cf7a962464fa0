/- Shards in memory; which transaction is where: the document's known, over. -/
import Derived.Test.YthgnecggdlamfaaVg
import Derived.Test.YthgnecggdlamfaaUh
import Derived.Test.YthgnecggdlamfaaYf
namespace Go.Proofs.Ythgnecggdlamfaa
open Go.RowKit

/-- A transaction that is open, with where its puts lie. -/
structure SopM where
  x : Sop
  a : Option Addr
  c : Nat
def sopC (y : SopM) : List Value := [.int .u64 (y.x.t.age : Nat), .int .u64 (y.x.t.id : Nat), .bool y.x.fm, .bool y.x.wd, .slice y.a y.x.puts.length y.c]
def sdnC (y : Sdn) : List Value := [.int .u64 (y.t.age : Nat), .int .u64 (y.t.id : Nat), .bool y.cm]
/-- Where a shard's lists lie. -/
structure Sad where
  ra : Option Addr
  rc : Nat
  ha : Option Addr
  hc : Nat
  oa : Option Addr
  oc : Nat
  om : List SopM
  da : Option Addr
  dc : Nat
/-- A shard as Go has it. -/
@[reducible] def shV (s : Sh) (A : Sad) : Value := .agg #[.slice A.ra s.rows.length A.rc, .slice A.ha s.holds.length A.hc, .slice A.oa s.opn.length A.oc, .slice A.da s.done.length A.dc, .int .u64 (s.ver : Nat)]
/-- No list is longer than its room. -/
structure CpS (s : Sh) (A : Sad) : Prop where
  r : s.rows.length ≤ A.rc ∧ A.rc ≤ maxLen
  h : s.holds.length ≤ A.hc ∧ A.hc ≤ maxLen
  o : s.opn.length ≤ A.oc ∧ A.oc ≤ maxLen
  d : s.done.length ≤ A.dc ∧ A.dc ≤ maxLen
  p : ∀ y ∈ A.om, y.x.puts.length ≤ y.c ∧ y.c ≤ maxLen
/-- A shard in memory. -/
structure ShM (w : World) (s : Sh) (A : Sad) : Prop where
  rows : Ros w A.ra s.rows
  holds : Hos w A.ha s.holds
  om : A.om.map (fun y => y.x) = s.opn
  opn : Rw 5 sopC w A.oa A.om
  puts : ∀ y ∈ A.om, Pus w y.a y.x.puts
  done : Rw 3 sdnC w A.da s.done
  cp : CpS s A
theorem ShM.later {w w' : World} {s : Sh} {A : Sad} (h : ShM w s A) (hb : Below w.heap.size w w') : ShM w' s A :=
  ⟨h.rows.later hb, h.holds.later hb, h.om, h.opn.later hb, fun y hy => (h.puts y hy).later hb, h.done.later hb, h.cp⟩
theorem ShM.olen {w : World} {s : Sh} {A : Sad} (h : ShM w s A) : A.om.length = s.opn.length := by rw [← h.om, List.length_map]
theorem Sop.cells {w : World} {a : Option Addr} {L : List SopM} (h : Rw 5 sopC w a L) {k : Nat} {y : SopM} (hy : L[k]? = some y) : ∃ b off, a = some ⟨b, off, none⟩ ∧ b < w.heap.size ∧ w.cell? ⟨b, off + k * 5, none⟩ = some (.int .u64 (y.x.t.age : Nat)) ∧ w.cell? ⟨b, off + k * 5 + 1, none⟩ = some (.int .u64 (y.x.t.id : Nat)) ∧ w.cell? ⟨b, off + k * 5 + 2, none⟩ = some (.bool y.x.fm) ∧ w.cell? ⟨b, off + k * 5 + 3, none⟩ = some (.bool y.x.wd) ∧ w.cell? ⟨b, off + k * 5 + 4, none⟩ = some (.slice y.a y.x.puts.length y.c) := by
  obtain ⟨b, off, e, hb, c⟩ := h k y hy
  exact ⟨b, off, e, hb, c 0 _ rfl, c 1 _ rfl, c 2 _ rfl, c 3 _ rfl, c 4 _ rfl⟩
theorem Sdn.cells {w : World} {a : Option Addr} {L : List Sdn} (h : Rw 3 sdnC w a L) {k : Nat} {y : Sdn} (hy : L[k]? = some y) : ∃ b off, a = some ⟨b, off, none⟩ ∧ b < w.heap.size ∧ w.cell? ⟨b, off + k * 3, none⟩ = some (.int .u64 (y.t.age : Nat)) ∧ w.cell? ⟨b, off + k * 3 + 1, none⟩ = some (.int .u64 (y.t.id : Nat)) ∧ w.cell? ⟨b, off + k * 3 + 2, none⟩ = some (.bool y.cm) := by
  obtain ⟨b, off, e, hb, c⟩ := h k y hy
  exact ⟨b, off, e, hb, c 0 _ rfl, c 1 _ rfl, c 2 _ rfl⟩
/-- Where the first of a transaction lies. -/
def kixS (t : Tx) : Nat → List Sop → Option Nat
  | _, [] => none
  | i, x :: r => if x.t = t then some i else kixS t (i + 1) r
def oixS (t : Tx) : Nat → List Sdn → Option Nat
  | _, [] => none
  | i, x :: r => if x.t = t then some i else oixS t (i + 1) r
theorem kix_kno (t : Tx) : ∀ (O : List Sop) (i : Nat), (kixS t i O = none ∧ knoS t O = none) ∨ ∃ j x, kixS t i O = some (i + j) ∧ O[j]? = some x ∧ knoS t O = some x
  | [], i => .inl ⟨rfl, rfl⟩
  | x :: r, i => by
    simp only [kixS, knoS]
    split
    · exact .inr ⟨0, x, rfl, rfl, rfl⟩
    · rcases kix_kno t r (i + 1) with h | ⟨j, y, h1, h2, h3⟩
      · exact .inl h
      · exact .inr ⟨j + 1, y, by rw [h1]; congr 1; omega, by simpa using h2, h3⟩
theorem oix_ovr (t : Tx) : ∀ (O : List Sdn) (i : Nat), (oixS t i O = none ∧ ovrS t O = none) ∨ ∃ j x, oixS t i O = some (i + j) ∧ O[j]? = some x ∧ ovrS t O = some x.cm
  | [], i => .inl ⟨rfl, rfl⟩
  | x :: r, i => by
    simp only [oixS, ovrS]
    split
    · exact .inr ⟨0, x, rfl, rfl, rfl⟩
    · rcases oix_ovr t r (i + 1) with h | ⟨j, y, h1, h2, h3⟩
      · exact .inl h
      · exact .inr ⟨j + 1, y, by rw [h1]; congr 1; omega, by simpa using h2, h3⟩
theorem kix_at {t : Tx} {L : List Sop} {k : Nat} {x : Sop} (hx : L[k]? = some x) : kixS t k (L.drop k) = if x.t = t then some k else kixS t (k + 1) (L.drop (k + 1)) := by
  obtain ⟨hk, rfl⟩ := List.getElem?_eq_some_iff.1 hx
  rw [List.drop_eq_getElem_cons hk]; rfl
theorem oix_at {t : Tx} {L : List Sdn} {k : Nat} {x : Sdn} (hx : L[k]? = some x) : oixS t k (L.drop k) = if x.t = t then some k else oixS t (k + 1) (L.drop (k + 1)) := by
  obtain ⟨hk, rfl⟩ := List.getElem?_eq_some_iff.1 hx
  rw [List.drop_eq_getElem_cons hk]; rfl
set_option maxRecDepth 100000 in
set_option maxHeartbeats 4000000 in
theorem rKnown_any (s : Sh) (A : Sad) (t : Tx) (hl : s.opn.length ≤ 140737488351232) (w : World) (hM : ShM w s A) :
    Calls Try.prog 31 #[shV s A, txV t] w fun e w' => e = .returned (.int .i64 (ixI (kixS t 0 s.opn))) ∧ Below w.heap.size w w' := by
  obtain ⟨ta, ti⟩ := t
  obtain ⟨n, hn⟩ : ∃ n, s.opn.length = n := ⟨_, rfl⟩
  obtain ⟨r, hr⟩ : ∃ r, kixS ⟨ta, ti⟩ 0 s.opn = r := ⟨_, rfl⟩
  obtain ⟨W, hW⟩ : ∃ W, (w.alloc (.cells #[.slice A.ra s.rows.length A.rc, .slice A.ha s.holds.length A.hc, .slice A.oa s.opn.length A.oc, .slice A.da s.done.length A.dc, .int .u64 (s.ver : Nat)] 28)).alloc (.cells #[.int .u64 (ta : Nat), .int .u64 (ti : Nat)] 30) = W := ⟨_, rfl⟩
  obtain ⟨x2, hx2⟩ : ∃ x, w.heap.size = x := ⟨_, rfl⟩
  have hBX : Below w.heap.size w W ∧ x2 < W.heap.size ∧ W.cell? ⟨x2, 2, none⟩ = some (.slice A.oa s.opn.length A.oc) ∧ TxBox W (x2 + 1) ⟨ta, ti⟩ := by
    rw [← hW, ← hx2]
    exact ⟨by go_grown, by simp; omega, by simp [go_sem], ⟨by simp, by simp [go_sem], by simp [go_sem]⟩⟩
  rw [hn] at hBX hl
  obtain ⟨hB, hxl, hc2, hT⟩ := hBX
  have HB0 := Lib.hid hB
  have HM := Lib.hid (hM.later hB)
  have HN := Lib.hid hn
  have HR := Lib.hid (show kixS ⟨ta, ti⟩ 0 (s.opn.drop 0) = r from hr)
  have HC2 := Lib.hid (fun (w' : World) (h : Below W.heap.size W w') => (h.cell (p := ⟨x2, 2, none⟩) hxl).trans hc2)
  have HT := Lib.hid hT
  have HW := Lib.hid hW
  have HX2 := Lib.hid hx2
  rw [hr]
  obtain ⟨aa, haa⟩ : ∃ x, A.oa = x := ⟨_, rfl⟩
  have hrows := HM.out.opn
  rw [haa] at HC2 hrows
  have HRW := Lib.hid hrows
  clear hB hM hn hr hW hx2 hc2 hT haa hxl hrows
  go_enter Try.func31, Try.ntmps31
  go_wp2_with fail
  rw [HW.out, HX2.out]
  go_loopw [5] (fun u wr => ∃ k : Nat, k ≤ n ∧ u = .int .i64 k ∧ kixS ⟨ta, ti⟩ k (s.opn.drop k) = r ∧ Below W.heap.size W wr) (fun u _ => n - (intOf u).toNat)
  case atStart => exact ⟨0, Nat.zero_le _, rfl, HR.out, Below.refl _ _⟩
  case round =>
    obtain ⟨k, hk, rfl, hf, hB⟩ := hrel
    have HF := Lib.hid hf
    have HB := Lib.hid hB
    have c2 := HC2.out _ hB
    obtain ⟨_, q0, q1⟩ := HT.out.later hB
    simp only at q0 q1
    by_cases hlt : k < n
    case neg =>
      have i1 : ¬ (k : Int) < (n : Int) := by omega
      obtain rfl : r = none := by rw [← hf, List.drop_eq_nil_of_le (by rw [HN.out]; omega)]; rfl
      clear hB hf q0 q1
      go_wp2_with fail
      go_ret
      exact ⟨by first | rfl | simp [ixI], HB0.out.trans (HB.out.mono HB0.out.size)⟩
    have i0 : (0 : Int) ≤ (k : Int) := by omega
    have i1 : (k : Int) < (n : Int) := by omega
    obtain ⟨x, hx⟩ : ∃ x, s.opn[k]? = some x := ⟨_, List.getElem?_eq_getElem (by rw [HN.out]; exact hlt)⟩
    obtain ⟨y, hy⟩ : ∃ y, A.om[k]? = some y := ⟨_, List.getElem?_eq_getElem (by rw [HM.out.olen, HN.out]; exact hlt)⟩
    have hyx : y.x = x := by
      have h1 : (A.om.map fun y => y.x)[k]? = some y.x := by rw [List.getElem?_map, hy]; rfl
      rw [HM.out.om, hx] at h1
      exact (Option.some.inj h1).symm
    obtain ⟨b, off, rfl, hb, p0, p1, _, _, _⟩ := Sop.cells (HRW.out.later hB) hy
    rw [hyx] at p0 p1
    obtain ⟨⟨xa, xi⟩, xf, xw, xp⟩ := x
    simp only at p0 p1
    clear hy hyx
    have HA := Lib.hid (hf.symm.trans (kix_at (t := ⟨ta, ti⟩) hx))
    clear hx hB hf
    by_cases he : (⟨xa, xi⟩ : Tx) = ⟨ta, ti⟩
    · obtain rfl : r = some k := by rw [HA.out, if_pos he]
      cases he
      go_wp2_with fail
      go_quiet (fail)
      go_wp2_with fail
      go_ret
      exact ⟨by first | rfl | simp [ixI], below_drewN (HB0.out.trans (HB.out.mono HB0.out.size)) _⟩
    · have HN2 := Lib.hid (show kixS ⟨ta, ti⟩ (k + 1) (s.opn.drop (k + 1)) = r by rw [HA.out, if_neg he])
      rcases tx_ne he with g | ⟨rfl, g⟩
      · go_wp2_with fail
        go_quiet (fail)
        go_wp2_with fail
        go_roundw
        case rel => exact ⟨k + 1, by omega, by go_num, HN2.out, below_drewN HB.out _⟩
        case measure => simp [intOf]; omega
      · go_wp2_with fail
        go_quiet (fail)
        go_wp2_with fail
        go_roundw
        case rel => exact ⟨k + 1, by omega, by go_num, HN2.out, below_drewN HB.out _⟩
        case measure => simp [intOf]; omega
set_option maxRecDepth 100000 in
set_option maxHeartbeats 4000000 in
theorem rOver_any (s : Sh) (A : Sad) (t : Tx) (hl : s.done.length ≤ 140737488351232) (w : World) (hM : ShM w s A) :
    Calls Try.prog 32 #[shV s A, txV t] w fun e w' => e = .returned (.int .i64 (ixI (oixS t 0 s.done))) ∧ Below w.heap.size w w' := by
  obtain ⟨ta, ti⟩ := t
  obtain ⟨n, hn⟩ : ∃ n, s.done.length = n := ⟨_, rfl⟩
  obtain ⟨r, hr⟩ : ∃ r, oixS ⟨ta, ti⟩ 0 s.done = r := ⟨_, rfl⟩
  obtain ⟨W, hW⟩ : ∃ W, (w.alloc (.cells #[.slice A.ra s.rows.length A.rc, .slice A.ha s.holds.length A.hc, .slice A.oa s.opn.length A.oc, .slice A.da s.done.length A.dc, .int .u64 (s.ver : Nat)] 28)).alloc (.cells #[.int .u64 (ta : Nat), .int .u64 (ti : Nat)] 30) = W := ⟨_, rfl⟩
  obtain ⟨x2, hx2⟩ : ∃ x, w.heap.size = x := ⟨_, rfl⟩
  have hBX : Below w.heap.size w W ∧ x2 < W.heap.size ∧ W.cell? ⟨x2, 3, none⟩ = some (.slice A.da s.done.length A.dc) ∧ TxBox W (x2 + 1) ⟨ta, ti⟩ := by
    rw [← hW, ← hx2]
    exact ⟨by go_grown, by simp; omega, by simp [go_sem], ⟨by simp, by simp [go_sem], by simp [go_sem]⟩⟩
  rw [hn] at hBX hl
  obtain ⟨hB, hxl, hc2, hT⟩ := hBX
  have HB0 := Lib.hid hB
  have HM := Lib.hid (hM.later hB)
  have HN := Lib.hid hn
  have HR := Lib.hid (show oixS ⟨ta, ti⟩ 0 (s.done.drop 0) = r from hr)
  have HC2 := Lib.hid (fun (w' : World) (h : Below W.heap.size W w') => (h.cell (p := ⟨x2, 3, none⟩) hxl).trans hc2)
  have HT := Lib.hid hT
  have HW := Lib.hid hW
  have HX2 := Lib.hid hx2
  rw [hr]
  obtain ⟨aa, haa⟩ : ∃ x, A.da = x := ⟨_, rfl⟩
  have hrows := HM.out.done
  rw [haa] at HC2 hrows
  have HRW := Lib.hid hrows
  clear hB hM hn hr hW hx2 hc2 hT haa hxl hrows
  go_enter Try.func32, Try.ntmps32
  go_wp2_with fail
  rw [HW.out, HX2.out]
  go_loopw [5] (fun u wr => ∃ k : Nat, k ≤ n ∧ u = .int .i64 k ∧ oixS ⟨ta, ti⟩ k (s.done.drop k) = r ∧ Below W.heap.size W wr) (fun u _ => n - (intOf u).toNat)
  case atStart => exact ⟨0, Nat.zero_le _, rfl, HR.out, Below.refl _ _⟩
  case round =>
    obtain ⟨k, hk, rfl, hf, hB⟩ := hrel
    have HF := Lib.hid hf
    have HB := Lib.hid hB
    have c2 := HC2.out _ hB
    obtain ⟨_, q0, q1⟩ := HT.out.later hB
    simp only at q0 q1
    by_cases hlt : k < n
    case neg =>
      have i1 : ¬ (k : Int) < (n : Int) := by omega
      obtain rfl : r = none := by rw [← hf, List.drop_eq_nil_of_le (by rw [HN.out]; omega)]; rfl
      clear hB hf q0 q1
      go_wp2_with fail
      go_ret
      exact ⟨by first | rfl | simp [ixI], HB0.out.trans (HB.out.mono HB0.out.size)⟩
    have i0 : (0 : Int) ≤ (k : Int) := by omega
    have i1 : (k : Int) < (n : Int) := by omega
    obtain ⟨x, hx⟩ : ∃ x, s.done[k]? = some x := ⟨_, List.getElem?_eq_getElem (by rw [HN.out]; exact hlt)⟩
    obtain ⟨b, off, rfl, hb, p0, p1, _⟩ := Sdn.cells (HRW.out.later hB) hx
    obtain ⟨⟨xa, xi⟩, xc⟩ := x
    simp only at p0 p1
    have HA := Lib.hid (hf.symm.trans (oix_at (t := ⟨ta, ti⟩) hx))
    clear hx hB hf
    by_cases he : (⟨xa, xi⟩ : Tx) = ⟨ta, ti⟩
    · obtain rfl : r = some k := by rw [HA.out, if_pos he]
      cases he
      go_wp2_with fail
      go_quiet (fail)
      go_wp2_with fail
      go_ret
      exact ⟨by first | rfl | simp [ixI], below_drewN (HB0.out.trans (HB.out.mono HB0.out.size)) _⟩
    · have HN2 := Lib.hid (show oixS ⟨ta, ti⟩ (k + 1) (s.done.drop (k + 1)) = r by rw [HA.out, if_neg he])
      rcases tx_ne he with g | ⟨rfl, g⟩
      · go_wp2_with fail
        go_quiet (fail)
        go_wp2_with fail
        go_roundw
        case rel => exact ⟨k + 1, by omega, by go_num, HN2.out, below_drewN HB.out _⟩
        case measure => simp [intOf]; omega
      · go_wp2_with fail
        go_quiet (fail)
        go_wp2_with fail
        go_roundw
        case rel => exact ⟨k + 1, by omega, by go_num, HN2.out, below_drewN HB.out _⟩
        case measure => simp [intOf]; omega
end Go.Proofs.Ythgnecggdlamfaa
/- A key more; whether puts are the same: the document's. -/
namespace Go.Proofs.Ythgnecggdlamfaa
open Go.RowKit

def strC (k : ByteArray) : List Value := [.string k]
theorem strT : RowT 101 9 1 16 (.string ⟨#[]⟩) strC where
  und := Try.underlying101
  info := by kernel_rfl
  zs := by decide
  kp := by decide
  bp := by decide
  len _ := rfl
  one x u hu := by
    simp only [strC, List.mem_cons, List.not_mem_nil, or_false] at hu
    rcases hu with rfl; rfl
abbrev Strs (w : World) (a : Option Addr) (L : List ByteArray) : Prop := Rw 1 strC w a L
theorem Strs.cell {w : World} {a : Option Addr} {L : List ByteArray} (h : Strs w a L) {k : Nat} {x : ByteArray} (hx : L[k]? = some x) : ∃ b off, a = some ⟨b, off, none⟩ ∧ b < w.heap.size ∧ w.cell? ⟨b, off + k, none⟩ = some (.string x) := by
  obtain ⟨b, off, e, hb, c⟩ := h k x hx
  have := c 0 _ rfl
  rw [Nat.mul_one, Nat.add_zero] at this
  exact ⟨b, off, e, hb, this⟩
theorem memK_at {key : ByteArray} {L : List ByteArray} {k : Nat} {x : ByteArray} (hx : L[k]? = some x) : memK key (L.drop k) = (decide (x = key) || memK key (L.drop (k + 1))) := by
  obtain ⟨hk, rfl⟩ := List.getElem?_eq_some_iff.1 hx
  rw [List.drop_eq_getElem_cons hk]; rfl
/-- Keys that a call answers. -/
def KwP (w : World) (M : List ByteArray) (e : Ending) (w' : World) : Prop := ∃ a c, e = .returned (.slice a M.length c) ∧ Strs w' a M ∧ Below w.heap.size w w'
set_option maxRecDepth 100000 in
set_option maxHeartbeats 4000000 in
theorem rWith_any (key : ByteArray) (n c : Nat) (a : Option Addr) (L : List ByteArray) (hn : L.length = n) (hl : (n + 1) * 16 ≤ 140737488355328) (w : World) (hM : Strs w a L) :
    Calls Try.prog 57 #[.slice a n c, .string key] w (KwP w (addK L key)) := by
  obtain ⟨r, hr⟩ : ∃ r, memK key L = r := ⟨_, rfl⟩
  have HN := Lib.hid hn
  have HM := Lib.hid hM
  have HR := Lib.hid (show memK key (L.drop 0) = r from hr)
  have HL := Lib.hid hl
  have hln : n ≤ 140737488351232 := by omega
  have HA := Lib.hid (show addK L key = if r then L else L ++ [key] by unfold addK; rw [hr])
  clear hn hM hr hl
  go_enter Try.func57, Try.ntmps57
  go_wp2_with fail
  go_loopw [5] (fun u wr => ∃ k : Nat, k ≤ n ∧ u = .int .i64 k ∧ memK key (L.drop k) = r ∧ wr = w) (fun u _ => n - (intOf u).toNat)
  case atStart => exact ⟨0, Nat.zero_le _, rfl, HR.out, rfl⟩
  case round =>
    obtain ⟨k, hk, rfl, hf, rfl⟩ := hrel
    have HF := Lib.hid hf
    clear hf
    by_cases hlt : k < n
    · obtain ⟨x, hx⟩ : ∃ x, L[k]? = some x := ⟨_, List.getElem?_eq_getElem (by rw [HN.out]; exact hlt)⟩
      have i0 : (0 : Int) ≤ (k : Int) := by omega
      have i1 : (k : Int) < (n : Int) := by omega
      have HX := Lib.hid (HF.out.symm.trans (memK_at (key := key) hx))
      obtain ⟨b, off, rfl, hb, p0⟩ := Strs.cell HM.out hx
      clear hx
      by_cases he : x = key
      · subst he
        obtain rfl : r = true := by rw [HX.out]; simp
        have HE := Lib.hid (show KwP wr (addK L x) (.returned (.slice (some ⟨b, off, none⟩) n c)) wr from by
          rw [HA.out]; exact ⟨_, c, by simp only [if_true, HN.out], HM.out, Below.refl _ _⟩)
        go_wp2_with fail
        go_ret
        exact HE.out
      · have g1 := ba_ne he
        have g2 := ba_ne' he
        have HT := Lib.hid (show memK key (L.drop (k + 1)) = r by rw [HX.out]; simp [he])
        go_wp2_with fail
        go_roundw
        case rel => exact ⟨k + 1, by omega, by go_num, HT.out, by first | rfl | trivial⟩
        case measure => simp [intOf]; omega
    · have i1 : ¬ (k : Int) < (n : Int) := by omega
      obtain rfl : r = false := by rw [← HF.out, List.drop_eq_nil_of_le (by rw [HN.out]; omega)]; rfl
      have B0 : Below wr.heap.size wr (wr.alloc (.cells #[] 9)) := (Below.refl _ _).alloc (Nat.le_refl _) _
      obtain ⟨v1, w1, hr1, hc1, hb1⟩ := app_rw strT wr.heap.size (wr.alloc (.cells #[] 9)) 101 (.slice (some ⟨wr.heap.size, 0, none⟩) 0 0) [] (Cq.nil _ _ _) a n c L HN.out (HM.out.later B0) (by simp only [List.length_nil]; have := HL.out; omega) (by simp)
      rw [List.nil_append] at hc1
      have B1 : Below w1.heap.size w1 (w1.alloc (.cells #[.string key] 9)) := (Below.refl _ _).alloc (Nat.le_refl _) _
      have hs1 : wr.heap.size ≤ w1.heap.size := (B0.trans hb1).size
      obtain ⟨v2, w2, hr2, hc2, hb2⟩ := app_rw strT wr.heap.size _ 101 v1 L (hc1.later B1) (some ⟨w1.heap.size, 0, none⟩) 1 1 [key] rfl (rw_one (f := strC) w1 rfl key rfl 9) (by have := HL.out; have := HN.out; omega) (Nat.le_trans hs1 B1.size)
      obtain ⟨a2, c2, rfl, hS, _⟩ := hc2.form strT
      obtain ⟨a1, c1, rfl, _⟩ := hc1.form strT
      have HR1 := Lib.hid hr1
      have HR2 := Lib.hid hr2
      have HE := Lib.hid (show KwP wr (addK L key) (.returned (.slice a2 (L ++ [key]).length c2)) w2 from by
        rw [HA.out]; exact ⟨a2, c2, rfl, hS, (B0.trans hb1).trans ((B1.mono hs1).trans hb2)⟩)
      rw [List.length_append, List.length_singleton] at HE
      clear hr1 hc1 hb1 hr2 hc2 hb2 hS B0 B1 hs1
      go_wp2_with (at_builtin; first
        | (refine Lib.wpList_append_run _ rfl _ _ 101 101 rfl (.slice (some ⟨wr.heap.size, 0, none⟩) 0 0) (.slice a n c) rfl rfl _ _ HR1.out ?_)
        | (refine Lib.wpList_append_run _ rfl _ _ 101 101 rfl (.slice a1 L.length c1) (.slice (some ⟨w1.heap.size, 0, none⟩) 1 1) rfl rfl _ _ HR2.out ?_))
      go_ret
      exact HE.out
theorem samPs_at {P Q : List Pu} {k : Nat} {x y : Pu} (hx : P[k]? = some x) (hy : Q[k]? = some y) : samPs (P.drop k) (Q.drop k) = (samP x y && samPs (P.drop (k + 1)) (Q.drop (k + 1))) := by
  obtain ⟨hk, rfl⟩ := List.getElem?_eq_some_iff.1 hx
  obtain ⟨hk2, rfl⟩ := List.getElem?_eq_some_iff.1 hy
  rw [List.drop_eq_getElem_cons hk, List.drop_eq_getElem_cons hk2]; rfl
theorem samPs_len : ∀ (P Q : List Pu), P.length ≠ Q.length → samPs P Q = false
  | [], [], h => absurd rfl h
  | [], _ :: _, _ => rfl
  | _ :: _, [], _ => rfl
  | x :: r, y :: s, h => by
    rw [samPs, samPs_len r s (fun e => h (by simp [e])), Bool.and_false]
set_option maxRecDepth 100000 in
set_option maxHeartbeats 4000000 in
theorem rSamePuts_any (n c m d : Nat) (a b : Option Addr) (P Q : List Pu) (hn : P.length = n) (hl : n ≤ 140737488351232) (hm : Q.length = m) (hl2 : m ≤ 140737488351232) (w : World) (hP : Pus w a P) (hQ : Pus w b Q) :
    Calls Try.prog 27 #[.slice a n c, .slice b m d] w fun e w' => e = .returned (.bool (samPs P Q)) ∧ Below w.heap.size w w' := by
  have HN := Lib.hid hn
  have HM := Lib.hid hm
  have HP := Lib.hid hP
  have HQ := Lib.hid hQ
  by_cases hnm : n = m
  case neg =>
    have HE := Lib.hid (samPs_len P Q (by rw [hn, hm]; exact hnm))
    have g := int_ne hnm
    have gn : ((n : Int) != (m : Int)) = true := by simp; omega
    clear hn hm hP hQ hnm
    go_enter Try.func27, Try.ntmps27
    go_wp2_with fail
    go_ret
    exact ⟨by rw [HE.out]; first | rfl | simp, Below.refl _ _⟩
  subst hnm
  obtain ⟨r, hr⟩ : ∃ r, samPs P Q = r := ⟨_, rfl⟩
  rw [hr]
  have HR := Lib.hid (show samPs (P.drop 0) (Q.drop 0) = r from hr)
  clear hn hm hP hQ hr
  go_enter Try.func27, Try.ntmps27
  go_wp2_with fail
  go_loopw [5] (fun u wr => ∃ k : Nat, k ≤ n ∧ u = .int .i64 k ∧ samPs (P.drop k) (Q.drop k) = r ∧ Below w.heap.size w wr) (fun u _ => n - (intOf u).toNat)
  case atStart => exact ⟨0, Nat.zero_le _, rfl, HR.out, Below.refl _ _⟩
  case round =>
    obtain ⟨k, hk, rfl, hf, hB⟩ := hrel
    have HF := Lib.hid hf
    have HB := Lib.hid hB
    clear hf
    by_cases hlt : k < n
    · obtain ⟨x, hx⟩ : ∃ x, P[k]? = some x := ⟨_, List.getElem?_eq_getElem (by rw [HN.out]; exact hlt)⟩
      obtain ⟨y, hy⟩ : ∃ y, Q[k]? = some y := ⟨_, List.getElem?_eq_getElem (by rw [HM.out]; exact hlt)⟩
      have i0 : (0 : Int) ≤ (k : Int) := by omega
      have i1 : (k : Int) < (n : Int) := by omega
      have HA := Lib.hid (HF.out.symm.trans (samPs_at hx hy))
      obtain ⟨b1, off, rfl, _, p0, p1, p2⟩ := Pus.cells (HP.out.later hB) hx
      obtain ⟨b2, off2, rfl, _, q0, q1, q2⟩ := Pus.cells (HQ.out.later hB) hy
      obtain ⟨xk, xv, xg⟩ := x
      obtain ⟨yk, yv, yg⟩ := y
      simp only at p0 p1 p2 q0 q1 q2 HA
      clear hx hy hB
      by_cases h1 : xk = yk
      case neg =>
        obtain rfl : r = false := by rw [HA.out]; simp [samP, h1]
        have g1 := ba_ne h1
        have g2 := ba_ne' h1
        go_wp2_with fail
        go_quiet (fail)
        go_wp2_with fail
        go_ret
        exact ⟨by first | rfl | simp, below_drewN HB.out _⟩
      subst h1
      by_cases h2 : xv = yv
      case neg =>
        obtain rfl : r = false := by rw [HA.out]; simp [samP, h2]
        have g1 := ba_ne h2
        have g2 := ba_ne' h2
        go_wp2_with fail
        go_quiet (fail)
        go_wp2_with fail
        go_ret
        exact ⟨by first | rfl | simp, below_drewN HB.out _⟩
      subst h2
      by_cases h3 : xg = yg
      case neg =>
        have g1 : (xg == yg) = false := by simpa using h3
        obtain rfl : r = false := by rw [HA.out]; simp [samP, g1]
        go_wp2_with fail
        go_quiet (fail)
        go_wp2_with fail
        go_ret
        exact ⟨by first | rfl | simp, below_drewN HB.out _⟩
      subst h3
      have HT := Lib.hid (show samPs (P.drop (k + 1)) (Q.drop (k + 1)) = r by rw [HA.out]; simp [samP])
      go_wp2_with fail
      go_quiet (fail)
      go_wp2_with fail
      go_roundw
      case rel => exact ⟨k + 1, by omega, by go_num, HT.out, below_drewN HB.out _⟩
      case measure => simp [intOf]; omega
    · have i1 : ¬ (k : Int) < (n : Int) := by omega
      obtain rfl : r = true := by rw [← HF.out, List.drop_eq_nil_of_le (by rw [HN.out]; omega), List.drop_eq_nil_of_le (by rw [HM.out]; omega)]; rfl
      go_wp2_with fail
      go_ret
      exact ⟨by first | rfl | simp, HB.out⟩
end Go.Proofs.Ythgnecggdlamfaa
