/- Deals in memory; the document's place. -/
import Derived.Test.YtohhkacnjhgamaaRd
import Derived.Test.YtohhkacnjhgamaaOb
import Derived.Deep.QuietTactic
import Derived.BigQuiet
namespace Go.Proofs.Ytohhkacnjhgamaa
open Go.RowKit

/-- Numbers in memory. -/
def numC (x : Nat) : List Value := [.int .u64 (x : Nat)]
abbrev Nus (w : World) (a : Option Addr) (L : List Nat) : Prop := Rw 1 numC w a L
theorem Nus.cell {w : World} {a : Option Addr} {L : List Nat} (h : Nus w a L) {k : Nat} {x : Nat} (hx : L[k]? = some x) : ∃ b off, a = some ⟨b, off, none⟩ ∧ b < w.heap.size ∧ w.cell? ⟨b, off + k, none⟩ = some (.int .u64 (x : Nat)) := by
  obtain ⟨b, off, e, hb, c⟩ := h k x hx
  exact ⟨b, off, e, hb, by simpa using c 0 _ rfl⟩
def txC (x : Tx) : List Value := [.int .u64 (x.age : Nat), .int .u64 (x.id : Nat)]
@[reducible] def txV (x : Tx) : Value := .agg #[.int .u64 (x.age : Nat), .int .u64 (x.id : Nat)]
/-- A transaction in a box. -/
structure TxBox (w : World) (b : Nat) (x : Tx) : Prop where
  lt : b < w.heap.size
  c0 : w.cell? ⟨b, 0, none⟩ = some (.int .u64 (x.age : Nat))
  c1 : w.cell? ⟨b, 1, none⟩ = some (.int .u64 (x.id : Nat))
theorem TxBox.later {w w' : World} {b : Nat} {x : Tx} (h : TxBox w b x) (hb : Below w.heap.size w w') : TxBox w' b x :=
  ⟨Nat.lt_of_lt_of_le h.lt hb.size, (hb.cell (p := ⟨b, 0, none⟩) h.lt).trans h.c0, (hb.cell (p := ⟨b, 1, none⟩) h.lt).trans h.c1⟩
theorem tx_ne {x t : Tx} (he : ¬ x = t) : ((x.age : Int) == (t.age : Int)) = false ∨ (x.age = t.age ∧ ((x.id : Int) == (t.id : Int)) = false) := by
  by_cases h1 : x.age = t.age
  · refine .inr ⟨h1, ?_⟩
    have : ¬ x.id = t.id := fun h2 => he (by cases x; cases t; simp only at h1 h2; rw [h1, h2])
    simp; omega
  · left; simp; omega
/-- A deal with where its parts lie. -/
structure DlM where
  x : Dl
  a : Option Addr
  c : Nat
def dlC (y : DlM) : List Value := [.int .u64 (y.x.t.age : Nat), .int .u64 (y.x.t.id : Nat), .slice y.a y.x.parts.length y.c, .int .i64 y.x.st]
@[reducible] def dlV (y : DlM) : Value := .agg #[.int .u64 (y.x.t.age : Nat), .int .u64 (y.x.t.id : Nat), .slice y.a y.x.parts.length y.c, .int .i64 y.x.st]
/-- Where a coordinator's deals lie. -/
structure Cad where
  a : Option Addr
  c : Nat
  om : List DlM
@[reducible] def coV (L : List Dl) (A : Cad) : Value := .agg #[.slice A.a L.length A.c]
/-- A coordinator in memory. -/
structure CoM (w : World) (L : List Dl) (A : Cad) : Prop where
  om : A.om.map (fun y => y.x) = L
  row : Rw 4 dlC w A.a A.om
  parts : ∀ y ∈ A.om, Nus w y.a y.x.parts
  cp : L.length ≤ A.c ∧ A.c ≤ maxLen
  pp : ∀ y ∈ A.om, y.x.parts.length ≤ y.c ∧ y.c ≤ maxLen
theorem CoM.later {w w' : World} {L : List Dl} {A : Cad} (h : CoM w L A) (hb : Below w.heap.size w w') : CoM w' L A :=
  ⟨h.om, h.row.later hb, fun y hy => (h.parts y hy).later hb, h.cp, h.pp⟩
theorem CoM.olen {w : World} {L : List Dl} {A : Cad} (h : CoM w L A) : A.om.length = L.length := by rw [← h.om, List.length_map]
theorem Dlm.cells {w : World} {a : Option Addr} {L : List DlM} (h : Rw 4 dlC w a L) {k : Nat} {y : DlM} (hy : L[k]? = some y) : ∃ b off, a = some ⟨b, off, none⟩ ∧ b < w.heap.size ∧ w.cell? ⟨b, off + k * 4, none⟩ = some (.int .u64 (y.x.t.age : Nat)) ∧ w.cell? ⟨b, off + k * 4 + 1, none⟩ = some (.int .u64 (y.x.t.id : Nat)) ∧ w.cell? ⟨b, off + k * 4 + 2, none⟩ = some (.slice y.a y.x.parts.length y.c) ∧ w.cell? ⟨b, off + k * 4 + 3, none⟩ = some (.int .i64 y.x.st) := by
  obtain ⟨b, off, e, hb, c⟩ := h k y hy
  exact ⟨b, off, e, hb, c 0 _ rfl, c 1 _ rfl, c 2 _ rfl, c 3 _ rfl⟩
/-- Where the deal of a transaction lies. -/
def ixI : Option Nat → Int
  | none => -1
  | some k => k
def pixC (t : Tx) : Nat → List Dl → Option Nat
  | _, [] => none
  | i, x :: r => if x.t = t then some i else pixC t (i + 1) r
theorem pix_fnd (t : Tx) : ∀ (L : List Dl) (i : Nat), (pixC t i L = none ∧ fndC t L = none) ∨ ∃ j x, pixC t i L = some (i + j) ∧ L[j]? = some x ∧ fndC t L = some x
  | [], i => .inl ⟨rfl, rfl⟩
  | x :: r, i => by
    simp only [pixC, fndC]
    by_cases h : x.t = t
    · rw [if_pos h, if_pos h]; exact .inr ⟨0, x, rfl, rfl, rfl⟩
    · rw [if_neg h, if_neg h]
      rcases pix_fnd t r (i + 1) with h1 | ⟨j, y, h1, h2, h3⟩
      · exact .inl h1
      · exact .inr ⟨j + 1, y, by rw [h1]; congr 1; omega, by simpa using h2, h3⟩
theorem pix_at {t : Tx} {L : List Dl} {k : Nat} {x : Dl} (hx : L[k]? = some x) : pixC t k (L.drop k) = if x.t = t then some k else pixC t (k + 1) (L.drop (k + 1)) := by
  obtain ⟨hk, rfl⟩ := List.getElem?_eq_some_iff.1 hx
  rw [List.drop_eq_getElem_cons hk]; rfl
set_option maxRecDepth 100000 in
set_option maxHeartbeats 4000000 in
theorem rPlace_any (L : List Dl) (A : Cad) (t : Tx) (hl : L.length ≤ 140737488351232) (w : World) (hM : CoM w L A) :
    Calls Try.prog 19 #[coV L A, txV t] w fun e w' => e = .returned (.int .i64 (ixI (pixC t 0 L))) ∧ Below w.heap.size w w' := by
  obtain ⟨ta, ti⟩ := t
  obtain ⟨n, hn⟩ : ∃ n, L.length = n := ⟨_, rfl⟩
  obtain ⟨r, hr⟩ : ∃ r, pixC ⟨ta, ti⟩ 0 L = r := ⟨_, rfl⟩
  obtain ⟨W, hW⟩ : ∃ W, (w.alloc (.cells #[.slice A.a L.length A.c] 24)).alloc (.cells #[.int .u64 (ta : Nat), .int .u64 (ti : Nat)] 27) = W := ⟨_, rfl⟩
  obtain ⟨x2, hx2⟩ : ∃ x, w.heap.size = x := ⟨_, rfl⟩
  have hBX : Below w.heap.size w W ∧ x2 < W.heap.size ∧ W.cell? ⟨x2, 0, none⟩ = some (.slice A.a L.length A.c) ∧ TxBox W (x2 + 1) ⟨ta, ti⟩ := by
    rw [← hW, ← hx2]
    exact ⟨by go_grown, by simp; omega, by simp [go_sem], ⟨by simp, by simp [go_sem], by simp [go_sem]⟩⟩
  rw [hn] at hBX hl
  obtain ⟨hB, hxl, hc2, hT⟩ := hBX
  have HB0 := Lib.hid hB
  have HM := Lib.hid (hM.later hB)
  have HN := Lib.hid hn
  have HR := Lib.hid (show pixC ⟨ta, ti⟩ 0 (L.drop 0) = r from hr)
  have HC2 := Lib.hid (fun (w' : World) (h : Below W.heap.size W w') => (h.cell (p := ⟨x2, 0, none⟩) hxl).trans hc2)
  have HT := Lib.hid hT
  have HW := Lib.hid hW
  have HX2 := Lib.hid hx2
  rw [hr]
  obtain ⟨aa, haa⟩ : ∃ x, A.a = x := ⟨_, rfl⟩
  have hrows := HM.out.row
  rw [haa] at HC2 hrows
  have HRW := Lib.hid hrows
  clear hB hM hn hr hW hx2 hc2 hT haa hxl hrows
  go_enter Try.func19, Try.ntmps19
  go_wp2_with fail
  rw [HW.out, HX2.out]
  go_loopw [5] (fun u wr => ∃ k : Nat, k ≤ n ∧ u = .int .i64 k ∧ pixC ⟨ta, ti⟩ k (L.drop k) = r ∧ Below W.heap.size W wr) (fun u _ => n - (intOf u).toNat)
  case atStart => exact ⟨0, Nat.zero_le _, rfl, HR.out, Below.refl _ _⟩
  case round =>
    obtain ⟨k, hk, rfl, hf, hB⟩ := hrel
    have HB := Lib.hid hB
    have c2 := HC2.out _ hB
    obtain ⟨_, q0, q1⟩ := HT.out.later hB
    simp only at q0 q1
    by_cases hlt : k < n
    case neg =>
      have i1 : ¬ (k : Int) < (n : Int) := by omega
      obtain rfl : r = none := by rw [← hf, List.drop_eq_nil_of_le (by rw [HN.out]; omega)]; rfl
      clear hB hf q0 q1
      go_wp2_with fail
      go_ret
      exact ⟨by first | rfl | simp [ixI], HB0.out.trans (HB.out.mono HB0.out.size)⟩
    have i0 : (0 : Int) ≤ (k : Int) := by omega
    have i1 : (k : Int) < (n : Int) := by omega
    obtain ⟨x, hx⟩ : ∃ x, L[k]? = some x := ⟨_, List.getElem?_eq_getElem (by rw [HN.out]; exact hlt)⟩
    obtain ⟨y, hy⟩ : ∃ y, A.om[k]? = some y := ⟨_, List.getElem?_eq_getElem (by rw [HM.out.olen, HN.out]; exact hlt)⟩
    have hyx : y.x = x := by
      have h1 : (A.om.map fun y => y.x)[k]? = some y.x := by rw [List.getElem?_map, hy]; rfl
      rw [HM.out.om, hx] at h1
      exact (Option.some.inj h1).symm
    obtain ⟨b, off, rfl, hb, p0, p1, _, _⟩ := Dlm.cells (HRW.out.later hB) hy
    rw [hyx] at p0 p1
    obtain ⟨⟨xa, xi⟩, xp, xs⟩ := x
    simp only at p0 p1
    clear hy hyx
    have HA := Lib.hid (hf.symm.trans (pix_at (t := ⟨ta, ti⟩) hx))
    clear hx hB hf
    by_cases he : (⟨xa, xi⟩ : Tx) = ⟨ta, ti⟩
    · obtain rfl : r = some k := by rw [HA.out, if_pos he]
      cases he
      go_wp2_with fail
      go_quiet (fail)
      go_wp2_with fail
      go_ret
      exact ⟨by first | rfl | simp [ixI], below_drewN (HB0.out.trans (HB.out.mono HB0.out.size)) _⟩
    · have HN2 := Lib.hid (show pixC ⟨ta, ti⟩ (k + 1) (L.drop (k + 1)) = r by rw [HA.out, if_neg he])
      rcases tx_ne he with g | ⟨rfl, g⟩
      · go_wp2_with fail
        go_quiet (fail)
        go_wp2_with fail
        go_roundw
        case rel => exact ⟨k + 1, by omega, by go_num, HN2.out, below_drewN HB.out _⟩
        case measure => simp [intOf]; omega
      · go_wp2_with fail
        go_quiet (fail)
        go_wp2_with fail
        go_roundw
        case rel => exact ⟨k + 1, by omega, by go_num, HN2.out, below_drewN HB.out _⟩
        case measure => simp [intOf]; omega
end Go.Proofs.Ytohhkacnjhgamaa
