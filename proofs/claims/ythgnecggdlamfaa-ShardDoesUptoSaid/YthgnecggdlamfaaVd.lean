/- Rows that a call lays, of elements of any one shape: append; what they hold; a clone. -/
import Derived.Test.YthgnecggdlamfaaRd
import Derived.Deep.Upon
import Derived.Deep.AppendLies
import Derived.Lib.AppendZeros
import Derived.Lib.SliceRun
import Derived.ArgAppend
import Derived.Test.YthgnecggdlamfaaVm
import Derived.Test.YthgnecggdlamfaaUd
import Derived.Deep.QuietTactic
import Derived.BigQuiet
import Derived.Deep.CutBlock
import Derived.Deep.DeepCutAuto
import Derived.Deep.RegionHeld3
namespace Go.Proofs.Ythgnecggdlamfaa
open Go.RowKit

/-- What a slice's element type is known for. -/
structure RowT {α : Type} (T E : TypeId) (k bs : Nat) (z : Value) (f : α → List Value) : Prop where
  und : Try.prog.underlying T = some (.slice E)
  info : (Try.prog.info? E).map (fun i => (i.zero, i.size, i.bytes)) = some (some z, k, bs)
  zs : z.cells.size = k
  kp : 0 < k
  bp : 2 ≤ bs
  len : ∀ x, (f x).length = k
  one : ∀ x, ∀ u ∈ f x, u.oneCell' = true
theorem owns_less {w : World} {B B' : Nat} {e : TypeId} {size : Nat} {v : Value} {n : Nat} {xs : List Value} (h : w.ownsRow B e size v n xs) (hB : B' ≤ B) : w.ownsRow B' e size v n xs := by
  refine ⟨h.1, ?_⟩
  rcases h.2 with h2 | ⟨g, cap, cur, e1, e2, rest⟩
  · exact .inl h2
  · exact .inr ⟨g, cap, cur, e1, Nat.le_trans hB e2, rest⟩
/-- A row that is being laid: nothing in it (nil, or just begun), or what the call itself has laid. -/
def Cq {α : Type} (E : TypeId) (k : Nat) (f : α → List Value) (B : Nat) (w : World) (v : Value) (L : List α) : Prop :=
  (L = [] ∧ ∃ ao, v = .slice ao 0 0) ∨ w.ownsRow B E k v L.length (rwC f L)
section
variable {α : Type} {T E : TypeId} {k bs : Nat} {z : Value} {f : α → List Value} {B : Nat} {w : World} {v : Value} {L : List α}
theorem Cq.later {w' : World} (h : Cq E k f B w v L) (hb : Below w.heap.size w w') : Cq E k f B w' v L := by
  rcases h with h | h
  · exact .inl h
  · refine .inr (h.kept ⟨hb.os, hb.tape, hb.output, hb.size, fun k hk _ => hb.block k hk⟩ (row := none) ?_)
    rcases h1 : v.ownBlock with _ | g
    · exact .inl rfl
    · exact .inr (by simp)
theorem Cq.nil (B : Nat) (w : World) (ao : Option Addr) : Cq E k f B w (.slice ao 0 0) [] := .inl ⟨rfl, ao, rfl⟩
theorem Cq.mono {B' : Nat} (h : Cq E k f B w v L) (hB : B' ≤ B) : Cq E k f B' w v L := h.imp id fun h => owns_less h hB
/-- Its form: a slice; what it holds is there; its block is the call's own, or there is none in it. -/
theorem Cq.form (R : RowT T E k bs z f) (h : Cq E k f B w v L) : ∃ a c, v = .slice a L.length c ∧ Rw k f w a L ∧ (0 < L.length → ∀ q, a = some q → B ≤ q.block) ∧ L.length ≤ c ∧ c ≤ maxLen := by
  rcases h with ⟨rfl, ao, rfl⟩ | h
  · exact ⟨ao, 0, rfl, fun j x hx => by simp at hx, fun h => by simp at h, Nat.le_refl _, by decide⟩
  · obtain ⟨a, c, e, _, hE, hf⟩ := rw_of_owns R.len R.kp h
    refine ⟨a, c, e, hE, fun _ => hf, ?_⟩
    rcases h.2 with ⟨e2, h0⟩ | ⟨g, cap, cur, e2, _, _, hn, hm, _⟩
    · injection e2.symm.trans e with _ _ h3
      subst h3; exact ⟨by omega, by decide⟩
    · injection e2.symm.trans e with _ _ h3
      subst h3; exact ⟨hn, hm⟩
theorem addAny' (b off j : Nat) : (⟨b, off, none⟩ : Addr).add j = ⟨b, off + j, none⟩ := Addr.add_lit ..
theorem maxLen_of {n bs : Nat} (hb : 2 ≤ bs) (h : n * bs ≤ 140737488355328) : n ≤ maxLen := by
  have := Nat.mul_le_mul_left n hb
  unfold maxLen; omega
theorem oneRw (R : RowT T E k bs z f) (L : List α) : ∀ u ∈ rwC f L, u.oneCell' = true := by
  intro u hu
  obtain ⟨x, _, hx⟩ := List.mem_flatMap.1 hu
  exact R.one x u hx
/-- append(row, list...). -/
theorem app_rw (R : RowT T E k bs z f) (B : Nat) (w : World) (ty : TypeId) (v : Value) (L : List α) (h : Cq E k f B w v L) (a : Option Addr) (m c : Nat) (M : List α) (hm : M.length = m) (hM : Rw k f w a M) (hl : (L.length + m) * bs ≤ 140737488355328) (hB : B ≤ w.heap.size) :
    ∃ v' w', (Builtin.append_ #[T, T] ty #[v, .slice a m c]).run Try.prog w = .ok v' w' ∧ (Cq E k f B w' v' (L ++ M) ∧ Below B w w') := by
  obtain ⟨i0, hi, hz0, hz1', hz2'⟩ := info_parts R.info
  rcases Nat.eq_zero_or_pos m with h0 | h0
  · subst h0
    have hM0 : M = [] := List.length_eq_zero_iff.1 hm
    subst hM0
    rw [List.append_nil]
    have hs : Src Try.prog i0.size T (.slice a 0 c) 0 [] w := by
      cases a with
      | none => exact Src.ofNil w R.und c
      | some p => exact Src.ofSlice w R.und p 0 c [] (by simp) (by simp) (by simp)
    have hv : ∃ ao n cap, v = .slice ao n cap ∧ n ≤ cap := by
      rcases h with ⟨_, ao, rfl⟩ | h
      · exact ⟨ao, 0, 0, rfl, Nat.le_refl _⟩
      · rcases h.2 with ⟨rfl, h0⟩ | ⟨g, cap, cur, rfl, _, _, hn, _⟩
        · exact ⟨none, 0, 0, rfl, Nat.le_refl _⟩
        · exact ⟨_, _, cap, rfl, hn⟩
    obtain ⟨ao, n, cap, rfl, hle⟩ := hv
    exact ⟨_, _, run_append_nothing w _ _ ty _ i0 R.und hi ao n cap hle _ hs, h, Below.refl _ _⟩
  · obtain ⟨b1, off, rfl, hb1⟩ := hM.addr (by omega)
    have hrow := rw_row R.len R.kp hM
    have hnews : ∀ j u, (rwC f M)[j]? = some u → w.cell? ((⟨b1, off, none⟩ : Addr).add j) = some u := fun j u hj => by rw [addAny']; exact hrow j u hj
    have hlen : (rwC f M).length = m * k := by rw [rwC_len R.len, hm]
    have hmx := maxLen_of R.bp hl
    rcases h with ⟨rfl, ao, rfl⟩ | h
    · simp only [List.length_nil, Nat.zero_add] at hl hmx
      cases ao with
      | none =>
        obtain ⟨v', w', hr, hown, hg, _⟩ := run_append_own (P := Try.prog) w B T ty E i0 _ k bs R.und hi hz0 hz1' hz2' R.zs R.kp (.slice none 0 0) 0 [] (World.ownsRow_nil w B _ k) ⟨b1, off, none⟩ m c (rwC f M) hlen hnews (oneRw R M) (by simpa using hmx) (by simpa using hl) hB
        refine ⟨v', w', hr, .inr ?_, (Below.refl _ _).grown hg hB (by simp [Value.ownBlock])⟩
        simpa [hm] using hown
      | some b =>
        obtain ⟨v', w', hr, hown, hg⟩ := run_append_arg_grows (P := Try.prog) w T ty E i0 _ k bs R.und hi hz0 hz1' hz2' R.zs R.kp b 0 0 [] (by simp) (by simp)
          ⟨b1, off, none⟩ m c (rwC f M) hlen hnews (by omega) (by simpa using hmx) (by simpa using hl)
        refine ⟨v', w', hr, .inr ?_, (Below.refl _ _).grown hg hB (by simp)⟩
        have hown' := owns_less hown hB
        simpa [hm] using hown'
    · obtain ⟨v', w', hr, hown, hg, _⟩ := run_append_own (P := Try.prog) w B T ty E i0 _ k bs R.und hi hz0 hz1' hz2' R.zs R.kp v L.length (rwC f L) h ⟨b1, off, none⟩ m c (rwC f M) hlen hnews (oneRw R M) hmx hl hB
      refine ⟨v', w', hr, .inr ?_, (Below.refl _ _).grown hg hB (fun k e => (h.lt k e).1)⟩
      rw [List.length_append, rwC_app, hm]
      exact hown
/-- One element, as append's last argument lays it. -/
theorem rw_one (w : World) {b : Nat} (hb : b = w.heap.size) (x : α) {os : Array Value} (hf : f x = os.toList) (T : TypeId) : Rw k f (w.alloc (.cells os T)) (some ⟨b, 0, none⟩) [x] := fun j y hy => by
  have hj := (List.getElem?_eq_some_iff.1 hy).1
  simp at hj
  subst hj
  obtain rfl : x = y := by simpa using hy
  refine ⟨b, 0, rfl, by subst hb; simp, fun i u hu => ?_⟩
  subst hb
  rw [hf] at hu
  simp only [Nat.zero_mul, Nat.zero_add]
  rw [show (w.alloc (.cells os T)).cell? ⟨w.heap.size, i, none⟩ = os[i]? by simp [go_sem]]
  simpa using hu
end
/-- What slices.Clone answers. -/
def ClP {α : Type} (E : TypeId) (k : Nat) (f : α → List Value) (w : World) (L : List α) (e : Ending) (w' : World) : Prop := ∃ v', e = .returned v' ∧ Cq E k f w.heap.size w' v' L ∧ Below w.heap.size w w'
end Go.Proofs.Ythgnecggdlamfaa
/- Locks and transactions in memory; who is elder, who is in a list, what is in the way: the document's. -/
namespace Go.Proofs.Ythgnecggdlamfaa
open Go.RowKit

def txC (x : Tx) : List Value := [.int .u64 (x.age : Nat), .int .u64 (x.id : Nat)]
def hoC (x : Ho) : List Value := [.string x.key, .int .u64 (x.t.age : Nat), .int .u64 (x.t.id : Nat), .bool x.wr]
@[reducible] def txV (x : Tx) : Value := .agg #[.int .u64 (x.age : Nat), .int .u64 (x.id : Nat)]
@[reducible] def hoV (x : Ho) : Value := .agg #[.string x.key, .int .u64 (x.t.age : Nat), .int .u64 (x.t.id : Nat), .bool x.wr]
/-- Transactions in memory, locks in memory. -/
abbrev Txs (w : World) (a : Option Addr) (L : List Tx) : Prop := Rw 2 txC w a L
abbrev Hos (w : World) (a : Option Addr) (L : List Ho) : Prop := Rw 4 hoC w a L
theorem Txs.cells {w : World} {a : Option Addr} {L : List Tx} (h : Txs w a L) {k : Nat} {x : Tx} (hx : L[k]? = some x) : ∃ b off, a = some ⟨b, off, none⟩ ∧ b < w.heap.size ∧ w.cell? ⟨b, off + k * 2, none⟩ = some (.int .u64 (x.age : Nat)) ∧ w.cell? ⟨b, off + k * 2 + 1, none⟩ = some (.int .u64 (x.id : Nat)) := by
  obtain ⟨b, off, e, hb, c⟩ := h k x hx
  exact ⟨b, off, e, hb, c 0 _ rfl, c 1 _ rfl⟩
theorem Hos.cells {w : World} {a : Option Addr} {L : List Ho} (h : Hos w a L) {k : Nat} {x : Ho} (hx : L[k]? = some x) : ∃ b off, a = some ⟨b, off, none⟩ ∧ b < w.heap.size ∧ w.cell? ⟨b, off + k * 4, none⟩ = some (.string x.key) ∧ w.cell? ⟨b, off + k * 4 + 1, none⟩ = some (.int .u64 (x.t.age : Nat)) ∧ w.cell? ⟨b, off + k * 4 + 2, none⟩ = some (.int .u64 (x.t.id : Nat)) ∧ w.cell? ⟨b, off + k * 4 + 3, none⟩ = some (.bool x.wr) := by
  obtain ⟨b, off, e, hb, c⟩ := h k x hx
  exact ⟨b, off, e, hb, c 0 _ rfl, c 1 _ rfl, c 2 _ rfl, c 3 _ rfl⟩
theorem int_ne {a b : Nat} (h : ¬ a = b) : ((a : Int) == (b : Int)) = false := by simp; omega
set_option maxHeartbeats 1000000 in
theorem rElder_any (a b : Tx) (w : World) : Calls Try.prog 78 #[txV a, txV b] w fun e w' => e = .returned (.bool (eldT a b)) ∧ Below w.heap.size w w' := by
  obtain ⟨a1, a2⟩ := a
  obtain ⟨b1, b2⟩ := b
  obtain ⟨r, hr⟩ : ∃ r, eldT ⟨a1, a2⟩ ⟨b1, b2⟩ = r := ⟨_, rfl⟩
  rw [hr]
  have HW := Lib.hid (show Below w.heap.size w ((w.alloc (.cells #[.int .u64 (a1 : Nat), .int .u64 (a2 : Nat)] 30)).alloc (.cells #[.int .u64 (b1 : Nat), .int .u64 (b2 : Nat)] 30)) by go_grown)
  by_cases h : a1 = b1
  · subst h
    by_cases h2 : a2 < b2
    · obtain rfl : r = true := by rw [← hr]; simp [eldT, h2]
      have g : (a2 : Int) < (b2 : Int) := by omega
      clear hr
      go_enter Try.func78, Try.ntmps78
      go_wp2_with fail
      go_ret
      exact ⟨by first | rfl | simp, HW.out⟩
    · obtain rfl : r = false := by rw [← hr]; simp [eldT, h2]
      have g : ¬ (a2 : Int) < (b2 : Int) := by omega
      clear hr
      go_enter Try.func78, Try.ntmps78
      go_wp2_with fail
      go_ret
      exact ⟨by first | rfl | simp, HW.out⟩
  · have g0 := int_ne h
    by_cases h2 : a1 < b1
    · obtain rfl : r = true := by rw [← hr]; simp [eldT, h, h2]
      have g : (a1 : Int) < (b1 : Int) := by omega
      clear hr
      go_enter Try.func78, Try.ntmps78
      go_wp2_with fail
      go_ret
      exact ⟨by first | rfl | simp, HW.out⟩
    · obtain rfl : r = false := by rw [← hr]; simp [eldT, h, h2]
      have g : ¬ (a1 : Int) < (b1 : Int) := by omega
      clear hr
      go_enter Try.func78, Try.ntmps78
      go_wp2_with fail
      go_ret
      exact ⟨by first | rfl | simp, HW.out⟩
end Go.Proofs.Ythgnecggdlamfaa
/- Who is in a list; whether lists are the same: the document's. -/
namespace Go.Proofs.Ythgnecggdlamfaa
open Go.RowKit

/-- A transaction in a box. -/
structure TxBox (w : World) (b : Nat) (x : Tx) : Prop where
  lt : b < w.heap.size
  c0 : w.cell? ⟨b, 0, none⟩ = some (.int .u64 (x.age : Nat))
  c1 : w.cell? ⟨b, 1, none⟩ = some (.int .u64 (x.id : Nat))
theorem TxBox.later {w w' : World} {b : Nat} {x : Tx} (h : TxBox w b x) (hb : Below w.heap.size w w') : TxBox w' b x :=
  ⟨Nat.lt_of_lt_of_le h.lt hb.size, (hb.cell (p := ⟨b, 0, none⟩) h.lt).trans h.c0, (hb.cell (p := ⟨b, 1, none⟩) h.lt).trans h.c1⟩
theorem txbox {w W : World} {a i : Nat} (hW : w.alloc (.cells #[.int .u64 (a : Nat), .int .u64 (i : Nat)] 30) = W) : Below w.heap.size w W ∧ TxBox W w.heap.size ⟨a, i⟩ := by
  subst hW
  exact ⟨by go_grown, by simp, by simp [go_sem], by simp [go_sem]⟩
theorem amT_at {t : Tx} {L : List Tx} {k : Nat} {x : Tx} (hx : L[k]? = some x) : amT t (L.drop k) = (decide (x = t) || amT t (L.drop (k + 1))) := by
  obtain ⟨hk, rfl⟩ := List.getElem?_eq_some_iff.1 hx
  rw [List.drop_eq_getElem_cons hk]; rfl
theorem tx_ne {a b c d : Nat} (h : ¬ (⟨a, b⟩ : Tx) = ⟨c, d⟩) : ((a : Int) == (c : Int)) = false ∨ (a = c ∧ ((b : Int) == (d : Int)) = false) := by
  by_cases h1 : a = c
  · exact .inr ⟨h1, int_ne fun e => h (by rw [h1, e])⟩
  · exact .inl (int_ne h1)
set_option maxHeartbeats 2000000 in
theorem rAmong_any (n c : Nat) (a : Option Addr) (L : List Tx) (t : Tx) (hn : L.length = n) (hl : n ≤ 140737488351232) (w : World) (hM : Txs w a L) :
    Calls Try.prog 52 #[.slice a n c, txV t] w fun e w' => e = .returned (.bool (amT t L)) ∧ Below w.heap.size w w' := by
  obtain ⟨ta, ti⟩ := t
  obtain ⟨r, hr⟩ : ∃ r, amT ⟨ta, ti⟩ L = r := ⟨_, rfl⟩
  rw [hr]
  have HN := Lib.hid hn
  have HR := Lib.hid (show amT ⟨ta, ti⟩ (L.drop 0) = r from hr)
  obtain ⟨W, hW⟩ : ∃ W, w.alloc (.cells #[.int .u64 (ta : Nat), .int .u64 (ti : Nat)] 30) = W := ⟨_, rfl⟩
  obtain ⟨hB, hX⟩ := txbox hW
  have HM := Lib.hid (hM.later hB)
  have HB0 := Lib.hid hB
  obtain ⟨x0, hx0⟩ : ∃ x, w.heap.size = x := ⟨_, rfl⟩
  rw [hx0] at hX
  have HX := Lib.hid hX
  have HW := Lib.hid hW
  have HX0 := Lib.hid hx0
  clear hn hM hr hW hB hX hx0
  go_enter Try.func52, Try.ntmps52
  go_wp2_with fail
  rw [HW.out, HX0.out]
  go_loopw [5] (fun u wr => ∃ k : Nat, k ≤ n ∧ u = .int .i64 k ∧ amT ⟨ta, ti⟩ (L.drop k) = r ∧ Below W.heap.size W wr) (fun u _ => n - (intOf u).toNat)
  case atStart => exact ⟨0, Nat.zero_le _, rfl, HR.out, Below.refl _ _⟩
  case round =>
    obtain ⟨k, hk, rfl, hf, hB⟩ := hrel
    have HF := Lib.hid hf
    have HB := Lib.hid hB
    clear hf
    by_cases hlt : k < n
    · obtain ⟨x, hx⟩ : ∃ x, L[k]? = some x := ⟨_, List.getElem?_eq_getElem (by rw [HN.out]; exact hlt)⟩
      have i0 : (0 : Int) ≤ (k : Int) := by omega
      have i1 : (k : Int) < (n : Int) := by omega
      have HA := Lib.hid (HF.out.symm.trans (amT_at (t := ⟨ta, ti⟩) hx))
      obtain ⟨b, off, rfl, hb, p0, p1⟩ := Txs.cells (HM.out.later hB) hx
      obtain ⟨_, q0, q1⟩ := HX.out.later hB
      obtain ⟨xa, xi⟩ := x
      simp only at p0 p1 HA q0 q1
      clear hx hB
      by_cases he : (⟨xa, xi⟩ : Tx) = ⟨ta, ti⟩
      · obtain rfl : r = true := by rw [HA.out, decide_eq_true he]; rfl
        cases he
        go_wp2_with fail
        go_quiet (fail)
        go_wp2_with fail
        go_ret
        exact ⟨by first | rfl | simp, below_drewN (HB0.out.trans (HB.out.mono HB0.out.size)) _⟩
      · have HN2 := Lib.hid (show amT ⟨ta, ti⟩ (L.drop (k + 1)) = r by rw [HA.out, decide_eq_false he]; rfl)
        rcases tx_ne he with g | ⟨g0, g⟩
        · go_wp2_with fail
          go_quiet (fail)
          go_wp2_with fail
          go_roundw
          case rel => exact ⟨k + 1, by omega, by go_num, HN2.out, below_drewN HB.out _⟩
          case measure => simp [intOf]; omega
        · subst g0
          go_wp2_with fail
          go_quiet (fail)
          go_wp2_with fail
          go_roundw
          case rel => exact ⟨k + 1, by omega, by go_num, HN2.out, below_drewN HB.out _⟩
          case measure => simp [intOf]; omega
    · have i1 : ¬ (k : Int) < (n : Int) := by omega
      obtain rfl : r = false := by rw [← HF.out, List.drop_eq_nil_of_le (by rw [HN.out]; omega)]; rfl
      clear hB
      go_wp2_with fail
      go_ret
      exact ⟨by first | rfl | simp, HB0.out.trans (HB.out.mono HB0.out.size)⟩
set_option maxHeartbeats 1000000 in
theorem rSame_any (n c c2 : Nat) (a a2 : Option Addr) (L : List Ho) (hn : L.length = n) (hl : n ≤ 140737488351232) (w : World) (h1 : Hos w a L) (h2 : Hos w a2 L) :
    Calls Try.prog 26 #[.slice a n c, .slice a2 n c2] w fun e w' => e = .returned (.bool true) ∧ Below w.heap.size w w' := by
  have HN := Lib.hid hn
  have H1 := Lib.hid h1
  have H2 := Lib.hid h2
  have HW := Lib.hid (Below.refl w.heap.size w)
  clear hn h1 h2
  go_enter Try.func26, Try.ntmps26
  go_wp2_with fail
  go_loopw [5] (fun u wr => ∃ k : Nat, k ≤ n ∧ u = .int .i64 k ∧ Below w.heap.size w wr) (fun u _ => n - (intOf u).toNat)
  case atStart => exact ⟨0, Nat.zero_le _, rfl, HW.out⟩
  case round =>
    obtain ⟨k, hk, rfl, hB⟩ := hrel
    have HB := Lib.hid hB
    by_cases hlt : k < n
    · obtain ⟨x, hx⟩ : ∃ x, L[k]? = some x := ⟨_, List.getElem?_eq_getElem (by rw [HN.out]; exact hlt)⟩
      have i0 : (0 : Int) ≤ (k : Int) := by omega
      have i1 : (k : Int) < (n : Int) := by omega
      obtain ⟨b, off, rfl, hb, p0, p1, p2, p3⟩ := Hos.cells (H1.out.later hB) hx
      obtain ⟨b2, off2, rfl, hb2, q0, q1, q2, q3⟩ := Hos.cells (H2.out.later hB) hx
      obtain ⟨xk, ⟨xa, xi⟩, xw⟩ := x
      simp only at p0 p1 p2 p3 q0 q1 q2 q3
      clear hx hB
      go_wp2_with fail
      go_quiet (fail)
      go_wp2_with fail
      go_roundw
      case rel => exact ⟨k + 1, by omega, by go_num, below_drewN HB.out _⟩
      case measure => simp [intOf]; omega
    · clear hB
      go_wp2_with fail
      go_ret
      exact ⟨by first | rfl | simp, HB.out⟩
end Go.Proofs.Ythgnecggdlamfaa
/- What is in the way, who has a lock: the document's. -/
namespace Go.Proofs.Ythgnecggdlamfaa
open Go.RowKit

set_option maxHeartbeats 4000000 in
theorem rWay_any (h : Ho) (t : Tx) (key : ByteArray) (wr : Bool) (w : World) :
    Calls Try.prog 56 #[hoV h, txV t, .string key, .bool wr] w fun e w' => e = .returned (.bool (inW h t key wr)) ∧ Below w.heap.size w w' := by
  obtain ⟨hk, ⟨ha, hi⟩, hw⟩ := h
  obtain ⟨ta, ti⟩ := t
  obtain ⟨r, hr⟩ : ∃ r, inW ⟨hk, ⟨ha, hi⟩, hw⟩ ⟨ta, ti⟩ key wr = r := ⟨_, rfl⟩
  rw [hr]
  have HW := Lib.hid (show Below w.heap.size w ((w.alloc (.cells #[.string hk, .int .u64 (ha : Nat), .int .u64 (hi : Nat), .bool hw] 75)).alloc (.cells #[.int .u64 (ta : Nat), .int .u64 (ti : Nat)] 30)) by go_grown)
  by_cases h1 : hk = key
  case neg =>
    obtain rfl : r = false := by rw [← hr]; simp [inW, h1]
    have g1 := ba_ne h1
    have g2 := ba_ne' h1
    clear hr
    go_enter Try.func56, Try.ntmps56
    go_wp2_with fail
    go_ret
    exact ⟨by first | rfl | simp, HW.out⟩
  subst h1
  by_cases h2 : (⟨ha, hi⟩ : Tx) = ⟨ta, ti⟩
  · cases h2
    obtain rfl : r = false := by rw [← hr]; simp [inW]
    clear hr
    go_enter Try.func56, Try.ntmps56
    go_wp2_with fail
    go_ret
    exact ⟨by first | rfl | simp, HW.out⟩
  obtain rfl : r = (hw || wr) := by rw [← hr]; simp [inW, h2]
  clear hr
  rcases tx_ne h2 with g | ⟨rfl, g⟩
  · cases hw
    · go_enter Try.func56, Try.ntmps56
      go_wp2_with fail
      go_ret
      exact ⟨by first | rfl | simp, HW.out⟩
    · go_enter Try.func56, Try.ntmps56
      go_wp2_with fail
      go_ret
      exact ⟨by first | rfl | simp, HW.out⟩
  · cases hw
    · go_enter Try.func56, Try.ntmps56
      go_wp2_with fail
      go_ret
      exact ⟨by first | rfl | simp, HW.out⟩
    · go_enter Try.func56, Try.ntmps56
      go_wp2_with fail
      go_ret
      exact ⟨by first | rfl | simp, HW.out⟩
theorem hasH_at {t : Tx} {key : ByteArray} {wr : Bool} {L : List Ho} {k : Nat} {x : Ho} (hx : L[k]? = some x) : hasH t key wr (L.drop k) = ((decide (x.t = t) && (decide (x.key = key) && (x.wr || !wr))) || hasH t key wr (L.drop (k + 1))) := by
  obtain ⟨hk, rfl⟩ := List.getElem?_eq_some_iff.1 hx
  rw [List.drop_eq_getElem_cons hk]; rfl
set_option maxHeartbeats 4000000 in
theorem rHas_any (n c : Nat) (a : Option Addr) (L : List Ho) (t : Tx) (key : ByteArray) (wb : Bool) (hn : L.length = n) (hl : n ≤ 140737488351232) (w : World) (hM : Hos w a L) :
    Calls Try.prog 17 #[.slice a n c, txV t, .string key, .bool wb] w fun e w' => e = .returned (.bool (hasH t key wb L)) ∧ Below w.heap.size w w' := by
  obtain ⟨ta, ti⟩ := t
  obtain ⟨r, hr⟩ : ∃ r, hasH ⟨ta, ti⟩ key wb L = r := ⟨_, rfl⟩
  rw [hr]
  have HN := Lib.hid hn
  have HR := Lib.hid (show hasH ⟨ta, ti⟩ key wb (L.drop 0) = r from hr)
  obtain ⟨W, hW⟩ : ∃ W, w.alloc (.cells #[.int .u64 (ta : Nat), .int .u64 (ti : Nat)] 30) = W := ⟨_, rfl⟩
  obtain ⟨hB, hX⟩ := txbox hW
  have HM := Lib.hid (hM.later hB)
  have HB0 := Lib.hid hB
  obtain ⟨x0, hx0⟩ : ∃ x, w.heap.size = x := ⟨_, rfl⟩
  rw [hx0] at hX
  have HX := Lib.hid hX
  have HW := Lib.hid hW
  have HX0 := Lib.hid hx0
  clear hn hM hr hW hB hX hx0
  go_enter Try.func17, Try.ntmps17
  go_wp2_with fail
  rw [HW.out, HX0.out]
  go_loopw [9] (fun u wq => ∃ k : Nat, k ≤ n ∧ u = .int .i64 k ∧ hasH ⟨ta, ti⟩ key wb (L.drop k) = r ∧ Below W.heap.size W wq) (fun u _ => n - (intOf u).toNat)
  case atStart => exact ⟨0, Nat.zero_le _, rfl, HR.out, Below.refl _ _⟩
  case round =>
    obtain ⟨k, hk, rfl, hf, hB⟩ := hrel
    have HF := Lib.hid hf
    have HB := Lib.hid hB
    clear hf
    by_cases hlt : k < n
    · obtain ⟨x, hx⟩ : ∃ x, L[k]? = some x := ⟨_, List.getElem?_eq_getElem (by rw [HN.out]; exact hlt)⟩
      have i0 : (0 : Int) ≤ (k : Int) := by omega
      have i1 : (k : Int) < (n : Int) := by omega
      have HA := Lib.hid (HF.out.symm.trans (hasH_at (t := ⟨ta, ti⟩) (key := key) (wr := wb) hx))
      obtain ⟨b, off, rfl, hb, p0, p1, p2, p3⟩ := Hos.cells (HM.out.later hB) hx
      obtain ⟨_, q0, q1⟩ := HX.out.later hB
      obtain ⟨xk, ⟨xa, xi⟩, xw⟩ := x
      simp only at p0 p1 p2 p3 HA q0 q1
      clear hx hB
      by_cases he : (⟨xa, xi⟩ : Tx) = ⟨ta, ti⟩
      · cases he
        by_cases he2 : xk = key
        · subst he2
          cases xw
          · cases wb
            · obtain rfl : r = true := by rw [HA.out]; simp
              go_wp2_with fail
              go_quiet (fail)
              go_wp2_with fail
              go_ret
              exact ⟨by first | rfl | simp, below_drewN (HB0.out.trans (HB.out.mono HB0.out.size)) _⟩
            · have HN2 := Lib.hid (show hasH ⟨ta, ti⟩ xk true (L.drop (k + 1)) = r by rw [HA.out]; simp)
              go_wp2_with fail
              go_quiet (fail)
              go_wp2_with fail
              go_roundw
              case rel => exact ⟨k + 1, by omega, by go_num, HN2.out, below_drewN HB.out _⟩
              case measure => simp [intOf]; omega
          · obtain rfl : r = true := by rw [HA.out]; simp
            go_wp2_with fail
            go_quiet (fail)
            go_wp2_with fail
            go_ret
            exact ⟨by first | rfl | simp, below_drewN (HB0.out.trans (HB.out.mono HB0.out.size)) _⟩
        · have g1 := ba_ne he2
          have g2 := ba_ne' he2
          have HN2 := Lib.hid (show hasH ⟨ta, ti⟩ key wb (L.drop (k + 1)) = r by rw [HA.out]; simp [he2])
          go_wp2_with fail
          go_quiet (fail)
          go_wp2_with fail
          go_roundw
          case rel => exact ⟨k + 1, by omega, by go_num, HN2.out, below_drewN HB.out _⟩
          case measure => simp [intOf]; omega
      · have HN2 := Lib.hid (show hasH ⟨ta, ti⟩ key wb (L.drop (k + 1)) = r by rw [HA.out, decide_eq_false he]; rfl)
        rcases tx_ne he with g | ⟨rfl, g⟩
        · go_wp2_with fail
          go_quiet (fail)
          go_wp2_with fail
          go_roundw
          case rel => exact ⟨k + 1, by omega, by go_num, HN2.out, below_drewN HB.out _⟩
          case measure => simp [intOf]; omega
        · go_wp2_with fail
          go_quiet (fail)
          go_wp2_with fail
          go_roundw
          case rel => exact ⟨k + 1, by omega, by go_num, HN2.out, below_drewN HB.out _⟩
          case measure => simp [intOf]; omega
    · have i1 : ¬ (k : Int) < (n : Int) := by omega
      obtain rfl : r = false := by rw [← HF.out, List.drop_eq_nil_of_le (by rw [HN.out]; omega)]; rfl
      clear hB
      go_wp2_with fail
      go_ret
      exact ⟨by first | rfl | simp, HB0.out.trans (HB.out.mono HB0.out.size)⟩
end Go.Proofs.Ythgnecggdlamfaa
