/- Rows and puts, in plain words: layer 11's mathematics. -/
import Derived.Handy
import Derived.Test.YthgnecggdlamfaaRd
import Derived.Deep.QuietTactic
import Derived.BigQuiet
import Derived.Deep.CutBlock
import Derived.Deep.DeepCutAuto
import Derived.Deep.RegionHeld3
namespace Go.Proofs.Ythgnecggdlamfaa

/-- A row. -/
structure Ro where
  key : ByteArray
  val : ByteArray
  ver : Nat
/-- A put. -/
structure Pu where
  key : ByteArray
  val : ByteArray
  gone : Bool
/-- Whether bytes are ahead of other ones. -/
def lessL : List UInt8 → List UInt8 → Bool
  | _, [] => false
  | [], _ :: _ => true
  | a :: r, b :: s => if a = b then lessL r s else decide (a.toNat < b.toNat)
theorem lessL_irrefl : ∀ l, lessL l l = false
  | [] => rfl
  | a :: r => by rw [lessL, if_pos rfl]; exact lessL_irrefl r
theorem lessL_trans : ∀ a b c, lessL a b = true → lessL b c = true → lessL a c = true
  | _, _, [], _, h => by rename_i b _; cases b <;> simp [lessL] at h
  | [], b, c :: t, h1, h2 => rfl
  | x :: r, [], c :: t, h1, h2 => by simp [lessL] at h1
  | x :: r, y :: s, z :: t, h1, h2 => by
    simp only [lessL] at h1 h2 ⊢
    by_cases e1 : x = y
    · subst e1
      rw [if_pos rfl] at h1
      by_cases e2 : x = z
      · subst e2
        rw [if_pos rfl] at h2 ⊢
        exact lessL_trans r s t h1 h2
      · rw [if_neg e2] at h2 ⊢
        exact h2
    · rw [if_neg e1] at h1
      have l1 := of_decide_eq_true h1
      by_cases e2 : y = z
      · subst e2
        rw [if_neg e1]; exact h1
      · rw [if_neg e2] at h2
        have l2 := of_decide_eq_true h2
        rw [if_neg (fun e => by subst e; omega)]
        exact decide_eq_true (by omega)
theorem lessL_total : ∀ a b, lessL a b = false → lessL b a = false → a = b
  | [], [], _, _ => rfl
  | [], _ :: _, h, _ => by simp [lessL] at h
  | _ :: _, [], _, h => by simp [lessL] at h
  | x :: r, y :: s, h1, h2 => by
    simp only [lessL] at h1 h2
    by_cases e : x = y
    · subst e
      rw [if_pos rfl] at h1 h2
      rw [lessL_total r s h1 h2]
    · rw [if_neg e] at h1
      rw [if_neg (fun h => e h.symm)] at h2
      have l1 := of_decide_eq_false h1
      have l2 := of_decide_eq_false h2
      exact absurd (UInt8.toNat_inj.1 (by omega)) e
theorem ba_ext {a b : ByteArray} (h : a.data.toList = b.data.toList) : a = b := by
  cases a; cases b; simp only [ByteArray.mk.injEq]; exact Array.toList_inj.1 h
/-- Whether a text is ahead of another one. -/
def lessB (a b : ByteArray) : Bool := lessL a.data.toList b.data.toList
theorem lessB_irrefl (a : ByteArray) : lessB a a = false := lessL_irrefl _
theorem lessB_trans {a b c : ByteArray} (h1 : lessB a b = true) (h2 : lessB b c = true) : lessB a c = true := lessL_trans _ _ _ h1 h2
theorem lessB_total {a b : ByteArray} (h1 : lessB a b = false) (h2 : lessB b a = false) : a = b := ba_ext (lessL_total _ _ h1 h2)
theorem lessB_ne {a b : ByteArray} (h : lessB a b = true) : a ≠ b := fun e => by subst e; rw [lessB_irrefl] at h; cases h
theorem lessB_asym {a b : ByteArray} (h : lessB a b = true) : lessB b a = false := by
  rcases h2 : lessB b a with _ | _
  · rfl
  · exact absurd (lessB_trans h h2) (by rw [lessB_irrefl]; decide)

/-- Whether a row may be. -/
def rowOk (x : Ro) : Bool := decide (1 ≤ x.key.size) && (decide (x.key.size ≤ 16) && (decide (x.val.size ≤ 32) && decide (x.ver ≤ 4611686018427387903)))
/-- Whether rows may be, and rise, behind a key. -/
def ascF : Option ByteArray → List Ro → Bool
  | _, [] => true
  | p, x :: r => rowOk x && ((match p with | none => true | some k => lessB k x.key) && ascF (some x.key) r)
/-- Whether a list is right. -/
def rightB (L : List Ro) : Bool := decide (L.length ≤ 32) && ascF none L
/-- The first row of a key. -/
def getR (k : ByteArray) : List Ro → Option Ro
  | [] => none
  | x :: r => if x.key = k then some x else getR k r
/-- Whether a put may be done. -/
def putOk (x : Pu) : Bool := decide (1 ≤ x.key.size) && (decide (x.key.size ≤ 16) && (decide (x.val.size ≤ 32) && !(x.gone && decide (0 < x.val.size))))
/-- Whether a key is among those of puts. -/
def keyIn (k : ByteArray) : List Pu → Bool
  | [] => false
  | x :: r => decide (x.key = k) || keyIn k r
/-- Whether puts may be done, behind others. -/
def fitF : List Pu → List Pu → Bool
  | _, [] => true
  | p, x :: r => putOk x && (!keyIn x.key p && fitF (p ++ [x]) r)
/-- The answer of Fits. -/
def fitsX (P : List Pu) : Nat := if 8 < P.length then 4 else if fitF [] P then 0 else 1
/-- A row in the place of the first of its key. -/
def setR (y : Ro) : List Ro → List Ro
  | [] => []
  | x :: r => if x.key = y.key then y :: r else x :: setR y r
/-- A row ahead of the first greater one. -/
def insR (y : Ro) : List Ro → List Ro
  | [] => [y]
  | x :: r => if lessB y.key x.key then y :: x :: r else x :: insR y r
/-- The rows of other keys. -/
def delR (k : ByteArray) : List Ro → List Ro
  | [] => []
  | x :: r => if x.key = k then delR k r else x :: delR k r
/-- What Do answers: rows, and an error. -/
def doR (L : List Ro) (p : Pu) (ver : Nat) : List Ro × Nat :=
  if fitsX [p] ≠ 0 then ([], fitsX [p])
  else if p.gone then (delR p.key L, 0)
  else if (getR p.key L).isSome then (setR ⟨p.key, p.val, ver⟩ L, 0)
  else if 32 ≤ L.length then ([], 5)
  else (insR ⟨p.key, p.val, ver⟩ L, 0)
/-- Puts of one kind, one behind the other. -/
def seqR (ver : Nat) : List Ro → List Pu → List Ro × Nat
  | L, [] => (L, 0)
  | L, p :: r => if (doR L p ver).2 = 0 then seqR ver (doR L p ver).1 r else ([], (doR L p ver).2)
/-- What All answers. -/
def allR (L : List Ro) (P : List Pu) (ver : Nat) : List Ro × Nat :=
  if fitsX P ≠ 0 then ([], fitsX P)
  else if (seqR ver L (P.filter fun p => p.gone)).2 = 0 then seqR ver (seqR ver L (P.filter fun p => p.gone)).1 (P.filter fun p => !p.gone)
  else ([], (seqR ver L (P.filter fun p => p.gone)).2)
theorem delR_len (k : ByteArray) : ∀ L, (delR k L).length ≤ L.length
  | [] => Nat.le_refl _
  | x :: r => by
    have := delR_len k r
    simp only [delR]; split <;> simp <;> omega
theorem setR_len (y : Ro) : ∀ L, (setR y L).length = L.length
  | [] => rfl
  | x :: r => by
    have := setR_len y r
    simp only [setR]; split <;> simp; omega
theorem insR_len (y : Ro) : ∀ L, (insR y L).length = L.length + 1
  | [] => rfl
  | x :: r => by
    have := insR_len y r
    simp only [insR]; split <;> simp; omega
theorem doR_len (L : List Ro) (p : Pu) (ver : Nat) : (doR L p ver).1.length ≤ L.length + 1 := by
  unfold doR
  split
  · simp
  split
  · have := delR_len p.key L; simp only; omega
  split
  · simp only; rw [setR_len]; omega
  split
  · simp
  · simp only; rw [insR_len]; omega
end Go.Proofs.Ythgnecggdlamfaa
/- Whether a text is ahead of another one: the document's. -/
namespace Go.Proofs.Ythgnecggdlamfaa
open Go.RowKit

theorem lessL_at {a b : List UInt8} {k : Nat} {x y : UInt8} (hx : a[k]? = some x) (hy : b[k]? = some y) : lessL (a.drop k) (b.drop k) = if x = y then lessL (a.drop (k + 1)) (b.drop (k + 1)) else decide (x.toNat < y.toNat) := by
  obtain ⟨h1, rfl⟩ := List.getElem?_eq_some_iff.1 hx
  obtain ⟨h2, rfl⟩ := List.getElem?_eq_some_iff.1 hy
  rw [List.drop_eq_getElem_cons h1, List.drop_eq_getElem_cons h2, lessL]
theorem lessL_end {a b : List UInt8} {k : Nat} (ha : k ≤ a.length) (hb : k ≤ b.length) (h : a.length ≤ k ∨ b.length ≤ k) : lessL (a.drop k) (b.drop k) = decide (a.length < b.length) := by
  rcases Nat.lt_or_ge k b.length with h1 | h1
  · have h2 : a.length = k := by omega
    rw [List.drop_eq_nil_of_le (by omega), List.drop_eq_getElem_cons h1]
    simp only [lessL]; exact (decide_eq_true (by omega)).symm
  · rw [List.drop_eq_nil_of_le h1]
    have : lessL (a.drop k) [] = false := by cases a.drop k <;> rfl
    rw [this]; exact (decide_eq_false (by omega)).symm
set_option maxHeartbeats 1000000 in
theorem rLess_any (a b : ByteArray) (ha : a.size ≤ 140737488351232) (_ : b.size ≤ 140737488351232) (w : World) :
    Calls Try.prog 55 #[.string a, .string b] w fun e w' => e = .returned (.bool (lessB a b)) ∧ ∃ q, w' = w.drewN q := by
  obtain ⟨r, hr⟩ : ∃ r, lessB a b = r := ⟨_, rfl⟩
  rw [hr]
  have HR := Lib.hid hr
  have hal : a.data.toList.length = a.size := by simp
  have hbl : b.data.toList.length = b.size := by simp
  have HAL := Lib.hid hal
  have HBL := Lib.hid hbl
  clear hr hal hbl
  go_enter Try.func55, Try.ntmps55
  go_wp2_with fail
  go_loopw [5] (fun u wr => ∃ k q : Nat, k ≤ a.size ∧ k ≤ b.size ∧ u = .int .i64 k ∧ lessL (a.data.toList.drop k) (b.data.toList.drop k) = r ∧ wr = w.drewN q) (fun u _ => a.size - (intOf u).toNat)
  case atStart => exact ⟨0, 0, Nat.zero_le _, Nat.zero_le _, rfl, HR.out, rfl⟩
  case round =>
    obtain ⟨k, q, hk1, hk2, rfl, hl, hq⟩ := hrel
    have HL := Lib.hid hl
    have HQ := Lib.hid hq
    clear hl hq
    by_cases h1 : k < a.size
    · have g1 : (k : Int) < (a.size : Int) := by omega
      by_cases h2 : k < b.size
      · have g2 : (k : Int) < (b.size : Int) := by omega
        obtain ⟨x, hx⟩ : ∃ x, a.data.toList[k]? = some x := ⟨_, List.getElem?_eq_getElem (by rw [HAL.out]; exact h1)⟩
        obtain ⟨y, hy⟩ : ∃ y, b.data.toList[k]? = some y := ⟨_, List.getElem?_eq_getElem (by rw [HBL.out]; exact h2)⟩
        have ex : a[k] = x := by
          have := (List.getElem?_eq_some_iff.1 hx).2
          rw [← this]; simp; rfl
        have ey : b[k] = y := by
          have := (List.getElem?_eq_some_iff.1 hy).2
          rw [← this]; simp; rfl
        obtain ⟨x0, hx0, xa, xb⟩ : ∃ z : Int, (x.toNat : Int) = z ∧ 0 ≤ z ∧ z < 256 := ⟨_, rfl, by omega, by have := x.toNat_lt; omega⟩
        obtain ⟨y0, hy0, ya, yb⟩ : ∃ z : Int, (y.toNat : Int) = z ∧ 0 ≤ z ∧ z < 256 := ⟨_, rfl, by omega, by have := y.toNat_lt; omega⟩
        have f1 : (a[k].toNat : Int) = x0 := by rw [ex]; exact hx0
        have f2 : (b[k].toNat : Int) = y0 := by rw [ey]; exact hy0
        have HA := Lib.hid (HL.out.symm.trans (lessL_at hx hy))
        have HE := Lib.hid (show x = y ↔ x0 = y0 from ⟨fun e => by rw [← hx0, ← hy0, e], fun e => UInt8.toNat_inj.1 (by omega)⟩)
        have HD := Lib.hid (show decide (x.toNat < y.toNat) = decide (x0 < y0) by rw [decide_eq_decide]; omega)
        clear hx hy ex ey hx0 hy0
        by_cases he : x0 = y0
        · have HN := Lib.hid (show lessL (a.data.toList.drop (k + 1)) (b.data.toList.drop (k + 1)) = r by rw [HA.out, if_pos (HE.out.2 he)])
          subst he
          go_wp2_with fail
          go_quiet (fail)
          go_wp2_with fail
          go_roundw
          case rel => exact ⟨k + 1, q + nq, by omega, by omega, by go_num, HN.out, by rw [HQ.out, World.drewN_drewN]⟩
          case measure => simp [intOf]; omega
        · have HN := Lib.hid (show r = decide (x0 < y0) by rw [HA.out, if_neg (fun e => he (HE.out.1 e)), HD.out])
          have g3 : (x0 == y0) = false := by simpa using he
          go_wp2_with fail
          go_quiet (fail)
          go_wp2_with fail
          go_quiet (fail)
          go_wp2_with fail
          go_ret
          exact ⟨by rw [HN.out]; first | rfl | simp, _, by rw [HQ.out, World.drewN_drewN, World.drewN_drewN]⟩
      · have g2 : ¬ (k : Int) < (b.size : Int) := by omega
        have HN := Lib.hid (show r = decide ((a.size : Int) < (b.size : Int)) by rw [HL.out.symm.trans (lessL_end (by rw [HAL.out]; omega) (by rw [HBL.out]; omega) (.inr (by rw [HBL.out]; omega))), HAL.out, HBL.out, decide_eq_decide]; omega)
        go_wp2_with fail
        go_ret
        exact ⟨by rw [HN.out]; first | rfl | simp, _, HQ.out⟩
    · have g1 : ¬ (k : Int) < (a.size : Int) := by omega
      have HN := Lib.hid (show r = decide ((a.size : Int) < (b.size : Int)) by rw [HL.out.symm.trans (lessL_end (by rw [HAL.out]; omega) (by rw [HBL.out]; omega) (.inl (by rw [HAL.out]; omega))), HAL.out, HBL.out, decide_eq_decide]; omega)
      go_wp2_with fail
      go_ret
      exact ⟨by rw [HN.out]; first | rfl | simp, _, HQ.out⟩
end Go.Proofs.Ythgnecggdlamfaa
/- Which lists are right, a key's row, which puts may be done: the document's. -/
namespace Go.Proofs.Ythgnecggdlamfaa
open Go.RowKit

def roC (x : Ro) : List Value := [.string x.key, .string x.val, .int .u64 (x.ver : Nat)]
def puC (x : Pu) : List Value := [.string x.key, .string x.val, .bool x.gone]
/-- Rows in memory, puts in memory. -/
abbrev Ros (w : World) (a : Option Addr) (L : List Ro) : Prop := Rw 3 roC w a L
abbrev Pus (w : World) (a : Option Addr) (L : List Pu) : Prop := Rw 3 puC w a L
theorem Ros.cells {w : World} {a : Option Addr} {L : List Ro} (h : Ros w a L) {k : Nat} {x : Ro} (hx : L[k]? = some x) : ∃ b off, a = some ⟨b, off, none⟩ ∧ b < w.heap.size ∧ w.cell? ⟨b, off + k * 3, none⟩ = some (.string x.key) ∧ w.cell? ⟨b, off + k * 3 + 1, none⟩ = some (.string x.val) ∧ w.cell? ⟨b, off + k * 3 + 2, none⟩ = some (.int .u64 (x.ver : Nat)) := by
  obtain ⟨b, off, e, hb, c⟩ := h k x hx
  exact ⟨b, off, e, hb, c 0 _ rfl, c 1 _ rfl, c 2 _ rfl⟩
theorem Pus.cells {w : World} {a : Option Addr} {L : List Pu} (h : Pus w a L) {k : Nat} {x : Pu} (hx : L[k]? = some x) : ∃ b off, a = some ⟨b, off, none⟩ ∧ b < w.heap.size ∧ w.cell? ⟨b, off + k * 3, none⟩ = some (.string x.key) ∧ w.cell? ⟨b, off + k * 3 + 1, none⟩ = some (.string x.val) ∧ w.cell? ⟨b, off + k * 3 + 2, none⟩ = some (.bool x.gone) := by
  obtain ⟨b, off, e, hb, c⟩ := h k x hx
  exact ⟨b, off, e, hb, c 0 _ rfl, c 1 _ rfl, c 2 _ rfl⟩
/-- No text is too long. -/
def smallR (L : List Ro) : Prop := ∀ x ∈ L, x.key.size ≤ 140737488351232 ∧ x.val.size ≤ 140737488351232
def smallP (L : List Pu) : Prop := ∀ x ∈ L, x.key.size ≤ 140737488351232 ∧ x.val.size ≤ 140737488351232
theorem smallR.at {L : List Ro} (h : smallR L) {k : Nat} {x : Ro} (hx : L[k]? = some x) : x.key.size ≤ 140737488351232 ∧ x.val.size ≤ 140737488351232 := h x (List.mem_of_getElem? hx)
theorem smallP.at {L : List Pu} (h : smallP L) {k : Nat} {x : Pu} (hx : L[k]? = some x) : x.key.size ≤ 140737488351232 ∧ x.val.size ≤ 140737488351232 := h x (List.mem_of_getElem? hx)
/-- The key ahead. -/
def prevR (L : List Ro) (k : Nat) : Option ByteArray := if k = 0 then none else (L[k - 1]?).map (·.key)
theorem prevR_succ {L : List Ro} {k : Nat} {x : Ro} (hx : L[k]? = some x) : prevR L (k + 1) = some x.key := by simp [prevR, hx]
theorem ascF_at {L : List Ro} {k : Nat} {x : Ro} (p : Option ByteArray) (hx : L[k]? = some x) : ascF p (L.drop k) = (rowOk x && ((match p with | none => true | some q => lessB q x.key) && ascF (some x.key) (L.drop (k + 1)))) := by
  obtain ⟨hk, rfl⟩ := List.getElem?_eq_some_iff.1 hx
  rw [List.drop_eq_getElem_cons hk]; rfl
/-- A quiet call of Less. -/
theorem rLess_q (a b : ByteArray) (r : Bool) (hr : lessB a b = r) (ha : a.size ≤ 140737488351232) (hb : b.size ≤ 140737488351232) (w : World) :
    Calls Try.prog 55 #[.string a, .string b] w fun e w' => e = .returned (.bool r) ∧ ∃ q, w' = w.drewN q := by
  subst hr; exact rLess_any a b ha hb w
set_option maxHeartbeats 4000000 in
theorem rRight_any (n c : Nat) (a : Option Addr) (L : List Ro) (hn : L.length = n) (hl : n ≤ 140737488351232) (hs : smallR L) (w : World) (hM : Ros w a L) :
    Calls Try.prog 28 #[.slice a n c] w fun e w' => e = .returned (.bool (rightB L)) ∧ Below w.heap.size w w' := by
  have HN := Lib.hid hn
  have HM := Lib.hid hM
  have HS := Lib.hid hs
  by_cases h32 : 32 < n
  · have g : (32 : Int) < (n : Int) := by omega
    have HR := Lib.hid (show rightB L = false by unfold rightB; rw [hn, decide_eq_false (by omega)]; rfl)
    clear hn hM hs
    go_enter Try.func28, Try.ntmps28
    go_wp2_with fail
    go_ret
    exact ⟨by rw [HR.out]; first | rfl | simp, Below.refl _ _⟩
  have g : ¬ (32 : Int) < (n : Int) := by omega
  obtain ⟨r, hr⟩ : ∃ r, rightB L = r := ⟨_, rfl⟩
  have hra : ascF none L = r := by rw [← hr]; unfold rightB; rw [hn, decide_eq_true (by omega)]; rfl
  rw [hr]
  have HR := Lib.hid hra
  clear hn hM hs hr hra
  go_enter Try.func28, Try.ntmps28
  go_wp2_with fail
  go_loopw [3] (fun u wr => ∃ k : Nat, k ≤ n ∧ u = .int .i64 k ∧ ascF (prevR L k) (L.drop k) = r ∧ Below w.heap.size w wr) (fun u _ => n - (intOf u).toNat)
  case atStart => exact ⟨0, Nat.zero_le _, rfl, HR.out, Below.refl _ _⟩
  case round =>
    obtain ⟨k, hk, rfl, hf, hB⟩ := hrel
    have HF := Lib.hid hf
    have HB := Lib.hid hB
    clear hf
    by_cases hlt : k < n
    · obtain ⟨x, hx⟩ : ∃ x, L[k]? = some x := ⟨_, List.getElem?_eq_getElem (by rw [HN.out]; exact hlt)⟩
      have i0 : (0 : Int) ≤ (k : Int) := by omega
      have i1 : (k : Int) < (n : Int) := by omega
      have HA := Lib.hid (HF.out.symm.trans (ascF_at (prevR L k) hx))
      have HPS := Lib.hid (prevR_succ hx)
      obtain ⟨s1, s2⟩ := HS.out.at hx
      obtain ⟨b, off, rfl, hb, p0, p1, p2⟩ := Ros.cells (HM.out.later hB) hx
      have HBW := Lib.hid hB
      have HB1 := Lib.hid (show Below w.heap.size w (wr.alloc (.cells #[.string x.key, .string x.val, .int .u64 (x.ver : Nat)] 50)) from hB.alloc hB.size _)
      clear hB hx
      obtain ⟨xk, xv, xn⟩ := x
      simp only at p0 p1 p2 s1 s2 HA HPS HB1
      by_cases h1 : 1 ≤ xk.size
      case neg =>
        have g1 : (xk.size : Int) < 1 := by omega
        obtain rfl : r = false := by rw [HA.out, rowOk, decide_eq_false h1]; rfl
        go_wp2_with fail
        go_ret
        exact ⟨by first | rfl | simp, HB1.out⟩
      have g1 : ¬ (xk.size : Int) < 1 := by omega
      by_cases h2 : xk.size ≤ 16
      case neg =>
        have g2 : (16 : Int) < (xk.size : Int) := by omega
        obtain rfl : r = false := by rw [HA.out, rowOk, decide_eq_true h1, decide_eq_false h2]; rfl
        go_wp2_with fail
        go_ret
        exact ⟨by first | rfl | simp, HB1.out⟩
      have g2 : ¬ (16 : Int) < (xk.size : Int) := by omega
      by_cases h3 : xv.size ≤ 32
      case neg =>
        have g3 : (32 : Int) < (xv.size : Int) := by omega
        obtain rfl : r = false := by rw [HA.out, rowOk, decide_eq_true h1, decide_eq_true h2, decide_eq_false h3]; rfl
        go_wp2_with fail
        go_ret
        exact ⟨by first | rfl | simp, HB1.out⟩
      have g3 : ¬ (32 : Int) < (xv.size : Int) := by omega
      by_cases h4 : xn ≤ 4611686018427387903
      case neg =>
        have g4 : (4611686018427387903 : Int) < (xn : Int) := by omega
        obtain rfl : r = false := by rw [HA.out, rowOk, decide_eq_true h1, decide_eq_true h2, decide_eq_true h3, decide_eq_false h4]; rfl
        go_wp2_with fail
        go_ret
        exact ⟨by first | rfl | simp, HB1.out⟩
      have g4 : ¬ (4611686018427387903 : Int) < (xn : Int) := by omega
      have HA2 := Lib.hid (show r = ((match prevR L k with | none => true | some q => lessB q xk) && ascF (some xk) (L.drop (k + 1))) by rw [HA.out, rowOk, decide_eq_true h1, decide_eq_true h2, decide_eq_true h3, decide_eq_true h4]; rfl)
      clear HA h1 h2 h3 h4
      by_cases hk0 : k = 0
      · have gk0 : ¬ (0 : Int) < (k : Int) := by omega
        have gk1 : decide (0 < k) = false := by simp; omega
        have HN2 := Lib.hid (show ascF (prevR L (k + 1)) (L.drop (k + 1)) = r by rw [HPS.out, HA2.out, show prevR L k = none from if_pos hk0]; rfl)
        clear hk0
        go_wp2_with fail
        go_quiet (fail)
        go_wp2_with fail
        go_roundw
        case rel => exact ⟨k + 1, by omega, by go_num, HN2.out, below_drewN HB1.out _⟩
        case measure => simp [intOf]; omega
      · have gk : (0 : Int) < (k : Int) := by omega
        obtain ⟨j, hj⟩ : ∃ j, k - 1 = j := ⟨_, rfl⟩
        have gj : (k : Int) - 1 = (j : Int) := by omega
        have gw : IntKind.i64.wrap ((k : Int) - 1) = (j : Int) := by rw [gj]; exact IntWalk.i64_in _ (by omega)
        have gw2 : IntKind.i64.wrap (j : Int) = (j : Int) := IntWalk.i64_in _ (by omega)
        obtain ⟨y, hy⟩ : ∃ y, L[j]? = some y := ⟨_, List.getElem?_eq_getElem (by rw [HN.out]; omega)⟩
        have hpv : prevR L k = some y.key := by unfold prevR; rw [if_neg hk0, hj, hy]; rfl
        obtain ⟨s3, _⟩ := HS.out.at hy
        obtain ⟨b', off', e', hb', q0, _, _⟩ := Ros.cells (HM.out.later HBW.out) hy
        cases e'
        obtain ⟨d, hd⟩ : ∃ d, lessB y.key xk = d := ⟨_, rfl⟩
        have HA3 := Lib.hid (show r = (d && ascF (some xk) (L.drop (k + 1))) by rw [HA2.out, hpv]; simp only; rw [hd])
        have HLS := Lib.hid (fun w' => rLess_q y.key xk d hd s3 s1 w')
        have j0 : (0 : Int) ≤ (j : Int) := by omega
        have j1 : (j : Int) < (n : Int) := by omega
        clear hy hpv hd hj hk0 HA2
        have gk1 : decide (0 < k) = true := by simp; omega
        cases d
        · obtain rfl : r = false := HA3.out
          go_wp2_with fail
          go_quiet ((go_at_call 55; exact Calls.quiet_of (HLS.out _)))
          go_wp2_with fail
          go_ret
          exact ⟨by first | rfl | simp, below_drewN HB1.out _⟩
        · have HN2 := Lib.hid (show ascF (prevR L (k + 1)) (L.drop (k + 1)) = r by rw [HPS.out, HA3.out]; rfl)
          go_wp2_with fail
          go_quiet ((go_at_call 55; exact Calls.quiet_of (HLS.out _)))
          go_wp2_with fail
          go_roundw
          case rel => exact ⟨k + 1, by omega, by go_num, HN2.out, below_drewN HB1.out _⟩
          case measure => simp [intOf]; omega
    · have i1 : ¬ (k : Int) < (n : Int) := by omega
      obtain rfl : r = true := by rw [← HF.out, List.drop_eq_nil_of_le (by rw [HN.out]; omega)]; cases prevR L k <;> rfl
      go_wp2_with fail
      go_ret
      exact ⟨by first | rfl | simp, HB.out⟩
end Go.Proofs.Ythgnecggdlamfaa
