/- One put, step by step: the mathematics of Do. -/
import Derived.Test.YthgnecggdlamfaaUk
import Derived.Test.YthgnecggdlamfaaUd
import Derived.Test.YthgnecggdlamfaaVd
namespace Go.Proofs.Ythgnecggdlamfaa

theorem snoc_ind {α : Type} {p : List α → Prop} (L : List α) (h0 : p []) (h1 : ∀ M x, p M → p (M ++ [x])) : p L := by
  have h : ∀ n, p (L.take n) := fun n => by
    induction n with
    | zero => simpa using h0
    | succ n ih =>
      rcases Nat.lt_or_ge n L.length with hn | hn
      · rw [List.take_succ_eq_append_getElem hn]; exact h1 _ _ ih
      · rw [List.take_of_length_le (by omega)]; rw [List.take_of_length_le hn] at ih; exact ih
  have := h L.length
  rwa [List.take_length] at this
/-- What one row makes of what is laid, and of whether the put is done. -/
def stepF (y : Ro) (is gone : Bool) (s : List Ro × Bool) (x : Ro) : List Ro × Bool :=
  if x.key = y.key then (if gone then s else if s.2 then (s.1 ++ [x], s.2) else (s.1 ++ [y], true))
  else if !is && (!s.2 && lessB y.key x.key) then (s.1 ++ [y] ++ [x], true) else (s.1 ++ [x], s.2)
def foldF (y : Ro) (is gone : Bool) (L : List Ro) : List Ro × Bool := L.foldl (stepF y is gone) ([], gone)
def endF (y : Ro) (s : List Ro × Bool) : List Ro := if s.2 then s.1 else s.1 ++ [y]
theorem foldF_snoc (y : Ro) (is gone : Bool) (L : List Ro) (x : Ro) : foldF y is gone (L ++ [x]) = stepF y is gone (foldF y is gone L) x := by simp [foldF]
theorem delR_snoc (k : ByteArray) (x : Ro) : ∀ M, delR k (M ++ [x]) = delR k M ++ if x.key = k then [] else [x]
  | [] => by simp [delR]
  | z :: r => by
    simp only [List.cons_append, delR, delR_snoc k x r]
    split <;> simp
theorem getR_snoc (k : ByteArray) (x : Ro) : ∀ M, getR k (M ++ [x]) = if (getR k M).isSome then getR k M else if x.key = k then some x else none
  | [] => by simp [getR]
  | z :: r => by
    simp only [List.cons_append, getR]
    split
    · rfl
    · exact getR_snoc k x r
theorem setR_none (y : Ro) : ∀ M, getR y.key M = none → setR y M = M
  | [], _ => rfl
  | z :: r, h => by
    have hz := (getR_none_iff y.key (z :: r)).1 h z (by simp)
    have hr : getR y.key r = none := by simpa [getR, hz] using h
    simp only [setR, if_neg hz, setR_none y r hr]
theorem setR_snoc (y x : Ro) : ∀ M, setR y (M ++ [x]) = if (getR y.key M).isSome then setR y M ++ [x] else M ++ [if x.key = y.key then y else x]
  | [] => by simp only [List.nil_append, setR, getR]; split <;> simp
  | z :: r => by
    simp only [List.cons_append, setR, getR]
    by_cases h : z.key = y.key
    · simp [h]
    · simp only [if_neg h, setR_snoc y x r]
      split <;> simp
theorem insR_any (y : Ro) : ∀ M, (M.any fun x => lessB y.key x.key) = false → insR y M = M ++ [y]
  | [], _ => rfl
  | z :: r, h => by
    simp only [List.any_cons, Bool.or_eq_false_iff] at h
    simp only [insR, h.1, insR_any y r h.2]; simp
theorem insR_snoc (y x : Ro) : ∀ M, (M.any fun x => lessB y.key x.key) = true → insR y (M ++ [x]) = insR y M ++ [x]
  | [], h => by simp at h
  | z :: r, h => by
    simp only [List.cons_append, insR]
    split
    · simp
    · rename_i hz
      simp only [List.any_cons, Bool.or_eq_true] at h
      rcases h with h | h
      · exact absurd h hz
      · rw [insR_snoc y x r h]; simp
/-- Gone. -/
theorem fold_gone (y : Ro) (is : Bool) (L : List Ro) : foldF y is true L = (delR y.key L, true) := by
  refine snoc_ind (p := fun L => foldF y is true L = (delR y.key L, true)) L rfl fun M x ih => ?_
  rw [foldF_snoc, ih, delR_snoc]
  unfold stepF
  by_cases h : x.key = y.key
  · simp [h]
  · simp [h]
/-- Found, and set. -/
theorem fold_set (y : Ro) (L : List Ro) : foldF y true false L = (setR y L, (getR y.key L).isSome) := by
  refine snoc_ind (p := fun L => foldF y true false L = (setR y L, (getR y.key L).isSome)) L rfl fun M x ih => ?_
  rw [foldF_snoc, ih, setR_snoc, getR_snoc]
  unfold stepF
  by_cases h : x.key = y.key
  · rcases hg : getR y.key M with _ | z
    · simp [h, setR_none y M hg]
    · simp [h]
  · rcases hg : getR y.key M with _ | z
    · simp [h, setR_none y M hg]
    · simp [h]
/-- Not found, and put in its place. -/
theorem fold_ins (y : Ro) (L : List Ro) : (∀ x ∈ L, x.key ≠ y.key) → foldF y false false L = (if (L.any fun x => lessB y.key x.key) then insR y L else L, L.any fun x => lessB y.key x.key) := by
  refine snoc_ind (p := fun L => (∀ x ∈ L, x.key ≠ y.key) → foldF y false false L = (if (L.any fun x => lessB y.key x.key) then insR y L else L, L.any fun x => lessB y.key x.key)) L (fun _ => rfl) fun M x ih h => ?_
  have hx : x.key ≠ y.key := h x (by simp)
  rw [foldF_snoc, ih (fun z hz => h z (by simp [hz]))]
  unfold stepF
  rw [if_neg hx]
  rcases ha : M.any fun x => lessB y.key x.key with _ | _
  · rcases hl : lessB y.key x.key with _ | _
    · simp [ha, hl]
    · have h1 : insR y (M ++ [x]) = M ++ [y] ++ [x] := by
        clear ih h
        induction M with
        | nil => simp [insR, hl]
        | cons z r ihr =>
          simp only [List.any_cons, Bool.or_eq_false_iff] at ha
          simp only [List.cons_append, insR, ha.1]
          simp [ihr ha.2]
      simp [ha, hl, h1]
  · simp [ha, insR_snoc y x M ha]
/-- What Do answers, by steps. -/
theorem do_steps (L : List Ro) (p : Pu) (ver : Nat) (h0 : fitsX [p] = 0) (h1 : ¬ ((getR p.key L).isSome = false ∧ p.gone = false ∧ 32 ≤ L.length)) :
    doR L p ver = (endF ⟨p.key, p.val, ver⟩ (foldF ⟨p.key, p.val, ver⟩ (getR p.key L).isSome p.gone L), 0) := by
  unfold doR
  rw [if_neg (by omega)]
  rcases hg : p.gone with _ | _
  · rw [if_neg (by decide)]
    rcases hs : (getR p.key L).isSome with _ | _
    · rw [if_neg (by decide), if_neg (fun h => h1 ⟨hs, hg, h⟩), fold_ins _ _ ((getR_none_iff p.key L).1 (by simpa using hs))]
      rcases ha : L.any fun x => lessB p.key x.key with _ | _
      · rw [insR_any _ _ ha]; simp [endF]
      · simp [endF]
    · rw [if_pos rfl, fold_set]; simp [endF, hs]
  · rw [if_pos rfl, fold_gone]; simp [endF]
theorem stepF_len (y : Ro) (is gone : Bool) (s : List Ro × Bool) (x : Ro) : (stepF y is gone s x).1.length + (if (stepF y is gone s x).2 then 0 else 1) ≤ s.1.length + (if s.2 then 0 else 1) + 1 := by
  unfold stepF
  rcases s with ⟨O, d⟩
  rcases d with _ | _ <;> (repeat' split) <;> simp_all <;> omega
theorem foldF_len (y : Ro) (is gone : Bool) (L : List Ro) : (foldF y is gone L).1.length + (if (foldF y is gone L).2 then 0 else 1) ≤ L.length + (if gone then 0 else 1) := by
  refine snoc_ind (p := fun L => (foldF y is gone L).1.length + (if (foldF y is gone L).2 then 0 else 1) ≤ L.length + (if gone then 0 else 1)) L (by simp only [foldF, List.foldl_nil, List.length_nil]; exact Nat.le_refl _) fun M x ih => ?_
  rw [foldF_snoc]
  have := stepF_len y is gone (foldF y is gone M) x
  rw [List.length_append, List.length_singleton]
  omega
end Go.Proofs.Ythgnecggdlamfaa
/- One put: the document's Do; whether lists are the same. -/
namespace Go.Proofs.Ythgnecggdlamfaa
open Go.RowKit

theorem roT : RowT 22 50 3 40 (.agg #[.string ⟨#[]⟩, .string ⟨#[]⟩, .int .u64 0]) roC where
  und := Try.underlying22
  info := by kernel_rfl
  zs := by decide
  kp := by decide
  bp := by decide
  len _ := rfl
  one x u hu := by
    simp only [roC, List.mem_cons, List.not_mem_nil, or_false] at hu
    rcases hu with rfl | rfl | rfl <;> rfl
theorem puT : RowT 31 54 3 40 (.agg #[.string ⟨#[]⟩, .string ⟨#[]⟩, .bool false]) puC where
  und := Try.underlying31
  info := by kernel_rfl
  zs := by decide
  kp := by decide
  bp := by decide
  len _ := rfl
  one x u hu := by
    simp only [puC, List.mem_cons, List.not_mem_nil, or_false] at hu
    rcases hu with rfl | rfl | rfl <;> rfl
/-- Rows that are being laid. -/
abbrev CqR (B : Nat) (w : World) (v : Value) (L : List Ro) : Prop := Cq 50 3 roC B w v L
/-- append(rows, one). -/
theorem appR (B : Nat) (w : World) (v : Value) (L : List Ro) (h : CqR B w v L) (x : Ro) (hl : (L.length + 1) * 40 ≤ 140737488355328) (hB : B ≤ w.heap.size) :
    ∃ a' c' w', (Builtin.append_ #[22, 22] 22 #[v, .slice (some ⟨w.heap.size, 0, none⟩) 1 1]).run Try.prog (w.alloc (.cells #[.string x.key, .string x.val, .int .u64 (x.ver : Nat)] 50)) = .ok (.slice a' (L.length + 1) c') w' ∧ CqR B w' (.slice a' (L.length + 1) c') (L ++ [x]) ∧ Below B w w' := by
  have B1 : Below w.heap.size w (w.alloc (.cells #[.string x.key, .string x.val, .int .u64 (x.ver : Nat)] 50)) := (Below.refl _ _).alloc (Nat.le_refl _) _
  obtain ⟨v', w', hr, hc, hb⟩ := app_rw roT B _ 22 v L (h.later B1) (some ⟨w.heap.size, 0, none⟩) 1 1 [x] rfl (rw_one (f := roC) w rfl x rfl 50) hl (Nat.le_trans hB B1.size)
  obtain ⟨a', c', rfl, _⟩ := hc.form roT
  rw [List.length_append, List.length_singleton] at hr hc
  exact ⟨a', c', w', hr, hc, (B1.mono hB).trans hb⟩
set_option maxHeartbeats 1000000 in
theorem rSameR_any (n c c2 : Nat) (a a2 : Option Addr) (L : List Ro) (hn : L.length = n) (hl : n ≤ 140737488351232) (w : World) (h1 : Ros w a L) (h2 : Ros w a2 L) :
    Calls Try.prog 16 #[.slice a n c, .slice a2 n c2] w fun e w' => e = .returned (.bool true) ∧ Below w.heap.size w w' := by
  have HN := Lib.hid hn
  have H1 := Lib.hid h1
  have H2 := Lib.hid h2
  have HW := Lib.hid (Below.refl w.heap.size w)
  clear hn h1 h2
  go_enter Try.func16, Try.ntmps16
  go_wp2_with fail
  go_loopw [5] (fun u wr => ∃ k : Nat, k ≤ n ∧ u = .int .i64 k ∧ Below w.heap.size w wr) (fun u _ => n - (intOf u).toNat)
  case atStart => exact ⟨0, Nat.zero_le _, rfl, HW.out⟩
  case round =>
    obtain ⟨k, hk, rfl, hB⟩ := hrel
    have HB := Lib.hid hB
    by_cases hlt : k < n
    · obtain ⟨x, hx⟩ : ∃ x, L[k]? = some x := ⟨_, List.getElem?_eq_getElem (by rw [HN.out]; exact hlt)⟩
      have i0 : (0 : Int) ≤ (k : Int) := by omega
      have i1 : (k : Int) < (n : Int) := by omega
      obtain ⟨b, off, rfl, hb, p0, p1, p2⟩ := Ros.cells (H1.out.later hB) hx
      obtain ⟨b2, off2, rfl, hb2, q0, q1, q2⟩ := Ros.cells (H2.out.later hB) hx
      obtain ⟨xk, xv, xn⟩ := x
      simp only at p0 p1 p2 q0 q1 q2
      clear hx hB
      go_wp2_with fail
      go_quiet (fail)
      go_wp2_with fail
      go_roundw
      case rel => exact ⟨k + 1, by omega, by go_num, below_drewN HB.out _⟩
      case measure => simp [intOf]; omega
    · clear hB
      go_wp2_with fail
      go_ret
      exact ⟨by first | rfl | simp, HB.out⟩
end Go.Proofs.Ythgnecggdlamfaa
/- Keys, values, puts that may be; the closures of place, with, without: the program's. -/
namespace Go.Proofs.Ythgnecggdlamfaa
open Go.RowKit

theorem toL_data (b : ByteArray) : b.toList = b.data.toList := ByteArray.toList_eq b
theorem bytesLess_lessL : ∀ a b, Op.bytesLess a b = lessL a b
  | _, [] => by simp [Op.bytesLess, lessL]
  | [], _ :: _ => rfl
  | x :: r, y :: s => by
    rw [Op.bytesLess, lessL, bytesLess_lessL r s]
    by_cases h : x = y
    · subst h; simp
    · rw [if_neg h]
      have h2 : (x == y) = false := by simpa using h
      rw [h2, Bool.false_and, Bool.or_false]
      simp [UInt8.lt_iff_toNat_lt]
theorem less_any (a b : ByteArray) : Op.bytesLess a.toList b.toList = lessB a b := by
  rw [toL_data, toL_data, bytesLess_lessL]; rfl
def keyOk (k : ByteArray) : Bool := decide (1 ≤ k.size) && decide (k.size ≤ 16)
set_option maxHeartbeats 1000000 in
theorem mayKey_any (k : ByteArray) (b : Bool) (hb : keyOk k = b) (hk : k.size ≤ 140737488351232) (w : World) :
    Calls Try.prog 97 #[.string k] w fun e w' => e = .returned (.bool b) ∧ ∃ q, w' = w.drewN q := by
  have HB := Lib.hid hb
  clear hb
  by_cases h1 : 1 ≤ k.size
  · have g1 : (1 : Int) ≤ (k.size : Int) := by omega
    by_cases h2 : k.size ≤ 16
    · have g2 : (k.size : Int) ≤ 16 := by omega
      obtain rfl : b = true := by rw [← HB.out, keyOk, decide_eq_true h1, decide_eq_true h2]; rfl
      go_enter Try.func97, Try.ntmps97
      go_wp2_with fail
      go_ret
      exact ⟨by first | rfl | simp, 0, rfl⟩
    · have g2 : ¬ (k.size : Int) ≤ 16 := by omega
      obtain rfl : b = false := by rw [← HB.out, keyOk, decide_eq_false h2, Bool.and_false]
      go_enter Try.func97, Try.ntmps97
      go_wp2_with fail
      go_ret
      exact ⟨by first | rfl | simp, 0, rfl⟩
  · have g1 : ¬ (1 : Int) ≤ (k.size : Int) := by omega
    obtain rfl : b = false := by rw [← HB.out, keyOk, decide_eq_false h1]; rfl
    go_enter Try.func97, Try.ntmps97
    go_wp2_with fail
    go_ret
    exact ⟨by first | rfl | simp, 0, rfl⟩
theorem mayVal_any (k : ByteArray) (b : Bool) (hb : decide (k.size ≤ 32) = b) (hk : k.size ≤ 140737488351232) (w : World) :
    Calls Try.prog 98 #[.string k] w fun e w' => e = .returned (.bool b) ∧ ∃ q, w' = w.drewN q := by
  have HB := Lib.hid hb
  clear hb
  by_cases h2 : k.size ≤ 32
  · have g2 : (k.size : Int) ≤ 32 := by omega
    obtain rfl : b = true := by rw [← HB.out, decide_eq_true h2]
    go_enter Try.func98, Try.ntmps98
    go_wp2_with fail
    go_ret
    exact ⟨by first | rfl | simp, 0, rfl⟩
  · have g2 : ¬ (k.size : Int) ≤ 32 := by omega
    obtain rfl : b = false := by rw [← HB.out, decide_eq_false h2]
    go_enter Try.func98, Try.ntmps98
    go_wp2_with fail
    go_ret
    exact ⟨by first | rfl | simp, 0, rfl⟩
/-- A key in a box. -/
structure Kb (w : World) (h : Nat) (k : ByteArray) : Prop where
  c : w.cell? ⟨h, 0, none⟩ = some (.string k)
  lt : h < w.heap.size
theorem Kb.later {w w' : World} {h : Nat} {k : ByteArray} (H : Kb w h k) (hb : Below w.heap.size w w') : Kb w' h k := ⟨(hb.cell (p := ⟨h, 0, none⟩) H.lt).trans H.c, Nat.lt_of_lt_of_le H.lt hb.size⟩
theorem Kb.grown {w w' : World} {h g : Nat} {k : ByteArray} (H : Kb w h k) (hg : w.grownBy w' (some g)) (hne : h ≠ g) : Kb w' h k := ⟨(World.cell?_of_block (a := ⟨h, 0, none⟩) (hg.block h H.lt (by simpa using hne))).trans H.c, Nat.lt_of_lt_of_le H.lt hg.size⟩
set_option maxHeartbeats 1000000 in
theorem place1_any (x : Ro) (h : Nat) (key : ByteArray) (w : World) (H : Kb w h key) :
    Calls Try.prog 87 #[roV x, .pointer (some ⟨h, 0, none⟩)] w fun e w' => e = .returned (.bool (decide (x.key = key))) ∧ Below w.heap.size w w' := by
  obtain ⟨xk, xv, xn⟩ := x
  have B1 : Below w.heap.size w (w.alloc (.cells #[.string xk, .string xv, .int .u64 (xn : Nat)] 50)) := (Below.refl _ _).alloc (Nat.le_refl _) _
  obtain ⟨c, lt⟩ := H.later B1
  have HB := Lib.hid B1
  clear H B1
  unfold roV
  by_cases he : xk = key
  · subst he
    rw [decide_eq_true rfl]
    go_enter Try.func87, Try.ntmps87
    go_wp2_with fail
    go_ret
    exact ⟨by first | rfl | simp, HB.out⟩
  · rw [decide_eq_false he]
    have g1 := ba_ne he
    have g1' := ba_ne' he
    go_enter Try.func87, Try.ntmps87
    go_wp2_with fail
    go_ret
    exact ⟨by first | rfl | simp, HB.out⟩
set_option maxHeartbeats 1000000 in
theorem without1_any (x : Ro) (h : Nat) (key : ByteArray) (w : World) (H : Kb w h key) :
    Calls Try.prog 103 #[roV x, .pointer (some ⟨h, 0, none⟩)] w fun e w' => e = .returned (.bool (decide (x.key = key))) ∧ Below w.heap.size w w' := by
  obtain ⟨xk, xv, xn⟩ := x
  have B1 : Below w.heap.size w (w.alloc (.cells #[.string xk, .string xv, .int .u64 (xn : Nat)] 50)) := (Below.refl _ _).alloc (Nat.le_refl _) _
  obtain ⟨c, lt⟩ := H.later B1
  have HB := Lib.hid B1
  clear H B1
  unfold roV
  by_cases he : xk = key
  · subst he
    rw [decide_eq_true rfl]
    go_enter Try.func103, Try.ntmps103
    go_wp2_with fail
    go_ret
    exact ⟨by first | rfl | simp, HB.out⟩
  · rw [decide_eq_false he]
    have g1 := ba_ne he
    have g1' := ba_ne' he
    go_enter Try.func103, Try.ntmps103
    go_wp2_with fail
    go_ret
    exact ⟨by first | rfl | simp, HB.out⟩
set_option maxHeartbeats 1000000 in
theorem with1_any (x : Ro) (h : Nat) (key : ByteArray) (w : World) (H : Kb w h key) :
    Calls Try.prog 104 #[roV x, .pointer (some ⟨h, 0, none⟩)] w fun e w' => e = .returned (.bool (lessB key x.key)) ∧ Below w.heap.size w w' := by
  obtain ⟨xk, xv, xn⟩ := x
  have B1 : Below w.heap.size w (w.alloc (.cells #[.string xk, .string xv, .int .u64 (xn : Nat)] 50)) := (Below.refl _ _).alloc (Nat.le_refl _) _
  obtain ⟨c, lt⟩ := H.later B1
  have HB := Lib.hid B1
  clear H B1
  unfold roV
  by_cases he : xk = key
  · subst he
    have gl : Op.bytesLess xk.toList xk.toList = false := by rw [less_any, lessB_irrefl]
    simp only
    rw [lessB_irrefl]
    go_enter Try.func104, Try.ntmps104
    go_wp2_with fail
    go_ret
    exact ⟨by first | rfl | simp, HB.out⟩
  · have g1 := ba_ne he
    have g1' := ba_ne' he
    obtain ⟨d, hd⟩ : ∃ d, lessB key xk = d := ⟨_, rfl⟩
    have gl : Op.bytesLess xk.toList key.toList = !d := by
      rw [less_any]
      cases d
      · rcases h : lessB xk key with _ | _
        · exact absurd (lessB_total h hd) he
        · rfl
      · exact lessB_asym hd
    simp only
    rw [hd]
    clear hd
    go_enter Try.func104, Try.ntmps104
    go_wp2_with fail
    go_ret
    exact ⟨by first | rfl | (simp; done) | (cases d <;> rfl), HB.out⟩
set_option maxHeartbeats 1000000 in
theorem mayPut_any (p : Pu) (b : Bool) (hb : putOk p = b) (hk : p.key.size ≤ 140737488351232) (hv : p.val.size ≤ 140737488351232) (w : World) :
    Calls Try.prog 88 #[puV p] w fun e w' => e = .returned (.bool b) ∧ Below w.heap.size w w' := by
  obtain ⟨pk, pv, pg⟩ := p
  simp only at hk hv
  have HB := Lib.hid ((Below.refl w.heap.size w).alloc (Nat.le_refl _) (.cells #[.string pk, .string pv, .bool pg] 54))
  have HP := Lib.hid (show (keyOk pk && (decide (pv.size ≤ 32) && !(pg && decide (0 < pv.size)))) = b by rw [← hb]; simp only [putOk, keyOk, Bool.and_assoc])
  clear hb
  unfold puV
  obtain ⟨k1, h1⟩ : ∃ k1, keyOk pk = k1 := ⟨_, rfl⟩
  obtain ⟨k2, h2⟩ : ∃ k2, decide (pv.size ≤ 32) = k2 := ⟨_, rfl⟩
  have HK := Lib.hid (fun w' => mayKey_any pk k1 h1 hk w')
  have HV := Lib.hid (fun w' => mayVal_any pv k2 h2 hv w')
  rw [h1, h2] at HP
  clear h1 h2
  have fin : ∀ (q : Nat) (W : World), Below w.heap.size w W → Below w.heap.size w (W.drewN q) := fun q W h => below_drewN h q
  cases k1
  · obtain rfl : b = false := HP.out.symm
    go_enter Try.func88, Try.ntmps88
    go_wp2_with fail
    refine (HK.out _).mono ?_
    rintro e w1 ⟨rfl, q1, rfl⟩
    go_wp2_with fail
    go_ret
    exact ⟨by first | rfl | simp, fin _ _ HB.out⟩
  cases k2
  · obtain rfl : b = false := HP.out.symm
    go_enter Try.func88, Try.ntmps88
    go_wp2_with fail
    refine (HK.out _).mono ?_
    rintro e w1 ⟨rfl, q1, rfl⟩
    go_wp2_with fail
    refine (HV.out _).mono ?_
    rintro e w2 ⟨rfl, q2, rfl⟩
    go_wp2_with fail
    go_ret
    exact ⟨by first | rfl | simp, fin _ _ HB.out⟩
  cases pg
  · obtain rfl : b = true := HP.out.symm
    go_enter Try.func88, Try.ntmps88
    go_wp2_with fail
    refine (HK.out _).mono ?_
    rintro e w1 ⟨rfl, q1, rfl⟩
    go_wp2_with fail
    refine (HV.out _).mono ?_
    rintro e w2 ⟨rfl, q2, rfl⟩
    go_wp2_with fail
    go_ret
    exact ⟨by first | rfl | simp, fin _ _ HB.out⟩
  · by_cases hz : pv = ⟨#[]⟩
    · subst hz
      obtain rfl : b = true := by rw [← HP.out]; rfl
      go_enter Try.func88, Try.ntmps88
      go_wp2_with fail
      refine (HK.out _).mono ?_
      rintro e w1 ⟨rfl, q1, rfl⟩
      go_wp2_with fail
      refine (HV.out _).mono ?_
      rintro e w2 ⟨rfl, q2, rfl⟩
      go_wp2_with fail
      go_ret
      exact ⟨by first | rfl | simp, fin _ _ HB.out⟩
    · have hs : 0 < pv.size := by
        rcases Nat.eq_zero_or_pos pv.size with h | h
        · exact absurd (ByteArray.size_eq_zero_iff.1 h) hz
        · exact h
      obtain rfl : b = false := by rw [← HP.out, decide_eq_true hs]; rfl
      clear HP
      have g2 : ¬ pv.toList = [] := fun h => by
        rw [toL_data] at h
        have h3 : pv.data.toList.length = pv.size := Array.length_toList
        rw [h, List.length_nil] at h3; omega
      have g1 := ba_ne hz
      have g1' := ba_ne' hz
      clear hz
      go_enter Try.func88, Try.ntmps88
      go_wp2_with fail
      refine (HK.out _).mono ?_
      rintro e w1 ⟨rfl, q1, rfl⟩
      go_wp2_with fail
      refine (HV.out _).mono ?_
      rintro e w2 ⟨rfl, q2, rfl⟩
      go_wp2_with fail
      go_ret
      exact ⟨by first | rfl | (simp [g2]; done), fin _ _ HB.out⟩
end Go.Proofs.Ythgnecggdlamfaa
