/- Rows of locks, of transactions, that are laid; the locks of others: the document's. -/
import Derived.Test.YthgnecggdlamfaaVd
namespace Go.Proofs.Ythgnecggdlamfaa
open Go.RowKit

theorem hoT : RowT 23 75 4 40 (.agg #[.string ⟨#[]⟩, .int .u64 0, .int .u64 0, .bool false]) hoC where
  und := Try.underlying23
  info := by kernel_rfl
  zs := by decide
  kp := by decide
  bp := by decide
  len _ := rfl
  one x u hu := by
    simp only [hoC, List.mem_cons, List.not_mem_nil, or_false] at hu
    rcases hu with rfl | rfl | rfl | rfl <;> rfl
theorem txT : RowT 83 30 2 16 (.agg #[.int .u64 0, .int .u64 0]) txC where
  und := Try.underlying83
  info := by kernel_rfl
  zs := by decide
  kp := by decide
  bp := by decide
  len _ := rfl
  one x u hu := by
    simp only [txC, List.mem_cons, List.not_mem_nil, or_false] at hu
    rcases hu with rfl | rfl <;> rfl
/-- Rows that are being laid. -/
abbrev CqH (B : Nat) (w : World) (v : Value) (L : List Ho) : Prop := Cq 75 4 hoC B w v L
abbrev CqX (B : Nat) (w : World) (v : Value) (L : List Tx) : Prop := Cq 30 2 txC B w v L
/-- append(rows, one). -/
theorem appH (B : Nat) (w : World) (v : Value) (L : List Ho) (h : CqH B w v L) (x : Ho) (hl : (L.length + 1) * 40 ≤ 140737488355328) (hB : B ≤ w.heap.size) :
    ∃ a' c' w', (Builtin.append_ #[23, 23] 23 #[v, .slice (some ⟨w.heap.size, 0, none⟩) 1 1]).run Try.prog (w.alloc (.cells #[.string x.key, .int .u64 (x.t.age : Nat), .int .u64 (x.t.id : Nat), .bool x.wr] 75)) = .ok (.slice a' (L.length + 1) c') w' ∧ CqH B w' (.slice a' (L.length + 1) c') (L ++ [x]) ∧ Below B w w' := by
  have B1 : Below w.heap.size w (w.alloc (.cells #[.string x.key, .int .u64 (x.t.age : Nat), .int .u64 (x.t.id : Nat), .bool x.wr] 75)) := (Below.refl _ _).alloc (Nat.le_refl _) _
  obtain ⟨v', w', hr, hc, hb⟩ := app_rw hoT B _ 23 v L (h.later B1) (some ⟨w.heap.size, 0, none⟩) 1 1 [x] rfl (rw_one (f := hoC) w rfl x rfl 75) hl (Nat.le_trans hB B1.size)
  obtain ⟨a', c', rfl, _⟩ := hc.form hoT
  rw [List.length_append, List.length_singleton] at hr hc
  exact ⟨a', c', w', hr, hc, (B1.mono hB).trans hb⟩
theorem appX (B : Nat) (w : World) (v : Value) (L : List Tx) (h : CqX B w v L) (x : Tx) (hl : (L.length + 1) * 16 ≤ 140737488355328) (hB : B ≤ w.heap.size) :
    ∃ a' c' w', (Builtin.append_ #[83, 83] 83 #[v, .slice (some ⟨w.heap.size, 0, none⟩) 1 1]).run Try.prog (w.alloc (.cells #[.int .u64 (x.age : Nat), .int .u64 (x.id : Nat)] 30)) = .ok (.slice a' (L.length + 1) c') w' ∧ CqX B w' (.slice a' (L.length + 1) c') (L ++ [x]) ∧ Below B w w' := by
  have B1 : Below w.heap.size w (w.alloc (.cells #[.int .u64 (x.age : Nat), .int .u64 (x.id : Nat)] 30)) := (Below.refl _ _).alloc (Nat.le_refl _) _
  obtain ⟨v', w', hr, hc, hb⟩ := app_rw txT B _ 83 v L (h.later B1) (some ⟨w.heap.size, 0, none⟩) 1 1 [x] rfl (rw_one (f := txC) w rfl x rfl 30) hl (Nat.le_trans hB B1.size)
  obtain ⟨a', c', rfl, _⟩ := hc.form txT
  rw [List.length_append, List.length_singleton] at hr hc
  exact ⟨a', c', w', hr, hc, (B1.mono hB).trans hb⟩
theorem dropH_at {t : Tx} {L : List Ho} {k : Nat} {x : Ho} (hx : L[k]? = some x) : dropH t (L.take (k + 1)) = dropH t (L.take k) ++ if x.t = t then [] else [x] := by
  have h1 : L.take (k + 1) = L.take k ++ [x] := by rw [List.take_add_one, hx]; rfl
  rw [h1]; unfold dropH
  rw [List.filter_append]
  by_cases h : x.t = t <;> simp [h]
/-- Locks that a call answers, in memory. -/
def HoP (w : World) (M : List Ho) (e : Ending) (w' : World) : Prop := ∃ (a : Option Addr) (c : Nat), e = .returned (.slice a M.length c) ∧ Hos w' a M ∧ M.length ≤ c ∧ c ≤ maxLen ∧ Below w.heap.size w w'
set_option maxHeartbeats 4000000 in
theorem rDrop_any (n c : Nat) (a : Option Addr) (L : List Ho) (t : Tx) (hn : L.length = n) (hl : n * 40 ≤ 140737488351232) (w : World) (hM : Hos w a L) :
    Calls Try.prog 54 #[.slice a n c, txV t] w (HoP w (dropH t L)) := by
  obtain ⟨ta, ti⟩ := t
  have HN := Lib.hid hn
  have HL := Lib.hid (show ∀ k, (dropH ⟨ta, ti⟩ (L.take k)).length ≤ n from fun k => Nat.le_trans (dropH_len _ _) (by rw [List.length_take]; omega))
  have HPost := Lib.hid (fun (a' : Option Addr) (c' : Nat) (w' : World) (h : CqH w.heap.size w' (.slice a' (dropH ⟨ta, ti⟩ L).length c') (dropH ⟨ta, ti⟩ L)) (hb : Below w.heap.size w w') => (show HoP w (dropH ⟨ta, ti⟩ L) (.returned (.slice a' (dropH ⟨ta, ti⟩ L).length c')) w' from by
    obtain ⟨a2, c2, e, hR, _, h1, h2⟩ := h.form hoT
    cases e
    exact ⟨a', c', rfl, hR, h1, h2, hb⟩))
  obtain ⟨W, hW⟩ : ∃ W, w.alloc (.cells #[.int .u64 (ta : Nat), .int .u64 (ti : Nat)] 30) = W := ⟨_, rfl⟩
  obtain ⟨hB, hX⟩ := txbox hW
  have HM := Lib.hid (hM.later hB)
  have HB0 := Lib.hid hB
  obtain ⟨x0, hx0⟩ : ∃ x, w.heap.size = x := ⟨_, rfl⟩
  rw [hx0] at hX
  have HX := Lib.hid hX
  have HW := Lib.hid hW
  have HX0 := Lib.hid hx0
  clear hn hM hW hB hX hx0
  go_enter Try.func54, Try.ntmps54
  go_wp2_with fail
  rw [HW.out, HX0.out]
  go_loopw [5, 6] (fun ov iv wr => ∃ (k : Nat) (a' : Option Addr) (c' : Nat), k ≤ n ∧ iv = .int .i64 k ∧ ov = .slice a' (dropH ⟨ta, ti⟩ (L.take k)).length c' ∧ CqH W.heap.size wr (.slice a' (dropH ⟨ta, ti⟩ (L.take k)).length c') (dropH ⟨ta, ti⟩ (L.take k)) ∧ Below W.heap.size W wr) (fun _ iv _ => n - (intOf iv).toNat)
  case atStart => exact ⟨0, none, 0, Nat.zero_le _, rfl, rfl, Cq.nil _ _ _, Below.refl _ _⟩
  case round =>
    obtain ⟨k, a', c', hk, rfl, rfl, hC, hB⟩ := hrel
    have HC := Lib.hid hC
    have HB := Lib.hid hB
    obtain ⟨O, hO⟩ : ∃ O, dropH ⟨ta, ti⟩ (L.take k) = O := ⟨_, rfl⟩
    have hOl := HL.out k
    rw [hO] at HC hOl ⊢
    clear hC
    by_cases hlt : k < n
    · obtain ⟨x, hx⟩ : ∃ x, L[k]? = some x := ⟨_, List.getElem?_eq_getElem (by rw [HN.out]; exact hlt)⟩
      have i0 : (0 : Int) ≤ (k : Int) := by omega
      have i1 : (k : Int) < (n : Int) := by omega
      have hA := dropH_at (t := ⟨ta, ti⟩) hx
      rw [hO] at hA
      have HA := Lib.hid hA
      obtain ⟨b, off, rfl, hb, p0, p1, p2, p3⟩ := Hos.cells (HM.out.later hB) hx
      obtain ⟨_, q0, q1⟩ := HX.out.later hB
      obtain ⟨xk, ⟨xa, xi⟩, xw⟩ := x
      simp only at p0 p1 p2 p3 HA q0 q1
      clear hx hA hO
      have hnext : ¬ (⟨xa, xi⟩ : Tx) = ⟨ta, ti⟩ → ∀ nq, Hid (∃ a6 c6 w6, (Builtin.append_ #[23, 23] 23 #[.slice a' O.length c', .slice (some ⟨(wr.drewN nq).heap.size, 0, none⟩) 1 1]).run Try.prog ((wr.drewN nq).alloc (.cells #[.string xk, .int .u64 (xa : Nat), .int .u64 (xi : Nat), .bool xw] 75)) = .ok (.slice a6 (O.length + 1) c6) w6 ∧ CqH W.heap.size w6 (.slice a6 (dropH ⟨ta, ti⟩ (L.take (k + 1))).length c6) (dropH ⟨ta, ti⟩ (L.take (k + 1))) ∧ (dropH ⟨ta, ti⟩ (L.take (k + 1))).length = O.length + 1 ∧ Below W.heap.size W w6) := fun he nq => Lib.hid (by
        have b4 : Below wr.heap.size wr (wr.drewN nq) := below_drewN (Below.refl _ _) _
        obtain ⟨a6, c6, w6, h1, h2, h3⟩ := appH W.heap.size (wr.drewN nq) _ O (HC.out.later b4) ⟨xk, ⟨xa, xi⟩, xw⟩ (by omega) (Nat.le_trans HB.out.size b4.size)
        have e : dropH ⟨ta, ti⟩ (L.take (k + 1)) = O ++ [⟨xk, ⟨xa, xi⟩, xw⟩] := by rw [HA.out, if_neg he]
        have e2 : (dropH ⟨ta, ti⟩ (L.take (k + 1))).length = O.length + 1 := by rw [e]; simp
        exact ⟨a6, c6, w6, h1, by rw [e2, e]; exact h2, e2, HB.out.trans ((b4.mono HB.out.size).trans h3)⟩)
      have hcell : ∀ nq, Hid ((wr.drewN nq).cell? ⟨b, off + k * 4, none⟩ = some (.string xk) ∧ (wr.drewN nq).cell? ⟨b, off + k * 4 + 1, none⟩ = some (.int .u64 (xa : Nat)) ∧ (wr.drewN nq).cell? ⟨b, off + k * 4 + 2, none⟩ = some (.int .u64 (xi : Nat)) ∧ (wr.drewN nq).cell? ⟨b, off + k * 4 + 3, none⟩ = some (.bool xw)) := fun nq => Lib.hid (by
        have b4 : Below wr.heap.size wr (wr.drewN nq) := below_drewN (Below.refl _ _) _
        exact ⟨(b4.cell (p := ⟨b, off + k * 4, none⟩) hb).trans p0, (b4.cell (p := ⟨b, off + k * 4 + 1, none⟩) hb).trans p1, (b4.cell (p := ⟨b, off + k * 4 + 2, none⟩) hb).trans p2, (b4.cell (p := ⟨b, off + k * 4 + 3, none⟩) hb).trans p3⟩)
      clear hB
      by_cases he : (⟨xa, xi⟩ : Tx) = ⟨ta, ti⟩
      · have HE := Lib.hid (show dropH ⟨ta, ti⟩ (L.take (k + 1)) = O by rw [HA.out, if_pos he]; simp)
        cases he
        clear hnext hcell
        go_wp2_with fail
        go_quiet (fail)
        go_wp2_with fail
        go_roundw
        case rel => exact ⟨k + 1, a', c', by omega, by go_num, by rw [HE.out], by rw [HE.out]; exact HC.out.later (below_drewN (Below.refl _ _) _), below_drewN HB.out _⟩
        case measure => simp [intOf]; omega
      · have hnext := hnext he
        rcases tx_ne he with g | ⟨rfl, g⟩
        · go_wp2_with fail
          go_quiet (fail)
          obtain ⟨a6, c6, w6, hr6, hc6, hl6, hb6⟩ := (hnext nq).out
          obtain ⟨s0, s1, s2, s3⟩ := (hcell nq).out
          generalize wr.drewN nq = wv at hr6 s0 s1 s2 s3 ⊢
          have HR6 := Lib.hid hr6
          have HC6 := Lib.hid hc6
          have HB6 := Lib.hid hb6
          have HL6 := Lib.hid hl6
          clear hr6 hc6 hb6 hl6 hnext hcell
          go_wp2_with (at_builtin; refine Lib.wpList_append_run _ rfl _ _ 23 23 rfl _ (.slice (some ⟨wv.heap.size, 0, none⟩) 1 1) rfl rfl _ _ HR6.out ?_)
          go_roundw
          case rel => exact ⟨k + 1, a6, c6, by omega, by go_num, by rw [HL6.out], HC6.out, HB6.out⟩
          case measure => simp [intOf]; omega
        · go_wp2_with fail
          go_quiet (fail)
          obtain ⟨a6, c6, w6, hr6, hc6, hl6, hb6⟩ := (hnext nq).out
          obtain ⟨s0, s1, s2, s3⟩ := (hcell nq).out
          generalize wr.drewN nq = wv at hr6 s0 s1 s2 s3 ⊢
          have HR6 := Lib.hid hr6
          have HC6 := Lib.hid hc6
          have HB6 := Lib.hid hb6
          have HL6 := Lib.hid hl6
          clear hr6 hc6 hb6 hl6 hnext hcell
          go_wp2_with (at_builtin; refine Lib.wpList_append_run _ rfl _ _ 23 23 rfl _ (.slice (some ⟨wv.heap.size, 0, none⟩) 1 1) rfl rfl _ _ HR6.out ?_)
          go_roundw
          case rel => exact ⟨k + 1, a6, c6, by omega, by go_num, by rw [HL6.out], HC6.out, HB6.out⟩
          case measure => simp [intOf]; omega
    · have i1 : ¬ (k : Int) < (n : Int) := by omega
      have e : L.take k = L := List.take_of_length_le (by rw [HN.out]; omega)
      rw [e] at hO
      subst hO
      have HF := Lib.hid (HPost.out a' c' wr (HC.out.mono HB0.out.size) (HB0.out.trans (HB.out.mono HB0.out.size)))
      clear hB
      go_wp2_with fail
      go_ret
      exact HF.out
end Go.Proofs.Ythgnecggdlamfaa
/- Which lists are right: the document's. -/
namespace Go.Proofs.Ythgnecggdlamfaa
open Go.RowKit

theorem besH_at {x : Ho} {i : Nat} {L : List Ho} {k : Nat} {y : Ho} (hy : L[k]? = some y) : besH x i k (L.drop k) = if inW y x.t x.key x.wr = true ∨ (i ≠ k ∧ x.t = y.t ∧ x.key = y.key) then false else besH x i (k + 1) (L.drop (k + 1)) := by
  obtain ⟨hk, rfl⟩ := List.getElem?_eq_some_iff.1 hy
  rw [List.drop_eq_getElem_cons hk]; rfl
theorem rightF_at {L : List Ho} {i : Nat} {x : Ho} (hx : L[i]? = some x) : rightF L i (L.drop i) = if besH x i 0 L then rightF L (i + 1) (L.drop (i + 1)) else false := by
  obtain ⟨hk, rfl⟩ := List.getElem?_eq_some_iff.1 hx
  rw [List.drop_eq_getElem_cons hk]; rfl
theorem keepR {w0 w w' : World} {b p q : Nat} {v0 v1 v2 v3 u0 u1 u2 u3 : Value} (h : w.cell? ⟨b, p, none⟩ = some v0 ∧ w.cell? ⟨b, p + 1, none⟩ = some v1 ∧ w.cell? ⟨b, p + 2, none⟩ = some v2 ∧ w.cell? ⟨b, p + 3, none⟩ = some v3 ∧ w.cell? ⟨b, q, none⟩ = some u0 ∧ w.cell? ⟨b, q + 1, none⟩ = some u1 ∧ w.cell? ⟨b, q + 2, none⟩ = some u2 ∧ w.cell? ⟨b, q + 3, none⟩ = some u3 ∧ b < w.heap.size ∧ Below w0.heap.size w0 w) (hb : Below w.heap.size w w') :
    w'.cell? ⟨b, p, none⟩ = some v0 ∧ w'.cell? ⟨b, p + 1, none⟩ = some v1 ∧ w'.cell? ⟨b, p + 2, none⟩ = some v2 ∧ w'.cell? ⟨b, p + 3, none⟩ = some v3 ∧ w'.cell? ⟨b, q, none⟩ = some u0 ∧ w'.cell? ⟨b, q + 1, none⟩ = some u1 ∧ w'.cell? ⟨b, q + 2, none⟩ = some u2 ∧ w'.cell? ⟨b, q + 3, none⟩ = some u3 ∧ b < w'.heap.size ∧ Below w0.heap.size w0 w' := by
  obtain ⟨a0, a1, a2, a3, c0, c1, c2, c3, hl, hB⟩ := h
  have f : ∀ j v, w.cell? ⟨b, j, none⟩ = some v → w'.cell? ⟨b, j, none⟩ = some v := fun j v e => (hb.cell (p := ⟨b, j, none⟩) hl).trans e
  exact ⟨f _ _ a0, f _ _ a1, f _ _ a2, f _ _ a3, f _ _ c0, f _ _ c1, f _ _ c2, f _ _ c3, Nat.lt_of_lt_of_le hl hb.size, hB.trans (hb.mono hB.size)⟩
set_option maxRecDepth 100000 in
set_option maxHeartbeats 4000000 in
theorem rRightH_any (n c : Nat) (a : Option Addr) (L : List Ho) (hn : L.length = n) (hl : n ≤ 140737488351232) (w : World) (hM : Hos w a L) :
    Calls Try.prog 29 #[.slice a n c] w fun e w' => e = .returned (.bool (rightH L)) ∧ Below w.heap.size w w' := by
  obtain ⟨r, hr⟩ : ∃ r, rightH L = r := ⟨_, rfl⟩
  rw [hr]
  have HN := Lib.hid hn
  have HM := Lib.hid hM
  have HR := Lib.hid (show rightF L 0 (L.drop 0) = r from hr)
  clear hn hM hr
  go_enter Try.func29, Try.ntmps29
  go_wp2_with fail
  go_loopw [3] (fun u wr => ∃ i : Nat, i ≤ n ∧ u = .int .i64 i ∧ rightF L i (L.drop i) = r ∧ Below w.heap.size w wr) (fun u _ => n - (intOf u).toNat)
  case atStart => exact ⟨0, Nat.zero_le _, rfl, HR.out, Below.refl _ _⟩
  case round =>
    obtain ⟨i, hi, rfl, hf, hB⟩ := hrel
    have HF := Lib.hid hf
    have HB := Lib.hid hB
    clear hf
    by_cases hlt : i < n
    case neg =>
      have i1 : ¬ (i : Int) < (n : Int) := by omega
      obtain rfl : r = true := by rw [← HF.out, List.drop_eq_nil_of_le (by rw [HN.out]; omega)]; rfl
      clear hB
      go_wp2_with fail
      go_ret
      exact ⟨by first | rfl | simp, HB.out⟩
    have HLT := Lib.hid hlt
    obtain ⟨x, hx⟩ : ∃ x, L[i]? = some x := ⟨_, List.getElem?_eq_getElem (by rw [HN.out]; exact hlt)⟩
    have i0 : (0 : Int) ≤ (i : Int) := by omega
    have i1 : (i : Int) < (n : Int) := by omega
    have hA := HF.out.symm.trans (rightF_at hx)
    obtain ⟨d, hd⟩ : ∃ d, besH x i 0 L = d := ⟨_, rfl⟩
    rw [hd] at hA
    have HA := Lib.hid hA
    have HD := Lib.hid (show besH x i 0 (L.drop 0) = d from hd)
    have HX := Lib.hid hx
    clear hA hd hB hx
    go_wp2_with fail
    go_loopw [4] (fun u wy => ∃ k : Nat, k ≤ n ∧ u = .int .i64 k ∧ besH x i k (L.drop k) = d ∧ Below w.heap.size w wy) (fun u _ => n - (intOf u).toNat)
    case atStart => exact ⟨0, Nat.zero_le _, rfl, HD.out, HB.out⟩
    case round =>
      obtain ⟨k, hk, rfl, hf, hB⟩ := hrel
      have HF2 := Lib.hid hf
      have HB2 := Lib.hid hB
      clear hf
      by_cases hlt2 : k < n
      case neg =>
        have k1 : ¬ (k : Int) < (n : Int) := by omega
        obtain rfl : d = true := by rw [← HF2.out, List.drop_eq_nil_of_le (by rw [HN.out]; omega)]; rfl
        have HN2 := Lib.hid (show rightF L (i + 1) (L.drop (i + 1)) = r by rw [HA.out]; rfl)
        clear hB
        go_wp2_with fail
        go_roundw
        case rel => exact ⟨i + 1, HLT.out, by go_num, HN2.out, HB2.out⟩
        case measure => have := HLT.out; simp [intOf]; omega
      have HLT2 := Lib.hid hlt2
      obtain ⟨y, hy⟩ : ∃ y, L[k]? = some y := ⟨_, List.getElem?_eq_getElem (by rw [HN.out]; exact hlt2)⟩
      have k0 : (0 : Int) ≤ (k : Int) := by omega
      have k1 : (k : Int) < (n : Int) := by omega
      have HA2 := Lib.hid (HF2.out.symm.trans (besH_at (x := x) (i := i) hy))
      obtain ⟨b, off, e1, hb, p0, p1, p2, p3⟩ := Hos.cells (HM.out.later hB) hy
      obtain ⟨b', off', e2, hb', q0, q1, q2, q3⟩ := Hos.cells (HM.out.later hB) HX.out
      rw [e1] at e2
      cases e2
      subst e1
      obtain ⟨xk, ⟨xa, xi⟩, xw⟩ := x
      obtain ⟨yk, ⟨ya, yi⟩, yw⟩ := y
      simp only at p0 p1 p2 p3 q0 q1 q2 q3 HA2
      have C := Lib.hid (fun w' => rWay_any ⟨yk, ⟨ya, yi⟩, yw⟩ ⟨xa, xi⟩ xk xw w')
      obtain ⟨z, hz⟩ : ∃ z, inW ⟨yk, ⟨ya, yi⟩, yw⟩ ⟨xa, xi⟩ xk xw = z := ⟨_, rfl⟩
      rw [hz] at C HA2
      have S0 := Lib.hid (And.intro p0 (And.intro p1 (And.intro p2 (And.intro p3 (And.intro q0 (And.intro q1 (And.intro q2 (And.intro q3 (And.intro hb hB)))))))))
      clear hB hy hz p0 p1 p2 p3 q0 q1 q2 q3 hb hb'
      go_wp2_with fail
      go_upto_region 7 with (fail)
      have S1 := keepR S0.out (Below.refl _ _).drew
      clear S0
      go_region_held3 (fun w' => w'.cell? ⟨b, off + k * 4, none⟩ = some (.string yk) ∧ w'.cell? ⟨b, off + k * 4 + 1, none⟩ = some (.int .u64 (ya : Nat)) ∧ w'.cell? ⟨b, off + k * 4 + 2, none⟩ = some (.int .u64 (yi : Nat)) ∧ w'.cell? ⟨b, off + k * 4 + 3, none⟩ = some (.bool yw) ∧ w'.cell? ⟨b, off + i * 4, none⟩ = some (.string xk) ∧ w'.cell? ⟨b, off + i * 4 + 1, none⟩ = some (.int .u64 (xa : Nat)) ∧ w'.cell? ⟨b, off + i * 4 + 2, none⟩ = some (.int .u64 (xi : Nat)) ∧ w'.cell? ⟨b, off + i * 4 + 3, none⟩ = some (.bool xw) ∧ b < w'.heap.size ∧ Below w.heap.size w w')
        (first | (with_reducible assumption) | go_keep)
        (first
          | (go_at_call 56; (with_reducible refine (C.out _).mono ?_); rintro e2 w2 ⟨rfl, hb2⟩; have S2 := keepR S1 hb2))
      all_goals
        have HS2 := Lib.hid S2
        clear S1 S2 hb2 C
        obtain ⟨p0, p1, p2, p3, q0, q1, q2, q3, _, hB3⟩ := HS2.out
        have HB3 := Lib.hid hB3
        clear hB3 HS2
        cases z
        case true =>
          obtain rfl : d = false := by rw [HA2.out, if_pos (.inl rfl)]
          obtain rfl : r = false := HA.out
          go_wp2_with fail
          go_quiet (fail)
          go_wp2_with fail
          go_ret
          exact ⟨by first | rfl | simp, below_drewN HB3.out _⟩
        by_cases hik : i = k
        · have HNX := Lib.hid (show besH ⟨xk, ⟨xa, xi⟩, xw⟩ i (k + 1) (L.drop (k + 1)) = d by rw [HA2.out, if_neg (by intro h; rcases h with h | h; cases h; exact h.1 hik)])
          have g : ((i : Int) == (k : Int)) = true := by simp; omega
          have gn : ((i : Int) != (k : Int)) = false := by simp; omega
          go_wp2_with fail
          go_quiet (fail)
          go_wp2_with fail
          go_roundw
          case rel => exact ⟨k + 1, HLT2.out, by go_num, HNX.out, below_drewN HB3.out _⟩
          case measure => have := HLT2.out; simp [intOf]; omega
        have g := int_ne hik
        have gn : ((i : Int) != (k : Int)) = true := by simp; omega
        by_cases he : (⟨xa, xi⟩ : Tx) = ⟨ya, yi⟩
        · by_cases he2 : xk = yk
          · obtain rfl : d = false := by rw [HA2.out, if_pos (.inr ⟨hik, he, he2⟩)]
            obtain rfl : r = false := HA.out
            cases he
            subst he2
            go_wp2_with fail
            go_quiet (fail)
            go_wp2_with fail
            go_ret
            exact ⟨by first | rfl | simp, below_drewN HB3.out _⟩
          · have HNX := Lib.hid (show besH ⟨xk, ⟨xa, xi⟩, xw⟩ i (k + 1) (L.drop (k + 1)) = d by rw [HA2.out, if_neg (by intro h; rcases h with h | h; cases h; exact he2 h.2.2)])
            have g1 := ba_ne he2
            have g2 := ba_ne' he2
            cases he
            go_wp2_with fail
            go_quiet (fail)
            go_wp2_with fail
            go_roundw
            case rel => exact ⟨k + 1, HLT2.out, by go_num, HNX.out, below_drewN HB3.out _⟩
            case measure => have := HLT2.out; simp [intOf]; omega
        · have HNX := Lib.hid (show besH ⟨xk, ⟨xa, xi⟩, xw⟩ i (k + 1) (L.drop (k + 1)) = d by rw [HA2.out, if_neg (by intro h; rcases h with h | h; cases h; exact he h.2.1)])
          rcases tx_ne he with g3 | ⟨e3, g3⟩
          · go_wp2_with fail
            go_quiet (fail)
            go_wp2_with fail
            go_roundw
            case rel => exact ⟨k + 1, HLT2.out, by go_num, HNX.out, below_drewN HB3.out _⟩
            case measure => have := HLT2.out; simp [intOf]; omega
          · subst e3
            go_wp2_with fail
            go_quiet (fail)
            go_wp2_with fail
            go_roundw
            case rel => exact ⟨k + 1, HLT2.out, by go_num, HNX.out, below_drewN HB3.out _⟩
            case measure => have := HLT2.out; simp [intOf]; omega
end Go.Proofs.Ythgnecggdlamfaa
