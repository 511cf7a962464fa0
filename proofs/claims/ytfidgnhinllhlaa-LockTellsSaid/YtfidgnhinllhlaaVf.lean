/- Which lists are right: the document's. -/
import Derived.Test.YtfidgnhinllhlaaVe
namespace Go.Proofs.Ytfidgnhinllhlaa
open Go.RowKit

theorem besH_at {x : Ho} {i : Nat} {L : List Ho} {k : Nat} {y : Ho} (hy : L[k]? = some y) : besH x i k (L.drop k) = if inW y x.t x.key x.wr = true ∨ (i ≠ k ∧ x.t = y.t ∧ x.key = y.key) then false else besH x i (k + 1) (L.drop (k + 1)) := by
  obtain ⟨hk, rfl⟩ := List.getElem?_eq_some_iff.1 hy
  rw [List.drop_eq_getElem_cons hk]; rfl
theorem rightF_at {L : List Ho} {i : Nat} {x : Ho} (hx : L[i]? = some x) : rightF L i (L.drop i) = if besH x i 0 L then rightF L (i + 1) (L.drop (i + 1)) else false := by
  obtain ⟨hk, rfl⟩ := List.getElem?_eq_some_iff.1 hx
  rw [List.drop_eq_getElem_cons hk]; rfl
theorem keepR {w0 w w' : World} {b p q : Nat} {v0 v1 v2 v3 u0 u1 u2 u3 : Value} (h : w.cell? ⟨b, p, none⟩ = some v0 ∧ w.cell? ⟨b, p + 1, none⟩ = some v1 ∧ w.cell? ⟨b, p + 2, none⟩ = some v2 ∧ w.cell? ⟨b, p + 3, none⟩ = some v3 ∧ w.cell? ⟨b, q, none⟩ = some u0 ∧ w.cell? ⟨b, q + 1, none⟩ = some u1 ∧ w.cell? ⟨b, q + 2, none⟩ = some u2 ∧ w.cell? ⟨b, q + 3, none⟩ = some u3 ∧ b < w.heap.size ∧ Below w0.heap.size w0 w) (hb : Below w.heap.size w w') :
    w'.cell? ⟨b, p, none⟩ = some v0 ∧ w'.cell? ⟨b, p + 1, none⟩ = some v1 ∧ w'.cell? ⟨b, p + 2, none⟩ = some v2 ∧ w'.cell? ⟨b, p + 3, none⟩ = some v3 ∧ w'.cell? ⟨b, q, none⟩ = some u0 ∧ w'.cell? ⟨b, q + 1, none⟩ = some u1 ∧ w'.cell? ⟨b, q + 2, none⟩ = some u2 ∧ w'.cell? ⟨b, q + 3, none⟩ = some u3 ∧ b < w'.heap.size ∧ Below w0.heap.size w0 w' := by
  obtain ⟨a0, a1, a2, a3, c0, c1, c2, c3, hl, hB⟩ := h
  have f : ∀ j v, w.cell? ⟨b, j, none⟩ = some v → w'.cell? ⟨b, j, none⟩ = some v := fun j v e => (hb.cell (p := ⟨b, j, none⟩) hl).trans e
  exact ⟨f _ _ a0, f _ _ a1, f _ _ a2, f _ _ a3, f _ _ c0, f _ _ c1, f _ _ c2, f _ _ c3, Nat.lt_of_lt_of_le hl hb.size, hB.trans (hb.mono hB.size)⟩
set_option maxRecDepth 100000 in
set_option maxHeartbeats 4000000 in
theorem rRight_any (n c : Nat) (a : Option Addr) (L : List Ho) (hn : L.length = n) (hl : n ≤ 140737488351232) (w : World) (hM : Hos w a L) :
    Calls Try.prog 19 #[.slice a n c] w fun e w' => e = .returned (.bool (rightH L)) ∧ Below w.heap.size w w' := by
  obtain ⟨r, hr⟩ : ∃ r, rightH L = r := ⟨_, rfl⟩
  rw [hr]
  have HN := Lib.hid hn
  have HM := Lib.hid hM
  have HR := Lib.hid (show rightF L 0 (L.drop 0) = r from hr)
  clear hn hM hr
  go_enter Try.func19, Try.ntmps19
  go_wp2_with fail
  go_loopw [3] (fun u wr => ∃ i : Nat, i ≤ n ∧ u = .int .i64 i ∧ rightF L i (L.drop i) = r ∧ Below w.heap.size w wr) (fun u _ => n - (intOf u).toNat)
  case atStart => exact ⟨0, Nat.zero_le _, rfl, HR.out, Below.refl _ _⟩
  case round =>
    obtain ⟨i, hi, rfl, hf, hB⟩ := hrel
    have HF := Lib.hid hf
    have HB := Lib.hid hB
    clear hf
    by_cases hlt : i < n
    case neg =>
      have i1 : ¬ (i : Int) < (n : Int) := by omega
      obtain rfl : r = true := by rw [← HF.out, List.drop_eq_nil_of_le (by rw [HN.out]; omega)]; rfl
      clear hB
      go_wp2_with fail
      go_ret
      exact ⟨by first | rfl | simp, HB.out⟩
    have HLT := Lib.hid hlt
    obtain ⟨x, hx⟩ : ∃ x, L[i]? = some x := ⟨_, List.getElem?_eq_getElem (by rw [HN.out]; exact hlt)⟩
    have i0 : (0 : Int) ≤ (i : Int) := by omega
    have i1 : (i : Int) < (n : Int) := by omega
    have hA := HF.out.symm.trans (rightF_at hx)
    obtain ⟨d, hd⟩ : ∃ d, besH x i 0 L = d := ⟨_, rfl⟩
    rw [hd] at hA
    have HA := Lib.hid hA
    have HD := Lib.hid (show besH x i 0 (L.drop 0) = d from hd)
    have HX := Lib.hid hx
    clear hA hd hB hx
    go_wp2_with fail
    go_loopw [4] (fun u wy => ∃ k : Nat, k ≤ n ∧ u = .int .i64 k ∧ besH x i k (L.drop k) = d ∧ Below w.heap.size w wy) (fun u _ => n - (intOf u).toNat)
    case atStart => exact ⟨0, Nat.zero_le _, rfl, HD.out, HB.out⟩
    case round =>
      obtain ⟨k, hk, rfl, hf, hB⟩ := hrel
      have HF2 := Lib.hid hf
      have HB2 := Lib.hid hB
      clear hf
      by_cases hlt2 : k < n
      case neg =>
        have k1 : ¬ (k : Int) < (n : Int) := by omega
        obtain rfl : d = true := by rw [← HF2.out, List.drop_eq_nil_of_le (by rw [HN.out]; omega)]; rfl
        have HN2 := Lib.hid (show rightF L (i + 1) (L.drop (i + 1)) = r by rw [HA.out]; rfl)
        clear hB
        go_wp2_with fail
        go_roundw
        case rel => exact ⟨i + 1, HLT.out, by go_num, HN2.out, HB2.out⟩
        case measure => have := HLT.out; simp [intOf]; omega
      have HLT2 := Lib.hid hlt2
      obtain ⟨y, hy⟩ : ∃ y, L[k]? = some y := ⟨_, List.getElem?_eq_getElem (by rw [HN.out]; exact hlt2)⟩
      have k0 : (0 : Int) ≤ (k : Int) := by omega
      have k1 : (k : Int) < (n : Int) := by omega
      have HA2 := Lib.hid (HF2.out.symm.trans (besH_at (x := x) (i := i) hy))
      obtain ⟨b, off, e1, hb, p0, p1, p2, p3⟩ := Hos.cells (HM.out.later hB) hy
      obtain ⟨b', off', e2, hb', q0, q1, q2, q3⟩ := Hos.cells (HM.out.later hB) HX.out
      rw [e1] at e2
      cases e2
      subst e1
      obtain ⟨xk, ⟨xa, xi⟩, xw⟩ := x
      obtain ⟨yk, ⟨ya, yi⟩, yw⟩ := y
      simp only at p0 p1 p2 p3 q0 q1 q2 q3 HA2
      have C := Lib.hid (fun w' => rWay_any ⟨yk, ⟨ya, yi⟩, yw⟩ ⟨xa, xi⟩ xk xw w')
      obtain ⟨z, hz⟩ : ∃ z, inW ⟨yk, ⟨ya, yi⟩, yw⟩ ⟨xa, xi⟩ xk xw = z := ⟨_, rfl⟩
      rw [hz] at C HA2
      have S0 := Lib.hid (And.intro p0 (And.intro p1 (And.intro p2 (And.intro p3 (And.intro q0 (And.intro q1 (And.intro q2 (And.intro q3 (And.intro hb hB)))))))))
      clear hB hy hz p0 p1 p2 p3 q0 q1 q2 q3 hb hb'
      go_wp2_with fail
      go_upto_region 7 with (fail)
      have S1 := keepR S0.out (Below.refl _ _).drew
      clear S0
      go_region_held3 (fun w' => w'.cell? ⟨b, off + k * 4, none⟩ = some (.string yk) ∧ w'.cell? ⟨b, off + k * 4 + 1, none⟩ = some (.int .u64 (ya : Nat)) ∧ w'.cell? ⟨b, off + k * 4 + 2, none⟩ = some (.int .u64 (yi : Nat)) ∧ w'.cell? ⟨b, off + k * 4 + 3, none⟩ = some (.bool yw) ∧ w'.cell? ⟨b, off + i * 4, none⟩ = some (.string xk) ∧ w'.cell? ⟨b, off + i * 4 + 1, none⟩ = some (.int .u64 (xa : Nat)) ∧ w'.cell? ⟨b, off + i * 4 + 2, none⟩ = some (.int .u64 (xi : Nat)) ∧ w'.cell? ⟨b, off + i * 4 + 3, none⟩ = some (.bool xw) ∧ b < w'.heap.size ∧ Below w.heap.size w w')
        (first | (with_reducible assumption) | go_keep)
        (first
          | (go_at_call 29; (with_reducible refine (C.out _).mono ?_); rintro e2 w2 ⟨rfl, hb2⟩; have S2 := keepR S1 hb2))
      all_goals
        have HS2 := Lib.hid S2
        clear S1 S2 hb2 C
        obtain ⟨p0, p1, p2, p3, q0, q1, q2, q3, _, hB3⟩ := HS2.out
        have HB3 := Lib.hid hB3
        clear hB3 HS2
        cases z
        case true =>
          obtain rfl : d = false := by rw [HA2.out, if_pos (.inl rfl)]
          obtain rfl : r = false := HA.out
          go_wp2_with fail
          go_quiet (fail)
          go_wp2_with fail
          go_ret
          exact ⟨by first | rfl | simp, below_drewN HB3.out _⟩
        by_cases hik : i = k
        · have HNX := Lib.hid (show besH ⟨xk, ⟨xa, xi⟩, xw⟩ i (k + 1) (L.drop (k + 1)) = d by rw [HA2.out, if_neg (by intro h; rcases h with h | h; cases h; exact h.1 hik)])
          have g : ((i : Int) == (k : Int)) = true := by simp; omega
          have gn : ((i : Int) != (k : Int)) = false := by simp; omega
          go_wp2_with fail
          go_quiet (fail)
          go_wp2_with fail
          go_roundw
          case rel => exact ⟨k + 1, HLT2.out, by go_num, HNX.out, below_drewN HB3.out _⟩
          case measure => have := HLT2.out; simp [intOf]; omega
        have g := int_ne hik
        have gn : ((i : Int) != (k : Int)) = true := by simp; omega
        by_cases he : (⟨xa, xi⟩ : Tx) = ⟨ya, yi⟩
        · by_cases he2 : xk = yk
          · obtain rfl : d = false := by rw [HA2.out, if_pos (.inr ⟨hik, he, he2⟩)]
            obtain rfl : r = false := HA.out
            cases he
            subst he2
            go_wp2_with fail
            go_quiet (fail)
            go_wp2_with fail
            go_ret
            exact ⟨by first | rfl | simp, below_drewN HB3.out _⟩
          · have HNX := Lib.hid (show besH ⟨xk, ⟨xa, xi⟩, xw⟩ i (k + 1) (L.drop (k + 1)) = d by rw [HA2.out, if_neg (by intro h; rcases h with h | h; cases h; exact he2 h.2.2)])
            have g1 := ba_ne he2
            have g2 := ba_ne' he2
            cases he
            go_wp2_with fail
            go_quiet (fail)
            go_wp2_with fail
            go_roundw
            case rel => exact ⟨k + 1, HLT2.out, by go_num, HNX.out, below_drewN HB3.out _⟩
            case measure => have := HLT2.out; simp [intOf]; omega
        · have HNX := Lib.hid (show besH ⟨xk, ⟨xa, xi⟩, xw⟩ i (k + 1) (L.drop (k + 1)) = d by rw [HA2.out, if_neg (by intro h; rcases h with h | h; cases h; exact he h.2.1)])
          rcases tx_ne he with g3 | ⟨e3, g3⟩
          · go_wp2_with fail
            go_quiet (fail)
            go_wp2_with fail
            go_roundw
            case rel => exact ⟨k + 1, HLT2.out, by go_num, HNX.out, below_drewN HB3.out _⟩
            case measure => have := HLT2.out; simp [intOf]; omega
          · subst e3
            go_wp2_with fail
            go_quiet (fail)
            go_wp2_with fail
            go_roundw
            case rel => exact ⟨k + 1, HLT2.out, by go_num, HNX.out, below_drewN HB3.out _⟩
            case measure => have := HLT2.out; simp [intOf]; omega
end Go.Proofs.Ytfidgnhinllhlaa
