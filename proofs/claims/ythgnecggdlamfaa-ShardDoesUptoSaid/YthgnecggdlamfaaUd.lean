/- A key's row, which puts may be done, whether lists are the same: the document's. -/
import Derived.Test.YthgnecggdlamfaaUc
namespace Go.Proofs.Ythgnecggdlamfaa
open Go.RowKit

@[reducible] def roV (x : Ro) : Value := .agg #[.string x.key, .string x.val, .int .u64 (x.ver : Nat)]
@[reducible] def puV (x : Pu) : Value := .agg #[.string x.key, .string x.val, .bool x.gone]
/-- A row of nothing. -/
def z0 : Ro := ⟨⟨#[]⟩, ⟨#[]⟩, 0⟩
theorem getR_at {key : ByteArray} {L : List Ro} {k : Nat} {x : Ro} (hx : L[k]? = some x) : getR key (L.drop k) = if x.key = key then some x else getR key (L.drop (k + 1)) := by
  obtain ⟨hk, rfl⟩ := List.getElem?_eq_some_iff.1 hx
  rw [List.drop_eq_getElem_cons hk]; rfl
theorem ba_ne {a b : ByteArray} (h : ¬ a = b) : (a == b) = false := by
  have h4 : ¬ a.toList = b.toList := fun e => by
    rw [ByteArray.toList_eq, ByteArray.toList_eq] at e
    exact h (ByteArray.ext (by simpa using e))
  rw [beq_toListBytes]
  simpa using h4
theorem ba_ne' {a b : ByteArray} (h : ¬ a = b) : (a.toList == b.toList) = false := by rw [← beq_toListBytes]; exact ba_ne h
set_option maxHeartbeats 2000000 in
theorem rGet_any (key : ByteArray) (n c : Nat) (a : Option Addr) (L : List Ro) (hn : L.length = n) (hl : n ≤ 140737488351232) (w : World) (hM : Ros w a L) :
    Calls Try.prog 15 #[.slice a n c, .string key] w fun e w' => e = .returned (.tuple #[roV ((getR key L).getD z0), .bool (getR key L).isSome]) ∧ Below w.heap.size w w' := by
  have HN := Lib.hid hn
  have HM := Lib.hid hM
  obtain ⟨g, hg⟩ : ∃ g, getR key L = g := ⟨_, rfl⟩
  rw [hg]
  have HG := Lib.hid hg
  clear hn hM hg
  go_enter Try.func15, Try.ntmps15
  go_wp2_with fail
  go_loopw [6] (fun u wr => ∃ k : Nat, k ≤ n ∧ u = .int .i64 k ∧ getR key (L.drop k) = g ∧ wr = w.alloc (.cells #[.string ⟨#[]⟩, .string ⟨#[]⟩, .int .u64 0] 50)) (fun u _ => n - (intOf u).toNat)
  case atStart => exact ⟨0, Nat.zero_le _, rfl, HG.out, rfl⟩
  case round =>
    obtain ⟨k, hk, rfl, hf, rfl⟩ := hrel
    have HF := Lib.hid hf
    clear hf
    by_cases hlt : k < n
    · obtain ⟨x, hx⟩ : ∃ x, L[k]? = some x := ⟨_, List.getElem?_eq_getElem (by rw [HN.out]; exact hlt)⟩
      have i0 : (0 : Int) ≤ (k : Int) := by omega
      have i1 : (k : Int) < (n : Int) := by omega
      have HA := Lib.hid (HF.out.symm.trans (getR_at (key := key) hx))
      have hM1 : Ros (w.alloc (.cells #[.string ⟨#[]⟩, .string ⟨#[]⟩, .int .u64 0] 50)) a L := HM.out.later ((Below.refl _ _).alloc (Nat.le_refl _) _)
      obtain ⟨b, off, rfl, hb, p0, p1, p2⟩ := Ros.cells hM1 hx
      have hbw : b < w.heap.size := by
        obtain ⟨b', _, e, hb', _⟩ := HM.out k x hx
        cases e; exact hb'
      clear hx hM1
      obtain ⟨xk, xv, xn⟩ := x
      simp only at p0 p1 p2 HA
      by_cases he : xk = key
      · obtain rfl : g = some ⟨xk, xv, xn⟩ := by rw [HA.out, if_pos he]
        subst he
        go_wp2_with fail
        exact bodyPost_ret (v := .tuple #[roV ⟨xk, xv, xn⟩, .bool true]) (by simp [results, Try.results15, go_sem]) rfl ⟨rfl, by go_grown⟩
      · have HN2 := Lib.hid (show getR key (L.drop (k + 1)) = g by rw [HA.out, if_neg he])
        have g1 := ba_ne he
        have g1' := ba_ne' he
        go_wp2_with fail
        go_roundw
        case rel => exact ⟨k + 1, by omega, by go_num, HN2.out, by first | rfl | trivial⟩
        case measure => simp [intOf]; omega
    · have i1 : ¬ (k : Int) < (n : Int) := by omega
      obtain rfl : g = none := by rw [← HF.out, List.drop_eq_nil_of_le (by rw [HN.out]; omega)]; rfl
      go_wp2_with fail
      exact bodyPost_ret (v := .tuple #[roV z0, .bool false]) (by simp [results, Try.results15, go_sem, z0]) rfl ⟨rfl, by go_grown⟩
theorem keyIn_at {key : ByteArray} {P : List Pu} {k : Nat} {x : Pu} (hx : P[k]? = some x) : keyIn key (P.drop k) = (decide (x.key = key) || keyIn key (P.drop (k + 1))) := by
  obtain ⟨hk, rfl⟩ := List.getElem?_eq_some_iff.1 hx
  rw [List.drop_eq_getElem_cons hk]; rfl
theorem fitF_at {P : List Pu} {k : Nat} {x : Pu} (hx : P[k]? = some x) : fitF (P.take k) (P.drop k) = (putOk x && (!keyIn x.key (P.take k) && fitF (P.take (k + 1)) (P.drop (k + 1)))) := by
  obtain ⟨hk, rfl⟩ := List.getElem?_eq_some_iff.1 hx
  rw [List.drop_eq_getElem_cons hk, fitF, List.take_succ_eq_append_getElem hk]
set_option maxHeartbeats 4000000 in
theorem rFits_any (n c : Nat) (a : Option Addr) (P : List Pu) (hn : P.length = n) (hl : n ≤ 140737488351232) (w : World) (hM : Pus w a P) :
    Calls Try.prog 33 #[.slice a n c] w fun e w' => e = .returned (.int .i64 (fitsX P : Nat)) ∧ Below w.heap.size w w' := by
  have HN := Lib.hid hn
  have HM := Lib.hid hM
  by_cases h8 : 8 < n
  · have g : (8 : Int) < (n : Int) := by omega
    have HR := Lib.hid (show fitsX P = 4 by unfold fitsX; rw [if_pos (by omega)])
    clear hn hM
    go_enter Try.func33, Try.ntmps33
    go_wp2_with fail
    go_ret
    exact ⟨by rw [HR.out]; first | rfl | simp, Below.refl _ _⟩
  have g : ¬ (8 : Int) < (n : Int) := by omega
  obtain ⟨r, hr⟩ : ∃ r, fitF [] P = r := ⟨_, rfl⟩
  have HX := Lib.hid (show fitsX P = if r then 0 else 1 by unfold fitsX; rw [if_neg (by omega), hr])
  have HR := Lib.hid (show fitF (P.take 0) (P.drop 0) = r from hr)
  clear hn hM hr
  go_enter Try.func33, Try.ntmps33
  go_wp2_with fail
  go_loopw [3] (fun u wr => ∃ k : Nat, k ≤ n ∧ u = .int .i64 k ∧ fitF (P.take k) (P.drop k) = r ∧ Below w.heap.size w wr) (fun u _ => n - (intOf u).toNat)
  case atStart => exact ⟨0, Nat.zero_le _, rfl, HR.out, Below.refl _ _⟩
  case round =>
    obtain ⟨k, hk, rfl, hf, hB⟩ := hrel
    have HF := Lib.hid hf
    have HB := Lib.hid hB
    clear hf
    by_cases hlt : k < n
    · obtain ⟨x, hx⟩ : ∃ x, P[k]? = some x := ⟨_, List.getElem?_eq_getElem (by rw [HN.out]; exact hlt)⟩
      have i0 : (0 : Int) ≤ (k : Int) := by omega
      have i1 : (k : Int) < (n : Int) := by omega
      have HA := Lib.hid (HF.out.symm.trans (fitF_at hx))
      obtain ⟨b, off, rfl, hb, p0, p1, p2⟩ := Pus.cells (HM.out.later hB) hx
      have HB1 := Lib.hid (show Below w.heap.size w (wr.alloc (.cells #[.string x.key, .string x.val, .bool x.gone] 54)) from hB.alloc hB.size _)
      clear hB hx
      obtain ⟨xk, xv, xg⟩ := x
      simp only at p0 p1 p2 HA HB1
      have hno : putOk ⟨xk, xv, xg⟩ = false → fitsX P = 1 := fun h => by rw [HX.out, HA.out, h]; rfl
      have HNO := Lib.hid hno
      clear hno
      by_cases h1 : 1 ≤ xk.size
      case neg =>
        have g1 : (xk.size : Int) < 1 := by omega
        have HT := Lib.hid (HNO.out (by rw [putOk, decide_eq_false h1]; rfl))
        go_wp2_with fail
        go_ret
        exact ⟨by rw [HT.out]; first | rfl | simp, HB1.out⟩
      have g1 : ¬ (xk.size : Int) < 1 := by omega
      by_cases h2 : xk.size ≤ 16
      case neg =>
        have g2 : (16 : Int) < (xk.size : Int) := by omega
        have HT := Lib.hid (HNO.out (by rw [putOk, decide_eq_true h1, decide_eq_false h2]; rfl))
        go_wp2_with fail
        go_ret
        exact ⟨by rw [HT.out]; first | rfl | simp, HB1.out⟩
      have g2 : ¬ (16 : Int) < (xk.size : Int) := by omega
      by_cases h3 : xv.size ≤ 32
      case neg =>
        have g3 : (32 : Int) < (xv.size : Int) := by omega
        have HT := Lib.hid (HNO.out (by rw [putOk, decide_eq_true h1, decide_eq_true h2, decide_eq_false h3]; rfl))
        go_wp2_with fail
        go_ret
        exact ⟨by rw [HT.out]; first | rfl | simp, HB1.out⟩
      have g3 : ¬ (32 : Int) < (xv.size : Int) := by omega
      by_cases h4 : xg = true ∧ 0 < xv.size
      case pos =>
        obtain ⟨rfl, h5⟩ := h4
        have g4 : (0 : Int) < (xv.size : Int) := by omega
        have HT := Lib.hid (HNO.out (by rw [putOk, decide_eq_true h1, decide_eq_true h2, decide_eq_true h3, decide_eq_true h5]; rfl))
        clear h1 h2 h3
        go_wp2_with fail
        go_ret
        exact ⟨by rw [HT.out]; first | rfl | simp, HB1.out⟩
      have hok : putOk ⟨xk, xv, xg⟩ = true := by
        rw [putOk, decide_eq_true h1, decide_eq_true h2, decide_eq_true h3]
        simp only [Bool.true_and, Bool.not_eq_true', Bool.and_eq_false_iff, decide_eq_false_iff_not]
        rcases xg with _ | _
        · exact .inl rfl
        · exact .inr (fun h => h4 ⟨rfl, h⟩)
      obtain ⟨d, hd⟩ : ∃ d, keyIn xk (P.take k) = d := ⟨_, rfl⟩
      have HA2 := Lib.hid (show r = (!d && fitF (P.take (k + 1)) (P.drop (k + 1))) by rw [HA.out, hok, hd]; rfl)
      have HD := Lib.hid hd
      have hg4 : xg = false ∨ (xg = true ∧ xv.size = 0) := by
        rcases xg with _ | _
        · exact .inl rfl
        · exact .inr ⟨rfl, by rcases Nat.eq_zero_or_pos xv.size with h | h; exact h; exact absurd ⟨rfl, h⟩ h4⟩
      clear HA hok hd h1 h2 h3 h4 HNO
      rcases hg4 with rfl | ⟨rfl, h0⟩
      · skip
        go_wp2_with fail
        go_loopw [5] (fun u wx => ∃ j q : Nat, j ≤ k ∧ u = .int .i64 j ∧ keyIn xk ((P.take k).drop j) = d ∧ wx = (wr.alloc (.cells #[.string xk, .string xv, .bool false] 54)).drewN q) (fun u _ => k - (intOf u).toNat)
        case atStart => exact ⟨0, 0, Nat.zero_le _, rfl, HD.out, rfl⟩
        case round =>
          obtain ⟨j, q, hj, rfl, hd, hq⟩ := hrel
          have HQ := Lib.hid hq
          have HDJ := Lib.hid hd
          clear hd
          by_cases hjk : j < k
          · obtain ⟨y, hy⟩ : ∃ y, P[j]? = some y := ⟨_, List.getElem?_eq_getElem (by rw [HN.out]; omega)⟩
            have hy2 : (P.take k)[j]? = some y := by rw [List.getElem?_take_of_lt hjk]; exact hy
            have HK := Lib.hid (HDJ.out.symm.trans (keyIn_at (key := xk) hy2))
            obtain ⟨b', off', e', _, q0, _, _⟩ := Pus.cells (HM.out.later HB.out) hy
            cases e'
            have j0 : (0 : Int) ≤ (j : Int) := by omega
            have j1 : (j : Int) < (n : Int) := by omega
            have j2 : (j : Int) < (k : Int) := by omega
            obtain ⟨yk, yv, yg⟩ := y
            simp only at q0 HK
            clear hy hy2
            subst hq
            by_cases he : yk = xk
            · have hd1 : d = true := by rw [HK.out, decide_eq_true he]; rfl
              have HT := Lib.hid (show fitsX P = 1 by rw [HX.out, HA2.out, hd1]; rfl)
              subst he
              clear hd1
              go_wp2_with fail
              go_quiet (fail)
              go_wp2_with fail
              go_ret
              exact ⟨by rw [HT.out]; first | rfl | simp, by repeat (first | exact HB1.out | refine below_drewN ?_ _)⟩
            · have HN2 := Lib.hid (show keyIn xk ((P.take k).drop (j + 1)) = d by rw [HK.out, decide_eq_false he]; rfl)
              have e1 := ba_ne he
              have e2 := ba_ne' he
              go_wp2_with fail
              go_quiet (fail)
              go_wp2_with fail
              go_roundw
              case rel => exact ⟨j + 1, q + nq, by omega, by go_num, HN2.out, by first | rfl | rw [World.drewN_drewN]⟩
              case measure => simp [intOf]; omega
          · have j2 : ¬ (j : Int) < (k : Int) := by omega
            have hd0 : d = false := by rw [← HDJ.out, List.drop_eq_nil_of_le (by rw [List.length_take]; omega)]; rfl
            have HN3 := Lib.hid (show fitF (P.take (k + 1)) (P.drop (k + 1)) = r by rw [HA2.out, hd0]; rfl)
            subst hq
            clear hd0
            go_wp2_with fail
            go_roundw
            case rel => exact ⟨k + 1, by omega, by go_num, HN3.out, below_drewN HB1.out _⟩
            case measure => simp [intOf]; omega
      · have g5 : ¬ (0 : Int) < (xv.size : Int) := by omega
        clear h0
        go_wp2_with fail
        go_loopw [5] (fun u wx => ∃ j q : Nat, j ≤ k ∧ u = .int .i64 j ∧ keyIn xk ((P.take k).drop j) = d ∧ wx = (wr.alloc (.cells #[.string xk, .string xv, .bool true] 54)).drewN q) (fun u _ => k - (intOf u).toNat)
        case atStart => exact ⟨0, 0, Nat.zero_le _, rfl, HD.out, rfl⟩
        case round =>
          obtain ⟨j, q, hj, rfl, hd, hq⟩ := hrel
          have HQ := Lib.hid hq
          have HDJ := Lib.hid hd
          clear hd
          by_cases hjk : j < k
          · obtain ⟨y, hy⟩ : ∃ y, P[j]? = some y := ⟨_, List.getElem?_eq_getElem (by rw [HN.out]; omega)⟩
            have hy2 : (P.take k)[j]? = some y := by rw [List.getElem?_take_of_lt hjk]; exact hy
            have HK := Lib.hid (HDJ.out.symm.trans (keyIn_at (key := xk) hy2))
            obtain ⟨b', off', e', _, q0, _, _⟩ := Pus.cells (HM.out.later HB.out) hy
            cases e'
            have j0 : (0 : Int) ≤ (j : Int) := by omega
            have j1 : (j : Int) < (n : Int) := by omega
            have j2 : (j : Int) < (k : Int) := by omega
            obtain ⟨yk, yv, yg⟩ := y
            simp only at q0 HK
            clear hy hy2
            subst hq
            by_cases he : yk = xk
            · have hd1 : d = true := by rw [HK.out, decide_eq_true he]; rfl
              have HT := Lib.hid (show fitsX P = 1 by rw [HX.out, HA2.out, hd1]; rfl)
              subst he
              clear hd1
              go_wp2_with fail
              go_quiet (fail)
              go_wp2_with fail
              go_ret
              exact ⟨by rw [HT.out]; first | rfl | simp, by repeat (first | exact HB1.out | refine below_drewN ?_ _)⟩
            · have HN2 := Lib.hid (show keyIn xk ((P.take k).drop (j + 1)) = d by rw [HK.out, decide_eq_false he]; rfl)
              have e1 := ba_ne he
              have e2 := ba_ne' he
              go_wp2_with fail
              go_quiet (fail)
              go_wp2_with fail
              go_roundw
              case rel => exact ⟨j + 1, q + nq, by omega, by go_num, HN2.out, by first | rfl | rw [World.drewN_drewN]⟩
              case measure => simp [intOf]; omega
          · have j2 : ¬ (j : Int) < (k : Int) := by omega
            have hd0 : d = false := by rw [← HDJ.out, List.drop_eq_nil_of_le (by rw [List.length_take]; omega)]; rfl
            have HN3 := Lib.hid (show fitF (P.take (k + 1)) (P.drop (k + 1)) = r by rw [HA2.out, hd0]; rfl)
            subst hq
            clear hd0
            go_wp2_with fail
            go_roundw
            case rel => exact ⟨k + 1, by omega, by go_num, HN3.out, below_drewN HB1.out _⟩
            case measure => simp [intOf]; omega
    · have i1 : ¬ (k : Int) < (n : Int) := by omega
      have HT := Lib.hid (show fitsX P = 0 by rw [HX.out, ← HF.out, List.drop_eq_nil_of_le (by rw [HN.out]; omega)]; rfl)
      go_wp2_with fail
      go_ret
      exact ⟨by rw [HT.out]; first | rfl | simp, HB.out⟩
end Go.Proofs.Ythgnecggdlamfaa
