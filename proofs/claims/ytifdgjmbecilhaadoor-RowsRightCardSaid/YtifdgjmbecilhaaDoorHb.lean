/- Which lists are right: the program's. -/
import Derived.Test.YtifdgjmbecilhaaDoorHa
import Derived.Deep.QuietTactic
import Derived.BigQuiet
namespace Go.Proofs.YtifdgjmbecilhaaDoor
open Go.RowKit

set_option maxHeartbeats 4000000 in
theorem pRight_any (n c : Nat) (a : Option Addr) (L : List Ro) (hn : L.length = n) (hl : n ≤ 140737488351232) (hs : smallR L) (w : World) (hM : Ros w a L) :
    Calls Tryd.prog 13 #[.slice a n c] w fun e w' => e = .returned (.bool (rightB L)) ∧ Below w.heap.size w w' := by
  have HN := Lib.hid hn
  have HM := Lib.hid hM
  have HS := Lib.hid hs
  by_cases h32 : 32 < n
  · have g : (32 : Int) < (n : Int) := by omega
    have HR := Lib.hid (show rightB L = false by unfold rightB; rw [hn, decide_eq_false (by omega)]; rfl)
    clear hn hM hs
    go_enter Tryd.func13, Tryd.ntmps13
    go_wp2_with fail
    go_ret
    exact ⟨by rw [HR.out]; first | rfl | simp, Below.refl _ _⟩
  have g : ¬ (32 : Int) < (n : Int) := by omega
  obtain ⟨r, hr⟩ : ∃ r, rightB L = r := ⟨_, rfl⟩
  have hra : ascF none L = r := by rw [← hr]; unfold rightB; rw [hn, decide_eq_true (by omega)]; rfl
  rw [hr]
  have HR := Lib.hid hra
  clear hn hM hs hr hra
  go_enter Tryd.func13, Tryd.ntmps13
  go_wp2_with fail
  go_loopw [10] (fun u wr => ∃ k : Nat, k ≤ n ∧ u = .int .i64 k ∧ ascF (prevR L k) (L.drop k) = r ∧ Below w.heap.size w wr) (fun u _ => n - (intOf u).toNat)
  case atStart => exact ⟨0, Nat.zero_le _, rfl, HR.out, Below.refl _ _⟩
  case round =>
    obtain ⟨k, hk, rfl, hf, hB⟩ := hrel
    have HF := Lib.hid hf
    have HB := Lib.hid hB
    clear hf
    by_cases hlt : k < n
    · obtain ⟨x, hx⟩ : ∃ x, L[k]? = some x := ⟨_, List.getElem?_eq_getElem (by rw [HN.out]; exact hlt)⟩
      have i0 : (0 : Int) ≤ (k : Int) := by omega
      have i1 : (k : Int) < (n : Int) := by omega
      have HA := Lib.hid (HF.out.symm.trans (ascF_at (prevR L k) hx))
      have HPS := Lib.hid (prevR_succ hx)
      obtain ⟨s1, s2⟩ := HS.out.at hx
      obtain ⟨b, off, rfl, hb, p0, p1, p2⟩ := Ros.cells (HM.out.later hB) hx
      have HBW := Lib.hid hB
      have HB1 := Lib.hid (show Below w.heap.size w (wr.alloc (.cells #[.string x.key, .string x.val, .int .u64 (x.ver : Nat)] 26)) from hB.alloc hB.size _)
      clear hB hx
      obtain ⟨xk, xv, xn⟩ := x
      simp only at p0 p1 p2 s1 s2 HA HPS HB1
      obtain ⟨k1, h1⟩ : ∃ k1, keyOk xk = k1 := ⟨_, rfl⟩
      obtain ⟨k2, h2⟩ : ∃ k2, decide (xv.size ≤ 32) = k2 := ⟨_, rfl⟩
      have HK := Lib.hid (fun w' => mayKey_any xk k1 h1 s1 w')
      have HV := Lib.hid (fun w' => mayVal_any xv k2 h2 s2 w')
      have HA1 := Lib.hid (show r = ((k1 && (k2 && decide (xn ≤ 4611686018427387903))) && ((match prevR L k with | none => true | some q => lessB q xk) && ascF (some xk) (L.drop (k + 1)))) by rw [HA.out]; simp only [rowOk]; rw [← h1, ← h2]; simp only [keyOk, Bool.and_assoc]; rfl)
      clear HA h1 h2
      cases k1
      case false =>
        obtain rfl : r = false := HA1.out
        go_wp2_with fail
        go_quiet ((first | (go_at_call 27; exact Calls.quiet_of (HK.out _)) | (go_at_call 28; exact Calls.quiet_of (HV.out _))))
        go_wp2_with fail
        go_ret
        exact ⟨by first | rfl | simp, below_drewN HB1.out _⟩
      cases k2
      case false =>
        obtain rfl : r = false := HA1.out
        go_wp2_with fail
        go_quiet ((first | (go_at_call 27; exact Calls.quiet_of (HK.out _)) | (go_at_call 28; exact Calls.quiet_of (HV.out _))))
        go_wp2_with fail
        go_ret
        exact ⟨by first | rfl | simp, below_drewN HB1.out _⟩
      by_cases h4 : xn ≤ 4611686018427387903
      case neg =>
        have g4 : (4611686018427387903 : Int) < (xn : Int) := by omega
        obtain rfl : r = false := by rw [HA1.out, decide_eq_false h4]; rfl
        go_wp2_with fail
        go_quiet ((first | (go_at_call 27; exact Calls.quiet_of (HK.out _)) | (go_at_call 28; exact Calls.quiet_of (HV.out _))))
        go_wp2_with fail
        go_ret
        exact ⟨by first | rfl | simp, below_drewN HB1.out _⟩
      have g4 : ¬ (4611686018427387903 : Int) < (xn : Int) := by omega
      have g4' : decide ((4611686018427387903 : Int) < (xn : Int)) = false := decide_eq_false g4
      have HA2 := Lib.hid (show r = ((match prevR L k with | none => true | some q => lessB q xk) && ascF (some xk) (L.drop (k + 1))) by rw [HA1.out, decide_eq_true h4]; rfl)
      clear HA1 h4
      by_cases hk0 : k = 0
      · have gk0 : ¬ (0 : Int) < (k : Int) := by omega
        have gk1 : decide (0 < k) = false := by simp; omega
        have HN2 := Lib.hid (show ascF (prevR L (k + 1)) (L.drop (k + 1)) = r by rw [HPS.out, HA2.out, show prevR L k = none from if_pos hk0]; rfl)
        clear hk0
        go_wp2_with fail
        go_quiet ((first | (go_at_call 27; exact Calls.quiet_of (HK.out _)) | (go_at_call 28; exact Calls.quiet_of (HV.out _))))
        go_wp2_with fail
        go_roundw
        case rel => exact ⟨k + 1, by omega, by go_num, HN2.out, below_drewN HB1.out _⟩
        case measure => simp [intOf]; omega
      · have gk : (0 : Int) < (k : Int) := by omega
        obtain ⟨j, hj⟩ : ∃ j, k - 1 = j := ⟨_, rfl⟩
        have gj : (k : Int) - 1 = (j : Int) := by omega
        have gw : IntKind.i64.wrap ((k : Int) - 1) = (j : Int) := by rw [gj]; exact IntWalk.i64_in _ (by omega)
        have gw2 : IntKind.i64.wrap (j : Int) = (j : Int) := IntWalk.i64_in _ (by omega)
        obtain ⟨y, hy⟩ : ∃ y, L[j]? = some y := ⟨_, List.getElem?_eq_getElem (by rw [HN.out]; omega)⟩
        have hpv : prevR L k = some y.key := by unfold prevR; rw [if_neg hk0, hj, hy]; rfl
        obtain ⟨b', off', e', hb', q0, _, _⟩ := Ros.cells (HM.out.later HBW.out) hy
        cases e'
        obtain ⟨d, hd⟩ : ∃ d, lessB y.key xk = d := ⟨_, rfl⟩
        have HA3 := Lib.hid (show r = (d && ascF (some xk) (L.drop (k + 1))) by rw [HA2.out, hpv]; simp only; rw [hd])
        have j0 : (0 : Int) ≤ (j : Int) := by omega
        have j1 : (j : Int) < (n : Int) := by omega
        have gk1 : decide (0 < k) = true := by simp; omega
        obtain ⟨yk, yv, yn⟩ := y
        simp only at q0 hd
        clear hy hpv hj hk0 HA2
        cases d
        · obtain rfl : r = false := HA3.out
          by_cases hq : xk = yk
          · subst hq
            have gl : Op.bytesLess xk.toList xk.toList = false := by rw [less_any, lessB_irrefl]
            clear hd
            go_wp2_with fail
            go_quiet ((first | (go_at_call 27; exact Calls.quiet_of (HK.out _)) | (go_at_call 28; exact Calls.quiet_of (HV.out _))))
            go_wp2_with fail
            go_ret
            exact ⟨by first | rfl | simp, below_drewN HB1.out _⟩
          · have g1 := ba_ne hq
            have g1' := ba_ne' hq
            have gl : Op.bytesLess xk.toList yk.toList = true := by
              rw [less_any]
              rcases h : lessB xk yk with _ | _
              · exact absurd (lessB_total h hd) hq
              · rfl
            clear hd
            go_wp2_with fail
            go_quiet ((first | (go_at_call 27; exact Calls.quiet_of (HK.out _)) | (go_at_call 28; exact Calls.quiet_of (HV.out _))))
            go_wp2_with fail
            go_ret
            exact ⟨by first | rfl | simp, below_drewN HB1.out _⟩
        · have HN2 := Lib.hid (show ascF (prevR L (k + 1)) (L.drop (k + 1)) = r by rw [HPS.out, HA3.out]; rfl)
          have hq : ¬ xk = yk := fun e => lessB_ne hd e.symm
          have g1 := ba_ne hq
          have g1' := ba_ne' hq
          have gl : Op.bytesLess xk.toList yk.toList = false := by rw [less_any]; exact lessB_asym hd
          clear hd
          go_wp2_with fail
          go_quiet ((first | (go_at_call 27; exact Calls.quiet_of (HK.out _)) | (go_at_call 28; exact Calls.quiet_of (HV.out _))))
          go_wp2_with fail
          go_roundw
          case rel => exact ⟨k + 1, by omega, by go_num, HN2.out, below_drewN HB1.out _⟩
          case measure => simp [intOf]; omega
    · have i1 : ¬ (k : Int) < (n : Int) := by omega
      obtain rfl : r = true := by rw [← HF.out, List.drop_eq_nil_of_le (by rw [HN.out]; omega)]; cases prevR L k <;> rfl
      go_wp2_with fail
      go_ret
      exact ⟨by first | rfl | simp, HB.out⟩
end Go.Proofs.YtifdgjmbecilhaaDoor
