/- One put: the document's Do, with its rows' room. -/
import Derived.Test.YthgnecggdlamfaaUg
import Derived.Test.YthgnecggdlamfaaUh
namespace Go.Proofs.Ythgnecggdlamfaa
open Go.RowKit

/-- What Do answers. -/
def DoC (w : World) (r : List Ro × Nat) (e : Ending) (w' : World) : Prop := ∃ (a : Option Addr) (c : Nat), e = .returned (.tuple #[.slice a r.1.length c, .int .i64 (r.2 : Nat)]) ∧ (Ros w' a r.1 ∧ r.1.length ≤ c ∧ c ≤ maxLen) ∧ (0 < r.1.length → ∀ q, a = some q → w.heap.size ≤ q.block) ∧ Below w.heap.size w w'
set_option maxRecDepth 100000 in
set_option maxHeartbeats 8000000 in
theorem rDoC_any (n c ver : Nat) (a : Option Addr) (L : List Ro) (p : Pu) (hn : L.length = n) (hl : n * 40 ≤ 140737488351232) (hs : smallR L) (hpk : p.key.size ≤ 140737488351232) (w : World) (hM : Ros w a L) :
    Calls Try.prog 79 #[.slice a n c, puV p, .int .u64 ver] w (DoC w (doR L p ver)) := by
  have HN := Lib.hid hn
  have HM := Lib.hid hM
  have HS := Lib.hid hs
  have hln : n ≤ 140737488351232 := by omega
  obtain ⟨pk, pv, pg⟩ := p
  simp only at hpk
  have P0 := Lib.hid ((B3.new (w := w) rfl (.string pk) (.string pv) (.bool pg) 54).past (.cells #[.string pk, .string pv, .bool pg] 54))
  have HB0 := Lib.hid (show Below w.heap.size w ((w.alloc (.cells #[.string pk, .string pv, .bool pg] 54)).alloc (.cells #[.string pk, .string pv, .bool pg] 54)) by go_grown)
  have HP1 := Lib.hid (show Pus ((w.alloc (.cells #[.string pk, .string pv, .bool pg] 54)).alloc (.cells #[.string pk, .string pv, .bool pg] 54)) (some ⟨w.heap.size + 1, 0, none⟩) [⟨pk, pv, pg⟩] from rw_one (f := puC) _ (by simp) (⟨pk, pv, pg⟩ : Pu) rfl 54)
  obtain ⟨f, hf⟩ : ∃ f, fitsX [⟨pk, pv, pg⟩] = f := ⟨_, rfl⟩
  have hf01 := fitsX_one ⟨pk, pv, pg⟩
  rw [hf] at hf01
  have HFX := Lib.hid hf
  have hf2 : ∀ w', Below w.heap.size w w' → f ≠ 0 → DoC w (doR L ⟨pk, pv, pg⟩ ver) (.returned (.tuple #[.slice none 0 0, .int .i64 (f : Nat)])) w' := fun w' hB h => by
    have : doR L ⟨pk, pv, pg⟩ ver = ([], f) := by unfold doR; rw [hf, if_pos h]
    rw [this]; exact ⟨none, 0, rfl, ⟨fun j x hx => by simp at hx, Nat.le_refl _, by decide⟩, fun h => by simp at h, hB⟩
  have HF2 := Lib.hid hf2
  obtain ⟨is, his⟩ : ∃ is, (getR pk L).isSome = is := ⟨_, rfl⟩
  have HIS := Lib.hid his
  have hf5 : ∀ w', Below w.heap.size w w' → f = 0 → is = false → pg = false → 32 ≤ n → DoC w (doR L ⟨pk, pv, pg⟩ ver) (.returned (.tuple #[.slice none 0 0, .int .i64 5])) w' := fun w' hB h h1 h2 h3 => by
    have : doR L ⟨pk, pv, pg⟩ ver = ([], 5) := by
      unfold doR
      rw [hf, if_neg (by omega), if_neg (by simp [h2]), if_neg (by simp only; rw [his, h1]; decide), if_pos (by omega)]
    rw [this]; exact ⟨none, 0, rfl, ⟨fun j x hx => by simp at hx, Nat.le_refl _, by decide⟩, fun h => by simp at h, hB⟩
  have HF5 := Lib.hid hf5
  have hok : f = 0 → ¬ (is = false ∧ pg = false ∧ 32 ≤ n) → ∀ w' a' c' O, O = endF ⟨pk, pv, ver⟩ (foldF ⟨pk, pv, ver⟩ is pg L) → Below w.heap.size w w' → (Ros w' a' O ∧ O.length ≤ c' ∧ c' ≤ maxLen) → (0 < O.length → ∀ q, a' = some q → w.heap.size ≤ q.block) → DoC w (doR L ⟨pk, pv, pg⟩ ver) (.returned (.tuple #[.slice a' O.length c', .int .i64 0])) w' := fun h h1 w' a' c' O hO hB hR hq => by
    have := do_steps L ⟨pk, pv, pg⟩ ver (hf.trans h) (by simp only; rw [his, hn]; exact h1)
    simp only at this
    rw [his] at this
    rw [this, ← hO]
    exact ⟨a', c', rfl, hR, hq, hB⟩
  have HOK := Lib.hid hok
  clear hn hM hs hf hf2 his hf5 hok
  go_enter Try.func79, Try.ntmps79
  go_wp2_with fail
  refine (rFits_any 1 1 _ [⟨pk, pv, pg⟩] rfl (by decide) _ HP1.out).mono ?_
  rintro e w2 ⟨rfl, hb2⟩
  rw [HFX.out]
  have HB2 := Lib.hid (HB0.out.trans (hb2.mono HB0.out.size))
  have P2 := Lib.hid (P0.out.later hb2)
  clear hb2 HB0 P0 HP1
  rcases hf01 with rfl | rfl
  case inr =>
    go_wp2_with fail
    go_ret2
    exact HF2.out _ HB2.out (by decide)
  clear HF2 HFX
  have HF5' := Lib.hid (fun w' hB => HF5.out w' hB rfl)
  have HOK' := Lib.hid (HOK.out rfl)
  clear HF5 HOK
  obtain ⟨q0, q1, q2, _⟩ := P2.out
  go_wp2_with fail
  refine (rGet_any pk n c a L HN.out hln _ (HM.out.later HB2.out)).mono ?_
  rintro e w3 ⟨rfl, hb3⟩
  rw [HIS.out]
  generalize (getR pk L).getD z0 = g0
  have HB3 := Lib.hid (HB2.out.trans (hb3.mono HB2.out.size))
  have P3 := Lib.hid ((P2.out.later hb3).past (.cells #[.string g0.key, .string g0.val, .int .u64 (g0.ver : Nat)] 50))
  have HB4 := Lib.hid (HB3.out.alloc HB3.out.size (.cells #[.string g0.key, .string g0.val, .int .u64 (g0.ver : Nat)] 50))
  clear hb3 q0 q1 q2 P2 HB2
  go_upto_region 6 with (fail)
  generalize w3.alloc (.cells #[.string g0.key, .string g0.val, .int .u64 (g0.ver : Nat)] 50) = W at *
  obtain ⟨q0, q1, q2, ql⟩ := P3.out
  obtain ⟨bad, hbad⟩ : ∃ bad, (!is && (!pg && decide (32 ≤ n))) = bad := ⟨_, rfl⟩
  have HBAD := Lib.hid hbad
  go_cut [39] (fun v wx => v = .bool bad ∧ wx = W)
  case first =>
    cases is
    case true =>
      obtain rfl : false = bad := hbad
      go_wp2_with fail
      go_meet
      exact ⟨rfl, rfl⟩
    case false =>
      cases pg
      case true =>
        obtain rfl : false = bad := hbad
        go_wp2_with fail
        go_meet
        exact ⟨rfl, rfl⟩
      case false =>
        by_cases h32 : 32 ≤ n
        · obtain rfl : true = bad := by rw [← hbad, decide_eq_true h32]; rfl
          have g : (32 : Int) ≤ (n : Int) := by omega
          clear hbad
          go_wp2_with fail
          go_meet
          exact ⟨rfl, rfl⟩
        · obtain rfl : false = bad := by rw [← hbad, decide_eq_false h32]; rfl
          have g : ¬ (32 : Int) ≤ (n : Int) := by omega
          clear hbad
          go_wp2_with fail
          go_meet
          exact ⟨rfl, rfl⟩
  case rest =>
    obtain ⟨rfl, rfl⟩ := hcut
    clear hbad
    cases bad
    case true =>
      have hb3 : is = false ∧ pg = false ∧ 32 ≤ n := by
        have := HBAD.out
        simp only [Bool.and_eq_true, Bool.not_eq_true', decide_eq_true_eq] at this
        exact this
      have HF := Lib.hid (HF5'.out _ HB4.out hb3.1 hb3.2.1 hb3.2.2)
      clear hb3 HBAD
      go_wp2_with fail
      go_ret2
      exact HF.out
    have HOKK := Lib.hid (HOK'.out (fun h => by
      have := HBAD.out
      rw [h.1, h.2.1, decide_eq_true h.2.2] at this; cases this))
    clear HF5' HOK' HBAD
    obtain ⟨x12, hx12⟩ : ∃ x12, x12 = wc.heap.size := ⟨_, rfl⟩
    have R0 := Lib.hid (B3.new (w := wc) hx12 (.string pk) (.string pv) (.int .u64 (ver : Nat)) 50)
    have P4 := Lib.hid (P3.out.past (.cells #[.string pk, .string pv, .int .u64 (ver : Nat)] 50))
    have HB5 := Lib.hid (HB4.out.alloc HB4.out.size (.cells #[.string pk, .string pv, .int .u64 (ver : Nat)] 50))
    go_upto_block 0 with (fail)
    rw [← hx12]
    generalize wc.alloc (.cells #[.string pk, .string pv, .int .u64 (ver : Nat)] 50) = W1 at *
    clear q0 q1 q2 ql hx12 P3 HB4
    have hbase : w.heap.size ≤ W1.heap.size := HB5.out.size
    obtain ⟨y, hy⟩ : ∃ y : Ro, y = ⟨pk, pv, ver⟩ := ⟨_, rfl⟩
    have HY := Lib.hid hy
    rw [← hy] at HOKK
    have hyk : y.key = pk := by rw [hy]
    have HYK := Lib.hid hyk
    clear hy hyk
    go_wp2_with fail
    go_loopw [9, 13, 14] (fun ov dv iv wr => ∃ (k : Nat) (O : List Ro) (d : Bool) (a' : Option Addr) (c' : Nat), k ≤ n ∧ iv = .int .i64 k ∧ ov = .slice a' O.length c' ∧ dv = .bool d ∧ foldF y is pg (L.take k) = (O, d) ∧ CqR W1.heap.size wr (.slice a' O.length c') O ∧ Below W1.heap.size W1 wr) (fun _ _ iv _ => n - (intOf iv).toNat)
    case atStart => exact ⟨0, [], pg, none, 0, Nat.zero_le _, rfl, rfl, rfl, rfl, Cq.nil _ _ _, Below.refl _ _⟩
    case round =>
      obtain ⟨k, O, d, a', c', hk, rfl, rfl, rfl, hfo, hC, hB⟩ := hrel
      have HFO := Lib.hid hfo
      have hol : O.length ≤ k + 1 := by
        have := foldF_len y is pg (L.take k)
        rw [hfo, List.length_take] at this
        simp only at this
        have h1 : (if d then 0 else 1) ≤ 1 := by split <;> omega
        have h2 : (if pg then 0 else 1) ≤ 1 := by split <;> omega
        omega
      have hPB := P4.out.under P4.out.lt hB
      have hRB := R0.out.under R0.out.lt hB
      by_cases hlt : k < n
      · obtain ⟨x, hx⟩ : ∃ x, L[k]? = some x := ⟨_, List.getElem?_eq_getElem (by rw [HN.out]; exact hlt)⟩
        have i0 : (0 : Int) ≤ (k : Int) := by omega
        have i1 : (k : Int) < (n : Int) := by omega
        have hst : foldF y is pg (L.take (k + 1)) = stepF y is pg (O, d) x := by
          obtain ⟨h1, h2⟩ := List.getElem?_eq_some_iff.1 hx
          rw [List.take_succ_eq_append_getElem h1, foldF_snoc, hfo, h2]
        obtain ⟨b, off, rfl, hbb, p0, p1, p2⟩ := Ros.cells (HM.out.later (HB5.out.trans (hB.mono hbase))) hx
        obtain ⟨s1, _⟩ := HS.out.at hx
        have HV := Lib.hid (show DoS W1 w.heap.size x12 b (off + k * 3) pk pv pg ver (.slice a' O.length c') O x.key x.val x.ver wr from ⟨hB, hC, hPB, hRB, p0, p1, p2⟩)
        have HST := Lib.hid hst
        have HXX := Lib.hid hx
        obtain ⟨xk, xv, xn⟩ := x
        simp only at p0 p1 p2 s1 HV HST
        obtain ⟨q0, q1, q2, _⟩ := hPB
        clear hx hst hfo hC hB hRB
        by_cases he : xk = pk
        · subst he
          cases pg
          case true =>
            have HN1 := Lib.hid (show foldF y is true (L.take (k + 1)) = (O, d) by rw [HST.out, stepF, if_pos HYK.out.symm]; rfl)
            go_wp2_with fail
            go_quiet (fail)
            have hv := HV.out.drew nq
            generalize wr.drewN nq = wv at hv ⊢
            clear q0 q1 q2 p0 p1 p2
            have q2 := hv.hP.c2
            go_wp2_with fail
            go_roundw
            case rel => exact ⟨k + 1, O, d, a', c', by omega, by go_num, rfl, rfl, HN1.out, hv.hC, hv.hB⟩
            case measure => simp [intOf]; omega
          case false =>
            cases d
            case true =>
              have HN1 := Lib.hid (show foldF y is false (L.take (k + 1)) = (O ++ [⟨xk, xv, xn⟩], true) by rw [HST.out, stepF, if_pos HYK.out.symm]; rfl)
              go_wp2_with fail
              go_quiet (fail)
              have hv := HV.out.drew nq
              generalize wr.drewN nq = wv at hv ⊢
              clear q0 q1 q2 p0 p1 p2
              have q2 := hv.hP.c2
              obtain ⟨a6, c6, w6, hr6, hc6, hb6⟩ := appR W1.heap.size wv _ O hv.hC ⟨xk, xv, xn⟩ (by omega) hv.hB.size
              have HR6 := Lib.hid hr6
              have HC6 := Lib.hid hc6
              have HB6 := Lib.hid (hv.hB.trans hb6)
              have p0 := hv.p0
              have p1 := hv.p1
              have p2 := hv.p2
              clear hr6 hc6 hb6 hv
              go_wp2_with (at_builtin; refine Lib.wpList_append_run _ rfl _ _ 22 22 rfl _ (.slice (some ⟨wv.heap.size, 0, none⟩) 1 1) rfl rfl _ _ HR6.out ?_)
              go_roundw
              case rel => exact ⟨k + 1, O ++ [⟨xk, xv, xn⟩], true, a6, c6, by omega, by go_num, by simp, rfl, HN1.out, by simpa using HC6.out, HB6.out⟩
              case measure => simp [intOf]; omega
            case false =>
              have HN1 := Lib.hid (show foldF y is false (L.take (k + 1)) = (O ++ [y], true) by rw [HST.out, stepF, if_pos HYK.out.symm]; rfl)
              go_wp2_with fail
              go_quiet (fail)
              have hv := HV.out.drew nq
              generalize wr.drewN nq = wv at hv ⊢
              clear q0 q1 q2 p0 p1 p2
              have q2 := hv.hP.c2
              have r0 := hv.hR.c0
              have r1 := hv.hR.c1
              have r2 := hv.hR.c2
              obtain ⟨a6, c6, w6, hr6, hc6, hb6⟩ := appR W1.heap.size wv _ O hv.hC ⟨xk, pv, ver⟩ (by omega) hv.hB.size
              have HR6 := Lib.hid hr6
              have HC6 := Lib.hid hc6
              have HB6 := Lib.hid (hv.hB.trans hb6)
              clear hr6 hc6 hb6 hv
              go_wp2_with (at_builtin; refine Lib.wpList_append_run _ rfl _ _ 22 22 rfl _ (.slice (some ⟨wv.heap.size, 0, none⟩) 1 1) rfl rfl _ _ HR6.out ?_)
              go_roundw
              case rel => exact ⟨k + 1, O ++ [⟨xk, pv, ver⟩], true, a6, c6, by omega, by go_num, by simp, rfl, by rw [HN1.out, HY.out], by simpa using HC6.out, HB6.out⟩
              case measure => simp [intOf]; omega
        · have e1 := ba_ne he
          have e2 := ba_ne' he
          have hey : ¬ xk = y.key := fun e => he (e.trans HYK.out)
          have HEY := Lib.hid hey
          clear hey
          cases is
          case true =>
            have HN1 := Lib.hid (show foldF y true pg (L.take (k + 1)) = (O ++ [⟨xk, xv, xn⟩], d) by rw [HST.out, stepF, if_neg HEY.out]; rfl)
            go_wp2_with fail
            go_quiet (fail)
            have hv := HV.out.drew nq
            generalize wr.drewN nq = wv at hv ⊢
            have q0 := hv.hP.c0
            have q1 := hv.hP.c1
            have q2 := hv.hP.c2
            have p0 := hv.p0
            go_wp2_with fail
            go_quiet (fail)
            clear q0 q1 q2 p0
            have hv := hv.drew nq
            generalize wv.drewN nq = wz at hv ⊢
            obtain ⟨a6, c6, w6, hr6, hc6, hb6⟩ := appR W1.heap.size wz _ O hv.hC ⟨xk, xv, xn⟩ (by omega) hv.hB.size
            have HR6 := Lib.hid hr6
            have HC6 := Lib.hid hc6
            have HB6 := Lib.hid (hv.hB.trans hb6)
            have p0 := hv.p0
            have p1 := hv.p1
            have p2 := hv.p2
            clear hr6 hc6 hb6 hv
            go_wp2_with (at_builtin; refine Lib.wpList_append_run _ rfl _ _ 22 22 rfl _ (.slice (some ⟨wz.heap.size, 0, none⟩) 1 1) rfl rfl _ _ HR6.out ?_)
            go_roundw
            case rel => exact ⟨k + 1, O ++ [⟨xk, xv, xn⟩], d, a6, c6, by omega, by go_num, by simp, rfl, HN1.out, by simpa using HC6.out, HB6.out⟩
            case measure => simp [intOf]; omega
          case false =>
            cases d
            case true =>
              have HN1 := Lib.hid (show foldF y false pg (L.take (k + 1)) = (O ++ [⟨xk, xv, xn⟩], true) by rw [HST.out, stepF, if_neg HEY.out]; rfl)
              go_wp2_with fail
              go_quiet (fail)
              have hv := HV.out.drew nq
              generalize wr.drewN nq = wv at hv ⊢
              have q0 := hv.hP.c0
              have q1 := hv.hP.c1
              have q2 := hv.hP.c2
              have p0 := hv.p0
              go_wp2_with fail
              go_quiet (fail)
              clear q0 q1 q2 p0
              have hv := hv.drew nq
              generalize wv.drewN nq = wz at hv ⊢
              obtain ⟨a6, c6, w6, hr6, hc6, hb6⟩ := appR W1.heap.size wz _ O hv.hC ⟨xk, xv, xn⟩ (by omega) hv.hB.size
              have HR6 := Lib.hid hr6
              have HC6 := Lib.hid hc6
              have HB6 := Lib.hid (hv.hB.trans hb6)
              have p0 := hv.p0
              have p1 := hv.p1
              have p2 := hv.p2
              clear hr6 hc6 hb6 hv
              go_wp2_with (at_builtin; refine Lib.wpList_append_run _ rfl _ _ 22 22 rfl _ (.slice (some ⟨wz.heap.size, 0, none⟩) 1 1) rfl rfl _ _ HR6.out ?_)
              go_roundw
              case rel => exact ⟨k + 1, O ++ [⟨xk, xv, xn⟩], true, a6, c6, by omega, by go_num, by simp, rfl, HN1.out, by simpa using HC6.out, HB6.out⟩
              case measure => simp [intOf]; omega
            case false =>
              obtain ⟨l, hl2⟩ : ∃ l, lessB pk xk = l := ⟨_, rfl⟩
              have HLS := Lib.hid (fun w' => rLess_q pk xk l hl2 hpk s1 w')
              have HLB := Lib.hid (show lessB y.key xk = l by rw [HYK.out]; exact hl2)
              clear hl2
              cases l
              case false =>
                have HN1 := Lib.hid (show foldF y false pg (L.take (k + 1)) = (O ++ [⟨xk, xv, xn⟩], false) by rw [HST.out, stepF, if_neg HEY.out]; simp only; rw [HLB.out]; rfl)
                go_wp2_with fail
                go_quiet (fail)
                have hv := HV.out.drew nq
                generalize wr.drewN nq = wv at hv ⊢
                have q0 := hv.hP.c0
                have q1 := hv.hP.c1
                have q2 := hv.hP.c2
                have p0 := hv.p0
                go_wp2_with fail
                go_quiet ((go_at_call 55; exact Calls.quiet_of (HLS.out _)))
                clear q0 q1 q2 p0
                have hv := hv.drew nq
                generalize wv.drewN nq = wz at hv ⊢
                obtain ⟨a6, c6, w6, hr6, hc6, hb6⟩ := appR W1.heap.size wz _ O hv.hC ⟨xk, xv, xn⟩ (by omega) hv.hB.size
                have HR6 := Lib.hid hr6
                have HC6 := Lib.hid hc6
                have HB6 := Lib.hid (hv.hB.trans hb6)
                have p0 := hv.p0
                have p1 := hv.p1
                have p2 := hv.p2
                clear hr6 hc6 hb6 hv
                go_wp2_with (at_builtin; refine Lib.wpList_append_run _ rfl _ _ 22 22 rfl _ (.slice (some ⟨wz.heap.size, 0, none⟩) 1 1) rfl rfl _ _ HR6.out ?_)
                go_roundw
                case rel => exact ⟨k + 1, O ++ [⟨xk, xv, xn⟩], false, a6, c6, by omega, by go_num, by simp, rfl, HN1.out, by simpa using HC6.out, HB6.out⟩
                case measure => simp [intOf]; omega
              case true =>
                have HN1 := Lib.hid (show foldF y false pg (L.take (k + 1)) = (O ++ [y] ++ [⟨xk, xv, xn⟩], true) by rw [HST.out, stepF, if_neg HEY.out]; simp only; rw [HLB.out]; rfl)
                go_wp2_with fail
                go_quiet (fail)
                have hv := HV.out.drew nq
                generalize wr.drewN nq = wv at hv ⊢
                have q0 := hv.hP.c0
                have q1 := hv.hP.c1
                have q2 := hv.hP.c2
                have p0 := hv.p0
                go_wp2_with fail
                go_quiet ((go_at_call 55; exact Calls.quiet_of (HLS.out _)))
                clear q0 q1 q2 p0
                have hv := hv.drew nq
                generalize wv.drewN nq = wz at hv ⊢
                have r0 := hv.hR.c0
                have r1 := hv.hR.c1
                have r2 := hv.hR.c2
                obtain ⟨a6, c6, w6, hr6, hc6, hb6⟩ := appR W1.heap.size wz _ O hv.hC ⟨pk, pv, ver⟩ (by omega) hv.hB.size
                have HR6 := Lib.hid hr6
                have hB6 := hv.hB.trans hb6
                obtain ⟨b', off', e', _, p0, p1, p2⟩ := Ros.cells (HM.out.later (HB5.out.trans (hB6.mono hbase))) HXX.out
                cases e'
                have hlen6 : (O ++ [(⟨pk, pv, ver⟩ : Ro)]).length = O.length + 1 := by simp
                rw [← hlen6] at hc6
                obtain ⟨a7, c7, w7, hr7, hc7, hb7⟩ := appR W1.heap.size w6 _ (O ++ [⟨pk, pv, ver⟩]) hc6 ⟨xk, xv, xn⟩ (by rw [hlen6]; omega) hB6.size
                rw [hlen6] at hr7 hc7
                have HR7 := Lib.hid hr7
                have HC7 := Lib.hid hc7
                have HB7 := Lib.hid (hB6.trans hb7)
                clear hr6 hc6 hb6 hv hr7 hc7 hb7 hlen6 hB6
                go_upto_region 21 with (at_builtin; refine Lib.wpList_append_run _ rfl _ _ 22 22 rfl _ (.slice (some ⟨wz.heap.size, 0, none⟩) 1 1) rfl rfl _ _ HR6.out ?_)
                clear r0 r1 r2
                go_wp2_with (at_builtin; refine Lib.wpList_append_run _ rfl _ _ 22 22 rfl _ (.slice (some ⟨w6.heap.size, 0, none⟩) 1 1) rfl rfl _ _ HR7.out ?_)
                go_roundw
                case rel => exact ⟨k + 1, O ++ [⟨pk, pv, ver⟩] ++ [⟨xk, xv, xn⟩], true, a7, c7, by omega, by go_num, by simp, rfl, by rw [HN1.out, HY.out], by simpa using HC7.out, HB7.out⟩
                case measure => simp [intOf]; omega
      · have i1 : ¬ (k : Int) < (n : Int) := by omega
        have hfull : foldF y is pg L = (O, d) := by
          have h := hfo
          rw [List.take_of_length_le (by rw [HN.out]; omega)] at h; exact h
        have HBF := Lib.hid (HB5.out.trans (hB.mono hbase))
        cases d
        case true =>
          have HE := Lib.hid (show O = endF y (foldF y is pg L) by rw [hfull]; rfl)
          obtain ⟨a2, c2, e2, hR2, hq2, hcc⟩ := hC.form roT
          obtain ⟨rfl, _, rfl⟩ := Value.slice.inj e2
          have HF := Lib.hid (HOKK.out wr a' c' O HE.out HBF.out ⟨hR2, hcc⟩ (fun h q hq => Nat.le_trans hbase (hq2 h q hq)))
          clear hfull hfo hC hB hR2 hq2 hcc e2 hPB hRB
          go_wp2_with fail
          go_ret2
          exact HF.out
        case false =>
          have HE := Lib.hid (show O ++ [y] = endF y (foldF y is pg L) by rw [hfull]; rfl)
          obtain ⟨a6, c6, w6, hr6, hc6, hb6⟩ := appR W1.heap.size wr _ O hC ⟨pk, pv, ver⟩ (by omega) hB.size
          obtain ⟨a2, c2, e2, hR2, hq2, hcc⟩ := hc6.form roT
          have hlen6 : (O ++ [(⟨pk, pv, ver⟩ : Ro)]).length = O.length + 1 := by simp
          rw [hlen6] at e2
          obtain ⟨rfl, _, rfl⟩ := Value.slice.inj e2
          have HR6 := Lib.hid hr6
          have HF := Lib.hid (HOKK.out w6 a6 c6 (O ++ [⟨pk, pv, ver⟩]) (by rw [← HE.out, HY.out]) (HB5.out.trans ((hB.trans hb6).mono hbase)) ⟨hR2, hcc⟩ (fun h q hq => Nat.le_trans hbase (hq2 h q hq)))
          rw [hlen6] at HF
          obtain ⟨r0, r1, r2, _⟩ := hRB
          clear hfull hfo hC hB hR2 hq2 hcc e2 hr6 hc6 hb6 hPB hlen6
          go_wp2_with (at_builtin; refine Lib.wpList_append_run _ rfl _ _ 22 22 rfl _ (.slice (some ⟨wr.heap.size, 0, none⟩) 1 1) rfl rfl _ _ HR6.out ?_)
          go_ret2
          exact HF.out
end Go.Proofs.Ythgnecggdlamfaa
/- A list of puts: the document's All, with its rows' room. -/
namespace Go.Proofs.Ythgnecggdlamfaa
open Go.RowKit

/-- What All answers. -/
def AlC (w : World) (r : List Ro × Nat) (e : Ending) (w' : World) : Prop := ∃ (a : Option Addr) (c : Nat), e = .returned (.tuple #[.slice a r.1.length c, .int .i64 (r.2 : Nat)]) ∧ (Ros w' a r.1 ∧ r.1.length ≤ c ∧ c ≤ maxLen) ∧ Below w.heap.size w w'
set_option maxRecDepth 100000 in
set_option maxHeartbeats 8000000 in
theorem rAllC_any (n c m e ver : Nat) (a a2 : Option Addr) (L : List Ro) (P : List Pu) (hn : L.length = n) (hl : n * 40 ≤ 140737488351232) (hs : smallR L) (hm : P.length = m) (hl2 : m ≤ 140737488351232) (hsp : smallP P) (hcp : n ≤ c ∧ c ≤ maxLen) (w : World) (hM : Ros w a L) (hP : Pus w a2 P) :
    Calls Try.prog 53 #[.slice a n c, .slice a2 m e, .int .u64 ver] w (AlC w (allR L P ver)) := by
  have HN := Lib.hid hn
  have HCP := Lib.hid hcp
  have HM := Lib.hid hM
  have HS := Lib.hid hs
  have HP := Lib.hid hP
  have HM2 := Lib.hid hm
  have HSP := Lib.hid hsp
  obtain ⟨f, hf⟩ : ∃ f, fitsX P = f := ⟨_, rfl⟩
  have HFX := Lib.hid hf
  by_cases hf0 : f = 0
  case neg =>
    have HF := Lib.hid (show ∀ w', Below w.heap.size w w' → AlC w (allR L P ver) (.returned (.tuple #[.slice none 0 0, .int .i64 (f : Nat)])) w' from fun w' hB => by
      have : allR L P ver = ([], f) := by unfold allR; rw [hf, if_pos hf0]
      rw [this]; exact ⟨none, 0, rfl, ⟨fun j x hx => by simp at hx, Nat.le_refl _, by decide⟩, hB⟩)
    have g : ((f : Int) == 0) = false := by simp; omega
    have g2 : ((f : Int) != 0) = true := by simp; omega
    clear hn hM hs hP hm hsp hcp hf hf0
    go_enter Try.func53, Try.ntmps53
    go_wp2_with fail
    refine (rFits_any m e a2 P HM2.out hl2 _ HP.out).mono ?_
    rintro e w2 ⟨rfl, hb2⟩
    rw [HFX.out]
    have HB := Lib.hid hb2
    clear hb2
    go_wp2_with fail
    go_ret2
    exact HF.out _ HB.out
  subst hf0
  have hall := allR_st L P ver hf
  have HALL := Lib.hid hall
  clear hn hM hs hP hm hsp hcp hf hall
  go_enter Try.func53, Try.ntmps53
  go_wp2_with fail
  refine (rFits_any m e a2 P HM2.out hl2 _ HP.out).mono ?_
  rintro e w2 ⟨rfl, hb2⟩
  rw [HFX.out]
  have HB2 := Lib.hid hb2
  clear hb2
  go_wp2_with fail
  go_loopw [0, 9] (fun lv tv wr => ∃ (t : Nat) (M : List Ro) (a' : Option Addr) (c' : Nat), t ≤ 2 ∧ tv = .int .i64 t ∧ lv = .slice a' M.length c' ∧ stA ver L P t = (M, 0) ∧ (1 ≤ t → (stA ver L P 1).2 = 0) ∧ smallR M ∧ M.length ≤ max n 32 ∧ (Ros wr a' M ∧ M.length ≤ c' ∧ c' ≤ maxLen) ∧ Below w.heap.size w wr) (fun _ tv _ => 2 - (intOf tv).toNat)
  case atStart => exact ⟨0, L, a, c, by omega, rfl, by rw [HN.out], rfl, fun h => by omega, HS.out, by rw [HN.out]; omega, ⟨HM.out.later HB2.out, by rw [HN.out]; exact HCP.out.1, HCP.out.2⟩, HB2.out⟩
  case round =>
    obtain ⟨t, M, a', c', ht, rfl, rfl, hst, hst1, hsm, hlen, hMr, hB⟩ := hrel
    have HST := Lib.hid hst
    have HST1 := Lib.hid hst1
    have HSM := Lib.hid hsm
    have HLEN := Lib.hid hlen
    have HMR := Lib.hid hMr
    have HB := Lib.hid hB
    clear hst hst1 hsm hlen hMr hB
    by_cases ht2 : t < 2
    · have gt : (t : Int) < 2 := by omega
      go_wp2_with fail
      go_loopw [0, 10] (fun lv iv wx => ∃ (i : Nat) (M' : List Ro) (a' : Option Addr) (c' : Nat), i ≤ m ∧ iv = .int .i64 i ∧ lv = .slice a' M'.length c' ∧ seqR ver M ((P.take i).filter (sel t)) = (M', 0) ∧ smallR M' ∧ M'.length ≤ max n 32 ∧ (Ros wx a' M' ∧ M'.length ≤ c' ∧ c' ≤ maxLen) ∧ Below w.heap.size w wx) (fun _ iv _ => m - (intOf iv).toNat)
      case atStart => exact ⟨0, M, a', c', Nat.zero_le _, rfl, rfl, rfl, HSM.out, HLEN.out, HMR.out, HB.out⟩
      case round =>
        obtain ⟨i, M', a5, c5, hi, rfl, rfl, hse, hsm, hlen, hMr, hBx⟩ := hrel
        by_cases hlt : i < m
        · obtain ⟨p, hp⟩ : ∃ p, P[i]? = some p := ⟨_, List.getElem?_eq_getElem (by rw [HM2.out]; exact hlt)⟩
          have i0 : (0 : Int) ≤ (i : Int) := by omega
          have i1 : (i : Int) < (m : Int) := by omega
          obtain ⟨b, off, rfl, hb, p0, p1, p2⟩ := Pus.cells (HP.out.later hBx) hp
          have hps := HSP.out.at hp
          have htf := take_filter (sel t) hp
          have hfs := filter_split (sel t) hp
          obtain ⟨pk, pv, pg⟩ := p
          have hslt : ∀ tb : Bool, ((t : Int) == 0) = tb → sel t ⟨pk, pv, pg⟩ = (pg == tb) := fun tb h => by
            unfold sel
            have : decide (t = 0) = tb := by
              rw [← h]
              by_cases h0 : t = 0
              · simp [h0]
              · have h1 : ((t : Int) == 0) = false := by simp; omega
                rw [h1, decide_eq_false h0]
            rw [this]
          have HERR := Lib.hid (show ∀ (x : Nat) (w' : World), x ≠ 0 → seqR ver M ((P.take (i + 1)).filter (sel t)) = ([], x) → Below w.heap.size w w' → AlC w (allR L P ver) (.returned (.tuple #[.slice none 0 0, .int .i64 (x : Nat)])) w' from fun x w' hx h hB => by
            have hfull : seqR ver M (P.filter (sel t)) = ([], x) := by
              rw [hfs, seqR_app, h, if_neg hx]
            have hnext : stA ver L P (t + 1) = ([], x) := by
              show seqR ver (stA ver L P t).1 (P.filter (sel t)) = _
              rw [HST.out]; exact hfull
            have : allR L P ver = ([], x) := by
              rw [HALL.out]
              have ht01 : t = 0 ∨ t = 1 := by omega
              rcases ht01 with rfl | rfl
              · rw [hnext, if_neg hx]
              · rw [if_pos (HST1.out (Nat.le_refl _)), hnext]
            rw [this]; exact ⟨none, 0, rfl, ⟨fun j x hx => by simp at hx, Nat.le_refl _, by decide⟩, hB⟩)
          obtain ⟨tb, htb⟩ : ∃ tb, ((t : Int) == 0) = tb := ⟨_, rfl⟩
          replace hslt := hslt tb htb
          cases pg
          case false =>
            cases tb
            case false =>
              have hsl1 : sel t ⟨pk, pv, false⟩ = true := by rw [hslt]; rfl
              have htf2 : (P.take (i + 1)).filter (sel t) = (P.take i).filter (sel t) ++ [⟨pk, pv, false⟩] := by rw [htf, hsl1]; rfl
              obtain ⟨D, hD⟩ : ∃ D, doR M' ⟨pk, pv, false⟩ ver = D := ⟨_, rfl⟩
              have hsq : seqR ver M ((P.take (i + 1)).filter (sel t)) = if D.2 = 0 then (D.1, 0) else ([], D.2) := by
                rw [htf2, seqR_app, hse, if_pos rfl]; simp only [seqR]; rw [hD]
              have hDs := doR_small (p := ⟨pk, pv, false⟩) (ver := ver) hsm hps
              have hDl := doR_len32 M' ⟨pk, pv, false⟩ ver
              rw [hD] at hDs hDl
              have C := Lib.hid (rDoC_any M'.length c5 ver a5 M' ⟨pk, pv, false⟩ rfl (by omega) hsm hps.1 _ hMr.1)
              rw [hD] at C
              obtain ⟨D1, D2⟩ := D
              have HSQ := Lib.hid hsq
              have HDS := Lib.hid hDs
              have HDL := Lib.hid (show D1.length ≤ max n 32 from Nat.le_trans hDl (by omega))
              have HBX := Lib.hid hBx
              clear htf htf2 hfs hsl1 hslt hD hsq hDs hDl hse hsm hlen hMr hBx hp hps
              go_wp2_with fail
              refine C.out.mono ?_
              rintro e1 w5 ⟨a6, c6, rfl, hR6, _, hb5⟩
              have HR6 := Lib.hid hR6
              have HB6 := Lib.hid (HBX.out.trans (hb5.mono HBX.out.size))
              clear hR6 hb5 C
              by_cases hD0 : D2 = 0
              · subst hD0
                have HS3 := Lib.hid (show seqR ver M ((P.take (i + 1)).filter (sel t)) = (D1, 0) by rw [HSQ.out]; rfl)
                go_wp2_with fail
                go_roundw
                case rel => exact ⟨i + 1, D1, a6, c6, by omega, by go_num, rfl, HS3.out, HDS.out, HDL.out, HR6.out, HB6.out⟩
                case measure => simp [intOf]; omega
              · have g5 : ((D2 : Int) == 0) = false := by simp; omega
                have g6 : ((D2 : Int) != 0) = true := by simp; omega
                have HF := Lib.hid (HERR.out D2 w5 hD0 (by rw [HSQ.out, if_neg hD0]) HB6.out)
                clear hD0
                go_wp2_with fail
                go_ret2
                exact HF.out
            case true =>
              have hsl1 : sel t ⟨pk, pv, false⟩ = false := by rw [hslt]; rfl
              have HSQ := Lib.hid (show seqR ver M ((P.take (i + 1)).filter (sel t)) = (M', 0) by rw [htf, hsl1]; simpa using hse)
              have HSM2 := Lib.hid hsm
              have HLEN2 := Lib.hid hlen
              have HMR2 := Lib.hid hMr
              have HBX := Lib.hid hBx
              clear htf hfs hsl1 hslt hse hsm hlen hMr hBx hp hps
              go_wp2_with fail
              go_roundw
              case rel => exact ⟨i + 1, M', a5, c5, by omega, by go_num, rfl, HSQ.out, HSM2.out, HLEN2.out, HMR2.out, HBX.out⟩
              case measure => simp [intOf]; omega
          case true =>
            cases tb
            case false =>
              have hsl1 : sel t ⟨pk, pv, true⟩ = false := by rw [hslt]; rfl
              have HSQ := Lib.hid (show seqR ver M ((P.take (i + 1)).filter (sel t)) = (M', 0) by rw [htf, hsl1]; simpa using hse)
              have HSM2 := Lib.hid hsm
              have HLEN2 := Lib.hid hlen
              have HMR2 := Lib.hid hMr
              have HBX := Lib.hid hBx
              clear htf hfs hsl1 hslt hse hsm hlen hMr hBx hp hps
              go_wp2_with fail
              go_roundw
              case rel => exact ⟨i + 1, M', a5, c5, by omega, by go_num, rfl, HSQ.out, HSM2.out, HLEN2.out, HMR2.out, HBX.out⟩
              case measure => simp [intOf]; omega
            case true =>
              have hsl1 : sel t ⟨pk, pv, true⟩ = true := by rw [hslt]; rfl
              have htf2 : (P.take (i + 1)).filter (sel t) = (P.take i).filter (sel t) ++ [⟨pk, pv, true⟩] := by rw [htf, hsl1]; rfl
              obtain ⟨D, hD⟩ : ∃ D, doR M' ⟨pk, pv, true⟩ ver = D := ⟨_, rfl⟩
              have hsq : seqR ver M ((P.take (i + 1)).filter (sel t)) = if D.2 = 0 then (D.1, 0) else ([], D.2) := by
                rw [htf2, seqR_app, hse, if_pos rfl]; simp only [seqR]; rw [hD]
              have hDs := doR_small (p := ⟨pk, pv, true⟩) (ver := ver) hsm hps
              have hDl := doR_len32 M' ⟨pk, pv, true⟩ ver
              rw [hD] at hDs hDl
              have C := Lib.hid (rDoC_any M'.length c5 ver a5 M' ⟨pk, pv, true⟩ rfl (by omega) hsm hps.1 _ hMr.1)
              rw [hD] at C
              obtain ⟨D1, D2⟩ := D
              have HSQ := Lib.hid hsq
              have HDS := Lib.hid hDs
              have HDL := Lib.hid (show D1.length ≤ max n 32 from Nat.le_trans hDl (by omega))
              have HBX := Lib.hid hBx
              clear htf htf2 hfs hsl1 hslt hD hsq hDs hDl hse hsm hlen hMr hBx hp hps
              go_wp2_with fail
              refine C.out.mono ?_
              rintro e1 w5 ⟨a6, c6, rfl, hR6, _, hb5⟩
              have HR6 := Lib.hid hR6
              have HB6 := Lib.hid (HBX.out.trans (hb5.mono HBX.out.size))
              clear hR6 hb5 C
              by_cases hD0 : D2 = 0
              · subst hD0
                have HS3 := Lib.hid (show seqR ver M ((P.take (i + 1)).filter (sel t)) = (D1, 0) by rw [HSQ.out]; rfl)
                go_wp2_with fail
                go_roundw
                case rel => exact ⟨i + 1, D1, a6, c6, by omega, by go_num, rfl, HS3.out, HDS.out, HDL.out, HR6.out, HB6.out⟩
                case measure => simp [intOf]; omega
              · have g5 : ((D2 : Int) == 0) = false := by simp; omega
                have g6 : ((D2 : Int) != 0) = true := by simp; omega
                have HF := Lib.hid (HERR.out D2 w5 hD0 (by rw [HSQ.out, if_neg hD0]) HB6.out)
                clear hD0
                go_wp2_with fail
                go_ret2
                exact HF.out
        · have i1 : ¬ (i : Int) < (m : Int) := by omega
          have hnext : stA ver L P (t + 1) = (M', 0) := by
            show seqR ver (stA ver L P t).1 (P.filter (sel t)) = _
            rw [HST.out]
            rw [List.take_of_length_le (by rw [HM2.out]; omega)] at hse
            exact hse
          have HNX := Lib.hid hnext
          have HN1 := Lib.hid (show 1 ≤ t + 1 → (stA ver L P 1).2 = 0 from fun _ => by
            rcases Nat.eq_zero_or_pos t with rfl | h
            · rw [hnext]
            · exact HST1.out h)
          have HSM2 := Lib.hid hsm
          have HLEN2 := Lib.hid hlen
          have HMR2 := Lib.hid hMr
          have HBX := Lib.hid hBx
          clear hnext hse hsm hlen hMr hBx
          go_wp2_with fail
          go_roundw
          case rel => exact ⟨t + 1, M', a5, c5, by omega, by go_num, rfl, HNX.out, HN1.out, HSM2.out, HLEN2.out, HMR2.out, HBX.out⟩
          case measure => simp [intOf]; omega
    · have gt : ¬ (t : Int) < 2 := by omega
      have ht22 : t = 2 := by omega
      have HF := Lib.hid (show AlC w (allR L P ver) (.returned (.tuple #[.slice a' M.length c', .int .i64 0])) wr by
        have h2 := HST.out
        rw [ht22] at h2
        have : allR L P ver = (M, 0) := by rw [HALL.out, if_pos (HST1.out (by omega)), h2]
        rw [this]; exact ⟨a', c', rfl, HMR.out, HB.out⟩)
      clear ht22
      go_wp2_with fail
      go_ret2
      exact HF.out
end Go.Proofs.Ythgnecggdlamfaa
