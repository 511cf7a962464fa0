/- BallotOne: of two nodes that seats grant, each by a majority, in one term, both are one. -/
import Derived.Test.YtmcmanjniloeaaaWo
namespace Go.Proofs.Ytmcmanjniloeaaa
open Go.RowKit

set_option maxRecDepth 100000 in
set_option maxHeartbeats 16000000 in
theorem law_BallotOne (n c n2 c2 m d q e : Nat) (tm : Nat) (a a2 a3 a4 : Option Addr) (V L2 : List Nat) (A : List Ak) (O : List Int) (hn : V.length = n) (hl : n * 8 ≤ 140737488351232) (hn2 : L2.length = n2) (hl2 : n2 * 8 ≤ 140737488351232) (hm : A.length = m) (hlm : m * 40 ≤ 140737488351232) (hq : O.length = q) (hlq : q * 8 ≤ 140737488351232) (hc : n ≤ c) (hcm : c ≤ 9223372036854775807) (w : World) (hV : Us w a V) (hU : Us w a2 L2) (hA : Aks w a3 A) (hO : Rw 1 inC w a4 O) (hOb : ∀ z ∈ O, -9223372036854775808 ≤ z ∧ z ≤ 9223372036854775807) :
    Calls Try.prog 6 #[.agg #[.slice a n c, .slice a2 n2 c2, .slice a3 m d, .slice a4 q e, .int .u64 tm]] w fun e w' => e = .returned (.bool true) ∧ Below w.heap.size w w' := by
  have HW0 := Lib.hid (show Below w.heap.size w ((w.alloc (.cells #[.slice a n c, .slice a2 n2 c2, .slice a3 m d, .slice a4 q e, .int .u64 tm] 44)).alloc (.cells #[.slice a n c, .slice a2 n2 c2] 41)) by go_grown)
  have HC0 := Lib.hid (Cb.new (w := w.alloc (.cells #[.slice a n c, .slice a2 n2 c2, .slice a3 m d, .slice a4 q e, .int .u64 tm] 44)) (x := w.heap.size + 1) (by simp) (.slice a n c) (.slice a2 n2 c2) 41)
  have HV := Lib.hid hV
  have HU := Lib.hid hU
  have HA := Lib.hid hA
  have HO := Lib.hid hO
  have HN := Lib.hid hn
  have HN2 := Lib.hid hn2
  have HM := Lib.hid hm
  have HQ := Lib.hid hq
  have HOB := Lib.hid hOb
  clear hV hU hA hO hn hn2 hm hq hOb
  go_enter Try.func6, Try.ntmps6
  go_wp2_with fail
  generalize ((w.alloc (.cells #[.slice a n c, .slice a2 n2 c2, .slice a3 m d, .slice a4 q e, .int .u64 tm] 44)).alloc (.cells #[.slice a n c, .slice a2 n2 c2] 41)) = W at *
  refine (shown_any _).mono ?_
  rintro e1 w1 ⟨rfl, hb1⟩
  have HC1 := Lib.hid (HC0.out.later hb1)
  have HW1 := Lib.hid (HW0.out.trans (hb1.mono HW0.out.size))
  clear hb1 HC0 HW0
  obtain ⟨c0, c1, cz, cl⟩ := HC1.out
  go_wp2_with fail
  refine (rMay_any n c n2 c2 a a2 V L2 HN.out (by omega) HN2.out (by omega) _ (HV.out.later HW1.out) (HU.out.later HW1.out)).mono ?_
  rintro e2 w2 ⟨rfl, hb2⟩
  have HC2 := Lib.hid (HC1.out.later hb2)
  have HW2 := Lib.hid (HW1.out.trans (hb2.mono HW1.out.size))
  clear hb2 c0 c1 cz cl HC1 HW1
  obtain ⟨mb, hmb⟩ : ∃ g, mayB V L2 = g := ⟨_, rfl⟩
  rw [hmb]
  cases mb
  · go_wp2_with fail
    go_ret
    exact ⟨by first | rfl | simp, HW2.out⟩
  have HMN := Lib.hid (may_nodup hmb)
  have hn0 : 0 < n ∧ n ≤ 7 := by have := HMN.out; have := HN.out; omega
  clear hmb
  go_wp2_with fail
  go_loopw [9, 11] (fun sv i wr => ∃ k : Nat, k ≤ n ∧ i = .int .i64 k ∧ Cq 24 5 seC w2.heap.size wr sv (List.replicate k ⟨0, 0, 0, 0, false⟩) ∧ Below w2.heap.size w2 wr) (fun _ i _ => n - (intOf i).toNat)
  case atStart => exact ⟨0, Nat.zero_le _, rfl, Cq.nil _ _ none, Below.refl _ _⟩
  case round =>
    obtain ⟨k, hk, rfl, hS, hB⟩ := hrel
    have HS := Lib.hid hS
    have HB := Lib.hid hB
    have HC3 := Lib.hid (HC2.out.later hB)
    obtain ⟨c0, c1, cz, cl⟩ := HC3.out
    clear hS hB
    by_cases hlt : k < n
    · have BA : Below wr.heap.size wr (wr.alloc (.cells #[.int .u64 0, .int .u64 0, .int .u64 0, .int .u64 0, .bool false] 24)) := by go_grown
      obtain ⟨v2, w5, hr, hc5, hb5⟩ := app_rw seT w2.heap.size _ 46 u9 _ (HS.out.later BA) (some ⟨wr.heap.size, 0, none⟩) 1 1 [(⟨0, 0, 0, 0, false⟩ : Se)] rfl (rw_one (f := seC) wr rfl (⟨0, 0, 0, 0, false⟩ : Se) rfl 24) (by simp; omega) (Nat.le_trans HB.out.size BA.size)
      have HR := Lib.hid hr
      have HC5 := Lib.hid (show Cq 24 5 seC w2.heap.size w5 v2 (List.replicate (k + 1) ⟨0, 0, 0, 0, false⟩) by rw [List.replicate_succ']; exact hc5)
      have HB5 := Lib.hid ((HB.out.trans (BA.mono HB.out.size)).trans hb5)
      clear hr hc5 hb5 BA
      go_wp2_with (at_builtin; refine Lib.wpList_append_run _ rfl _ _ 46 46 rfl u9 (.slice (some ⟨wr.heap.size, 0, none⟩) 1 1) rfl rfl _ _ HR.out ?_)
      clear HR
      go_wp2_with fail
      go_roundw
      case rel => exact ⟨k + 1, by omega, by go_num, HC5.out, HB5.out⟩
      case measure => simp [intOf]; omega
    · have hkn : k = n := by omega
      subst hkn
      have HSO := Lib.hid (HS.out.owns (T := 46) (bs := 40) (z := .agg #[]) (by simpa using hn0.1))
      obtain ⟨bs, cs, rfl, hbs, hbs2⟩ := HSO.out.form (by simpa using hn0.1)
      simp only [List.length_replicate] at HSO
      rw [show (List.replicate k (⟨0, 0, 0, 0, false⟩ : Se)).length = k by simp]
      go_wp2_with fail
      clear c0 c1 cz cl HS
      obtain ⟨wp, rfl⟩ : ∃ x, x = wr := ⟨_, rfl⟩
      go_loopw [10, 12] (fun sv i wr => ∃ j : Nat, j ≤ m ∧ i = .int .i64 j ∧ Cq 39 1 svC wp.heap.size wr sv (List.replicate j ⟨none, 0, 0⟩) ∧ Below wp.heap.size wp wr) (fun _ i _ => m - (intOf i).toNat)
      case atStart => exact ⟨0, Nat.zero_le _, rfl, Cq.nil _ _ none, Below.refl _ _⟩
      case round =>
        obtain ⟨j, hj, rfl, hI, hB5⟩ := hrel
        have HI := Lib.hid hI
        have HB5 := Lib.hid hB5
        clear hI hB5
        by_cases hlt2 : j < m
        · have BA : Below wr.heap.size wr (wr.alloc (.cells #[.slice none 0 0] 39)) := by go_grown
          obtain ⟨v2, w5, hr, hc5, hb5⟩ := app_rw svT wp.heap.size _ 47 u10 _ (HI.out.later BA) (some ⟨wr.heap.size, 0, none⟩) 1 1 [(⟨none, 0, 0⟩ : Sv)] rfl (rw_one (f := svC) wr rfl (⟨none, 0, 0⟩ : Sv) rfl 39) (by simp; omega) (Nat.le_trans HB5.out.size BA.size)
          have HR := Lib.hid hr
          have HC5 := Lib.hid (show Cq 39 1 svC wp.heap.size w5 v2 (List.replicate (j + 1) ⟨none, 0, 0⟩) by rw [List.replicate_succ']; exact hc5)
          have HB6 := Lib.hid ((HB5.out.trans (BA.mono HB5.out.size)).trans hb5)
          clear hr hc5 hb5 BA
          go_wp2_with (at_builtin; refine Lib.wpList_append_run _ rfl _ _ 47 47 rfl u10 (.slice (some ⟨wr.heap.size, 0, none⟩) 1 1) rfl rfl _ _ HR.out ?_)
          clear HR
          go_wp2_with fail
          go_roundw
          case rel => exact ⟨j + 1, by omega, by go_num, HC5.out, HB6.out⟩
          case measure => simp [intOf]; omega
        · have hjm : j = m := by omega
          subst hjm
          rcases Nat.eq_zero_or_pos j with h0 | h0
          · subst h0
            by_cases hq0 : 0 < q
            · have i1 : (0 : Int) < (q : Int) := by omega
              go_wp2_with fail
              go_loop [13] (fun u => u = .int .i64 0) (fun _ => 0)
              case atStart => rfl
              case round =>
                obtain rfl := hrel
                go_wp2_with fail
                go_loop [18] (fun u => u = .int .i64 0) (fun _ => 0)
                case atStart => rfl
                case round =>
                  obtain rfl := hrel
                  go_wp2_with fail
                  go_ret
                  exact ⟨by first | rfl | simp, (HW2.out.trans (HB.out.mono HW2.out.size)).trans (HB5.out.mono (Nat.le_trans HW2.out.size HB.out.size))⟩
            · have i1 : ¬ (0 : Int) < (q : Int) := by omega
              go_wp2_with fail
              go_loop [13] (fun u => u = .int .i64 0) (fun _ => 0)
              case atStart => rfl
              case round =>
                obtain rfl := hrel
                go_wp2_with fail
                go_loop [18] (fun u => u = .int .i64 0) (fun _ => 0)
                case atStart => rfl
                case round =>
                  obtain rfl := hrel
                  go_wp2_with fail
                  go_ret
                  exact ⟨by first | rfl | simp, (HW2.out.trans (HB.out.mono HW2.out.size)).trans (HB5.out.mono (Nat.le_trans HW2.out.size HB.out.size))⟩
          · have HIO := Lib.hid (HI.out.owns (T := 47) (bs := 24) (z := .agg #[]) (by simpa using h0))
            obtain ⟨bi, ci, rfl, hbi, hbi2⟩ := HIO.out.form (by simpa using h0)
            simp only [List.length_replicate] at HIO
            rw [show (List.replicate j (⟨none, 0, 0⟩ : Sv)).length = j by simp]
            have HR0 : OneRel w wr k j bs cs bi ci wr.heap.size (.slice a k c) (.slice a2 n2 c2) V A tm 0 (List.replicate k ⟨0, 0, 0, 0, false⟩) (List.replicate j ⟨none, 0, 0⟩) (List.replicate j []) :=
              ⟨by simp, by simp, (owns_less (HSO.out.kept (w' := wr) (row := none) ⟨HB5.out.os, HB5.out.tape, HB5.out.output, HB5.out.size, fun k hk _ => HB5.out.block k hk⟩ (.inr (by simp [Value.ownBlock]))) HW2.out.size), owns_less HIO.out (Nat.le_trans HW2.out.size HB.out.size), idsP_start _ _ _, fun j' l h => by obtain ⟨_, h⟩ := List.getElem?_eq_some_iff.1 h; simp at h; subst h; simp, oneInv_start _ _ _ _ _, (HC2.out.later HB.out).later HB5.out, (HW2.out.trans (HB.out.mono HW2.out.size)).trans (HB5.out.mono (Nat.le_trans HW2.out.size HB.out.size)), Nat.le_refl _⟩
            have HRR := Lib.hid HR0
            have hbb : bs ≠ bi := by omega
            have hw2 : w.heap.size + 1 < w2.heap.size := HC2.out.lt
            have hsz1 := HB.out.size
            have hsz2 := HB5.out.size
            have HB3 := Lib.hid (show bs < wr.heap.size ∧ bi < wr.heap.size ∧ w.heap.size + 1 < bs ∧ w.heap.size + 1 < bi by omega)
            obtain ⟨B3, hB3⟩ : ∃ B, wr.heap.size = B := ⟨_, rfl⟩
            rw [hB3] at HRR HB3
            clear HR0
            go_wp2_with fail
            obtain ⟨wi, rfl⟩ : ∃ x, x = wr := ⟨_, rfl⟩
            go_loopw [13] (fun i wr => ∃ (t : Nat) (S : List Se) (II : List Sv) (LL : List (List Nat)), t ≤ q ∧ i = .int .i64 t ∧ OneRel w wr k j bs cs bi ci B3 (.slice a k c) (.slice a2 n2 c2) V A tm t S II LL) (fun i _ => q - (intOf i).toNat)
            case atStart => exact ⟨0, _, _, _, Nat.zero_le _, rfl, HRR.out⟩
            case round =>
              obtain ⟨t, S, II, LL, ht, rfl, hrr⟩ := hrel
              have HR3 := Lib.hid hrr
              clear hrr
              have j1 : (0 : Int) < (j : Int) := by omega
              have k1 : (0 : Int) < (k : Int) := by omega
              by_cases hlt3 : t < q
              · obtain ⟨z, hz⟩ : ∃ z, O[t]? = some z := ⟨_, List.getElem?_eq_getElem (by rw [HQ.out]; exact hlt3)⟩
                have hzb := HOB.out z (List.mem_of_getElem? hz)
                have i0 : (0 : Int) ≤ (t : Int) := by omega
                have i1 : (t : Int) < (q : Int) := by omega
                obtain ⟨b4, o4, rfl, hb4, hc4⟩ := (HO.out.later HR3.out.below) t z hz
                have p0 := hc4 0 _ rfl
                simp only [Nat.add_zero, Nat.mul_one] at p0
                clear hc4 hz
                obtain ⟨za, hza⟩ : ∃ x, z.tmod (j : Int) = x := ⟨_, rfl⟩
                obtain ⟨zv, hzv⟩ : ∃ x, (z.tdiv 7).tmod (k : Int) = x := ⟨_, rfl⟩
                have za1 : za < (j : Int) := by rw [← hza]; exact Int.tmod_lt_of_pos _ j1
                have zv1 : zv < (k : Int) := by rw [← hzv]; exact Int.tmod_lt_of_pos _ k1
                go_upto_region 24 with fail
                clear hza hzv p0
                by_cases ga : za < 0
                · go_wp2_with fail
                  go_roundw
                  case rel => exact ⟨t + 1, S, II, LL, by omega, by go_num, HR3.out.next⟩
                  case measure => simp [intOf]; omega
                by_cases gv : zv < 0
                · go_wp2_with fail
                  go_roundw
                  case rel => exact ⟨t + 1, S, II, LL, by omega, by go_num, HR3.out.next⟩
                  case measure => simp [intOf]; omega
                obtain ⟨na, rfl⟩ : ∃ n : Nat, za = n := ⟨za.toNat, by omega⟩
                obtain ⟨nv, rfl⟩ : ∃ n : Nat, zv = n := ⟨zv.toNat, by omega⟩
                have a0 : (0 : Int) ≤ (na : Int) := by omega
                have v0 : (0 : Int) ≤ (nv : Int) := by omega
                clear ga gv
                obtain ⟨x, hx⟩ : ∃ x, A[na]? = some x := ⟨_, List.getElem?_eq_getElem (by rw [HM.out]; omega)⟩
                obtain ⟨s, hs⟩ : ∃ s, S[nv]? = some s := ⟨_, List.getElem?_eq_getElem (by rw [HR3.out.sl]; omega)⟩
                obtain ⟨b3, o3, rfl, hb3, hc3⟩ := (HA.out.later HR3.out.below) na x hx
                obtain ⟨_, _, e3, hb3w, _⟩ := HA.out na x hx
                simp only [Option.some.injEq, Addr.mk.injEq, and_true] at e3
                obtain ⟨rfl, rfl⟩ := e3
                obtain ⟨xt, xf, xl, xi, xp⟩ := x
                have x0 := hc3 0 _ rfl
                have x1 := hc3 1 _ rfl
                have x2 := hc3 2 _ rfl
                have x3 := hc3 3 _ rfl
                have x4 := hc3 4 _ rfl
                simp only [Nat.add_zero] at x0 x1 x2 x3 x4
                obtain ⟨s0, s1, s2, s3, s4⟩ := seat_cells HR3.out.seats HR3.out.sl hs
                have hbr : bs < wr.heap.size := Nat.lt_of_lt_of_le HB3.out.1 HR3.out.room
                have HX := Lib.hid hx
                have HSS := Lib.hid hs
                have HP := Lib.hid (And.intro x0 x4)
                obtain ⟨r, hr⟩ : ∃ r, ansS s ⟨xt, xf, xl, xi, xp⟩ = r := ⟨_, rfl⟩
                have HAN := Lib.hid hr
                obtain ⟨⟨rt, rv, rlt, rli, rh⟩, ro⟩ := r
                clear hc3 hx hs hr
                go_upto_region 25 with fail
                go_cut [16, 17] (fun pv ov wx => ∃ p, pv = .pointer (some ⟨p, 0, none⟩) ∧ ov = .bool ro ∧ wr.heap.size ≤ p ∧ B5 wx p rt rv rlt rli rh ∧ Below wr.heap.size wr wx)
                case first =>
                  go_region_with (go_at_call 9; (with_reducible refine (pAnswer_any s.t s.v s.lt s.li s.h xt xf xl xi xp _).mono ?_); intro e w2 h2; rw [HAN.out] at h2; obtain ⟨rfl, hb2⟩ := h2; simp only at *; first | (have hT := (B5.new (w := wr.drew) (x := wr.heap.size) (by simp) 0 0 0 0 false 24).later hb2; have HT2 := Lib.hid hT; obtain ⟨q0, q1, q2, q3, q4, qz, ql⟩ := hT) | skip)
                  all_goals
                    go_wp2_with fail
                    go_meet
                    have bb : Below wr.heap.size wr w2 := Below.trans (by go_grown) (hb2.mono (by simp))
                    first
                      | exact ⟨_, rfl, rfl, bb.size, B5.new rfl _ _ _ _ _ _, bb.alloc bb.size _⟩
                      | exact ⟨_, rfl, rfl, Nat.le_refl _, HT2.out.put _ _ _ _ _, below_set5 bb (Nat.le_refl _)⟩
                case rest =>
                  obtain ⟨p, rfl, rfl, hp, hT, hB2⟩ := hcut
                  obtain ⟨wx, rfl⟩ := below_name hB2
                  have HRX := Lib.hid (HR3.out.later hB2)
                  have y0 := (hB2.cell (p := ⟨b3, o3 + na * 5, none⟩) hb3).trans HP.out.1
                  have y4 := (hB2.cell (p := ⟨b3, o3 + na * 5 + 4, none⟩) hb3).trans HP.out.2
                  have hne3 : bs ≠ b3 := by have := HB3.out.2.2.1; omega
                  have hinv := oneInv_skip HR3.out.inv HSS.out ⟨xt, xf, xl, xi, xp⟩
                  rw [HAN.out] at hinv
                  have HFIN := Lib.hid (one_fin HRX.out HB3.out.1 HB3.out.2.1 hbb HB3.out.2.2.1 HSS.out rt rv rlt rli rh hinv (p := ⟨b3, o3 + na * 5, none⟩) (q := ⟨b3, o3 + na * 5 + 4, none⟩) hne3 hne3 y0 y4)
                  clear s0 s1 s2 s3 s4 x0 x1 x2 x3 x4 y0 y4 hinv
                  obtain ⟨s0, s1, s2, s3, s4⟩ := seat_cells HRX.out.seats HRX.out.sl HSS.out
                  have fz := HRX.out.seats.frozenAt
                  obtain ⟨t0, t1, t2, t3, t4, tz, tl⟩ := hT
                  go_upto_region 27 with fail
                  generalize hwy : ((((wx.setCell ⟨bs, nv * 5, none⟩ (.int .u64 rt)).setCell ⟨bs, nv * 5 + 1, none⟩ (.int .u64 rv)).setCell ⟨bs, nv * 5 + 2, none⟩ (.int .u64 rlt)).setCell ⟨bs, nv * 5 + 3, none⟩ (.int .u64 rli)).setCell ⟨bs, nv * 5 + 4, none⟩ (.bool rh) = wy
                  have hfin := HFIN.out wy hwy.symm
                  have HRS := Lib.hid hfin.1
                  obtain ⟨_, y0, y4⟩ := hfin
                  clear s0 s1 s2 s3 s4 fz t0 t1 t2 t3 t4 tz tl HRX hB2 hwy HFIN
                  cases ro
                  · go_wp2_with fail
                    go_roundw
                    case rel => exact ⟨t + 1, S.set nv ⟨rt, rv, rlt, rli, rh⟩, II, LL, by omega, by go_num, HRS.out.next⟩
                    case measure => simp [intOf]; omega
                  cases xp
                  case true =>
                    go_wp2_with fail
                    go_roundw
                    case rel => exact ⟨t + 1, S.set nv ⟨rt, rv, rlt, rli, rh⟩, II, LL, by omega, by go_num, HRS.out.next⟩
                    case measure => simp [intOf]; omega
                  by_cases hxt : xt = tm
                  case neg =>
                    have gx : ((xt : Int) == (tm : Int)) = false := by simp; omega
                    go_wp2_with fail
                    go_roundw
                    case rel => exact ⟨t + 1, S.set nv ⟨rt, rv, rlt, rli, rh⟩, II, LL, by omega, by go_num, HRS.out.next⟩
                    case measure => simp [intOf]; omega
                  subst hxt
                  obtain ⟨l, hl2'⟩ : ∃ l, LL[na]? = some l := ⟨_, List.getElem?_eq_getElem (by rw [← HRS.out.votes.1, HRS.out.il]; omega)⟩
                  obtain ⟨sv, hsv⟩ : ∃ l, II[na]? = some l := ⟨_, List.getElem?_eq_getElem (by rw [HRS.out.il]; omega)⟩
                  obtain ⟨sa, sn, sc⟩ := sv
                  obtain ⟨id, hid⟩ : ∃ l, V[nv]? = some l := ⟨_, List.getElem?_eq_getElem (by rw [HN.out]; omega)⟩
                  obtain ⟨hll, hlu, hlb⟩ := HRS.out.votes.2 na _ l hsv hl2'
                  simp only at hll hlu hlb
                  have hlen := HRS.out.len na l hl2'
                  have z0 := id_cell HRS.out.ids HRS.out.il hsv
                  simp only at z0
                  obtain ⟨b0, o0, rfl, hb0, z1⟩ := (HV.out.later HRS.out.below) nv id hid
                  obtain ⟨_, _, e0, hb0w, _⟩ := HV.out nv id hid
                  simp only [Option.some.injEq, Addr.mk.injEq, and_true] at e0
                  obtain ⟨rfl, rfl⟩ := e0
                  obtain ⟨z2, z3, _, z5⟩ := HRS.out.conf
                  have hnote := Lib.hid (oneInv_note HMN.out.2.2 HR3.out.inv HSS.out hid HX.out hl2' (by rw [HAN.out]) rfl rfl)
                  rw [HAN.out] at hnote
                  have hbir : bi < wy.heap.size := Nat.lt_of_lt_of_le HB3.out.2.1 HRS.out.room
                  have fz := HRS.out.ids.frozenAt
                  have HLL := Lib.hid hll
                  have HLU := Lib.hid hlu
                  have HIX := Lib.hid (And.intro hl2' hsv)
                  have HB8 := Lib.hid (show (([] : List Nat).length + sn) * 8 ≤ 140737488355328 by simp; omega)
                  have HB9 := Lib.hid (show (([] ++ l : List Nat).length + 1) * 8 ≤ 140737488355328 by simp; omega)
                  have KY : ∀ w', Below wy.heap.size wy w' → w'.cell? ⟨w.heap.size + 1, 0, none⟩ = some (.slice (some ⟨b0, o0, none⟩) k c) ∧ w'.cell? ⟨bi, na, none⟩ = some (.slice sa sn sc) ∧ w'.cell? ⟨b0, o0 + nv, none⟩ = some (.int .u64 id) ∧ w'.frozen? ⟨bi, na, none⟩ = false ∧ Below wy.heap.size wy w' := fun w' hb => ⟨(hb.cell (p := ⟨w.heap.size + 1, 0, none⟩) z5).trans z2, (hb.cell (p := ⟨bi, na, none⟩) hbir).trans z0, (hb.cell (p := ⟨b0, o0 + nv, none⟩) hb0).trans z1, (hb.frozen (p := ⟨bi, na, none⟩) hbir).trans (fz na), hb⟩
                  have HKY := Lib.hid KY
                  clear KY hll hlu hl2' hsv hid
                  go_upto_region 28 with fail
                  clear y0 y4
                  have HK2 := Lib.hid (show ∀ w', Below wy.heap.size wy w' → w'.cell? ⟨w.heap.size + 1, 0, none⟩ = some (.slice (some ⟨b0, o0, none⟩) k c) ∧ w'.cell? ⟨b0, o0 + nv, none⟩ = some (.int .u64 id) from fun w' hb => ⟨(HKY.out w' hb).1, (HKY.out w' hb).2.2.1⟩)
                  have hn1 : bi ≠ w.heap.size + 1 := by have := HB3.out.2.2.2; omega
                  have hn2 : bi ≠ b0 := by have := HB3.out.2.2.2; omega
                  have K1 := HK2.out wy.drew (Below.refl _ _).drew
                  refine wp_region_held_drew (S := fun w' => w'.cell? ⟨w.heap.size + 1, 0, none⟩ = some (.slice (some ⟨b0, o0, none⟩) k c) ∧ w'.cell? ⟨b0, o0 + nv, none⟩ = some (.int .u64 id)) (by kernel_rfl) K1 (fun hHeld0 => ?_)
                  refine wpAnyH_take (i := 0) (v := ?_) rfl (by kernel_rfl) (by kernel_rfl) (by kernel_rfl) (fun _ _ _ h => h) (Or.inl ⟨by rfl, ?hy0⟩) (by assumption) ?_
                  case hy0 => (intro w0 hSw; obtain ⟨g0, g1⟩ := hSw; go_simp; (try with_reducible rfl))
                  try simp only [List.getElem_toArray, List.getElem_cons_succ, List.getElem_cons_zero, Act.put, List.setIfInBounds_toArray, List.set_cons_zero, List.set_cons_succ]
                  refine wpAnyH_take (i := 1) (v := ?_) rfl (by kernel_rfl) (by kernel_rfl) (by kernel_rfl) (fun _ _ _ h => h) (Or.inl ⟨by rfl, ?hy1⟩) (by assumption) ?_
                  case hy1 => (intro w0 hSw; obtain ⟨g0, g1⟩ := hSw; go_simp; (try with_reducible rfl))
                  try simp only [List.getElem_toArray, List.getElem_cons_succ, List.getElem_cons_zero, Act.put, List.setIfInBounds_toArray, List.set_cons_zero, List.set_cons_succ]
                  refine wpAnyH_take (i := 3) (v := ?_) rfl (by kernel_rfl) (by kernel_rfl) (by kernel_rfl) (fun _ _ _ h => h) (Or.inl ⟨by rfl, ?hy3⟩) (by assumption) ?_
                  case hy3 => (intro w0 hSw; obtain ⟨g0, g1⟩ := hSw; go_simp; (try with_reducible rfl))
                  try simp only [List.getElem_toArray, List.getElem_cons_succ, List.getElem_cons_zero, Act.put, List.setIfInBounds_toArray, List.set_cons_zero, List.set_cons_succ]
                  refine wpAnyH_take (i := 4) (v := ?_) rfl (by kernel_rfl) (by kernel_rfl) (by kernel_rfl) (fun _ _ _ h => h) (Or.inl ⟨by rfl, ?hy4⟩) (by assumption) ?_
                  case hy4 => (intro w0 hSw; obtain ⟨g0, g1⟩ := hSw; go_simp; (try with_reducible rfl))
                  try simp only [List.getElem_toArray, List.getElem_cons_succ, List.getElem_cons_zero, Act.put, List.setIfInBounds_toArray, List.set_cons_zero, List.set_cons_succ]
                  refine wpAnyH_take (i := 5) (v := ?_) rfl (by kernel_rfl) (by kernel_rfl) (by kernel_rfl) (fun _ _ _ h => h) (Or.inl ⟨by rfl, ?hy5⟩) (by assumption) ?_
                  case hy5 => (intro w0 hSw; obtain ⟨g0, g1⟩ := hSw; go_simp; (try with_reducible rfl))
                  try simp only [List.getElem_toArray, List.getElem_cons_succ, List.getElem_cons_zero, Act.put, List.setIfInBounds_toArray, List.set_cons_zero, List.set_cons_succ]
                  refine wpAnyH_take (i := 8) (v := ?_) rfl (by kernel_rfl) (by kernel_rfl) (by kernel_rfl) (fun _ _ _ h => h) (Or.inl ⟨by rfl, ?hy8⟩) (by assumption) ?_
                  case hy8 => (intro w0 hSw; obtain ⟨g0, g1⟩ := hSw; go_simp; (try with_reducible rfl))
                  try simp only [List.getElem_toArray, List.getElem_cons_succ, List.getElem_cons_zero, Act.put, List.setIfInBounds_toArray, List.set_cons_zero, List.set_cons_succ]
                  refine wpAnyH_take (i := 9) (v := ?_) rfl (by kernel_rfl) (by kernel_rfl) (by kernel_rfl) (fun _ _ _ h => h) (Or.inl ⟨by rfl, ?hy9⟩) (by assumption) ?_
                  case hy9 => (intro w0 hSw; obtain ⟨g0, g1⟩ := hSw; go_simp; (try with_reducible rfl))
                  try simp only [List.getElem_toArray, List.getElem_cons_succ, List.getElem_cons_zero, Act.put, List.setIfInBounds_toArray, List.set_cons_zero, List.set_cons_succ]
                  refine wpAnyH_take (i := 10) (v := ?_) rfl (by kernel_rfl) (by kernel_rfl) (by kernel_rfl) (fun _ _ _ h => h) (Or.inl ⟨by rfl, ?hy10⟩) (by assumption) ?_
                  case hy10 => (intro w0 hSw; obtain ⟨g0, g1⟩ := hSw; go_simp; (try with_reducible rfl))
                  try simp only [List.getElem_toArray, List.getElem_cons_succ, List.getElem_cons_zero, Act.put, List.setIfInBounds_toArray, List.set_cons_zero, List.set_cons_succ]
                  refine wpAnyH_take (i := 11) (v := ?_) rfl (by kernel_rfl) (by kernel_rfl) (by kernel_rfl) (fun _ _ _ h => h) (Or.inl ⟨by rfl, ?hy11⟩) (by assumption) ?_
                  case hy11 => (intro w0 hSw; obtain ⟨g0, g1⟩ := hSw; go_simp; (try with_reducible rfl))
                  try simp only [List.getElem_toArray, List.getElem_cons_succ, List.getElem_cons_zero, Act.put, List.setIfInBounds_toArray, List.set_cons_zero, List.set_cons_succ]
                  refine wpAnyH_take (i := 12) (v := ?_) rfl (by kernel_rfl) (by kernel_rfl) (by kernel_rfl) (fun _ _ _ h => h) (Or.inl ⟨by rfl, ?hy12⟩) (by assumption) ?_
                  case hy12 => (intro w0 hSw; obtain ⟨g0, g1⟩ := hSw; go_simp; (try with_reducible rfl))
                  try simp only [List.getElem_toArray, List.getElem_cons_succ, List.getElem_cons_zero, Act.put, List.setIfInBounds_toArray, List.set_cons_zero, List.set_cons_succ]
                  refine wpAnyH_ready (rs := [2, 6, 13]) (by kernel_rfl) (by simp) ?_
                  refine AllReadyH.cons rfl (fun K hK => ?_) (AllReadyH.cons rfl (fun K hK => ?_) (AllReadyH.cons rfl (fun K hK => ?_) AllReadyH.nil))
                  · go_simp
                    go_wp2_with fail
                    refine hK.out _ _ (HK2.out _ (by go_grown)) (fun hHeld => ?_)
                    clear hK
                    try simp only [List.getElem_toArray, List.getElem_cons_succ, List.getElem_cons_zero, Act.put, List.setIfInBounds_toArray, List.set_cons_zero, List.set_cons_succ]
                    refine wpAnyH_ready (rs := [6, 13]) (by kernel_rfl) (by simp) ?_
                    refine AllReadyH.cons rfl (fun K hK => ?_) (AllReadyH.cons rfl (fun K hK => ?_) AllReadyH.nil)
                    · go_simp
                      go_wp2_with fail
                      refine hK.out _ _ (by assumption) (fun hHeld => ?_)
                      clear hK
                      try simp only [List.getElem_toArray, List.getElem_cons_succ, List.getElem_cons_zero, Act.put, List.setIfInBounds_toArray, List.set_cons_zero, List.set_cons_succ]
                      refine wpAnyH_ready (rs := [7, 13]) (by kernel_rfl) (by simp) ?_
                      refine AllReadyH.cons rfl (fun K hK => ?_) (AllReadyH.cons rfl (fun K hK => ?_) AllReadyH.nil)
                      · refine step_app7 (by rfl) _ _ _ (by rfl) _ _ (by rfl) (by rfl) _ (app_rw usT _ _ _ _ [] (Cq.nil _ _ _) sa sn sc l HLL.out (us_rw (HLU.out.later (by go_grown))) HB8.out (Nat.le_refl _)) ?_
                        intro g1 wn hp
                        obtain ⟨hp1, hp2⟩ := hp
                        have hb3' : Below wy.heap.size wy wn := Below.trans (by go_grown) (hp2.mono (by first | (simp; done) | (simp; omega)))
                        refine hK.out _ _ (HK2.out wn hb3') (fun hHeld => ?_)
                        clear hK
                        try simp only [List.getElem_toArray, List.getElem_cons_succ, List.getElem_cons_zero, Act.put, List.setIfInBounds_toArray, List.set_cons_zero, List.set_cons_succ]
                        refine wpAnyH_ready (rs := [13]) (by kernel_rfl) (by simp) ?_
                        refine AllReadyH.cons rfl (fun K hK => ?_) AllReadyH.nil
                        go_simp
                        go_wp2_with fail
                        refine hK.out _ _ (HK2.out _ (hb3'.alloc hb3'.size _)) (fun hHeld => ?_)
                        clear hK
                        try simp only [List.getElem_toArray, List.getElem_cons_succ, List.getElem_cons_zero, Act.put, List.setIfInBounds_toArray, List.set_cons_zero, List.set_cons_succ]
                        refine wpAnyH_ready (rs := [14]) (by kernel_rfl) (by simp) ?_
                        refine AllReadyH.cons rfl (fun K hK => ?_) AllReadyH.nil
                        refine step_app7 (by rfl) _ _ _ (by rfl) _ _ (by rfl) (by rfl) _ (app_rw usT _ _ _ _ ([] ++ l) (hp1.later ?_) _ 1 1 [id] rfl ?_ HB9.out ?_) ?_
                        · exact (Below.refl _ _).alloc (Nat.le_refl _) _
                        · exact rw_one (f := u64C) wn rfl id rfl 22
                        · have := hp2.size; first | exact this | (simp at this ⊢; omega)
                        intro g2 wm hq
                        obtain ⟨hq1, hq2⟩ := hq
                        have hb4 : Below wy.heap.size wy wm := Below.trans (by first | exact hb3' | exact hb3'.alloc hb3'.size _) (hq2.mono (by first | (simp; done) | (simp; omega)))
                        obtain ⟨aw, cw, hv, hUw, hfw, _⟩ := hq1.form usT
                        subst hv
                        have HUW := Lib.hid (And.intro hUw hfw)
                        obtain ⟨k30, zz0, k31, zzf, _⟩ := HKY.out wm hb4
                        refine hK.out _ _ (HK2.out wm hb4) (fun hHeld => ?_)
                        clear hK
                        try simp only [List.getElem_toArray, List.getElem_cons_succ, List.getElem_cons_zero, Act.put, List.setIfInBounds_toArray, List.set_cons_zero, List.set_cons_succ]
                        refine wpAnyH_take (i := 15) (v := ?_) rfl (by kernel_rfl) (by kernel_rfl) (by kernel_rfl) (fun _ _ _ h => h) (Or.inl ⟨by rfl, ?hy15⟩) (by assumption) ?_
                        case hy15 => (intro w0 hSw; obtain ⟨g0, g1⟩ := hSw; go_simp; (try with_reducible rfl))
                        try simp only [List.getElem_toArray, List.getElem_cons_succ, List.getElem_cons_zero, Act.put, List.setIfInBounds_toArray, List.set_cons_zero, List.set_cons_succ]
                        refine wpAnyH_ready (rs := [16]) (by kernel_rfl) (by simp) ?_
                        refine AllReadyH.cons rfl (fun K hK => ?_) AllReadyH.nil
                        go_simp
                        go_wp2_with fail
                        refine hK.out _ _ ⟨(World.cell?_setCell_far _ _ _ _ hn1).trans k30, (World.cell?_setCell_far _ _ _ _ hn2).trans k31⟩ (fun hHeld => ?_)
                        clear hK
                        try simp only [List.getElem_toArray, List.getElem_cons_succ, List.getElem_cons_zero, Act.put, List.setIfInBounds_toArray, List.set_cons_zero, List.set_cons_succ]
                        refine wpAnyH_done (by kernel_rfl) ?_ _
                        go_wp2_with fail
                        go_roundw
                        case rel => exact ⟨t + 1, _, _, _, by omega, by go_num, one_noted HRS.out hb4 HB3.out.1 HB3.out.2.1 hbb HB3.out.2.2.2 HIX.out.2 HIX.out.1 aw cw id _ HUW.out.1 HUW.out.2 (by first | (simp; done) | (simp; omega)) hnote.out⟩
                        case measure => simp [intOf]; omega
                      · go_simp
                        go_wp2_with fail
                        refine hK.out _ _ (HK2.out _ (by go_grown)) (fun hHeld => ?_)
                        clear hK
                        try simp only [List.getElem_toArray, List.getElem_cons_succ, List.getElem_cons_zero, Act.put, List.setIfInBounds_toArray, List.set_cons_zero, List.set_cons_succ]
                        refine wpAnyH_ready (rs := [7]) (by kernel_rfl) (by simp) ?_
                        refine AllReadyH.cons rfl (fun K hK => ?_) AllReadyH.nil
                        refine step_app7 (by rfl) _ _ _ (by rfl) _ _ (by rfl) (by rfl) _ (app_rw usT _ _ _ _ [] (Cq.nil _ _ _) sa sn sc l HLL.out (us_rw (HLU.out.later (by go_grown))) HB8.out (Nat.le_refl _)) ?_
                        intro g1 wn hp
                        obtain ⟨hp1, hp2⟩ := hp
                        have hb3' : Below wy.heap.size wy wn := Below.trans (by go_grown) (hp2.mono (by first | (simp; done) | (simp; omega)))
                        refine hK.out _ _ (HK2.out wn hb3') (fun hHeld => ?_)
                        clear hK
                        try simp only [List.getElem_toArray, List.getElem_cons_succ, List.getElem_cons_zero, Act.put, List.setIfInBounds_toArray, List.set_cons_zero, List.set_cons_succ]
                        refine wpAnyH_ready (rs := [14]) (by kernel_rfl) (by simp) ?_
                        refine AllReadyH.cons rfl (fun K hK => ?_) AllReadyH.nil
                        refine step_app7 (by rfl) _ _ _ (by rfl) _ _ (by rfl) (by rfl) _ (app_rw usT _ _ _ _ ([] ++ l) (hp1.later ?_) _ 1 1 [id] rfl ?_ HB9.out ?_) ?_
                        · exact Below.refl _ _
                        · exact (rw_one (f := u64C) (wy.drew.alloc _) (by simp) id rfl 22).later hp2
                        · have := hp2.size; first | exact this | (simp at this ⊢; omega)
                        intro g2 wm hq
                        obtain ⟨hq1, hq2⟩ := hq
                        have hb4 : Below wy.heap.size wy wm := Below.trans (by first | exact hb3' | exact hb3'.alloc hb3'.size _) (hq2.mono (by first | (simp; done) | (simp; omega)))
                        obtain ⟨aw, cw, hv, hUw, hfw, _⟩ := hq1.form usT
                        subst hv
                        have HUW := Lib.hid (And.intro hUw hfw)
                        obtain ⟨k30, zz0, k31, zzf, _⟩ := HKY.out wm hb4
                        refine hK.out _ _ (HK2.out wm hb4) (fun hHeld => ?_)
                        clear hK
                        try simp only [List.getElem_toArray, List.getElem_cons_succ, List.getElem_cons_zero, Act.put, List.setIfInBounds_toArray, List.set_cons_zero, List.set_cons_succ]
                        refine wpAnyH_take (i := 15) (v := ?_) rfl (by kernel_rfl) (by kernel_rfl) (by kernel_rfl) (fun _ _ _ h => h) (Or.inl ⟨by rfl, ?hy15⟩) (by assumption) ?_
                        case hy15 => (intro w0 hSw; obtain ⟨g0, g1⟩ := hSw; go_simp; (try with_reducible rfl))
                        try simp only [List.getElem_toArray, List.getElem_cons_succ, List.getElem_cons_zero, Act.put, List.setIfInBounds_toArray, List.set_cons_zero, List.set_cons_succ]
                        refine wpAnyH_ready (rs := [16]) (by kernel_rfl) (by simp) ?_
                        refine AllReadyH.cons rfl (fun K hK => ?_) AllReadyH.nil
                        go_simp
                        go_wp2_with fail
                        refine hK.out _ _ ⟨(World.cell?_setCell_far _ _ _ _ hn1).trans k30, (World.cell?_setCell_far _ _ _ _ hn2).trans k31⟩ (fun hHeld => ?_)
                        clear hK
                        try simp only [List.getElem_toArray, List.getElem_cons_succ, List.getElem_cons_zero, Act.put, List.setIfInBounds_toArray, List.set_cons_zero, List.set_cons_succ]
                        refine wpAnyH_done (by kernel_rfl) ?_ _
                        go_wp2_with fail
                        go_roundw
                        case rel => exact ⟨t + 1, _, _, _, by omega, by go_num, one_noted HRS.out hb4 HB3.out.1 HB3.out.2.1 hbb HB3.out.2.2.2 HIX.out.2 HIX.out.1 aw cw id _ HUW.out.1 HUW.out.2 (by first | (simp; done) | (simp; omega)) hnote.out⟩
                        case measure => simp [intOf]; omega
                    · go_simp
                      go_wp2_with fail
                      refine hK.out _ _ (HK2.out _ (by go_grown)) (fun hHeld => ?_)
                      clear hK
                      try simp only [List.getElem_toArray, List.getElem_cons_succ, List.getElem_cons_zero, Act.put, List.setIfInBounds_toArray, List.set_cons_zero, List.set_cons_succ]
                      refine wpAnyH_ready (rs := [6]) (by kernel_rfl) (by simp) ?_
                      refine AllReadyH.cons rfl (fun K hK => ?_) AllReadyH.nil
                      go_simp
                      go_wp2_with fail
                      refine hK.out _ _ (by assumption) (fun hHeld => ?_)
                      clear hK
                      try simp only [List.getElem_toArray, List.getElem_cons_succ, List.getElem_cons_zero, Act.put, List.setIfInBounds_toArray, List.set_cons_zero, List.set_cons_succ]
                      refine wpAnyH_ready (rs := [7]) (by kernel_rfl) (by simp) ?_
                      refine AllReadyH.cons rfl (fun K hK => ?_) AllReadyH.nil
                      refine step_app7 (by rfl) _ _ _ (by rfl) _ _ (by rfl) (by rfl) _ (app_rw usT _ _ _ _ [] (Cq.nil _ _ _) sa sn sc l HLL.out (us_rw (HLU.out.later (by go_grown))) HB8.out (Nat.le_refl _)) ?_
                      intro g1 wn hp
                      obtain ⟨hp1, hp2⟩ := hp
                      have hb3' : Below wy.heap.size wy wn := Below.trans (by go_grown) (hp2.mono (by first | (simp; done) | (simp; omega)))
                      refine hK.out _ _ (HK2.out wn hb3') (fun hHeld => ?_)
                      clear hK
                      try simp only [List.getElem_toArray, List.getElem_cons_succ, List.getElem_cons_zero, Act.put, List.setIfInBounds_toArray, List.set_cons_zero, List.set_cons_succ]
                      refine wpAnyH_ready (rs := [14]) (by kernel_rfl) (by simp) ?_
                      refine AllReadyH.cons rfl (fun K hK => ?_) AllReadyH.nil
                      refine step_app7 (by rfl) _ _ _ (by rfl) _ _ (by rfl) (by rfl) _ (app_rw usT _ _ _ _ ([] ++ l) (hp1.later ?_) _ 1 1 [id] rfl ?_ HB9.out ?_) ?_
                      · exact Below.refl _ _
                      · exact (rw_one (f := u64C) (wy.drew.alloc _) (by simp) id rfl 22).later hp2
                      · have := hp2.size; first | exact this | (simp at this ⊢; omega)
                      intro g2 wm hq
                      obtain ⟨hq1, hq2⟩ := hq
                      have hb4 : Below wy.heap.size wy wm := Below.trans (by first | exact hb3' | exact hb3'.alloc hb3'.size _) (hq2.mono (by first | (simp; done) | (simp; omega)))
                      obtain ⟨aw, cw, hv, hUw, hfw, _⟩ := hq1.form usT
                      subst hv
                      have HUW := Lib.hid (And.intro hUw hfw)
                      obtain ⟨k30, zz0, k31, zzf, _⟩ := HKY.out wm hb4
                      refine hK.out _ _ (HK2.out wm hb4) (fun hHeld => ?_)
                      clear hK
                      try simp only [List.getElem_toArray, List.getElem_cons_succ, List.getElem_cons_zero, Act.put, List.setIfInBounds_toArray, List.set_cons_zero, List.set_cons_succ]
                      refine wpAnyH_take (i := 15) (v := ?_) rfl (by kernel_rfl) (by kernel_rfl) (by kernel_rfl) (fun _ _ _ h => h) (Or.inl ⟨by rfl, ?hy15⟩) (by assumption) ?_
                      case hy15 => (intro w0 hSw; obtain ⟨g0, g1⟩ := hSw; go_simp; (try with_reducible rfl))
                      try simp only [List.getElem_toArray, List.getElem_cons_succ, List.getElem_cons_zero, Act.put, List.setIfInBounds_toArray, List.set_cons_zero, List.set_cons_succ]
                      refine wpAnyH_ready (rs := [16]) (by kernel_rfl) (by simp) ?_
                      refine AllReadyH.cons rfl (fun K hK => ?_) AllReadyH.nil
                      go_simp
                      go_wp2_with fail
                      refine hK.out _ _ ⟨(World.cell?_setCell_far _ _ _ _ hn1).trans k30, (World.cell?_setCell_far _ _ _ _ hn2).trans k31⟩ (fun hHeld => ?_)
                      clear hK
                      try simp only [List.getElem_toArray, List.getElem_cons_succ, List.getElem_cons_zero, Act.put, List.setIfInBounds_toArray, List.set_cons_zero, List.set_cons_succ]
                      refine wpAnyH_done (by kernel_rfl) ?_ _
                      go_wp2_with fail
                      go_roundw
                      case rel => exact ⟨t + 1, _, _, _, by omega, by go_num, one_noted HRS.out hb4 HB3.out.1 HB3.out.2.1 hbb HB3.out.2.2.2 HIX.out.2 HIX.out.1 aw cw id _ HUW.out.1 HUW.out.2 (by first | (simp; done) | (simp; omega)) hnote.out⟩
                      case measure => simp [intOf]; omega
                  · go_simp
                    go_wp2_with fail
                    refine hK.out _ _ (by assumption) (fun hHeld => ?_)
                    clear hK
                    try simp only [List.getElem_toArray, List.getElem_cons_succ, List.getElem_cons_zero, Act.put, List.setIfInBounds_toArray, List.set_cons_zero, List.set_cons_succ]
                    refine wpAnyH_ready (rs := [2, 13]) (by kernel_rfl) (by simp) ?_
                    refine AllReadyH.cons rfl (fun K hK => ?_) (AllReadyH.cons rfl (fun K hK => ?_) AllReadyH.nil)
                    · go_simp
                      go_wp2_with fail
                      refine hK.out _ _ (HK2.out _ (by go_grown)) (fun hHeld => ?_)
                      clear hK
                      try simp only [List.getElem_toArray, List.getElem_cons_succ, List.getElem_cons_zero, Act.put, List.setIfInBounds_toArray, List.set_cons_zero, List.set_cons_succ]
                      refine wpAnyH_ready (rs := [7, 13]) (by kernel_rfl) (by simp) ?_
                      refine AllReadyH.cons rfl (fun K hK => ?_) (AllReadyH.cons rfl (fun K hK => ?_) AllReadyH.nil)
                      · refine step_app7 (by rfl) _ _ _ (by rfl) _ _ (by rfl) (by rfl) _ (app_rw usT _ _ _ _ [] (Cq.nil _ _ _) sa sn sc l HLL.out (us_rw (HLU.out.later (by go_grown))) HB8.out (Nat.le_refl _)) ?_
                        intro g1 wn hp
                        obtain ⟨hp1, hp2⟩ := hp
                        have hb3' : Below wy.heap.size wy wn := Below.trans (by go_grown) (hp2.mono (by first | (simp; done) | (simp; omega)))
                        refine hK.out _ _ (HK2.out wn hb3') (fun hHeld => ?_)
                        clear hK
                        try simp only [List.getElem_toArray, List.getElem_cons_succ, List.getElem_cons_zero, Act.put, List.setIfInBounds_toArray, List.set_cons_zero, List.set_cons_succ]
                        refine wpAnyH_ready (rs := [13]) (by kernel_rfl) (by simp) ?_
                        refine AllReadyH.cons rfl (fun K hK => ?_) AllReadyH.nil
                        go_simp
                        go_wp2_with fail
                        refine hK.out _ _ (HK2.out _ (hb3'.alloc hb3'.size _)) (fun hHeld => ?_)
                        clear hK
                        try simp only [List.getElem_toArray, List.getElem_cons_succ, List.getElem_cons_zero, Act.put, List.setIfInBounds_toArray, List.set_cons_zero, List.set_cons_succ]
                        refine wpAnyH_ready (rs := [14]) (by kernel_rfl) (by simp) ?_
                        refine AllReadyH.cons rfl (fun K hK => ?_) AllReadyH.nil
                        refine step_app7 (by rfl) _ _ _ (by rfl) _ _ (by rfl) (by rfl) _ (app_rw usT _ _ _ _ ([] ++ l) (hp1.later ?_) _ 1 1 [id] rfl ?_ HB9.out ?_) ?_
                        · exact (Below.refl _ _).alloc (Nat.le_refl _) _
                        · exact rw_one (f := u64C) wn rfl id rfl 22
                        · have := hp2.size; first | exact this | (simp at this ⊢; omega)
                        intro g2 wm hq
                        obtain ⟨hq1, hq2⟩ := hq
                        have hb4 : Below wy.heap.size wy wm := Below.trans (by first | exact hb3' | exact hb3'.alloc hb3'.size _) (hq2.mono (by first | (simp; done) | (simp; omega)))
                        obtain ⟨aw, cw, hv, hUw, hfw, _⟩ := hq1.form usT
                        subst hv
                        have HUW := Lib.hid (And.intro hUw hfw)
                        obtain ⟨k30, zz0, k31, zzf, _⟩ := HKY.out wm hb4
                        refine hK.out _ _ (HK2.out wm hb4) (fun hHeld => ?_)
                        clear hK
                        try simp only [List.getElem_toArray, List.getElem_cons_succ, List.getElem_cons_zero, Act.put, List.setIfInBounds_toArray, List.set_cons_zero, List.set_cons_succ]
                        refine wpAnyH_take (i := 15) (v := ?_) rfl (by kernel_rfl) (by kernel_rfl) (by kernel_rfl) (fun _ _ _ h => h) (Or.inl ⟨by rfl, ?hy15⟩) (by assumption) ?_
                        case hy15 => (intro w0 hSw; obtain ⟨g0, g1⟩ := hSw; go_simp; (try with_reducible rfl))
                        try simp only [List.getElem_toArray, List.getElem_cons_succ, List.getElem_cons_zero, Act.put, List.setIfInBounds_toArray, List.set_cons_zero, List.set_cons_succ]
                        refine wpAnyH_ready (rs := [16]) (by kernel_rfl) (by simp) ?_
                        refine AllReadyH.cons rfl (fun K hK => ?_) AllReadyH.nil
                        go_simp
                        go_wp2_with fail
                        refine hK.out _ _ ⟨(World.cell?_setCell_far _ _ _ _ hn1).trans k30, (World.cell?_setCell_far _ _ _ _ hn2).trans k31⟩ (fun hHeld => ?_)
                        clear hK
                        try simp only [List.getElem_toArray, List.getElem_cons_succ, List.getElem_cons_zero, Act.put, List.setIfInBounds_toArray, List.set_cons_zero, List.set_cons_succ]
                        refine wpAnyH_done (by kernel_rfl) ?_ _
                        go_wp2_with fail
                        go_roundw
                        case rel => exact ⟨t + 1, _, _, _, by omega, by go_num, one_noted HRS.out hb4 HB3.out.1 HB3.out.2.1 hbb HB3.out.2.2.2 HIX.out.2 HIX.out.1 aw cw id _ HUW.out.1 HUW.out.2 (by first | (simp; done) | (simp; omega)) hnote.out⟩
                        case measure => simp [intOf]; omega
                      · go_simp
                        go_wp2_with fail
                        refine hK.out _ _ (HK2.out _ (by go_grown)) (fun hHeld => ?_)
                        clear hK
                        try simp only [List.getElem_toArray, List.getElem_cons_succ, List.getElem_cons_zero, Act.put, List.setIfInBounds_toArray, List.set_cons_zero, List.set_cons_succ]
                        refine wpAnyH_ready (rs := [7]) (by kernel_rfl) (by simp) ?_
                        refine AllReadyH.cons rfl (fun K hK => ?_) AllReadyH.nil
                        refine step_app7 (by rfl) _ _ _ (by rfl) _ _ (by rfl) (by rfl) _ (app_rw usT _ _ _ _ [] (Cq.nil _ _ _) sa sn sc l HLL.out (us_rw (HLU.out.later (by go_grown))) HB8.out (Nat.le_refl _)) ?_
                        intro g1 wn hp
                        obtain ⟨hp1, hp2⟩ := hp
                        have hb3' : Below wy.heap.size wy wn := Below.trans (by go_grown) (hp2.mono (by first | (simp; done) | (simp; omega)))
                        refine hK.out _ _ (HK2.out wn hb3') (fun hHeld => ?_)
                        clear hK
                        try simp only [List.getElem_toArray, List.getElem_cons_succ, List.getElem_cons_zero, Act.put, List.setIfInBounds_toArray, List.set_cons_zero, List.set_cons_succ]
                        refine wpAnyH_ready (rs := [14]) (by kernel_rfl) (by simp) ?_
                        refine AllReadyH.cons rfl (fun K hK => ?_) AllReadyH.nil
                        refine step_app7 (by rfl) _ _ _ (by rfl) _ _ (by rfl) (by rfl) _ (app_rw usT _ _ _ _ ([] ++ l) (hp1.later ?_) _ 1 1 [id] rfl ?_ HB9.out ?_) ?_
                        · exact Below.refl _ _
                        · exact (rw_one (f := u64C) (wy.drew.alloc _) (by simp) id rfl 22).later hp2
                        · have := hp2.size; first | exact this | (simp at this ⊢; omega)
                        intro g2 wm hq
                        obtain ⟨hq1, hq2⟩ := hq
                        have hb4 : Below wy.heap.size wy wm := Below.trans (by first | exact hb3' | exact hb3'.alloc hb3'.size _) (hq2.mono (by first | (simp; done) | (simp; omega)))
                        obtain ⟨aw, cw, hv, hUw, hfw, _⟩ := hq1.form usT
                        subst hv
                        have HUW := Lib.hid (And.intro hUw hfw)
                        obtain ⟨k30, zz0, k31, zzf, _⟩ := HKY.out wm hb4
                        refine hK.out _ _ (HK2.out wm hb4) (fun hHeld => ?_)
                        clear hK
                        try simp only [List.getElem_toArray, List.getElem_cons_succ, List.getElem_cons_zero, Act.put, List.setIfInBounds_toArray, List.set_cons_zero, List.set_cons_succ]
                        refine wpAnyH_take (i := 15) (v := ?_) rfl (by kernel_rfl) (by kernel_rfl) (by kernel_rfl) (fun _ _ _ h => h) (Or.inl ⟨by rfl, ?hy15⟩) (by assumption) ?_
                        case hy15 => (intro w0 hSw; obtain ⟨g0, g1⟩ := hSw; go_simp; (try with_reducible rfl))
                        try simp only [List.getElem_toArray, List.getElem_cons_succ, List.getElem_cons_zero, Act.put, List.setIfInBounds_toArray, List.set_cons_zero, List.set_cons_succ]
                        refine wpAnyH_ready (rs := [16]) (by kernel_rfl) (by simp) ?_
                        refine AllReadyH.cons rfl (fun K hK => ?_) AllReadyH.nil
                        go_simp
                        go_wp2_with fail
                        refine hK.out _ _ ⟨(World.cell?_setCell_far _ _ _ _ hn1).trans k30, (World.cell?_setCell_far _ _ _ _ hn2).trans k31⟩ (fun hHeld => ?_)
                        clear hK
                        try simp only [List.getElem_toArray, List.getElem_cons_succ, List.getElem_cons_zero, Act.put, List.setIfInBounds_toArray, List.set_cons_zero, List.set_cons_succ]
                        refine wpAnyH_done (by kernel_rfl) ?_ _
                        go_wp2_with fail
                        go_roundw
                        case rel => exact ⟨t + 1, _, _, _, by omega, by go_num, one_noted HRS.out hb4 HB3.out.1 HB3.out.2.1 hbb HB3.out.2.2.2 HIX.out.2 HIX.out.1 aw cw id _ HUW.out.1 HUW.out.2 (by first | (simp; done) | (simp; omega)) hnote.out⟩
                        case measure => simp [intOf]; omega
                    · go_simp
                      go_wp2_with fail
                      refine hK.out _ _ (HK2.out _ (by go_grown)) (fun hHeld => ?_)
                      clear hK
                      try simp only [List.getElem_toArray, List.getElem_cons_succ, List.getElem_cons_zero, Act.put, List.setIfInBounds_toArray, List.set_cons_zero, List.set_cons_succ]
                      refine wpAnyH_ready (rs := [2]) (by kernel_rfl) (by simp) ?_
                      refine AllReadyH.cons rfl (fun K hK => ?_) AllReadyH.nil
                      go_simp
                      go_wp2_with fail
                      refine hK.out _ _ (HK2.out _ (by go_grown)) (fun hHeld => ?_)
                      clear hK
                      try simp only [List.getElem_toArray, List.getElem_cons_succ, List.getElem_cons_zero, Act.put, List.setIfInBounds_toArray, List.set_cons_zero, List.set_cons_succ]
                      refine wpAnyH_ready (rs := [7]) (by kernel_rfl) (by simp) ?_
                      refine AllReadyH.cons rfl (fun K hK => ?_) AllReadyH.nil
                      refine step_app7 (by rfl) _ _ _ (by rfl) _ _ (by rfl) (by rfl) _ (app_rw usT _ _ _ _ [] (Cq.nil _ _ _) sa sn sc l HLL.out (us_rw (HLU.out.later (by go_grown))) HB8.out (Nat.le_refl _)) ?_
                      intro g1 wn hp
                      obtain ⟨hp1, hp2⟩ := hp
                      have hb3' : Below wy.heap.size wy wn := Below.trans (by go_grown) (hp2.mono (by first | (simp; done) | (simp; omega)))
                      refine hK.out _ _ (HK2.out wn hb3') (fun hHeld => ?_)
                      clear hK
                      try simp only [List.getElem_toArray, List.getElem_cons_succ, List.getElem_cons_zero, Act.put, List.setIfInBounds_toArray, List.set_cons_zero, List.set_cons_succ]
                      refine wpAnyH_ready (rs := [14]) (by kernel_rfl) (by simp) ?_
                      refine AllReadyH.cons rfl (fun K hK => ?_) AllReadyH.nil
                      refine step_app7 (by rfl) _ _ _ (by rfl) _ _ (by rfl) (by rfl) _ (app_rw usT _ _ _ _ ([] ++ l) (hp1.later ?_) _ 1 1 [id] rfl ?_ HB9.out ?_) ?_
                      · exact Below.refl _ _
                      · exact ((rw_one (f := u64C) wy.drew rfl id rfl 22).later ((Below.refl _ _).alloc (Nat.le_refl _) _)).later hp2
                      · have := hp2.size; first | exact this | (simp at this ⊢; omega)
                      intro g2 wm hq
                      obtain ⟨hq1, hq2⟩ := hq
                      have hb4 : Below wy.heap.size wy wm := Below.trans (by first | exact hb3' | exact hb3'.alloc hb3'.size _) (hq2.mono (by first | (simp; done) | (simp; omega)))
                      obtain ⟨aw, cw, hv, hUw, hfw, _⟩ := hq1.form usT
                      subst hv
                      have HUW := Lib.hid (And.intro hUw hfw)
                      obtain ⟨k30, zz0, k31, zzf, _⟩ := HKY.out wm hb4
                      refine hK.out _ _ (HK2.out wm hb4) (fun hHeld => ?_)
                      clear hK
                      try simp only [List.getElem_toArray, List.getElem_cons_succ, List.getElem_cons_zero, Act.put, List.setIfInBounds_toArray, List.set_cons_zero, List.set_cons_succ]
                      refine wpAnyH_take (i := 15) (v := ?_) rfl (by kernel_rfl) (by kernel_rfl) (by kernel_rfl) (fun _ _ _ h => h) (Or.inl ⟨by rfl, ?hy15⟩) (by assumption) ?_
                      case hy15 => (intro w0 hSw; obtain ⟨g0, g1⟩ := hSw; go_simp; (try with_reducible rfl))
                      try simp only [List.getElem_toArray, List.getElem_cons_succ, List.getElem_cons_zero, Act.put, List.setIfInBounds_toArray, List.set_cons_zero, List.set_cons_succ]
                      refine wpAnyH_ready (rs := [16]) (by kernel_rfl) (by simp) ?_
                      refine AllReadyH.cons rfl (fun K hK => ?_) AllReadyH.nil
                      go_simp
                      go_wp2_with fail
                      refine hK.out _ _ ⟨(World.cell?_setCell_far _ _ _ _ hn1).trans k30, (World.cell?_setCell_far _ _ _ _ hn2).trans k31⟩ (fun hHeld => ?_)
                      clear hK
                      try simp only [List.getElem_toArray, List.getElem_cons_succ, List.getElem_cons_zero, Act.put, List.setIfInBounds_toArray, List.set_cons_zero, List.set_cons_succ]
                      refine wpAnyH_done (by kernel_rfl) ?_ _
                      go_wp2_with fail
                      go_roundw
                      case rel => exact ⟨t + 1, _, _, _, by omega, by go_num, one_noted HRS.out hb4 HB3.out.1 HB3.out.2.1 hbb HB3.out.2.2.2 HIX.out.2 HIX.out.1 aw cw id _ HUW.out.1 HUW.out.2 (by first | (simp; done) | (simp; omega)) hnote.out⟩
                      case measure => simp [intOf]; omega
                  · go_simp
                    go_wp2_with fail
                    refine hK.out _ _ (HK2.out _ (by go_grown)) (fun hHeld => ?_)
                    clear hK
                    try simp only [List.getElem_toArray, List.getElem_cons_succ, List.getElem_cons_zero, Act.put, List.setIfInBounds_toArray, List.set_cons_zero, List.set_cons_succ]
                    refine wpAnyH_ready (rs := [2, 6]) (by kernel_rfl) (by simp) ?_
                    refine AllReadyH.cons rfl (fun K hK => ?_) (AllReadyH.cons rfl (fun K hK => ?_) AllReadyH.nil)
                    · go_simp
                      go_wp2_with fail
                      refine hK.out _ _ (HK2.out _ (by go_grown)) (fun hHeld => ?_)
                      clear hK
                      try simp only [List.getElem_toArray, List.getElem_cons_succ, List.getElem_cons_zero, Act.put, List.setIfInBounds_toArray, List.set_cons_zero, List.set_cons_succ]
                      refine wpAnyH_ready (rs := [6]) (by kernel_rfl) (by simp) ?_
                      refine AllReadyH.cons rfl (fun K hK => ?_) AllReadyH.nil
                      go_simp
                      go_wp2_with fail
                      refine hK.out _ _ (by assumption) (fun hHeld => ?_)
                      clear hK
                      try simp only [List.getElem_toArray, List.getElem_cons_succ, List.getElem_cons_zero, Act.put, List.setIfInBounds_toArray, List.set_cons_zero, List.set_cons_succ]
                      refine wpAnyH_ready (rs := [7]) (by kernel_rfl) (by simp) ?_
                      refine AllReadyH.cons rfl (fun K hK => ?_) AllReadyH.nil
                      refine step_app7 (by rfl) _ _ _ (by rfl) _ _ (by rfl) (by rfl) _ (app_rw usT _ _ _ _ [] (Cq.nil _ _ _) sa sn sc l HLL.out (us_rw (HLU.out.later (by go_grown))) HB8.out (Nat.le_refl _)) ?_
                      intro g1 wn hp
                      obtain ⟨hp1, hp2⟩ := hp
                      have hb3' : Below wy.heap.size wy wn := Below.trans (by go_grown) (hp2.mono (by first | (simp; done) | (simp; omega)))
                      refine hK.out _ _ (HK2.out wn hb3') (fun hHeld => ?_)
                      clear hK
                      try simp only [List.getElem_toArray, List.getElem_cons_succ, List.getElem_cons_zero, Act.put, List.setIfInBounds_toArray, List.set_cons_zero, List.set_cons_succ]
                      refine wpAnyH_ready (rs := [14]) (by kernel_rfl) (by simp) ?_
                      refine AllReadyH.cons rfl (fun K hK => ?_) AllReadyH.nil
                      refine step_app7 (by rfl) _ _ _ (by rfl) _ _ (by rfl) (by rfl) _ (app_rw usT _ _ _ _ ([] ++ l) (hp1.later ?_) _ 1 1 [id] rfl ?_ HB9.out ?_) ?_
                      · exact Below.refl _ _
                      · exact ((rw_one (f := u64C) wy.drew rfl id rfl 22).later ((Below.refl _ _).alloc (Nat.le_refl _) _)).later hp2
                      · have := hp2.size; first | exact this | (simp at this ⊢; omega)
                      intro g2 wm hq
                      obtain ⟨hq1, hq2⟩ := hq
                      have hb4 : Below wy.heap.size wy wm := Below.trans (by first | exact hb3' | exact hb3'.alloc hb3'.size _) (hq2.mono (by first | (simp; done) | (simp; omega)))
                      obtain ⟨aw, cw, hv, hUw, hfw, _⟩ := hq1.form usT
                      subst hv
                      have HUW := Lib.hid (And.intro hUw hfw)
                      obtain ⟨k30, zz0, k31, zzf, _⟩ := HKY.out wm hb4
                      refine hK.out _ _ (HK2.out wm hb4) (fun hHeld => ?_)
                      clear hK
                      try simp only [List.getElem_toArray, List.getElem_cons_succ, List.getElem_cons_zero, Act.put, List.setIfInBounds_toArray, List.set_cons_zero, List.set_cons_succ]
                      refine wpAnyH_take (i := 15) (v := ?_) rfl (by kernel_rfl) (by kernel_rfl) (by kernel_rfl) (fun _ _ _ h => h) (Or.inl ⟨by rfl, ?hy15⟩) (by assumption) ?_
                      case hy15 => (intro w0 hSw; obtain ⟨g0, g1⟩ := hSw; go_simp; (try with_reducible rfl))
                      try simp only [List.getElem_toArray, List.getElem_cons_succ, List.getElem_cons_zero, Act.put, List.setIfInBounds_toArray, List.set_cons_zero, List.set_cons_succ]
                      refine wpAnyH_ready (rs := [16]) (by kernel_rfl) (by simp) ?_
                      refine AllReadyH.cons rfl (fun K hK => ?_) AllReadyH.nil
                      go_simp
                      go_wp2_with fail
                      refine hK.out _ _ ⟨(World.cell?_setCell_far _ _ _ _ hn1).trans k30, (World.cell?_setCell_far _ _ _ _ hn2).trans k31⟩ (fun hHeld => ?_)
                      clear hK
                      try simp only [List.getElem_toArray, List.getElem_cons_succ, List.getElem_cons_zero, Act.put, List.setIfInBounds_toArray, List.set_cons_zero, List.set_cons_succ]
                      refine wpAnyH_done (by kernel_rfl) ?_ _
                      go_wp2_with fail
                      go_roundw
                      case rel => exact ⟨t + 1, _, _, _, by omega, by go_num, one_noted HRS.out hb4 HB3.out.1 HB3.out.2.1 hbb HB3.out.2.2.2 HIX.out.2 HIX.out.1 aw cw id _ HUW.out.1 HUW.out.2 (by first | (simp; done) | (simp; omega)) hnote.out⟩
                      case measure => simp [intOf]; omega
                    · go_simp
                      go_wp2_with fail
                      refine hK.out _ _ (by assumption) (fun hHeld => ?_)
                      clear hK
                      try simp only [List.getElem_toArray, List.getElem_cons_succ, List.getElem_cons_zero, Act.put, List.setIfInBounds_toArray, List.set_cons_zero, List.set_cons_succ]
                      refine wpAnyH_ready (rs := [2]) (by kernel_rfl) (by simp) ?_
                      refine AllReadyH.cons rfl (fun K hK => ?_) AllReadyH.nil
                      go_simp
                      go_wp2_with fail
                      refine hK.out _ _ (HK2.out _ (by go_grown)) (fun hHeld => ?_)
                      clear hK
                      try simp only [List.getElem_toArray, List.getElem_cons_succ, List.getElem_cons_zero, Act.put, List.setIfInBounds_toArray, List.set_cons_zero, List.set_cons_succ]
                      refine wpAnyH_ready (rs := [7]) (by kernel_rfl) (by simp) ?_
                      refine AllReadyH.cons rfl (fun K hK => ?_) AllReadyH.nil
                      refine step_app7 (by rfl) _ _ _ (by rfl) _ _ (by rfl) (by rfl) _ (app_rw usT _ _ _ _ [] (Cq.nil _ _ _) sa sn sc l HLL.out (us_rw (HLU.out.later (by go_grown))) HB8.out (Nat.le_refl _)) ?_
                      intro g1 wn hp
                      obtain ⟨hp1, hp2⟩ := hp
                      have hb3' : Below wy.heap.size wy wn := Below.trans (by go_grown) (hp2.mono (by first | (simp; done) | (simp; omega)))
                      refine hK.out _ _ (HK2.out wn hb3') (fun hHeld => ?_)
                      clear hK
                      try simp only [List.getElem_toArray, List.getElem_cons_succ, List.getElem_cons_zero, Act.put, List.setIfInBounds_toArray, List.set_cons_zero, List.set_cons_succ]
                      refine wpAnyH_ready (rs := [14]) (by kernel_rfl) (by simp) ?_
                      refine AllReadyH.cons rfl (fun K hK => ?_) AllReadyH.nil
                      refine step_app7 (by rfl) _ _ _ (by rfl) _ _ (by rfl) (by rfl) _ (app_rw usT _ _ _ _ ([] ++ l) (hp1.later ?_) _ 1 1 [id] rfl ?_ HB9.out ?_) ?_
                      · exact Below.refl _ _
                      · exact ((rw_one (f := u64C) wy.drew rfl id rfl 22).later ((Below.refl _ _).alloc (Nat.le_refl _) _)).later hp2
                      · have := hp2.size; first | exact this | (simp at this ⊢; omega)
                      intro g2 wm hq
                      obtain ⟨hq1, hq2⟩ := hq
                      have hb4 : Below wy.heap.size wy wm := Below.trans (by first | exact hb3' | exact hb3'.alloc hb3'.size _) (hq2.mono (by first | (simp; done) | (simp; omega)))
                      obtain ⟨aw, cw, hv, hUw, hfw, _⟩ := hq1.form usT
                      subst hv
                      have HUW := Lib.hid (And.intro hUw hfw)
                      obtain ⟨k30, zz0, k31, zzf, _⟩ := HKY.out wm hb4
                      refine hK.out _ _ (HK2.out wm hb4) (fun hHeld => ?_)
                      clear hK
                      try simp only [List.getElem_toArray, List.getElem_cons_succ, List.getElem_cons_zero, Act.put, List.setIfInBounds_toArray, List.set_cons_zero, List.set_cons_succ]
                      refine wpAnyH_take (i := 15) (v := ?_) rfl (by kernel_rfl) (by kernel_rfl) (by kernel_rfl) (fun _ _ _ h => h) (Or.inl ⟨by rfl, ?hy15⟩) (by assumption) ?_
                      case hy15 => (intro w0 hSw; obtain ⟨g0, g1⟩ := hSw; go_simp; (try with_reducible rfl))
                      try simp only [List.getElem_toArray, List.getElem_cons_succ, List.getElem_cons_zero, Act.put, List.setIfInBounds_toArray, List.set_cons_zero, List.set_cons_succ]
                      refine wpAnyH_ready (rs := [16]) (by kernel_rfl) (by simp) ?_
                      refine AllReadyH.cons rfl (fun K hK => ?_) AllReadyH.nil
                      go_simp
                      go_wp2_with fail
                      refine hK.out _ _ ⟨(World.cell?_setCell_far _ _ _ _ hn1).trans k30, (World.cell?_setCell_far _ _ _ _ hn2).trans k31⟩ (fun hHeld => ?_)
                      clear hK
                      try simp only [List.getElem_toArray, List.getElem_cons_succ, List.getElem_cons_zero, Act.put, List.setIfInBounds_toArray, List.set_cons_zero, List.set_cons_succ]
                      refine wpAnyH_done (by kernel_rfl) ?_ _
                      go_wp2_with fail
                      go_roundw
                      case rel => exact ⟨t + 1, _, _, _, by omega, by go_num, one_noted HRS.out hb4 HB3.out.1 HB3.out.2.1 hbb HB3.out.2.2.2 HIX.out.2 HIX.out.1 aw cw id _ HUW.out.1 HUW.out.2 (by first | (simp; done) | (simp; omega)) hnote.out⟩
                      case measure => simp [intOf]; omega
              · have htq : t = q := by omega
                subst htq
                clear hlt3
                go_wp2_with fail
                obtain ⟨wo, rfl⟩ : ∃ x, x = wr := ⟨_, rfl⟩
                go_loopw [18] (fun i wr => ∃ g : Nat, g ≤ j ∧ i = .int .i64 g ∧ OneRel w wr k j bs cs bi ci B3 (.slice a k c) (.slice a2 n2 c2) V A tm t S II LL) (fun i _ => j - (intOf i).toNat)
                case atStart => exact ⟨0, Nat.zero_le _, rfl, HR3.out⟩
                case round =>
                  obtain ⟨g, hg, rfl, hr4⟩ := hrel
                  have HR4 := Lib.hid hr4
                  clear hr4
                  by_cases hlt4 : g < j
                  · have i0 : (0 : Int) ≤ (g : Int) := by omega
                    have i1 : (g : Int) < (j : Int) := by omega
                    go_wp2_with fail
                    obtain ⟨wu, rfl⟩ : ∃ x, x = wr := ⟨_, rfl⟩
                    go_loopw [19] (fun i wr => ∃ h : Nat, h ≤ g ∧ i = .int .i64 h ∧ OneRel w wr k j bs cs bi ci B3 (.slice a k c) (.slice a2 n2 c2) V A tm t S II LL) (fun i _ => g - (intOf i).toNat)
                    case atStart => exact ⟨0, Nat.zero_le _, rfl, HR4.out⟩
                    case round =>
                      obtain ⟨h, hh, rfl, hr5⟩ := hrel
                      have HR5 := Lib.hid hr5
                      clear hr5
                      by_cases hlt5 : h < g
                      · have i2 : (0 : Int) ≤ (h : Int) := by omega
                        have i3 : (h : Int) < (g : Int) := by omega
                        have i4 : (h : Int) < (j : Int) := by omega
                        obtain ⟨x, hx⟩ : ∃ x, A[g]? = some x := ⟨_, List.getElem?_eq_getElem (by rw [HM.out]; omega)⟩
                        obtain ⟨y, hy⟩ : ∃ x, A[h]? = some x := ⟨_, List.getElem?_eq_getElem (by rw [HM.out]; omega)⟩
                        obtain ⟨l1, hl1⟩ : ∃ l, LL[g]? = some l := ⟨_, List.getElem?_eq_getElem (by rw [← HR5.out.votes.1, HR5.out.il]; omega)⟩
                        obtain ⟨l2, hl2'⟩ : ∃ l, LL[h]? = some l := ⟨_, List.getElem?_eq_getElem (by rw [← HR5.out.votes.1, HR5.out.il]; omega)⟩
                        obtain ⟨⟨sa1, sn1, sc1⟩, hs1⟩ : ∃ l, II[g]? = some l := ⟨_, List.getElem?_eq_getElem (by rw [HR5.out.il]; omega)⟩
                        obtain ⟨⟨sa2, sn2, sc2⟩, hs2⟩ : ∃ l, II[h]? = some l := ⟨_, List.getElem?_eq_getElem (by rw [HR5.out.il]; omega)⟩
                        obtain ⟨q1, q2, _⟩ := HR5.out.votes.2 g _ l1 hs1 hl1
                        obtain ⟨q3, q4, _⟩ := HR5.out.votes.2 h _ l2 hs2 hl2'
                        simp only at q1 q2 q3 q4
                        have e1 := HR5.out.len g l1 hl1
                        have e2 := HR5.out.len h l2 hl2'
                        have HE := Lib.hid (show mostB V l1 = true → mostB V l2 = true → x.fr = y.fr from fun h1 h2 => oneInv_end HR5.out.inv (by rw [HR5.out.sl, HN.out]) hx hy hl1 hl2' h1 h2)
                        obtain ⟨b3, o3, rfl, hb3, hc3⟩ := (HA.out.later HR5.out.below) g x hx
                        obtain ⟨b3', o3', e3, _, hc4⟩ := (HA.out.later HR5.out.below) h y hy
                        simp only [Option.some.injEq, Addr.mk.injEq, and_true] at e3
                        obtain ⟨rfl, rfl⟩ := e3
                        have HX1 := Lib.hid (hc3 1 _ rfl)
                        have HX2 := Lib.hid (hc4 1 _ rfl)
                        have z0 := id_cell HR5.out.ids HR5.out.il hs1
                        have HZ0 := Lib.hid (id_cell HR5.out.ids HR5.out.il hs2)
                        simp only at z0
                        have hbir : bi < wr.heap.size := Nat.lt_of_lt_of_le HB3.out.2.1 HR5.out.room
                        have HQ1 := Lib.hid q1
                        have HQ2 := Lib.hid q2
                        have HQ3 := Lib.hid q3
                        have HQ4 := Lib.hid q4
                        obtain ⟨m1, hm1⟩ : ∃ b, mostB V l1 = b := ⟨_, rfl⟩
                        obtain ⟨m2, hm2⟩ : ∃ b, mostB V l2 = b := ⟨_, rfl⟩
                        have HM1 := Lib.hid hm1
                        have HM2 := Lib.hid hm2
                        clear q1 q2 q3 q4 hc3 hc4 hm1 hm2 hx hy hl1 hl2' hs1 hs2
                        obtain ⟨c0, c1, _, cl⟩ := HR5.out.conf
                        have HS1 := Lib.hid (show k ≤ 140737488351232 ∧ sn1 ≤ 140737488351232 ∧ sn2 ≤ 140737488351232 by have := HQ1.out; have := HQ3.out; omega)
                        go_upto_region 35 with fail
                        go_cut [20] (fun v wx => v = .bool m1 ∧ Below wr.heap.size wr wx)
                        case first =>
                          go_region_with (go_at_call 15; (with_reducible refine (rMost_any k c n2 c2 sn1 sc1 a a2 sa1 V l1 HN.out HS1.out.1 hc hcm HQ1.out HS1.out.2.1 _ ((HV.out.later HR5.out.below).later ((Below.refl _ _).drew)) (HQ2.out.later ((Below.refl _ _).drew))).mono ?_); rintro e8 w8 ⟨rfl, hb8⟩; rw [HM1.out])
                          all_goals
                            go_wp2_with fail
                            go_meet
                            exact ⟨rfl, (Below.refl _ _).drew.trans hb8⟩
                        case rest =>
                          obtain ⟨rfl, hb6⟩ := hcut
                          obtain ⟨wx, rfl⟩ := below_name hb6
                          have HR6 := Lib.hid (HR5.out.later hb6)
                          have HB6 := Lib.hid hb6
                          have z9 := (hb6.cell (p := ⟨bi, h, none⟩) hbir).trans HZ0.out
                          simp only at z9
                          have hbix : bi < wx.heap.size := Nat.lt_of_lt_of_le HB3.out.2.1 HR6.out.room
                          clear c0 c1 cl z0 hb6
                          obtain ⟨c0, c1, _, cl⟩ := HR6.out.conf
                          go_upto_region 36 with fail
                          go_cut [21] (fun v wy => v = .bool m2 ∧ Below wx.heap.size wx wy)
                          case first =>
                            go_region_with (go_at_call 15; (with_reducible refine (rMost_any k c n2 c2 sn2 sc2 a a2 sa2 V l2 HN.out HS1.out.1 hc hcm HQ3.out HS1.out.2.2 _ ((HV.out.later HR6.out.below).later ((Below.refl _ _).drew)) ((HQ4.out.later HB6.out).later ((Below.refl _ _).drew))).mono ?_); rintro e8 w8 ⟨rfl, hb8⟩; rw [HM2.out])
                            all_goals
                              go_wp2_with fail
                              go_meet
                              exact ⟨rfl, (Below.refl _ _).drew.trans hb8⟩
                          case rest =>
                            obtain ⟨rfl, hb7⟩ := hcut
                            obtain ⟨wy, rfl⟩ := below_name hb7
                            have HR7 := Lib.hid (HR6.out.later hb7)
                            have y0 := (hb7.cell (p := ⟨b3, o3 + g * 5 + 1, none⟩) (Nat.lt_of_lt_of_le hb3 HB6.out.size)).trans ((HB6.out.cell (p := ⟨b3, o3 + g * 5 + 1, none⟩) hb3).trans HX1.out)
                            have y1 := (hb7.cell (p := ⟨b3, o3 + h * 5 + 1, none⟩) (Nat.lt_of_lt_of_le hb3 HB6.out.size)).trans ((HB6.out.cell (p := ⟨b3, o3 + h * 5 + 1, none⟩) hb3).trans HX2.out)
                            clear c0 c1 cl z9 hb7
                            obtain ⟨xt, xf, xl, xi, xp⟩ := x
                            obtain ⟨yt, yf, yl, yi, yp⟩ := y
                            simp only at y0 y1
                            cases m1
                            · go_wp2_with fail
                              go_quiet (fail)
                              go_wp2_with fail
                              go_roundw
                              case rel => exact ⟨h + 1, by omega, by go_num, HR7.out.later (below_drewN (Below.refl _ _) _)⟩
                              case measure => simp [intOf]; omega
                            · cases m2
                              · go_wp2_with fail
                                go_quiet (fail)
                                go_wp2_with fail
                                go_roundw
                                case rel => exact ⟨h + 1, by omega, by go_num, HR7.out.later (below_drewN (Below.refl _ _) _)⟩
                                case measure => simp [intOf]; omega
                              · obtain rfl : xf = yf := HE.out HM1.out HM2.out
                                go_wp2_with fail
                                go_quiet (fail)
                                go_wp2_with fail
                                go_roundw
                                case rel => exact ⟨h + 1, by omega, by go_num, HR7.out.later (below_drewN (Below.refl _ _) _)⟩
                                case measure => simp [intOf]; omega
                      · go_wp2_with fail
                        go_roundw
                        case rel => exact ⟨g + 1, by omega, by go_num, HR5.out⟩
                        case measure => simp [intOf]; omega
                  · go_wp2_with fail
                    go_ret
                    exact ⟨by first | rfl | simp, HR4.out.below⟩
end Go.Proofs.Ytmcmanjniloeaaa
