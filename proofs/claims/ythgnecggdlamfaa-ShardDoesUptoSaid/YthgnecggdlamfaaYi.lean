/- How many keys there may be: the document's Keys. -/
import Derived.Test.YthgnecggdlamfaaYh
namespace Go.Proofs.Ythgnecggdlamfaa
open Go.RowKit

theorem foldK_len : ∀ (l acc : List ByteArray), (l.foldl addK acc).length ≤ acc.length + l.length
  | [], acc => Nat.le_refl _
  | k :: r, acc => by
    rw [List.foldl_cons]
    have := foldK_len r (addK acc k)
    have h2 : (addK acc k).length ≤ acc.length + 1 := by unfold addK; split <;> simp
    simp only [List.length_cons]; omega
/-- The keys of a part of what there is. -/
def fK (l : List ByteArray) : List ByteArray := l.foldl addK []
theorem fK_snoc (l : List ByteArray) (k : ByteArray) : fK (l ++ [k]) = addK (fK l) k := by simp [fK]
theorem fK_len (l : List ByteArray) : (fK l).length ≤ l.length := by have := foldK_len l []; simpa [fK] using this
theorem takeP_snoc {α : Type} {P : List α} {k : Nat} {x : α} (hx : P[k]? = some x) : P.take (k + 1) = P.take k ++ [x] := by
  obtain ⟨hk, rfl⟩ := List.getElem?_eq_some_iff.1 hx
  exact List.take_succ_eq_append_getElem hk
theorem putK_snoc (P : List Pu) (p : Pu) : putK (P ++ [p]) = putK P ++ (if p.gone then [] else [p.key]) := by
  unfold putK
  rw [List.filter_append, List.map_append]
  cases hg : p.gone <;> simp [hg]
theorem putK_len (P : List Pu) : (putK P).length ≤ P.length := by
  unfold putK; rw [List.length_map]; exact List.length_filter_le _ _
theorem putK_take_le (P : List Pu) (j : Nat) : (putK (P.take j)).length ≤ (putK P).length := by
  unfold putK
  rw [List.length_map, List.length_map]
  exact ((List.take_sublist j P).filter _).length_le
theorem opnK_snoc (O : List Sop) (x : Sop) : opnK (O ++ [x]) = opnK O ++ (if x.fm then putK x.puts else []) := by simp [opnK]
theorem opnK_take_le {O : List Sop} {k : Nat} {x : Sop} (hx : O[k]? = some x) : (opnK (O.take k)).length + (if x.fm then putK x.puts else []).length ≤ (opnK O).length := by
  have h1 : opnK (O.take (k + 1)) = opnK (O.take k) ++ (if x.fm then putK x.puts else []) := by rw [takeP_snoc hx, opnK_snoc]
  have h2 : opnK O = opnK (O.take (k + 1)) ++ opnK (O.drop (k + 1)) := by
    unfold opnK
    rw [← List.flatMap_append, List.take_append_drop]
  rw [h2, h1]; simp only [List.length_append]; omega
set_option maxRecDepth 100000 in
set_option maxHeartbeats 8000000 in
theorem rKeys_any (s : Sh) (A : Sad) (m d : Nat) (b : Option Addr) (P : List Pu) (hm : P.length = m) (hl2 : m ≤ 140737488351232) (hr : s.rows.length ≤ 140737488351232) (ho : s.opn.length ≤ 140737488351232) (hop : ∀ x ∈ s.opn, x.puts.length ≤ 140737488351232) (hK : (allK s P).length ≤ 1000000000) (w : World) (hM : ShM w s A) (hP : Pus w b P) :
    Calls Try.prog 30 #[shV s A, .slice b m d] w fun e w' => e = .returned (.int .i64 (keysN s P : Nat)) ∧ Below w.heap.size w w' := by
  obtain ⟨nr, hnr⟩ : ∃ n, s.rows.length = n := ⟨_, rfl⟩
  obtain ⟨no, hno⟩ : ∃ n, s.opn.length = n := ⟨_, rfl⟩
  obtain ⟨W, hW⟩ : ∃ W, w.alloc (.cells #[.slice A.ra s.rows.length A.rc, .slice A.ha s.holds.length A.hc, .slice A.oa s.opn.length A.oc, .slice A.da s.done.length A.dc, .int .u64 (s.ver : Nat)] 28) = W := ⟨_, rfl⟩
  obtain ⟨x2, hx2⟩ : ∃ x, w.heap.size = x := ⟨_, rfl⟩
  have hBX : Below w.heap.size w W ∧ x2 < W.heap.size ∧ W.cell? ⟨x2, 0, none⟩ = some (.slice A.ra s.rows.length A.rc) ∧ W.cell? ⟨x2, 2, none⟩ = some (.slice A.oa s.opn.length A.oc) := by
    rw [← hW, ← hx2]
    exact ⟨by go_grown, by simp, by simp [go_sem], by simp [go_sem]⟩
  rw [hnr, hno] at hBX
  rw [hnr] at hr
  rw [hno] at ho
  obtain ⟨hB, hxl, hc0, hc2⟩ := hBX
  have HB0 := Lib.hid hB
  have HM := Lib.hid (hM.later hB)
  have HP := Lib.hid (hP.later hB)
  have HC0 := Lib.hid (fun (w' : World) (h : Below W.heap.size W w') => (h.cell (p := ⟨x2, 0, none⟩) hxl).trans hc0)
  have HC2 := Lib.hid (fun (w' : World) (h : Below W.heap.size W w') => (h.cell (p := ⟨x2, 2, none⟩) hxl).trans hc2)
  have HW := Lib.hid hW
  have HX2 := Lib.hid hx2
  have HNR := Lib.hid hnr
  have HNO := Lib.hid hno
  have HMM := Lib.hid hm
  have HOP := Lib.hid hop
  obtain ⟨KR, hKR⟩ : ∃ K, s.rows.map (fun x => x.key) = K := ⟨_, rfl⟩
  have hKl : KR.length = nr := by rw [← hKR, List.length_map, hnr]
  have hall : allK s P = KR ++ opnK s.opn ++ putK P := by rw [← hKR]; rfl
  have HALL := Lib.hid (show keysN s P = (fK (KR ++ opnK s.opn ++ putK P)).length by rw [← hall]; rfl)
  have hlen : nr + (opnK s.opn).length + (putK P).length ≤ 1000000000 := by
    rw [hall, List.length_append, List.length_append, hKl] at hK; exact hK
  have HKR := Lib.hid (show ∀ (k : Nat) (x : Ro), s.rows[k]? = some x → KR[k]? = some x.key from fun k x hx => by rw [← hKR, List.getElem?_map, hx]; rfl)
  have HKL := Lib.hid hKl
  obtain ⟨ra, hra⟩ : ∃ x, A.ra = x := ⟨_, rfl⟩
  have hrows := HM.out.rows
  rw [hra] at HC0 hrows
  have HRW := Lib.hid hrows
  obtain ⟨oa, hoa⟩ : ∃ x, A.oa = x := ⟨_, rfl⟩
  have hopn := HM.out.opn
  rw [hoa] at HC2 hopn
  have HON := Lib.hid hopn
  rw [HALL.out]
  clear hB hM hP hW hx2 hc0 hc2 hxl hra hrows hoa hopn hnr hno hm hop hKR hKl hall hK
  go_enter Try.func30, Try.ntmps30
  go_wp2_with fail
  rw [HW.out, HX2.out]
  go_loopw [5, 6] (fun lv iv wr => ∃ (k : Nat) (a' : Option Addr) (c' : Nat), k ≤ nr ∧ iv = .int .i64 k ∧ lv = .slice a' (fK (KR.take k)).length c' ∧ Strs wr a' (fK (KR.take k)) ∧ Below W.heap.size W wr) (fun _ iv _ => nr - (intOf iv).toNat)
  case atStart => exact ⟨0, none, 0, Nat.zero_le _, rfl, rfl, Rw.nil _, Below.refl _ _⟩
  case round =>
    obtain ⟨k, a', c', hk, rfl, rfl, hS, hB⟩ := hrel
    have HB := Lib.hid hB
    have c0 := HC0.out _ hB
    by_cases hlt : k < nr
    · obtain ⟨x, hx⟩ : ∃ x, s.rows[k]? = some x := ⟨_, List.getElem?_eq_getElem (by rw [HNR.out]; exact hlt)⟩
      have i0 : (0 : Int) ≤ (k : Int) := by omega
      have i1 : (k : Int) < (nr : Int) := by omega
      obtain ⟨b1, off, rfl, _, p0, _, _⟩ := Ros.cells (HRW.out.later hB) hx
      have hfl := fK_len (KR.take k)
      rw [List.length_take] at hfl
      have CW := Lib.hid (rWith_any x.key (fK (KR.take k)).length c' a' (fK (KR.take k)) rfl (by omega) wr hS)
      have HE := Lib.hid (show addK (fK (KR.take k)) x.key = fK (KR.take (k + 1)) by rw [takeP_snoc (HKR.out k x hx), fK_snoc])
      rw [HE.out] at CW
      obtain ⟨xk, xv, xn⟩ := x
      simp only at p0 CW
      clear hx hB hS hfl
      go_wp2_with fail
      refine CW.out.mono ?_
      rintro e w2 ⟨a2, c2, rfl, hS2, hb2⟩
      have HB2 := Lib.hid (HB.out.trans (hb2.mono HB.out.size))
      have HS2 := Lib.hid hS2
      clear hS2 hb2 c0 p0
      go_wp2_with fail
      go_roundw
      case rel => exact ⟨k + 1, a2, c2, by omega, by go_num, rfl, HS2.out, HB2.out⟩
      case measure => simp [intOf]; omega
    have i1 : ¬ (k : Int) < (nr : Int) := by omega
    have hkn : k = nr := by omega
    subst hkn
    have hfull : KR.take k = KR := List.take_of_length_le (by rw [HKL.out]; omega)
    rw [hfull] at hS ⊢
    have HS := Lib.hid hS
    clear hB hS hfull
    go_wp2_with fail
    go_loopw [5, 7] (fun lv iv wr => ∃ (q : Nat) (a' : Option Addr) (c' : Nat), q ≤ no ∧ iv = .int .i64 q ∧ lv = .slice a' (fK (KR ++ opnK (s.opn.take q))).length c' ∧ Strs wr a' (fK (KR ++ opnK (s.opn.take q))) ∧ Below W.heap.size W wr) (fun _ iv _ => no - (intOf iv).toNat)
    case atStart => exact ⟨0, a', c', Nat.zero_le _, rfl, by simp [opnK], by simpa [opnK] using HS.out, HB.out⟩
    case round =>
      obtain ⟨q, a', c', hq, rfl, rfl, hS, hBq⟩ := hrel
      have HBQ := Lib.hid hBq
      have c2 := HC2.out _ hBq
      by_cases hqt : q < no
      · have HQT := Lib.hid hqt
        obtain ⟨x, hx⟩ : ∃ x, s.opn[q]? = some x := ⟨_, List.getElem?_eq_getElem (by rw [HNO.out]; exact hqt)⟩
        obtain ⟨y, hy⟩ : ∃ y, A.om[q]? = some y := ⟨_, List.getElem?_eq_getElem (by rw [HM.out.olen, HNO.out]; exact hqt)⟩
        have hyx : y.x = x := by
          have h1 : (A.om.map fun y => y.x)[q]? = some y.x := by rw [List.getElem?_map, hy]; rfl
          rw [HM.out.om, hx] at h1
          exact (Option.some.inj h1).symm
        subst hyx
        have q0 : (0 : Int) ≤ (q : Int) := by omega
        have q1 : (q : Int) < (no : Int) := by omega
        have hpl := HOP.out y.x (List.mem_of_getElem? hx)
        have hot := opnK_take_le hx
        have HPU := Lib.hid (HM.out.puts y (List.mem_of_getElem? hy))
        have HCE := Lib.hid (fun (w' : World) (h : Below W.heap.size W w') => Sop.cells (HON.out.later h) hy)
        have HNX := Lib.hid (show KR ++ opnK (s.opn.take (q + 1)) = KR ++ opnK (s.opn.take q) ++ (if y.x.fm then putK y.x.puts else []) by rw [takeP_snoc hx, opnK_snoc, List.append_assoc])
        have HS := Lib.hid hS
        obtain ⟨⟨yt, yf, yw, yp⟩, ya, yc⟩ := y
        simp only at hpl hot HPU HCE HNX
        have hql : (KR ++ opnK (s.opn.take q)).length = k + (opnK (s.opn.take q)).length := by rw [List.length_append, HKL.out]
        obtain ⟨B, hBd⟩ : ∃ B, KR ++ opnK (s.opn.take q) = B := ⟨_, rfl⟩
        rw [hBd] at HS HNX hql ⊢
        have HLB := Lib.hid (show yf = true → ∀ j, (fK (B ++ putK (yp.take j))).length ≤ 1000000000 from fun hyf j => by
          have h1 := fK_len (B ++ putK (yp.take j))
          have h2 := putK_take_le yp j
          rw [List.length_append] at h1
          rw [hyf] at hot; simp only [if_true] at hot
          omega)
        obtain ⟨np, hnp⟩ : ∃ n, yp.length = n := ⟨_, rfl⟩
        rw [hnp] at hpl HCE
        have HNP := Lib.hid hnp
        have HBD := Lib.hid hBd
        clear hx hy hBq hS hBd hnp hql hot
        cases yf
        · have HN2 := Lib.hid (show KR ++ opnK (s.opn.take (q + 1)) = B by rw [HNX.out]; simp)
          clear HNX HLB
          go_wp2_with fail
          go_loopw [5, 8] (fun lv iv wr => ∃ (a' : Option Addr) (c' : Nat), iv = .int .i64 0 ∧ lv = .slice a' (fK B).length c' ∧ Strs wr a' (fK B) ∧ Below W.heap.size W wr) (fun _ _ _ => 0)
          case atStart => exact ⟨a', c', rfl, rfl, HS.out, HBQ.out⟩
          case round =>
            obtain ⟨a3, c3, rfl, rfl, hS3, hB3⟩ := hrel
            have HS3 := Lib.hid hS3
            have HB3 := Lib.hid hB3
            have c2 := HC2.out _ hB3
            obtain ⟨bo, off, rfl, _, _, _, p2, p3, p4⟩ := HCE.out _ hB3
            clear hS3 hB3
            have hqt := HQT.out
            by_cases hj : (0 : Int) < (np : Int)
            all_goals
              go_wp2_with fail
              exact ⟨⟨q + 1, a3, c3, by omega, by go_num, by rw [HN2.out], by rw [HN2.out]; exact HS3.out, HB3.out⟩, by simp [intOf]; omega⟩
        · have HN2 := Lib.hid (show KR ++ opnK (s.opn.take (q + 1)) = B ++ putK yp by rw [HNX.out]; simp)
          have HLC := Lib.hid (HLB.out rfl)
          clear HNX HLB
          go_wp2_with fail
          go_loopw [5, 8] (fun lv iv wr => ∃ (j : Nat) (a' : Option Addr) (c' : Nat), j ≤ np ∧ iv = .int .i64 j ∧ lv = .slice a' (fK (B ++ putK (yp.take j))).length c' ∧ Strs wr a' (fK (B ++ putK (yp.take j))) ∧ Below W.heap.size W wr) (fun _ iv _ => np - (intOf iv).toNat)
          case atStart => exact ⟨0, a', c', Nat.zero_le _, rfl, by simp [putK], by simpa [putK] using HS.out, HBQ.out⟩
          case round =>
            obtain ⟨j, a3, c3, hj, rfl, rfl, hS3, hB3⟩ := hrel
            have HB3 := Lib.hid hB3
            have c2 := HC2.out _ hB3
            obtain ⟨bo, off, rfl, _, _, _, p2, p3, p4⟩ := HCE.out _ hB3
            by_cases hjt : j < np
            · obtain ⟨z, hz⟩ : ∃ z, yp[j]? = some z := ⟨_, List.getElem?_eq_getElem (by rw [HNP.out]; exact hjt)⟩
              have j0 : (0 : Int) ≤ (j : Int) := by omega
              have j1 : (j : Int) < (np : Int) := by omega
              obtain ⟨bp, offp, rfl, _, z0, _, z2⟩ := Pus.cells (HPU.out.later hB3) hz
              have HE := Lib.hid (show putK (yp.take (j + 1)) = putK (yp.take j) ++ (if z.gone then [] else [z.key]) by rw [takeP_snoc hz, putK_snoc])
              have HS3 := Lib.hid hS3
              obtain ⟨zk, zv, zg⟩ := z
              simp only at z0 z2 HE
              cases zg
              · have HE2 := Lib.hid (show addK (fK (B ++ putK (yp.take j))) zk = fK (B ++ putK (yp.take (j + 1))) by rw [HE.out, ← fK_snoc]; simp)
                have CW := Lib.hid (rWith_any zk (fK (B ++ putK (yp.take j))).length c3 a3 (fK (B ++ putK (yp.take j))) rfl (by have := HLC.out j; omega) wr hS3)
                rw [HE2.out] at CW
                have HJT := Lib.hid hjt
                clear hS3 hB3 hz hjt
                go_wp2_with fail
                refine CW.out.mono ?_
                rintro e w2 ⟨a2, cc2, rfl, hS2, hb2⟩
                have HB2 := Lib.hid (HB3.out.trans (hb2.mono HB3.out.size))
                have HS2 := Lib.hid hS2
                clear hS2 hb2 c2 p2 p3 p4 z0 z2
                go_wp2_with fail
                have hjt := HJT.out
                exact ⟨⟨j + 1, a2, cc2, by omega, by go_num, rfl, HS2.out, HB2.out⟩, by simp [intOf]; omega⟩
              · have HE2 := Lib.hid (show putK (yp.take (j + 1)) = putK (yp.take j) by rw [HE.out]; simp)
                have HJT := Lib.hid hjt
                clear hS3 hB3 hz hjt
                go_wp2_with fail
                have hjt := HJT.out
                exact ⟨⟨j + 1, a3, c3, by omega, by go_num, by rw [HE2.out], by rw [HE2.out]; exact HS3.out, HB3.out⟩, by simp [intOf]; omega⟩
            · have hjn : j = np := by omega
              have j1 : ¬ (j : Int) < (np : Int) := by omega
              have hfull : yp.take j = yp := List.take_of_length_le (by rw [HNP.out]; omega)
              rw [hfull] at hS3 ⊢
              have HS3 := Lib.hid hS3
              have HJN := Lib.hid hjn
              clear hS3 hB3 hfull hjt hjn
              go_wp2_with fail
              have hqt := HQT.out
              exact ⟨⟨q + 1, a3, c3, by omega, by go_num, by rw [HN2.out], by rw [HN2.out]; exact HS3.out, HB3.out⟩, by simp [intOf]; omega⟩
      · have q1 : ¬ (q : Int) < (no : Int) := by omega
        have hqn : q = no := by omega
        have hfull : s.opn.take q = s.opn := List.take_of_length_le (by rw [HNO.out]; omega)
        rw [hfull] at hS ⊢
        have HS := Lib.hid hS
        have HC := Lib.hid (show ∀ j, (fK (KR ++ opnK s.opn ++ putK (P.take j))).length ≤ 1000000000 from fun j => by
          have h1 := fK_len (KR ++ opnK s.opn ++ putK (P.take j))
          have h2 := putK_take_le P j
          rw [List.length_append, List.length_append, HKL.out] at h1
          omega)
        obtain ⟨C, hC⟩ : ∃ C, KR ++ opnK s.opn = C := ⟨_, rfl⟩
        rw [hC] at HS HC ⊢
        have HCD := Lib.hid (show fK (KR ++ (opnK s.opn ++ putK P)) = fK (C ++ putK P) by rw [← hC, List.append_assoc])
        clear hBq hS hfull hqn hqt hC
        go_wp2_with fail
        go_loopw [5, 9] (fun lv iv wr => ∃ (j : Nat) (a' : Option Addr) (c' : Nat), j ≤ m ∧ iv = .int .i64 j ∧ lv = .slice a' (fK (C ++ putK (P.take j))).length c' ∧ Strs wr a' (fK (C ++ putK (P.take j))) ∧ Below W.heap.size W wr) (fun _ iv _ => m - (intOf iv).toNat)
        case atStart => exact ⟨0, a', c', Nat.zero_le _, rfl, by simp [putK], by simpa [putK] using HS.out, HBQ.out⟩
        case round =>
          obtain ⟨j, a3, c3, hj, rfl, rfl, hS3, hB3⟩ := hrel
          have HB3 := Lib.hid hB3
          by_cases hjt : j < m
          · obtain ⟨z, hz⟩ : ∃ z, P[j]? = some z := ⟨_, List.getElem?_eq_getElem (by rw [HMM.out]; exact hjt)⟩
            have j0 : (0 : Int) ≤ (j : Int) := by omega
            have j1 : (j : Int) < (m : Int) := by omega
            obtain ⟨bp, offp, rfl, _, z0, _, z2⟩ := Pus.cells (HP.out.later hB3) hz
            have HE := Lib.hid (show putK (P.take (j + 1)) = putK (P.take j) ++ (if z.gone then [] else [z.key]) by rw [takeP_snoc hz, putK_snoc])
            have HS3 := Lib.hid hS3
            obtain ⟨zk, zv, zg⟩ := z
            simp only at z0 z2 HE
            cases zg
            · have HE2 := Lib.hid (show addK (fK (C ++ putK (P.take j))) zk = fK (C ++ putK (P.take (j + 1))) by rw [HE.out, ← fK_snoc]; simp)
              have CW := Lib.hid (rWith_any zk (fK (C ++ putK (P.take j))).length c3 a3 (fK (C ++ putK (P.take j))) rfl (by have := HC.out j; omega) wr hS3)
              rw [HE2.out] at CW
              have HJT := Lib.hid hjt
              clear hS3 hB3 hz hjt
              go_wp2_with fail
              refine CW.out.mono ?_
              rintro e w2 ⟨a2, cc2, rfl, hS2, hb2⟩
              have HB2 := Lib.hid (HB3.out.trans (hb2.mono HB3.out.size))
              have HS2 := Lib.hid hS2
              clear hS2 hb2 z0 z2
              go_wp2_with fail
              have hjt := HJT.out
              exact ⟨⟨j + 1, a2, cc2, by omega, by go_num, rfl, HS2.out, HB2.out⟩, by simp [intOf]; omega⟩
            · have HE2 := Lib.hid (show putK (P.take (j + 1)) = putK (P.take j) by rw [HE.out]; simp)
              have HJT := Lib.hid hjt
              clear hS3 hB3 hz hjt
              go_wp2_with fail
              have hjt := HJT.out
              exact ⟨⟨j + 1, a3, c3, by omega, by go_num, by rw [HE2.out], by rw [HE2.out]; exact HS3.out, HB3.out⟩, by simp [intOf]; omega⟩
          · have j1 : ¬ (j : Int) < (m : Int) := by omega
            have hfull : P.take j = P := List.take_of_length_le (by rw [HMM.out]; omega)
            rw [hfull] at hS3 ⊢
            have HS3 := Lib.hid hS3
            clear hS3 hB3 hfull hjt
            go_wp2_with fail
            go_ret
            exact ⟨by rw [HCD.out]; rfl, HB0.out.trans (HB3.out.mono HB0.out.size)⟩
end Go.Proofs.Ythgnecggdlamfaa
