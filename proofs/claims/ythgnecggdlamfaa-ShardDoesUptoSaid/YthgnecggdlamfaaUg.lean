/- One put: the document's Do. -/
import Derived.Test.YthgnecggdlamfaaHa
namespace Go.Proofs.Ythgnecggdlamfaa
open Go.RowKit

/-- Three cells in a box. -/
structure B3 (w : World) (x : Nat) (u v z : Value) : Prop where
  c0 : w.cell? ⟨x, 0, none⟩ = some u
  c1 : w.cell? ⟨x, 1, none⟩ = some v
  c2 : w.cell? ⟨x, 2, none⟩ = some z
  lt : x < w.heap.size
theorem B3.new {w : World} {x : Nat} (hx : x = w.heap.size) (u v z : Value) (T : TypeId) : B3 (w.alloc (.cells #[u, v, z] T)) x u v z := by
  subst hx
  exact ⟨by simp [go_sem], by simp [go_sem], by simp [go_sem], by simp⟩
theorem B3.under {w w' : World} {x B : Nat} {u v z : Value} (h : B3 w x u v z) (hx : x < B) (hb : Below B w w') : B3 w' x u v z :=
  ⟨(hb.cell (p := ⟨x, 0, none⟩) hx).trans h.c0, (hb.cell (p := ⟨x, 1, none⟩) hx).trans h.c1, (hb.cell (p := ⟨x, 2, none⟩) hx).trans h.c2, Nat.lt_of_lt_of_le h.lt hb.size⟩
theorem B3.later {w w' : World} {x : Nat} {u v z : Value} (h : B3 w x u v z) (hb : Below w.heap.size w w') : B3 w' x u v z := h.under h.lt hb
theorem B3.past {w : World} {x : Nat} {u v z : Value} (h : B3 w x u v z) (ob : Obj) : B3 (w.alloc ob) x u v z := h.later ((Below.refl _ _).alloc (Nat.le_refl _) _)
/-- What Do and All answer. -/
def DoP (w : World) (r : List Ro × Nat) (e : Ending) (w' : World) : Prop := ∃ (a : Option Addr) (c : Nat), e = .returned (.tuple #[.slice a r.1.length c, .int .i64 (r.2 : Nat)]) ∧ Ros w' a r.1 ∧ (0 < r.1.length → ∀ q, a = some q → w.heap.size ≤ q.block) ∧ Below w.heap.size w w'
/-- What is known in a round: the rows that are laid, the two boxes, the row that is looked at. -/
structure DoS (W1 : World) (bx x12 b o : Nat) (pk pv : ByteArray) (pg : Bool) (ver : Nat) (v : Value) (O : List Ro) (xk xv : ByteArray) (xn : Nat) (w : World) : Prop where
  hB : Below W1.heap.size W1 w
  hC : CqR W1.heap.size w v O
  hP : B3 w bx (.string pk) (.string pv) (.bool pg)
  hR : B3 w x12 (.string pk) (.string pv) (.int .u64 (ver : Nat))
  p0 : w.cell? ⟨b, o, none⟩ = some (.string xk)
  p1 : w.cell? ⟨b, o + 1, none⟩ = some (.string xv)
  p2 : w.cell? ⟨b, o + 2, none⟩ = some (.int .u64 (xn : Nat))
theorem DoS.drew {W1 w : World} {bx x12 b o : Nat} {pk pv : ByteArray} {pg : Bool} {ver : Nat} {v : Value} {O : List Ro} {xk xv : ByteArray} {xn : Nat} (h : DoS W1 bx x12 b o pk pv pg ver v O xk xv xn w) (q : Nat) : DoS W1 bx x12 b o pk pv pg ver v O xk xv xn (w.drewN q) := by
  have h0 : Below w.heap.size w (w.drewN q) := below_drewN (Below.refl _ _) q
  exact ⟨below_drewN h.hB q, h.hC.later h0, h.hP.later h0, h.hR.later h0, h.p0, h.p1, h.p2⟩
theorem fitsX_one (p : Pu) : fitsX [p] = 0 ∨ fitsX [p] = 1 := by
  unfold fitsX
  rw [if_neg (by simp)]
  split <;> simp
set_option maxRecDepth 100000 in
set_option maxHeartbeats 8000000 in
theorem rDo_any (n c ver : Nat) (a : Option Addr) (L : List Ro) (p : Pu) (hn : L.length = n) (hl : n * 40 ≤ 140737488351232) (hs : smallR L) (hpk : p.key.size ≤ 140737488351232) (w : World) (hM : Ros w a L) :
    Calls Try.prog 79 #[.slice a n c, puV p, .int .u64 ver] w (DoP w (doR L p ver)) := by
  have HN := Lib.hid hn
  have HM := Lib.hid hM
  have HS := Lib.hid hs
  have hln : n ≤ 140737488351232 := by omega
  obtain ⟨pk, pv, pg⟩ := p
  simp only at hpk
  have P0 := Lib.hid ((B3.new (w := w) rfl (.string pk) (.string pv) (.bool pg) 54).past (.cells #[.string pk, .string pv, .bool pg] 54))
  have HB0 := Lib.hid (show Below w.heap.size w ((w.alloc (.cells #[.string pk, .string pv, .bool pg] 54)).alloc (.cells #[.string pk, .string pv, .bool pg] 54)) by go_grown)
  have HP1 := Lib.hid (show Pus ((w.alloc (.cells #[.string pk, .string pv, .bool pg] 54)).alloc (.cells #[.string pk, .string pv, .bool pg] 54)) (some ⟨w.heap.size + 1, 0, none⟩) [⟨pk, pv, pg⟩] from rw_one (f := puC) _ (by simp) (⟨pk, pv, pg⟩ : Pu) rfl 54)
  obtain ⟨f, hf⟩ : ∃ f, fitsX [⟨pk, pv, pg⟩] = f := ⟨_, rfl⟩
  have hf01 := fitsX_one ⟨pk, pv, pg⟩
  rw [hf] at hf01
  have HFX := Lib.hid hf
  have hf2 : ∀ w', Below w.heap.size w w' → f ≠ 0 → DoP w (doR L ⟨pk, pv, pg⟩ ver) (.returned (.tuple #[.slice none 0 0, .int .i64 (f : Nat)])) w' := fun w' hB h => by
    have : doR L ⟨pk, pv, pg⟩ ver = ([], f) := by unfold doR; rw [hf, if_pos h]
    rw [this]; exact ⟨none, 0, rfl, fun j x hx => by simp at hx, fun h => by simp at h, hB⟩
  have HF2 := Lib.hid hf2
  obtain ⟨is, his⟩ : ∃ is, (getR pk L).isSome = is := ⟨_, rfl⟩
  have HIS := Lib.hid his
  have hf5 : ∀ w', Below w.heap.size w w' → f = 0 → is = false → pg = false → 32 ≤ n → DoP w (doR L ⟨pk, pv, pg⟩ ver) (.returned (.tuple #[.slice none 0 0, .int .i64 5])) w' := fun w' hB h h1 h2 h3 => by
    have : doR L ⟨pk, pv, pg⟩ ver = ([], 5) := by
      unfold doR
      rw [hf, if_neg (by omega), if_neg (by simp [h2]), if_neg (by simp only; rw [his, h1]; decide), if_pos (by omega)]
    rw [this]; exact ⟨none, 0, rfl, fun j x hx => by simp at hx, fun h => by simp at h, hB⟩
  have HF5 := Lib.hid hf5
  have hok : f = 0 → ¬ (is = false ∧ pg = false ∧ 32 ≤ n) → ∀ w' a' c' O, O = endF ⟨pk, pv, ver⟩ (foldF ⟨pk, pv, ver⟩ is pg L) → Below w.heap.size w w' → Ros w' a' O → (0 < O.length → ∀ q, a' = some q → w.heap.size ≤ q.block) → DoP w (doR L ⟨pk, pv, pg⟩ ver) (.returned (.tuple #[.slice a' O.length c', .int .i64 0])) w' := fun h h1 w' a' c' O hO hB hR hq => by
    have := do_steps L ⟨pk, pv, pg⟩ ver (hf.trans h) (by simp only; rw [his, hn]; exact h1)
    simp only at this
    rw [his] at this
    rw [this, ← hO]
    exact ⟨a', c', rfl, hR, hq, hB⟩
  have HOK := Lib.hid hok
  clear hn hM hs hf hf2 his hf5 hok
  go_enter Try.func79, Try.ntmps79
  go_wp2_with fail
  refine (rFits_any 1 1 _ [⟨pk, pv, pg⟩] rfl (by decide) _ HP1.out).mono ?_
  rintro e w2 ⟨rfl, hb2⟩
  rw [HFX.out]
  have HB2 := Lib.hid (HB0.out.trans (hb2.mono HB0.out.size))
  have P2 := Lib.hid (P0.out.later hb2)
  clear hb2 HB0 P0 HP1
  rcases hf01 with rfl | rfl
  case inr =>
    go_wp2_with fail
    go_ret2
    exact HF2.out _ HB2.out (by decide)
  clear HF2 HFX
  have HF5' := Lib.hid (fun w' hB => HF5.out w' hB rfl)
  have HOK' := Lib.hid (HOK.out rfl)
  clear HF5 HOK
  obtain ⟨q0, q1, q2, _⟩ := P2.out
  go_wp2_with fail
  refine (rGet_any pk n c a L HN.out hln _ (HM.out.later HB2.out)).mono ?_
  rintro e w3 ⟨rfl, hb3⟩
  rw [HIS.out]
  generalize (getR pk L).getD z0 = g0
  have HB3 := Lib.hid (HB2.out.trans (hb3.mono HB2.out.size))
  have P3 := Lib.hid ((P2.out.later hb3).past (.cells #[.string g0.key, .string g0.val, .int .u64 (g0.ver : Nat)] 50))
  have HB4 := Lib.hid (HB3.out.alloc HB3.out.size (.cells #[.string g0.key, .string g0.val, .int .u64 (g0.ver : Nat)] 50))
  clear hb3 q0 q1 q2 P2 HB2
  go_upto_region 6 with (fail)
  generalize w3.alloc (.cells #[.string g0.key, .string g0.val, .int .u64 (g0.ver : Nat)] 50) = W at *
  obtain ⟨q0, q1, q2, ql⟩ := P3.out
  obtain ⟨bad, hbad⟩ : ∃ bad, (!is && (!pg && decide (32 ≤ n))) = bad := ⟨_, rfl⟩
  have HBAD := Lib.hid hbad
  go_cut [39] (fun v wx => v = .bool bad ∧ wx = W)
  case first =>
    cases is
    case true =>
      obtain rfl : false = bad := hbad
      go_wp2_with fail
      go_meet
      exact ⟨rfl, rfl⟩
    case false =>
      cases pg
      case true =>
        obtain rfl : false = bad := hbad
        go_wp2_with fail
        go_meet
        exact ⟨rfl, rfl⟩
      case false =>
        by_cases h32 : 32 ≤ n
        · obtain rfl : true = bad := by rw [← hbad, decide_eq_true h32]; rfl
          have g : (32 : Int) ≤ (n : Int) := by omega
          clear hbad
          go_wp2_with fail
          go_meet
          exact ⟨rfl, rfl⟩
        · obtain rfl : false = bad := by rw [← hbad, decide_eq_false h32]; rfl
          have g : ¬ (32 : Int) ≤ (n : Int) := by omega
          clear hbad
          go_wp2_with fail
          go_meet
          exact ⟨rfl, rfl⟩
  case rest =>
    obtain ⟨rfl, rfl⟩ := hcut
    clear hbad
    cases bad
    case true =>
      have hb3 : is = false ∧ pg = false ∧ 32 ≤ n := by
        have := HBAD.out
        simp only [Bool.and_eq_true, Bool.not_eq_true', decide_eq_true_eq] at this
        exact this
      have HF := Lib.hid (HF5'.out _ HB4.out hb3.1 hb3.2.1 hb3.2.2)
      clear hb3 HBAD
      go_wp2_with fail
      go_ret2
      exact HF.out
    have HOKK := Lib.hid (HOK'.out (fun h => by
      have := HBAD.out
      rw [h.1, h.2.1, decide_eq_true h.2.2] at this; cases this))
    clear HF5' HOK' HBAD
    obtain ⟨x12, hx12⟩ : ∃ x12, x12 = wc.heap.size := ⟨_, rfl⟩
    have R0 := Lib.hid (B3.new (w := wc) hx12 (.string pk) (.string pv) (.int .u64 (ver : Nat)) 50)
    have P4 := Lib.hid (P3.out.past (.cells #[.string pk, .string pv, .int .u64 (ver : Nat)] 50))
    have HB5 := Lib.hid (HB4.out.alloc HB4.out.size (.cells #[.string pk, .string pv, .int .u64 (ver : Nat)] 50))
    go_upto_block 0 with (fail)
    rw [← hx12]
    generalize wc.alloc (.cells #[.string pk, .string pv, .int .u64 (ver : Nat)] 50) = W1 at *
    clear q0 q1 q2 ql hx12 P3 HB4
    have hbase : w.heap.size ≤ W1.heap.size := HB5.out.size
    obtain ⟨y, hy⟩ : ∃ y : Ro, y = ⟨pk, pv, ver⟩ := ⟨_, rfl⟩
    have HY := Lib.hid hy
    rw [← hy] at HOKK
    have hyk : y.key = pk := by rw [hy]
    have HYK := Lib.hid hyk
    clear hy hyk
    go_wp2_with fail
    go_loopw [9, 13, 14] (fun ov dv iv wr => ∃ (k : Nat) (O : List Ro) (d : Bool) (a' : Option Addr) (c' : Nat), k ≤ n ∧ iv = .int .i64 k ∧ ov = .slice a' O.length c' ∧ dv = .bool d ∧ foldF y is pg (L.take k) = (O, d) ∧ CqR W1.heap.size wr (.slice a' O.length c') O ∧ Below W1.heap.size W1 wr) (fun _ _ iv _ => n - (intOf iv).toNat)
    case atStart => exact ⟨0, [], pg, none, 0, Nat.zero_le _, rfl, rfl, rfl, rfl, Cq.nil _ _ _, Below.refl _ _⟩
    case round =>
      obtain ⟨k, O, d, a', c', hk, rfl, rfl, rfl, hfo, hC, hB⟩ := hrel
      have HFO := Lib.hid hfo
      have hol : O.length ≤ k + 1 := by
        have := foldF_len y is pg (L.take k)
        rw [hfo, List.length_take] at this
        simp only at this
        have h1 : (if d then 0 else 1) ≤ 1 := by split <;> omega
        have h2 : (if pg then 0 else 1) ≤ 1 := by split <;> omega
        omega
      have hPB := P4.out.under P4.out.lt hB
      have hRB := R0.out.under R0.out.lt hB
      by_cases hlt : k < n
      · obtain ⟨x, hx⟩ : ∃ x, L[k]? = some x := ⟨_, List.getElem?_eq_getElem (by rw [HN.out]; exact hlt)⟩
        have i0 : (0 : Int) ≤ (k : Int) := by omega
        have i1 : (k : Int) < (n : Int) := by omega
        have hst : foldF y is pg (L.take (k + 1)) = stepF y is pg (O, d) x := by
          obtain ⟨h1, h2⟩ := List.getElem?_eq_some_iff.1 hx
          rw [List.take_succ_eq_append_getElem h1, foldF_snoc, hfo, h2]
        obtain ⟨b, off, rfl, hbb, p0, p1, p2⟩ := Ros.cells (HM.out.later (HB5.out.trans (hB.mono hbase))) hx
        obtain ⟨s1, _⟩ := HS.out.at hx
        have HV := Lib.hid (show DoS W1 w.heap.size x12 b (off + k * 3) pk pv pg ver (.slice a' O.length c') O x.key x.val x.ver wr from ⟨hB, hC, hPB, hRB, p0, p1, p2⟩)
        have HST := Lib.hid hst
        have HXX := Lib.hid hx
        obtain ⟨xk, xv, xn⟩ := x
        simp only at p0 p1 p2 s1 HV HST
        obtain ⟨q0, q1, q2, _⟩ := hPB
        clear hx hst hfo hC hB hRB
        by_cases he : xk = pk
        · subst he
          cases pg
          case true =>
            have HN1 := Lib.hid (show foldF y is true (L.take (k + 1)) = (O, d) by rw [HST.out, stepF, if_pos HYK.out.symm]; rfl)
            go_wp2_with fail
            go_quiet (fail)
            have hv := HV.out.drew nq
            generalize wr.drewN nq = wv at hv ⊢
            clear q0 q1 q2 p0 p1 p2
            have q2 := hv.hP.c2
            go_wp2_with fail
            go_roundw
            case rel => exact ⟨k + 1, O, d, a', c', by omega, by go_num, rfl, rfl, HN1.out, hv.hC, hv.hB⟩
            case measure => simp [intOf]; omega
          case false =>
            cases d
            case true =>
              have HN1 := Lib.hid (show foldF y is false (L.take (k + 1)) = (O ++ [⟨xk, xv, xn⟩], true) by rw [HST.out, stepF, if_pos HYK.out.symm]; rfl)
              go_wp2_with fail
              go_quiet (fail)
              have hv := HV.out.drew nq
              generalize wr.drewN nq = wv at hv ⊢
              clear q0 q1 q2 p0 p1 p2
              have q2 := hv.hP.c2
              obtain ⟨a6, c6, w6, hr6, hc6, hb6⟩ := appR W1.heap.size wv _ O hv.hC ⟨xk, xv, xn⟩ (by omega) hv.hB.size
              have HR6 := Lib.hid hr6
              have HC6 := Lib.hid hc6
              have HB6 := Lib.hid (hv.hB.trans hb6)
              have p0 := hv.p0
              have p1 := hv.p1
              have p2 := hv.p2
              clear hr6 hc6 hb6 hv
              go_wp2_with (at_builtin; refine Lib.wpList_append_run _ rfl _ _ 22 22 rfl _ (.slice (some ⟨wv.heap.size, 0, none⟩) 1 1) rfl rfl _ _ HR6.out ?_)
              go_roundw
              case rel => exact ⟨k + 1, O ++ [⟨xk, xv, xn⟩], true, a6, c6, by omega, by go_num, by simp, rfl, HN1.out, by simpa using HC6.out, HB6.out⟩
              case measure => simp [intOf]; omega
            case false =>
              have HN1 := Lib.hid (show foldF y is false (L.take (k + 1)) = (O ++ [y], true) by rw [HST.out, stepF, if_pos HYK.out.symm]; rfl)
              go_wp2_with fail
              go_quiet (fail)
              have hv := HV.out.drew nq
              generalize wr.drewN nq = wv at hv ⊢
              clear q0 q1 q2 p0 p1 p2
              have q2 := hv.hP.c2
              have r0 := hv.hR.c0
              have r1 := hv.hR.c1
              have r2 := hv.hR.c2
              obtain ⟨a6, c6, w6, hr6, hc6, hb6⟩ := appR W1.heap.size wv _ O hv.hC ⟨xk, pv, ver⟩ (by omega) hv.hB.size
              have HR6 := Lib.hid hr6
              have HC6 := Lib.hid hc6
              have HB6 := Lib.hid (hv.hB.trans hb6)
              clear hr6 hc6 hb6 hv
              go_wp2_with (at_builtin; refine Lib.wpList_append_run _ rfl _ _ 22 22 rfl _ (.slice (some ⟨wv.heap.size, 0, none⟩) 1 1) rfl rfl _ _ HR6.out ?_)
              go_roundw
              case rel => exact ⟨k + 1, O ++ [⟨xk, pv, ver⟩], true, a6, c6, by omega, by go_num, by simp, rfl, by rw [HN1.out, HY.out], by simpa using HC6.out, HB6.out⟩
              case measure => simp [intOf]; omega
        · have e1 := ba_ne he
          have e2 := ba_ne' he
          have hey : ¬ xk = y.key := fun e => he (e.trans HYK.out)
          have HEY := Lib.hid hey
          clear hey
          cases is
          case true =>
            have HN1 := Lib.hid (show foldF y true pg (L.take (k + 1)) = (O ++ [⟨xk, xv, xn⟩], d) by rw [HST.out, stepF, if_neg HEY.out]; rfl)
            go_wp2_with fail
            go_quiet (fail)
            have hv := HV.out.drew nq
            generalize wr.drewN nq = wv at hv ⊢
            have q0 := hv.hP.c0
            have q1 := hv.hP.c1
            have q2 := hv.hP.c2
            have p0 := hv.p0
            go_wp2_with fail
            go_quiet (fail)
            clear q0 q1 q2 p0
            have hv := hv.drew nq
            generalize wv.drewN nq = wz at hv ⊢
            obtain ⟨a6, c6, w6, hr6, hc6, hb6⟩ := appR W1.heap.size wz _ O hv.hC ⟨xk, xv, xn⟩ (by omega) hv.hB.size
            have HR6 := Lib.hid hr6
            have HC6 := Lib.hid hc6
            have HB6 := Lib.hid (hv.hB.trans hb6)
            have p0 := hv.p0
            have p1 := hv.p1
            have p2 := hv.p2
            clear hr6 hc6 hb6 hv
            go_wp2_with (at_builtin; refine Lib.wpList_append_run _ rfl _ _ 22 22 rfl _ (.slice (some ⟨wz.heap.size, 0, none⟩) 1 1) rfl rfl _ _ HR6.out ?_)
            go_roundw
            case rel => exact ⟨k + 1, O ++ [⟨xk, xv, xn⟩], d, a6, c6, by omega, by go_num, by simp, rfl, HN1.out, by simpa using HC6.out, HB6.out⟩
            case measure => simp [intOf]; omega
          case false =>
            cases d
            case true =>
              have HN1 := Lib.hid (show foldF y false pg (L.take (k + 1)) = (O ++ [⟨xk, xv, xn⟩], true) by rw [HST.out, stepF, if_neg HEY.out]; rfl)
              go_wp2_with fail
              go_quiet (fail)
              have hv := HV.out.drew nq
              generalize wr.drewN nq = wv at hv ⊢
              have q0 := hv.hP.c0
              have q1 := hv.hP.c1
              have q2 := hv.hP.c2
              have p0 := hv.p0
              go_wp2_with fail
              go_quiet (fail)
              clear q0 q1 q2 p0
              have hv := hv.drew nq
              generalize wv.drewN nq = wz at hv ⊢
              obtain ⟨a6, c6, w6, hr6, hc6, hb6⟩ := appR W1.heap.size wz _ O hv.hC ⟨xk, xv, xn⟩ (by omega) hv.hB.size
              have HR6 := Lib.hid hr6
              have HC6 := Lib.hid hc6
              have HB6 := Lib.hid (hv.hB.trans hb6)
              have p0 := hv.p0
              have p1 := hv.p1
              have p2 := hv.p2
              clear hr6 hc6 hb6 hv
              go_wp2_with (at_builtin; refine Lib.wpList_append_run _ rfl _ _ 22 22 rfl _ (.slice (some ⟨wz.heap.size, 0, none⟩) 1 1) rfl rfl _ _ HR6.out ?_)
              go_roundw
              case rel => exact ⟨k + 1, O ++ [⟨xk, xv, xn⟩], true, a6, c6, by omega, by go_num, by simp, rfl, HN1.out, by simpa using HC6.out, HB6.out⟩
              case measure => simp [intOf]; omega
            case false =>
              obtain ⟨l, hl2⟩ : ∃ l, lessB pk xk = l := ⟨_, rfl⟩
              have HLS := Lib.hid (fun w' => rLess_q pk xk l hl2 hpk s1 w')
              have HLB := Lib.hid (show lessB y.key xk = l by rw [HYK.out]; exact hl2)
              clear hl2
              cases l
              case false =>
                have HN1 := Lib.hid (show foldF y false pg (L.take (k + 1)) = (O ++ [⟨xk, xv, xn⟩], false) by rw [HST.out, stepF, if_neg HEY.out]; simp only; rw [HLB.out]; rfl)
                go_wp2_with fail
                go_quiet (fail)
                have hv := HV.out.drew nq
                generalize wr.drewN nq = wv at hv ⊢
                have q0 := hv.hP.c0
                have q1 := hv.hP.c1
                have q2 := hv.hP.c2
                have p0 := hv.p0
                go_wp2_with fail
                go_quiet ((go_at_call 55; exact Calls.quiet_of (HLS.out _)))
                clear q0 q1 q2 p0
                have hv := hv.drew nq
                generalize wv.drewN nq = wz at hv ⊢
                obtain ⟨a6, c6, w6, hr6, hc6, hb6⟩ := appR W1.heap.size wz _ O hv.hC ⟨xk, xv, xn⟩ (by omega) hv.hB.size
                have HR6 := Lib.hid hr6
                have HC6 := Lib.hid hc6
                have HB6 := Lib.hid (hv.hB.trans hb6)
                have p0 := hv.p0
                have p1 := hv.p1
                have p2 := hv.p2
                clear hr6 hc6 hb6 hv
                go_wp2_with (at_builtin; refine Lib.wpList_append_run _ rfl _ _ 22 22 rfl _ (.slice (some ⟨wz.heap.size, 0, none⟩) 1 1) rfl rfl _ _ HR6.out ?_)
                go_roundw
                case rel => exact ⟨k + 1, O ++ [⟨xk, xv, xn⟩], false, a6, c6, by omega, by go_num, by simp, rfl, HN1.out, by simpa using HC6.out, HB6.out⟩
                case measure => simp [intOf]; omega
              case true =>
                have HN1 := Lib.hid (show foldF y false pg (L.take (k + 1)) = (O ++ [y] ++ [⟨xk, xv, xn⟩], true) by rw [HST.out, stepF, if_neg HEY.out]; simp only; rw [HLB.out]; rfl)
                go_wp2_with fail
                go_quiet (fail)
                have hv := HV.out.drew nq
                generalize wr.drewN nq = wv at hv ⊢
                have q0 := hv.hP.c0
                have q1 := hv.hP.c1
                have q2 := hv.hP.c2
                have p0 := hv.p0
                go_wp2_with fail
                go_quiet ((go_at_call 55; exact Calls.quiet_of (HLS.out _)))
                clear q0 q1 q2 p0
                have hv := hv.drew nq
                generalize wv.drewN nq = wz at hv ⊢
                have r0 := hv.hR.c0
                have r1 := hv.hR.c1
                have r2 := hv.hR.c2
                obtain ⟨a6, c6, w6, hr6, hc6, hb6⟩ := appR W1.heap.size wz _ O hv.hC ⟨pk, pv, ver⟩ (by omega) hv.hB.size
                have HR6 := Lib.hid hr6
                have hB6 := hv.hB.trans hb6
                obtain ⟨b', off', e', _, p0, p1, p2⟩ := Ros.cells (HM.out.later (HB5.out.trans (hB6.mono hbase))) HXX.out
                cases e'
                have hlen6 : (O ++ [(⟨pk, pv, ver⟩ : Ro)]).length = O.length + 1 := by simp
                rw [← hlen6] at hc6
                obtain ⟨a7, c7, w7, hr7, hc7, hb7⟩ := appR W1.heap.size w6 _ (O ++ [⟨pk, pv, ver⟩]) hc6 ⟨xk, xv, xn⟩ (by rw [hlen6]; omega) hB6.size
                rw [hlen6] at hr7 hc7
                have HR7 := Lib.hid hr7
                have HC7 := Lib.hid hc7
                have HB7 := Lib.hid (hB6.trans hb7)
                clear hr6 hc6 hb6 hv hr7 hc7 hb7 hlen6 hB6
                go_upto_region 21 with (at_builtin; refine Lib.wpList_append_run _ rfl _ _ 22 22 rfl _ (.slice (some ⟨wz.heap.size, 0, none⟩) 1 1) rfl rfl _ _ HR6.out ?_)
                clear r0 r1 r2
                go_wp2_with (at_builtin; refine Lib.wpList_append_run _ rfl _ _ 22 22 rfl _ (.slice (some ⟨w6.heap.size, 0, none⟩) 1 1) rfl rfl _ _ HR7.out ?_)
                go_roundw
                case rel => exact ⟨k + 1, O ++ [⟨pk, pv, ver⟩] ++ [⟨xk, xv, xn⟩], true, a7, c7, by omega, by go_num, by simp, rfl, by rw [HN1.out, HY.out], by simpa using HC7.out, HB7.out⟩
                case measure => simp [intOf]; omega
      · have i1 : ¬ (k : Int) < (n : Int) := by omega
        have hfull : foldF y is pg L = (O, d) := by
          have h := hfo
          rw [List.take_of_length_le (by rw [HN.out]; omega)] at h; exact h
        have HBF := Lib.hid (HB5.out.trans (hB.mono hbase))
        cases d
        case true =>
          have HE := Lib.hid (show O = endF y (foldF y is pg L) by rw [hfull]; rfl)
          obtain ⟨a2, c2, e2, hR2, hq2, _⟩ := hC.form roT
          obtain ⟨rfl, _, rfl⟩ := Value.slice.inj e2
          have HF := Lib.hid (HOKK.out wr a' c' O HE.out HBF.out hR2 (fun h q hq => Nat.le_trans hbase (hq2 h q hq)))
          clear hfull hfo hC hB hR2 hq2 e2 hPB hRB
          go_wp2_with fail
          go_ret2
          exact HF.out
        case false =>
          have HE := Lib.hid (show O ++ [y] = endF y (foldF y is pg L) by rw [hfull]; rfl)
          obtain ⟨a6, c6, w6, hr6, hc6, hb6⟩ := appR W1.heap.size wr _ O hC ⟨pk, pv, ver⟩ (by omega) hB.size
          obtain ⟨a2, c2, e2, hR2, hq2, _⟩ := hc6.form roT
          have hlen6 : (O ++ [(⟨pk, pv, ver⟩ : Ro)]).length = O.length + 1 := by simp
          rw [hlen6] at e2
          obtain ⟨rfl, _, rfl⟩ := Value.slice.inj e2
          have HR6 := Lib.hid hr6
          have HF := Lib.hid (HOKK.out w6 a6 c6 (O ++ [⟨pk, pv, ver⟩]) (by rw [← HE.out, HY.out]) (HB5.out.trans ((hB.trans hb6).mono hbase)) hR2 (fun h q hq => Nat.le_trans hbase (hq2 h q hq)))
          rw [hlen6] at HF
          obtain ⟨r0, r1, r2, _⟩ := hRB
          clear hfull hfo hC hB hR2 hq2 e2 hr6 hc6 hb6 hPB hlen6
          go_wp2_with (at_builtin; refine Lib.wpList_append_run _ rfl _ _ 22 22 rfl _ (.slice (some ⟨wr.heap.size, 0, none⟩) 1 1) rfl rfl _ _ HR6.out ?_)
          go_ret2
          exact HF.out
end Go.Proofs.Ythgnecggdlamfaa
