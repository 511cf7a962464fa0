/- Sets of keys: add; the keys that puts write: the program's crowded's own function. -/
import Derived.Test.YthgnecggdlamfaaGreatTo
import Derived.Test.YthgnecggdlamfaaGreatNd
import Derived.Test.YthgnecggdlamfaaGreatHb
import Derived.Test.YthgnecggdlamfaaGreatYi
import Derived.Test.YthgnecggdlamfaaGreatTd
import Derived.Test.YthgnecggdlamfaaGreatNj
import Derived.Test.YthgnecggdlamfaaGreatYr
namespace Go.Proofs.YthgnecggdlamfaaGreat
open Go.RowKit Go.Maps

/-- A set of keys; each once. -/
def KS (w : World) (b n : Nat) (K : List ByteArray) : Prop := ∃ D : DataW Unit, SM w b n D ∧ Maps.size D = K.length ∧ ∀ x : ByteArray, Maps.has D (.string x.data.toList) = memK x K
theorem KS.lt {w : World} {b n : Nat} {K : List ByteArray} (h : KS w b n K) : b < w.heap.size := by obtain ⟨D, h, _⟩ := h; exact h.lt
theorem KS.under {w w' : World} {b n B : Nat} {K : List ByteArray} (h : KS w b n K) (hb : Below B w w') (hlt : b < B) : KS w' b n K := by
  obtain ⟨D, h1, r⟩ := h
  exact ⟨D, sm_under h1 hb hlt, r⟩
theorem KS.later {w w' : World} {b n : Nat} {K : List ByteArray} (h : KS w b n K) (hb : Below w.heap.size w w') : KS w' b n K := h.under hb h.lt
theorem KS.grown {w w' : World} {b n g : Nat} {K : List ByteArray} (h : KS w b n K) (hg : w.grownBy w' (some g)) (hne : b ≠ g) : KS w' b n K := by
  have hl := h.lt
  obtain ⟨D, ⟨es, clock, h1, r⟩, r2⟩ := h
  exact ⟨D, ⟨es, clock, by rw [hg.block b hl (by simpa using hne)]; exact h1, r⟩, r2⟩
/-- No cell lies in a set. -/
theorem KS.cell {w : World} {b n : Nat} {K : List ByteArray} (h : KS w b n K) {p : Addr} {v : Value} (hc : w.cell? p = some v) : p.block ≠ b := by
  obtain ⟨D, ⟨es, clock, h1, _⟩, _⟩ := h
  intro e
  unfold World.cell? at hc
  rw [e, h1] at hc
  simp at hc
theorem KS.nb {α : Type} {k : Nat} {f : α → List Value} {w : World} {b n : Nat} {K : List ByteArray} (h : KS w b n K) {a : Option Addr} {L : List α} (hM : Rw k f w a L) (hf : ∀ x, 0 < (f x).length) : NB a L.length b := by
  intro h0 q hq
  obtain ⟨b', off, e, _, c⟩ := hM 0 L[0] (List.getElem?_eq_getElem h0)
  rw [hq] at e
  cases e
  have c0 := c 0 _ (List.getElem?_eq_getElem (hf L[0]))
  simp only [Nat.zero_mul, Nat.add_zero] at c0
  exact h.cell c0
theorem memK_add (l : List ByteArray) (k x : ByteArray) : memK x (addK l k) = (memK x l || decide (k = x)) := by
  have h := addK_mem l k x
  rw [Bool.eq_iff_iff, memK_iff, h, Bool.or_eq_true, memK_iff, decide_eq_true_eq]
  exact or_congr_right ⟨Eq.symm, Eq.symm⟩
set_option maxRecDepth 100000 in
set_option maxHeartbeats 4000000 in
theorem addKS_any (b n : Nat) (x : ByteArray) (K : List ByteArray) (hx : x.size ≤ 140737488351232) (hn : n ≤ 10000000000) (w : World) (H : KS w b n K) :
    Calls Tryz.prog 51 #[.map (some b), .string x] w fun e w' => e = .returned (.bool (!memK x K)) ∧ KS w' b (n + 1) (addK K x) ∧ w.grownBy w' (some b) := by
  obtain ⟨D, hown, hsz, hD⟩ := H
  have hk := keyS hx
  have hmx : n < maxLen := by unfold maxLen; omega
  have HFIN := Lib.hid (fun (w2 w3 : World) (h2 : Below w.heap.size w w2) (h3 : w2.grownBy w3 (some b)) (hs : SM w3 b (n + 1) (D.put (.string x.data.toList) (.agg []))) => (show KS w3 b (n + 1) (addK K x) ∧ w.grownBy w3 (some b) from by
    refine ⟨⟨_, hs, ?_, fun y => ?_⟩, grown_trans (grown_of h2) h3⟩
    · rw [size_put (hown.tidy keyedS), hD x, hsz]
      unfold addK
      cases memK x K <;> simp
    · rw [memK_add]
      by_cases hxy : x = y
      · subst hxy; rw [has_put_same hown.isMap (litS_key x)]; simp
      · rw [has_put_other (litS_ne (Ne.symm hxy)), hD y]; simp [hxy]))
  obtain ⟨h, hh⟩ : ∃ h, memK x K = h := ⟨_, rfl⟩
  have h1 := hD x
  rw [hh] at h1 ⊢
  have HH := Lib.hid h1
  have HW := Lib.hid hown
  clear h1 hD hh hown hsz
  go_enter Tryz.func51, Tryz.ntmps51
  go_wp2_with (first
    | (at_lookup; refine wpList_lookup_own_unit _ rfl _ _ 87 rfl 9 112 keyedS Tryz.underlying87 (zeroUnitS _) b n _ rfl HW.out _ _ rfl hk ?_; rw [HH.out])
    | (at_mapUpdate; refine wpList_mapUpdate_own _ rfl _ _ _ 87 rfl 9 112 keyedS Tryz.underlying87 (unitElem (H := Unit)) b n _ rfl (sm_later HW.out (by go_grown)) hmx _ _ _ rfl rfl hk _ [] unitElem_mk ?_; intro w1 hown1 hgrow1)
    | go_in)
  go_ret
  exact ⟨by first | rfl | simp, HFIN.out _ w1 (by go_grown) hgrow1 hown1⟩
set_option maxRecDepth 100000 in
set_option maxHeartbeats 4000000 in
theorem write1_any (h b n m c : Nat) (a : Option Addr) (P : List Pu) (K : List ByteArray) (hm : P.length = m) (hl : m ≤ 140737488351232) (hs : smallP P) (hnm : n + (putK P).length ≤ 9000000000) (w : World) (H : B1 w h (.map (some b))) (HK : KS w b n K) (hP : Pus w a P) :
    Calls Tryz.prog 50 #[.slice a m c, .pointer (some ⟨h, 0, none⟩)] w fun e w' => e = .returned (.tuple #[]) ∧ (∃ n', n' ≤ n + (putK P).length ∧ KS w' b n' ((putK P).foldl addK K)) ∧ w.grownBy w' (some b) := by
  have HM := Lib.hid hm
  have HS := Lib.hid hs
  have HPP := Lib.hid (fun w' (hg : w.grownBy w' (some b)) => rw_grown hP hg (HK.nb hP (fun x => by simp [puC])))
  have HBX := Lib.hid (fun w' (hg : w.grownBy w' (some b)) => H.grown hg (HK.cell H.c))
  have HKK := Lib.hid HK
  clear hm hs hP H HK
  go_enter Tryz.func50, Tryz.ntmps50
  go_wp2_with fail
  go_loopw [7] (fun u wr => ∃ (k n' : Nat), k ≤ m ∧ u = .int .i64 k ∧ n' ≤ n + (putK (P.take k)).length ∧ KS wr b n' ((putK (P.take k)).foldl addK K) ∧ w.grownBy wr (some b)) (fun u _ => m - (intOf u).toNat)
  case atStart => exact ⟨0, n, Nat.zero_le _, rfl, by simp [putK], by simpa [putK] using HKK.out, grown_of (Below.refl _ _)⟩
  case round =>
    obtain ⟨k, n', hk, rfl, hn', hks, hg⟩ := hrel
    have HN := Lib.hid hn'
    have HG := Lib.hid hg
    have HO := Lib.hid hks
    clear hn' hks hg
    by_cases hlt : k < m
    · obtain ⟨x, hx⟩ : ∃ x, P[k]? = some x := ⟨_, List.getElem?_eq_getElem (by rw [HM.out]; exact hlt)⟩
      have i0 : (0 : Int) ≤ (k : Int) := by omega
      have i1 : (k : Int) < (m : Int) := by omega
      obtain ⟨s1, s2⟩ := HS.out.at hx
      have hle := putK_take_le P k
      have htk : putK (P.take (k + 1)) = putK (P.take k) ++ (if x.gone then [] else [x.key]) := by rw [takeP_snoc hx, putK_snoc]
      obtain ⟨b', off, rfl, hb, p0, p1, p2⟩ := Pus.cells (HPP.out _ HG.out) hx
      clear hx
      obtain ⟨xk, xv, xg⟩ := x
      simp only at p0 p1 p2 s1 s2 htk
      obtain ⟨W1, hW1⟩ : ∃ W1, wr.alloc (.cells #[.string xk, .string xv, .bool xg] 35) = W1 := ⟨_, rfl⟩
      obtain ⟨x5, hx5⟩ : ∃ x5, wr.heap.size = x5 := ⟨_, rfl⟩
      have BV : Below wr.heap.size wr W1 := hW1 ▸ (Below.refl _ _).alloc (Nat.le_refl _) _
      obtain ⟨v0, v1, v2, _⟩ : B3 W1 x5 (.string xk) (.string xv) (.bool xg) := hW1 ▸ B3.new hx5.symm _ _ _ _
      have HGV := Lib.hid (grown_trans HG.out (grown_of (b := b) BV))
      have HOV := Lib.hid (HO.out.later BV)
      obtain ⟨c1, _⟩ := HBX.out _ HGV.out
      clear BV
      by_cases hxg : xg = false
      · have g : (!xg) = true := by rw [hxg]; rfl
        rw [hxg] at htk
        clear hxg
        have HTK := Lib.hid (show putK (P.take (k + 1)) = putK (P.take k) ++ [xk] from htk)
        have hn2 : n' ≤ 10000000000 := by have := HN.out; omega
        have HAD := Lib.hid (addKS_any b n' xk _ s1 hn2 W1 HOV.out)
        clear htk
        go_wp2_with fail
        refine HAD.out.mono ?_
        rintro e w2 ⟨rfl, hk2, hg2⟩
        have HK2 := Lib.hid (show KS w2 b (n' + 1) ((putK (P.take (k + 1))).foldl addK K) from by rw [HTK.out, List.foldl_append]; exact hk2)
        have HN2 := Lib.hid (show n' + 1 ≤ n + (putK (P.take (k + 1))).length from by rw [HTK.out, List.length_append, List.length_singleton]; have := HN.out; omega)
        have HG2 := Lib.hid (grown_trans HGV.out hg2)
        clear hk2 hg2 p0 p1 p2 v0 v1 v2 c1
        go_wp2_with fail
        go_roundw
        case rel => exact ⟨k + 1, n' + 1, by omega, by go_num, HN2.out, HK2.out, HG2.out⟩
        case measure => simp [intOf]; omega
      · have g : (!xg) = false := by cases xg <;> simp_all
        have HTK := Lib.hid (show putK (P.take (k + 1)) = putK (P.take k) from by rw [htk]; cases xg <;> simp_all)
        clear hxg
        have HN2 := Lib.hid (show n' ≤ n + (putK (P.take (k + 1))).length from by rw [HTK.out]; exact HN.out)
        have HK2 := Lib.hid (show KS W1 b n' ((putK (P.take (k + 1))).foldl addK K) from by rw [HTK.out]; exact HOV.out)
        clear htk
        go_wp2_with fail
        go_roundw
        case rel => exact ⟨k + 1, n', by omega, by go_num, HN2.out, by first | exact HK2.out | (rw [hW1]; exact HK2.out), by first | exact HGV.out | (rw [hW1]; exact HGV.out)⟩
        case measure => simp [intOf]; omega
    · have i1 : ¬ (k : Int) < (m : Int) := by omega
      have e : P.take k = P := List.take_of_length_le (by rw [HM.out]; omega)
      have HN2 := Lib.hid (show n' ≤ n + (putK P).length from by have := HN.out; rw [e] at this; exact this)
      have HK2 := Lib.hid (show KS wr b n' ((putK P).foldl addK K) from by have := HO.out; rw [e] at this; exact this)
      clear e
      go_wp2_with fail
      go_end0
      exact ⟨rfl, ⟨n', HN2.out, HK2.out⟩, HG.out⟩
end Go.Proofs.YthgnecggdlamfaaGreat
/- The firm ones; whether one owns what is put; whether there would be too many keys: the program's. -/
namespace Go.Proofs.YthgnecggdlamfaaGreat
open Go.RowKit Go.Maps

/-- What cells there are stay. -/
structure KC (w w' : World) : Prop where
  size : w.heap.size ≤ w'.heap.size
  c : ∀ p v, w.cell? p = some v → w'.cell? p = some v
theorem cell_lt {w : World} {p : Addr} {v : Value} (h : w.cell? p = some v) : p.block < w.heap.size := by
  unfold World.cell? at h
  by_cases hl : p.block < w.heap.size
  · exact hl
  · rw [Array.getElem?_eq_none (by omega)] at h; simp at h
theorem KC.refl (w : World) : KC w w := ⟨Nat.le_refl _, fun _ _ h => h⟩
theorem KC.trans {w w1 w2 : World} (h : KC w w1) (h2 : KC w1 w2) : KC w w2 := ⟨Nat.le_trans h.size h2.size, fun p v e => h2.c p v (h.c p v e)⟩
theorem KC.below {w w' : World} (h : Below w.heap.size w w') : KC w w' := ⟨h.size, fun _ _ e => (h.cell (cell_lt e)).trans e⟩
theorem KC.set {w w' : World} {b n : Nat} {K : List ByteArray} (hK : KS w b n K) (h : w.grownBy w' (some b)) : KC w w' :=
  ⟨h.size, fun p v e => (World.cell?_of_block (a := p) (h.block p.block (cell_lt e) (by simpa using hK.cell e))).trans e⟩
theorem rw_keep {α : Type} {k : Nat} {f : α → List Value} {w w' : World} {a : Option Addr} {L : List α} (h : Rw k f w a L) (hk : KC w w') : Rw k f w' a L := by
  intro j x hx
  obtain ⟨b, off, e, hb, c⟩ := h j x hx
  exact ⟨b, off, e, Nat.lt_of_lt_of_le hb hk.size, fun i u hu => hk.c _ _ (c i u hu)⟩
theorem firmS_at {O : List Sop} {k : Nat} {x : Sop} (hx : O[k]? = some x) : firmS (O.take (k + 1)) = firmS (O.take k) ++ if x.fm then [x.t] else [] := by
  rw [takeP_snoc hx]
  unfold firmS
  rw [List.filter_append, List.map_append]
  cases h : x.fm <;> simp [h]
theorem firmS_len (O : List Sop) : (firmS O).length ≤ O.length := by
  unfold firmS; rw [List.length_map]; exact List.length_filter_le _ _
theorem firmS_mem {O : List Sop} {t : Tx} (h : t ∈ firmS O) : ∃ x ∈ O, x.t = t := by
  unfold firmS at h
  obtain ⟨x, hx, rfl⟩ := List.mem_map.1 h
  exact ⟨x, (List.mem_filter.1 hx).1, rfl⟩
/-- What firm answers. -/
def FmP (O : List Sop) (w : World) (e : Ending) (w' : World) : Prop := (∃ a c, e = .returned (.slice a (firmS O).length c) ∧ Txs w' a (firmS O)) ∧ Below w.heap.size w w'
set_option maxRecDepth 100000 in
set_option maxHeartbeats 4000000 in
theorem firm_any (s : Sh) (A : Sad) (w : World) (hM : ShM w s A) (hl : s.opn.length * 48 ≤ 140737488351232) :
    Calls Tryz.prog 64 #[shV s A] w (FmP s.opn w) := by
  obtain ⟨n, hn⟩ : ∃ n, s.opn.length = n := ⟨_, rfl⟩
  obtain ⟨W, hW⟩ : ∃ W, w.alloc (.cells #[.slice A.ra s.rows.length A.rc, .slice A.ha s.holds.length A.hc, .slice A.oa s.opn.length A.oc, .slice A.da s.done.length A.dc, .int .u64 (s.ver : Nat)] 28) = W := ⟨_, rfl⟩
  obtain ⟨x1, hx1⟩ : ∃ x, w.heap.size = x := ⟨_, rfl⟩
  have hBX : Below w.heap.size w W ∧ W.cell? ⟨x1, 2, none⟩ = some (.slice A.oa s.opn.length A.oc) := by
    rw [← hW, ← hx1]
    exact ⟨by go_grown, by simp [go_sem]⟩
  rw [show shV s A = .agg #[.slice A.ra s.rows.length A.rc, .slice A.ha s.holds.length A.hc, .slice A.oa s.opn.length A.oc, .slice A.da s.done.length A.dc, .int .u64 (s.ver : Nat)] from rfl]
  rw [hn] at hBX hl hW ⊢
  obtain ⟨hB, c2⟩ := hBX
  have HM := Lib.hid (hM.later hB)
  have HN := Lib.hid hn
  have HB := Lib.hid hB
  clear hM hn hB
  go_enter Tryz.func64, Tryz.ntmps64
  go_wp2_with fail
  clear c2
  go_loopw [3, 9] (fun lv iv wr => ∃ (k : Nat) (a' : Option Addr) (c' : Nat), k ≤ n ∧ iv = .int .i64 k ∧ lv = .slice a' (firmS (s.opn.take k)).length c' ∧ CqX W.heap.size wr (.slice a' (firmS (s.opn.take k)).length c') (firmS (s.opn.take k)) ∧ Below W.heap.size W wr) (fun _ iv _ => n - (intOf iv).toNat)
  case atStart => exact ⟨0, none, 0, Nat.zero_le _, rfl, by simp [firmS], by simp only [List.take_zero, firmS, List.filter_nil, List.map_nil, List.length_nil]; exact Cq.nil _ _ _, Below.refl _ _⟩
  case round =>
    obtain ⟨k, a', c', hk, rfl, rfl, hQ, hBw⟩ := hrel
    have HQ := Lib.hid hQ
    have HBW := Lib.hid hBw
    clear hQ hBw
    by_cases hlt : k < n
    · obtain ⟨y, hy⟩ : ∃ y, A.om[k]? = some y := ⟨_, List.getElem?_eq_getElem (by rw [HM.out.olen, HN.out]; exact hlt)⟩
      have hx : s.opn[k]? = some y.x := by rw [← HM.out.om, List.getElem?_map, hy]; rfl
      have HAT := Lib.hid (firmS_at hx)
      have hln := firmS_len (s.opn.take k)
      rw [List.length_take] at hln
      obtain ⟨b, off, e, _, p0, p1, p2, p3, p4⟩ := Sop.cells (HM.out.opn.later HBW.out) hy
      obtain ⟨oo, hoo⟩ : ∃ o, A.oa = o := ⟨_, rfl⟩
      rw [hoo] at e
      rw [hoo]
      subst e
      have HOO := Lib.hid hoo
      have i0 : (0 : Int) ≤ (k : Int) := by omega
      have i1 : (k : Int) < (n : Int) := by omega
      clear hx hy hoo
      obtain ⟨⟨⟨ya, yi⟩, yf, yw, yp⟩, pa, pc⟩ := y
      simp only at p0 p1 p2 p3 p4 HAT
      obtain ⟨W1, hW1⟩ : ∃ W1, (wr.alloc (.cells #[.int .u64 (ya : Nat), .int .u64 (yi : Nat), .bool yf, .bool yw, .slice pa yp.length pc] 50)) = W1 := ⟨_, rfl⟩
      obtain ⟨x5, hx5⟩ : ∃ x5, wr.heap.size = x5 := ⟨_, rfl⟩
      have BV : Below wr.heap.size wr W1 := hW1 ▸ (Below.refl _ _).alloc (Nat.le_refl _) _
      have hV : W1.cell? ⟨x5, 0, none⟩ = some (.int .u64 (ya : Nat)) ∧ W1.cell? ⟨x5, 1, none⟩ = some (.int .u64 (yi : Nat)) ∧ W1.cell? ⟨x5, 2, none⟩ = some (.bool yf) := by
        rw [← hW1, ← hx5]; exact ⟨by simp [go_sem], by simp [go_sem], by simp [go_sem]⟩
      obtain ⟨v0, v1, v2⟩ := hV
      have HQV := Lib.hid (HQ.out.later BV)
      have HBV := Lib.hid (HBW.out.trans (BV.mono HBW.out.size))
      clear BV
      by_cases hyf : yf = true
      · rw [hyf] at v2
        have HAP := Lib.hid (show firmS (s.opn.take (k + 1)) = firmS (s.opn.take k) ++ [⟨ya, yi⟩] from by rw [HAT.out, hyf]; rfl)
        clear hyf
        obtain ⟨a6, c6, w6, hr6, hc6, hb6⟩ := appX W.heap.size W1 _ _ HQV.out ⟨ya, yi⟩ (by omega) HBV.out.size
        have HR6 := Lib.hid hr6
        have HQ6 := Lib.hid (show CqX W.heap.size w6 (.slice a6 (firmS (s.opn.take (k + 1))).length c6) (firmS (s.opn.take (k + 1))) from by rw [HAP.out, List.length_append, List.length_singleton]; exact hc6)
        have HB6 := Lib.hid (HBV.out.trans hb6)
        have HLN := Lib.hid (show (firmS (s.opn.take (k + 1))).length = (firmS (s.opn.take k)).length + 1 from by rw [HAP.out, List.length_append, List.length_singleton])
        clear hr6 hc6 hb6 hln
        go_wp2_with (at_builtin; refine Lib.wpList_append_run _ rfl _ _ 100 100 rfl _ (.slice (some ⟨W1.heap.size, 0, none⟩) 1 1) rfl rfl _ _ HR6.out ?_)
        go_roundw
        case rel => exact ⟨k + 1, a6, c6, by omega, by go_num, by rw [HLN.out], HQ6.out, HB6.out⟩
        case measure => simp [intOf]; omega
      · have hy2 : yf = false := by simpa using hyf
        rw [hy2] at v2
        have HAP := Lib.hid (show firmS (s.opn.take (k + 1)) = firmS (s.opn.take k) from by rw [HAT.out, hy2]; simp)
        clear hyf hy2 hln
        go_wp2_with fail
        go_roundw
        case rel => exact ⟨k + 1, a', c', by omega, by go_num, by rw [HAP.out], by rw [HAP.out]; exact HQV.out, HBV.out⟩
        case measure => simp [intOf]; omega
    · have i1 : ¬ (k : Int) < (n : Int) := by omega
      have e : s.opn.take k = s.opn := List.take_of_length_le (by rw [HN.out]; omega)
      have HQ2 := Lib.hid (show CqX W.heap.size wr (.slice a' (firmS (s.opn.take k)).length c') (firmS s.opn) ∧ (firmS (s.opn.take k)).length = (firmS s.opn).length from by
        have := HQ.out
        rw [e] at this
        rw [e]; exact ⟨this, rfl⟩)
      clear e
      go_wp2_with fail
      go_ret
      obtain ⟨q1, q2⟩ := HQ2.out
      obtain ⟨a2, c2, e2, hR, _⟩ := q1.form txT
      injection e2 with e3 _ _
      exact ⟨⟨a', c', by rw [q2]; first | rfl | simp, by rw [e3]; exact hR⟩, HB.out.trans (HBW.out.mono HB.out.size)⟩
set_option maxRecDepth 100000 in
set_option maxHeartbeats 1000000 in
theorem owns1_any (x : Pu) (h1 h2 n c : Nat) (a : Option Addr) (L : List Ho) (t : Tx) (hn : L.length = n) (hl : n ≤ 140737488351232) (hs : smallH L) (hk : x.key.size ≤ 140737488351232) (w : World) (H1 : B1 w h1 (.slice a n c)) (H2 : TxBox w h2 t) (hM : Hos w a L) :
    Calls Tryz.prog 76 #[puV x, .pointer (some ⟨h1, 0, none⟩), .pointer (some ⟨h2, 0, none⟩)] w fun e w' => e = .returned (.bool (!hasH t x.key true L)) ∧ Below w.heap.size w w' := by
  obtain ⟨xk, xv, xg⟩ := x
  obtain ⟨ta, ti⟩ := t
  simp only at hk
  obtain ⟨W, hW⟩ : ∃ W, w.alloc (.cells #[.string xk, .string xv, .bool xg] 35) = W := ⟨_, rfl⟩
  have BV : Below w.heap.size w W := hW ▸ (Below.refl _ _).alloc (Nat.le_refl _) _
  obtain ⟨q0, _⟩ := H1.later BV
  have r0 : W.cell? ⟨w.heap.size, 0, none⟩ = some (.string xk) := by rw [← hW]; simp [go_sem]
  obtain ⟨_, t0, t1⟩ := H2.later BV
  simp only at t0 t1
  have HC := Lib.hid (pHas_any n c a L ⟨ta, ti⟩ xk true hn hl hs W (hM.later BV))
  obtain ⟨r, hr⟩ : ∃ r, hasH ⟨ta, ti⟩ xk true L = r := ⟨_, rfl⟩
  rw [hr] at HC ⊢
  have HB := Lib.hid BV
  clear hr H1 H2 hM BV
  go_enter Tryz.func76, Tryz.ntmps76
  go_wp2_with fail
  refine HC.out.mono ?_
  rintro e w2 ⟨rfl, hb2⟩
  have HB2 := Lib.hid (HB.out.trans (hb2.mono HB.out.size))
  clear hb2
  go_wp2_with fail
  go_ret
  exact ⟨by first | rfl | simp, HB2.out⟩
theorem owns1_run (p1 p2 : Value) (x : Pu) (w : World) : (callFunc 76 (#[.agg #[.string x.key, .string x.val, .bool x.gone]] ++ #[p1, p2])).run Tryz.prog w = .ok (.enter 76 (#[.agg #[.string x.key, .string x.val, .bool x.gone]] ++ #[p1, p2])) w := by kernel_rfl
set_option maxRecDepth 100000 in
set_option maxHeartbeats 1000000 in
theorem containsU_any (fn : Nat) (caps : Array Value) (f : Pu → Bool) (n c : Nat) (a : Option Addr) (L : List Pu) (hn : L.length = n) (hl : n ≤ 140737488351232) (w : World) (hR : ∀ (x : Pu) (w : World), (callFunc fn (#[.agg #[.string x.key, .string x.val, .bool x.gone]] ++ caps)).run Tryz.prog w = .ok (.enter fn (#[.agg #[.string x.key, .string x.val, .bool x.gone]] ++ caps)) w) (H : ClU w.heap.size fn caps f L w) (hM : Pus w a L) :
    Calls Tryz.prog 75 #[.slice a n c, .func (.func fn) #[] caps] w fun e w' => e = .returned (.bool (L.any f)) ∧ Below w.heap.size w w' := by
  have HI := Lib.hid (indexU_any fn caps f n c a L hn hl w hR H hM)
  clear hn H hM hR
  go_enter Tryz.func75, Tryz.ntmps75
  go_wp2_with fail
  refine HI.out.mono ?_
  rintro e w2 ⟨⟨k, rfl, hk⟩, hb2⟩
  have HQ := Lib.hid (fsG_any hk)
  have HB2 := Lib.hid hb2
  clear hk hb2
  by_cases h0 : (0 : Int) ≤ k
  · have HQ2 := Lib.hid (HQ.out.trans (decide_eq_true h0))
    go_wp2_with fail
    go_ret
    exact ⟨by rw [HQ2.out]; first | rfl | (simp; omega), HB2.out⟩
  · have HQ2 := Lib.hid (HQ.out.trans (decide_eq_false h0))
    go_wp2_with fail
    go_ret
    exact ⟨by rw [HQ2.out]; first | rfl | (simp; omega), HB2.out⟩
set_option maxRecDepth 100000 in
set_option maxHeartbeats 1000000 in
theorem owns_any (n c m d : Nat) (a b : Option Addr) (L : List Ho) (t : Tx) (P : List Pu) (hn : L.length = n) (hl : n ≤ 140737488351232) (hs : smallH L) (hm : P.length = m) (hl2 : m ≤ 140737488351232) (hp : smlP P) (w : World) (hM : Hos w a L) (hP : Pus w b P) :
    Calls Tryz.prog 46 #[.slice a n c, txV t, .slice b m d] w fun e w' => e = .returned (.bool (P.all fun p => hasH t p.key true L)) ∧ Below w.heap.size w w' := by
  obtain ⟨ta, ti⟩ := t
  obtain ⟨W, hW⟩ : ∃ W, (w.alloc (.cells #[.slice a n c] 23)).alloc (.cells #[.int .u64 (ta : Nat), .int .u64 (ti : Nat)] 33) = W := ⟨_, rfl⟩
  obtain ⟨x3, hx3⟩ : ∃ x, w.heap.size = x := ⟨_, rfl⟩
  have hBX : Below w.heap.size w W ∧ B1 W x3 (.slice a n c) ∧ TxBox W (x3 + 1) ⟨ta, ti⟩ := by
    rw [← hW, ← hx3]
    exact ⟨by go_grown, ⟨by simp [go_sem], by simp; omega⟩, ⟨by simp, by simp [go_sem], by simp [go_sem]⟩⟩
  obtain ⟨hB, h1, h2⟩ := hBX
  have HC := Lib.hid (containsU_any 76 #[.pointer (some ⟨x3, 0, none⟩), .pointer (some ⟨x3 + 1, 0, none⟩)] (fun p => !hasH ⟨ta, ti⟩ p.key true L) m d b P hm hl2 W (owns1_run _ _) (fun x hx w' hb => owns1_any x _ _ n c a L ⟨ta, ti⟩ hn hl hs (hp x hx).1 w' (h1.later hb) (h2.later hb) ((hM.later hB).later hb)) (hP.later hB))
  have he : (P.all fun p => hasH ⟨ta, ti⟩ p.key true L) = !(P.any fun p => !hasH ⟨ta, ti⟩ p.key true L) := by
    rw [List.not_any_eq_all_not]; simp
  rw [he]
  obtain ⟨r, hr⟩ : ∃ r, (P.any fun p => !hasH ⟨ta, ti⟩ p.key true L) = r := ⟨_, rfl⟩
  rw [hr] at HC ⊢
  have HB := Lib.hid hB
  have HW := Lib.hid hW
  have HX3 := Lib.hid hx3
  clear hr he h1 h2 hB hW hx3 hM hP hs hp hn hm
  go_enter Tryz.func46, Tryz.ntmps46
  go_wp2_with fail
  rw [HW.out, HX3.out]
  refine HC.out.mono ?_
  rintro e w2 ⟨rfl, hb2⟩
  have HB2 := Lib.hid (HB.out.trans (hb2.mono HB.out.size))
  clear hb2
  go_wp2_with fail
  go_ret
  exact ⟨by first | rfl | simp, HB2.out⟩
end Go.Proofs.YthgnecggdlamfaaGreat
