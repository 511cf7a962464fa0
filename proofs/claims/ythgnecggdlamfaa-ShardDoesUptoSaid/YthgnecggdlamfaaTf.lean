/- Whether there would be too many keys: the program's crowded. -/
import Derived.Test.YthgnecggdlamfaaTe
namespace Go.Proofs.Ythgnecggdlamfaa
open Go.RowKit Go.Maps

theorem memK_filter (p : ByteArray → Bool) (y : ByteArray) (K : List ByteArray) : memK y (K.filter p) = (memK y K && p y) := by
  rw [Bool.eq_iff_iff, memK_iff, List.mem_filter, Bool.and_eq_true, memK_iff]
theorem filter_one {K : List ByteArray} (hn : K.Nodup) (k : ByteArray) : (K.filter fun x => !decide (x = k)).length + (if memK k K then 1 else 0) = K.length := by
  induction K with
  | nil => rfl
  | cons z r ih =>
    obtain ⟨h1, h2⟩ := List.nodup_cons.1 hn
    have ih := ih h2
    by_cases h : z = k
    · subst h
      have hz : memK z r = false := by
        cases hm : memK z r
        · rfl
        · exact absurd ((memK_iff z r).1 hm) h1
      rw [hz] at ih
      simp only [Bool.false_eq_true, if_false, Nat.add_zero] at ih
      simp [memK, ih]
    · have e : memK k (z :: r) = memK k r := by simp [memK, h]
      rw [e, List.filter_cons, if_pos (by simp [h]), List.length_cons, List.length_cons]; omega
theorem KS.del {w w' : World} {b n : Nat} {K : List ByteArray} {D : DataW Unit} {k : ByteArray} (h1 : SM w b n D) (h2 : Maps.size D = K.length) (h3 : ∀ x : ByteArray, Maps.has D (.string x.data.toList) = memK x K) (hn : K.Nodup) (hown : SM w' b n (D.del (.string k.data.toList))) : KS w' b n (K.filter fun x => !decide (x = k)) := by
  refine ⟨_, hown, ?_, fun y => ?_⟩
  · have e1 := size_del (k := .string k.data.toList) (h1.tidy keyedS)
    have e2 := filter_one hn k
    rw [h3 k] at e1
    omega
  · rw [memK_filter]
    by_cases hy : y = k
    · subst hy; rw [has_del_same]; simp
    · rw [has_del_other (litS_ne hy), h3 y]; simp [hy]
theorem KS.made (w : World) : KS (w.alloc (.map #[] 0)) w.heap.size 0 [] := ⟨.map [], World.ownsMap_made (H := Unit) w Try.prog 9 unitElem, rfl, fun _ => rfl⟩
/-- How many keys there are, counted as the program does. -/
theorem crowd_len (s : Sh) (P : List Pu) : keysN s P = (fK (s.rows.map fun x => x.key)).length + ((fK (putK P ++ opnK s.opn)).filter fun x => !memK x (s.rows.map fun x => x.key)).length := by
  rw [← List.length_append]
  refine List.Perm.length_eq ((List.perm_ext_iff_of_nodup (foldK_nodup _ _ List.nodup_nil) ?_).2 fun x => ?_)
  · rw [List.nodup_append]
    refine ⟨foldK_nodup _ _ List.nodup_nil, (foldK_nodup _ _ List.nodup_nil).filter _, fun x hx y hy e => ?_⟩
    subst e
    have h1 : x ∈ s.rows.map fun x => x.key := by simpa [fK, foldK_mem] using hx
    have h2 := (List.mem_filter.1 hy).2
    rw [(memK_iff _ _).2 h1] at h2
    cases h2
  · rw [foldK_mem, List.mem_append, List.mem_filter]
    simp only [fK, foldK_mem, List.not_mem_nil, false_or, allK, List.mem_append]
    by_cases h : x ∈ s.rows.map fun x => x.key
    · simp [h]
    · have h2 : memK x (s.rows.map fun x => x.key) = false := by
        cases hm : memK x (s.rows.map fun x => x.key)
        · rfl
        · exact absurd ((memK_iff _ _).1 hm) h
      simp only [h, h2, false_or, Bool.not_false, and_true]
      exact or_comm
theorem filter_take {F KR : List ByteArray} {k : Nat} {x : ByteArray} (hx : KR[k]? = some x) : (F.filter fun y => !memK y (KR.take (k + 1))) = (F.filter fun y => !memK y (KR.take k)).filter fun y => !decide (y = x) := by
  rw [List.filter_filter]
  congr 1
  funext y
  rw [takeP_snoc hx, Bool.eq_iff_iff]
  simp only [Bool.not_eq_true', Bool.and_eq_true, decide_eq_false_iff_not]
  constructor
  · intro h
    refine ⟨fun e => ?_, ?_⟩
    · have : memK y (KR.take k ++ [x]) = true := (memK_iff _ _).2 (by simp [e])
      rw [h] at this; cases this
    · cases hm : memK y (KR.take k)
      · rfl
      · have : memK y (KR.take k ++ [x]) = true := (memK_iff _ _).2 (by simp [(memK_iff _ _).1 hm])
        rw [h] at this; cases this
  · rintro ⟨h1, h2⟩
    cases hm : memK y (KR.take k ++ [x])
    · rfl
    · have := (memK_iff _ _).1 hm
      rcases List.mem_append.1 this with h | h
      · rw [(memK_iff _ _).2 h] at h2; cases h2
      · exact absurd (by simpa using h) h1
set_option maxRecDepth 100000 in
set_option maxHeartbeats 8000000 in
theorem crowded_any (s : Sh) (A : Sad) (m d : Nat) (b : Option Addr) (P : List Pu) (hm : P.length = m) (hl2 : m ≤ 140737488351232) (hsP : smlP P) (zs : SzS s) (hK : (allK s P).length ≤ 1000000000) (w : World) (hM : ShM w s A) (hP : Pus w b P) :
    Calls Try.prog 73 #[shV s A, .slice b m d] w fun e w' => e = .returned (.bool (decide (32 < keysN s P))) ∧ Below w.heap.size w w' := by
  have hmm := @run_makeMap Try.prog
  obtain ⟨nr, hnr⟩ : ∃ n, s.rows.length = n := ⟨_, rfl⟩
  obtain ⟨no, hno⟩ : ∃ n, s.opn.length = n := ⟨_, rfl⟩
  obtain ⟨KR, hKR⟩ : ∃ K, (s.rows.map fun x => x.key) = K := ⟨_, rfl⟩
  obtain ⟨KP, hKP⟩ : ∃ K, putK P = K := ⟨_, rfl⟩
  have hsum : (allK s P).length = KR.length + (opnK s.opn).length + KP.length := by simp [allK, ← hKR, ← hKP, Nat.add_assoc]
  have hkl : KR.length = nr := by rw [← hKR, List.length_map, hnr]
  have hrl : nr ≤ 140737488351232 := by have := zs.rlen; omega
  have hol : no ≤ 140737488351232 := by have := zs.olen; omega
  have HKN := Lib.hid (crowd_len s P)
  rw [hKR, hKP] at HKN
  rw [show shV s A = .agg #[.slice A.ra s.rows.length A.rc, .slice A.ha s.holds.length A.hc, .slice A.oa s.opn.length A.oc, .slice A.da s.done.length A.dc, .int .u64 (s.ver : Nat)] from rfl, hnr, hno]
  obtain ⟨w1, hw1⟩ : ∃ W, w.alloc (.cells #[.slice A.ra nr A.rc, .slice A.ha s.holds.length A.hc, .slice A.oa no A.oc, .slice A.da s.done.length A.dc, .int .u64 (s.ver : Nat)] 28) = W := ⟨_, rfl⟩
  obtain ⟨x2, hx2⟩ : ∃ x, w.heap.size = x := ⟨_, rfl⟩
  have hs1 : w1.heap.size = x2 + 1 := by rw [← hw1, ← hx2]; simp
  obtain ⟨w2, hw2⟩ : ∃ W, w1.alloc (.map #[] 0) = W := ⟨_, rfl⟩
  have hs2 : w2.heap.size = x2 + 1 + 1 := by rw [← hw2, ← hs1]; simp
  obtain ⟨w3, hw3⟩ : ∃ W, w2.alloc (.map #[] 0) = W := ⟨_, rfl⟩
  have hs3 : w3.heap.size = x2 + 1 + 1 + 1 := by rw [← hw3, ← hs2]; simp
  obtain ⟨W, hW⟩ : ∃ W, w3.alloc (.cells #[.map (some (x2 + 1 + 1))] 136) = W := ⟨_, rfl⟩
  have B1w : Below w.heap.size w w1 := hw1 ▸ (Below.refl _ _).alloc (Nat.le_refl _) _
  have B2w : Below w1.heap.size w1 w2 := hw2 ▸ (Below.refl _ _).alloc (Nat.le_refl _) _
  have B3w : Below w2.heap.size w2 w3 := hw3 ▸ (Below.refl _ _).alloc (Nat.le_refl _) _
  have B4w : Below w3.heap.size w3 W := hW ▸ (Below.refl _ _).alloc (Nat.le_refl _) _
  have BW1 : Below w1.heap.size w1 W := B2w.trans ((B3w.trans (B4w.mono B3w.size)).mono B2w.size)
  have hB : Below w.heap.size w W := B1w.trans (BW1.mono B1w.size)
  have hc : W.cell? ⟨x2, 0, none⟩ = some (.slice A.ra nr A.rc) ∧ W.cell? ⟨x2, 2, none⟩ = some (.slice A.oa no A.oc) := by
    have h0 : w1.cell? ⟨x2, 0, none⟩ = some (.slice A.ra nr A.rc) ∧ w1.cell? ⟨x2, 2, none⟩ = some (.slice A.oa no A.oc) := by rw [← hw1, ← hx2]; exact ⟨by simp [go_sem], by simp [go_sem]⟩
    exact ⟨(BW1.cell (p := ⟨x2, 0, none⟩) (by simp; omega)).trans h0.1, (BW1.cell (p := ⟨x2, 2, none⟩) (by simp; omega)).trans h0.2⟩
  obtain ⟨c0, c2⟩ := hc
  have hT : KS W (x2 + 1) 0 [] := by
    have h := KS.made w1
    rw [hw2, hs1] at h
    exact (h.later B3w).later B4w
  have hF : KS W (x2 + 1 + 1) 0 [] := by
    have h := KS.made w2
    rw [hw3, hs2] at h
    exact h.later B4w
  have hX : B1 W (x2 + 1 + 1 + 1) (.map (some (x2 + 1 + 1))) := by rw [← hW]; exact ⟨by rw [← hs3]; simp [go_sem], by rw [← hs3]; simp⟩
  have HWR := Lib.hid (write1_any (x2 + 1 + 1 + 1) (x2 + 1 + 1) 0 m d b P [] hm hl2 hsP (by rw [hKP]; omega) W hX hF (hP.later hB))
  rw [hKP] at HWR
  have HO := Lib.hid (hM.opn.later hB)
  have HPU := Lib.hid (fun y hy => (hM.puts y hy).later hB)
  have HRW := Lib.hid (hM.rows.later hB)
  have HMO := Lib.hid hM.om
  have HZ := Lib.hid zs
  have HT := Lib.hid hT
  have HF0 := Lib.hid hF
  have HX := Lib.hid hX
  have HB := Lib.hid hB
  have HC0 := Lib.hid c0
  have HC2 := Lib.hid c2
  have HKR := Lib.hid hKR
  have HNR := Lib.hid hnr
  have HNO := Lib.hid hno
  have HKL := Lib.hid hkl
  have HSU := Lib.hid hsum
  have HKB := Lib.hid hK
  have HWW := Lib.hid (show (((w.alloc (.cells #[.slice A.ra nr A.rc, .slice A.ha s.holds.length A.hc, .slice A.oa no A.oc, .slice A.da s.done.length A.dc, .int .u64 (s.ver : Nat)] 28)).alloc (.map #[] 0)).alloc (.map #[] 0)).alloc (.cells #[.map (some (x2 + 1 + 1))] 136) = W from by rw [hw1, hw2, hw3, hW])
  have HX2 := Lib.hid hx2
  clear hm hsP zs hK hM hP hKR hKP hsum hkl hnr hno hw1 hx2 hs1 hw2 hs2 hw3 hs3 hW B1w B2w B3w B4w BW1 hB c0 c2 hT hF hX w1 w2 w3
  go_enter Try.func73, Try.ntmps73
  go_wp2_with fail
  rw [HX2.out, HWW.out]
  refine HWR.out.mono ?_
  rintro e wa ⟨rfl, ⟨na, hna, hFa⟩, hga⟩
  have hsz0 := HB.out.size
  have HFA := Lib.hid (show KS wa (x2 + 1 + 1) na (fK (KP ++ opnK (s.opn.take 0))) from by simpa [opnK, fK] using hFa)
  have HKA := Lib.hid (KC.set HF0.out hga)
  have HTA := Lib.hid (HT.out.grown hga (by omega))
  have HBA := Lib.hid (HB.out.grown hga hsz0 (fun k e => by cases e; have := HX2.out; omega))
  have HNA := Lib.hid (show na ≤ KP.length + (opnK (s.opn.take 0)).length from by omega)
  have c2 := HKA.out.c _ _ HC2.out
  clear hFa hna hga hmm hsz0
  go_wp2_with fail
  clear c2
  go_loopw [21] (fun iv wr => ∃ (k n' : Nat), k ≤ no ∧ iv = .int .i64 k ∧ n' ≤ KP.length + (opnK (s.opn.take k)).length ∧ KS wr (x2 + 1 + 1) n' (fK (KP ++ opnK (s.opn.take k))) ∧ KS wr (x2 + 1) 0 [] ∧ KC W wr ∧ Below w.heap.size w wr) (fun iv _ => no - (intOf iv).toNat)
  case atStart => exact ⟨0, na, Nat.zero_le _, rfl, HNA.out, HFA.out, HTA.out, HKA.out, HBA.out⟩
  case round =>
    obtain ⟨k, nk, hk, rfl, hnk, hFk, hTk, hKk, hBk⟩ := hrel
    have HNK := Lib.hid hnk
    have HFK := Lib.hid hFk
    have HTK := Lib.hid hTk
    have HKK := Lib.hid hKk
    have HBK := Lib.hid hBk
    clear hnk hFk hTk hKk hBk
    by_cases hlt : k < no
    · obtain ⟨y, hy⟩ : ∃ y, A.om[k]? = some y := ⟨_, List.getElem?_eq_getElem (by
        have := congrArg List.length HMO.out
        rw [List.length_map] at this
        rw [this, HNO.out]; exact hlt)⟩
      have hx : s.opn[k]? = some y.x := by rw [← HMO.out, List.getElem?_map, hy]; rfl
      have htl := opnK_take_le hx
      have hsn : opnK (s.opn.take (k + 1)) = opnK (s.opn.take k) ++ (if y.x.fm then putK y.x.puts else []) := by rw [takeP_snoc hx, opnK_snoc]
      have hyz := HZ.out.opn y.x (List.mem_of_getElem? hx)
      have HYP := Lib.hid (rw_keep (HPU.out y (List.mem_of_getElem? hy)) HKK.out)
      obtain ⟨b', off, e, _, p0, p1, p2, p3, p4⟩ := Sop.cells (rw_keep HO.out HKK.out) hy
      obtain ⟨oo, hoo⟩ : ∃ o, A.oa = o := ⟨_, rfl⟩
      rw [hoo] at e
      rw [hoo]
      subst e
      have HOO := Lib.hid hoo
      have i0 : (0 : Int) ≤ (k : Int) := by omega
      have i1 : (k : Int) < (no : Int) := by omega
      clear hx hy hoo
      obtain ⟨⟨⟨ya, yi⟩, yf, yw, yp⟩, pa, pc⟩ := y
      simp only at p0 p1 p2 p3 p4 HYP hsn htl hyz
      obtain ⟨W1, hW1⟩ : ∃ W1, (wr.alloc (.cells #[.int .u64 (ya : Nat), .int .u64 (yi : Nat), .bool yf, .bool yw, .slice pa yp.length pc] 48)) = W1 := ⟨_, rfl⟩
      obtain ⟨x5, hx5⟩ : ∃ x5, wr.heap.size = x5 := ⟨_, rfl⟩
      have BV : Below wr.heap.size wr W1 := hW1 ▸ (Below.refl _ _).alloc (Nat.le_refl _) _
      have hV : W1.cell? ⟨x5, 2, none⟩ = some (.bool yf) ∧ W1.cell? ⟨x5, 4, none⟩ = some (.slice pa yp.length pc) := by
        rw [← hW1, ← hx5]; exact ⟨by simp [go_sem], by simp [go_sem]⟩
      obtain ⟨v2, v4⟩ := hV
      have HFV := Lib.hid (HFK.out.later BV)
      have HTV := Lib.hid (HTK.out.later BV)
      have HKV := Lib.hid (HKK.out.trans (KC.below BV))
      have HBV := Lib.hid (HBK.out.trans (BV.mono HBK.out.size))
      have HPV := Lib.hid (HYP.out.later BV)
      clear BV
      by_cases hyf : yf = true
      · rw [hyf] at v2 hsn htl
        rw [if_pos rfl] at htl hsn
        have HSN := Lib.hid hsn
        have hbd : nk + (putK yp).length ≤ 9000000000 := by have := HSU.out; have := HKB.out; have := HNK.out; omega
        have HWQ := Lib.hid (write1_any (x2 + 1 + 1 + 1) (x2 + 1 + 1) nk yp.length pc pa yp _ rfl (by omega) hyz.2.2 hbd W1 ⟨HKV.out.c _ _ HX.out.c, Nat.lt_of_lt_of_le HX.out.lt HKV.out.size⟩ HFV.out HPV.out)
        clear hyf hsn htl hyz hbd
        go_wp2_with fail
        refine HWQ.out.mono ?_
        rintro e w2 ⟨rfl, ⟨n2, hn2, hF2⟩, hg2⟩
        have HF2 := Lib.hid (show KS w2 (x2 + 1 + 1) n2 (fK (KP ++ opnK (s.opn.take (k + 1)))) from by
          rw [HSN.out, ← List.append_assoc]; unfold fK; rw [List.foldl_append]; exact hF2)
        have HN2 := Lib.hid (show n2 ≤ KP.length + (opnK (s.opn.take (k + 1))).length from by rw [HSN.out, List.length_append]; have := HNK.out; omega)
        have HT2 := Lib.hid (HTV.out.grown hg2 (by omega))
        have HK2 := Lib.hid (HKV.out.trans (KC.set HFV.out hg2))
        have HB2 := Lib.hid (HBV.out.grown hg2 HBV.out.size (fun k e => by cases e; have := HX2.out; omega))
        clear hF2 hn2 hg2 p0 p1 p2 p3 p4 v2 v4
        go_wp2_with fail
        go_roundw
        case rel => exact ⟨k + 1, n2, by omega, by go_num, HN2.out, HF2.out, HT2.out, HK2.out, HB2.out⟩
        case measure => simp [intOf]; omega
      · have hy2 : yf = false := by simpa using hyf
        rw [hy2] at v2 hsn
        have HSN := Lib.hid (show opnK (s.opn.take (k + 1)) = opnK (s.opn.take k) from by rw [hsn]; simp)
        clear hyf hy2 hsn htl hyz
        go_wp2_with fail
        go_roundw
        case rel => exact ⟨k + 1, nk, by omega, by go_num, by rw [HSN.out]; exact HNK.out, by rw [HSN.out]; exact HFV.out, HTV.out, HKV.out, HBV.out⟩
        case measure => simp [intOf]; omega
    · have i1 : ¬ (k : Int) < (no : Int) := by omega
      have e : s.opn.take k = s.opn := List.take_of_length_le (by rw [HNO.out]; omega)
      have hnk := HNK.out
      have hFk := HFK.out
      rw [e] at hnk hFk
      have HND := Lib.hid (show (fK (KP ++ opnK s.opn)).Nodup from foldK_nodup _ _ List.nodup_nil)
      obtain ⟨F0, hF0⟩ : ∃ F, fK (KP ++ opnK s.opn) = F := ⟨_, rfl⟩
      rw [hF0] at hFk HND HKN
      have HF1 := Lib.hid (show KS wr (x2 + 1 + 1) nk (F0.filter fun y => !memK y (KR.take 0)) from by
        rw [List.filter_eq_self.2 (fun y _ => by simp [memK])]; exact hFk)
      have HT1 := Lib.hid (show KS wr (x2 + 1) 0 (fK (KR.take 0)) from HTK.out)
      have HF0L := Lib.hid (show F0.length ≤ 1000000000 from by
        rw [← hF0]; have := fK_len (KP ++ opnK s.opn); rw [List.length_append] at this; have := HSU.out; have := HKB.out; omega)
      have c0 := HKK.out.c _ _ HC0.out
      clear e hnk hFk hF0 HNK HFK HTK
      go_wp2_with fail
      clear c0
      obtain ⟨ws, hws⟩ : ∃ x, x = wr := ⟨_, rfl⟩
      rw [← hws] at HKK HBK HF1 HT1 ⊢
      clear hws
      go_loopw [35] (fun iv wr => ∃ (j n1 : Nat), j ≤ nr ∧ iv = .int .i64 j ∧ n1 ≤ j ∧ KS wr (x2 + 1) n1 (fK (KR.take j)) ∧ KS wr (x2 + 1 + 1) nk (F0.filter fun y => !memK y (KR.take j)) ∧ KC W wr ∧ Below w.heap.size w wr) (fun iv _ => nr - (intOf iv).toNat)
      case atStart => exact ⟨0, 0, Nat.zero_le _, rfl, Nat.le_refl _, HT1.out, HF1.out, HKK.out, HBK.out⟩
      case round =>
        obtain ⟨j, n1, hj, rfl, hn1, hTj, hFj, hKj, hBj⟩ := hrel
        have HTJ := Lib.hid hTj
        have HFJ := Lib.hid hFj
        have HKJ := Lib.hid hKj
        have HBJ := Lib.hid hBj
        clear hTj hFj hKj hBj
        by_cases hlt : j < nr
        · obtain ⟨x, hx⟩ : ∃ x, s.rows[j]? = some x := ⟨_, List.getElem?_eq_getElem (by rw [HNR.out]; exact hlt)⟩
          have hkx : KR[j]? = some x.key := by rw [← HKR.out, List.getElem?_map, hx]; rfl
          have HFT := Lib.hid (filter_take (F := F0) hkx)
          have HTS := Lib.hid (show fK (KR.take (j + 1)) = addK (fK (KR.take j)) x.key from by rw [takeP_snoc hkx, fK_snoc])
          have hks := (HZ.out.rows x (List.mem_of_getElem? hx)).1
          have hkk := keyS hks
          obtain ⟨b', off, e, _, p0, p1, p2⟩ := Ros.cells (rw_keep HRW.out HKJ.out) hx
          obtain ⟨oo, hoo⟩ : ∃ o, A.ra = o := ⟨_, rfl⟩
          rw [hoo] at e
          rw [hoo]
          subst e
          have HOO := Lib.hid hoo
          have i0 : (0 : Int) ≤ (j : Int) := by omega
          have i2 : (j : Int) < (nr : Int) := by omega
          clear hx hkx hoo
          obtain ⟨xk, xv, xn⟩ := x
          simp only at p0 p1 p2 HFT HTS hks hkk
          obtain ⟨W1, hW1⟩ : ∃ W1, (wr.alloc (.cells #[.string xk, .string xv, .int .u64 (xn : Nat)] 50)) = W1 := ⟨_, rfl⟩
          obtain ⟨x5, hx5⟩ : ∃ x5, wr.heap.size = x5 := ⟨_, rfl⟩
          have BV : Below wr.heap.size wr W1 := hW1 ▸ (Below.refl _ _).alloc (Nat.le_refl _) _
          have v0 : W1.cell? ⟨x5, 0, none⟩ = some (.string xk) := by rw [← hW1, ← hx5]; simp [go_sem]
          have HTV := Lib.hid (HTJ.out.later BV)
          have HFV := Lib.hid (HFJ.out.later BV)
          have HKV := Lib.hid (HKJ.out.trans (KC.below BV))
          have HBV := Lib.hid (HBJ.out.trans (BV.mono HBJ.out.size))
          have HV0 := Lib.hid v0
          clear BV
          have HAD := Lib.hid (addKS_any (x2 + 1) n1 xk _ hks (by have := HSU.out; have := HKB.out; have := HKL.out; omega) W1 HTV.out)
          go_wp2_with fail
          refine HAD.out.mono ?_
          rintro e w2 ⟨rfl, hT2, hg2⟩
          have HT2 := Lib.hid (show KS w2 (x2 + 1) (n1 + 1) (fK (KR.take (j + 1))) from by rw [HTS.out]; exact hT2)
          have HF2 := Lib.hid (HFV.out.grown hg2 (by omega))
          have HK2 := Lib.hid (HKV.out.trans (KC.set HTV.out hg2))
          have HB2 := Lib.hid (HBV.out.grown hg2 HBV.out.size (fun k e => by cases e; have := HX2.out; omega))
          have v0 := (KC.set HTV.out hg2).c _ _ HV0.out
          have q0 := HK2.out.c _ _ HX.out.c
          obtain ⟨D, hown, hsz, hD⟩ := HF2.out
          have HOW := Lib.hid hown
          have HDD := Lib.hid (And.intro hsz hD)
          clear hT2 hg2 hown hsz hD p0 p1 p2
          go_wp2_with (first
            | (at_delete; refine wpList_delete_own _ rfl _ _ 136 9 rfl 113 keyedS Try.underlying136 (unitElem (H := Unit)) (x2 + 1 + 1) nk D rfl HOW.out _ _ rfl hkk ?_; intro w3 hown3 hturn3)
            | go_in)
          have HG3 := Lib.hid hturn3.grown
          have HF3 := Lib.hid (show KS w3 (x2 + 1 + 1) nk (F0.filter fun y => !memK y (KR.take (j + 1))) from by
            rw [HFT.out]
            exact KS.del HOW.out HDD.out.1 HDD.out.2 (HND.out.filter _) hown3)
          have HT3 := Lib.hid (HT2.out.grown HG3.out (by omega))
          have HK3 := Lib.hid (HK2.out.trans (KC.set HF2.out HG3.out))
          have HB3 := Lib.hid (HB2.out.grown HG3.out HB2.out.size (fun k e => by cases e; have := HX2.out; omega))
          clear hown3 hturn3 v0 q0
          go_roundw
          case rel => exact ⟨j + 1, n1 + 1, by omega, by go_num, by omega, HT3.out, HF3.out, HK3.out, HB3.out⟩
          case measure => simp [intOf]; omega
        · have i2 : ¬ (j : Int) < (nr : Int) := by omega
          have e : KR.take j = KR := List.take_of_length_le (by rw [HKL.out]; omega)
          have hT := HTJ.out
          have hF := HFJ.out
          rw [e] at hT hF
          obtain ⟨D1, ho1, hs1, _⟩ := hT
          obtain ⟨D2, ho2, hs2, _⟩ := hF
          have hkn := HKN.out
          have hp1 : (fK KR).length ≤ nr := by have := fK_len KR; have := HKL.out; omega
          have hp2 := Nat.le_trans (List.length_filter_le (fun y => !memK y KR) F0) HF0L.out
          obtain ⟨p, hp⟩ : ∃ p, (fK KR).length = p := ⟨_, rfl⟩
          obtain ⟨q, hq⟩ : ∃ q, (F0.filter fun y => !memK y KR).length = q := ⟨_, rfl⟩
          rw [hp] at hs1 hkn hp1
          rw [hq] at hs2 hkn hp2
          have HO1 := Lib.hid ho1
          have HO2 := Lib.hid ho2
          have HS1 := Lib.hid hs1
          have HS2 := Lib.hid hs2
          have HKQ := Lib.hid hkn
          have q0 := HKJ.out.c _ _ HX.out.c
          clear e ho1 ho2 hs1 hs2 hkn hp hq
          by_cases h32 : 32 < p + q
          all_goals
            go_wp2_with (first
              | (at_len; refine wpList_len_own _ rfl _ 136 rfl 9 113 Try.underlying136 _ (x2 + 1) n1 D1 rfl HO1.out ?_; rw [HS1.out])
              | (at_len; refine wpList_len_own _ rfl _ 136 rfl 9 113 Try.underlying136 _ (x2 + 1 + 1) nk D2 rfl HO2.out ?_; rw [HS2.out])
              | go_in)
            go_ret
            exact ⟨by rw [HKQ.out]; first | rfl | (simp; omega), HBJ.out⟩
end Go.Proofs.Ythgnecggdlamfaa
