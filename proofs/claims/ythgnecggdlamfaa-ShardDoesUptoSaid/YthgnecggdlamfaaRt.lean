/- How large what a shard holds is behind one order. -/
import Derived.Test.YthgnecggdlamfaaTe
import Derived.Test.YthgnecggdlamfaaYr
import Derived.Test.YthgnecggdlamfaaUh
import Derived.Test.YthgnecggdlamfaaYq
import Derived.Test.YthgnecggdlamfaaYs
import Derived.Test.YthgnecggdlamfaaEu
namespace Go.Proofs.Ythgnecggdlamfaa

theorem kno_mem {t : Tx} : ∀ {O : List Sop} {x : Sop}, knoS t O = some x → x ∈ O
  | [], x, h => by simp [knoS] at h
  | y :: r, x, h => by
    rw [knoS] at h
    split at h
    · obtain rfl := Option.some.inj h; simp
    · simp [kno_mem h]
theorem seqR_smlU {ver : Nat} : ∀ {P : List Pu} {L : List Ro}, smlR L → smlP P → smlR (seqR ver L P).1 ∧ (seqR ver L P).1.length ≤ max L.length 32
  | [], L, h, _ => ⟨h, Nat.le_max_left _ _⟩
  | p :: r, L, h, hp => by
    have h1 := doR_small (p := p) (ver := ver) h (hp p (by simp))
    have h2 := doR_len32 L p ver
    have ih := seqR_smlU (ver := ver) (P := r) (L := (doR L p ver).1) h1 (fun q hq => hp q (by simp [hq]))
    unfold seqR
    split
    · exact ⟨ih.1, by have := ih.2; omega⟩
    · exact ⟨fun x hx => by simp at hx, by simp⟩
theorem allR_smlU {P : List Pu} {L : List Ro} {ver : Nat} (h : smlR L) (hp : smlP P) : smlR (allR L P ver).1 ∧ (allR L P ver).1.length ≤ max L.length 32 := by
  have h1 : smlP (P.filter fun p => p.gone) := fun p hm => hp p (List.mem_filter.1 hm).1
  have h2 : smlP (P.filter fun p => !p.gone) := fun p hm => hp p (List.mem_filter.1 hm).1
  have s1 := seqR_smlU (ver := ver) h h1
  unfold allR
  split
  · exact ⟨fun x hx => by simp at hx, by simp⟩
  split
  · have s2 := seqR_smlU (ver := ver) s1.1 h2
    exact ⟨s2.1, by have := s1.2; have := s2.2; omega⟩
  · exact ⟨fun x hx => by simp at hx, by simp⟩
/-- A shard as it came in: all of it small. -/
structure SzU (s : Sh) : Prop where
  z : SzS s
  rlen : s.rows.length ≤ 1048576
  hlen : s.holds.length ≤ 1048576
  olen : s.opn.length ≤ 1048576
  dlen : s.done.length ≤ 1048576
  keys : (allK s []).length ≤ 2097152
theorem opnK_filter (p : Sop → Bool) : ∀ O : List Sop, (opnK (O.filter p)).length ≤ (opnK O).length
  | [] => Nat.le_refl _
  | x :: r => by
    have ih := opnK_filter p r
    have e : opnK (x :: r) = (if x.fm then putK x.puts else []) ++ opnK r := rfl
    rw [List.filter_cons]
    split
    · rw [show opnK (x :: r.filter p) = (if x.fm then putK x.puts else []) ++ opnK (r.filter p) from rfl, e, List.length_append, List.length_append]; omega
    · rw [e, List.length_append]; omega
theorem opnK_wnd (out : List Tx) : ∀ O : List Sop, (opnK (wndS out O)).length = (opnK O).length
  | [] => rfl
  | x :: r => by
    have ih := opnK_wnd out r
    rw [show opnK (wndS out (x :: r)) = (if x.fm then putK x.puts else []) ++ opnK (wndS out r) from rfl, show opnK (x :: r) = (if x.fm then putK x.puts else []) ++ opnK r from rfl, List.length_append, List.length_append, ih]
theorem opnK_prp (t : Tx) (P : List Pu) : ∀ O : List Sop, (opnK (prpS t P O)).length ≤ (opnK O).length + (putK P).length
  | [] => by simp [prpS, opnK]
  | x :: r => by
    have ih := opnK_prp t P r
    have e : opnK (x :: r) = (if x.fm then putK x.puts else []) ++ opnK r := rfl
    rw [prpS]
    split
    · rw [show opnK (⟨x.t, true, x.wd, P⟩ :: r) = putK P ++ opnK r from rfl, e, List.length_append, List.length_append]; omega
    · rw [show opnK (x :: prpS t P r) = (if x.fm then putK x.puts else []) ++ opnK (prpS t P r) from rfl, e, List.length_append, List.length_append]; omega
theorem prp_lenU (t : Tx) (P : List Pu) : ∀ O : List Sop, (prpS t P O).length = O.length
  | [] => rfl
  | x :: r => by rw [prpS]; split <;> simp [prp_lenU t P r]
theorem prp_memU {t : Tx} {P : List Pu} : ∀ {O : List Sop} {x : Sop}, x ∈ prpS t P O → x ∈ O ∨ ∃ y ∈ O, x = ⟨y.t, true, y.wd, P⟩
  | [], x, h => by simp [prpS] at h
  | y :: r, x, h => by
    rw [prpS] at h
    split at h
    · rcases List.mem_cons.1 h with e | e
      · exact .inr ⟨y, by simp, e⟩
      · exact .inl (by simp [e])
    · rcases List.mem_cons.1 h with e | e
      · exact .inl (by simp [e])
      · rcases prp_memU e with h1 | ⟨z, h1, h2⟩
        · exact .inl (by simp [h1])
        · exact .inr ⟨z, by simp [h1], h2⟩
theorem allK_len (s : Sh) : (allK s []).length = s.rows.length + (opnK s.opn).length := by
  simp [allK, putK]
theorem rel_szU {s : Sh} (h : SzU s) (o : Odr) (ho : okX o.t) {R : List Ro} {v : Nat} (hR : R.length ≤ 2097152) (hRs : smlR R) (hv : v < 18446744073709551616) : SzS (relS R v s o) := by
  have h1 := List.length_filter_le (fun x : Sop => !decide (x.t = o.t)) s.opn
  have h2 := opnK_filter (fun x : Sop => !decide (x.t = o.t)) s.opn
  have h3 := h.keys
  rw [allK_len] at h3
  have h4 := dropH_len o.t s.holds
  have a1 := h.olen
  have a2 := h.hlen
  have a3 := h.dlen
  refine ⟨?_, hRs, ?_, fun x hx => h.z.hold x (List.mem_filter.1 hx).1, ?_, fun x hx => h.z.opn x (List.mem_filter.1 hx).1, ?_, fun x hx => ?_, hv, ?_⟩
  · simp only [relS]; omega
  · simp only [relS]; omega
  · simp only [relS]; omega
  · simp only [relS, List.length_append, List.length_singleton]; omega
  · rcases List.mem_append.1 hx with e | e
    · exact h.z.done x e
    · obtain rfl : x = ⟨o.t, o.cm⟩ := by simpa using e
      exact ho
  · rw [allK_len]; simp only [relS]; omega
theorem do_szU {s : Sh} (h : SzU s) (o : Odr) (zo : SzO o) (hp : o.puts.length ≤ 1048576) : SzS (doS s o).1 := by
  have hk := h.keys
  rw [allK_len] at hk
  have a0 := h.rlen
  have a1 := h.olen
  have a2 := h.hlen
  have a3 := h.dlen
  unfold doS
  split
  · unfold asksS
    split
    · exact h.z
    split
    · exact h.z
    split
    · exact h.z
    split
    · exact h.z
    split
    · exact h.z
    split
    · exact h.z
    have h1 := ask_len s.holds o.t o.key (decide (o.kind = 2)) (firmS s.opn)
    have h2 := opnK_wnd (askH s.holds o.t o.key (decide (o.kind = 2)) (firmS s.opn)).2.1 s.opn
    have h3 : (wndS (askH s.holds o.t o.key (decide (o.kind = 2)) (firmS s.opn)).2.1 s.opn).length = s.opn.length := by unfold wndS; rw [List.length_map]
    have h5 : ∀ b : Bool, (if b = true then [(⟨o.t, false, false, []⟩ : Sop)] else []).length ≤ 1 := fun b => by cases b <;> simp
    have h6 : ∀ b : Bool, (opnK (if b = true then [(⟨o.t, false, false, []⟩ : Sop)] else [])).length = 0 := fun b => by cases b <;> rfl
    have h7 := h5 (knoS o.t s.opn).isNone
    have h8 := h6 (knoS o.t s.opn).isNone
    refine ⟨h.z.rlen, h.z.rows, ?_, ask_smallS h.z.hold zo.ok, ?_, fun x hx => ?_, h.z.dlen, h.z.done, h.z.ver, ?_⟩
    · simp only; omega
    · simp only [List.length_append]; omega
    · rcases List.mem_append.1 hx with e | e
      · obtain ⟨y, hy, rfl⟩ := List.mem_map.1 e
        exact h.z.opn y hy
      · split at e
        · obtain rfl : x = ⟨o.t, false, false, []⟩ := by simpa using e
          exact ⟨zo.ok.2, by simp, fun p hp => by simp at hp⟩
        · simp at e
    · rw [allK_len]
      have h9 : ∀ X Y : List Sop, (opnK (X ++ Y)).length = (opnK X).length + (opnK Y).length := fun X Y => by simp [opnK]
      simp only [h9]; omega
  split
  · unfold prepS
    split
    · exact h.z
    split
    · exact h.z
    split
    · exact h.z
    split
    · split
      · exact h.z
      · exact h.z
    split
    · exact h.z
    split
    · exact h.z
    split
    · exact h.z
    have h1 := prp_lenU o.t o.puts s.opn
    have h2 := opnK_prp o.t o.puts s.opn
    have h3 : (putK o.puts).length ≤ o.puts.length := by unfold putK; rw [List.length_map]; exact List.length_filter_le _ _
    refine ⟨h.z.rlen, h.z.rows, h.z.hlen, h.z.hold, ?_, fun x hx => ?_, h.z.dlen, h.z.done, h.z.ver, ?_⟩
    · simp only [h1]; omega
    · rcases prp_memU hx with e | ⟨y, hy, rfl⟩
      · exact h.z.opn x e
      · exact ⟨(h.z.opn y hy).1, zo.plen, zo.puts⟩
    · rw [allK_len]; simp only; omega
  split
  · unfold finS
    split
    · exact h.z
    split
    · split
      · exact h.z
      split
      · exact h.z
      · exact rel_szU h o zo.ok.2 (by omega) h.z.rows h.z.ver
    rename_i x hx
    have hxm := h.z.opn x (kno_mem hx)
    split
    · exact h.z
    split
    · split
      · exact h.z
      · exact rel_szU h o zo.ok.2 (by have := (allR_smlU (ver := (s.ver + 1) % 18446744073709551616) h.z.rows hxm.2.2).2; omega) (allR_smlU h.z.rows hxm.2.2).1 (Nat.mod_lt _ (by decide))
    · exact rel_szU h o zo.ok.2 (by omega) h.z.rows h.z.ver
  · exact h.z
end Go.Proofs.Ythgnecggdlamfaa
/- The law ShardDoes. -/
namespace Go.Proofs.Ythgnecggdlamfaa
open Go.RowKit

/-- A shard and an answer in two new boxes, one behind the other. -/
theorem two_new (w : World) (s : Sh) (A : Sad) (n : Ans) : ∀ U, (w.alloc (.cells #[.slice A.ra s.rows.length A.rc, .slice A.ha s.holds.length A.hc, .slice A.oa s.opn.length A.oc, .slice A.da s.done.length A.dc, .int .u64 (s.ver : Nat)] 28)).alloc (.cells #[.int .i64 (n.err : Nat), .string n.val, .int .u64 (n.ver : Nat), .bool n.found, .bool n.cm] 38) = U →
    Below w.heap.size w U ∧ ShB U w.heap.size s A ∧ AnB U (w.heap.size + 1) n := fun U hU => by
  rw [← hU]
  exact ⟨by go_grown, ⟨by simp; omega, by simp [go_sem], by simp [go_sem], by simp [go_sem], by simp [go_sem], by simp [go_sem]⟩, ⟨by simp, by simp [go_sem], by simp [go_sem], by simp [go_sem], by simp [go_sem], by simp [go_sem]⟩⟩
set_option maxRecDepth 100000 in
set_option maxHeartbeats 4000000 in
theorem law_ShardDoes {TT : World → Prop} (P : PShard TT) (s : Sh) (A : Sad) (o : Odr) (a : Option Addr) (c : Nat) (q : Option Addr) (qn qc : Nat) (w : World) (hM : ShM w s A) (zs : SzU s) (zo : SzO o) (hcp : o.puts.length ≤ c ∧ c ≤ maxLen) (hp : o.puts.length ≤ 1048576) (hP : Pus w a o.puts) (hT : TT w) :
    Calls Try.prog 3 #[shV s A, odrV o a c (.slice q qn qc)] w fun e w' => e = .returned (.bool true) ∧ Below w.heap.size w w' := by
  have HS := Lib.hid (fun w' (hb : Below w.heap.size w w') => shown_any P w' (P.below hT hb))
  have HD := Lib.hid (fun w' (hb : Below w.heap.size w w') => P.doo s A o a c q qn qc w' (P.below hT hb) (hM.later hb) zs.z zo hcp.1 hcp.2 (hP.later hb))
  have HRD := Lib.hid (fun w' (hb : Below w.heap.size w w') => rDo_all s A o a c q qn qc w' (hM.later hb) zs.z zo hcp (hP.later hb))
  have hz2 := do_szU zs o zo hp
  obtain ⟨u, hu⟩ : ∃ u, Value.slice q qn qc = u := ⟨_, rfl⟩
  rw [hu] at HD HRD ⊢
  obtain ⟨r, hr⟩ : ∃ r, doS s o = r := ⟨_, rfl⟩
  rw [hr] at HD HRD hz2
  obtain ⟨W, hW⟩ : ∃ W, (w.alloc (.cells #[.slice A.ra s.rows.length A.rc, .slice A.ha s.holds.length A.hc, .slice A.oa s.opn.length A.oc, .slice A.da s.done.length A.dc, .int .u64 (s.ver : Nat)] 28)).alloc (.cells #[.int .i64 o.kind, .int .u64 (o.t.age : Nat), .int .u64 (o.t.id : Nat), .string o.key, .slice a o.puts.length c, .bool o.cm, u] 34) = W := ⟨_, rfl⟩
  obtain ⟨x2, hx2⟩ : ∃ x, w.heap.size = x := ⟨_, rfl⟩
  have hBX : Below w.heap.size w W ∧ ShB W x2 s A ∧ OB W (x2 + 1) o a c u := by
    rw [← hW, ← hx2]
    exact ⟨by go_grown, ⟨by simp; omega, by simp [go_sem], by simp [go_sem], by simp [go_sem], by simp [go_sem], by simp [go_sem]⟩, ⟨by simp, by simp [go_sem], by simp [go_sem], by simp [go_sem], by simp [go_sem], by simp [go_sem], by simp [go_sem], by simp [go_sem]⟩⟩
  have HBX := Lib.hid hBX
  have HW := Lib.hid hW
  have HX2 := Lib.hid hx2
  have HZ2 := Lib.hid hz2
  obtain ⟨rs, rn⟩ := r
  simp only at HD HRD HZ2
  clear hr hu hM zs zo hcp hp hP hT P hW hx2 hBX hz2
  go_enter Try.func3, Try.ntmps3
  go_wp2_with fail
  rw [HW.out, HX2.out]
  refine (HS.out W HBX.out.1).mono ?_
  rintro e w1 ⟨rfl, hb1⟩
  have HB1 := Lib.hid (HBX.out.1.trans (hb1.mono HBX.out.1.size))
  have h1 := HBX.out.2.1.later hb1
  have h2 := HBX.out.2.2.later hb1
  have H1 := Lib.hid h1
  have H2 := Lib.hid h2
  obtain ⟨_, c0, c1, c2, c3, c4⟩ := h1
  obtain ⟨_, q0, q1, q2, q3, q4, q5, q6⟩ := h2
  clear hb1
  go_wp2_with fail
  clear c0 c1 c2 c3 c4 q0 q1 q2 q3 q4 q5 q6
  refine (HD.out w1 HB1.out).mono ?_
  rintro e w2 ⟨A2, rfl, hM2, hb2⟩
  have HM2 := Lib.hid hM2
  have HB2 := Lib.hid (HB1.out.trans (hb2.mono HB1.out.size))
  have H12 := Lib.hid (H1.out.later hb2)
  have H22 := Lib.hid (H2.out.later hb2)
  have HTN := Lib.hid (two_new w2 rs A2 rn)
  obtain ⟨x6, hx6⟩ : ∃ x, w2.heap.size = x := ⟨_, rfl⟩
  rw [hx6] at HTN
  have HX6 := Lib.hid hx6
  clear hM2 hb2 hx6
  go_upto_region 3 with (fail)
  obtain ⟨U, hU⟩ : ∃ U, (w2.alloc (.cells #[.slice A2.ra rs.rows.length A2.rc, .slice A2.ha rs.holds.length A2.hc, .slice A2.oa rs.opn.length A2.oc, .slice A2.da rs.done.length A2.dc, .int .u64 (rs.ver : Nat)] 28)).alloc (.cells #[.int .i64 (rn.err : Nat), .string rn.val, .int .u64 (rn.ver : Nat), .bool rn.found, .bool rn.cm] 38) = U := ⟨_, rfl⟩
  obtain ⟨hbU, hsU, haU⟩ := HTN.out U hU
  have HU := Lib.hid hU
  have HBU := Lib.hid (HB2.out.trans ((show Below w2.heap.size w2 U by rw [HX6.out]; exact hbU).mono HB2.out.size))
  have hbU' : Below w2.heap.size w2 U := by rw [HX6.out]; exact hbU
  have HMU := Lib.hid (HM2.out.later hbU')
  have HSU := Lib.hid hsU
  have HAU := Lib.hid haU
  obtain ⟨_, c0, c1, c2, c3, c4⟩ := H12.out.later hbU'
  obtain ⟨_, q0, q1, q2, q3, q4, q5, q6⟩ := H22.out.later hbU'
  rw [hU, HX6.out]
  clear hU hbU hsU haU hbU'
  go_wp2_with fail
  clear c0 c1 c2 c3 c4 q0 q1 q2 q3 q4 q5 q6
  refine (HRD.out U HBU.out).mono ?_
  rintro e w4 ⟨A4, rfl, hM4, hb4⟩
  have HM4 := Lib.hid hM4
  have HB4 := Lib.hid (HBU.out.trans (hb4.mono HBU.out.size))
  have HS4 := Lib.hid (HSU.out.later hb4)
  have HA4 := Lib.hid (HAU.out.later hb4)
  have HM24 := Lib.hid (HMU.out.later hb4)
  have HTN4 := Lib.hid (two_new w4 rs A4 rn)
  obtain ⟨x8, hx8⟩ : ∃ x, w4.heap.size = x := ⟨_, rfl⟩
  rw [hx8] at HTN4
  have HX8 := Lib.hid hx8
  clear hM4 hb4 hx8
  go_upto_region 4 with (fail)
  obtain ⟨V, hV⟩ : ∃ U, (w4.alloc (.cells #[.slice A4.ra rs.rows.length A4.rc, .slice A4.ha rs.holds.length A4.hc, .slice A4.oa rs.opn.length A4.oc, .slice A4.da rs.done.length A4.dc, .int .u64 (rs.ver : Nat)] 28)).alloc (.cells #[.int .i64 (rn.err : Nat), .string rn.val, .int .u64 (rn.ver : Nat), .bool rn.found, .bool rn.cm] 38) = U := ⟨_, rfl⟩
  obtain ⟨hbV, hsV, haV⟩ := HTN4.out V hV
  have hbV' : Below w4.heap.size w4 V := by rw [HX8.out]; exact hbV
  have HBV := Lib.hid (HB4.out.trans (hbV'.mono HB4.out.size))
  have HSM := Lib.hid (rSameS_any rs A2 rs A4 V (HM24.out.later hbV') HZ2.out (HM4.out.later hbV') HZ2.out)
  rw [samS_refl] at HSM
  have HAV := Lib.hid (HA4.out.later hbV')
  have HAW := Lib.hid haV
  obtain ⟨_, c0, c1, c2, c3, c4⟩ := HS4.out.later hbV'
  obtain ⟨_, d0, d1, d2, d3, d4⟩ := hsV
  rw [hV, HX8.out]
  clear hV hbV hbV' haV
  go_wp2_with fail
  clear c0 c1 c2 c3 c4 d0 d1 d2 d3 d4
  refine HSM.out.mono ?_
  rintro e w6 ⟨rfl, hb6⟩
  have HB6 := Lib.hid (HBV.out.trans (hb6.mono HBV.out.size))
  obtain ⟨_, c0, c1, c2, c3, c4⟩ := HAV.out.later hb6
  obtain ⟨_, d0, d1, d2, d3, d4⟩ := HAW.out.later hb6
  clear hb6
  go_wp2_with fail
  go_ret
  exact ⟨by first | rfl | simp, HB6.out⟩
end Go.Proofs.Ythgnecggdlamfaa
/- Arguments that are shards, of bounded bulk: what their reading gives. -/
namespace Go.Proofs.Ythgnecggdlamfaa
open Go.ChangeShapes Go.WideShapes Go.ChangeAt Go.RowKit Go.Deep Go.Joins

theorem cellsStr : Try.prog.cellsOf 9 = 1 := by kernel_rfl
theorem cellsU64 : Try.prog.cellsOf 26 = 1 := by kernel_rfl
theorem cellsBoo : Try.prog.cellsOf 4 = 1 := by kernel_rfl
theorem cellsTx : Try.prog.cellsOf 30 = 2 := by kernel_rfl
theorem cellsPut : Try.prog.cellsOf 54 = 3 := by kernel_rfl
theorem cellsRow : Try.prog.cellsOf 50 = 3 := by kernel_rfl
theorem cellsHold : Try.prog.cellsOf 75 = 4 := by kernel_rfl
theorem cellsOpen : Try.prog.cellsOf 48 = 5 := by kernel_rfl
theorem cellsDone : Try.prog.cellsOf 68 = 3 := by kernel_rfl
theorem cellsShard : Try.prog.cellsOf 28 = 5 := by kernel_rfl
theorem cellsPus : Try.prog.cellsOf 31 = 1 := by kernel_rfl
theorem cellsRos : Try.prog.cellsOf 22 = 1 := by kernel_rfl
theorem cellsHos : Try.prog.cellsOf 23 = 1 := by kernel_rfl
theorem cellsOps : Try.prog.cellsOf 24 = 1 := by kernel_rfl
theorem cellsDns : Try.prog.cellsOf 25 = 1 := by kernel_rfl
theorem bulk_le {H : Type} {l : List (DataW H)} (hk : Rows.uptoSmall H l = true) : Rows.uptoBulkAll l ≤ 1048576 := of_decide_eq_true hk
theorem bulk_one {H : Type} (x : DataW H) : 1 ≤ Rows.uptoBulk x := by
  cases x with
  | lit l => cases l <;> simp [Rows.uptoBulk]
  | _ => simp [Rows.uptoBulk]
theorem bulkAll_sum {H : Type} {g : Nat → Nat} {D : Nat → DataW H} : ∀ l : List Nat, (∀ i ∈ l, g i ≤ Rows.uptoBulk (D i)) → (l.map g).sum ≤ Rows.uptoBulkAll (l.map D) ∧ l.length ≤ Rows.uptoBulkAll (l.map D)
  | [], _ => ⟨Nat.le_refl _, Nat.zero_le _⟩
  | i :: r, h => by
    obtain ⟨h1, h2⟩ := bulkAll_sum (g := g) (D := D) r fun j hj => h j (by simp [hj])
    have h3 := h i (by simp)
    have h4 := bulk_one (D i)
    simp only [List.map_cons, List.sum_cons, Rows.uptoBulkAll, List.length_cons]
    exact ⟨by omega, by omega⟩
theorem bulkAll_mem {H : Type} {d : DataW H} : ∀ {l : List (DataW H)}, d ∈ l → Rows.uptoBulk d ≤ Rows.uptoBulkAll l
  | x :: r, h => by
    rw [Rows.uptoBulkAll]
    rcases List.mem_cons.1 h with rfl | h
    · omega
    · have := bulkAll_mem h
      omega
set_option maxRecDepth 100000 in
/-- A slice's elements, each by its own reading; what they measure together. -/
theorem rowB_of {H α : Type} {enc : TypeId × Value → H} {W : World} {fuel : Nat} {T E : TypeId} {k : Nat} (dflt : α) (f : α → List Value) (Q : α → Prop) (g : α → Nat)
    (hT : Try.prog.underlying T = some (.slice E)) (hk : Try.prog.cellsOf E = k) (hk0 : 0 < k)
    (hel : ∀ fu cs y, cs.length = k → DataW.trod enc Try.prog W 0 (fun _ => true) true fu E cs = some y → (∀ x ∈ y.2, x.block < W.heap.size) → Rows.uptoBulk y.1 ≤ 1048576 → ∃ x, cs = f x ∧ Q x ∧ g x ≤ Rows.uptoBulk y.1)
    {c : Value} {y : DataW H × List MemPlace}
    (hf : DataW.trod enc Try.prog W 0 (fun _ => true) true fuel T [c] = some y) (hlt : ∀ x ∈ y.2, x.block < W.heap.size) (hb : Rows.uptoBulk y.1 ≤ 1048576) :
    ∃ a n cap L, c = .slice a n cap ∧ L.length = n ∧ (n ≤ cap ∧ cap ≤ maxLen) ∧ Rw k f W a L ∧ (∀ x ∈ L, Q x) ∧ (L.map g).sum ≤ Rows.uptoBulk y.1 ∧ n ≤ 1048576 := by
  obtain ⟨d, p⟩ := y
  rcases open_slice hT hf with ⟨hcs, hx⟩ | ⟨a', len, cap', m, n, D, Pl, hcs, _, hl, hm, hmm, hx, hi⟩
  · simp at hcs
    subst hcs
    exact ⟨none, 0, 0, [], rfl, rfl, ⟨Nat.le_refl _, by decide⟩, fun j x hx => by simp at hx, fun x hx => by simp at hx, Nat.zero_le _, by omega⟩
  · simp at hcs
    subst hcs
    simp only [Prod.mk.injEq] at hx
    obtain ⟨rfl, rfl⟩ := hx
    simp only [if_true] at hmm
    subst hmm
    simp only at hlt hb ⊢
    have hbk : Rows.uptoBulkAll ((List.range len).map D) ≤ 1048576 := by
      rw [Rows.uptoBulk] at hb; omega
    obtain ⟨b, off, spot⟩ := a'
    have hspot : 0 < len → spot = none := by
      intro h0
      obtain ⟨cs', hc, _⟩ := hi 0 (by omega)
      obtain ⟨_, hcl, hat⟩ := World.cells?_some hc
      rw [hk] at hcl hat
      have s0 := hat 0 hk0
      rw [List.getElem?_eq_getElem (by omega : 0 < cs'.length)] at s0
      simpa [Addr.add] using World.cell?_spot s0
    have hone : ∀ i, ∃ x : α, i < len → spot = none ∧ b < W.heap.size ∧ (∀ j u, (f x)[j]? = some u → W.cell? ⟨b, off + i * k + j, none⟩ = some u) ∧ Q x ∧ g x ≤ Rows.uptoBulk (D i) := by
      intro i
      by_cases hil : i < len
      · obtain ⟨cs', hc, ht⟩ := hi i (by omega)
        rw [hk] at hc
        obtain ⟨_, hcl, hat⟩ := World.cells?_some hc
        obtain rfl := hspot (by omega)
        obtain ⟨x, rfl, hx, hg⟩ := hel _ cs' _ hcl ht (fun q hq => hlt q (List.mem_append.2 (.inr (List.mem_flatMap.2 ⟨i, List.mem_range.2 (by omega), hq⟩)))) (Nat.le_trans (bulkAll_mem (List.mem_map.2 ⟨i, List.mem_range.2 hil, rfl⟩)) hbk)
        refine ⟨x, fun _ => ⟨rfl, ?_, fun j u hj => ?_, hx, hg⟩⟩
        · exact hlt (.cell b off) (List.mem_append.2 (.inl (MemPlace.mem_row.2 ⟨0, by rw [hk]; exact Nat.mul_pos (by omega) hk0, by simp⟩)))
        · have hjl := (List.getElem?_eq_some_iff.1 hj).1
          have s0 := hat j (by omega)
          rw [add_plain, add_plain, hj] at s0
          exact s0
      · exact ⟨dflt, fun h => absurd h hil⟩
    have hget : ∀ i x, ((List.range len).map fun i => Classical.choose (hone i))[i]? = some x → i < len ∧ x = Classical.choose (hone i) := fun i x hx => by
      have hil : i < len := by have := (List.getElem?_eq_some_iff.1 hx).1; simpa using this
      rw [List.getElem?_map, List.getElem?_range hil] at hx
      exact ⟨hil, (Option.some.inj hx).symm⟩
    have hsum := bulkAll_sum (g := fun i => g (Classical.choose (hone i))) (D := D) (List.range len) (fun i hi2 => (Classical.choose_spec (hone i) (List.mem_range.1 hi2)).2.2.2.2)
    rw [List.length_range] at hsum
    refine ⟨_, len, m, (List.range len).map fun i => Classical.choose (hone i), rfl, by simp, ⟨hl, hm⟩, fun i x hx => ?_, fun x hx => ?_, ?_, by omega⟩
    · obtain ⟨hil, rfl⟩ := hget i x hx
      obtain ⟨g3, g4, g6, _⟩ := Classical.choose_spec (hone i) hil
      exact ⟨b, off, by rw [g3], g4, g6⟩
    · obtain ⟨i, hi2⟩ := List.mem_iff_getElem?.1 hx
      obtain ⟨hil, rfl⟩ := hget i x hi2
      exact (Classical.choose_spec (hone i) hil).2.2.2.1
    · rw [List.map_map]
      simp only [Rows.uptoBulk]
      exact Nat.le_trans hsum.1 (by omega)
section
variable {H : Type} {enc : TypeId × Value → H} {W : World} {fuel : Nat} {cs : List Value} {y : DataW H × List MemPlace}
theorem open_sb {t : TypeId} {fs : Array Field} (ht : Try.prog.underlying t = some (.struct fs)) (h : DataW.trod enc Try.prog W 0 (fun _ => true) true fuel t cs = some y) (hlt : ∀ q ∈ y.2, q.block < W.heap.size) :
    ∃ n, ∀ (i : Nat) (f : Field), fs[i]? = some f → ∃ z, DataW.trod enc Try.prog W 0 (fun _ => true) true n f.type ((cs.drop f.offset).take (Try.prog.cellsOf f.type)) = some z ∧ (∀ q ∈ z.2, q.block < W.heap.size) ∧ Rows.uptoBulk z.1 ≤ Rows.uptoBulk y.1 := by
  obtain ⟨xs, n, _, rfl, _, hlen, hf⟩ := DataW.trod_struct ht h
  refine ⟨n, fun i f hi => ?_⟩
  have hl := (Array.getElem?_eq_some_iff.1 hi).1
  have hz : xs[i]? = some (xs[i]'(by omega)) := List.getElem?_eq_getElem _
  refine ⟨_, (hf i f hi).trans hz, fun q hq => hlt q (List.mem_flatMap.2 ⟨_, List.getElem_mem _, hq⟩), ?_⟩
  simp only [Rows.uptoBulk]
  have := bulkAll_mem (d := (xs[i]'(by omega)).1) (l := xs.map fun z => z.1) (List.mem_map.2 ⟨_, List.getElem_mem _, rfl⟩)
  omega
end
theorem sb_str {H : Type} {s : ByteArray} {b : Nat} (h : Rows.uptoBulk (H := H) (.lit (.string s.data.toList)) ≤ b) (hb : b ≤ 1048576) : s.size ≤ 140737488351232 := by
  rw [Rows.uptoBulk, Array.length_toList] at h
  have : s.size = s.data.size := rfl
  omega
section
variable {H : Type} {enc : TypeId × Value → H} {W : World} {f : Nat} {cs : List Value} {y : DataW H × List MemPlace}
set_option maxRecDepth 100000 in
theorem txReadB (hsz : cs.length = 2)
    (ht : DataW.trod enc Try.prog W 0 (fun _ => true) true f 30 cs = some y) : ∃ x : Tx, cs = txC x ∧ okX x := by
  obtain ⟨z0, z1, n', hz, _, u0, u1⟩ := trod_struct2 Try.underlying30 ht
  match cs, hsz with
  | [c0, c1], _ =>
    obtain ⟨z, e0, _, w0⟩ := DataW.trod_int Try.underlying26 u0
    obtain ⟨z', e1, _, w1⟩ := DataW.trod_int Try.underlying26 u1
    simp only [cellsU64] at e0 e1
    simp at e0 e1
    subst e0 e1
    obtain ⟨a, rfl, ha⟩ := u64_nat w0
    obtain ⟨i, rfl, hi⟩ := u64_nat w1
    exact ⟨⟨a, i⟩, rfl, ha, hi⟩
set_option maxRecDepth 100000 in
set_option maxHeartbeats 1000000 in
theorem puReadB (hsz : cs.length = 3)
    (ht : DataW.trod enc Try.prog W 0 (fun _ => true) true f 54 cs = some y) (hlt : ∀ q ∈ y.2, q.block < W.heap.size) (hb : Rows.uptoBulk y.1 ≤ 1048576) : ∃ x : Pu, cs = puC x ∧ (x.key.size ≤ 140737488351232 ∧ x.val.size ≤ 140737488351232) ∧ 0 ≤ Rows.uptoBulk y.1 := by
  obtain ⟨n, h⟩ := open_sb Try.underlying54 ht hlt
  obtain ⟨z0, u0, _, s0⟩ := h 0 _ rfl
  obtain ⟨z1, u1, _, s1⟩ := h 1 _ rfl
  obtain ⟨z2, u2, _, _⟩ := h 2 _ rfl
  match cs, hsz with
  | [c0, c1, c2], _ =>
    simp only [List.getElem_toArray, List.getElem_cons_zero, List.getElem_cons_succ, cellsStr, cellsBoo] at u0 u1 u2
    obtain ⟨k, e0, h0, _⟩ := DataW.trod_string Try.underlying9 u0
    obtain ⟨v, e1, h1, _⟩ := DataW.trod_string Try.underlying9 u1
    obtain ⟨g, e2, h2⟩ := DataW.trod_bool Try.underlying4 u2
    simp at e0 e1 e2
    subst e0 e1 e2
    rw [h0] at s0
    rw [h1] at s1
    exact ⟨⟨k, v, g⟩, rfl, ⟨sb_str s0 hb, sb_str s1 hb⟩, Nat.zero_le _⟩
set_option maxRecDepth 100000 in
set_option maxHeartbeats 1000000 in
theorem roReadB (hsz : cs.length = 3)
    (ht : DataW.trod enc Try.prog W 0 (fun _ => true) true f 50 cs = some y) (hlt : ∀ q ∈ y.2, q.block < W.heap.size) (hb : Rows.uptoBulk y.1 ≤ 1048576) : ∃ x : Ro, cs = roC x ∧ (x.key.size ≤ 140737488351232 ∧ x.val.size ≤ 140737488351232) ∧ 0 ≤ Rows.uptoBulk y.1 := by
  obtain ⟨n, h⟩ := open_sb Try.underlying50 ht hlt
  obtain ⟨z0, u0, _, s0⟩ := h 0 _ rfl
  obtain ⟨z1, u1, _, s1⟩ := h 1 _ rfl
  obtain ⟨z2, u2, _, _⟩ := h 2 _ rfl
  match cs, hsz with
  | [c0, c1, c2], _ =>
    simp only [List.getElem_toArray, List.getElem_cons_zero, List.getElem_cons_succ, cellsStr, cellsU64] at u0 u1 u2
    obtain ⟨k, e0, h0, _⟩ := DataW.trod_string Try.underlying9 u0
    obtain ⟨v, e1, h1, _⟩ := DataW.trod_string Try.underlying9 u1
    obtain ⟨g, e2, _, w2⟩ := DataW.trod_int Try.underlying26 u2
    simp at e0 e1 e2
    subst e0 e1 e2
    rw [h0] at s0
    rw [h1] at s1
    obtain ⟨g, rfl, _⟩ := u64_nat w2
    exact ⟨⟨k, v, g⟩, rfl, ⟨sb_str s0 hb, sb_str s1 hb⟩, Nat.zero_le _⟩
set_option maxRecDepth 100000 in
set_option maxHeartbeats 1000000 in
theorem hoReadB (hsz : cs.length = 4)
    (ht : DataW.trod enc Try.prog W 0 (fun _ => true) true f 75 cs = some y) (hlt : ∀ q ∈ y.2, q.block < W.heap.size) (hb : Rows.uptoBulk y.1 ≤ 1048576) : ∃ x : Ho, cs = hoC x ∧ okA x.key x.t ∧ 0 ≤ Rows.uptoBulk y.1 := by
  obtain ⟨n, h⟩ := open_sb Try.underlying75 ht hlt
  obtain ⟨z0, u0, _, s0⟩ := h 0 _ rfl
  obtain ⟨z1, u1, _, _⟩ := h 1 _ rfl
  obtain ⟨z2, u2, _, _⟩ := h 2 _ rfl
  match cs, hsz with
  | [c0, c1, c2, c3], _ =>
    simp only [List.getElem_toArray, List.getElem_cons_zero, List.getElem_cons_succ, cellsStr, cellsTx, cellsBoo] at u0 u1 u2
    obtain ⟨k, e0, h0, _⟩ := DataW.trod_string Try.underlying9 u0
    have u1' : DataW.trod enc Try.prog W 0 (fun _ => true) true n 30 [c1, c2] = some z1 := by simpa using u1
    obtain ⟨t, ht1, hto⟩ := txReadB rfl u1'
    obtain ⟨g, e2, h2⟩ := DataW.trod_bool Try.underlying4 u2
    simp at e0 e2
    simp only [txC, List.cons.injEq, and_true] at ht1
    obtain ⟨rfl, rfl⟩ := ht1
    subst e0 e2
    rw [h0] at s0
    exact ⟨⟨k, t, g⟩, rfl, ⟨sb_str s0 hb, hto⟩, Nat.zero_le _⟩
set_option maxRecDepth 100000 in
set_option maxHeartbeats 1000000 in
theorem dnReadB (hsz : cs.length = 3)
    (ht : DataW.trod enc Try.prog W 0 (fun _ => true) true f 68 cs = some y) (hlt : ∀ q ∈ y.2, q.block < W.heap.size) (_ : Rows.uptoBulk y.1 ≤ 1048576) : ∃ x : Sdn, cs = sdnC x ∧ okX x.t ∧ 0 ≤ Rows.uptoBulk y.1 := by
  obtain ⟨n, h⟩ := open_sb Try.underlying68 ht hlt
  obtain ⟨z1, u1, _, _⟩ := h 0 _ rfl
  obtain ⟨z2, u2, _, _⟩ := h 1 _ rfl
  match cs, hsz with
  | [c1, c2, c3], _ =>
    simp only [List.getElem_toArray, List.getElem_cons_zero, List.getElem_cons_succ, cellsTx, cellsBoo] at u1 u2
    have u1' : DataW.trod enc Try.prog W 0 (fun _ => true) true n 30 [c1, c2] = some z1 := by simpa using u1
    obtain ⟨t, ht1, hto⟩ := txReadB rfl u1'
    obtain ⟨g, e2, h2⟩ := DataW.trod_bool Try.underlying4 u2
    simp at e2
    simp only [txC, List.cons.injEq, and_true] at ht1
    obtain ⟨rfl, rfl⟩ := ht1
    subst e2
    exact ⟨⟨t, g⟩, rfl, hto, Nat.zero_le _⟩
theorem sum_ones {α : Type} : ∀ P : List α, (P.map fun _ => 1).sum = P.length
  | [] => rfl
  | _ :: r => by simp only [List.map_cons, List.sum_cons, List.length_cons, sum_ones r]; omega
/-- What an open one is known for. -/
def SoQ (W : World) (y : SopM) : Prop := okX y.x.t ∧ y.x.puts.length ≤ 1048576 ∧ smlP y.x.puts ∧ Pus W y.a y.x.puts ∧ y.x.puts.length ≤ y.c ∧ y.c ≤ maxLen
set_option maxRecDepth 100000 in
set_option maxHeartbeats 2000000 in
theorem soReadB (hsz : cs.length = 5)
    (ht : DataW.trod enc Try.prog W 0 (fun _ => true) true f 48 cs = some y) (hlt : ∀ q ∈ y.2, q.block < W.heap.size) (hb : Rows.uptoBulk y.1 ≤ 1048576) : ∃ x : SopM, cs = sopC x ∧ SoQ W x ∧ x.x.puts.length ≤ Rows.uptoBulk y.1 := by
  obtain ⟨n, h⟩ := open_sb Try.underlying48 ht hlt
  obtain ⟨z1, u1, _, _⟩ := h 0 _ rfl
  obtain ⟨z2, u2, _, _⟩ := h 1 _ rfl
  obtain ⟨z3, u3, _, _⟩ := h 2 _ rfl
  obtain ⟨z4, u4, l4, s4⟩ := h 3 _ rfl
  match cs, hsz with
  | [c1, c2, c3, c4, c5], _ =>
    simp only [List.getElem_toArray, List.getElem_cons_zero, List.getElem_cons_succ, cellsTx, cellsBoo, cellsPus] at u1 u2 u3 u4
    have u1' : DataW.trod enc Try.prog W 0 (fun _ => true) true n 30 [c1, c2] = some z1 := by simpa using u1
    obtain ⟨t, ht1, hto⟩ := txReadB rfl u1'
    obtain ⟨g, e2, h2⟩ := DataW.trod_bool Try.underlying4 u2
    obtain ⟨g', e3, h3⟩ := DataW.trod_bool Try.underlying4 u3
    have u4' : DataW.trod enc Try.prog W 0 (fun _ => true) true n 31 [c5] = some z4 := by simpa using u4
    obtain ⟨a, m, cap, P, e5, hm, hc, hP, hQ, hs, hn⟩ := rowB_of (⟨⟨#[]⟩, ⟨#[]⟩, false⟩ : Pu) puC (fun x => x.key.size ≤ 140737488351232 ∧ x.val.size ≤ 140737488351232) (fun _ => 1) Try.underlying31 cellsPut (by decide) (fun f cs y hsz ht hl hb => by
      obtain ⟨x, h1, h2, _⟩ := puReadB hsz ht hl hb
      exact ⟨x, h1, h2, bulk_one _⟩) u4' l4 (by omega)
    simp at e2 e3
    simp only [txC, List.cons.injEq, and_true] at ht1
    obtain ⟨rfl, rfl⟩ := ht1
    subst e2 e3 e5 hm
    refine ⟨⟨⟨t, g, g', P⟩, a, cap⟩, rfl, ⟨hto, hn, hQ, hP, hc⟩, ?_⟩
    rw [sum_ones] at hs
    simp only
    omega
end
theorem opnK_sum : ∀ O : List Sop, (opnK O).length ≤ (O.map fun x => x.puts.length).sum
  | [] => Nat.le_refl _
  | x :: r => by
    have ih := opnK_sum r
    have h1 : (putK x.puts).length ≤ x.puts.length := by
      unfold putK; rw [List.length_map]; exact List.length_filter_le _ _
    rw [show opnK (x :: r) = (if x.fm then putK x.puts else []) ++ opnK r from rfl, List.length_append, List.map_cons, List.sum_cons]
    split
    · omega
    · rw [List.length_nil]; omega
set_option maxRecDepth 100000 in
set_option maxHeartbeats 4000000 in
theorem shArgU_of {H : Type} {enc : TypeId × Value → H} {W : World} {r : Reach} {b0 : Nat} {v : Value} {d : DataW H} {p : List MemPlace}
    (hv : Value.okWide Try.prog W r b0 28 v) (h : DataW.Trod enc Try.prog W 0 (fun _ => true) true 28 v d p) (hlt : ∀ x ∈ p, x.block < W.heap.size) (hb : Rows.uptoBulk d ≤ 1048576) :
    ∃ s A, v = shV s A ∧ ShM W s A ∧ SzS s ∧ s.rows.length ≤ 1048576 ∧ s.holds.length ≤ 1048576 ∧ s.opn.length ≤ 1048576 ∧ s.done.length ≤ 1048576 ∧ (allK s []).length ≤ 2097152 := by
  obtain ⟨cs, rfl, hsz⟩ := okWide_struct Try.underlying28 hv
  rw [cellsShard] at hsz
  obtain ⟨fuel, hf⟩ := h
  obtain ⟨n, h⟩ := open_sb Try.underlying28 hf hlt
  obtain ⟨z0, u0, l0, s0⟩ := h 0 _ rfl
  obtain ⟨z1, u1, l1, s1⟩ := h 1 _ rfl
  obtain ⟨z2, u2, l2, s2⟩ := h 2 _ rfl
  obtain ⟨z3, u3, l3, s3⟩ := h 3 _ rfl
  obtain ⟨z4, u4, _, _⟩ := h 4 _ rfl
  obtain ⟨l⟩ := cs
  match l, hsz with
  | [c0, c1, c2, c3, c4], _ =>
    simp only [List.getElem_toArray, List.getElem_cons_zero, List.getElem_cons_succ, cellsRos, cellsHos, cellsOps, cellsDns, cellsU64, Value.cells] at u0 u1 u2 u3 u4
    simp only at s0 s1 s2 s3
    obtain ⟨a0, n0, p0, L0, e0, m0, q0, r0, t0, _, b0⟩ := rowB_of (c := c0) (⟨⟨#[]⟩, ⟨#[]⟩, 0⟩ : Ro) roC (fun x => x.key.size ≤ 140737488351232 ∧ x.val.size ≤ 140737488351232) (fun _ => 0) Try.underlying22 cellsRow (by decide) (fun f cs y hsz ht hl hb => roReadB hsz ht hl hb) (by simpa using u0) l0 (by omega)
    obtain ⟨a1, n1, p1, L1, e1, m1, q1, r1, t1, _, b1⟩ := rowB_of (c := c1) (⟨⟨#[]⟩, ⟨0, 0⟩, false⟩ : Ho) hoC (fun x => okA x.key x.t) (fun _ => 0) Try.underlying23 cellsHold (by decide) (fun f cs y hsz ht hl hb => hoReadB hsz ht hl hb) (by simpa using u1) l1 (by omega)
    obtain ⟨a2, n2, p2, L2, e2, m2, q2, r2, t2, g2, b2⟩ := rowB_of (c := c2) (⟨⟨⟨0, 0⟩, false, false, []⟩, none, 0⟩ : SopM) sopC (SoQ W) (fun x => x.x.puts.length) Try.underlying24 cellsOpen (by decide) (fun f cs y hsz ht hl hb => soReadB hsz ht hl hb) (by simpa using u2) l2 (by omega)
    obtain ⟨a3, n3, p3, L3, e3, m3, q3, r3, t3, _, b3⟩ := rowB_of (c := c3) (⟨⟨0, 0⟩, false⟩ : Sdn) sdnC (fun x => okX x.t) (fun _ => 0) Try.underlying25 cellsDone (by decide) (fun f cs y hsz ht hl hb => dnReadB hsz ht hl hb) (by simpa using u3) l3 (by omega)
    obtain ⟨z, e4, _, w4⟩ := DataW.trod_int Try.underlying26 u4
    simp at e4
    obtain ⟨ver, rfl, hver⟩ := u64_nat w4
    subst e0 e1 e2 e3 e4 m0 m1 m2 m3
    have hkk : (allK (⟨L0, L1, L2.map fun y => y.x, L3, ver⟩ : Sh) []).length ≤ 2097152 := by
      have h1 := opnK_sum (L2.map fun y => y.x)
      rw [List.map_map] at h1
      have h2 : (L2.map ((fun x : Sop => x.puts.length) ∘ fun y => y.x)).sum ≤ 1048576 := by
        have : (L2.map ((fun x : Sop => x.puts.length) ∘ fun y => y.x)) = L2.map fun x => x.x.puts.length := rfl
        rw [this]; omega
      simp only [allK, List.length_append, List.length_map, putK, List.filter_nil, List.map_nil, List.length_nil]
      omega
    refine ⟨⟨L0, L1, L2.map fun y => y.x, L3, ver⟩, ⟨a0, p0, a1, p1, a2, p2, L2, a3, p3⟩, ?_, ⟨r0, r1, rfl, r2, fun y hy => (t2 y hy).2.2.2.1, r3, ⟨q0, q1, ?_, q3, fun y hy => (t2 y hy).2.2.2.2⟩⟩, ⟨?_, t0, ?_, t1, ?_, fun x hx => ?_, ?_, t3, hver, by omega⟩, b0, b1, by simp only [List.length_map]; exact b2, b3, hkk⟩
    · simp only [shV, List.length_map]
    · simp only [List.length_map]; exact q2
    · simp only; omega
    · simp only; omega
    · simp only [List.length_map]; omega
    · obtain ⟨y, hy, rfl⟩ := List.mem_map.1 hx
      have := t2 y hy
      exact ⟨this.1, by have := this.2.1; omega, this.2.2.1⟩
    · simp only; omega
set_option maxRecDepth 100000 in
theorem shArg_of {H : Type} {enc : TypeId × Value → H} {W : World} {r : Reach} {b0 : Nat} {v : Value} {d : DataW H} {p : List MemPlace}
    (hv : Value.okWide Try.prog W r b0 28 v) (h : DataW.Trod enc Try.prog W 0 (fun _ => true) true 28 v d p) (hlt : ∀ x ∈ p, x.block < W.heap.size) (hb : Rows.uptoBulk d ≤ 1048576) :
    ∃ s A, v = shV s A ∧ ShM W s A ∧ SzS s := by
  obtain ⟨s, A, h1, h2, h3, _⟩ := shArgU_of hv h hlt hb
  exact ⟨s, A, h1, h2, h3⟩
end Go.Proofs.Ythgnecggdlamfaa
/- Arguments that are orders, or shards, of bounded bulk. -/
namespace Go.Proofs.Ythgnecggdlamfaa
open Go.ChangeShapes Go.WideShapes Go.ChangeAt Go.RowKit Go.Deep Go.Joins

theorem cellsInt : Try.prog.cellsOf 3 = 1 := by kernel_rfl
theorem cellsOrder : Try.prog.cellsOf 34 = 7 := by kernel_rfl
theorem cellsU64s : Try.prog.cellsOf 32 = 1 := by kernel_rfl
theorem szU_of {s : Sh} (h : SzS s) (h2 : s.rows.length ≤ 1048576 ∧ s.holds.length ≤ 1048576 ∧ s.opn.length ≤ 1048576 ∧ s.done.length ≤ 1048576 ∧ (allK s []).length ≤ 2097152) : SzU s := ⟨h, h2.1, h2.2.1, h2.2.2.1, h2.2.2.2.1, h2.2.2.2.2⟩
set_option maxRecDepth 100000 in
set_option maxHeartbeats 4000000 in
theorem orArgU_of {H : Type} {enc : TypeId × Value → H} {W : World} {r : Reach} {b0 : Nat} {v : Value} {d : DataW H} {p : List MemPlace}
    (hv : Value.okWide Try.prog W r b0 34 v) (h : DataW.Trod enc Try.prog W 0 (fun _ => true) true 34 v d p) (hlt : ∀ x ∈ p, x.block < W.heap.size) (hb : Rows.uptoBulk d ≤ 1048576) :
    ∃ o a c qa qn qc, v = odrV o a c (.slice qa qn qc) ∧ Pus W a o.puts ∧ (o.puts.length ≤ c ∧ c ≤ maxLen) ∧ SzO o ∧ o.puts.length ≤ 1048576 := by
  obtain ⟨cs, rfl, hsz⟩ := okWide_struct Try.underlying34 hv
  rw [cellsOrder] at hsz
  obtain ⟨fuel, hf⟩ := h
  obtain ⟨n, h⟩ := open_sb Try.underlying34 hf hlt
  obtain ⟨z0, u0, _, _⟩ := h 0 _ rfl
  obtain ⟨z1, u1, _, _⟩ := h 1 _ rfl
  obtain ⟨z2, u2, _, s2⟩ := h 2 _ rfl
  obtain ⟨z3, u3, l3, s3⟩ := h 3 _ rfl
  obtain ⟨z4, u4, _, _⟩ := h 4 _ rfl
  obtain ⟨z5, u5, _, _⟩ := h 5 _ rfl
  obtain ⟨l⟩ := cs
  match l, hsz with
  | [c0, c1, c2, c3, c4, c5, c6], _ =>
    simp only [List.getElem_toArray, List.getElem_cons_zero, List.getElem_cons_succ, cellsInt, cellsTx, cellsStr, cellsPus, cellsBoo, cellsU64s, Value.cells] at u0 u1 u2 u3 u4 u5
    simp only at s2 s3
    obtain ⟨kd, e0, _, w0⟩ := DataW.trod_int Try.underlying3 u0
    have u1' : DataW.trod enc Try.prog W 0 (fun _ => true) true n 30 [c1, c2] = some z1 := by simpa using u1
    obtain ⟨t, ht1, hto⟩ := txReadB rfl u1'
    obtain ⟨k, e2, h2, _⟩ := DataW.trod_string Try.underlying9 u2
    have u3' : DataW.trod enc Try.prog W 0 (fun _ => true) true n 31 [c4] = some z3 := by simpa using u3
    obtain ⟨a, m, cap, P, e3, hm, hc, hP, hQ, _, hn⟩ := rowB_of (⟨⟨#[]⟩, ⟨#[]⟩, false⟩ : Pu) puC (fun x => x.key.size ≤ 140737488351232 ∧ x.val.size ≤ 140737488351232) (fun _ => 0) Try.underlying31 cellsPut (by decide) (fun f cs y hsz ht hl hb => by
      obtain ⟨x, h1, h2, _⟩ := puReadB hsz ht hl hb
      exact ⟨x, h1, h2, Nat.zero_le _⟩) u3' l3 (by omega)
    obtain ⟨g, e4, h4⟩ := DataW.trod_bool Try.underlying4 u4
    have u5' : DataW.trod enc Try.prog W 0 (fun _ => true) true n 32 [c6] = some z5 := by simpa using u5
    have e5 : ∃ qa qn qc, c6 = .slice qa qn qc := by
      rcases open_slice Try.underlying32 u5' with ⟨hcs, _⟩ | ⟨a', len, cap', m', n', D, Pl, hcs, _⟩
      · simp at hcs; exact ⟨_, _, _, hcs⟩
      · simp at hcs; exact ⟨_, _, _, hcs⟩
    obtain ⟨qa, qn, qc, rfl⟩ := e5
    simp at e0 e2 e4
    simp only [txC, List.cons.injEq, and_true] at ht1
    obtain ⟨rfl, rfl⟩ := ht1
    subst e0 e2 e3 e4 hm
    rw [h2] at s2
    have hbd := bounds_i64 w0
    exact ⟨⟨kd, t, k, P, g⟩, a, cap, qa, qn, qc, rfl, hP, hc, ⟨⟨sb_str s2 hb, hto⟩, by simp only; omega, hQ, by simp only; omega⟩, hn⟩
end Go.Proofs.Ythgnecggdlamfaa
