/- Layer 13's mathematics: what is right is told to be right; what is over stays so. -/
import Derived.Test.YthgnecggdlamfaaYd
namespace Go.Proofs.Ythgnecggdlamfaa

theorem bes_good {L : List Ho} (h : goodH L) {x : Ho} {i : Nat} (hx : L[i]? = some x) : ∀ (k : Nat) (R : List Ho), L.drop k = R → besH x i k R = true
  | k, [], _ => rfl
  | k, y :: r, e => by
    have hk : k < L.length := by
      rcases Nat.lt_or_ge k L.length with h1 | h1
      · exact h1
      · rw [List.drop_eq_nil_of_le h1] at e; cases e
    rw [List.drop_eq_getElem_cons hk] at e
    injection e with e1 e2
    have hy : L[k]? = some y := by rw [List.getElem?_eq_getElem hk, e1]
    rw [besH, if_neg]
    · exact bes_good h hx (k + 1) r e2
    obtain ⟨hi, hxe⟩ := List.getElem?_eq_some_iff.1 hx
    intro hc
    have hpair : i ≠ k → (x.key = y.key → x.t ≠ y.t ∧ x.wr = false ∧ y.wr = false) := fun hne he => by
      rcases Nat.lt_or_gt_of_ne hne with h1 | h1
      · have := List.pairwise_iff_getElem.1 h i k hi hk h1 (by rw [hxe, e1]; exact he)
        rw [hxe, e1] at this; exact this
      · have := List.pairwise_iff_getElem.1 h k i hk hi h1 (by rw [hxe, e1]; exact he.symm)
        rw [hxe, e1] at this
        exact ⟨fun e => this.1 e.symm, this.2.2, this.2.1⟩
    by_cases hik : i = k
    · subst hik
      have hxy : x = y := by rw [hx] at hy; exact Option.some.inj hy
      subst hxy
      rcases hc with hc | hc
      · simp [inW] at hc
      · exact hc.1 rfl
    · rcases hc with hc | ⟨_, h2, h3⟩
      · simp only [inW, Bool.and_eq_true, decide_eq_true_eq, Bool.not_eq_true', decide_eq_false_iff_not, Bool.or_eq_true] at hc
        obtain ⟨c1, c2, c3⟩ := hc
        obtain ⟨_, p2, p3⟩ := hpair hik c1.symm
        rw [p2, p3] at c3; simp at c3
      · exact (hpair hik h3).1 h2
theorem rightF_good {L : List Ho} (h : goodH L) : ∀ (i : Nat) (R : List Ho), L.drop i = R → rightF L i R = true
  | i, [], _ => rfl
  | i, x :: r, e => by
    have hk : i < L.length := by
      rcases Nat.lt_or_ge i L.length with h1 | h1
      · exact h1
      · rw [List.drop_eq_nil_of_le h1] at e; cases e
    rw [List.drop_eq_getElem_cons hk] at e
    injection e with e1 e2
    rw [rightF, if_pos (bes_good h (by rw [List.getElem?_eq_getElem hk, e1]) 0 L rfl)]
    exact rightF_good h (i + 1) r e2
theorem right_good {L : List Ho} (h : goodH L) : rightH L = true := rightF_good h 0 L rfl
theorem fstS_nodup : ∀ (O P : List Sop) (i : Nat), (P.map (fun x => x.t) ++ O.map fun x => x.t).Nodup → fstS i P O = true
  | [], P, i, _ => rfl
  | x :: r, P, i, h => by
    rw [fstS, Bool.and_eq_true]
    have h2 := List.nodup_append.1 h
    refine ⟨List.all_eq_true.2 fun y hy => ?_, fstS_nodup r (P ++ [x]) (i + 1) (by simpa [List.append_assoc] using h)⟩
    have := h2.2.2 y.t (List.mem_map.2 ⟨y, hy, rfl⟩) x.t (by simp)
    simpa using this
theorem fstD_nodup : ∀ (O P : List Sdn), (P.map (fun x => x.t) ++ O.map fun x => x.t).Nodup → fstD P O = true
  | [], P, _ => rfl
  | x :: r, P, h => by
    rw [fstD, Bool.and_eq_true]
    have h2 := List.nodup_append.1 h
    refine ⟨List.all_eq_true.2 fun y hy => ?_, fstD_nodup r (P ++ [x]) (by simpa [List.append_assoc] using h)⟩
    have := h2.2.2 y.t (List.mem_map.2 ⟨y, hy, rfl⟩) x.t (by simp)
    simpa using this
theorem ovr_is_none {t : Tx} : ∀ {D : List Sdn}, (∀ x ∈ D, x.t ≠ t) → ovrS t D = none
  | [], _ => rfl
  | y :: r, h => by
    rw [ovrS, if_neg (h y (by simp))]
    exact ovr_is_none fun x hx => h x (by simp [hx])
/-- What is right is told to be right. -/
theorem ok_right {s : Sh} (h : OkS s) : rightS s = true := by
  have hnd := List.nodup_append.1 h.nd
  unfold rightS
  simp only [Bool.and_eq_true, decide_eq_true_eq]
  refine ⟨h.rows, right_good h.holds, h.len, h.keys, fstS_nodup _ [] 0 (by simpa using hnd.1), List.all_eq_true.2 fun x hx => ?_, fstD_nodup _ [] (by simpa using hnd.2.1), List.all_eq_true.2 fun z hz => ?_⟩
  · obtain ⟨k1, k2, k3, k4⟩ := h.op x hx
    unfold opOk
    simp only [Bool.and_eq_true, decide_eq_true_eq, Bool.or_eq_true]
    refine ⟨?_, ?_, ?_, k3, List.all_eq_true.2 fun p hp => k4 p hp⟩
    · rw [ovr_is_none fun y hy e => hnd.2.2 x.t (List.mem_map.2 ⟨x, hx, rfl⟩) y.t (List.mem_map.2 ⟨y, hy, rfl⟩) e.symm]; rfl
    · rcases hf : x.fm with _ | _
      · simp
      · simp [k1 hf]
    · rcases hf : x.fm with _ | _
      · right; rw [k2 hf]; rfl
      · left; rfl
  · obtain ⟨y, hy, hyt, hyw⟩ := h.hold z hz
    have := kno_uniq h.ndo hy
    rw [hyt] at this
    rw [this]; simp [hyw]
/-- What was over stays over. -/
theorem ovr_app {t : Tx} {c : Bool} : ∀ {D E : List Sdn}, ovrS t D = some c → ovrS t (D ++ E) = some c
  | [], _, h => by simp [ovrS] at h
  | x :: r, E, h => by
    simp only [ovrS, List.cons_append] at h ⊢
    split
    · rename_i e; rw [if_pos e] at h; exact h
    · rename_i e; rw [if_neg e] at h; exact ovr_app h
theorem ovr_last {t : Tx} {c : Bool} : ∀ {D : List Sdn}, ovrS t D = none → ovrS t (D ++ [⟨t, c⟩]) = some c
  | [], _ => by simp [ovrS]
  | x :: r, h => by
    simp only [ovrS, List.cons_append] at h ⊢
    split
    · rename_i e; rw [if_pos e] at h; cases h
    · rename_i e; rw [if_neg e] at h; exact ovr_last h
theorem asks_done (s : Sh) (o : Odr) : (asksS s o).1.done = s.done := by
  unfold asksS
  rcases ovrS o.t s.done with _ | c
  case some => rfl
  simp only
  split
  · rfl
  split
  · rfl
  split
  · rfl
  split
  · rfl
  split
  · rfl
  · rfl
theorem prep_done (s : Sh) (o : Odr) : (prepS s o).1.done = s.done := by
  unfold prepS
  rcases ovrS o.t s.done with _ | c
  case some => rfl
  simp only
  rcases knoS o.t s.opn with _ | x
  case none => rfl
  simp only
  split
  · rfl
  split
  · split <;> rfl
  split
  · rfl
  split
  · rfl
  split <;> rfl
/-- A finish: nothing changes, or it is over then as it says. -/
theorem fin_done (s : Sh) (o : Odr) : ((finS s o).1 = s ∧ ((finS s o).2.err = 0 → ∃ c, ovrS o.t s.done = some c ∧ c = o.cm ∧ (finS s o).2.cm = c)) ∨
    (ovrS o.t s.done = none ∧ (finS s o).1.done = s.done ++ [⟨o.t, o.cm⟩] ∧ (finS s o).2 = ansC 0 o.cm ∧ (∃ rows ver, (finS s o).1 = relS rows ver s o ∧ (o.cm = false → rows = s.rows ∧ ver = s.ver))) := by
  unfold finS
  rcases hd : ovrS o.t s.done with _ | c
  case some =>
    simp only
    refine .inl ⟨by first | rfl | trivial, fun h => ⟨c, rfl, ?_, rfl⟩⟩
    by_cases e : c = o.cm
    · exact e
    · simp [ansC, e] at h
  simp only
  rcases knoS o.t s.opn with _ | x
  case none =>
    simp only
    split
    · exact .inl ⟨by first | rfl | trivial, fun h => by simp [ansE] at h⟩
    split
    · exact .inl ⟨by first | rfl | trivial, fun h => by simp [ansE] at h⟩
    exact .inr ⟨by first | rfl | trivial, by first | rfl | trivial, by first | rfl | trivial, _, _, rfl, fun _ => ⟨rfl, rfl⟩⟩
  simp only
  split
  · exact .inl ⟨by first | rfl | trivial, fun h => by simp [ansE] at h⟩
  split
  · rename_i hcp
    split
    · rename_i ha
      exact .inl ⟨by first | rfl | trivial, fun h => absurd h ha⟩
    · exact .inr ⟨by first | rfl | trivial, by first | rfl | trivial, by first | rfl | trivial, _, _, rfl, fun e => by rw [hcp.1] at e; cases e⟩
  · exact .inr ⟨by first | rfl | trivial, by first | rfl | trivial, by first | rfl | trivial, _, _, rfl, fun _ => ⟨rfl, rfl⟩⟩
theorem do_over {s : Sh} {o : Odr} {t : Tx} {c : Bool} (h : ovrS t s.done = some c) : ovrS t (doS s o).1.done = some c := by
  unfold doS
  split
  · rw [asks_done]; exact h
  split
  · rw [prep_done]; exact h
  split
  · rcases fin_done s o with ⟨e, _⟩ | ⟨_, e, _⟩
    · rw [e]; exact h
    · rw [e]; exact ovr_app h
  · exact h
/-- Whoever is over is told so. -/
theorem over_told {s : Sh} {o : Odr} {c : Bool} (h : ovrS o.t s.done = some c) : (o.kind = 1 ∨ o.kind = 2 ∨ o.kind = 3 → doS s o = (s, ansC 13 c)) ∧ (o.kind = 4 → doS s o = (s, ansC (if c = o.cm then 0 else 13) c)) := by
  refine ⟨fun hk => ?_, fun hk => ?_⟩
  · unfold doS
    by_cases h12 : o.kind = 1 ∨ o.kind = 2
    · rw [if_pos h12]; unfold asksS; rw [h]
    · rw [if_neg h12, if_pos (by omega)]; unfold prepS; rw [h]
  · unfold doS
    rw [if_neg (by omega), if_neg (by omega), if_pos hk]; unfold finS; rw [h]
end Go.Proofs.Ythgnecggdlamfaa
/- Layer 13's mathematics: what is prepared stays so, and can be committed; what is aborted leaves no trace; what is read stays while it is held. -/
namespace Go.Proofs.Ythgnecggdlamfaa

/-- Whether a transaction is prepared. -/
def frmS (t : Tx) (O : List Sop) : Bool := match knoS t O with
  | none => false
  | some x => x.fm
theorem frm_mem {s : Sh} (h : OkS s) {t : Tx} : frmS t s.opn = true ↔ ∃ x ∈ s.opn, x.t = t ∧ x.fm = true := by
  unfold frmS
  constructor
  · intro hf
    rcases hk : knoS t s.opn with _ | x
    · rw [hk] at hf; cases hf
    · rw [hk] at hf
      obtain ⟨h1, h2⟩ := kno_some hk
      exact ⟨x, h1, h2, hf⟩
  · rintro ⟨x, h1, h2, h3⟩
    have := kno_uniq h.ndo h1
    rw [h2] at this
    rw [this]; exact h3
theorem OkS.fresh {s : Sh} (h : OkS s) {x : Sop} (hx : x ∈ s.opn) : ovrS x.t s.done = none :=
  ovr_is_none fun y hy e => (List.nodup_append.1 h.nd).2.2 x.t (List.mem_map.2 ⟨x, hx, rfl⟩) y.t (List.mem_map.2 ⟨y, hy, rfl⟩) e.symm
/-- What is prepared stays so. -/
theorem firm_step {s : Sh} (h : OkS s) {o : Odr} {t : Tx} (hf : ∃ x ∈ s.opn, x.t = t ∧ x.fm = true) (ho : ¬ (o.t = t ∧ o.kind = 4)) : ∃ x ∈ (doS s o).1.opn, x.t = t ∧ x.fm = true := by
  obtain ⟨x, hx, hxt, hxf⟩ := hf
  unfold doS
  split
  · unfold asksS
    rcases ovrS o.t s.done with _ | c
    case some => exact ⟨x, hx, hxt, hxf⟩
    simp only
    split
    · exact ⟨x, hx, hxt, hxf⟩
    split
    · exact ⟨x, hx, hxt, hxf⟩
    split
    · exact ⟨x, hx, hxt, hxf⟩
    split
    · exact ⟨x, hx, hxt, hxf⟩
    split
    · exact ⟨x, hx, hxt, hxf⟩
    · exact ⟨⟨x.t, x.fm, x.wd || amT x.t _, x.puts⟩, List.mem_append.2 (.inl (List.mem_map.2 ⟨x, hx, rfl⟩)), hxt, hxf⟩
  split
  · unfold prepS
    rcases ovrS o.t s.done with _ | c
    case some => exact ⟨x, hx, hxt, hxf⟩
    simp only
    rcases hk : knoS o.t s.opn with _ | y
    case none => exact ⟨x, hx, hxt, hxf⟩
    simp only
    obtain ⟨hy, hyt⟩ := kno_some hk
    split
    · exact ⟨x, hx, hxt, hxf⟩
    split
    · split <;> exact ⟨x, hx, hxt, hxf⟩
    rename_i hyf
    split
    · exact ⟨x, hx, hxt, hxf⟩
    split
    · exact ⟨x, hx, hxt, hxf⟩
    split
    · exact ⟨x, hx, hxt, hxf⟩
    · refine ⟨x, mem_prp hx fun e => ?_, hxt, hxf⟩
      have := h.uniq hx hy (by rw [e, hyt])
      rw [this] at hxf; exact hyf hxf
  split
  · rename_i h4
    have hne : o.t ≠ t := fun e => ho ⟨e, h4⟩
    rcases fin_done s o with ⟨e, _⟩ | ⟨_, _, _, rows, ver, e, _⟩
    · rw [e]; exact ⟨x, hx, hxt, hxf⟩
    · rw [e]
      exact ⟨x, List.mem_filter.2 ⟨hx, by rw [hxt]; simpa using fun e => hne e.symm⟩, hxt, hxf⟩
  · exact ⟨x, hx, hxt, hxf⟩
/-- .. and can be committed: its puts are there. -/
theorem firm_commit {s : Sh} (h : OkS s) (hv : s.ver < 4611686018427387903) {x : Sop} (hx : x ∈ s.opn) (hf : x.fm = true) {o : Odr} (ho : o.t = x.t) (hk : o.kind = 4) (hc : o.cm = true) :
    (doS s o).2 = ansC 0 true ∧ ∀ p ∈ x.puts, getR p.key (doS s o).1.rows = if p.gone then none else some ⟨p.key, p.val, (doS s o).1.ver⟩ := by
  unfold doS
  rw [if_neg (by omega), if_neg (by omega), if_pos hk]
  unfold finS
  rw [ho, h.fresh hx, kno_uniq h.ndo hx]
  simp only
  rw [if_neg (by rw [hf]; simp)]
  have hm : (s.ver + 1) % 18446744073709551616 = s.ver + 1 := Nat.mod_eq_of_lt (by omega)
  split
  · rw [hm]
    obtain ⟨h1, _, _⟩ := commit_all h hx hf (ver := s.ver + 1) (by omega)
    rw [if_neg (by omega)]
    refine ⟨by rw [hc], fun p hp => ?_⟩
    exact (allR_right h.rows (by omega) h1).2.1 p hp
  · rename_i hp0
    refine ⟨by rw [hc], fun p hp => ?_⟩
    have : x.puts.length ≠ 0 := fun e => by
      rw [List.length_eq_zero_iff.1 e] at hp; simp at hp
    exact absurd ⟨hc, by omega⟩ hp0
/-- Who isn't known has no locks. -/
theorem no_hold {s : Sh} (h : OkS s) {t : Tx} (ht : ∀ x ∈ s.opn, x.t ≠ t) (k : ByteArray) (b : Bool) : hasH t k b s.holds = false := by
  rcases hh : hasH t k b s.holds with _ | _
  · rfl
  · obtain ⟨z, hz, e, _⟩ := (hasH_iff t k b s.holds).1 hh
    obtain ⟨y, hy, hyt, _⟩ := h.hold z hz
    exact absurd (hyt.trans e) (ht y hy)
/-- What is aborted leaves no trace. -/
theorem abort_none {s : Sh} (h : OkS s) {o : Odr} (hk : o.kind = 4) (hc : o.cm = false) : ((doS s o).2.err ≠ 0 → (doS s o).1 = s) ∧
    ((doS s o).2.err = 0 → (doS s o).1.rows = s.rows ∧ (doS s o).1.ver = s.ver ∧ (∀ k, hasH o.t k false (doS s o).1.holds = false) ∧ ∀ x ∈ (doS s o).1.opn, x.t ≠ o.t) := by
  have e : doS s o = finS s o := by
    unfold doS
    rw [if_neg (by omega), if_neg (by omega), if_pos hk]
  rw [e]
  rcases fin_done s o with ⟨e1, e2⟩ | ⟨e1, e2, e3, rows, ver, e4, e5⟩
  · refine ⟨fun _ => e1, fun h0 => ?_⟩
    obtain ⟨c, hd, _⟩ := e2 h0
    have hno : ∀ x ∈ s.opn, x.t ≠ o.t := fun x hx et => by
      have := h.fresh hx
      rw [et, hd] at this; cases this
    rw [e1]
    exact ⟨rfl, rfl, fun k => no_hold h hno k false, hno⟩
  · refine ⟨fun h0 => by rw [e3] at h0; exact absurd rfl h0, fun _ => ?_⟩
    obtain ⟨r1, r2⟩ := e5 hc
    rw [e4]
    refine ⟨r1, r2, fun k => ?_, fun x hx => by have := (List.mem_filter.1 hx).2; simpa using this⟩
    rcases hh : hasH o.t k false (dropH o.t s.holds) with _ | _
    · exact hh
    · obtain ⟨z, hz, e, _⟩ := (hasH_iff _ _ _ _).1 hh
      have := (List.mem_filter.1 hz).2
      rw [e] at this; simp at this
/-- While one has a lock of a key, the key's row stays. -/
theorem read_step {s : Sh} (h : OkS s) (hv : s.ver < 4611686018427387903) {o : Odr} {t : Tx} {key : ByteArray} (ho : o.t ≠ t) (hh : hasH t key false (doS s o).1.holds = true) : getR key (doS s o).1.rows = getR key s.rows := by
  unfold doS at hh ⊢
  by_cases h12 : o.kind = 1 ∨ o.kind = 2
  · rw [if_pos h12]
    unfold asksS
    rcases ovrS o.t s.done with _ | c
    case some => rfl
    simp only
    split
    · rfl
    split
    · rfl
    split
    · rfl
    split
    · rfl
    split
    · rfl
    · rfl
  rw [if_neg h12] at hh ⊢
  by_cases h3 : o.kind = 3
  · rw [if_pos h3]
    unfold prepS
    rcases ovrS o.t s.done with _ | c
    case some => rfl
    simp only
    rcases knoS o.t s.opn with _ | y
    case none => rfl
    simp only
    split
    · rfl
    split
    · split <;> rfl
    split
    · rfl
    split
    · rfl
    split <;> rfl
  rw [if_neg h3] at hh ⊢
  by_cases h4 : o.kind = 4
  case neg => rw [if_neg h4]
  rw [if_pos h4] at hh ⊢
  unfold finS at hh ⊢
  rcases hd : ovrS o.t s.done with _ | c
  case some => rfl
  rw [hd] at hh
  simp only at hh ⊢
  rcases hk : knoS o.t s.opn with _ | x
  case none =>
    simp only
    split
    · rfl
    split
    · rfl
    · rfl
  rw [hk] at hh
  simp only at hh ⊢
  obtain ⟨hx, hxt⟩ := kno_some hk
  by_cases h9 : o.cm = true ∧ x.fm = false
  · rw [if_pos h9]
  rw [if_neg h9] at hh ⊢
  by_cases hp : o.cm = true ∧ 0 < x.puts.length
  case neg => rw [if_neg hp]; rfl
  rw [if_pos hp] at hh ⊢
  have hm : (s.ver + 1) % 18446744073709551616 = s.ver + 1 := Nat.mod_eq_of_lt (by omega)
  rw [hm] at hh ⊢
  have hf : x.fm = true := by
    rcases hf : x.fm with _ | _
    · exact absurd ⟨hp.1, hf⟩ h9
    · rfl
  obtain ⟨h1, _, _⟩ := commit_all h hx hf (ver := s.ver + 1) (by omega)
  rw [if_neg (by omega)] at hh ⊢
  refine (allR_right h.rows (by omega) h1).2.2 key ?_
  rcases hki : keyIn key x.puts with _ | _
  · rfl
  · obtain ⟨p, hp2, hpk⟩ := (keyIn_iff key x.puts).1 hki
    have hw := (h.op x hx).2.2.2 p hp2
    obtain ⟨z1, hz1, e1, e2, e3⟩ := (hasH_iff _ _ _ _).1 hw
    have hh2 : hasH t key false s.holds = true := by
      rw [← hasH_drop (t := o.t) (fun e => ho e.symm)]; exact hh
    obtain ⟨z2, hz2, f1, f2, _⟩ := (hasH_iff _ _ _ _).1 hh2
    obtain ⟨i, hi⟩ := List.mem_iff_getElem?.1 hz1
    obtain ⟨j, hj⟩ := List.mem_iff_getElem?.1 hz2
    have hwr : z1.wr = true := by simpa using e3
    have hkk : z1.key = z2.key := by rw [e2, hpk, f2]
    have hne : z1.t ≠ z2.t := by rw [e1, f1, hxt]; exact ho
    have hij : i ≠ j := fun e => by
      rw [e, hj] at hi
      exact hne (by rw [Option.some.inj hi])
    obtain ⟨hil, hie⟩ := List.getElem?_eq_some_iff.1 hi
    obtain ⟨hjl, hje⟩ := List.getElem?_eq_some_iff.1 hj
    rcases Nat.lt_or_gt_of_ne hij with hlt | hlt
    · have := List.pairwise_iff_getElem.1 h.holds i j hil hjl hlt (by rw [hie, hje]; exact hkk)
      rw [hie, hje] at this
      rw [this.2.1] at hwr; cases hwr
    · have := List.pairwise_iff_getElem.1 h.holds j i hjl hil hlt (by rw [hie, hje]; exact hkk.symm)
      rw [hie, hje] at this
      rw [this.2.2] at hwr; cases hwr
/-- Who reads has the lock, and is told the row. -/
theorem read_told {s : Sh} {o : Odr} (hk : o.kind = 1) (h0 : (doS s o).2.err = 0) : hasH o.t o.key false (doS s o).1.holds = true ∧ (doS s o).1.rows = s.rows ∧
    (doS s o).2 = match getR o.key s.rows with
      | some x => ⟨0, x.val, x.ver, true, false⟩
      | none => ⟨0, ⟨#[]⟩, s.ver, false, false⟩ := by
  have e : doS s o = asksS s o := by unfold doS; rw [if_pos (.inl hk)]
  rw [e] at h0 ⊢
  unfold asksS at h0 ⊢
  rcases hd : ovrS o.t s.done with _ | c
  case some => rw [hd] at h0; simp [ansC] at h0
  rw [hd] at h0
  simp only at h0 ⊢
  split at h0
  · simp [ansE] at h0
  rename_i h1
  rw [if_neg h1]
  split at h0
  · simp [ansE] at h0
  rename_i h2
  rw [if_neg h2]
  split at h0
  · simp [ansE] at h0
  rename_i h3
  rw [if_neg h3]
  split at h0
  · simp [ansE] at h0
  rename_i h4
  rw [if_neg h4]
  split at h0
  · rename_i h5; exact absurd h0 h5
  rename_i h5
  rw [if_neg h5]
  refine ⟨?_, rfl, rfl⟩
  exact ask_has (by omega)
end Go.Proofs.Ythgnecggdlamfaa
