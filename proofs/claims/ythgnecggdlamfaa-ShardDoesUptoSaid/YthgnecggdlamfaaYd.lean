/- Layer 13's mathematics: a shard that is right stays so. -/
import Derived.Test.YthgnecggdlamfaaYb
namespace Go.Proofs.Ythgnecggdlamfaa

/-- A shard that is right. -/
structure OkS (s : Sh) : Prop where
  rows : rightB s.rows = true
  holds : goodH s.holds
  len : s.opn.length + s.done.length ≤ 64
  keys : dcK (allK s []) ≤ 32
  nd : (s.opn.map (fun x => x.t) ++ s.done.map (fun x => x.t)).Nodup
  op : ∀ x ∈ s.opn, (x.fm = true → x.wd = false) ∧ (x.fm = false → x.puts = []) ∧ fitsX x.puts = 0 ∧ ∀ p ∈ x.puts, hasH x.t p.key true s.holds = true
  hold : ∀ h ∈ s.holds, ∃ x ∈ s.opn, x.t = h.t ∧ x.wd = false
theorem kno_some {t : Tx} : ∀ {O : List Sop} {x : Sop}, knoS t O = some x → x ∈ O ∧ x.t = t
  | [], x, h => by simp [knoS] at h
  | y :: r, x, h => by
    simp only [knoS] at h
    split at h
    · rename_i e
      obtain rfl : y = x := by simpa using h
      exact ⟨by simp, e⟩
    · obtain ⟨h1, h2⟩ := kno_some h
      exact ⟨by simp [h1], h2⟩
theorem kno_none {t : Tx} : ∀ {O : List Sop}, knoS t O = none → ∀ x ∈ O, x.t ≠ t
  | [], _ => by simp
  | y :: r, h => by
    simp only [knoS] at h
    split at h
    · cases h
    · rename_i e
      intro x hx
      rcases List.mem_cons.1 hx with e2 | e2
      · rw [e2]; exact e
      · exact kno_none h x e2
theorem ovr_none {t : Tx} : ∀ {D : List Sdn}, ovrS t D = none → ∀ x ∈ D, x.t ≠ t
  | [], _ => by simp
  | y :: r, h => by
    simp only [ovrS] at h
    split at h
    · cases h
    · rename_i e
      intro x hx
      rcases List.mem_cons.1 hx with e2 | e2
      · rw [e2]; exact e
      · exact ovr_none h x e2
/-- Where transactions are different, the first is the only one. -/
theorem kno_uniq {O : List Sop} (h : (O.map fun x => x.t).Nodup) {x : Sop} (hx : x ∈ O) : knoS x.t O = some x := by
  induction O with
  | nil => simp at hx
  | cons y r ih =>
    rw [List.map_cons, List.nodup_cons] at h
    simp only [knoS]
    by_cases e : y.t = x.t
    · rw [if_pos e]
      rcases List.mem_cons.1 hx with e2 | e2
      · rw [e2]
      · exact absurd (List.mem_map.2 ⟨x, e2, e.symm⟩) h.1
    · rw [if_neg e]
      rcases List.mem_cons.1 hx with e2 | e2
      · exact absurd (by rw [e2]) e
      · exact ih h.2 e2
theorem OkS.ndo {s : Sh} (h : OkS s) : (s.opn.map fun x => x.t).Nodup := (List.nodup_append.1 h.nd).1
theorem OkS.uniq {s : Sh} (h : OkS s) {x y : Sop} (hx : x ∈ s.opn) (hy : y ∈ s.opn) (e : x.t = y.t) : x = y := by
  have h1 := kno_uniq h.ndo hx
  have h2 := kno_uniq h.ndo hy
  rw [e, h2] at h1
  exact (Option.some.inj h1).symm
theorem hasH_drop {t z : Tx} (hz : z ≠ t) (k : ByteArray) (b : Bool) (L : List Ho) : hasH z k b (dropH t L) = hasH z k b L := by
  rw [Bool.eq_iff_iff, hasH_iff, hasH_iff]
  constructor
  · rintro ⟨x, h1, h2, h3⟩
    exact ⟨x, (List.mem_filter.1 h1).1, h2, h3⟩
  · rintro ⟨x, h1, h2, h3⟩
    exact ⟨x, List.mem_filter.2 ⟨h1, by simp [h2, hz]⟩, h2, h3⟩
theorem firmS_iff {O : List Sop} {t : Tx} : amT t (firmS O) = true ↔ ∃ x ∈ O, x.t = t ∧ x.fm = true := by
  rw [amT_iff]
  unfold firmS
  simp only [List.mem_map, List.mem_filter]
  exact ⟨fun ⟨x, ⟨h1, h2⟩, h3⟩ => ⟨x, h1, h3, h2⟩, fun ⟨x, h1, h2, h3⟩ => ⟨x, ⟨h1, h3⟩, h2⟩⟩
/-- Who is given what is asked for: whose locks there are then. -/
theorem ask_owner {L : List Ho} {t : Tx} {key : ByteArray} {wr : Bool} {firm : List Tx} {h : Ho} (hh : h ∈ (askH L t key wr firm).1) : (h ∈ L ∧ h.t ∉ (askH L t key wr firm).2.1) ∨ h.t = t ∨ (askH L t key wr firm).2.2 ≠ 0 := by
  rcases ask_cases L t key wr firm with ⟨e, e0, e1⟩ | ⟨e1, _⟩ | ⟨out, hw, ⟨_, _, e1⟩ | ⟨_, e1⟩⟩
  · rw [e1]; exact .inr (.inr e0)
  · rw [e1] at hh ⊢; exact .inl ⟨hh, by simp⟩
  · rw [e1] at hh ⊢
    obtain ⟨z, h1, h2, h3, h4 | ⟨_, h5⟩⟩ := mem_raise hh
    · rw [h4]
      obtain ⟨h6, h7⟩ := mem_rest.1 h1
      exact .inl ⟨h6, h7⟩
    · exact .inr (.inl h5)
  · rw [e1] at hh ⊢
    rcases List.mem_append.1 hh with hm | hm
    · obtain ⟨h6, h7⟩ := mem_rest.1 hm
      exact .inl ⟨h6, h7⟩
    · obtain rfl : h = ⟨key, t, wr⟩ := by simpa using hm
      exact .inr (.inl rfl)
theorem ask_not_out {L : List Ho} {t : Tx} {key : ByteArray} {wr : Bool} {firm : List Tx} : t ∉ (askH L t key wr firm).2.1 := fun h => by
  have := (ask_wound h).2.1
  rw [eld_irrefl] at this; cases this
theorem opnK_mem {k : ByteArray} {O : List Sop} : k ∈ opnK O ↔ ∃ x ∈ O, x.fm = true ∧ k ∈ putK x.puts := by
  unfold opnK
  rw [List.mem_flatMap]
  constructor
  · rintro ⟨x, h1, h2⟩
    split at h2
    · rename_i h; exact ⟨x, h1, h, h2⟩
    · simp at h2
  · rintro ⟨x, h1, h2, h3⟩
    exact ⟨x, h1, by rw [if_pos h2]; exact h3⟩
theorem allK_mem {k : ByteArray} {s : Sh} {more : List Pu} : k ∈ allK s more ↔ (∃ x ∈ s.rows, x.key = k) ∨ (∃ x ∈ s.opn, x.fm = true ∧ k ∈ putK x.puts) ∨ k ∈ putK more := by
  unfold allK
  rw [List.mem_append, List.mem_append, opnK_mem, List.mem_map, or_assoc]
/-- ORead, OLock. -/
theorem asks_ok {s : Sh} (h : OkS s) (o : Odr) : OkS (asksS s o).1 := by
  unfold asksS
  rcases hd : ovrS o.t s.done with _ | c
  case some => exact h
  simp only
  split
  · exact h
  split
  · exact h
  rename_i hw
  split
  · exact h
  rename_i hf
  split
  · exact h
  rename_i hl
  split
  · exact h
  rename_i ha
  have hz := ovr_none hd
  have hwt : ∀ x ∈ s.opn, x.t = o.t → x.wd = false ∧ x.fm = false := fun x hx e => by
    have hk := kno_uniq h.ndo hx
    rw [e] at hk
    rw [hk] at hw hf
    simp only [Option.any_some] at hw hf
    exact ⟨by simpa using hw, by simpa using hf⟩
  obtain ⟨H, O, e0, hA⟩ : ∃ H O e, askH s.holds o.t o.key (decide (o.kind = 2)) (firmS s.opn) = (H, O, e) := ⟨_, _, _, rfl⟩
  have g1 := ask_good o.t o.key (decide (o.kind = 2)) (firmS s.opn) h.holds
  have g2 := fun (z : Ho) (hz : z ∈ (askH s.holds o.t o.key (decide (o.kind = 2)) (firmS s.opn)).1) => ask_owner hz
  have g3 := fun (z : Tx) (hz : z ∈ (askH s.holds o.t o.key (decide (o.kind = 2)) (firmS s.opn)).2.1) => ask_wound hz
  have g4 := fun (z : Tx) (h1 : z ∉ (askH s.holds o.t o.key (decide (o.kind = 2)) (firmS s.opn)).2.1) (h2 : z ≠ o.t) (k : ByteArray) => ask_others h1 h2 k true
  have g5 := ask_not_out (L := s.holds) (t := o.t) (key := o.key) (wr := decide (o.kind = 2)) (firm := firmS s.opn)
  rw [hA] at g1 g2 g3 g4 g5 ha ⊢
  simp only at g1 g2 g3 g4 g5 ha ⊢
  have ha0 : e0 = 0 := by simpa using ha
  subst ha0
  have hnf : ∀ x ∈ s.opn, x.fm = true → x.t ∉ O ∧ x.t ≠ o.t := fun x hx hxf => by
    refine ⟨fun hm => ?_, fun e => ?_⟩
    · have := (g3 _ hm).1
      rw [firmS_iff.2 ⟨x, hx, rfl, hxf⟩] at this; cases this
    · rw [(hwt x hx e).2] at hxf; cases hxf
  have hts : (wndS O s.opn).map (fun x => x.t) = s.opn.map (fun x => x.t) := by simp [wndS]
  -- what is appended
  obtain ⟨A, hAp⟩ : ∃ A, (if (knoS o.t s.opn).isNone then [(⟨o.t, false, false, []⟩ : Sop)] else []) = A := ⟨_, rfl⟩
  rw [hAp]
  have hA1 : ∀ x ∈ A, x = ⟨o.t, false, false, []⟩ ∧ (knoS o.t s.opn).isNone := fun x hx => by
    rw [← hAp] at hx
    split at hx
    · rename_i hn; exact ⟨by simpa using hx, hn⟩
    · simp at hx
  have hAl : A.length ≤ 1 ∧ (A.length = 1 → (knoS o.t s.opn).isNone) := by
    rw [← hAp]; split
    · rename_i hn; exact ⟨by simp, fun _ => hn⟩
    · simp
  refine ⟨h.rows, g1, ?_, ?_, ?_, ?_, ?_⟩
  · simp only [List.length_append, wndS, List.length_map]
    have := h.len
    rcases Nat.lt_or_ge A.length 1 with h1 | h1
    · omega
    · have := hAl.2 (by omega)
      have : ¬ 64 ≤ s.opn.length + s.done.length := fun e => hl ⟨this, e⟩
      omega
  · refine Nat.le_trans (dcK_mono fun k hk => ?_) h.keys
    rw [allK_mem] at hk ⊢
    rcases hk with e | ⟨x, hx, hxf, hkp⟩ | e
    · exact .inl e
    · rcases List.mem_append.1 hx with hx | hx
      · obtain ⟨y, hy, rfl⟩ := List.mem_map.1 hx
        exact .inr (.inl ⟨y, hy, hxf, hkp⟩)
      · rw [(hA1 x hx).1] at hxf; cases hxf
    · exact .inr (.inr e)
  · simp only [List.map_append, hts]
    have hnd := h.nd
    rw [List.nodup_append] at hnd ⊢
    refine ⟨?_, hnd.2.1, fun a ha b hb e => ?_⟩
    · rw [List.nodup_append]
      refine ⟨hnd.1, ?_, fun a ha b hb e => ?_⟩
      · rw [← hAp]; split <;> simp
      · obtain ⟨x, hx, rfl⟩ := List.mem_map.1 hb
        obtain ⟨hx1, hx2⟩ := hA1 x hx
        obtain ⟨y, hy, rfl⟩ := List.mem_map.1 ha
        rw [hx1] at e
        exact kno_none (by simpa using hx2) y hy e
    · obtain ⟨z, hz2, rfl⟩ := List.mem_map.1 hb
      rcases List.mem_append.1 ha with ha | ha
      · exact hnd.2.2 a ha _ (List.mem_map.2 ⟨z, hz2, rfl⟩) e
      · obtain ⟨x, hx, rfl⟩ := List.mem_map.1 ha
        rw [(hA1 x hx).1] at e
        exact hz z hz2 e.symm
  · intro x hx
    rcases List.mem_append.1 hx with hx | hx
    · obtain ⟨y, hy, rfl⟩ := List.mem_map.1 hx
      obtain ⟨k1, k2, k3, k4⟩ := h.op y hy
      refine ⟨fun hf2 => ?_, k2, k3, fun p hp => ?_⟩
      · simp only at hf2 ⊢
        rw [k1 hf2]
        rcases hm : amT y.t O with _ | _
        · rfl
        · exact absurd ((amT_iff _ _).1 hm) (hnf y hy hf2).1
      · simp only at hp ⊢
        have hyf : y.fm = true := by
          rcases hyf : y.fm with _ | _
          · rw [k2 hyf] at hp; simp at hp
          · rfl
        obtain ⟨m1, m2⟩ := hnf y hy hyf
        rw [g4 y.t m1 m2 p.key]; exact k4 p hp
    · obtain ⟨hx1, _⟩ := hA1 x hx
      rw [hx1]
      exact ⟨by simp, by simp, by rfl, by simp⟩
  · intro z hz2
    rcases g2 z hz2 with ⟨m1, m2⟩ | e | e
    · obtain ⟨x, hx, hxt, hxw⟩ := h.hold z m1
      refine ⟨⟨x.t, x.fm, x.wd || amT x.t O, x.puts⟩, List.mem_append.2 (.inl (List.mem_map.2 ⟨x, hx, rfl⟩)), hxt, ?_⟩
      simp only
      rw [hxw, Bool.false_or]
      rcases hm : amT x.t O with _ | _
      · rfl
      · rw [hxt] at hm
        exact absurd ((amT_iff _ _).1 hm) m2
    · rcases hk : knoS o.t s.opn with _ | x
      · rw [hk] at hAp
        refine ⟨⟨o.t, false, false, []⟩, List.mem_append.2 (.inr (by rw [← hAp]; simp)), e.symm, rfl⟩
      · obtain ⟨hx, hxt⟩ := kno_some hk
        refine ⟨⟨x.t, x.fm, x.wd || amT x.t O, x.puts⟩, List.mem_append.2 (.inl (List.mem_map.2 ⟨x, hx, rfl⟩)), by simp only; rw [hxt, e], ?_⟩
        simp only
        rw [(hwt x hx hxt).1, Bool.false_or, hxt]
        rcases hm : amT o.t O with _ | _
        · rfl
        · exact absurd ((amT_iff _ _).1 hm) g5
    · exact absurd rfl e
end Go.Proofs.Ythgnecggdlamfaa
/- Layer 13's mathematics: prepares and finishes keep a shard right; versions. -/
namespace Go.Proofs.Ythgnecggdlamfaa

theorem prp_ts (t : Tx) (P : List Pu) : ∀ O : List Sop, (prpS t P O).map (fun x => x.t) = O.map fun x => x.t
  | [] => rfl
  | x :: r => by
    simp only [prpS]
    split
    · rfl
    · simp [prp_ts t P r]
theorem prp_mem {t : Tx} {P : List Pu} {y : Sop} : ∀ {O : List Sop}, y ∈ prpS t P O → (y ∈ O ∧ (y.t ≠ t ∨ ¬ (O.map fun x => x.t).Nodup)) ∨ ∃ x ∈ O, x.t = t ∧ y = ⟨x.t, true, x.wd, P⟩
  | [], h => by simp [prpS] at h
  | x :: r, h => by
    simp only [prpS] at h
    split at h
    · rename_i e
      rcases List.mem_cons.1 h with e2 | e2
      · exact .inr ⟨x, by simp, e, e2⟩
      · refine .inl ⟨by simp [e2], ?_⟩
        by_cases hy : y.t = t
        · right
          intro hn
          rw [List.map_cons, List.nodup_cons] at hn
          exact hn.1 (List.mem_map.2 ⟨y, e2, by rw [hy, e]⟩)
        · exact .inl hy
    · rename_i e
      rcases List.mem_cons.1 h with e2 | e2
      · rw [e2]; exact .inl ⟨by simp, .inl e⟩
      · rcases prp_mem e2 with ⟨h1, h2⟩ | ⟨z, h1, h2, h3⟩
        · refine .inl ⟨by simp [h1], h2.imp id fun hn hn2 => hn ?_⟩
          rw [List.map_cons, List.nodup_cons] at hn2
          exact hn2.2
        · exact .inr ⟨z, by simp [h1], h2, h3⟩
theorem mem_prp {t : Tx} {P : List Pu} {x : Sop} : ∀ {O : List Sop}, x ∈ O → x.t ≠ t → x ∈ prpS t P O
  | y :: r, h, hx => by
    simp only [prpS]
    split
    · rename_i e
      rcases List.mem_cons.1 h with e2 | e2
      · rw [e2] at hx; exact absurd e hx
      · simp [e2]
    · rcases List.mem_cons.1 h with e2 | e2
      · simp [e2]
      · simp [mem_prp e2 hx]
theorem prp_has {t : Tx} {P : List Pu} : ∀ {O : List Sop} {x : Sop}, knoS t O = some x → ⟨x.t, true, x.wd, P⟩ ∈ prpS t P O
  | [], x, h => by simp [knoS] at h
  | y :: r, x, h => by
    simp only [knoS] at h
    simp only [prpS]
    split at h
    · rename_i e
      obtain rfl : y = x := by simpa using h
      rw [if_pos e]; simp
    · rename_i e
      rw [if_neg e]
      exact List.mem_cons_of_mem _ (prp_has h)
/-- OPrepare. -/
theorem prep_ok {s : Sh} (h : OkS s) (o : Odr) : OkS (prepS s o).1 := by
  unfold prepS
  rcases hd : ovrS o.t s.done with _ | c
  case some => exact h
  simp only
  rcases hk : knoS o.t s.opn with _ | x
  case none => exact h
  simp only
  obtain ⟨hx, hxt⟩ := kno_some hk
  split
  · exact h
  rename_i hw
  split
  · split <;> exact h
  rename_i hf
  split
  · exact h
  rename_i hfit
  split
  · exact h
  rename_i hall
  split
  · exact h
  rename_i hkeys
  have hw0 : x.wd = false := by simpa using hw
  have hfit0 : fitsX o.puts = 0 := by omega
  have hmem : ∀ y ∈ prpS o.t o.puts s.opn, (y ∈ s.opn ∧ y.t ≠ o.t) ∨ y = ⟨x.t, true, x.wd, o.puts⟩ := fun y hy => by
    rcases prp_mem hy with ⟨h1, h2⟩ | ⟨z, h1, h2, h3⟩
    · exact .inl ⟨h1, h2.resolve_right fun hn => hn h.ndo⟩
    · have : z = x := h.uniq h1 hx (by rw [h2, hxt])
      rw [this] at h3; exact .inr h3
  refine ⟨h.rows, h.holds, ?_, ?_, ?_, ?_, ?_⟩
  · have h1 := congrArg List.length (prp_ts o.t o.puts s.opn)
    simp only [List.length_map] at h1
    simp only [h1]; exact h.len
  · have h2 : dcK (allK s o.puts) ≤ 32 := by
      have := hkeys
      rw [keysN_dc] at this; omega
    refine Nat.le_trans (dcK_mono fun k hkk => ?_) h2
    rw [allK_mem] at hkk ⊢
    rcases hkk with e | ⟨y, hy, hyf, hyk⟩ | e
    · exact .inl e
    · rcases hmem y hy with ⟨h1, _⟩ | e
      · exact .inr (.inl ⟨y, h1, hyf, hyk⟩)
      · rw [e] at hyk; exact .inr (.inr hyk)
    · simp [putK] at e
  · simp only [prp_ts]; exact h.nd
  · intro y hy
    rcases hmem y hy with ⟨h1, _⟩ | e
    · exact h.op y h1
    · rw [e]
      refine ⟨fun _ => hw0, fun e => by simp at e, hfit0, fun p hp => ?_⟩
      simp only
      have ha : o.puts.all (fun p => hasH o.t p.key true s.holds) = true := by simpa using hall
      rw [hxt]; exact List.all_eq_true.1 ha p hp
  · intro z hz
    obtain ⟨y, hy, hyt, hyw⟩ := h.hold z hz
    by_cases e : y.t = o.t
    · have : y = x := h.uniq hy hx (by rw [e, hxt])
      exact ⟨⟨x.t, true, x.wd, o.puts⟩, prp_has hk, by simp only; rw [← this, hyt], hw0⟩
    · exact ⟨y, mem_prp hy e, hyt, hyw⟩
/-- A transaction released. -/
theorem rel_ok {s : Sh} (h : OkS s) (o : Odr) {rows : List Ro} {ver : Nat} (hr : rightB rows = true) (hd : ovrS o.t s.done = none) (hl : knoS o.t s.opn = none → s.opn.length + s.done.length < 64)
    (hk : ∀ x ∈ rows, x.key ∈ allK s []) : OkS (relS rows ver s o) := by
  have hz := ovr_none hd
  have hsub : (s.opn.filter fun x => !decide (x.t = o.t)).Sublist s.opn := List.filter_sublist
  have hmem : ∀ y ∈ s.opn.filter (fun x => !decide (x.t = o.t)), y ∈ s.opn ∧ y.t ≠ o.t := fun y hy => by
    obtain ⟨h1, h2⟩ := List.mem_filter.1 hy
    exact ⟨h1, by simpa using h2⟩
  refine ⟨hr, good_drop h.holds, ?_, ?_, ?_, ?_, ?_⟩
  · simp only [relS, List.length_append, List.length_singleton]
    have h1 := hsub.length_le
    have h2 := h.len
    rcases hkn : knoS o.t s.opn with _ | x
    · have := hl hkn; omega
    · obtain ⟨hx, hxt⟩ := kno_some hkn
      have : (s.opn.filter fun x => !decide (x.t = o.t)).length < s.opn.length := by
        rcases Nat.lt_or_ge (s.opn.filter fun x => !decide (x.t = o.t)).length s.opn.length with h3 | h3
        · exact h3
        · have he := List.Sublist.eq_of_length_le hsub h3
          have := hmem x (by rw [he]; exact hx)
          exact absurd hxt this.2
      omega
  · refine Nat.le_trans (dcK_mono fun k hkk => ?_) h.keys
    rw [allK_mem] at hkk
    rcases hkk with ⟨x, hx, e⟩ | ⟨y, hy, hyf, hyk⟩ | e
    · rw [← e]; exact hk x hx
    · rw [allK_mem]; exact .inr (.inl ⟨y, (hmem y hy).1, hyf, hyk⟩)
    · simp [putK] at e
  · simp only [relS, List.map_append, List.map_cons, List.map_nil]
    have hnd := h.nd
    rw [List.nodup_append] at hnd ⊢
    refine ⟨hnd.1.sublist (hsub.map _), ?_, fun a ha b hb e => ?_⟩
    · rw [List.nodup_append]
      refine ⟨hnd.2.1, by simp, fun a ha b hb e => ?_⟩
      obtain ⟨z, hz2, rfl⟩ := List.mem_map.1 ha
      obtain rfl : b = o.t := by simpa using hb
      exact hz z hz2 e
    · obtain ⟨y, hy, rfl⟩ := List.mem_map.1 ha
      rcases List.mem_append.1 hb with hb | hb
      · exact hnd.2.2 _ (List.mem_map.2 ⟨y, (hmem y hy).1, rfl⟩) b hb e
      · obtain rfl : b = o.t := by simpa using hb
        exact (hmem y hy).2 e
  · intro y hy
    obtain ⟨h1, h2⟩ := hmem y hy
    obtain ⟨k1, k2, k3, k4⟩ := h.op y h1
    refine ⟨k1, k2, k3, fun p hp => ?_⟩
    show hasH y.t p.key true (dropH o.t s.holds) = true
    rw [hasH_drop h2]; exact k4 p hp
  · intro z hz2
    obtain ⟨h1, h2⟩ := List.mem_filter.1 hz2
    obtain ⟨y, hy, hyt, hyw⟩ := h.hold z h1
    refine ⟨y, List.mem_filter.2 ⟨hy, ?_⟩, hyt, hyw⟩
    rw [hyt]; exact h2
/-- A prepared one can be committed. -/
theorem commit_all {s : Sh} (h : OkS s) {x : Sop} (hx : x ∈ s.opn) (hf : x.fm = true) {ver : Nat} (hv : ver ≤ 4611686018427387903) : (allR s.rows x.puts ver).2 = 0 ∧ rightB (allR s.rows x.puts ver).1 = true ∧ ∀ y ∈ (allR s.rows x.puts ver).1, y.key ∈ allK s [] := by
  have hK : ∀ k ∈ s.rows.map (fun x => x.key) ++ putK x.puts, k ∈ allK s [] := fun k hk => by
    rw [allK_mem]
    rcases List.mem_append.1 hk with e | e
    · obtain ⟨y, hy, rfl⟩ := List.mem_map.1 e
      exact .inl ⟨y, hy, rfl⟩
    · exact .inr (.inl ⟨x, hx, hf, e⟩)
  obtain ⟨h1, h2⟩ := all_ok (ver := ver) h.rows hv (h.op x hx).2.2.1 (Nat.le_trans (dcK_mono hK) h.keys)
  exact ⟨h1, (allR_right h.rows hv h1).1, fun y hy => hK _ (h2 y hy)⟩
/-- OFinish. -/
theorem fin_ok {s : Sh} (h : OkS s) (o : Odr) (hv : s.ver < 4611686018427387903) : OkS (finS s o).1 ∧ s.ver ≤ (finS s o).1.ver ∧ (finS s o).1.ver ≤ s.ver + 1 := by
  have hrk : ∀ x ∈ s.rows, x.key ∈ allK s [] := fun x hx => by rw [allK_mem]; exact .inl ⟨x, hx, rfl⟩
  have h0 : OkS s ∧ s.ver ≤ s.ver ∧ s.ver ≤ s.ver + 1 := ⟨h, Nat.le_refl _, by omega⟩
  unfold finS
  rcases hd : ovrS o.t s.done with _ | c
  case some => exact h0
  simp only
  rcases hk : knoS o.t s.opn with _ | x
  case none =>
    simp only
    split
    · exact h0
    split
    · exact h0
    rename_i hl
    exact ⟨rel_ok h o h.rows hd (fun _ => by omega) hrk, Nat.le_refl _, Nat.le_succ _⟩
  simp only
  obtain ⟨hx, hxt⟩ := kno_some hk
  split
  · exact h0
  rename_i hcf
  split
  · rename_i hcp
    have hf : x.fm = true := by
      rcases hf : x.fm with _ | _
      · exact absurd ⟨hcp.1, hf⟩ hcf
      · rfl
    have hm : (s.ver + 1) % 18446744073709551616 = s.ver + 1 := Nat.mod_eq_of_lt (by omega)
    rw [hm]
    obtain ⟨h1, h2, h3⟩ := commit_all h hx hf (ver := s.ver + 1) (by omega)
    rw [if_neg (by omega)]
    refine ⟨rel_ok h o h2 hd (fun e => by rw [hk] at e; cases e) h3, ?_, ?_⟩
    · simp only [relS]; omega
    · simp only [relS]; omega
  · exact ⟨rel_ok h o h.rows hd (fun e => by rw [hk] at e; cases e) hrk, Nat.le_refl _, Nat.le_succ _⟩
theorem asks_ver (s : Sh) (o : Odr) : (asksS s o).1.ver = s.ver := by
  unfold asksS
  rcases ovrS o.t s.done with _ | c
  case some => rfl
  simp only
  split
  · rfl
  split
  · rfl
  split
  · rfl
  split
  · rfl
  split
  · rfl
  · rfl
theorem prep_ver (s : Sh) (o : Odr) : (prepS s o).1.ver = s.ver := by
  unfold prepS
  rcases ovrS o.t s.done with _ | c
  case some => rfl
  simp only
  rcases knoS o.t s.opn with _ | x
  case none => rfl
  simp only
  split
  · rfl
  split
  · split <;> rfl
  split
  · rfl
  split
  · rfl
  split <;> rfl
/-- Each order keeps it right. -/
theorem do_okS {s : Sh} (h : OkS s) (o : Odr) (hv : s.ver < 4611686018427387903) : OkS (doS s o).1 ∧ s.ver ≤ (doS s o).1.ver ∧ (doS s o).1.ver ≤ s.ver + 1 := by
  unfold doS
  split
  · exact ⟨asks_ok h o, by rw [asks_ver]; exact Nat.le_refl _, by rw [asks_ver]; omega⟩
  split
  · exact ⟨prep_ok h o, by rw [prep_ver]; exact Nat.le_refl _, by rw [prep_ver]; omega⟩
  split
  · exact fin_ok h o hv
  · exact ⟨h, Nat.le_refl _, Nat.le_succ _⟩
/-- The empty shard. -/
def nilS : Sh := ⟨[], [], [], [], 0⟩
theorem nil_ok : OkS nilS := ⟨by rfl, good_nil, by decide, by decide, by simp [nilS], fun x hx => by simp [nilS] at hx, fun x hx => by simp [nilS] at hx⟩
end Go.Proofs.Ythgnecggdlamfaa
