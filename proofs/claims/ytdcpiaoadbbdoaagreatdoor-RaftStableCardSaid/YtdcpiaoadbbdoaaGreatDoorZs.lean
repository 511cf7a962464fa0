/- What must be kept may be written down at all times (pure). -/
import Derived.Test.YtdcpiaoadbbdoaaGreatDoorRtake
import Derived.Test.YtdcpiaoadbbdoaaGreatDoorZk
set_option maxRecDepth 100000
set_option maxHeartbeats 16000000
namespace Go.Proofs.YtdcpiaoadbbdoaaGreatDoor
open Go.RowKit

structure Lo (term bt : Nat) (L : List En) : Prop where
  all : ∀ x ∈ L, bt ≤ x.t ∧ x.t ≤ term ∧ x.d.size ≤ 4096
  asc : L.Pairwise fun x y => x.t ≤ y.t
theorem Lo.iff {term bt : Nat} {L : List En} : (∀ k, entOk term bt L k) ↔ Lo term bt L := by
  constructor
  · intro h
    refine ⟨fun x hx => ?_, ?_⟩
    · obtain ⟨k, hk⟩ := List.mem_iff_getElem?.1 hx
      obtain ⟨h1, h2, _, h4⟩ := h k x hk
      exact ⟨h2, h1, h4⟩
    · have hs : ∀ (j i : Nat) (x y : En), L[i]? = some x → L[j]? = some y → i ≤ j → x.t ≤ y.t := by
        intro j
        induction j with
        | zero => intro i x y hx hy hij; obtain rfl : i = 0 := by omega
                  rw [hx] at hy; cases hy; exact Nat.le_refl _
        | succ j ih =>
          intro i x y hx hy hij
          by_cases e : i = j + 1
          · subst e; rw [hx] at hy; cases hy; exact Nat.le_refl _
          · have hj := (List.getElem?_eq_some_iff.1 hy).1
            obtain ⟨z, hz⟩ : ∃ z, L[j]? = some z := ⟨_, List.getElem?_eq_getElem (by omega)⟩
            have h1 := ih i x z hx hz (by omega)
            have h2 := (h (j + 1) y hy).2.2.1 z (by omega) hz
            omega
      rw [List.pairwise_iff_getElem]
      intro i j hi hj hij
      exact hs j i _ _ (List.getElem?_eq_getElem hi) (List.getElem?_eq_getElem hj) (by omega)
  · rintro ⟨h1, h2⟩ k x hx
    obtain ⟨a, b, c⟩ := h1 x (List.mem_of_getElem? hx)
    refine ⟨b, a, fun y hk hy => ?_, c⟩
    obtain ⟨i1, e1⟩ := List.getElem?_eq_some_iff.1 hy
    obtain ⟨i2, e2⟩ := List.getElem?_eq_some_iff.1 hx
    have := List.pairwise_iff_getElem.1 h2 (k - 1) k i1 i2 (by omega)
    rw [e1, e2] at this; exact this
theorem Lo.mono {t t' bt : Nat} {L : List En} (h : Lo t bt L) (ht : t ≤ t') : Lo t' bt L := ⟨fun x hx => by have := h.all x hx; omega, h.asc⟩
theorem Lo.sub {t bt bt' : Nat} {L M : List En} (h : Lo t bt L) (hs : M.Sublist L) (hb : ∀ x ∈ M, bt' ≤ x.t) : Lo t bt' M := ⟨fun x hx => ⟨hb x hx, (h.all x (hs.subset hx)).2⟩, h.asc.sublist hs⟩
theorem Lo.last {t bt : Nat} {L : List En} (h : Lo t bt L) : ∀ x ∈ L, x.t ≤ lastT bt L := fun x hx => by
  obtain ⟨k, hk⟩ := List.mem_iff_getElem?.1 hx
  have h1 := (List.getElem?_eq_some_iff.1 hk).1
  unfold lastT
  obtain ⟨z, hz⟩ : ∃ z, L[L.length - 1]? = some z := ⟨_, List.getElem?_eq_getElem (by omega)⟩
  rw [hz]
  by_cases e : k = L.length - 1
  · subst e; rw [hk] at hz; cases hz; exact Nat.le_refl _
  · obtain ⟨i1, e1⟩ := List.getElem?_eq_some_iff.1 hk
    obtain ⟨i2, e2⟩ := List.getElem?_eq_some_iff.1 hz
    have := List.pairwise_iff_getElem.1 h.asc k (L.length - 1) i1 i2 (by omega)
    rw [e1, e2] at this; exact this
theorem lastT_bt {bt : Nat} {L : List En} {t : Nat} (h : Lo t bt L) : bt ≤ lastT bt L := by
  unfold lastT
  split
  · rename_i x hx; exact (h.all x (List.mem_of_getElem? hx)).1
  · exact Nat.le_refl _
structure Sg (term : Nat) (g : Lg) : Prop where
  bt : g.bt ≤ term
  zero : g.base = 0 → g.bt = 0 ∧ g.snap.size = 0
  snap : g.snap.size ≤ 4096
  lo : Lo term g.bt g.L
structure Sv (p : Pn) : Prop where
  vote : p.vote ≤ 4611686018427387903
  g : Sg p.term p.g
theorem Sv.st {p : Pn} (h : Sv p) (hi : Iv p) : stOk p.term p.vote p.g.base p.g.bt p.g.snap p.g.L :=
  ⟨hi.term, h.vote, by have := hi.g.top; omega, hi.g.len, hi.g.top, h.g.snap, h.g.bt, h.g.zero, Lo.iff.2 h.g.lo⟩
theorem Sg.mono {t t' : Nat} {g : Lg} (h : Sg t g) (ht : t ≤ t') : Sg t' g := ⟨Nat.le_trans h.bt ht, h.zero, h.snap, h.lo.mono ht⟩
theorem sg_add {t : Nat} {g : Lg} (h : Sg t g) {x : En} (hx : x.t ≤ t) (hd : x.d.size ≤ 4096) (h0 : addE g x = 0) : Sg t (addG g x) := by
  unfold addG
  rw [if_pos h0]
  unfold addE at h0
  split at h0
  · cases h0
  · split at h0
    · cases h0
    · rename_i h1 h2
      have hl := lastT_bt h.lo
      refine ⟨h.bt, h.zero, h.snap, ⟨fun y hy => ?_, ?_⟩⟩
      · rcases List.mem_append.1 hy with hy | hy
        · exact h.lo.all y hy
        · rw [List.mem_singleton.1 hy]; exact ⟨by show g.bt ≤ x.t; omega, hx, hd⟩
      · show (g.L ++ [x]).Pairwise _
        rw [List.pairwise_append]
        refine ⟨h.lo.asc, List.pairwise_singleton _ _, fun a ha b hb => ?_⟩
        rw [List.mem_singleton.1 hb]
        have := h.lo.last a ha
        omega
theorem sg_joinC {t pv lt : Nat} {g : Lg} {E : List En} (h : Sg t g) (hpv : g.base ≤ pv) (hE : Lo t g.bt E) (hl : ∀ x ∈ E, hasB g.base g.bt g.L pv lt = true → lt ≤ x.t) : Sg t (joinC g pv lt E).1 := by
  unfold joinC
  split
  · exact h
  · rename_i h1
    have h1 : hasB g.base g.bt g.L pv lt = true := by simpa using h1
    split
    · exact h
    · refine ⟨h.bt, h.zero, h.snap, ?_⟩
      show Lo t g.bt (joinL g pv E)
      unfold joinL
      split
      · rename_i h3
        have hD : ∀ y ∈ E.drop (knF g.base g.bt g.L pv E), ∀ x ∈ g.L.take (pv + knF g.base g.bt g.L pv E - g.base), x.t ≤ y.t := by
          intro y hy x hx
          have htop := knF_top (E := E) h1
          -- the last one that is taken
          rcases Nat.eq_zero_or_pos (pv + knF g.base g.bt g.L pv E - g.base) with h0 | h0
          · rw [h0, List.take_zero] at hx; cases hx
          obtain ⟨z, hz⟩ : ∃ z, g.L[pv + knF g.base g.bt g.L pv E - g.base - 1]? = some z := ⟨_, List.getElem?_eq_getElem (by omega)⟩
          have hxz : x.t ≤ z.t := by
            obtain ⟨k, hk⟩ := List.mem_iff_getElem?.1 hx
            have hk1 := (List.getElem?_eq_some_iff.1 hk).1
            rw [List.length_take] at hk1
            rw [List.getElem?_take_of_lt (by omega)] at hk
            by_cases e : k = pv + knF g.base g.bt g.L pv E - g.base - 1
            · subst e; rw [hk] at hz; cases hz; exact Nat.le_refl _
            · obtain ⟨i1, e1⟩ := List.getElem?_eq_some_iff.1 hk
              obtain ⟨i2, e2⟩ := List.getElem?_eq_some_iff.1 hz
              have := List.pairwise_iff_getElem.1 h.lo.asc k _ i1 i2 (by omega)
              rw [e1, e2] at this; exact this
          have hzt : ∀ i u, i = pv + knF g.base g.bt g.L pv E → hasB g.base g.bt g.L i u = true → z.t = u := by
            intro i u hi hh
            have := tAtZ_in (base := g.base) (bt := g.bt) hz
            rw [show g.base + (pv + knF g.base g.bt g.L pv E - g.base - 1) + 1 = i by omega] at this
            unfold hasB at hh
            rw [this] at hh
            simpa using hh
          have hyE : y ∈ E := List.mem_of_mem_drop hy
          rcases Nat.eq_zero_or_pos (knF g.base g.bt g.L pv E) with hk0 | hk0
          · have := hzt pv lt (by omega) h1
            have := hl y hyE h1
            omega
          · obtain ⟨u, hu⟩ : ∃ u, E[knF g.base g.bt g.L pv E - 1]? = some u := ⟨_, List.getElem?_eq_getElem (by omega)⟩
            have hh := knF_has g.base g.bt g.L E pv _ u (by omega) hu
            have h5 := hzt _ _ (by omega) hh
            obtain ⟨j, hj⟩ := List.mem_iff_getElem?.1 hy
            rw [List.getElem?_drop] at hj
            obtain ⟨i1, e1⟩ := List.getElem?_eq_some_iff.1 hu
            obtain ⟨i2, e2⟩ := List.getElem?_eq_some_iff.1 hj
            have := List.pairwise_iff_getElem.1 hE.asc _ _ i1 i2 (by omega)
            rw [e1, e2] at this
            omega
        refine ⟨fun x hx => ?_, ?_⟩
        · rcases List.mem_append.1 hx with hx | hx
          · exact h.lo.all x (List.mem_of_mem_take hx)
          · exact hE.all x (List.mem_of_mem_drop hx)
        · rw [List.pairwise_append]
          exact ⟨h.lo.asc.sublist (List.take_sublist _ _), hE.asc.sublist (List.drop_sublist _ _), fun x hx y hy => hD y hy x hx⟩
      · exact h.lo
structure Ft (m : Mg) (g : Lg) : Prop where
  low : ∀ x ∈ m.es, m.lt ≤ x.t
  asc : m.es.Pairwise fun x y => x.t ≤ y.t
  all : ∀ x ∈ m.es, g.bt ≤ x.t ∧ x.t ≤ m.term ∧ x.d.size ≤ 4096
theorem sg_join {t : Nat} {g : Lg} {m : Mg} (h : Sg t g) (hf : Ft m g) (ht : m.term ≤ t) : Sg t (joinG g m.i m.lt m.es).1 := by
  have hE : Lo t g.bt m.es := ⟨fun x hx => by have := hf.all x hx; omega, hf.asc⟩
  unfold joinG; split
  · refine sg_joinC h (Nat.le_refl _) (hE.sub (List.drop_sublist _ _) fun x hx => (hE.all x (List.mem_of_mem_drop hx)).1) fun x hx _ => (hE.all x (List.mem_of_mem_drop hx)).1
  · exact sg_joinC h (by omega) hE fun x hx _ => hf.low x hx
theorem sg_ins {t i lt : Nat} {g : Lg} {s : ByteArray} (h : Sg t g) (h1 : 0 < i) (h2 : lt ≤ t) (h3 : s.size ≤ 4096) : Sg t (insG g i lt s) := by
  unfold insG; split
  · exact h
  · rename_i hb
    refine ⟨h2, fun e => ?_, h3, ?_⟩
    · have e : i = 0 := e
      omega
    · show Lo t lt (if hasB g.base g.bt g.L i lt then g.L.drop (i - g.base) else [])
      split
      · rename_i hh
        refine h.lo.sub (List.drop_sublist _ _) fun x hx => ?_
        have htop := hasB_top hh
        obtain ⟨z, hz⟩ : ∃ z, g.L[i - g.base - 1]? = some z := ⟨_, List.getElem?_eq_getElem (by omega)⟩
        have := tAtZ_in (base := g.base) (bt := g.bt) hz
        rw [show g.base + (i - g.base - 1) + 1 = i by omega] at this
        unfold hasB at hh
        rw [this] at hh
        have hzt : z.t = lt := by simpa using hh
        obtain ⟨j, hj⟩ := List.mem_iff_getElem?.1 hx
        rw [List.getElem?_drop] at hj
        obtain ⟨i1, e1⟩ := List.getElem?_eq_some_iff.1 hz
        obtain ⟨i2, e2⟩ := List.getElem?_eq_some_iff.1 hj
        have := List.pairwise_iff_getElem.1 h.lo.asc _ _ i1 i2 (by omega)
        rw [e1, e2] at this
        omega
      · exact ⟨fun x hx => (by cases hx), List.Pairwise.nil⟩
theorem Sv.of {p q : Pn} (h : Sv p) (hg : q.g = p.g) (ht : p.term ≤ q.term) (hv : q.vote ≤ 4611686018427387903) : Sv q := ⟨hv, by rw [hg]; exact h.g.mono ht⟩
theorem sv_follow {p : Pn} (h : Sv p) (t : Nat) : Sv (followP p t) := h.of rfl (tv_follow p t).term (by show (if p.term < t then 0 else p.vote) ≤ _; have := h.vote; split <;> omega)
theorem sv_commit {p : Pn} (h : Sv p) : Sv (commitP p) := by
  obtain ⟨_, h2, h3, _⟩ := commit_same p
  exact h.of (commit_kc p).2 (Nat.le_of_eq h2.symm) (by rw [h3]; exact h.vote)
theorem sv_addP {p : Pn} (h : Sv p) {dt : ByteArray} (hd : dt.size ≤ 4096) (h0 : addX p dt = 0) : Sv (addP p dt) := ⟨h.vote, sg_add h.g (Nat.le_refl _) hd h0⟩
theorem sv_lead {p : Pn} (h : Sv p) : Sv (leadP p).1 := by
  have h0 : Sv (lead0 p) := h.of rfl (Nat.le_refl _) h.vote
  rw [leadP_eq]; split
  · rename_i e
    exact sv_commit ((sv_addP h0 (by decide) e).of (q := remarkP (addP (lead0 p) ⟨#[]⟩)) rfl (Nat.le_refl _) h.vote)
  · exact sv_follow h0 _
theorem sv_countC {p : Pn} (h : Sv p) : Sv (countC p).1 := by
  unfold countC; split
  · exact sv_lead h
  · split
    · exact sv_follow h _
    · exact h
theorem sv_count {p : Pn} (h : Sv p) (hi : Iv p) : Sv (countP p).1 := by
  unfold countP; split
  · split
    · rename_i e
      have := hi.asks e
      have := hi.id.2
      exact sv_countC (h.of (q := standQ p) rfl (by show p.term ≤ (p.term + 1) % 18446744073709551616; omega) (by show p.id ≤ _; omega))
    · exact sv_lead h
  · split
    · exact sv_follow h _
    · exact h
theorem sv_tick {p : Pn} (h : Sv p) (hi : Iv p) (n : Nat) : Sv (tickP p n).1 := by
  unfold tickP; split
  · unfold beatP; split <;> exact h.of rfl (Nat.le_refl _) h.vote
  · split
    · exact h.of rfl (Nat.le_refl _) h.vote
    · split
      · exact h.of rfl (Nat.le_refl _) h.vote
      · rename_i e
        have h1 : Sv (askQ { lessH p with span := 10 + (n % 10 : Nat), wait := 10 + (n % 10 : Nat) }) := h.of rfl (Nat.le_refl _) h.vote
        refine sv_count h1 (iv_askQ (hi.times rfl rfl rfl rfl rfl id hi.commit rfl rfl rfl) ?_)
        show p.term < _; omega
theorem sv_say {p : Pn} (h : Sv p) (hi : Iv p) {m : Mg} (hm : m.fr ≤ 63) : Sv (sayP p m).1 :=
  sv_count (p := { p with voices := sayL p.voices m.fr m.ok }) (h.of rfl (Nat.le_refl _) h.vote) ⟨hi.id, hi.may, hi.term, hi.asks, hi.vote, hi.g, hi.commit, ion_say hi.voices hm m.ok, hi.next, hi.mat, hi.marks, hi.nexts⟩
theorem sv_fore {p : Pn} (h : Sv p) (hi : Iv p) {m : Mg} (hm : m.fr ≤ 63) : Sv (foretP p m).1 := by
  rcases foret_cases p m with e | e | e <;> rw [e]
  · exact sv_say h hi hm
  · exact sv_follow h _
  · exact h
theorem sv_vote {p : Pn} (h : Sv p) {m : Mg} (hm : m.fr ≤ 63) : Sv (voteP p m) := by
  obtain ⟨_, h2⟩ := ans_top p m
  have hg : (voteP p m).g = p.g := by show (voteQ p m).g = _; unfold voteQ; split <;> rfl
  refine h.of hg (tv_vote p m).term ?_
  rw [(vote_term p m).2.2]
  have := h.vote
  omega
theorem sv_up {p : Pn} (h : Sv p) (t : Nat) : Sv (upP p t) := by
  unfold upP; split
  · exact sv_follow h t
  · exact h
theorem sv_heard {p : Pn} (h : Sv p) (fr : Nat) : Sv (heardP p fr) := (sv_follow h p.term).of rfl (Nat.le_refl _) (sv_follow h p.term).vote
theorem sv_reply {p : Pn} (h : Sv p) (m : Mg) : Sv (replyP p m).1 := by
  have hg : (replyP p m).1.g = p.g := by
    unfold replyP; split
    · rfl
    · split
      · rfl
      · split
        · rfl
        · have := (commit_kc { p with mat := setN m.fr (max (mrkN m.fr p.mat) m.i) p.mat, next := setN m.fr ((max (mrkN m.fr p.mat) m.i + 1) % 18446744073709551616) p.next }).2
          split <;> exact this
  obtain ⟨_, h2, h3, _⟩ := reply_same p m
  exact h.of hg (Nat.le_of_eq h2.symm) (by rw [h3]; exact h.vote)
theorem sv_inst {p : Pn} (h : Sv p) (m : Mg) : Sv (instP p m).1 := by
  show Sv (instQ p m)
  unfold instQ; split
  · rename_i e
    exact ⟨h.vote, sg_ins h.g (by have := e.2.2.2.1; omega) e.2.2.1 e.2.1⟩
  · exact h
theorem sv_term {p : Pn} (h : Sv p) (hi : Iv p) {m : Mg} (hm : m.fr ≤ 63) (ht : m.term ≤ 4611686018427387903) : Sv (termP p m).1 ∨ ¬ Ft m p.g := by
  have hu := sv_up h m.term
  have hui := iv_up hi ht
  have hh := sv_heard hu m.fr
  unfold termP
  split
  · exact .inl hu
  · rename_i h1
    split
    · exact .inl hu
    · rename_i h2
      split
      · by_cases hf : Ft m p.g
        · refine .inl ?_
          have hgg : (heardP (upP p m.term) m.fr).g = p.g := (up_kc p m.term).2
          have hf' : Ft m (heardP (upP p m.term) m.fr).g := by rw [hgg]; exact hf
          have htt : m.term ≤ (heardP (upP p m.term) m.fr).term := by
            rw [(heard_same _ _).2.1]
            by_cases hl : p.term < m.term
            · rw [((up_term p m.term).2.1 hl).2]; exact Nat.le_refl _
            · rw [(up_term p m.term).2.2 hl]; omega
          unfold joinP; split
          · exact hh
          · exact ⟨hh.vote, sg_join hh.g hf' htt⟩
        · exact .inr hf
      · split
        · exact .inl (sv_inst hh m)
        · split
          · exact .inl (sv_reply hu m)
          · split
            · exact .inl (sv_say hu hui hm)
            · exact .inl hu
theorem sv_hear {p : Pn} (h : Sv p) (hi : Iv p) (m : Mg) : Sv (hearP p m).1 ∨ ¬ Ft m p.g := by
  unfold hearP
  split
  · exact .inl h
  · rename_i e
    have hf : m.fr ≤ 63 := by omega
    split
    · exact .inl h
    · split
      · exact .inl (sv_vote h hf)
      · split
        · exact .inl (sv_fore h hi hf)
        · split
          · exact sv_term h hi hf (by omega)
          · exact .inl h
theorem sv_does {p : Pn} (h : Sv p) (hi : Iv p) (a : Ac) : Sv (doesP p a) ∨ (a.k = 2 ∧ ¬ Ft a.m p.g) := by
  unfold doesP
  split
  · exact .inl (sv_tick h hi a.n)
  · split
    · rename_i e; exact (sv_hear h hi a.m).imp id fun h => ⟨e, h⟩
    · split
      · split
        · rename_i e
          refine .inl (sv_commit (sv_addP h ?_ (off_add e)))
          unfold offX at e
          split at e
          · cases e
          · split at e
            · cases e
            · rw [pre_size]; omega
        · exact .inl h
      · split
        · split
          · rename_i e
            refine .inl (sv_commit ((sv_addP h ?_ (chg_add e)).of (q := remarkP (addP p (chgD p a.xk a.xi))) rfl (Nat.le_refl _) h.vote))
            have := byG_len (nxC p a.xk a.xi).1.1 (nxC p a.xk a.xi).1.2
            unfold chgD; rw [pre_size, mk_size]; omega
          · exact .inl h
        · split
          · split
            · rename_i e
              unfold cmpX at e
              split at e
              · cases e
              · split at e
                · cases e
                · rename_i h1 h2
                  refine .inl ⟨h.vote, sg_ins h.g (by omega) ?_ (by omega)⟩
                  unfold tAt
                  split
                  · exact h.g.bt
                  · split
                    · exact Nat.zero_le _
                    · split
                      · rename_i x hx
                        exact (h.g.lo.all x (List.mem_of_getElem? hx)).2.1
                      · exact Nat.zero_le _
            · exact .inl h
          · exact .inl h
end Go.Proofs.YtdcpiaoadbbdoaaGreatDoor
