/- Two majorities have a voter in common: in plain words, and the statement. -/
import Derived.Test.YtmnakfonfpdneaaIc
namespace Go.Proofs.Ytmnakfonfpdneaa
open Go.RowKit

theorem meet_of {V V' U A B : List Nat} (h1 : ∀ x ∈ V, x ∈ U) (h2 : ∀ x ∈ V', x ∈ U) (hl : U.length < V.length / 2 + 1 + (V'.length / 2 + 1)) (hA : mostB V A = true) (hB : mostB V' B = true) : bothN B A = true := by
  unfold mostB at hA hB
  have hA := of_decide_eq_true hA
  have hB := of_decide_eq_true hB
  rw [← fr_len] at hA hB
  refine Classical.byContradiction fun hc => ?_
  have hno : ∀ x, x ∈ A → x ∈ B → False := fun x ha hb => hc (bothN_iff.2 ⟨x, ha, hb⟩)
  have mA := fun x => fr_mem V A x A.length (Nat.le_refl _)
  have mB := fun x => fr_mem V' B x B.length (Nat.le_refl _)
  simp only [List.take_length] at mA mB
  have hn : (fr V A A.length ++ fr V' B B.length).Nodup := List.nodup_append.2 ⟨fr_nodup _ _ _ (Nat.le_refl _), fr_nodup _ _ _ (Nat.le_refl _), fun x hx y hy e => by
    subst e; exact hno x ((mA x).1 hx).2 ((mB x).1 hy).2⟩
  have hle := nodup_le hn (B := U) fun x hx => by
    rcases List.mem_append.1 hx with h | h
    · exact h1 x ((mA x).1 h).1
    · exact h2 x ((mB x).1 h).1
  rw [List.length_append] at hle
  omega
theorem putN_mem {id x : Nat} : ∀ {L : List Nat}, x ∈ putN id L ↔ x = id ∨ x ∈ L
  | [] => by simp [putN]
  | y :: r => by
    simp only [putN]
    split
    · simp
    · simp only [List.mem_cons, putN_mem (L := r)]
      constructor
      · rintro (h | h | h)
        · exact .inr (.inl h)
        · exact .inl h
        · exact .inr (.inr h)
      · rintro (h | h | h)
        · exact .inr (.inl h)
        · exact .inl h
        · exact .inr (.inr h)
theorem putN_sorted {id : Nat} : ∀ {L : List Nat}, L.Pairwise (· < ·) → id ∉ L → (putN id L).Pairwise (· < ·)
  | [], _, _ => by simp [putN]
  | y :: r, h, hid => by
    obtain ⟨h1, h2⟩ := List.pairwise_cons.1 h
    simp only [putN]
    by_cases hy : id < y
    · rw [if_pos hy]
      refine List.pairwise_cons.2 ⟨fun z hz => ?_, h⟩
      rcases List.mem_cons.1 hz with rfl | hz
      · exact hy
      · have := h1 z hz; omega
    · rw [if_neg hy]
      refine List.pairwise_cons.2 ⟨fun z hz => ?_, putN_sorted h2 fun hm => hid (List.mem_cons_of_mem _ hm)⟩
      rcases putN_mem.1 hz with rfl | hz
      · have : z ≠ y := fun e => hid (by rw [e]; exact List.mem_cons_self)
        omega
      · exact h1 z hz
theorem lessN_mem {id x : Nat} {L : List Nat} : x ∈ lessN id L ↔ x ∈ L ∧ x ≠ id := by simp [lessN]
theorem lessN_sorted {id : Nat} {L : List Nat} (h : L.Pairwise (· < ·)) : (lessN id L).Pairwise (· < ·) := h.filter _
theorem lessN_no {id : Nat} {L : List Nat} (h : id ∉ L) : lessN id L = L := by
  unfold lessN
  refine List.filter_eq_self.2 fun x hx => ?_
  have : x ≠ id := fun e => h (e ▸ hx)
  simp [this]
theorem lessN_len {id : Nat} : ∀ {L : List Nat}, L.Pairwise (· < ·) → L.length ≤ (lessN id L).length + 1
  | [], _ => by simp
  | y :: r, h => by
    obtain ⟨h1, h2⟩ := List.pairwise_cons.1 h
    by_cases e : y = id
    · subst e
      have hn : y ∉ r := fun hm => by have := h1 y hm; omega
      have : lessN y (y :: r) = lessN y r := by simp [lessN]
      rw [this, lessN_no hn]; simp
    · have : lessN id (y :: r) = y :: lessN id r := by simp [lessN, e]
      rw [this]
      have := lessN_len (id := id) h2
      simp only [List.length_cons]; omega
/-- What is behind a change that is made may be, and its voters are near. -/
theorem next_may {V L : List Nat} {kd : Int} {id : Nat} (h : (nxtF V L kd id).2 = 0) : mayB (nxtF V L kd id).1.1 (nxtF V L kd id).1.2 = true ∧ ((nxtF V L kd id).1.1 = V ∨ (nxtF V L kd id).1.1 = putN id V ∨ ((nxtF V L kd id).1.1 = lessN id V)) := by
  unfold nxtF at h ⊢
  by_cases hc : (mayB V L && decide (1 ≤ id ∧ id ≤ 63)) = true
  case neg => rw [if_neg hc] at h; cases h
  rw [if_pos hc] at h ⊢
  simp only [Bool.and_eq_true, decide_eq_true_eq] at hc
  obtain ⟨hm, hi1, hi2⟩ := hc
  obtain ⟨⟨m1, m2, m3⟩, m4, m5, m6, m7, m8⟩ := mayB_iff.1 hm
  by_cases k1 : kd = 1
  · rw [if_pos k1] at h ⊢
    unfold lrnF at h ⊢
    by_cases q1 : (hasN id V || hasN id L) = true
    · rw [if_pos q1] at h; cases h
    rw [if_neg q1] at h ⊢
    by_cases q2 : 3 ≤ L.length
    · rw [if_pos q2] at h; cases h
    rw [if_neg q2] at h ⊢
    simp only [Bool.or_eq_true, hasN_iff, not_or] at q1
    refine ⟨mayB_iff.2 ⟨⟨m1, m2, by rw [putN_len]; omega⟩, m4, m5, fun x hx => ?_, putN_sorted m7 q1.2, fun x hx => ?_⟩, .inl rfl⟩
    · rcases putN_mem.1 hx with rfl | hx
      · omega
      · exact m6 x hx
    · rcases putN_mem.1 hx with rfl | hx
      · exact q1.1
      · exact m8 x hx
  rw [if_neg k1] at h ⊢
  by_cases k2 : kd = 2
  · rw [if_pos k2] at h ⊢
    unfold votF at h ⊢
    by_cases q1 : (!hasN id L) = true
    · rw [if_pos q1] at h; cases h
    rw [if_neg q1] at h ⊢
    by_cases q2 : 7 ≤ V.length
    · rw [if_pos q2] at h; cases h
    rw [if_neg q2] at h ⊢
    simp only [Bool.not_eq_true', Bool.not_eq_false, hasN_iff] at q1
    refine ⟨mayB_iff.2 ⟨⟨by rw [putN_len]; omega, by rw [putN_len]; omega, Nat.le_trans (List.length_filter_le _ _) m3⟩, fun x hx => ?_, putN_sorted m5 (m8 id q1), fun x hx => m6 x (lessN_mem.1 hx).1, lessN_sorted m7, fun x hx hv => ?_⟩, .inr (.inl rfl)⟩
    · rcases putN_mem.1 hx with rfl | hx
      · omega
      · exact m4 x hx
    · rcases putN_mem.1 hv with rfl | hv
      · exact (lessN_mem.1 hx).2 rfl
      · exact m8 x (lessN_mem.1 hx).1 hv
  rw [if_neg k2] at h ⊢
  by_cases k3 : kd = 3
  · rw [if_pos k3] at h ⊢
    unfold levF at h ⊢
    by_cases q1 : (!hasN id V && !hasN id L) = true
    · rw [if_pos q1] at h; cases h
    rw [if_neg q1] at h ⊢
    by_cases q2 : (hasN id V && decide (V.length = 1)) = true
    · rw [if_pos q2] at h; cases h
    rw [if_neg q2] at h ⊢
    refine ⟨mayB_iff.2 ⟨⟨?_, Nat.le_trans (List.length_filter_le _ _) m2, Nat.le_trans (List.length_filter_le _ _) m3⟩, fun x hx => m4 x (lessN_mem.1 hx).1, lessN_sorted m5, fun x hx => m6 x (lessN_mem.1 hx).1, lessN_sorted m7, fun x hx hv => m8 x (lessN_mem.1 hx).1 (lessN_mem.1 hv).1⟩, .inr (.inr rfl)⟩
    by_cases hv : id ∈ V
    · have hl := lessN_len (id := id) m5
      have : V.length ≠ 1 := fun e => q2 (by rw [hasN_iff.2 hv, decide_eq_true e]; rfl)
      show 0 < (lessN id V).length
      omega
    · show 0 < (lessN id V).length
      rw [lessN_no hv]; exact m1
  rw [if_neg k3] at h
  cases h
theorem next_meets {V L A B : List Nat} {kd : Int} {id : Nat} (hm : mayB V L = true) (h : (nxtF V L kd id).2 = 0) (hA : mostB V A = true) (hB : mostB (nxtF V L kd id).1.1 B = true) : bothN B A = true := by
  obtain ⟨_, h2⟩ := next_may h
  obtain ⟨_, _, m5, _⟩ := mayB_iff.1 hm
  generalize (nxtF V L kd id).1.1 = V' at *
  rcases h2 with rfl | rfl | rfl
  · exact meet_of (U := V') (fun x hx => hx) (fun x hx => hx) (by omega) hA hB
  · exact meet_of (U := putN id V) (fun x hx => putN_mem.2 (.inr hx)) (fun x hx => hx) (by rw [putN_len]; omega) hA hB
  · have := lessN_len (id := id) m5
    have h3 : (lessN id V).length ≤ V.length := List.length_filter_le _ _
    exact meet_of (U := V) (fun x hx => hx) (fun x hx => (lessN_mem.1 hx).1) (by omega) hA hB
theorem same_meets {V A B : List Nat} (hA : mostB V A = true) (hB : mostB V B = true) : bothN B A = true := meet_of (U := V) (fun x hx => hx) (fun x hx => hx) (by omega) hA hB
set_option maxHeartbeats 1000000 in
theorem common_any (n c m d : Nat) (a a2 : Option Addr) (A B : List Nat) (hn : A.length = n) (hl : n ≤ 140737488351232) (hm : B.length = m) (hl2 : m ≤ 140737488351232) (w : World) (hA : Us w a A) (hB : Us w a2 B) :
    Calls Try.prog 25 #[.slice a n c, .slice a2 m d] w fun e w' => e = .returned (.bool (bothN B A)) ∧ w = w' := by
  have HN := Lib.hid hn
  have HM := Lib.hid hm
  have HA := Lib.hid hA
  have HB := Lib.hid hB
  clear hn hm hA hB
  go_enter Try.func25, Try.ntmps25
  go_wp2_with fail
  go_loop [5, 6] (fun u _ => ∃ k : Nat, k ≤ n ∧ u = .int .i64 k ∧ bothN B A = bothN B (A.drop k)) (fun u _ => n - (intOf u).toNat)
  case atStart => exact ⟨0, Nat.zero_le _, rfl, rfl⟩
  case round =>
    obtain ⟨k, hk, rfl, hf⟩ := hrel
    have HFB := Lib.hid hf
    clear hf
    by_cases hlt : k < n
    · obtain ⟨x, hx⟩ : ∃ x, A[k]? = some x := ⟨_, List.getElem?_eq_getElem (by rw [HN.out]; exact hlt)⟩
      have i0 : (0 : Int) ≤ (k : Int) := by omega
      have i1 : (k : Int) < (n : Int) := by omega
      obtain ⟨b, off, rfl, hb, p0⟩ := HA.out k x hx
      have HFA := Lib.hid (HFB.out.trans (bothN_at (V := B) hx))
      clear hx
      obtain ⟨h, hh⟩ : ∃ h, hasN x B = h := ⟨_, rfl⟩
      have HH := Lib.hid hh
      clear hh
      go_wp2_with fail
      refine (rHas_any x m d a2 B HM.out hl2 _ HB.out).mono ?_
      rintro e w2 ⟨rfl, rfl⟩
      rw [HH.out]
      cases h
      · have HT := Lib.hid (show bothN B A = bothN B (A.drop (k + 1)) by rw [HFA.out, HH.out]; rfl)
        go_wp2_with fail
        go_round
        case rel => exact ⟨k + 1, by omega, by go_num, HT.out⟩
        case measure => simp [intOf]; omega
      · have HT := Lib.hid (show bothN B A = true by rw [HFA.out, HH.out]; rfl)
        go_wp2_with fail
        go_ret
        exact ⟨by rw [HT.out]; first | rfl | simp, rfl⟩
    · have HT := Lib.hid (show bothN B A = false by rw [HFB.out, List.drop_eq_nil_of_le (by rw [HN.out]; omega)]; rfl)
      go_wp2_with fail
      go_ret
      exact ⟨by rw [HT.out]; first | rfl | simp, rfl⟩
end Go.Proofs.Ytmnakfonfpdneaa
