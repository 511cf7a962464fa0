/- Majorities: the document's Most; both are one. -/
import Derived.Test.YtmcmanjniloeaaaGv
namespace Go.Proofs.Ytmcmanjniloeaaa
open Go.RowKit

/-- The first of each among the first k of I that are in V. -/
def fr (V I : List Nat) : Nat → List Nat
  | 0 => []
  | k + 1 => if hasN (I.getD k 0) V && !hasN (I.getD k 0) (I.take k) then fr V I k ++ [I.getD k 0] else fr V I k
theorem fr_len (V I : List Nat) : ∀ k, (fr V I k).length = cntK V I k
  | 0 => rfl
  | k + 1 => by
    have := fr_len V I k
    simp only [fr, cntK]
    split <;> simp [this]
theorem fr_mem (V I : List Nat) (x : Nat) : ∀ k, k ≤ I.length → (x ∈ fr V I k ↔ x ∈ V ∧ x ∈ I.take k)
  | 0, _ => by simp [fr]
  | k + 1, hk => by
    have ih := fr_mem V I x k (by omega)
    have e : I.take (k + 1) = I.take k ++ [I.getD k 0] := by
      rw [List.take_add_one, List.getElem?_eq_getElem (by omega : k < I.length)]; simp [List.getD, List.getElem?_eq_getElem (by omega : k < I.length)]
    rw [e]
    simp only [fr]
    by_cases h : (hasN (I.getD k 0) V && !hasN (I.getD k 0) (I.take k)) = true
    · rw [if_pos h]
      simp only [Bool.and_eq_true, Bool.not_eq_true', hasN_not, hasN_iff] at h
      simp only [List.mem_append, ih, List.mem_singleton]
      constructor
      · rintro (⟨h1, h2⟩ | rfl)
        · exact ⟨h1, .inl h2⟩
        · exact ⟨h.1, .inr rfl⟩
      · rintro ⟨h1, h2 | rfl⟩
        · exact .inl ⟨h1, h2⟩
        · exact .inr rfl
    · rw [if_neg h, ih]
      simp only [List.mem_append, List.mem_singleton]
      constructor
      · rintro ⟨h1, h2⟩; exact ⟨h1, .inl h2⟩
      · rintro ⟨h1, h2 | rfl⟩
        · exact ⟨h1, h2⟩
        · refine ⟨h1, Classical.byContradiction fun h2 => h ?_⟩
          simp only [Bool.and_eq_true, Bool.not_eq_true', hasN_not, hasN_iff]
          exact ⟨h1, h2⟩
theorem fr_nodup (V I : List Nat) : ∀ k, k ≤ I.length → (fr V I k).Nodup
  | 0, _ => List.nodup_nil
  | k + 1, hk => by
    have ih := fr_nodup V I k (by omega)
    simp only [fr]
    by_cases h : (hasN (I.getD k 0) V && !hasN (I.getD k 0) (I.take k)) = true
    · rw [if_pos h]
      simp only [Bool.and_eq_true, Bool.not_eq_true', hasN_not, hasN_iff] at h
      refine List.nodup_append.2 ⟨ih, by simp, ?_⟩
      intro a ha b hb
      obtain rfl : b = I.getD k 0 := by simpa using hb
      rintro rfl
      exact h.2 ((fr_mem V I _ k (by omega)).1 ha).2
    · rw [if_neg h]; exact ih
/-- Lists without doubles, one within the other. -/
theorem nodup_le : ∀ {A B : List Nat}, A.Nodup → (∀ x ∈ A, x ∈ B) → A.length ≤ B.length
  | [], _, _, _ => Nat.zero_le _
  | x :: r, B, hn, hs => by
    obtain ⟨h1, h2⟩ := List.nodup_cons.1 hn
    have hx := hs x (by simp)
    have := nodup_le (A := r) (B := B.erase x) h2 fun y hy => (List.mem_erase_of_ne (by rintro rfl; exact h1 hy)).2 (hs y (by simp [hy]))
    rw [List.length_erase_of_mem hx] at this
    have := List.length_pos_of_mem hx
    simp only [List.length_cons]; omega
theorem cntK_comm (V I : List Nat) : cntK V I I.length = cntK I V V.length := by
  rw [← fr_len, ← fr_len]
  have h1 := fun x => fr_mem V I x I.length (Nat.le_refl _)
  have h2 := fun x => fr_mem I V x V.length (Nat.le_refl _)
  simp only [List.take_length] at h1 h2
  exact Nat.le_antisymm (nodup_le (fr_nodup V I _ (Nat.le_refl _)) fun x hx => (h2 x).2 ⟨((h1 x).1 hx).2, ((h1 x).1 hx).1⟩) (nodup_le (fr_nodup I V _ (Nat.le_refl _)) fun x hx => (h1 x).2 ⟨((h2 x).1 hx).2, ((h2 x).1 hx).1⟩)
set_option maxHeartbeats 4000000 in
theorem rMost_any (n c n2 c2 m d : Nat) (a a2 a3 : Option Addr) (V I : List Nat) (hn : V.length = n) (hl : n ≤ 140737488351232) (hc : n ≤ c) (hc2 : c ≤ 9223372036854775807) (hm : I.length = m) (hl2 : m ≤ 140737488351232) (w : World) (hV : Us w a V) (hI : Us w a3 I) :
    Calls Try.prog 15 #[.agg #[.slice a n c, .slice a2 n2 c2], .slice a3 m d] w fun e w' => e = .returned (.bool (mostB V I)) ∧ Below w.heap.size w w' := by
  have B0 : Below w.heap.size w (w.alloc (.cells #[.slice a n c, .slice a2 n2 c2] 41)) := (Below.refl _ _).alloc (Nat.le_refl _) _
  have C0 := Lib.hid (Cb.new (w := w) rfl (.slice a n c) (.slice a2 n2 c2) 41)
  have HB0 := Lib.hid B0
  have HV := Lib.hid hV
  have HI := Lib.hid hI
  have HN := Lib.hid hn
  have HM := Lib.hid hm
  clear hV hI hn hm B0
  go_enter Try.func15, Try.ntmps15
  go_wp2_with fail
  generalize w.alloc (.cells #[.slice a n c, .slice a2 n2 c2] 41) = W at *
  go_loopw [5, 6] (fun cv i wr => ∃ k : Nat, k ≤ n ∧ i = .int .i64 k ∧ cv = .int .i64 (cntK I V k : Nat) ∧ Cb wr w.heap.size (.slice a n c) (.slice a2 n2 c2) ∧ Below w.heap.size w wr) (fun _ i _ => n - (intOf i).toNat)
  case atStart => exact ⟨0, Nat.zero_le _, rfl, rfl, C0.out, HB0.out⟩
  case round =>
    obtain ⟨k, hk, rfl, rfl, hC, hB⟩ := hrel
    have HC := Lib.hid hC
    obtain ⟨c0, c1, fz, lt⟩ := hC
    have HBB := Lib.hid hB
    have hcl := cntK_le I V k
    by_cases hlt : k < n
    · obtain ⟨x, hx⟩ : ∃ x, V[k]? = some x := ⟨_, List.getElem?_eq_getElem (by rw [HN.out]; exact hlt)⟩
      have i0 : (0 : Int) ≤ (k : Int) := by omega
      have i1 : (k : Int) < (n : Int) := by omega
      have i2 : (k : Int) ≤ (c : Int) := by omega
      obtain ⟨b, off, rfl, hb, p0⟩ := HV.out.later hB k x hx
      have hs : cntK I V (k + 1) = cntK I V k + if hasN x I && !hasN x (V.take k) then 1 else 0 := by simp only [cntK]; rw [show V.getD k 0 = x by simp [List.getD, hx]]
      obtain ⟨had, hhad⟩ : ∃ h, hasN x (V.take k) = h := ⟨_, rfl⟩
      obtain ⟨is, his⟩ : ∃ h, hasN x I = h := ⟨_, rfl⟩
      rw [hhad, his] at hs
      have HS := Lib.hid hs
      have HH := Lib.hid hhad
      have HIS := Lib.hid his
      have hq : ∀ q, Calls Try.prog 25 #[.slice (some ⟨b, off, none⟩) k c, .int .u64 x] (wr.drewN q) fun e w' => e = .returned (.bool had) ∧ w' = wr.drewN q := fun q => (rHas_any x k c _ (V.take k) (by rw [List.length_take]; have := HN.out; omega) (by omega) _ ((HV.out.later (below_drewN HBB.out q)).take k)).mono fun _ _ h => ⟨h.1.trans (by rw [HH.out]), h.2.symm⟩
      have HQ := Lib.hid hq
      clear hx hB hs hhad his hq
      go_wp2_with fail
      go_quiet ((go_at_call 25; exact Calls.quiet_of_same (HQ.out _)))
      go_wp2_with fail
      refine (rHas_any x m d a3 I HM.out hl2 _ (HI.out.later (below_drewN HBB.out _))).mono ?_
      rintro e w5 ⟨rfl, rfl⟩
      rw [HIS.out]
      have HCB := Lib.hid (And.intro (HC.out.later (below_drewN (Below.refl _ _) nq)) (below_drewN HBB.out nq))
      cases is
      · go_wp2_with fail
        go_roundw
        case rel => exact ⟨k + 1, by omega, by go_num, by rw [HS.out]; rfl, HCB.out.1, HCB.out.2⟩
        case measure => simp [intOf]; omega
      · cases had
        · go_wp2_with fail
          go_roundw
          case rel => exact ⟨k + 1, by omega, by go_num, by rw [HS.out]; go_num, HCB.out.1, HCB.out.2⟩
          case measure => simp [intOf]; omega
        · go_wp2_with fail
          go_roundw
          case rel => exact ⟨k + 1, by omega, by go_num, by rw [HS.out]; rfl, HCB.out.1, HCB.out.2⟩
          case measure => simp [intOf]; omega
    · have hkn : k = n := by omega
      subst hkn
      have HT := Lib.hid (show mostB V I = decide (((k / 2 + 1 : Nat) : Int) ≤ (cntK I V k : Nat)) by unfold mostB; rw [cntK_comm, HN.out]; exact decide_eq_decide.2 (by omega))
      clear hB hlt
      go_wp2_with fail
      go_ret
      exact ⟨by rw [HT.out]; first | rfl | simp, HBB.out⟩
end Go.Proofs.Ytmcmanjniloeaaa
