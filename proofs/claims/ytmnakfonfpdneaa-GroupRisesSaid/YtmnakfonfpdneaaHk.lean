/- The document's put and less. -/
import Derived.Test.YtmnakfonfpdneaaHj
namespace Go.Proofs.Ytmnakfonfpdneaa
open Go.RowKit

theorem putN_mid {id : Nat} : ∀ {L : List Nat} {p : Nat}, p ≤ L.length → (∀ j x : Nat, j < p → L[j]? = some x → x ≤ id) → (∀ x : Nat, L[p]? = some x → id < x) → putN id L = L.take p ++ [id] ++ L.drop p
  | [], p, hp, _, _ => by
    obtain rfl : p = 0 := by simpa using hp
    rfl
  | y :: r, 0, _, _, h2 => by
    have := h2 y rfl
    simp [putN, this]
  | y :: r, p + 1, hp, h1, h2 => by
    have h0 := h1 0 y (by omega) rfl
    have ih := putN_mid (id := id) (L := r) (p := p) (by simpa using hp) (fun j x hj hx => h1 (j + 1) x (by omega) (by simpa using hx)) (fun x hx => h2 x (by simpa using hx))
    rw [putN, if_neg (by omega), ih]; simp
theorem putN_len (id : Nat) (L : List Nat) : (putN id L).length = L.length + 1 := by
  induction L with
  | nil => rfl
  | cons y r ih => simp only [putN]; split <;> simp [ih]
theorem take_snoc {L : List Nat} {k x : Nat} (h : L[k]? = some x) : L.take (k + 1) = L.take k ++ [x] := by rw [List.take_add_one, h]; rfl
theorem drop_cons {L : List Nat} {k x : Nat} (h : L[k]? = some x) : L.drop k = x :: L.drop (k + 1) := by
  obtain ⟨hk, rfl⟩ := List.getElem?_eq_some_iff.1 h
  exact List.drop_eq_getElem_cons hk
theorem us_one (w : World) (x : Nat) (T : TypeId) : Us (w.alloc (.cells #[.int .u64 (x : Nat)] T)) (some ⟨w.heap.size, 0, none⟩) [x] := fun j y hx => by
  have hj := (List.getElem?_eq_some_iff.1 hx).1
  have h0 : j = 0 := by simpa using hj
  subst h0
  simp at hx
  subst hx
  exact ⟨_, 0, rfl, by simp, by simp [go_sem]⟩
/-- One number more. -/
theorem appOne (B : Nat) (w : World) (a : Option Addr) (q c x : Nat) (O : List Nat) (h : CqU B w (.slice a q c) O) (hq : O.length = q) (hl : (q + 1) * 8 ≤ 140737488355328) (hB : B ≤ w.heap.size) :
    ∃ a' c' w', (Builtin.append_ #[22, 22] 22 #[.slice a q c, .slice (some ⟨w.heap.size, 0, none⟩) 1 1]).run Try.prog (w.alloc (.cells #[.int .u64 (x : Nat)] 30)) = .ok (.slice a' (q + 1) c') w' ∧ CqU B w' (.slice a' (q + 1) c') (O ++ [x]) ∧ Below B w w' ∧ (O ++ [x]).length = q + 1 := by
  have hB2 : Below w.heap.size w (w.alloc (.cells #[.int .u64 (x : Nat)] 30)) := (Below.refl _ _).alloc (Nat.le_refl _) _
  obtain ⟨v', w', hr, hc, hb⟩ := appU B (w.alloc (.cells #[.int .u64 (x : Nat)] 30)) 22 _ O (h.later hB2) (some ⟨w.heap.size, 0, none⟩) 1 1 [x] rfl (us_one w x _) (by rw [hq]; exact hl) (by simp; omega)
  obtain ⟨a', c', rfl, _⟩ := hc.form
  have e : (O ++ [x]).length = q + 1 := by simp [hq]
  rw [e] at hr hc
  exact ⟨a', c', w', hr, hc, (hB2.mono hB).trans hb, e⟩
set_option maxHeartbeats 4000000 in
theorem rPut_any (id n c : Nat) (a : Option Addr) (L : List Nat) (hn : L.length = n) (hl : (n + 1) * 8 ≤ 140737488351232) (w : World) (hU : Us w a L) :
    Calls Try.prog 39 #[.slice a n c, .int .u64 id] w (WiP w (putN id L)) := by
  have HN := Lib.hid hn
  have HU := Lib.hid hU
  have HL := Lib.hid hl
  have hn47 : n ≤ 140737488351232 := by omega
  have HW := Lib.hid (Below.refl w.heap.size w)
  clear hn hU hl
  go_enter Try.func39, Try.ntmps39
  go_wp2_with fail
  go_loopw [5, 6, 7] (fun v dn i wr => ∃ (k q : Nat) (d : Bool) (O : List Nat) (a5 : Option Addr) (c5 : Nat), k ≤ n ∧ i = .int .i64 k ∧ dn = .bool d ∧ v = .slice a5 q c5 ∧ O.length = q ∧ q ≤ k + 1 ∧ CqU w.heap.size wr (.slice a5 q c5) O ∧ (d = true → putN id L = O ++ L.drop k) ∧ (d = false → O = L.take k ∧ ∀ j x : Nat, j < k → L[j]? = some x → x ≤ id) ∧ Below w.heap.size w wr) (fun _ _ i _ => n - (intOf i).toNat)
  case atStart => exact ⟨0, 0, false, [], none, 0, Nat.zero_le _, rfl, rfl, rfl, rfl, Nat.zero_le _, CqU.nil _ _ none, fun h => by simp at h, fun _ => ⟨rfl, fun j x hj => absurd hj (Nat.not_lt_zero _)⟩, HW.out⟩
  case round =>
    obtain ⟨k, q, d, O, a5, c5, hk, rfl, rfl, rfl, hq, hqk, hC, hd1, hd2, hB⟩ := hrel
    have HQ := Lib.hid hq
    have HC := Lib.hid hC
    have HD1 := Lib.hid hd1
    have HD2 := Lib.hid hd2
    have HB := Lib.hid hB
    clear hq hC hd1 hd2
    by_cases hlt : k < n
    · obtain ⟨x, hx⟩ : ∃ x, L[k]? = some x := ⟨_, List.getElem?_eq_getElem (by rw [HN.out]; exact hlt)⟩
      have i0 : (0 : Int) ≤ (k : Int) := by omega
      have i1 : (k : Int) < (n : Int) := by omega
      obtain ⟨b, off, rfl, hb, p0⟩ := HU.out.later hB k x hx
      have HX := Lib.hid hx
      clear hx hB
      by_cases hxi : id < x
      · have g : (id : Int) < (x : Int) := by omega
        cases d
        · -- here it goes in
          obtain ⟨a6, c6, w6, hr6, hc6, hb6, he6⟩ := appOne w.heap.size wr a5 q c5 id O HC.out HQ.out (by have := HL.out; omega) HB.out.size
          have HB6 := Lib.hid (HB.out.trans hb6)
          obtain ⟨q1, hq1⟩ : ∃ q1, q + 1 = q1 := ⟨_, rfl⟩
          rw [hq1] at hr6 hc6 he6
          obtain ⟨a7, c7, w7, hr7, hc7, hb7, he7⟩ := appOne w.heap.size w6 a6 q1 c6 x (O ++ [id]) hc6 he6 (by have := HL.out; omega) HB6.out.size
          have HQ1 := Lib.hid hq1
          obtain ⟨b', off', e', hb', p0'⟩ := HU.out.later HB6.out k x HX.out
          cases e'
          obtain ⟨ho, hle⟩ := HD2.out rfl
          have HT := Lib.hid (show putN id L = O ++ [id] ++ [x] ++ L.drop (k + 1) by
            rw [putN_mid (p := k) (by rw [HN.out]; omega) hle (fun y hy => by rw [HX.out] at hy; cases hy; exact hxi), drop_cons HX.out, ho]; simp)
          have HQK := Lib.hid (show q ≤ k by rw [← HQ.out, ho, List.length_take]; omega)
          have HR6 := Lib.hid hr6
          have HR7 := Lib.hid hr7
          have HC7 := Lib.hid hc7
          have HE7 := Lib.hid he7
          have HB7 := Lib.hid (HB6.out.trans hb7)
          clear hr6 hc6 hb6 he6 hr7 hc7 hb7 he7 ho hle hq1
          go_upto_region 8 with (at_builtin; refine Lib.wpList_append_run _ rfl _ _ 22 22 rfl (.slice a5 q c5) (.slice (some ⟨wr.heap.size, 0, none⟩) 1 1) rfl rfl _ _ HR6.out ?_)
          go_wp2_with (at_builtin; refine Lib.wpList_append_run _ rfl _ _ 22 22 rfl (.slice a6 q1 c6) (.slice (some ⟨w6.heap.size, 0, none⟩) 1 1) rfl rfl _ _ HR7.out ?_)
          go_roundw
          case rel => exact ⟨k + 1, q1 + 1, true, O ++ [id] ++ [x], a7, c7, by omega, by go_num, rfl, rfl, HE7.out, by have := HQ1.out; have := HQK.out; omega, HC7.out, fun _ => HT.out, fun h => by simp at h, HB7.out⟩
          case measure => simp [intOf]; omega
        · obtain ⟨a6, c6, w6, hr6, hc6, hb6, he6⟩ := appOne w.heap.size wr a5 q c5 x O HC.out HQ.out (by have := HL.out; omega) HB.out.size
          have HT := Lib.hid (show putN id L = O ++ [x] ++ L.drop (k + 1) by rw [HD1.out rfl, drop_cons HX.out]; simp)
          have HR6 := Lib.hid hr6
          have HC6 := Lib.hid hc6
          have HE6 := Lib.hid he6
          have HB6 := Lib.hid (HB.out.trans hb6)
          clear hr6 hc6 hb6 he6
          go_wp2_with (at_builtin; refine Lib.wpList_append_run _ rfl _ _ 22 22 rfl (.slice a5 q c5) (.slice (some ⟨wr.heap.size, 0, none⟩) 1 1) rfl rfl _ _ HR6.out ?_)
          go_roundw
          case rel => exact ⟨k + 1, q + 1, true, O ++ [x], a6, c6, by omega, by go_num, rfl, rfl, HE6.out, by omega, HC6.out, fun _ => HT.out, fun h => by simp at h, HB6.out⟩
          case measure => simp [intOf]; omega
      · have g : ¬ (id : Int) < (x : Int) := by omega
        obtain ⟨a6, c6, w6, hr6, hc6, hb6, he6⟩ := appOne w.heap.size wr a5 q c5 x O HC.out HQ.out (by have := HL.out; omega) HB.out.size
        have HT1 := Lib.hid (show d = true → putN id L = O ++ [x] ++ L.drop (k + 1) from fun h => by rw [HD1.out h, drop_cons HX.out]; simp)
        have HT2 := Lib.hid (show d = false → O ++ [x] = L.take (k + 1) ∧ ∀ j y : Nat, j < k + 1 → L[j]? = some y → y ≤ id from fun h => by
          obtain ⟨h1, h2⟩ := HD2.out h
          refine ⟨by rw [take_snoc HX.out, h1], fun j y hj hy => ?_⟩
          by_cases hjk : j = k
          · subst hjk; rw [HX.out] at hy; cases hy; omega
          · exact h2 j y (by omega) hy)
        have HR6 := Lib.hid hr6
        have HC6 := Lib.hid hc6
        have HE6 := Lib.hid he6
        have HB6 := Lib.hid (HB.out.trans hb6)
        clear hr6 hc6 hb6 he6
        go_wp2_with (at_builtin; refine Lib.wpList_append_run _ rfl _ _ 22 22 rfl (.slice a5 q c5) (.slice (some ⟨wr.heap.size, 0, none⟩) 1 1) rfl rfl _ _ HR6.out ?_)
        go_roundw
        case rel => exact ⟨k + 1, q + 1, d, O ++ [x], a6, c6, by omega, by go_num, rfl, rfl, HE6.out, by omega, HC6.out, HT1.out, HT2.out, HB6.out⟩
        case measure => simp [intOf]; omega
    · have hkn : k = n := by omega
      subst hkn
      cases d
      · obtain ⟨a6, c6, w6, hr6, hc6, hb6, he6⟩ := appOne w.heap.size wr a5 q c5 id O HC.out HQ.out (by have := HL.out; omega) HB.out.size
        obtain ⟨ho, hle⟩ := HD2.out rfl
        have hT : putN id L = O ++ [id] := by
          rw [putN_mid (p := k) (by rw [HN.out]; exact Nat.le_refl _) hle (fun y hy => by have := (List.getElem?_eq_some_iff.1 hy).1; have := HN.out; omega), List.drop_eq_nil_of_le (by rw [HN.out]; exact Nat.le_refl _), ho]; simp
        obtain ⟨a7, c7, e7, hU7, hf7, _⟩ := hc6.form
        injection e7 with ea eb ec
        subst ea
        clear eb ec
        have HR6 := Lib.hid hr6
        have HF := Lib.hid (show WiP w (putN id L) (.returned (.slice a6 (q + 1) c6)) w6 from ⟨a6, c6, by rw [hT, he6], by rw [hT]; exact hU7, by rw [hT]; exact hf7, HB.out.trans hb6⟩)
        clear hr6 hc6 hb6 he6 ho hle hT hU7 hf7 hB
        go_wp2_with (at_builtin; refine Lib.wpList_append_run _ rfl _ _ 22 22 rfl (.slice a5 q c5) (.slice (some ⟨wr.heap.size, 0, none⟩) 1 1) rfl rfl _ _ HR6.out ?_)
        go_wp2_with fail
        go_ret
        exact HF.out
      · have hT : putN id L = O := by rw [HD1.out rfl, List.drop_eq_nil_of_le (by rw [HN.out]; exact Nat.le_refl _), List.append_nil]
        obtain ⟨a7, c7, e7, hU7, hf7, _⟩ := HC.out.form
        injection e7 with ea eb ec
        subst ea
        clear eb ec
        have HF := Lib.hid (show WiP w (putN id L) (.returned (.slice a5 q c5)) wr from ⟨a5, c5, by rw [hT, HQ.out], by rw [hT]; exact hU7, by rw [hT]; exact hf7, HB.out⟩)
        clear hT hU7 hf7 hB
        go_wp2_with fail
        go_ret
        exact HF.out
set_option maxRecDepth 100000 in
set_option maxHeartbeats 4000000 in
theorem rLess_any (id n c : Nat) (a : Option Addr) (L : List Nat) (hn : L.length = n) (hl : n * 8 ≤ 140737488351232) (w : World) (hU : Us w a L) :
    Calls Try.prog 40 #[.slice a n c, .int .u64 id] w (WiP w (lessN id L)) := by
  have HN := Lib.hid hn
  have HU := Lib.hid hU
  have HL := Lib.hid hl
  have hn47 : n ≤ 140737488351232 := by omega
  have HW := Lib.hid (Below.refl w.heap.size w)
  clear hn hU hl
  go_enter Try.func40, Try.ntmps40
  go_wp2_with fail
  go_loopw [5, 6] (fun v i wr => ∃ (k q : Nat) (O : List Nat) (a5 : Option Addr) (c5 : Nat), k ≤ n ∧ i = .int .i64 k ∧ v = .slice a5 q c5 ∧ O.length = q ∧ q ≤ k ∧ CqU w.heap.size wr (.slice a5 q c5) O ∧ O = lessN id (L.take k) ∧ Below w.heap.size w wr) (fun _ i _ => n - (intOf i).toNat)
  case atStart => exact ⟨0, 0, [], none, 0, Nat.zero_le _, rfl, rfl, rfl, Nat.zero_le _, CqU.nil _ _ none, rfl, HW.out⟩
  case round =>
    obtain ⟨k, q, O, a5, c5, hk, rfl, rfl, hq, hqk, hC, hO, hB⟩ := hrel
    have HQ := Lib.hid hq
    have HC := Lib.hid hC
    have HO := Lib.hid hO
    have HB := Lib.hid hB
    clear hq hC hO
    by_cases hlt : k < n
    · obtain ⟨x, hx⟩ : ∃ x, L[k]? = some x := ⟨_, List.getElem?_eq_getElem (by rw [HN.out]; exact hlt)⟩
      have i0 : (0 : Int) ≤ (k : Int) := by omega
      have i1 : (k : Int) < (n : Int) := by omega
      obtain ⟨b, off, rfl, hb, p0⟩ := HU.out.later hB k x hx
      have HX := Lib.hid hx
      clear hx hB
      by_cases hxi : x = id
      · subst hxi
        have HT := Lib.hid (show O = lessN x (L.take (k + 1)) by rw [take_snoc HX.out, HO.out]; simp [lessN])
        go_wp2_with fail
        go_roundw
        case rel => exact ⟨k + 1, q, O, a5, c5, by omega, by go_num, rfl, HQ.out, by omega, HC.out, HT.out, HB.out⟩
        case measure => simp [intOf]; omega
      · have g : ¬ ((x : Int) = (id : Int)) := by omega
        obtain ⟨a6, c6, w6, hr6, hc6, hb6, he6⟩ := appOne w.heap.size wr a5 q c5 x O HC.out HQ.out (by have := HL.out; omega) HB.out.size
        have HT := Lib.hid (show O ++ [x] = lessN id (L.take (k + 1)) by rw [take_snoc HX.out, HO.out]; simp [lessN, hxi])
        have HR6 := Lib.hid hr6
        have HC6 := Lib.hid hc6
        have HE6 := Lib.hid he6
        have HB6 := Lib.hid (HB.out.trans hb6)
        clear hr6 hc6 hb6 he6 hxi
        go_wp2_with (at_builtin; refine Lib.wpList_append_run _ rfl _ _ 22 22 rfl (.slice a5 q c5) (.slice (some ⟨wr.heap.size, 0, none⟩) 1 1) rfl rfl _ _ HR6.out ?_)
        go_roundw
        case rel => exact ⟨k + 1, q + 1, O ++ [x], a6, c6, by omega, by go_num, rfl, HE6.out, by omega, HC6.out, HT.out, HB6.out⟩
        case measure => simp [intOf]; omega
    · have hkn : k = n := by omega
      subst hkn
      have hT : lessN id L = O := by rw [HO.out, List.take_of_length_le (by rw [HN.out]; exact Nat.le_refl _)]
      obtain ⟨a7, c7, e7, hU7, hf7, _⟩ := HC.out.form
      injection e7 with ea eb ec
      subst ea
      clear eb ec
      have HF := Lib.hid (show WiP w (lessN id L) (.returned (.slice a5 q c5)) wr from ⟨a5, c5, by rw [hT, HQ.out], by rw [hT]; exact hU7, by rw [hT]; exact hf7, HB.out⟩)
      clear hT hU7 hf7 hB
      go_wp2_with fail
      go_ret
      exact HF.out
end Go.Proofs.Ytmnakfonfpdneaa
