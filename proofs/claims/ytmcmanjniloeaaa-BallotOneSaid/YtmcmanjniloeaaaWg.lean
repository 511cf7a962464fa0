/- Voices, as the document says them: a node's first voice; Say; whether two lists are the same. BallotSays. -/
import Derived.Test.YtmcmanjniloeaaaWf
namespace Go.Proofs.Ytmcmanjniloeaaa
open Go.RowKit

/-- The first voice of a node: 0 none, 1 yes, 2 no. -/
def vcF (i : Nat) : List Vo → Nat
  | [] => 0
  | x :: r => if x.id = i then (if x.y then 1 else 2) else vcF i r
theorem vcF_at {i k : Nat} {L : List Vo} {x : Vo} (hx : L[k]? = some x) : vcF i (L.drop k) = if x.id = i then (if x.y then 1 else 2) else vcF i (L.drop (k + 1)) := by
  obtain ⟨hk, rfl⟩ := List.getElem?_eq_some_iff.1 hx
  rw [List.drop_eq_getElem_cons hk]; rfl
theorem vcF_zero (i : Nat) (L : List Vo) : vcF i L = 0 ↔ saidV i L = false := by
  induction L with
  | nil => simp [vcF, saidV]
  | cons x r ih =>
    simp only [vcF, saidV]
    by_cases h : x.id = i
    · simp only [h, ↓reduceIte, decide_true, Bool.true_or]
      cases x.y <;> simp
    · simp [h, ih]
set_option maxHeartbeats 2000000 in
theorem rvoice_any (i n c : Nat) (a : Option Addr) (L : List Vo) (hn : L.length = n) (hl : n ≤ 140737488351232) (w : World) (hE : Vs w a L) :
    Calls Try.prog 23 #[.slice a n c, .int .u64 i] w fun e w' => e = .returned (.int .i64 (vcF i L : Nat)) ∧ w = w' := by
  have HN := Lib.hid hn
  have HE := Lib.hid hE
  clear hn hE
  go_enter Try.func23, Try.ntmps23
  go_wp2_with fail
  go_loop [5] (fun u => ∃ k : Nat, k ≤ n ∧ u = .int .i64 k ∧ vcF i L = vcF i (L.drop k)) (fun u => n - (intOf u).toNat)
  case atStart => exact ⟨0, Nat.zero_le _, rfl, rfl⟩
  case round =>
    obtain ⟨k, hk, rfl, hf⟩ := hrel
    have HFB := Lib.hid hf
    clear hf
    by_cases hlt : k < n
    · obtain ⟨x, hx⟩ : ∃ x, L[k]? = some x := ⟨_, List.getElem?_eq_getElem (by rw [HN.out]; exact hlt)⟩
      have i0 : (0 : Int) ≤ (k : Int) := by omega
      have i1 : (k : Int) < (n : Int) := by omega
      obtain ⟨b, off, rfl, hb, p0, p1⟩ := HE.out.vo hx
      have HFA := Lib.hid (HFB.out.trans (vcF_at (i := i) hx))
      clear hx
      obtain ⟨xi, xy⟩ := x
      simp only at p0 p1 HFA
      by_cases he : xi = i
      · subst he
        cases xy
        · have HT := Lib.hid (show vcF xi L = 2 by rw [HFA.out]; simp)
          go_wp2_with fail
          go_ret
          exact ⟨by rw [HT.out]; first | rfl | simp, rfl⟩
        · have HT := Lib.hid (show vcF xi L = 1 by rw [HFA.out]; simp)
          go_wp2_with fail
          go_ret
          exact ⟨by rw [HT.out]; first | rfl | simp, rfl⟩
      · have g : ((xi : Int) == (i : Int)) = false := by simp; omega
        have HT := Lib.hid (show vcF i L = vcF i (L.drop (k + 1)) by rw [HFA.out, if_neg he])
        go_wp2_with fail
        go_round
        case rel => exact ⟨k + 1, by omega, by go_num, HT.out⟩
        case measure => simp [intOf]; omega
    · have HT := Lib.hid (show vcF i L = 0 by rw [HFB.out, List.drop_eq_nil_of_le (by rw [HN.out]; omega)]; rfl)
      go_wp2_with fail
      go_ret
      exact ⟨by rw [HT.out]; first | rfl | simp, rfl⟩
set_option maxHeartbeats 2000000 in
theorem rVoices_same (n c c2 : Nat) (a a2 : Option Addr) (L : List Vo) (hn : L.length = n) (hl : n ≤ 140737488351232) (w : World) (hE : Vs w a L) (hE2 : Vs w a2 L) :
    Calls Try.prog 11 #[.slice a n c, .slice a2 n c2] w fun e w' => e = .returned (.bool true) ∧ Below w.heap.size w w' := by
  have HN := Lib.hid hn
  have HE := Lib.hid hE
  have HE2 := Lib.hid hE2
  clear hn hE hE2
  go_enter Try.func11, Try.ntmps11
  go_wp2_with fail
  go_loopw [5] (fun u wr => ∃ k : Nat, k ≤ n ∧ u = .int .i64 k ∧ Below w.heap.size w wr) (fun u _ => n - (intOf u).toNat)
  case atStart => exact ⟨0, Nat.zero_le _, rfl, Below.refl _ _⟩
  case round =>
    obtain ⟨k, hk, rfl, hB⟩ := hrel
    have HB := Lib.hid hB
    by_cases hlt : k < n
    · obtain ⟨x, hx⟩ : ∃ x, L[k]? = some x := ⟨_, List.getElem?_eq_getElem (by rw [HN.out]; exact hlt)⟩
      have i0 : (0 : Int) ≤ (k : Int) := by omega
      have i1 : (k : Int) < (n : Int) := by omega
      obtain ⟨b, off, rfl, hb, p0, p1⟩ := (HE.out.later hB).vo hx
      obtain ⟨b2, off2, rfl, hb2, q0, q1⟩ := (HE2.out.later hB).vo hx
      clear hx hB
      go_wp2_with fail
      go_quiet (fail)
      go_wp2_with fail
      go_roundw
      case rel => exact ⟨k + 1, by omega, by go_num, below_drewN HB.out _⟩
      case measure => simp [intOf]; omega
    · clear hB
      go_wp2_with fail
      go_ret
      exact ⟨by first | rfl | simp, HB.out⟩
set_option maxRecDepth 100000 in
set_option maxHeartbeats 2000000 in
theorem rSay_any (i n c : Nat) (y : Bool) (a : Option Addr) (L : List Vo) (hn : L.length = n) (hl : n * 16 ≤ 140737488351232) (w : World) (hE : Vs w a L) :
    Calls Try.prog 13 #[.slice a n c, .agg #[.int .u64 i, .bool y]] w (SyP w (sayL L i y)) := by
  have HN := Lib.hid hn
  have HE := Lib.hid hE
  have HB := Lib.hid (Vb.new (w := w) rfl i y 33)
  have HW := Lib.hid (show Below w.heap.size w (w.alloc (.cells #[.int .u64 i, .bool y] 33)) by go_grown)
  clear hn hE
  have B0 : Below w.heap.size w ((w.alloc (.cells #[.int .u64 i, .bool y] 33)).alloc (.cells #[] 33)) := by go_grown
  obtain ⟨v', w2, hr, hc, hb⟩ := app_rw voT (w.heap.size + 1) ((w.alloc (.cells #[.int .u64 i, .bool y] 33)).alloc (.cells #[] 33)) 31 (.slice (some ⟨w.heap.size + 1, 0, none⟩) 0 0) [] (Cq.nil _ _ _) a n c L HN.out (HE.out.later B0) (by simp; omega) (by simp)
  rw [List.nil_append] at hc
  have HR := Lib.hid hr
  have v0 := (hb.cell (p := ⟨w.heap.size, 0, none⟩) (by simp)).trans (show ((w.alloc (.cells #[.int .u64 i, .bool y] 33)).alloc (.cells #[] 33)).cell? ⟨w.heap.size, 0, none⟩ = some (.int .u64 i) by simp [go_sem])
  have v1 := (hb.cell (p := ⟨w.heap.size, 1, none⟩) (by simp)).trans (show ((w.alloc (.cells #[.int .u64 i, .bool y] 33)).alloc (.cells #[] 33)).cell? ⟨w.heap.size, 1, none⟩ = some (.bool y) by simp [go_sem])
  have HW2 := Lib.hid (B0.trans (hb.mono (Nat.le_succ _)))
  have HC2 := Lib.hid (Cq.mono hc (Nat.le_succ _))
  have hz := hb.size
  simp at hz
  clear hr hc hb B0
  go_enter Try.func13, Try.ntmps13
  go_wp2_with (at_builtin; refine Lib.wpList_append_run _ rfl _ _ 31 31 rfl (.slice (some ⟨w.heap.size + 1, 0, none⟩) 0 0) (.slice a n c) rfl rfl _ _ HR.out ?_)
  go_wp2_with fail
  refine (rvoice_any i n c a L HN.out (by omega) _ (HE.out.later HW2.out)).mono ?_
  rintro e w3 ⟨rfl, rfl⟩
  by_cases hb : saidV i L = true
  · have HT := Lib.hid (show sayL L i y = L by unfold sayL; rw [hb]; rfl)
    have g : (((vcF i L : Nat) : Int) == 0) = false := by
      have := vcF_zero i L
      simp; rw [this, hb]; simp
    go_wp2_with fail
    go_ret
    exact ⟨v', rfl, by rw [HT.out]; exact HC2.out, HW2.out⟩
  · have hb2 : saidV i L = false := by simpa using hb
    have HT := Lib.hid (show sayL L i y = L ++ [⟨i, y⟩] by unfold sayL; rw [hb2]; rfl)
    have g : vcF i L = 0 := (vcF_zero i L).2 hb2
    rw [g]
    have B3 : Below w2.heap.size w2 (w2.alloc (.cells #[.int .u64 i, .bool y] 33)) := (Below.refl _ _).alloc (Nat.le_refl _) _
    obtain ⟨v2, w4, hr, hc4, hb4⟩ := app_rw voT w.heap.size _ 31 v' L (HC2.out.later B3) (some ⟨w2.heap.size, 0, none⟩) 1 1 [(⟨i, y⟩ : Vo)] rfl (rw_one (f := voC) w2 rfl (⟨i, y⟩ : Vo) rfl 33) (by have := HN.out; omega) (Nat.le_trans HW2.out.size B3.size)
    have HR2 := Lib.hid hr
    have HC4 := Lib.hid (And.intro hc4 ((HW2.out.trans (B3.mono HW2.out.size)).trans hb4))
    clear hr hc4 hb4 B3 g hb hb2
    go_wp2_with (at_builtin; refine Lib.wpList_append_run _ rfl _ _ 31 31 rfl v' (.slice (some ⟨w2.heap.size, 0, none⟩) 1 1) rfl rfl _ _ HR2.out ?_)
    go_wp2_with fail
    go_ret
    exact ⟨v2, rfl, by rw [HT.out]; exact HC4.out.1, HC4.out.2⟩
end Go.Proofs.Ytmcmanjniloeaaa
