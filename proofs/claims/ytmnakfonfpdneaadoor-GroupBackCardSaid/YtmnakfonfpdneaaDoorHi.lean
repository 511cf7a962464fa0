/- A list with a number put at its place: the program's with; the document's put. -/
import Derived.Test.YtmnakfonfpdneaaDoorHh
import Derived.Test.YtmnakfonfpdneaaDoorHf
namespace Go.Proofs.YtmnakfonfpdneaaDoor
open Go.RowKit

/-- A number put at its place. -/
def putN (id : Nat) : List Nat → List Nat
  | [] => [id]
  | x :: r => if id < x then id :: x :: r else x :: putN id r
theorem putN_at {id : Nat} : ∀ {L : List Nat} {p : Nat}, p ≤ L.length → (∀ j x : Nat, j < p → L[j]? = some x → x < id) → (∀ j x : Nat, p ≤ j → L[j]? = some x → id < x) → putN id L = L.take p ++ [id] ++ L.drop p
  | [], p, hp, _, _ => by
    obtain rfl : p = 0 := by simpa using hp
    rfl
  | y :: r, 0, _, _, h2 => by
    have := h2 0 y (Nat.le_refl _) rfl
    simp [putN, this]
  | y :: r, p + 1, hp, h1, h2 => by
    have h0 := h1 0 y (by omega) rfl
    have ih := putN_at (id := id) (L := r) (p := p) (by simpa using hp) (fun j x hj hx => h1 (j + 1) x (by omega) (by simpa using hx)) (fun j x hj hx => h2 (j + 1) x (by omega) (by simpa using hx))
    rw [putN, if_neg (by omega), ih]; simp
/-- What with and without answer. -/
def WiP (w : World) (M : List Nat) (e : Ending) (w' : World) : Prop := ∃ a c, e = .returned (.slice a M.length c) ∧ Us w' a M ∧ (0 < M.length → ∀ q, a = some q → w.heap.size ≤ q.block) ∧ Below w.heap.size w w'
set_option maxHeartbeats 1000000 in
theorem insAny (B n c p id : Nat) (a : Option Addr) (L : List Nat) (w1 : World) (hB : B ≤ w1.heap.size) (h : CqU B w1 (.slice a n c) L) (hn : L.length = n) (hp : p ≤ n) (hl : (n + 1) * 8 ≤ 140737488355328) :
    Calls Tryd.prog 65 #[.slice a n c, .int .i64 p, .slice (some ⟨w1.heap.size, 0, none⟩) 1 1] (w1.alloc (.cells #[.int .u64 (id : Nat)] 38)) (InP B (w1.alloc (.cells #[.int .u64 (id : Nat)] 38)) (L.take p ++ [id] ++ L.drop p)) := by
  have hV : Us (w1.alloc (.cells #[.int .u64 (id : Nat)] 38)) (some ⟨w1.heap.size, 0, none⟩) [id] := fun j x hx => by
    have hj := (List.getElem?_eq_some_iff.1 hx).1
    have h0 : j = 0 := by simpa using hj
    subst h0
    simp at hx
    subst hx
    exact ⟨_, 0, rfl, by simp, by simp [go_sem]⟩
  have hB2 : Below w1.heap.size w1 (w1.alloc (.cells #[.int .u64 (id : Nat)] 38)) := (Below.refl _ _).alloc (Nat.le_refl _) _
  have h2 := h.later hB2
  obtain ⟨a', c', e, hU, _, hcap, hmax⟩ := h2.form
  have e1 := e
  injection e1 with ea en ec
  subst ea ec
  rw [hn] at hcap
  have hc63 : c ≤ 9223372036854775807 := by unfold maxLen at hmax; omega
  by_cases hpn : p = n
  · subst hpn
    rw [List.take_of_length_le (by omega), List.drop_eq_nil_of_le (by omega), List.append_nil]
    exact insEnd B p 1 1 _ (some ⟨w1.heap.size, 0, none⟩) L [id] _ a c rfl hn hcap hc63 rfl (by omega) hl (by simp; omega) h2 hV
  · have hgx : ∃ g, a = some ⟨g, 0, none⟩ ∧ g < w1.heap.size := by
      rcases h with ⟨h0, _⟩ | h
      · subst h0; simp at hn; omega
      · rcases h.2 with ⟨_, h0⟩ | ⟨g, cap, cur, e0, _, hg, _⟩
        · omega
        · injection e0 with e1
          exact ⟨g, e1, lt_of_row hg⟩
    obtain ⟨g, rfl, hgl⟩ := hgx
    rcases h2 with ⟨h0, _⟩ | h2
    · subst h0; simp at hn; omega
    · rw [hn] at h2
      have hR := rw_of_owns hn h2
      clear h h2 e hU
      by_cases hroom : n + 1 ≤ c
      · exact insRoom B g n c p 1 w1.heap.size 1 L [id] _ hR (by omega) rfl (by omega) hroom hl hV (by omega) us_shape (fun j => by simp [go_sem])
      · exact insGrow B g n c p 1 w1.heap.size 1 L [id] _ hR (by simp; omega) (by omega) rfl (by omega) (by omega) hl hV
set_option maxHeartbeats 2000000 in
theorem with_any (id n c : Nat) (a : Option Addr) (L : List Nat) (hn : L.length = n) (hl : (n + 1) * 8 ≤ 140737488351232) (hs : Asc L) (hid : id ∉ L) (w : World) (hU : Us w a L) :
    Calls Tryd.prog 48 #[.slice a n c, .int .u64 id] w (WiP w (putN id L)) := by
  have HN := Lib.hid hn
  have HU := Lib.hid hU
  have HS := Lib.hid hs
  have HL := Lib.hid hl
  have HID := Lib.hid hid
  clear hn hU hs hl hid
  go_enter Tryd.func48, Tryd.ntmps48
  go_wp2_with fail
  refine (search_any id n c a L HN.out (by have := HL.out; omega) HS.out _ HU.out).mono ?_
  rintro e w2 ⟨p, b, rfl, hp, h1, h2, rfl⟩
  have HPUT := Lib.hid (putN_at hp h1 fun j x hj hx => Nat.lt_of_le_of_ne (h2 j x hj hx) fun e => HID.out (e ▸ List.mem_of_getElem? hx))
  have HP := Lib.hid hp
  clear h1 h2 hp
  go_wp2_with fail
  refine (cloneU_any n c a L HN.out (by have := HL.out; omega) _ HU.out).mono ?_
  rintro e w1 ⟨v1, rfl, hc1, hb1⟩
  obtain ⟨a1, c1, rfl, _⟩ := hc1.form
  have HC := Lib.hid hc1
  have HB := Lib.hid hb1
  clear hc1 hb1
  rw [HN.out] at HC ⊢
  go_wp2_with fail
  refine (insAny w.heap.size n c1 p id a1 L w1 HB.out.size HC.out HN.out (by have := HP.out; have := HN.out; omega) (by have := HL.out; omega)).mono ?_
  rintro e w3 ⟨a3, c3, rfl, hU3, hf3, hb3⟩
  rw [← HPUT.out] at hU3 hf3 ⊢
  have HF := Lib.hid (show WiP w (putN id L) (.returned (.slice a3 (putN id L).length c3)) w3 from ⟨a3, c3, rfl, hU3, hf3, (HB.out.alloc HB.out.size _).trans hb3⟩)
  clear hU3 hb3 hf3
  generalize (Value.slice a3 (putN id L).length c3) = R at *
  go_wp2_with fail
  go_ret
  exact HF.out
end Go.Proofs.YtmnakfonfpdneaaDoor
