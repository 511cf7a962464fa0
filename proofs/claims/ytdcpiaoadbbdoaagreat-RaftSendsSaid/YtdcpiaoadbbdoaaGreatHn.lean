/- slices.Insert at numbers, amid, where there is no room. -/
import Derived.Test.YtdcpiaoadbbdoaaGreatBulk
import Derived.Test.YtdcpiaoadbbdoaaGreatHg
import Derived.Test.YtdcpiaoadbbdoaaGreatQh
import Derived.Test.YtdcpiaoadbbdoaaGreatJd
import Derived.Deep.RegionHeld3
set_option maxRecDepth 100000
set_option maxHeartbeats 16000000
namespace Go.Proofs.YtdcpiaoadbbdoaaGreat
open Go.RowKit Go.Lib


def Asc (L : List Nat) : Prop := ∀ i j x y : Nat, i ≤ j → L[i]? = some x → L[j]? = some y → x ≤ y
theorem lessHf_any (x y : Nat) (w : World) : Calls Tryz.prog 148 #[.int .u64 x, .int .u64 y] w fun e w' => e = .returned (.bool (decide (x < y))) ∧ w = w' := by
 by_cases h1 : x < y
 · have g1 : (x : Int) < (y : Int) := by omega
   rw [decide_eq_true h1]
   go_enter Tryz.func148, Tryz.ntmps148
   go_wp2_with fail
   refine (isNaN_any x _).mono ?_
   rintro e w2 ⟨rfl, rfl⟩
   go_wp2_with fail
   go_ret
   exact ⟨by simp, rfl⟩
 · have g1 : ¬ (x : Int) < (y : Int) := by omega
   rw [decide_eq_false h1]
   go_enter Tryz.func148, Tryz.ntmps148
   go_wp2_with fail
   refine (isNaN_any x _).mono ?_
   rintro e w2 ⟨rfl, rfl⟩
   go_wp2_with fail
   go_ret
   exact ⟨by simp, rfl⟩
def BsP (w : World) (v : Nat) (L : List Nat) (e : Ending) (w' : World) : Prop := ∃ (p : Nat) (b : Bool), e = .returned (.tuple #[.int .i64 p, .bool b]) ∧ p ≤ L.length ∧ (∀ j x : Nat, j < p → L[j]? = some x → x < v) ∧ (∀ j x : Nat, p ≤ j → L[j]? = some x → v ≤ x) ∧ w = w'

def putN (id : Nat) : List Nat → List Nat
 | [] => [id]
 | x :: r => if id < x then id :: x :: r else x :: putN id r
theorem putN_at {id : Nat} : ∀ {L : List Nat} {p : Nat}, p ≤ L.length → (∀ j x : Nat, j < p → L[j]? = some x → x < id) → (∀ j x : Nat, p ≤ j → L[j]? = some x → id < x) → putN id L = L.take p ++ [id] ++ L.drop p
 | [], p, hp, _, _ => by
  obtain rfl : p = 0 := by simpa using hp
  rfl
 | y :: r, 0, _, _, h2 => by
  have := h2 0 y (Nat.le_refl _) rfl
  simp [putN, this]
 | y :: r, p + 1, hp, h1, h2 => by
  have h0 := h1 0 y (by omega) rfl
  have ih := putN_at (id := id) (L := r) (p := p) (by simpa using hp) (fun j x hj hx => h1 (j + 1) x (by omega) (by simpa using hx)) (fun j x hj hx => h2 (j + 1) x (by omega) (by simpa using hx))
  rw [putN, if_neg (by omega), ih]; simp
def WiP (w : World) (M : List Nat) (e : Ending) (w' : World) : Prop := ∃ a c, e = .returned (.slice a M.length c) ∧ Us w' a M ∧ (0 < M.length → ∀ q, a = some q → w.heap.size ≤ q.block) ∧ Below w.heap.size w w'
end Go.Proofs.YtdcpiaoadbbdoaaGreat
/- A list without a number: the program's without; the document's less and put. -/
set_option maxRecDepth 100000
set_option maxHeartbeats 16000000
namespace Go.Proofs.YtdcpiaoadbbdoaaGreat
open Go.RowKit Go.Shelf Go.Lib Go.Sort

def lessN (id : Nat) (L : List Nat) : List Nat := L.filter fun x => !decide (x = id)
theorem indexF0_any (c : Nat) (a : Option Addr) (fv : Value) (w : World) :
 Calls Tryz.prog 94 #[.slice a 0 c, fv] w fun e w' => e = .returned (.int .i64 (-1)) ∧ w = w' := by
 go_enter Tryz.func94, Tryz.ntmps94
 go_wp2_with fail
 refine wp_loop_rounds 1 ?_
 rw [rounds_succ]
 go_wp2_with fail
 go_ret
 exact ⟨rfl, rfl⟩
theorem delete0_any (c : Nat) (a : Option Addr) (fv : Value) (w : World) :
 Calls Tryz.prog 120 #[.slice a 0 c, fv] w fun e w' => e = .returned (.slice a 0 c) ∧ w = w' := by
 go_enter Tryz.func120, Tryz.ntmps120
 go_wp2_with fail
 refine (indexF0_any c a fv _).mono ?_
 rintro e w2 ⟨rfl, rfl⟩
 go_wp2_with fail
 go_ret
 exact ⟨rfl, rfl⟩

theorem putN_len (id : Nat) (L : List Nat) : (putN id L).length = L.length + 1 := by
 induction L with
 | nil => rfl
 | cons y r ih => simp only [putN]; split <;> simp [ih]
theorem take_snocH {L : List Nat} {k x : Nat} (h : L[k]? = some x) : L.take (k + 1) = L.take k ++ [x] := by rw [List.take_add_one, h]; rfl
theorem us_one (w : World) (x : Nat) (T : TypeId) : Us (w.alloc (.cells #[.int .u64 (x : Nat)] T)) (some ⟨w.heap.size, 0, none⟩) [x] := fun j y hx => by
 have hj := (List.getElem?_eq_some_iff.1 hx).1
 have h0 : j = 0 := by simpa using hj
 subst h0
 simp at hx
 subst hx
 exact ⟨_, 0, rfl, by simp, by simp [go_sem]⟩
theorem appOne (B : Nat) (w : World) (a : Option Addr) (q c x : Nat) (O : List Nat) (h : CqU B w (.slice a q c) O) (hq : O.length = q) (hl : (q + 1) * 8 ≤ 140737488355328) (hB : B ≤ w.heap.size) :
 ∃ a' c' w', (Builtin.append_ #[23, 23] 23 #[.slice a q c, .slice (some ⟨w.heap.size, 0, none⟩) 1 1]).run Tryz.prog (w.alloc (.cells #[.int .u64 (x : Nat)] 22)) = .ok (.slice a' (q + 1) c') w' ∧ CqU B w' (.slice a' (q + 1) c') (O ++ [x]) ∧ Below B w w' ∧ (O ++ [x]).length = q + 1 := by
 have hB2 : Below w.heap.size w (w.alloc (.cells #[.int .u64 (x : Nat)] 22)) := (Below.refl _ _).alloc (Nat.le_refl _) _
 obtain ⟨v', w', hr, hc, hb⟩ := appU B (w.alloc (.cells #[.int .u64 (x : Nat)] 22)) 23 _ O (h.later hB2) (some ⟨w.heap.size, 0, none⟩) 1 1 [x] rfl (us_one w x _) (by rw [hq]; exact hl) (by simp; omega)
 obtain ⟨a', c', rfl, _⟩ := hc.form
 have e : (O ++ [x]).length = q + 1 := by simp [hq]
 rw [e] at hr hc
 exact ⟨a', c', w', hr, hc, (hB2.mono hB).trans hb, e⟩

def lrnF (id : Nat) (V L : List Nat) : (List Nat × List Nat) × Int := if hasN id V || hasN id L then (([], []), 8) else if 3 ≤ L.length then (([], []), 5) else ((V, putN id L), 0)
def votF (id : Nat) (V L : List Nat) : (List Nat × List Nat) × Int := if !hasN id L then (([], []), 7) else if 7 ≤ V.length then (([], []), 5) else ((putN id V, lessN id L), 0)
def levF (id : Nat) (V L : List Nat) : (List Nat × List Nat) × Int := if !hasN id V && !hasN id L then (([], []), 7) else if hasN id V && decide (V.length = 1) then (([], []), 5) else ((lessN id V, lessN id L), 0)
end Go.Proofs.YtdcpiaoadbbdoaaGreat
