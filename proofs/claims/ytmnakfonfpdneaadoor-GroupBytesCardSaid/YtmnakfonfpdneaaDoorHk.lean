/- The document's put and less. -/
import Derived.Test.YtmnakfonfpdneaaDoorHj
namespace Go.Proofs.YtmnakfonfpdneaaDoor
open Go.RowKit

theorem putN_mid {id : Nat} : ∀ {L : List Nat} {p : Nat}, p ≤ L.length → (∀ j x : Nat, j < p → L[j]? = some x → x ≤ id) → (∀ x : Nat, L[p]? = some x → id < x) → putN id L = L.take p ++ [id] ++ L.drop p
  | [], p, hp, _, _ => by
    obtain rfl : p = 0 := by simpa using hp
    rfl
  | y :: r, 0, _, _, h2 => by
    have := h2 y rfl
    simp [putN, this]
  | y :: r, p + 1, hp, h1, h2 => by
    have h0 := h1 0 y (by omega) rfl
    have ih := putN_mid (id := id) (L := r) (p := p) (by simpa using hp) (fun j x hj hx => h1 (j + 1) x (by omega) (by simpa using hx)) (fun x hx => h2 x (by simpa using hx))
    rw [putN, if_neg (by omega), ih]; simp
theorem putN_len (id : Nat) (L : List Nat) : (putN id L).length = L.length + 1 := by
  induction L with
  | nil => rfl
  | cons y r ih => simp only [putN]; split <;> simp [ih]
theorem take_snoc {L : List Nat} {k x : Nat} (h : L[k]? = some x) : L.take (k + 1) = L.take k ++ [x] := by rw [List.take_add_one, h]; rfl
theorem drop_cons {L : List Nat} {k x : Nat} (h : L[k]? = some x) : L.drop k = x :: L.drop (k + 1) := by
  obtain ⟨hk, rfl⟩ := List.getElem?_eq_some_iff.1 h
  exact List.drop_eq_getElem_cons hk
theorem us_one (w : World) (x : Nat) (T : TypeId) : Us (w.alloc (.cells #[.int .u64 (x : Nat)] T)) (some ⟨w.heap.size, 0, none⟩) [x] := fun j y hx => by
  have hj := (List.getElem?_eq_some_iff.1 hx).1
  have h0 : j = 0 := by simpa using hj
  subst h0
  simp at hx
  subst hx
  exact ⟨_, 0, rfl, by simp, by simp [go_sem]⟩
/-- One number more. -/
theorem appOne (B : Nat) (w : World) (a : Option Addr) (q c x : Nat) (O : List Nat) (h : CqU B w (.slice a q c) O) (hq : O.length = q) (hl : (q + 1) * 8 ≤ 140737488355328) (hB : B ≤ w.heap.size) :
    ∃ a' c' w', (Builtin.append_ #[22, 22] 22 #[.slice a q c, .slice (some ⟨w.heap.size, 0, none⟩) 1 1]).run Tryd.prog (w.alloc (.cells #[.int .u64 (x : Nat)] 38)) = .ok (.slice a' (q + 1) c') w' ∧ CqU B w' (.slice a' (q + 1) c') (O ++ [x]) ∧ Below B w w' ∧ (O ++ [x]).length = q + 1 := by
  have hB2 : Below w.heap.size w (w.alloc (.cells #[.int .u64 (x : Nat)] 38)) := (Below.refl _ _).alloc (Nat.le_refl _) _
  obtain ⟨v', w', hr, hc, hb⟩ := appU B (w.alloc (.cells #[.int .u64 (x : Nat)] 38)) 22 _ O (h.later hB2) (some ⟨w.heap.size, 0, none⟩) 1 1 [x] rfl (us_one w x _) (by rw [hq]; exact hl) (by simp; omega)
  obtain ⟨a', c', rfl, _⟩ := hc.form
  have e : (O ++ [x]).length = q + 1 := by simp [hq]
  rw [e] at hr hc
  exact ⟨a', c', w', hr, hc, (hB2.mono hB).trans hb, e⟩
end Go.Proofs.YtmnakfonfpdneaaDoor
