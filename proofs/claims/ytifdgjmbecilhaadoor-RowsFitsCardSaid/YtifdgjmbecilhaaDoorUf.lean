/- One put: the document's Do; whether lists are the same. -/
import Derived.Test.YtifdgjmbecilhaaDoorUd
import Derived.Test.YtifdgjmbecilhaaDoorUe
import Derived.Test.YtifdgjmbecilhaaDoorRa
namespace Go.Proofs.YtifdgjmbecilhaaDoor
open Go.RowKit

theorem roT : RowT 22 26 3 40 (.agg #[.string ⟨#[]⟩, .string ⟨#[]⟩, .int .u64 0]) roC where
  und := Tryd.underlying22
  info := by kernel_rfl
  zs := by decide
  kp := by decide
  bp := by decide
  len _ := rfl
  one x u hu := by
    simp only [roC, List.mem_cons, List.not_mem_nil, or_false] at hu
    rcases hu with rfl | rfl | rfl <;> rfl
theorem puT : RowT 31 37 3 40 (.agg #[.string ⟨#[]⟩, .string ⟨#[]⟩, .bool false]) puC where
  und := Tryd.underlying31
  info := by kernel_rfl
  zs := by decide
  kp := by decide
  bp := by decide
  len _ := rfl
  one x u hu := by
    simp only [puC, List.mem_cons, List.not_mem_nil, or_false] at hu
    rcases hu with rfl | rfl | rfl <;> rfl
/-- Rows that are being laid. -/
abbrev CqR (B : Nat) (w : World) (v : Value) (L : List Ro) : Prop := Cq 26 3 roC B w v L
/-- append(rows, one). -/
theorem appR (B : Nat) (w : World) (v : Value) (L : List Ro) (h : CqR B w v L) (x : Ro) (hl : (L.length + 1) * 40 ≤ 140737488355328) (hB : B ≤ w.heap.size) :
    ∃ a' c' w', (Builtin.append_ #[22, 22] 22 #[v, .slice (some ⟨w.heap.size, 0, none⟩) 1 1]).run Tryd.prog (w.alloc (.cells #[.string x.key, .string x.val, .int .u64 (x.ver : Nat)] 26)) = .ok (.slice a' (L.length + 1) c') w' ∧ CqR B w' (.slice a' (L.length + 1) c') (L ++ [x]) ∧ Below B w w' := by
  have B1 : Below w.heap.size w (w.alloc (.cells #[.string x.key, .string x.val, .int .u64 (x.ver : Nat)] 26)) := (Below.refl _ _).alloc (Nat.le_refl _) _
  obtain ⟨v', w', hr, hc, hb⟩ := app_rw roT B _ 22 v L (h.later B1) (some ⟨w.heap.size, 0, none⟩) 1 1 [x] rfl (rw_one (f := roC) w rfl x rfl 26) hl (Nat.le_trans hB B1.size)
  obtain ⟨a', c', rfl, _⟩ := hc.form roT
  rw [List.length_append, List.length_singleton] at hr hc
  exact ⟨a', c', w', hr, hc, (B1.mono hB).trans hb⟩
set_option maxHeartbeats 1000000 in
theorem rSameR_any (n c c2 : Nat) (a a2 : Option Addr) (L : List Ro) (hn : L.length = n) (hl : n ≤ 140737488351232) (w : World) (h1 : Ros w a L) (h2 : Ros w a2 L) :
    Calls Tryd.prog 19 #[.slice a n c, .slice a2 n c2] w fun e w' => e = .returned (.bool true) ∧ Below w.heap.size w w' := by
  have HN := Lib.hid hn
  have H1 := Lib.hid h1
  have H2 := Lib.hid h2
  have HW := Lib.hid (Below.refl w.heap.size w)
  clear hn h1 h2
  go_enter Tryd.func19, Tryd.ntmps19
  go_wp2_with fail
  go_loopw [5] (fun u wr => ∃ k : Nat, k ≤ n ∧ u = .int .i64 k ∧ Below w.heap.size w wr) (fun u _ => n - (intOf u).toNat)
  case atStart => exact ⟨0, Nat.zero_le _, rfl, HW.out⟩
  case round =>
    obtain ⟨k, hk, rfl, hB⟩ := hrel
    have HB := Lib.hid hB
    by_cases hlt : k < n
    · obtain ⟨x, hx⟩ : ∃ x, L[k]? = some x := ⟨_, List.getElem?_eq_getElem (by rw [HN.out]; exact hlt)⟩
      have i0 : (0 : Int) ≤ (k : Int) := by omega
      have i1 : (k : Int) < (n : Int) := by omega
      obtain ⟨b, off, rfl, hb, p0, p1, p2⟩ := Ros.cells (H1.out.later hB) hx
      obtain ⟨b2, off2, rfl, hb2, q0, q1, q2⟩ := Ros.cells (H2.out.later hB) hx
      obtain ⟨xk, xv, xn⟩ := x
      simp only at p0 p1 p2 q0 q1 q2
      clear hx hB
      go_wp2_with fail
      go_quiet (fail)
      go_wp2_with fail
      go_roundw
      case rel => exact ⟨k + 1, by omega, by go_num, below_drewN HB.out _⟩
      case measure => simp [intOf]; omega
    · clear hB
      go_wp2_with fail
      go_ret
      exact ⟨by first | rfl | simp, HB.out⟩
end Go.Proofs.YtifdgjmbecilhaaDoor
