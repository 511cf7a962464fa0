/- Seats and requests; which end of a log is newer; whether a vote is open. -/
import Derived.Test.YtdcpiaoadbbdoaaGreatBulk
import Derived.Test.YtdcpiaoadbbdoaaGreatJd
import Derived.Test.YtdcpiaoadbbdoaaGreatAp
import Derived.Deep.RegionHeld3
set_option maxRecDepth 100000
set_option maxHeartbeats 16000000
namespace Go.Proofs.YtdcpiaoadbbdoaaGreat
open Go.RowKit

structure Se where
 t : Nat
 v : Nat
 lt : Nat
 li : Nat
 h : Bool
structure Ak where
 t : Nat
 fr : Nat
 lt : Nat
 li : Nat
 p : Bool
@[reducible] def v5 (a b c d : Nat) (o : Bool) : Value := .agg #[.int .u64 a, .int .u64 b, .int .u64 c, .int .u64 d, .bool o]
structure B5 (w : World) (x : Nat) (a b c d : Nat) (o : Bool) : Prop where
 c0 : w.cell? ⟨x, 0, none⟩ = some (.int .u64 a)
 c1 : w.cell? ⟨x, 1, none⟩ = some (.int .u64 b)
 c2 : w.cell? ⟨x, 2, none⟩ = some (.int .u64 c)
 c3 : w.cell? ⟨x, 3, none⟩ = some (.int .u64 d)
 c4 : w.cell? ⟨x, 4, none⟩ = some (.bool o)
 fz : ∀ j, w.frozen? ⟨x, j, none⟩ = false
 lt : x < w.heap.size
theorem B5.new {w : World} {x : Nat} (hx : x = w.heap.size) (a b c d : Nat) (o : Bool) (T : TypeId) : B5 (w.alloc (.cells #[.int .u64 a, .int .u64 b, .int .u64 c, .int .u64 d, .bool o] T)) x a b c d o := by
 subst hx
 exact ⟨by simp [go_sem], by simp [go_sem], by simp [go_sem], by simp [go_sem], by simp [go_sem], fun j => by simp [go_sem], by simp⟩
theorem B5.later {w w' : World} {x : Nat} {a b c d : Nat} {o : Bool} (h : B5 w x a b c d o) (hb : Below w.heap.size w w') : B5 w' x a b c d o :=
 ⟨(hb.cell (p := ⟨x, 0, none⟩) h.lt).trans h.c0, (hb.cell (p := ⟨x, 1, none⟩) h.lt).trans h.c1, (hb.cell (p := ⟨x, 2, none⟩) h.lt).trans h.c2, (hb.cell (p := ⟨x, 3, none⟩) h.lt).trans h.c3, (hb.cell (p := ⟨x, 4, none⟩) h.lt).trans h.c4, fun j => (hb.frozen (p := ⟨x, j, none⟩) h.lt).trans (h.fz j), Nat.lt_of_lt_of_le h.lt hb.size⟩
theorem B5.past {w : World} {x : Nat} {a b c d : Nat} {o : Bool} (h : B5 w x a b c d o) (ob : Obj) : B5 (w.alloc ob) x a b c d o := h.later ((Below.refl _ _).alloc (Nat.le_refl _) _)

theorem pRecent_any (t v lt li : Nat) (h : Bool) (at' fr alt ali : Nat) (p : Bool) (w : World) :
 Calls Tryz.prog 99 #[v5 t v lt li h, v5 at' fr alt ali p] w fun e w' => e = .returned (.bool (newB alt ali lt li)) ∧ Below w.heap.size w w' := by
 go_enter Tryz.func99, Tryz.ntmps99
 go_wp2_with fail
 refine (pNewer_any alt ali lt li _).mono ?_
 rintro e w1 ⟨rfl, rfl⟩
 go_wp2_with fail
 go_ret
 exact ⟨rfl, by go_grown⟩
def openB (v fr : Nat) : Bool := !decide (fr = 0) && (decide (v = 0) || decide (v = fr))
theorem pOpen_any (t v lt li : Nat) (h : Bool) (at' fr alt ali : Nat) (p : Bool) (w : World) :
 Calls Tryz.prog 100 #[v5 t v lt li h, v5 at' fr alt ali p] w fun e w' => e = .returned (.bool (openB v fr)) ∧ Below w.heap.size w w' := by
 obtain ⟨ob, ho⟩ : ∃ b, openB v fr = b := ⟨_, rfl⟩
 have HO := hI_ ho
 unfold openB at ho
 by_cases h1 : fr = 0
 · subst h1
   simp at ho; subst ho
   go_enter Tryz.func100, Tryz.ntmps100
   go_wp2_with fail
   go_region
   all_goals
    go_wp2_with fail
    go_region
   all_goals
    go_wp2_with fail
    go_ret
    exact ⟨by rw [HO.out]; first | rfl | (simp; done) | (simp; omega), by go_grown⟩
 · have g1 : ((fr : Int) == 0) = false := by simp; omega
   by_cases h2 : v = 0
   · subst h2
     simp [h1] at ho; subst ho
     go_enter Tryz.func100, Tryz.ntmps100
     go_wp2_with fail
     go_region
     all_goals
      go_wp2_with fail
      go_region
     all_goals
      go_wp2_with fail
      go_ret
      exact ⟨by rw [HO.out]; first | rfl | (simp; done) | (simp; omega), by go_grown⟩
   · have g2 : ((v : Int) == 0) = false := by simp; omega
     by_cases h3 : v = fr
     · subst h3
       simp [h1] at ho; subst ho
       go_enter Tryz.func100, Tryz.ntmps100
       go_wp2_with fail
       go_region
       all_goals
        go_wp2_with fail
        go_region
       all_goals
        go_wp2_with fail
        go_ret
        exact ⟨by rw [HO.out]; first | rfl | (simp; done) | (simp; omega), by go_grown⟩
     · have g3 : ((fr : Int) == (v : Int)) = false := by simp; omega
       simp [h1, h2, h3] at ho; subst ho
       go_enter Tryz.func100, Tryz.ntmps100
       go_wp2_with fail
       go_region
       all_goals
        go_wp2_with fail
        go_region
       all_goals
        go_wp2_with fail
        go_ret
        exact ⟨by rw [HO.out]; first | rfl | (simp; done) | (simp; omega), by go_grown⟩
end Go.Proofs.YtdcpiaoadbbdoaaGreat
