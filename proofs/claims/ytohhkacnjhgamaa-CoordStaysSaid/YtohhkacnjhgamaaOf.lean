/- Whether numbers are the same; whether a coordinator is right: the document's. -/
import Derived.Test.YtohhkacnjhgamaaOe
namespace Go.Proofs.Ytohhkacnjhgamaa
open Go.RowKit

def samN : List Nat → List Nat → Bool
  | [], [] => true
  | x :: r, y :: s => decide (x = y) && samN r s
  | _, _ => false
theorem samN_at {P Q : List Nat} {k x y : Nat} (hx : P[k]? = some x) (hy : Q[k]? = some y) : samN (P.drop k) (Q.drop k) = (decide (x = y) && samN (P.drop (k + 1)) (Q.drop (k + 1))) := by
  obtain ⟨hk, rfl⟩ := List.getElem?_eq_some_iff.1 hx
  obtain ⟨hk2, rfl⟩ := List.getElem?_eq_some_iff.1 hy
  rw [List.drop_eq_getElem_cons hk, List.drop_eq_getElem_cons hk2]; rfl
theorem samN_eq : ∀ (P Q : List Nat), samN P Q = decide (P = Q)
  | [], [] => rfl
  | [], _ :: _ => by simp [samN]
  | _ :: _, [] => by simp [samN]
  | x :: r, y :: s => by
    rw [samN, samN_eq r s, Bool.eq_iff_iff]; simp
set_option maxRecDepth 100000 in
set_option maxHeartbeats 4000000 in
theorem rSameN_any (n c m d : Nat) (a b : Option Addr) (P Q : List Nat) (hn : P.length = n) (hl : n ≤ 140737488351232) (hm : Q.length = m) (hl2 : m ≤ 140737488351232) (w : World) (hP : Nus w a P) (hQ : Nus w b Q) :
    Calls Try.prog 11 #[.slice a n c, .slice b m d] w fun e w' => e = .returned (.bool (decide (P = Q))) ∧ Below w.heap.size w w' := by
  rw [← samN_eq]
  have HN := Lib.hid hn
  have HM := Lib.hid hm
  have HP := Lib.hid hP
  have HQ := Lib.hid hQ
  by_cases hnm : n = m
  case neg =>
    have HE := Lib.hid (show samN P Q = false from by rw [samN_eq, decide_eq_false]; intro e; rw [e] at hn; omega)
    have g : ((n : Int) == (m : Int)) = false := by simp; omega
    have gn : ((n : Int) != (m : Int)) = true := by simp; omega
    clear hn hm hP hQ hnm
    go_enter Try.func11, Try.ntmps11
    go_wp2_with fail
    go_ret
    exact ⟨by rw [HE.out]; first | rfl | simp, Below.refl _ _⟩
  subst hnm
  obtain ⟨r, hr⟩ : ∃ r, samN P Q = r := ⟨_, rfl⟩
  rw [hr]
  have HR := Lib.hid (show samN (P.drop 0) (Q.drop 0) = r from hr)
  clear hn hm hP hQ hr
  go_enter Try.func11, Try.ntmps11
  go_wp2_with fail
  go_loopw [5] (fun u wr => ∃ k : Nat, k ≤ n ∧ u = .int .i64 k ∧ samN (P.drop k) (Q.drop k) = r ∧ Below w.heap.size w wr) (fun u _ => n - (intOf u).toNat)
  case atStart => exact ⟨0, Nat.zero_le _, rfl, HR.out, Below.refl _ _⟩
  case round =>
    obtain ⟨k, hk, rfl, hf, hB⟩ := hrel
    have HF := Lib.hid hf
    have HB := Lib.hid hB
    clear hf
    by_cases hlt : k < n
    · obtain ⟨x, hx⟩ : ∃ x, P[k]? = some x := ⟨_, List.getElem?_eq_getElem (by rw [HN.out]; exact hlt)⟩
      obtain ⟨y, hy⟩ : ∃ y, Q[k]? = some y := ⟨_, List.getElem?_eq_getElem (by rw [HM.out]; exact hlt)⟩
      have i0 : (0 : Int) ≤ (k : Int) := by omega
      have i1 : (k : Int) < (n : Int) := by omega
      have HA := Lib.hid (HF.out.symm.trans (samN_at hx hy))
      obtain ⟨b1, off, rfl, _, p0⟩ := Nus.cell (HP.out.later hB) hx
      obtain ⟨b2, off2, rfl, _, q0⟩ := Nus.cell (HQ.out.later hB) hy
      clear hx hy hB
      by_cases h1 : x = y
      · subst h1
        have HT := Lib.hid (show samN (P.drop (k + 1)) (Q.drop (k + 1)) = r by rw [HA.out]; simp)
        go_wp2_with fail
        go_quiet (fail)
        go_wp2_with fail
        go_roundw
        case rel => exact ⟨k + 1, by omega, by go_num, HT.out, below_drewN HB.out _⟩
        case measure => simp [intOf]; omega
      · obtain rfl : r = false := by rw [HA.out]; simp [h1]
        have g1 : ((x : Int) == (y : Int)) = false := by simp; omega
        have g2 : ((x : Int) != (y : Int)) = true := by simp; omega
        clear h1
        go_wp2_with fail
        go_quiet (fail)
        go_wp2_with fail
        go_ret
        exact ⟨by first | rfl | simp, below_drewN HB.out _⟩
    · have i1 : ¬ (k : Int) < (n : Int) := by omega
      obtain rfl : r = true := by rw [← HF.out, List.drop_eq_nil_of_le (by rw [HN.out]; omega), List.drop_eq_nil_of_le (by rw [HM.out]; omega)]; rfl
      go_wp2_with fail
      go_ret
      exact ⟨by first | rfl | simp, HB.out⟩
/-- Each deal, as the document goes through them. -/
def riA (L0 : List Dl) : Nat → List Dl → Bool
  | _, [] => true
  | i, x :: r => decide (pixC x.t 0 L0 = some i) && (dlOk x && riA L0 (i + 1) r)
theorem pix_first {t : Tx} : ∀ (p : List Dl) (x : Dl) (r : List Dl) (i : Nat), x.t = t → (pixC t i (p ++ x :: r) = some (i + p.length) ↔ p.all (fun y => !decide (y.t = t)) = true)
  | [], x, r, i, h => by simp [pixC, h]
  | y :: p, x, r, i, h => by
    have ih := pix_first p x r (i + 1) h
    simp only [List.cons_append, pixC, List.all_cons, List.length_cons]
    by_cases hy : y.t = t
    · simp only [hy, ↓reduceIte, decide_true, Bool.not_true, Bool.false_and, Bool.false_eq_true, iff_false]
      intro e; have := Option.some.inj e; omega
    · simp only [hy, ↓reduceIte, decide_false, Bool.not_false, Bool.true_and]
      rw [← ih, show i + 1 + p.length = i + (p.length + 1) by omega]
theorem ri_dst (L : List Dl) : ∀ (r p : List Dl) (i : Nat), L = p ++ r → i = p.length → riA L i r = (dstC (p.map fun d => d.t) r && r.all dlOk)
  | [], p, i, _, _ => rfl
  | x :: r, p, i, h, hi => by
    have ih := ri_dst L r (p ++ [x]) (i + 1) (by rw [h]; simp) (by simp [hi])
    have h1 : decide (pixC x.t 0 L = some i) = p.all fun y => !decide (y.t = x.t) := by
      have := pix_first (t := x.t) p x r 0 rfl
      rw [← h, Nat.zero_add, ← hi] at this
      rw [Bool.eq_iff_iff, decide_eq_true_iff]; exact this
    have h2 : ((p.map fun d => d.t).all fun y => !decide (y = x.t)) = p.all fun y => !decide (y.t = x.t) := by rw [List.all_map]; rfl
    rw [riA, ih, h1, dstC, h2, List.all_cons, List.map_append, List.map_cons, List.map_nil]
    cases p.all fun y => !decide (y.t = x.t) <;> cases dlOk x <;> cases dstC (p.map (fun d => d.t) ++ [x.t]) r <;> simp
theorem right_ri (L : List Dl) : rightC L = (decide (L.length ≤ 64) && riA L 0 L) := by
  rw [ri_dst L L [] 0 rfl rfl]; rfl
theorem ri_at {L0 L : List Dl} {k : Nat} {x : Dl} (hx : L[k]? = some x) : riA L0 k (L.drop k) = (decide (pixC x.t 0 L0 = some k) && (dlOk x && riA L0 (k + 1) (L.drop (k + 1)))) := by
  obtain ⟨hk, rfl⟩ := List.getElem?_eq_some_iff.1 hx
  rw [List.drop_eq_getElem_cons hk]; rfl
theorem ixI_ne {r : Option Nat} {k : Nat} (h : ¬ r = some k) : (ixI r == (k : Int)) = false ∧ (ixI r != (k : Int)) = true := by
  cases r with
  | none => constructor <;> (simp [ixI] <;> omega)
  | some j =>
    have hj : ¬ j = k := fun e => h (by rw [e])
    constructor <;> (simp [ixI] <;> omega)
end Go.Proofs.Ytohhkacnjhgamaa
