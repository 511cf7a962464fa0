/- The law LockEldest. -/
import Derived.Test.YtfidgnhinllhlaaVw
import Derived.Test.YtfidgnhinllhlaaVr
import Derived.Test.YtfidgnhinllhlaaVp
namespace Go.Proofs.Ytfidgnhinllhlaa
open Go.RowKit

/-- What is asked for, in a box. -/
structure AsBox (w : World) (b : Nat) (x : As) : Prop where
  lt : b < w.heap.size
  c0 : w.cell? ⟨b, 0, none⟩ = some (.int .u64 (x.t.age : Nat))
  c1 : w.cell? ⟨b, 1, none⟩ = some (.int .u64 (x.t.id : Nat))
  c2 : w.cell? ⟨b, 2, none⟩ = some (.string x.key)
  c3 : w.cell? ⟨b, 3, none⟩ = some (.bool x.wr)
theorem AsBox.later {w w' : World} {b : Nat} {x : As} (h : AsBox w b x) (hb : Below w.heap.size w w') : AsBox w' b x :=
  ⟨Nat.lt_of_lt_of_le h.lt hb.size, (hb.cell (p := ⟨b, 0, none⟩) h.lt).trans h.c0, (hb.cell (p := ⟨b, 1, none⟩) h.lt).trans h.c1, (hb.cell (p := ⟨b, 2, none⟩) h.lt).trans h.c2, (hb.cell (p := ⟨b, 3, none⟩) h.lt).trans h.c3⟩
theorem asbox {w W : World} {a i : Nat} {k : ByteArray} {g : Bool} (hW : w.alloc (.cells #[.int .u64 (a : Nat), .int .u64 (i : Nat), .string k, .bool g] 27) = W) : Below w.heap.size w W ∧ AsBox W w.heap.size ⟨⟨a, i⟩, k, g⟩ := by
  subst hW
  exact ⟨by go_grown, by simp, by simp [go_sem], by simp [go_sem], by simp [go_sem], by simp [go_sem]⟩
theorem keepE {w0 w w' : World} {b p x : Nat} {v1 v2 u0 u1 : Value} (h : w.cell? ⟨b, p + 1, none⟩ = some v1 ∧ w.cell? ⟨b, p + 2, none⟩ = some v2 ∧ w.cell? ⟨x, 0, none⟩ = some u0 ∧ w.cell? ⟨x, 1, none⟩ = some u1 ∧ b < w.heap.size ∧ x < w.heap.size ∧ Below w0.heap.size w0 w) (hb : Below w.heap.size w w') :
    w'.cell? ⟨b, p + 1, none⟩ = some v1 ∧ w'.cell? ⟨b, p + 2, none⟩ = some v2 ∧ w'.cell? ⟨x, 0, none⟩ = some u0 ∧ w'.cell? ⟨x, 1, none⟩ = some u1 ∧ b < w'.heap.size ∧ x < w'.heap.size ∧ Below w0.heap.size w0 w' := by
  obtain ⟨a1, a2, c0, c1, hl, hx, hB⟩ := h
  have f : ∀ j v, w.cell? ⟨b, j, none⟩ = some v → w'.cell? ⟨b, j, none⟩ = some v := fun j v e => (hb.cell (p := ⟨b, j, none⟩) hl).trans e
  have g : ∀ j v, w.cell? ⟨x, j, none⟩ = some v → w'.cell? ⟨x, j, none⟩ = some v := fun j v e => (hb.cell (p := ⟨x, j, none⟩) hx).trans e
  exact ⟨f _ _ a1, f _ _ a2, g _ _ c0, g _ _ c1, Nat.lt_of_lt_of_le hl hb.size, Nat.lt_of_lt_of_le hx hb.size, hB.trans (hb.mono hB.size)⟩
/-- Whoever isn't oneself is younger and not firm. -/
def eldestH (t : Tx) (F : List Tx) (L : List Ho) : Prop := ∀ y ∈ L, y.t = t ∨ (eldT t y.t = true ∧ amT y.t F = false)
theorem eldest_step {t : Tx} {F : List Tx} {L : List Ho} {i : Nat} {y : Ho} (hy : L[i]? = some y) (h : eldestH t F (L.take i)) (h2 : y.t = t ∨ (eldT t y.t = true ∧ amT y.t F = false)) : eldestH t F (L.take (i + 1)) := by
  have h1 : L.take (i + 1) = L.take i ++ [y] := by rw [List.take_add_one, hy]; rfl
  intro z hz
  rw [h1] at hz
  rcases List.mem_append.1 hz with e | e
  · exact h z e
  · obtain rfl : z = y := by simpa using e
    exact h2
set_option maxRecDepth 100000 in
set_option maxHeartbeats 4000000 in
theorem law_LockEldest {TT : World → Prop} (P : PLocks TT) (n c m d : Nat) (a b : Option Addr) (L : List Ho) (x : As) (F : List Tx) (hk : okA x.key x.t) (w : World) (I : HoIn w a n c L) (J : TxIn w b m d F) (hT : TT w) :
    Calls Try.prog 7 #[.slice a n c, asV x, .slice b m d] w fun e w' => e = .returned (.bool true) ∧ Below w.heap.size w w' := by
  have HS := Lib.hid (fun w' (hb : Below w.heap.size w w') => shown_any P w' (P.below hT hb))
  have HEL := Lib.hid (fun (t : Tx) w' (hb : Below w.heap.size w w') => P.elder x.t t w' (P.below hT hb))
  have HAM := Lib.hid (fun (t : Tx) w' (hb : Below w.heap.size w w') => rAmong_any m d b F t J.hlen (by have := J.room; omega) w' (J.mem.later hb))
  have HAK := Lib.hid (fun w' (hb : Below w.heap.size w w') => P.ask n c m d a b L x.t x.key x.wr F I.hlen I.hcap I.hmax I.room I.small hk J.hlen J.room J.ok w' (P.below hT hb) (I.mem.later hb) (J.mem.later hb))
  have HI := Lib.hid I.mem
  have HN := Lib.hid I.hlen
  have hnb : n ≤ 140737488351232 := by have := I.room; omega
  have HE := Lib.hid (fun (h : eldestH x.t F L) => ask_eldest (key := x.key) (wr := x.wr) (firm := F) h)
  obtain ⟨⟨M, O, k⟩, hM⟩ : ∃ r, askH L x.t x.key x.wr F = r := ⟨_, rfl⟩
  rw [hM] at HAK HE
  obtain ⟨⟨xa, xi⟩, xk, xw⟩ := x
  clear hM P I J hT hk
  obtain ⟨W, hW⟩ : ∃ W, w.alloc (.cells #[.int .u64 (xa : Nat), .int .u64 (xi : Nat), .string xk, .bool xw] 27) = W := ⟨_, rfl⟩
  obtain ⟨hB, hX⟩ := asbox hW
  obtain ⟨x0, hx0⟩ : ∃ x, w.heap.size = x := ⟨_, rfl⟩
  rw [hx0] at hX
  have HB0 := Lib.hid hB
  have HX := Lib.hid hX
  have HW := Lib.hid hW
  have HX0 := Lib.hid hx0
  clear hB hX hW hx0
  go_enter Try.func7, Try.ntmps7
  go_wp2_with fail
  rw [HW.out, HX0.out]
  refine (HS.out _ HB0.out).mono ?_
  rintro e w1 ⟨rfl, hb1⟩
  have HB1 := Lib.hid hb1
  clear hb1
  go_wp2_with fail
  go_loopw [8] (fun iv wr => ∃ i : Nat, i ≤ n ∧ iv = .int .i64 i ∧ eldestH ⟨xa, xi⟩ F (L.take i) ∧ Below W.heap.size W wr) (fun iv _ => n - (intOf iv).toNat)
  case atStart => exact ⟨0, Nat.zero_le _, rfl, fun y hy => by simp at hy, HB1.out⟩
  case round =>
    obtain ⟨i, hi, rfl, hf, hB⟩ := hrel
    have HF := Lib.hid hf
    have HB := Lib.hid hB
    have HBw := Lib.hid (HB0.out.trans (hB.mono HB0.out.size))
    clear hf
    by_cases hlt : i < n
    case neg =>
      have i1 : ¬ (i : Int) < (n : Int) := by omega
      have hall : eldestH ⟨xa, xi⟩ F L := by
        have := HF.out
        rw [List.take_of_length_le (by rw [HN.out]; omega)] at this; exact this
      have hk05 := HE.out hall
      obtain ⟨_, q0, q1, q2, q3⟩ := HX.out.later hB
      simp only at q0 q1 q2 q3 hk05
      clear hB hall
      rcases hk05 with rfl | rfl
      · go_wp2_with fail
        refine (HAK.out _ HBw.out).mono ?_
        rintro e w5 ⟨a1, c1, a2, c2, rfl, _, _, _, _, hb5⟩
        have HB5 := Lib.hid (HBw.out.trans (hb5.mono HBw.out.size))
        clear hb5
        go_wp2_with fail
        go_ret
        exact ⟨by first | rfl | simp, HB5.out⟩
      · go_wp2_with fail
        refine (HAK.out _ HBw.out).mono ?_
        rintro e w5 ⟨a1, c1, a2, c2, rfl, _, _, _, _, hb5⟩
        have HB5 := Lib.hid (HBw.out.trans (hb5.mono HBw.out.size))
        clear hb5
        go_wp2_with fail
        go_ret
        exact ⟨by first | rfl | simp, HB5.out⟩
    have HLT := Lib.hid hlt
    obtain ⟨y, hy⟩ : ∃ y, L[i]? = some y := ⟨_, List.getElem?_eq_getElem (by rw [HN.out]; exact hlt)⟩
    have i0 : (0 : Int) ≤ (i : Int) := by omega
    have i1 : (i : Int) < (n : Int) := by omega
    have HNX := Lib.hid (fun h => eldest_step (t := ⟨xa, xi⟩) (F := F) hy HF.out h)
    obtain ⟨bb, off, rfl, hb, _, p1, p2, _⟩ := Hos.cells ((HI.out.later HB0.out).later hB) hy
    obtain ⟨hx, q0, q1, _, _⟩ := HX.out.later hB
    obtain ⟨yk, ⟨ya, yi⟩, yw⟩ := y
    simp only at p1 p2 q0 q1 HNX
    have C1 := Lib.hid (HEL.out ⟨ya, yi⟩)
    have C2 := Lib.hid (HAM.out ⟨ya, yi⟩)
    obtain ⟨e, he⟩ : ∃ e, eldT ⟨xa, xi⟩ ⟨ya, yi⟩ = e := ⟨_, rfl⟩
    obtain ⟨f, hf⟩ : ∃ f, amT ⟨ya, yi⟩ F = f := ⟨_, rfl⟩
    rw [he] at C1 HNX
    rw [hf] at C2 HNX
    have S0 := Lib.hid (And.intro p1 (And.intro p2 (And.intro q0 (And.intro q1 (And.intro hb (And.intro hx hB))))))
    clear hB hy he hf p1 p2 q0 q1 hb hx
    go_wp2_with fail
    go_upto_region 5 with (fail)
    have S1 := keepE S0.out (Below.refl _ _).drew
    clear S0
    go_region_held3 (fun w' => w'.cell? ⟨bb, off + i * 4 + 1, none⟩ = some (.int .u64 (ya : Nat)) ∧ w'.cell? ⟨bb, off + i * 4 + 2, none⟩ = some (.int .u64 (yi : Nat)) ∧ w'.cell? ⟨x0, 0, none⟩ = some (.int .u64 (xa : Nat)) ∧ w'.cell? ⟨x0, 1, none⟩ = some (.int .u64 (xi : Nat)) ∧ bb < w'.heap.size ∧ x0 < w'.heap.size ∧ Below W.heap.size W w')
      (first | (with_reducible assumption) | go_keep)
      (first
        | (go_at_call 20; (with_reducible refine (C1.out _ (HB0.out.trans (S1.2.2.2.2.2.2.mono HB0.out.size))).mono ?_); rintro e2 w2 ⟨rfl, hb2⟩; have S2 := keepE S1 hb2))
    all_goals
      have HS2 := Lib.hid S2
      clear S1 S2 hb2
      obtain ⟨p1, p2, q0, q1, _, _, hB2⟩ := HS2.out
      have HBw2 := Lib.hid (HB0.out.trans (hB2.mono HB0.out.size))
      clear hB2
      go_wp2_with fail
      refine (C2.out _ HBw2.out).mono ?_
      rintro e2 w3 ⟨rfl, hb3⟩
      clear p1 p2 q0 q1
      obtain ⟨p1, p2, q0, q1, _, _, hB3⟩ := keepE HS2.out hb3
      have HB3 := Lib.hid hB3
      have HBw3 := Lib.hid (HB0.out.trans (hB3.mono HB0.out.size))
      clear hb3 hB3 HS2 C1 C2
      by_cases hyt : (⟨ya, yi⟩ : Tx) = ⟨xa, xi⟩
      · have HN3 := Lib.hid (HNX.out (.inl hyt))
        clear HNX
        cases hyt
        go_wp2_with fail
        go_quiet (fail)
        go_wp2_with fail
        go_roundw
        case rel => exact ⟨i + 1, HLT.out, by go_num, HN3.out, below_drewN HB3.out _⟩
        case measure => have := HLT.out; simp [intOf]; omega
      cases e
      case false =>
        rcases tx_ne hyt with g | ⟨rfl, g⟩
        · go_wp2_with fail
          go_quiet (fail)
          go_wp2_with fail
          go_ret
          exact ⟨by first | rfl | simp, below_drewN HBw3.out _⟩
        · go_wp2_with fail
          go_quiet (fail)
          go_wp2_with fail
          go_ret
          exact ⟨by first | rfl | simp, below_drewN HBw3.out _⟩
      cases f
      case true =>
        rcases tx_ne hyt with g | ⟨rfl, g⟩
        · go_wp2_with fail
          go_quiet (fail)
          go_wp2_with fail
          go_ret
          exact ⟨by first | rfl | simp, below_drewN HBw3.out _⟩
        · go_wp2_with fail
          go_quiet (fail)
          go_wp2_with fail
          go_ret
          exact ⟨by first | rfl | simp, below_drewN HBw3.out _⟩
      have HN3 := Lib.hid (HNX.out (.inr ⟨rfl, rfl⟩))
      rcases tx_ne hyt with g | ⟨rfl, g⟩
      · go_wp2_with fail
        go_quiet (fail)
        go_wp2_with fail
        go_roundw
        case rel => exact ⟨i + 1, HLT.out, by go_num, HN3.out, below_drewN HB3.out _⟩
        case measure => have := HLT.out; simp [intOf]; omega
      · go_wp2_with fail
        go_quiet (fail)
        go_wp2_with fail
        go_roundw
        case rel => exact ⟨i + 1, HLT.out, by go_num, HN3.out, below_drewN HB3.out _⟩
        case measure => have := HLT.out; simp [intOf]; omega
end Go.Proofs.Ytfidgnhinllhlaa
