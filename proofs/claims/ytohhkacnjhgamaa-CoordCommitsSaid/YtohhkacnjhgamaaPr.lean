/- shown: the document's example. -/
import Derived.Test.YtohhkacnjhgamaaPq
namespace Go.Proofs.Ytohhkacnjhgamaa
open Go.RowKit

/-- An answer's fields as letters. -/
structure A5 where
  e : Int
  s : ByteArray
  v : Int
  f : Bool
  b : Bool
@[reducible] def a5V (n : A5) : Value := .agg #[.int .i64 n.e, .string n.s, .int .u64 n.v, .bool n.f, .bool n.b]
theorem AnB.set5L {w : World} {x : Nat} (h : KB w x anK) (n : A5) (hn : (⟨0, ⟨#[]⟩, 0, false, false⟩ : A5) = n) : AnB (set5a w x (.int .i64 n.e) (.string n.s) (.int .u64 n.v) (.bool n.f) (.bool n.b)) x 0 false := by
  subst hn
  exact AnB.set5 h 0 false
theorem do1 : doC [] ⟨5, ⟨1, 0⟩, [1, 2], false⟩ = ([⟨⟨1, 0⟩, [1, 2], 0⟩], 0, false) := rfl
theorem do2 : doC [⟨⟨1, 0⟩, [1, 2], 0⟩] ⟨7, ⟨1, 0⟩, [], false⟩ = ([⟨⟨1, 0⟩, [1, 2], 2⟩], 0, false) := rfl
theorem do3 : doC [⟨⟨1, 0⟩, [1, 2], 2⟩] ⟨6, ⟨1, 0⟩, [], true⟩ = ([⟨⟨1, 0⟩, [1, 2], 2⟩], 0, false) := rfl
set_option maxRecDepth 100000 in
set_option maxHeartbeats 8000000 in
theorem shown_any (w : World) :
    Calls Try.prog 8 #[] w fun e w' => e = .returned (.bool true) ∧ Below w.heap.size w w' := by
  have ox : okX (⟨1, 0⟩ : Tx) := ⟨by decide, by decide⟩
  have hl0 := LSc.nil
  have hl1 : LSc [⟨⟨1, 0⟩, [1, 2], 0⟩] := hl0.step (o := ⟨5, ⟨1, 0⟩, [1, 2], false⟩) ox
  have hl2 : LSc [⟨⟨1, 0⟩, [1, 2], 2⟩] := hl1.step (o := ⟨7, ⟨1, 0⟩, [], false⟩) ox
  obtain ⟨W1, hW1⟩ : ∃ W, w.alloc (.cells #[.int .u64 1, .int .u64 0] 27) = W := ⟨_, rfl⟩
  obtain ⟨x1, hx1⟩ : ∃ x, w.heap.size = x := ⟨_, rfl⟩
  obtain ⟨W2, hW2⟩ : ∃ W, W1.alloc (.cells #[.int .u64 1, .int .u64 2] 25) = W := ⟨_, rfl⟩
  have hB1 : Below w.heap.size w W1 := hW1 ▸ (Below.refl _ _).alloc (Nat.le_refl _) _
  have hB2 : Below W1.heap.size W1 W2 := hW2 ▸ (Below.refl _ _).alloc (Nat.le_refl _) _
  have hs1 : W1.heap.size = x1 + 1 := by rw [← hW1, ← hx1]; simp
  have hT1 : TxBox W1 x1 ⟨1, 0⟩ := by rw [← hW1, ← hx1]; exact ⟨by simp, by simp [go_sem], by simp [go_sem]⟩
  have hN2 : Nus W2 (some ⟨x1 + 1, 0, none⟩) [1, 2] := fun j y hy => by
    refine ⟨x1 + 1, 0, rfl, by rw [← hW2]; simp; omega, fun i u hu => ?_⟩
    rcases j with _ | _ | j
    · obtain rfl : (1 : Nat) = y := by simpa using hy
      rcases i with _ | i
      · obtain rfl : Value.int .u64 1 = u := by simpa [numC] using hu
        rw [← hW2, ← hs1]; simp [go_sem]
      · simp [numC] at hu
    · obtain rfl : (2 : Nat) = y := by simpa using hy
      rcases i with _ | i
      · obtain rfl : Value.int .u64 2 = u := by simpa [numC] using hu
        rw [← hW2, ← hs1]; simp [go_sem]
      · simp [numC] at hu
    · simp at hy
  have hd1 := hl0.doo ⟨none, 0, []⟩ (o := ⟨5, ⟨1, 0⟩, [1, 2], false⟩) ox (by decide) ⟨#[]⟩ none 0 0 (some ⟨x1 + 1, 0, none⟩) 2 W2 (com_nil _) hN2
  rw [do1] at hd1
  have HD1 := Lib.hid (show Calls Try.prog 16 #[.agg #[.slice none 0 0], .agg #[.int .i64 5, .int .u64 1, .int .u64 0, .string ⟨#[]⟩, .slice none 0 0, .bool false, .slice (some ⟨x1 + 1, 0, none⟩) 2 2]] W2 (DoP W2 ([⟨⟨1, 0⟩, [1, 2], 0⟩], 0, false)) from hd1)
  have HD2 := Lib.hid (fun (A1 : Cad) (w' : World) (hM : CoM w' [⟨⟨1, 0⟩, [1, 2], 0⟩] A1) => (show Calls Try.prog 16 #[.agg #[.slice A1.a 1 A1.c], .agg #[.int .i64 7, .int .u64 1, .int .u64 0, .string ⟨#[]⟩, .slice none 0 0, .bool false, .slice none 0 0]] w' (DoP w' ([⟨⟨1, 0⟩, [1, 2], 2⟩], 0, false)) from by
    have := hl1.doo A1 (o := ⟨7, ⟨1, 0⟩, [], false⟩) ox (by decide) ⟨#[]⟩ none 0 0 none 0 w' hM (fun k x hx => by simp at hx)
    rw [do2] at this; exact this))
  have HD3 := Lib.hid (fun (A1 : Cad) (w' : World) (hM : CoM w' [⟨⟨1, 0⟩, [1, 2], 2⟩] A1) => (show Calls Try.prog 16 #[.agg #[.slice A1.a 1 A1.c], .agg #[.int .i64 6, .int .u64 1, .int .u64 0, .string ⟨#[]⟩, .slice none 0 0, .bool true, .slice none 0 0]] w' (DoP w' ([⟨⟨1, 0⟩, [1, 2], 2⟩], 0, false)) from by
    have := hl2.doo A1 (o := ⟨6, ⟨1, 0⟩, [], true⟩) ox (by decide) ⟨#[]⟩ none 0 0 none 0 w' hM (fun k x hx => by simp at hx)
    rw [do3] at this; exact this))
  have HB2 := Lib.hid (hB1.trans (hB2.mono hB1.size))
  have HT2 := Lib.hid (hT1.later hB2)
  have HW1 := Lib.hid hW1
  have HX1 := Lib.hid hx1
  have HW2 := Lib.hid hW2
  have HS1 := Lib.hid hs1
  have t0 : W1.cell? ⟨x1, 0, none⟩ = some (.int .u64 1) := hT1.c0
  have t1 : W1.cell? ⟨x1, 1, none⟩ = some (.int .u64 0) := hT1.c1
  clear ox hl0 hl1 hl2 hW1 hx1 hW2 hB1 hB2 hN2 hd1
  go_enter Try.func8, Try.ntmps8
  go_upto_region 2 with (fail)
  rw [HW1.out, HX1.out]
  go_wp2_with fail
  rw [HW2.out]
  refine HD1.out.mono ?_
  rintro e w3 ⟨A1, rfl, hM1, _, hb3⟩
  have HB3 := Lib.hid (HB2.out.trans (hb3.mono HB2.out.size))
  have HT3 := Lib.hid (HT2.out.later hb3)
  have HM1 := Lib.hid hM1
  obtain ⟨V3, hV3⟩ : ∃ V, (w3.alloc (.cells #[.slice A1.a 1 A1.c] 24)).alloc (.cells #[.int .i64 0, .string ⟨#[]⟩, .int .u64 0, .bool false, .bool false] 41) = V := ⟨_, rfl⟩
  obtain ⟨x2, hx2⟩ : ∃ x, w3.heap.size = x := ⟨_, rfl⟩
  have hX : Below w3.heap.size w3 V3 ∧ KB V3 x2 [1] ∧ V3.cell? ⟨x2, 0, none⟩ = some (.slice A1.a 1 A1.c) ∧ AnB V3 (x2 + 1) 0 false := by
    rw [← hV3, ← hx2]
    exact ⟨by go_grown, (KB.new1 rfl _ _).later ((Below.refl _ _).alloc (Nat.le_refl _) _), by simp [go_sem], AnB.new (by simp) 0 false _⟩
  obtain ⟨hb4, kx, cx, an⟩ := hX
  have HB4 := Lib.hid (HB3.out.trans (hb4.mono HB3.out.size))
  have HT4 := Lib.hid (HT3.out.later hb4)
  have HM4 := Lib.hid (hM1.later hb4)
  have HKX := Lib.hid (And.intro kx (And.intro cx an))
  have HV3 := Lib.hid hV3
  have HX2 := Lib.hid hx2
  have q0 : V3.cell? ⟨x1, 0, none⟩ = some (.int .u64 1) := HT4.out.c0
  have q1 : V3.cell? ⟨x1, 1, none⟩ = some (.int .u64 0) := HT4.out.c1
  clear hM1 hb3 hb4 kx an hV3 hx2 t0 t1
  go_upto_region 3 with (fail)
  try simp only [List.length_cons, List.length_nil, Nat.zero_add]
  rw [HV3.out, HX2.out]
  go_wp2_with fail
  refine (HD2.out A1 V3 HM4.out).mono ?_
  rintro e w5 ⟨A2, rfl, hM2, hl5, hb5⟩
  obtain ⟨n2, hn2⟩ : ∃ n : A5, (⟨0, ⟨#[]⟩, 0, false, false⟩ : A5) = n := ⟨_, rfl⟩
  rw [show anV 0 false = a5V n2 from by rw [← hn2]; rfl]
  obtain ⟨W6, hW6⟩ : ∃ V, w5.alloc (.cells #[.int .i64 0, .string ⟨#[]⟩, .int .u64 0, .bool false, .bool false] 41) = V := ⟨_, rfl⟩
  obtain ⟨x4, hx4⟩ : ∃ x, w5.heap.size = x := ⟨_, rfl⟩
  have hb6 : Below w5.heap.size w5 W6 := hW6 ▸ (Below.refl _ _).alloc (Nat.le_refl _) _
  have an6 : KB W6 x4 anK := by rw [← hW6]; exact KB.new5 hx4.symm _ _ _ _ _ _
  have k6 := (HKX.out.1.later hb5).later hb6
  have c6 := (hb6.cell (p := ⟨x2, 0, none⟩) (HKX.out.1.later hb5).lt).trans ((hb5.cell (p := ⟨x2, 0, none⟩) HKX.out.1.lt).trans HKX.out.2.1)
  have z6 := k6.fz
  have hx24 : x2 + 1 < x4 := by have := HKX.out.2.2.kb.lt; have := hb5.size; omega
  obtain ⟨V6, hV6⟩ : ∃ V, W6.setCell ⟨x2, 0, none⟩ (.slice A2.a 1 A2.c) = V := ⟨_, rfl⟩
  have hg6 := sc_one W6 x2 0 (.slice A2.a 1 A2.c)
  rw [hV6] at hg6
  have an7 := an6.grownK hg6 (by omega)
  have anA := ((HKX.out.2.2.later hb5).later hb6).grown hg6 (by omega)
  have hb56 := hb5.trans (hb6.mono hb5.size)
  have m7 : CoM V6 [⟨⟨1, 0⟩, [1, 2], 2⟩] A2 := hV6 ▸ (hM2.later hb6).kb1 k6 _
  have k7 : KB V6 x2 [1] := hV6 ▸ k6.set rfl
  have c7 : V6.cell? ⟨x2, 0, none⟩ = some (.slice A2.a 1 A2.c) := by rw [← hV6]; simp [go_sem, c6]
  have t7 : TxBox V6 x1 ⟨1, 0⟩ := by
    have h := HT4.out.later hb56
    have hne : x1 ≠ x2 := by have := HX2.out; have := HT3.out.lt; omega
    exact ⟨Nat.lt_of_lt_of_le h.lt hg6.size, (World.cell?_of_block (a := ⟨x1, 0, none⟩) (hg6.block x1 h.lt (by simpa using hne))).trans h.c0, (World.cell?_of_block (a := ⟨x1, 1, none⟩) (hg6.block x1 h.lt (by simpa using hne))).trans h.c1⟩
  have hB7 : Below w.heap.size w V6 := (HB4.out.trans (hb56.mono HB4.out.size)).grown hg6 (by have := HB4.out.size; have := hb56.size; omega) (fun k e => by cases e; have := HX2.out; have := HB3.out.size; omega)
  obtain ⟨U, hU⟩ : ∃ U, set5a V6 x4 (.int .i64 n2.e) (.string n2.s) (.int .u64 n2.v) (.bool n2.f) (.bool n2.b) = U := ⟨_, rfl⟩
  have gU : V6.grownBy U (some x4) := hU ▸ set5a_grown _ _ _ _ _ _ _
  have an8 : AnB U x4 0 false := hU ▸ AnB.set5L an7 n2 hn2
  have HAN := Lib.hid (And.intro an8 (anA.grown gU (by omega)))
  have HK8 := Lib.hid (k7.grownK gU (by omega))
  have c8 : U.cell? ⟨x2, 0, none⟩ = some (.slice A2.a 1 A2.c) := (World.cell?_of_block (a := ⟨x2, 0, none⟩) (gU.block x2 k7.lt (by simp; omega))).trans c7
  have HC8 := Lib.hid c8
  have HM8 := Lib.hid (m7.grown gU (Rw.notin m7.row an7 nofit_a) (fun y hy => by
    have h1 : LI y.a V3.heap.size w5.heap.size := hl5 y hy
    exact (h1.ne (.inr (by omega))).nb _))
  have t8 : U.cell? ⟨x1, 0, none⟩ = some (.int .u64 1) ∧ U.cell? ⟨x1, 1, none⟩ = some (.int .u64 0) := by
    have hlt : x1 < x4 := by have := HX2.out; have := HT3.out.lt; omega
    exact ⟨(World.cell?_of_block (a := ⟨x1, 0, none⟩) (gU.block x1 t7.lt (by simp; omega))).trans t7.c0, (World.cell?_of_block (a := ⟨x1, 1, none⟩) (gU.block x1 t7.lt (by simp; omega))).trans t7.c1⟩
  have HT8 := Lib.hid t8
  have HB8 := Lib.hid (show Below w.heap.size w U from hB7.grown gU hB7.size (fun k e => by cases e; have := HX2.out; have := HB3.out.size; omega))
  have HX24 := Lib.hid hx24
  have n1 : ¬ x2 = w5.heap.size := by omega
  have n1' : ¬ w5.heap.size = x2 := by omega
  have HU := Lib.hid (show set5a ((w5.alloc (.cells #[.int .i64 0, .string ⟨#[]⟩, .int .u64 0, .bool false, .bool false] 41)).setCell ⟨x2, 0, none⟩ (.slice A2.a 1 A2.c)) x4 (.int .i64 n2.e) (.string n2.s) (.int .u64 n2.v) (.bool n2.f) (.bool n2.b) = U by rw [hW6, hV6]; exact hU)
  have HX4 := Lib.hid hx4
  have HN2 := Lib.hid hn2
  rw [← hW6] at c6 z6
  clear hM2 hl5 hb5 hb6 an6 k6 hx24 hg6 an7 anA hb56 m7 k7 c7 t7 hB7 gU an8 c8 hU hV6 hW6 hx4 hn2 t8
  go_upto_region 4 with (fail)
  rw [HX4.out]
  have hU2 := HU.out
  simp only [set5a] at hU2
  rw [hU2]
  clear hU2
  clear c6 z6 n1 n1'
  have c8 := HC8.out
  obtain ⟨r0, r1⟩ := HT8.out
  go_wp2_with fail
  refine (HD3.out A2 U HM8.out).mono ?_
  rintro e w9 ⟨A3, rfl, hM3, _, hb9⟩
  obtain ⟨a1, a2⟩ := HAN.out
  obtain ⟨V9, hV9⟩ : ∃ V, (w9.alloc (.cells #[.slice A3.a 1 A3.c] 24)).alloc (.cells #[.int .i64 0, .string ⟨#[]⟩, .int .u64 0, .bool false, .bool false] 41) = V := ⟨_, rfl⟩
  obtain ⟨x9, hx9⟩ : ∃ x, w9.heap.size = x := ⟨_, rfl⟩
  have hX : Below w9.heap.size w9 V9 ∧ AnB V9 (x9 + 1) 0 false := by
    rw [← hV9, ← hx9]
    exact ⟨by go_grown, AnB.new (by simp) 0 false _⟩
  obtain ⟨hb10, a3⟩ := hX
  have b1 := (a1.later hb9).later hb10
  have b2 := (a2.later hb9).later hb10
  have d8 := (hb10.cell (p := ⟨x2, 0, none⟩) (Nat.lt_of_lt_of_le HK8.out.lt hb9.size)).trans ((hb9.cell (p := ⟨x2, 0, none⟩) HK8.out.lt).trans c8)
  have HB10 := Lib.hid (HB8.out.trans ((hb9.trans (hb10.mono hb9.size)).mono HB8.out.size))
  have e0 : V9.cell? ⟨x4, 0, none⟩ = some (.int .i64 0) := b1.c0
  have e4 := b1.c4
  have f0 : V9.cell? ⟨x2 + 1, 0, none⟩ = some (.int .i64 0) := b2.c0
  have f4 := b2.c4
  have g0 : V9.cell? ⟨x9 + 1, 0, none⟩ = some (.int .i64 0) := a3.c0
  have g4 := a3.c4
  have HV9 := Lib.hid hV9
  have HX9 := Lib.hid hx9
  clear hM3 hb9 a1 a2 hV9 hx9 hb10 a3 b1 b2 c8 r0 r1
  go_upto_region 5 with (fail)
  rw [HV9.out, HX9.out]
  go_wp2_with fail
  go_ret
  exact ⟨by first | rfl | simp, HB10.out⟩
end Go.Proofs.Ytohhkacnjhgamaa
