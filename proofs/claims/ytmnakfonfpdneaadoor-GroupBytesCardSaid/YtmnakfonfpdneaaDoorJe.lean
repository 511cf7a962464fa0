/- Configurations taken of bytes. -/
import Derived.Test.YtmnakfonfpdneaaDoorJd
import Derived.Test.YtmnakfonfpdneaaDoorRte
namespace Go.Proofs.YtmnakfonfpdneaaDoor
open Go.RowKit

/-- A configuration of bytes, and what stands for a fault. -/
def tkG (s : List UInt8) : (List Nat × List Nat) × Int :=
  if (tkNums 7 s).2.2 ≠ 0 then (([], []), 3)
  else if (tkNums 3 (tkNums 7 s).2.1).2.2 ≠ 0 ∨ (tkNums 3 (tkNums 7 s).2.1).2.1 ≠ [] ∨ mayB (tkNums 7 s).1 (tkNums 3 (tkNums 7 s).2.1).1 = false then (([], []), 3)
  else (((tkNums 7 s).1, (tkNums 3 (tkNums 7 s).2.1).1), 0)
theorem each_len : ∀ (n : Nat) (s : List UInt8), (tkEach n s).1.length ≤ n
  | 0, s => by simp [tkEach]
  | n + 1, s => by
    unfold tkEach
    split
    · simp
    · split
      · simp
      · have := each_len n (tkNum s).2.1; simp; omega
theorem each_less : ∀ (n : Nat) (s : List UInt8), (tkEach n s).2.1.length ≤ s.length
  | 0, s => by simp [tkEach]
  | n + 1, s => by
    unfold tkEach
    split
    · simp
    · split
      · simp
      · exact Nat.le_trans (each_less n _) (tk_less s)
theorem nums_len (M : Nat) (s : List UInt8) : (tkNums M s).1.length ≤ M := by
  unfold tkNums
  split
  · simp
  · split
    · simp
    · rename_i h1 h2
      have := each_len (tkNum s).1 (tkNum s).2.1
      omega
theorem nums_less (M : Nat) (s : List UInt8) : (tkNums M s).2.1.length ≤ s.length := by
  unfold tkNums
  split
  · simp
  · split
    · simp
    · exact Nat.le_trans (each_less _ _) (tk_less s)
/-- What was taken, as a list in memory. -/
theorem each_use {w w' : World} {r : List Nat × List UInt8 × Nat} {e : Ending} (h : EachP w r e w') {V : List Nat} {q : List UInt8} {x : Nat} (hr : r = (V, q, x)) :
    ∃ a n c, e = .returned (.tuple #[.slice a n c, .string ⟨q.toArray⟩, .int .i64 x]) ∧ V.length = n ∧ Us w' a V ∧ (0 < n → ∀ q, a = some q → w.heap.size ≤ q.block) ∧ Below w.heap.size w w' := by
  subst hr
  obtain ⟨v, rfl, ho, hb⟩ := h
  have hc := @ho.cells
  rcases ho.2 with ⟨rfl, h0⟩ | ⟨g, cap, cur, rfl, hg, hh, _⟩
  · simp only at h0
    have : V = [] := List.length_eq_zero_iff.1 h0
    subst this
    exact ⟨none, 0, 0, rfl, rfl, Us.nil _ _, fun h => absurd h (Nat.lt_irrefl _), hb⟩
  · refine ⟨some ⟨g, 0, none⟩, V.length, cap, rfl, rfl, fun j y hy => ⟨g, 0, rfl, (Array.getElem?_eq_some_iff.1 hh).1, ?_⟩, fun _ q e => by cases e; exact hg, hb⟩
    have h1 := hc (g := g) rfl j (u64v y) (by simp [hy])
    rw [addHead] at h1
    rw [Nat.zero_add]; exact h1
/-- Two stores into the first box. -/
theorem one_below {w w' : World} (h : Below w.heap.size w w') (u v : Value) : Below w.heap.size w ((w'.setCell ⟨w.heap.size, 0, none⟩ u).setCell ⟨w.heap.size, 1, none⟩ v) := (h.setCell (Nat.le_refl _) u).setCell (Nat.le_refl _) v
theorem us_box {w1 : World} {a : Option Addr} {L : List Nat} {x : Nat} (h : Us w1 a L) (hne : 0 < L.length → ∀ q, a = some q → q.block ≠ x) (p q : Value) : Us ((w1.setCell ⟨x, 0, none⟩ p).setCell ⟨x, 1, none⟩ q) a L := (h.set' hne _ _).set' hne _ _
set_option maxRecDepth 100000 in
set_option maxHeartbeats 4000000 in
theorem pTake_any (s : List UInt8) (hs : s.length ≤ 140737488351232) (w : World) : Calls Tryd.prog 8 #[.string ⟨s.toArray⟩] w (NxF w (tkG s)) := by
  obtain ⟨V, q, x1, hx1⟩ : ∃ V q x1, tkNums 7 s = (V, q, x1) := ⟨_, _, _, rfl⟩
  obtain ⟨L, q2, x2, hx2⟩ : ∃ V q1 x1, tkNums 3 q = (V, q1, x1) := ⟨_, _, _, rfl⟩
  obtain ⟨mb, hmb⟩ : ∃ mb, mayB V L = mb := ⟨_, rfl⟩
  obtain ⟨r, hr⟩ : ∃ r, tkG s = r := ⟨_, rfl⟩
  have HR := Lib.hid (show (if x1 ≠ 0 then (([], []), 3) else if x2 ≠ 0 ∨ q2 ≠ [] ∨ mb = false then (([], []), 3) else ((V, L), 0)) = r by rw [← hr]; unfold tkG; rw [hx1]; simp only; rw [hx2]; simp only; rw [hmb])
  rw [hr]
  have HVL := Lib.hid (show V.length ≤ 7 by have h := nums_len 7 s; rw [show tkNums ((7 : Nat) : Int) s = (V, q, x1) from hx1] at h; exact h)
  have HLL := Lib.hid (show L.length ≤ 3 by have h := nums_len 3 q; rw [show tkNums ((3 : Nat) : Int) q = (L, q2, x2) from hx2] at h; exact h)
  have HQL := Lib.hid (show q.length ≤ 140737488351232 by have h := nums_less 7 s; rw [show tkNums ((7 : Nat) : Int) s = (V, q, x1) from hx1] at h; simp only at h; omega)
  have H1 := Lib.hid hx1
  have H2 := Lib.hid hx2
  have HMB := Lib.hid hmb
  have HB := Lib.hid ((Below.refl w.heap.size w).alloc (Nat.le_refl _) (.cells #[.slice none 0 0, .slice none 0 0] 24))
  have HD := Lib.hid (Cb.new (w := w) rfl (.slice none 0 0) (.slice none 0 0) 24)
  clear hx1 hx2 hmb hr
  go_enter Tryd.func8, Tryd.ntmps8
  go_wp2_with fail
  refine (takeNums_any 7 s (by omega) hs _).mono ?_
  intro e w1 h1
  obtain ⟨a, n, c, rfl, hn, hV, hf, hb1⟩ := each_use h1 H1.out
  have HN := Lib.hid hn
  have HB1 := Lib.hid (HB.out.trans (hb1.mono HB.out.size))
  have HD1 := Lib.hid (HD.out.later hb1)
  have HV := Lib.hid hV
  have HF := Lib.hid (show 0 < n → ∀ q, a = some q → w.heap.size + 1 ≤ q.block from fun h q e => by have := hf h q e; simpa using this)
  clear h1 hn hV hf hb1 HB HD
  obtain ⟨d0, d1, dz, dl⟩ := HD1.out
  by_cases he : x1 = 0
  case neg =>
    have HT := Lib.hid (show r = (([], []), 3) by rw [← HR.out, if_pos he])
    have g : ((x1 : Int) == 0) = false := by simp; omega
    clear he
    go_wp2_with fail
    refine bodyPost_ret (v := .tuple #[.agg #[.slice none 0 0, .slice none 0 0], .int .i64 3]) (by simp [results, Tryd.results8, go_sem, d0, d1]) rfl ?_
    exact nx_no HT.out (one_below HB1.out _ _)
  subst he
  clear d0 d1 dz dl
  go_wp2_with fail
  refine (takeNums_any 3 q (by omega) HQL.out _).mono ?_
  intro e w2 h2
  obtain ⟨a2, n2, c2, rfl, hn2, hU, hf2, hb2⟩ := each_use h2 H2.out
  have HN2 := Lib.hid hn2
  have HB2 := Lib.hid (HB1.out.trans (hb2.mono HB1.out.size))
  have HD2 := Lib.hid (HD1.out.later hb2)
  have HV2 := Lib.hid (HV.out.later hb2)
  have HU2 := Lib.hid hU
  have HF2 := Lib.hid (show 0 < n2 → ∀ q, a2 = some q → w.heap.size + 1 ≤ q.block from fun h q e => by have := hf2 h q e; have := HD1.out.lt; omega)
  clear h2 hn2 hU hf2 hb2 HB1 HD1 HV
  have HC := Lib.hid (Cb.new (w := w2) rfl (.slice a n c) (.slice a2 n2 c2) 24)
  have HX := Lib.hid ((Below.refl w2.heap.size w2).alloc (Nat.le_refl _) (.cells #[.slice a n c, .slice a2 n2 c2] 24))
  have HB3 := Lib.hid (HB2.out.trans (HX.out.mono HB2.out.size))
  go_upto_region 6 with (fail)
  generalize hW : w2.alloc (.cells #[.slice a n c, .slice a2 n2 c2] 24) = W at *
  clear hW
  have HD3 := Lib.hid (HD2.out.later HX.out)
  have HV3 := Lib.hid (HV2.out.later HX.out)
  have HU3 := Lib.hid (HU2.out.later HX.out)
  clear HD2 HV2 HU2 HB2 HX
  obtain ⟨y, hy⟩ : ∃ y, w2.heap.size = y := ⟨_, rfl⟩
  rw [hy] at HC ⊢
  clear hy
  obtain ⟨d0, d1, dz, dl⟩ := HD3.out
  obtain ⟨c0, c1, cz, cl⟩ := HC.out
  by_cases he : x2 = 0
  case neg =>
    have HT := Lib.hid (show r = (([], []), 3) by rw [← HR.out, if_neg (by simp), if_pos (.inl he)])
    have g : ((x2 : Int) == 0) = false := by simp; omega
    go_wp2_with fail
    refine bodyPost_ret (v := .tuple #[.agg #[.slice none 0 0, .slice none 0 0], .int .i64 3]) (by simp [results, Tryd.results8, go_sem, d0, d1]) rfl ?_
    exact nx_no HT.out (one_below HB3.out _ _)
  subst he
  cases q2 with
  | cons b t =>
    have HT := Lib.hid (show r = (([], []), 3) by rw [← HR.out, if_neg (by simp), if_pos (.inr (.inl (by simp)))])
    obtain ⟨k1, k2⟩ := isEmpty_of (s := ⟨(b :: t).toArray⟩) (c := b) (r := t) rfl
    go_wp2_with fail
    refine bodyPost_ret (v := .tuple #[.agg #[.slice none 0 0, .slice none 0 0], .int .i64 3]) (by simp [results, Tryd.results8, go_sem, d0, d1]) rfl ?_
    exact nx_no HT.out (one_below HB3.out _ _)
  | nil =>
    go_wp2_with fail
    refine (pMay_any n c n2 c2 a a2 V L HN.out (by have := HN.out; have := HVL.out; omega) HN2.out (by have := HN2.out; have := HLL.out; omega) _ HV3.out HU3.out).mono ?_
    rintro e w3 ⟨rfl, hb3⟩
    rw [HMB.out]
    have HD4 := Lib.hid (HD3.out.later hb3)
    have HC4 := Lib.hid (HC.out.later hb3)
    have HV4 := Lib.hid (HV3.out.later hb3)
    have HU4 := Lib.hid (HU3.out.later hb3)
    have HB4 := Lib.hid (HB3.out.trans (hb3.mono HB3.out.size))
    clear hb3 HD3 HC HV3 HU3 HB3 d0 d1 dz dl c0 c1 cz cl
    obtain ⟨d0, d1, dz, dl⟩ := HD4.out
    obtain ⟨c0, c1, cz, cl⟩ := HC4.out
    cases mb
    · have HT := Lib.hid (show r = (([], []), 3) by rw [← HR.out, if_neg (by simp), if_pos (.inr (.inr rfl))])
      go_wp2_with fail
      refine bodyPost_ret (v := .tuple #[.agg #[.slice none 0 0, .slice none 0 0], .int .i64 3]) (by simp [results, Tryd.results8, go_sem, d0, d1]) rfl ?_
      exact nx_no HT.out (one_below HB4.out _ _)
    · have HT := Lib.hid (show r = ((V, L), 0) by rw [← HR.out, if_neg (by simp), if_neg (by simp)])
      go_wp2_with fail
      refine bodyPost_ret (v := .tuple #[.agg #[.slice a n c, .slice a2 n2 c2], .int .i64 0]) (by simp [results, Tryd.results8, go_sem, d0, d1]) rfl ?_
      exact nx_yes HT.out HN.out HN2.out (us_box HV4.out (fun h q e => by have := HF.out (by have := HN.out; omega) q e; omega) _ _) (us_box HU4.out (fun h q e => by have := HF2.out (by have := HN2.out; omega) q e; omega) _ _)
        (fun h q e => by have := HF.out (by have := HN.out; omega) q e; omega) (fun h q e => by have := HF2.out (by have := HN2.out; omega) q e; omega) (one_below HB4.out _ _)
end Go.Proofs.YtmnakfonfpdneaaDoor
