/- One open as it must be; the closures of Right; ContainsFunc over the open ones. -/
import Derived.Test.YthgnecggdlamfaaGreatEa
namespace Go.Proofs.YthgnecggdlamfaaGreat
open Go.RowKit Go.Maps

set_option maxRecDepth 100000 in
set_option maxHeartbeats 2000000 in
theorem rightOpen_any (y : SopM) (n c : Nat) (a : Option Addr) (L : List Ho) (hn : L.length = n) (hl : n ≤ 140737488351232) (hs : smallH L) (hp : y.x.puts.length ≤ 140737488351232) (hsP : smlP y.x.puts) (w : World) (hM : Hos w a L) (hP : Pus w y.a y.x.puts) :
    Calls Tryz.prog 13 #[soV y, .slice a n c] w fun e w' => e = .returned (.bool (roL L y.x)) ∧ Below w.heap.size w w' := by
  obtain ⟨⟨t, yf, yw, yp⟩, pa, pc⟩ := y
  simp only at hp hsP hP
  obtain ⟨m, hm⟩ : ∃ m, yp.length = m := ⟨_, rfl⟩
  obtain ⟨W, hW⟩ : ∃ W, w.alloc (.cells #[.int .u64 (t.age : Nat), .int .u64 (t.id : Nat), .bool yf, .bool yw, .slice pa yp.length pc] 50) = W := ⟨_, rfl⟩
  obtain ⟨x2, hx2⟩ : ∃ x, w.heap.size = x := ⟨_, rfl⟩
  have hX : Below w.heap.size w W ∧ x2 < W.heap.size ∧ W.cell? ⟨x2, 0, none⟩ = some (.int .u64 (t.age : Nat)) ∧ W.cell? ⟨x2, 1, none⟩ = some (.int .u64 (t.id : Nat)) ∧ W.cell? ⟨x2, 2, none⟩ = some (.bool yf) ∧ W.cell? ⟨x2, 3, none⟩ = some (.bool yw) ∧ W.cell? ⟨x2, 4, none⟩ = some (.slice pa yp.length pc) := by
    rw [← hW, ← hx2]
    exact ⟨by go_grown, by simp, by simp [go_sem], by simp [go_sem], by simp [go_sem], by simp [go_sem], by simp [go_sem]⟩
  obtain ⟨hB, hlt, c0, c1, c2, c3, c4⟩ := hX
  have HFI := Lib.hid (pFits_any m pc pa yp hm (by omega) hsP W (hP.later hB))
  have HOW := Lib.hid (fun w' (h : Below W.heap.size W w') => owns_any n c m pc a pa L t yp hn hl hs hm (by omega) hsP w' ((hM.later hB).later h) ((hP.later hB).later h))
  obtain ⟨r, hr⟩ : ∃ r, roL L ⟨t, yf, yw, yp⟩ = r := ⟨_, rfl⟩
  rw [hr]
  have HR := Lib.hid hr
  have HB := Lib.hid hB
  have HMM := Lib.hid hm
  obtain ⟨ta, ti⟩ := t
  simp only at c0 c1
  have C := Lib.hid (And.intro c0 (And.intro c1 (And.intro hlt c4)))
  show Calls Tryz.prog 13 #[.agg #[.int .u64 (ta : Nat), .int .u64 (ti : Nat), .bool yf, .bool yw, .slice pa yp.length pc], .slice a n c] w _
  rw [hm] at c4 hW ⊢
  clear hr hB hM hP hs hsP hn hp hm
  cases yf
  case false =>
    by_cases h0 : m = 0
    · have h0' : ((m : Int) == 0) = true := by simp; omega
      obtain rfl : r = true := by rw [← HR.out]; simp [roL, HMM.out, h0]
      clear h0
      go_enter Tryz.func13, Tryz.ntmps13
      go_wp2_with fail
      go_ret
      exact ⟨by first | rfl | simp, by first | exact HB.out | (rw [← hx2]; exact HB.out)⟩
    · have h0' : ((m : Int) == 0) = false := by simp; omega
      obtain rfl : r = false := by rw [← HR.out]; simp [roL, HMM.out, h0]
      clear h0
      go_enter Tryz.func13, Tryz.ntmps13
      go_wp2_with fail
      go_ret
      exact ⟨by first | rfl | simp, by first | exact HB.out | (rw [← hx2]; exact HB.out)⟩
  cases yw
  case true =>
    obtain rfl : r = false := by rw [← HR.out]; simp [roL]
    go_enter Tryz.func13, Tryz.ntmps13
    go_wp2_with fail
    go_ret
    exact ⟨by first | rfl | simp, by first | exact HB.out | (rw [← hx2]; exact HB.out)⟩
  obtain ⟨fi, hfi⟩ : ∃ f, fitsX yp = f := ⟨_, rfl⟩
  obtain ⟨ow, how⟩ : ∃ b, (yp.all fun p => hasH ⟨ta, ti⟩ p.key true L) = b := ⟨_, rfl⟩
  rw [hfi] at HFI
  rw [how] at HOW
  have HRE := Lib.hid (show (decide (fi = 0) && ow) = r from by rw [← HR.out, ← hfi, ← how]; simp [roL])
  clear hfi how
  go_enter Tryz.func13, Tryz.ntmps13
  go_wp2_with fail
  refine HFI.out.mono ?_
  rintro e w2 ⟨rfl, hb2⟩
  have HB2 := Lib.hid hb2
  have f : ∀ j v, W.cell? ⟨x2, j, none⟩ = some v → w2.cell? ⟨x2, j, none⟩ = some v := fun j v e => (hb2.cell (p := ⟨x2, j, none⟩) C.out.2.2.1).trans e
  have d0 := f _ _ C.out.1
  have d1 := f _ _ C.out.2.1
  have d4 := f _ _ C.out.2.2.2
  rw [HMM.out] at d4
  clear hb2 f c0 c1 c2 c3 c4 hlt
  by_cases h0 : fi = 0
  · subst h0
    obtain rfl : ow = r := by rw [← HRE.out]; simp
    go_wp2_with fail
    refine (HOW.out w2 HB2.out).mono ?_
    rintro e w3 ⟨rfl, hb3⟩
    have HB3 := Lib.hid (HB.out.trans ((HB2.out.trans (hb3.mono HB2.out.size)).mono HB.out.size))
    clear hb3 d0 d1 d4
    go_wp2_with fail
    go_ret
    exact ⟨by first | rfl | simp, HB3.out⟩
  · have h0' : ((fi : Int) == 0) = false := by simp; omega
    obtain rfl : r = false := by rw [← HRE.out]; simp [h0]
    go_wp2_with fail
    go_ret
    exact ⟨by first | rfl | simp, HB.out.trans (HB2.out.mono HB.out.size)⟩
set_option maxRecDepth 100000 in
set_option maxHeartbeats 1000000 in
theorem containsO_any (fn : Nat) (caps : Array Value) (f : SopM → Bool) (n c : Nat) (a : Option Addr) (L : List SopM) (hn : L.length = n) (hl : n ≤ 140737488351232) (w : World) (hR : ∀ (x : SopM) (w : World), (callFunc fn (#[.agg #[.int .u64 (x.x.t.age : Nat), .int .u64 (x.x.t.id : Nat), .bool x.x.fm, .bool x.x.wd, .slice x.a x.x.puts.length x.c]] ++ caps)).run Tryz.prog w = .ok (.enter fn (#[.agg #[.int .u64 (x.x.t.age : Nat), .int .u64 (x.x.t.id : Nat), .bool x.x.fm, .bool x.x.wd, .slice x.a x.x.puts.length x.c]] ++ caps)) w) (H : ClO w.heap.size fn caps f L w) (hM : Rw 5 sopC w a L) :
    Calls Tryz.prog 15 #[.slice a n c, .func (.func fn) #[] caps] w fun e w' => e = .returned (.bool (L.any f)) ∧ Below w.heap.size w w' := by
  have HI := Lib.hid (indexO_any fn caps f n c a L hn hl w hR H hM)
  clear hn H hM hR
  go_enter Tryz.func15, Tryz.ntmps15
  go_wp2_with fail
  refine HI.out.mono ?_
  rintro e w2 ⟨⟨k, rfl, hk⟩, hb2⟩
  have HQ := Lib.hid (fsG_any hk)
  have HB2 := Lib.hid hb2
  clear hk hb2
  by_cases h0 : (0 : Int) ≤ k
  · have HQ2 := Lib.hid (HQ.out.trans (decide_eq_true h0))
    go_wp2_with fail
    go_ret
    exact ⟨by rw [HQ2.out]; first | rfl | (simp; omega), HB2.out⟩
  · have HQ2 := Lib.hid (HQ.out.trans (decide_eq_false h0))
    go_wp2_with fail
    go_ret
    exact ⟨by rw [HQ2.out]; first | rfl | (simp; omega), HB2.out⟩
set_option maxRecDepth 100000 in
set_option maxHeartbeats 2000000 in
theorem right1_any (y : SopM) (h n c : Nat) (a : Option Addr) (L : List Ho) (hn : L.length = n) (hl : n ≤ 140737488351232) (hs : smallH L) (hp : y.x.puts.length ≤ 140737488351232) (hsP : smlP y.x.puts) (w : World) (hlt : h < w.heap.size) (hc : w.cell? ⟨h, 1, none⟩ = some (.slice a n c)) (hM : Hos w a L) (hP : Pus w y.a y.x.puts) :
    Calls Tryz.prog 12 #[soV y, .pointer (some ⟨h, 0, none⟩)] w fun e w' => e = .returned (.bool (!roL L y.x)) ∧ Below w.heap.size w w' := by
  obtain ⟨W, hW⟩ : ∃ W, w.alloc (.cells #[.int .u64 (y.x.t.age : Nat), .int .u64 (y.x.t.id : Nat), .bool y.x.fm, .bool y.x.wd, .slice y.a y.x.puts.length y.c] 50) = W := ⟨_, rfl⟩
  obtain ⟨x2, hx2⟩ : ∃ x, w.heap.size = x := ⟨_, rfl⟩
  have hX : Below w.heap.size w W ∧ W.cell? ⟨x2, 0, none⟩ = some (.int .u64 (y.x.t.age : Nat)) ∧ W.cell? ⟨x2, 1, none⟩ = some (.int .u64 (y.x.t.id : Nat)) ∧ W.cell? ⟨x2, 2, none⟩ = some (.bool y.x.fm) ∧ W.cell? ⟨x2, 3, none⟩ = some (.bool y.x.wd) ∧ W.cell? ⟨x2, 4, none⟩ = some (.slice y.a y.x.puts.length y.c) := by
    rw [← hW, ← hx2]
    exact ⟨by go_grown, by simp [go_sem], by simp [go_sem], by simp [go_sem], by simp [go_sem], by simp [go_sem]⟩
  obtain ⟨hB, c0, c1, c2, c3, c4⟩ := hX
  have hc' : W.cell? ⟨h, 1, none⟩ = some (.slice a n c) := (hB.cell (p := ⟨h, 1, none⟩) hlt).trans hc
  have HRO := Lib.hid (rightOpen_any y n c a L hn hl hs hp hsP W (hM.later hB) (hP.later hB))
  obtain ⟨r, hr⟩ : ∃ r, roL L y.x = r := ⟨_, rfl⟩
  rw [hr] at HRO ⊢
  have HB := Lib.hid hB
  obtain ⟨⟨⟨ya, yi⟩, yf, yw, yp⟩, pa, pc⟩ := y
  simp only at c0 c1 c2 c3 c4 hW HRO
  clear hr hB hM hP hs hsP hn hp hc hlt
  go_enter Tryz.func12, Tryz.ntmps12
  go_wp2_with fail
  refine HRO.out.mono ?_
  rintro e w2 ⟨rfl, hb2⟩
  have HB2 := Lib.hid (HB.out.trans (hb2.mono HB.out.size))
  clear hb2
  go_wp2_with fail
  go_ret
  exact ⟨by first | rfl | simp, HB2.out⟩
theorem right1_run (p1 : Value) (x : SopM) (w : World) : (callFunc 12 (#[.agg #[.int .u64 (x.x.t.age : Nat), .int .u64 (x.x.t.id : Nat), .bool x.x.fm, .bool x.x.wd, .slice x.a x.x.puts.length x.c]] ++ #[p1])).run Tryz.prog w = .ok (.enter 12 (#[.agg #[.int .u64 (x.x.t.age : Nat), .int .u64 (x.x.t.id : Nat), .bool x.x.fm, .bool x.x.wd, .slice x.a x.x.puts.length x.c]] ++ #[p1])) w := by kernel_rfl
/-- Whether an open one is that transaction, and not wounded. -/
def liv (t : Tx) (y : SopM) : Bool := decide (y.x.t = t) && !y.x.wd
set_option maxRecDepth 100000 in
set_option maxHeartbeats 1000000 in
theorem right21_any (y : SopM) (h : Nat) (t : Tx) (w : World) (hlt : h < w.heap.size) (h1 : w.cell? ⟨h, 1, none⟩ = some (.int .u64 (t.age : Nat))) (h2 : w.cell? ⟨h, 2, none⟩ = some (.int .u64 (t.id : Nat))) :
    Calls Tryz.prog 16 #[soV y, .pointer (some ⟨h, 0, none⟩)] w fun e w' => e = .returned (.bool (liv t y)) ∧ Below w.heap.size w w' := by
  obtain ⟨⟨⟨xa, xi⟩, xf, xw, xp⟩, pa, pc⟩ := y
  obtain ⟨ta, ti⟩ := t
  have BV : Below w.heap.size w (w.alloc (.cells #[.int .u64 (xa : Nat), .int .u64 (xi : Nat), .bool xf, .bool xw, .slice pa xp.length pc] 50)) := (Below.refl _ _).alloc (Nat.le_refl _) _
  have q0 := (BV.cell (p := ⟨h, 1, none⟩) hlt).trans h1
  have q1 := (BV.cell (p := ⟨h, 2, none⟩) hlt).trans h2
  have HB := Lib.hid BV
  clear BV h1 h2 hlt
  simp only at q0 q1
  by_cases he : (⟨xa, xi⟩ : Tx) = ⟨ta, ti⟩
  · cases he
    rw [show liv ⟨xa, xi⟩ ⟨⟨⟨xa, xi⟩, xf, xw, xp⟩, pa, pc⟩ = !xw by simp [liv]]
    go_enter Tryz.func16, Tryz.ntmps16
    go_wp2_with fail
    go_ret
    exact ⟨by first | rfl | simp, HB.out⟩
  · rw [show liv ⟨ta, ti⟩ ⟨⟨⟨xa, xi⟩, xf, xw, xp⟩, pa, pc⟩ = false by simp only [liv, decide_eq_false he, Bool.false_and]]
    have hcase : (¬ xa = ta) ∨ (¬ xi = ti) := by
      by_cases h1 : xa = ta
      · right; intro h2; exact he (by rw [h1, h2])
      · exact .inl h1
    clear he
    go_enter Tryz.func16, Tryz.ntmps16
    rcases hcase with h1 | h1
    · have g1 : ((xa : Int) == (ta : Int)) = false := by simp; omega
      go_wp2_with fail
      go_ret
      exact ⟨by first | rfl | (simp; omega), HB.out⟩
    · have g1 : ((xi : Int) == (ti : Int)) = false := by simp; omega
      go_wp2_with fail
      go_ret
      exact ⟨by first | rfl | (simp; omega), HB.out⟩
theorem right21_run (p1 : Value) (x : SopM) (w : World) : (callFunc 16 (#[.agg #[.int .u64 (x.x.t.age : Nat), .int .u64 (x.x.t.id : Nat), .bool x.x.fm, .bool x.x.wd, .slice x.a x.x.puts.length x.c]] ++ #[p1])).run Tryz.prog w = .ok (.enter 16 (#[.agg #[.int .u64 (x.x.t.age : Nat), .int .u64 (x.x.t.id : Nat), .bool x.x.fm, .bool x.x.wd, .slice x.a x.x.puts.length x.c]] ++ #[p1])) w := by kernel_rfl
set_option maxRecDepth 100000 in
set_option maxHeartbeats 1000000 in
theorem right2_any (x : Ho) (h n c : Nat) (a : Option Addr) (M : List SopM) (hn : M.length = n) (hl : n ≤ 140737488351232) (w : World) (hlt : h < w.heap.size) (hc : w.cell? ⟨h, 2, none⟩ = some (.slice a n c)) (hM : Rw 5 sopC w a M) :
    Calls Tryz.prog 14 #[hoV x, .pointer (some ⟨h, 0, none⟩)] w fun e w' => e = .returned (.bool (!M.any (liv x.t))) ∧ Below w.heap.size w w' := by
  obtain ⟨xk, ⟨xa, xi⟩, xw⟩ := x
  obtain ⟨W, hW⟩ : ∃ W, w.alloc (.cells #[.string xk, .int .u64 (xa : Nat), .int .u64 (xi : Nat), .bool xw] 54) = W := ⟨_, rfl⟩
  obtain ⟨x2, hx2⟩ : ∃ x, w.heap.size = x := ⟨_, rfl⟩
  have hX : Below w.heap.size w W ∧ x2 < W.heap.size ∧ W.cell? ⟨x2, 1, none⟩ = some (.int .u64 (xa : Nat)) ∧ W.cell? ⟨x2, 2, none⟩ = some (.int .u64 (xi : Nat)) := by
    rw [← hW, ← hx2]
    exact ⟨by go_grown, by simp, by simp [go_sem], by simp [go_sem]⟩
  obtain ⟨hB, hl2, d1, d2⟩ := hX
  have c2 := (hB.cell (p := ⟨h, 2, none⟩) hlt).trans hc
  have HC := Lib.hid (containsO_any 16 #[.pointer (some ⟨x2, 0, none⟩)] (liv ⟨xa, xi⟩) n c a M hn hl W (right21_run _) (fun y _ w' hb => right21_any y x2 ⟨xa, xi⟩ w' (Nat.lt_of_lt_of_le hl2 hb.size) ((hb.cell (p := ⟨x2, 1, none⟩) hl2).trans d1) ((hb.cell (p := ⟨x2, 2, none⟩) hl2).trans d2)) (hM.later hB))
  obtain ⟨r, hr⟩ : ∃ r, M.any (liv ⟨xa, xi⟩) = r := ⟨_, rfl⟩
  simp only
  rw [hr] at HC ⊢
  have HB := Lib.hid hB
  clear hr hB hM hn hc hlt d1 d2 hl2
  go_enter Tryz.func14, Tryz.ntmps14
  go_wp2_with fail
  refine HC.out.mono ?_
  rintro e w2 ⟨rfl, hb2⟩
  have HB2 := Lib.hid (HB.out.trans (hb2.mono HB.out.size))
  clear hb2
  go_wp2_with fail
  go_ret
  exact ⟨by first | rfl | simp, HB2.out⟩
theorem right2_run (p1 : Value) (x : Ho) (w : World) : (callFunc 14 (#[.agg #[.string x.key, .int .u64 (x.t.age : Nat), .int .u64 (x.t.id : Nat), .bool x.wr]] ++ #[p1])).run Tryz.prog w = .ok (.enter 14 (#[.agg #[.string x.key, .int .u64 (x.t.age : Nat), .int .u64 (x.t.id : Nat), .bool x.wr]] ++ #[p1])) w := by kernel_rfl
/-- Where each open one is there once, one that lives is the first of its name. -/
theorem liv_kno {t : Tx} : ∀ (O : List Sop), (O.map fun y => y.t).Nodup → (O.any fun x => decide (x.t = t) && !x.wd) = (knoS t O).any fun x => !x.wd
  | [], _ => rfl
  | x :: r, h => by
    rw [List.map_cons, List.nodup_cons] at h
    have ih := liv_kno (t := t) r h.2
    rw [List.any_cons, knoS]
    by_cases hx : x.t = t
    · rw [if_pos hx, decide_eq_true hx, Bool.true_and]
      have e : (r.any fun x => decide (x.t = t) && !x.wd) = false := by
        rw [List.any_eq_false]
        intro y hy
        have : ¬ y.t = t := fun e => h.1 (by rw [hx, ← e]; exact List.mem_map.2 ⟨y, hy, rfl⟩)
        simp [this]
      rw [e, Bool.or_false]; rfl
    · rw [if_neg hx, decide_eq_false hx, Bool.false_and, Bool.false_or, ih]
end Go.Proofs.YthgnecggdlamfaaGreat
