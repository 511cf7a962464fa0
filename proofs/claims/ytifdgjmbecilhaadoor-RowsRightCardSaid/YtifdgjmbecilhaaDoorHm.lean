/- A text, a row out of bytes: the program's TakeText, takeRow. -/
import Derived.Test.YtifdgjmbecilhaaDoorHl
import Derived.Test.YtifdgjmbecilhaaDoorUl
import Derived.Test.YtifdgjmbecilhaaDoorPtake
namespace Go.Proofs.YtifdgjmbecilhaaDoor
open Go.RowKit

set_option maxRecDepth 100000 in
set_option maxHeartbeats 4000000 in
theorem pTakeText_any (s : List UInt8) (hs : s.length ≤ 140737488355328) (w : World) : Calls Tryd.prog 55 #[.string ⟨s.toArray⟩] w (TtP s w) := by
  obtain ⟨v, q, x, hx⟩ : ∃ v q x, tkNum s = (v, q, x) := ⟨_, _, _, rfl⟩
  have HX := Lib.hid hx
  have hq : q.length ≤ s.length := by have := tk_less s; rw [hx] at this; exact this
  have htx : txG s = if x ≠ 0 ∨ 4096 < v ∨ q.length < v then none else some (q.take v, q.drop v) := by unfold txG; rw [hx]
  have HTX := Lib.hid htx
  have hsz : (ByteArray.mk q.toArray).size = q.length := size_mk q
  clear hx htx
  go_enter Tryd.func55, Tryd.ntmps55
  go_wp2_with fail
  refine (take_any ⟨s.toArray⟩ _).mono ?_
  rintro e w1 ⟨rfl, k, rfl⟩
  unfold tkOut
  rw [show (ByteArray.mk s.toArray).data.toList = s from rfl, HX.out]
  have B1 : Below w.heap.size w (w.drewN k) := below_drewN (Below.refl _ _) _
  by_cases h0 : x = 0
  case neg =>
    have g : ((x : Int) == 0) = false := by simp; omega
    have HF := Lib.hid (show txG s = none by rw [HTX.out, if_pos (.inl h0)])
    go_wp2_with fail
    go_ret3
    exact ttP_no rfl h0 HF.out B1
  subst h0
  by_cases h1 : 4096 < v
  · have g : (4096 : Int) < (v : Int) := by omega
    have HF := Lib.hid (show txG s = none by rw [HTX.out, if_pos (.inr (.inl h1))])
    go_wp2_with fail
    go_ret3
    exact ttP_no (k := 4) rfl (by decide) HF.out B1
  have g1 : ¬ (4096 : Int) < (v : Int) := by omega
  by_cases h2 : q.length < v
  · have g : (q.length : Int) < (v : Int) := by omega
    have HF := Lib.hid (show txG s = none by rw [HTX.out, if_pos (.inr (.inr h2))])
    go_wp2_with fail
    go_ret3
    exact ttP_no (k := 2) rfl (by decide) HF.out B1
  · have g : ¬ (q.length : Int) < (v : Int) := by omega
    have HF := Lib.hid (show txG s = some (q.take v, q.drop v) by rw [HTX.out, if_neg (by omega)])
    have e1 := extract_head (s := ⟨q.toArray⟩) (l := q) rfl v
    have e2 := extract_drop (s := ⟨q.toArray⟩) (l := q) rfl v
    rw [hsz] at e2
    have i1 : (0 : Int) ≤ (v : Int) := by omega
    have i2 : (v : Int) ≤ (q.length : Int) := by omega
    have E1 := Lib.hid e1
    have E2 := Lib.hid e2
    go_wp2_with fail
    go_quiet (fail)
    go_wp2_with fail
    go_ret3
    refine ⟨⟨q.take v, q.drop v, 0, ?_, fun _ => HF.out, fun h => absurd rfl h, by rw [List.length_take]; omega, by rw [List.length_drop]; omega⟩, below_drewN B1 _⟩
    first | rfl | (simp [E1.out, E2.out])
/-- What takeRow answers. -/
def TwP (s : List UInt8) (w : World) (e : Ending) (w' : World) : Prop := (∃ (x : Ro) (r : List UInt8) (k : Nat), e = .returned (.tuple #[roV x, .string ⟨r.toArray⟩, .int .i64 (k : Nat)]) ∧ (k = 0 → tkRow s = some (x, r) ∧ x.key.size ≤ 4096 ∧ x.val.size ≤ 4096 ∧ r.length ≤ s.length) ∧ (k ≠ 0 → tkRow s = none)) ∧ Below w.heap.size w w'
set_option maxRecDepth 100000 in
set_option maxHeartbeats 4000000 in
theorem takeRow_any (s : List UInt8) (hs : s.length ≤ 140737488355328) (w : World) : Calls Tryd.prog 42 #[.string ⟨s.toArray⟩] w (TwP s w) := by
  obtain ⟨W, hW⟩ : ∃ W, w.alloc (.cells #[.string ⟨#[]⟩, .string ⟨#[]⟩, .int .u64 0] 26) = W := ⟨_, rfl⟩
  obtain ⟨x2, hx2⟩ : ∃ x2, w.heap.size = x2 := ⟨_, rfl⟩
  have HR : B3 W x2 (.string ⟨#[]⟩) (.string ⟨#[]⟩) (.int .u64 0) := hW ▸ B3.new hx2.symm _ _ _ _
  have B1 : Below w.heap.size w W := hW ▸ (Below.refl _ _).alloc (Nat.le_refl _) _
  have hfz : ∀ o, W.frozen? ⟨x2, o, none⟩ = false := fun o => by rw [← hW, ← hx2]; exact World.frozen?_alloc_at (w := w) _ _ w.heap.size o rfl
  have HSW := Lib.hid (show ∀ w', Below W.heap.size W w' → B3 w' x2 (.string ⟨#[]⟩) (.string ⟨#[]⟩) (.int .u64 0) ∧ (∀ o, w'.frozen? ⟨x2, o, none⟩ = false) ∧ ∀ u v z : Value, Below w.heap.size w (((w'.setCell ⟨x2, 0, none⟩ u).setCell ⟨x2, 1, none⟩ v).setCell ⟨x2, 2, none⟩ z) from fun w' hb =>
    ⟨HR.later hb, fun o => (World.frozen?_of_block (a := ⟨x2, o, none⟩) (hb.block x2 HR.lt)).trans (hfz o), fun u v z =>
      ((((B1.trans (hb.mono B1.size)).setCell (p := ⟨x2, 0, none⟩) (Nat.le_of_eq hx2) u).setCell (p := ⟨x2, 1, none⟩) (Nat.le_of_eq hx2) v).setCell (p := ⟨x2, 2, none⟩) (Nat.le_of_eq hx2) z)⟩)
  clear HR B1 hfz
  go_enter Tryd.func42, Tryd.ntmps42
  go_wp2_with fail
  refine (pTakeText_any s hs W).mono ?_
  rintro e w1 ⟨⟨kb, ra, k1, rfl, t1, t1', _, hra⟩, hb1⟩
  have HT1 := Lib.hid (And.intro t1 t1')
  have HB1 := Lib.hid hb1
  clear t1 t1' hb1
  by_cases hk1 : k1 = 0
  case neg =>
    have g : ((k1 : Int) == 0) = false := by simp; omega
    have g' : ((k1 : Int) != 0) = true := by simp; omega
    have HN := Lib.hid (show tkRow s = none by unfold tkRow; rw [HT1.out.2 hk1])
    obtain ⟨⟨c0, c1, c2, _⟩, hz, hb⟩ := HSW.out _ HB1.out
    have z0 := hz 0
    have z1 := hz 1
    have z2 := hz 2
    have HB := Lib.hid hb
    have HK := Lib.hid hk1
    clear hk1 hz hb
    go_wp2_with fail
    exact bodyPost_ret (v := .tuple #[roV ⟨⟨#[]⟩, ⟨#[]⟩, 0⟩, .string ⟨#[]⟩, .int .i64 (k1 : Nat)]) (by simp [results, Tryd.results42, go_sem, roV, c0, c1, c2]) rfl ⟨⟨⟨⟨#[]⟩, ⟨#[]⟩, 0⟩, [], k1, rfl, fun h => absurd h HK.out, fun _ => HN.out⟩, HB.out _ _ _⟩
  have HT1a := Lib.hid (HT1.out.1 hk1)
  subst hk1
  go_wp2_with fail
  refine (pTakeText_any ra (by omega) w1).mono ?_
  rintro e w2 ⟨⟨vb, rb, k2, rfl, t2, t2', _, hrb⟩, hb2⟩
  have HT2 := Lib.hid (And.intro t2 t2')
  have HB2 := Lib.hid (HB1.out.trans (hb2.mono HB1.out.size))
  clear t2 t2' hb2
  by_cases hk2 : k2 = 0
  case neg =>
    have g : ((k2 : Int) == 0) = false := by simp; omega
    have g' : ((k2 : Int) != 0) = true := by simp; omega
    have HN := Lib.hid (show tkRow s = none by unfold tkRow; rw [HT1a.out]; simp only; rw [HT2.out.2 hk2])
    obtain ⟨⟨c0, c1, c2, _⟩, hz, hb⟩ := HSW.out _ HB2.out
    have z0 := hz 0
    have z1 := hz 1
    have z2 := hz 2
    have HB := Lib.hid hb
    have HK := Lib.hid hk2
    clear hk2 hz hb
    go_wp2_with fail
    exact bodyPost_ret (v := .tuple #[roV ⟨⟨#[]⟩, ⟨#[]⟩, 0⟩, .string ⟨#[]⟩, .int .i64 (k2 : Nat)]) (by simp [results, Tryd.results42, go_sem, roV, c0, c1, c2]) rfl ⟨⟨⟨⟨#[]⟩, ⟨#[]⟩, 0⟩, [], k2, rfl, fun h => absurd h HK.out, fun _ => HN.out⟩, HB.out _ _ _⟩
  have HT2a := Lib.hid (HT2.out.1 hk2)
  subst hk2
  obtain ⟨ver, rc, k3, hx3⟩ : ∃ v q x, tkNum rb = (v, q, x) := ⟨_, _, _, rfl⟩
  have hrc : rc.length ≤ rb.length := by have := tk_less rb; rw [hx3] at this; exact this
  have HX3 := Lib.hid hx3
  clear hx3
  go_wp2_with fail
  refine (take_any ⟨rb.toArray⟩ _).mono ?_
  rintro e w6 ⟨rfl, q6, rfl⟩
  unfold tkOut
  rw [show (ByteArray.mk rb.toArray).data.toList = rb from rfl, HX3.out]
  have hb6 : Below w2.heap.size w2 (w2.drewN q6) := below_drewN (Below.refl _ _) _
  have HB6 := Lib.hid (HB2.out.trans (hb6.mono HB2.out.size))
  clear hb6
  generalize w2.drewN q6 = w3 at *
  obtain ⟨⟨c0, c1, c2, _⟩, hz, hb⟩ := HSW.out _ HB6.out
  have z0 := hz 0
  have z1 := hz 1
  have z2 := hz 2
  have HB := Lib.hid hb
  clear hz hb
  by_cases hk3 : k3 = 0
  case neg =>
    have g : ((k3 : Int) == 0) = false := by simp; omega
    have g' : ((k3 : Int) != 0) = true := by simp; omega
    have HN := Lib.hid (show tkRow s = none by unfold tkRow; rw [HT1a.out]; simp only; rw [HT2a.out]; simp only; rw [HX3.out, if_neg hk3])
    have HK := Lib.hid hk3
    clear hk3
    go_wp2_with fail
    exact bodyPost_ret (v := .tuple #[roV ⟨⟨#[]⟩, ⟨#[]⟩, 0⟩, .string ⟨#[]⟩, .int .i64 (k3 : Nat)]) (by simp [results, Tryd.results42, go_sem, roV, c0, c1, c2]) rfl ⟨⟨⟨⟨#[]⟩, ⟨#[]⟩, 0⟩, [], k3, rfl, fun h => absurd h HK.out, fun _ => HN.out⟩, HB.out _ _ _⟩
  subst hk3
  have HROW := Lib.hid (show tkRow s = some (⟨⟨kb.toArray⟩, ⟨vb.toArray⟩, ver⟩, rc) by unfold tkRow; rw [HT1a.out]; simp only; rw [HT2a.out]; simp only; rw [HX3.out, if_pos rfl])
  have hbd1 := txG_bd HT1a.out
  have hbd2 := txG_bd HT2a.out
  have HZ := Lib.hid (show (⟨kb.toArray⟩ : ByteArray).size ≤ 4096 ∧ (⟨vb.toArray⟩ : ByteArray).size ≤ 4096 ∧ rc.length ≤ s.length by rw [sz_arr, sz_arr]; omega)
  clear hbd1 hbd2
  go_wp2_with fail
  exact bodyPost_ret (v := .tuple #[roV ⟨⟨kb.toArray⟩, ⟨vb.toArray⟩, ver⟩, .string ⟨rc.toArray⟩, .int .i64 0]) (by simp [results, Tryd.results42, go_sem, roV, c0, c1, c2]) rfl ⟨⟨⟨⟨kb.toArray⟩, ⟨vb.toArray⟩, ver⟩, rc, 0, rfl, fun _ => ⟨HROW.out, HZ.out⟩, fun h => absurd rfl h⟩, HB.out _ _ _⟩
end Go.Proofs.YtifdgjmbecilhaaDoor
