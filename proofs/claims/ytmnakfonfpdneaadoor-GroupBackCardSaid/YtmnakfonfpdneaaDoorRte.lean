/- The reference of layer 1: TakeNums: several numbers out of bytes. -/
import Derived.Test.YtmnakfonfpdneaaDoorPte
import Derived.Test.YtmnakfonfpdneaaDoorRtake
namespace Go.Proofs.YtmnakfonfpdneaaDoor
open Go.RowKit

set_option maxRecDepth 100000 in
set_option maxHeartbeats 4000000 in
theorem refTakeNums_any (M : Nat) (s : List UInt8) (hM : M ≤ 1048576) (_ : s.length ≤ 140737488351232) (w : World) :
    Calls Tryd.prog 19 #[.string ⟨s.toArray⟩, .int .i64 M] w (EachP w (tkNums M s)) := by
  obtain ⟨x, r, e, hx⟩ : ∃ x r e, tkNum s = (x, r, e) := ⟨_, _, _, rfl⟩
  have hless := tk_less s
  rw [hx] at hless
  simp only at hless
  by_cases he : e = 0
  · subst he
    by_cases hc : M < x
    · have hr : tkNums M s = ([], [], 4) := by unfold tkNums; rw [hx, if_neg (by simp), if_pos (.inr (by simp only; omega))]
      have HR := Lib.hid hr; clear hr
      have HX := Lib.hid hx; clear hx
      have hc2 : (M : Int) < (x : Int) := by omega
      go_enter Tryd.func19, Tryd.ntmps19
      go_wp2_with fail
      refine (refTake_any ⟨s.toArray⟩ _).mono ?_
      rintro e2 w2 ⟨rfl, kk, rfl⟩
      rw [show (ByteArray.mk s.toArray).data.toList = s from rfl, HX.out]
      unfold tkOut
      simp only
      have HF : Hid (EachP w (tkNums M s) (.returned (.tuple #[.slice none 0 0, .string ⟨#[]⟩, .int .i64 4])) (w.drewN kk)) := by
        show EachP _ _ _ _
        rw [HR.out]; exact ⟨_, rfl, World.ownsRow_nil _ _ _ _, below_drewN (Below.refl _ _) kk⟩
      go_wp2_with fail
      go_ret3
      exact HF.out
    · have hr : tkNums M s = tkEach x r := by unfold tkNums; rw [hx, if_neg (by simp), if_neg (by simp only; omega)]
      have HR := Lib.hid hr; clear hr
      have HX := Lib.hid hx; clear hx
      have hc2 : ¬ (M : Int) < (x : Int) := by omega
      go_enter Tryd.func19, Tryd.ntmps19
      go_wp2_with fail
      refine (refTake_any ⟨s.toArray⟩ _).mono ?_
      rintro e2 w2 ⟨rfl, kk, rfl⟩
      rw [show (ByteArray.mk s.toArray).data.toList = s from rfl, HX.out]
      unfold tkOut
      simp only
      go_wp2_with fail
      obtain ⟨i0, hi, hz0, hz1, hz2⟩ := info_parts infoU64E
      have hnil := joinE_nil (tkEach x r) (each_nil x r)
      have HNIL := Lib.hid hnil; clear hnil
      go_loopw [8, 10, 11] (fun rv v i wr => ∃ (k : Nat) (l : List Nat) (q : List UInt8), k ≤ x ∧ i = .int .u64 k ∧ rv = .string ⟨q.toArray⟩ ∧ q.length ≤ r.length ∧ l.length = k ∧ tkEach x r = joinE l (tkEach (x - k) q) ∧ wr.ownsRow w.heap.size 38 1 v k (l.map u64v) ∧ Below w.heap.size w wr) (fun _ _ i _ => x - (intOf i).toNat)
      case atStart => exact ⟨0, [], r, Nat.zero_le _, rfl, rfl, Nat.le_refl _, rfl, HNIL.out.symm, World.ownsRow_nil _ _ _ _, below_drewN (Below.refl _ _) kk⟩
      case round =>
        obtain ⟨k, l, q, hk, rfl, rfl, hq, hlk, hj, hown, B⟩ := hrel
        by_cases hlt : k < x
        · obtain ⟨m, hm⟩ : ∃ m, x - k = m + 1 := ⟨x - k - 1, by omega⟩
          rw [hm] at hj
          have HJ := Lib.hid hj; clear hj
          have HLK := Lib.hid hlk; clear hlk
          have HM := Lib.hid hm; clear hm
          obtain ⟨x1, r1, e1, hx1⟩ : ∃ x1 r1 e1, tkNum q = (x1, r1, e1) := ⟨_, _, _, rfl⟩
          have hless1 := tk_less q
          have hshape := tk_shape q
          rw [hx1] at hless1 hshape
          simp only at hless1 hshape
          have HX1 := Lib.hid hx1; clear hx1
          have HSH := Lib.hid hshape; clear hshape
          by_cases he1 : e1 = 0
          · subst he1
            go_wp2_with fail
            refine (refTake_any ⟨q.toArray⟩ _).mono ?_
            rintro e2 w2 ⟨rfl, k2, rfl⟩
            rw [show (ByteArray.mk q.toArray).data.toList = q from rfl, HX1.out]
            have hown2 : (wr.drewN k2).ownsRow w.heap.size 38 1 u10 k (l.map u64v) := hown
            have B2 := below_drewN B k2
            have hj2 : tkEach x r = joinE (l ++ [x1]) (tkEach (x - (k + 1)) r1) := by
              have e1 := each_succ (n := m) (s := q) l (by rw [HX1.out])
              rw [HX1.out] at e1
              rw [HJ.out, e1, show x - (k + 1) = m by have := HM.out; omega]
            have hlk2 : (l ++ [x1]).length = k + 1 := by rw [List.length_append, HLK.out]; rfl
            have HJ2 := Lib.hid hj2
            have HLK2 := Lib.hid hlk2
            clear hown B hj2 hlk2
            unfold tkOut
            simp only
            go_wp2_with (at_builtin; refine wpList_append_own _ rfl _ _ 22 rfl w.heap.size 38 i0 (.int .u64 0) 1 8 Tryd.underlying22 hi hz0 hz1 hz2 rfl (by decide) _ _ _ rfl (hown2.alloc _) ⟨wr.heap.size, 0, none⟩ 1 1 [u64v x1] rfl rfl ?c1 ?c2 ?c3 ?c4 ?c5 ?_)
            case c1 => intro j u hj; rw [addHead]; exact (World.cell?_alloc_at _ _ _ _ (by simp)).trans (by rw [List.getElem?_toArray.symm] at hj; exact hj)
            case c2 => intro u hu; rw [List.mem_singleton.1 hu]; rfl
            case c3 => unfold maxLen; omega
            case c4 => omega
            case c5 => have := B2.size; simp at this ⊢; omega
            intro v' w3 hown3 hgrow _
            have B3 : Below w.heap.size w w3 := (B2.alloc B2.size _).grown hgrow (by have := B2.size; simp at this ⊢; omega) (fun j e => (hown2.lt j e).1)
            have HO : Hid (w3.ownsRow w.heap.size 38 1 v' (k + 1) ((l ++ [x1]).map u64v)) := by
              show World.ownsRow _ _ _ _ _ _ _
              rw [List.map_append]; exact hown3
            clear hown2 hown3 hgrow
            go_wp2_with fail
            go_roundw
            case rel => exact ⟨k + 1, l ++ [x1], r1, by omega, by go_num, rfl, by omega, HLK2.out, HJ2.out, HO.out, B3⟩
            case measure => simp [intOf]; omega
          · have hfin : ∀ w', Below w.heap.size w w' → EachP w (tkNums M s) (.returned (.tuple #[.slice none 0 0, .string ⟨#[]⟩, .int .i64 (e1 : Int)])) w' := fun w' hb => by
              have e2 : tkEach x r = ([], [], e1) := by
                rw [HJ.out, each_bad (by rw [HX1.out]; exact he1), HX1.out]
                unfold joinE; rw [if_pos he1]
              rw [HR.out, e2]; exact ⟨_, rfl, World.ownsRow_nil _ _ _ _, hb⟩
            have he2 : (((e1 : Nat) : Int) == 0) = false := by simpa using he1
            have HSH2 := HSH.out he1
            subst HSH2
            have HF := Lib.hid hfin
            clear HSH hown hfin he1
            go_wp2_with fail
            refine (refTake_any ⟨q.toArray⟩ _).mono ?_
            rintro e2 w2 ⟨rfl, k2, rfl⟩
            rw [show (ByteArray.mk q.toArray).data.toList = q from rfl, HX1.out]
            unfold tkOut
            simp only
            go_wp2_with fail
            go_ret3
            exact HF.out _ (below_drewN B k2)
        · obtain rfl : k = x := by omega
          have hfin : EachP w (tkNums M s) (.returned (.tuple #[u10, .string ⟨q.toArray⟩, .int .i64 0])) wr := by
            have e1 : tkEach k r = (l, q, 0) := by
              rw [hj, Nat.sub_self]; unfold joinE tkEach; simp
            rw [HR.out, e1]; exact ⟨_, rfl, by simp only; rw [hlk]; exact hown, B⟩
          have HF := Lib.hid hfin
          clear hfin hj hown hlk
          go_wp2_with fail
          go_ret3
          exact HF.out
  · have hr : tkNums M s = ([], [], e) := by unfold tkNums; rw [hx, if_pos (by simpa using he)]
    have hr2 : r = [] := by have := tk_shape s; rw [hx] at this; exact this he
    subst hr2
    have HR := Lib.hid hr; clear hr
    have HX := Lib.hid hx; clear hx
    have he2 : (((e : Nat) : Int) == 0) = false := by simpa using he
    clear he
    go_enter Tryd.func19, Tryd.ntmps19
    go_wp2_with fail
    refine (refTake_any ⟨s.toArray⟩ _).mono ?_
    rintro e2 w2 ⟨rfl, kk, rfl⟩
    rw [show (ByteArray.mk s.toArray).data.toList = s from rfl, HX.out]
    unfold tkOut
    simp only
    have HF : Hid (EachP w (tkNums M s) (.returned (.tuple #[.slice none 0 0, .string ⟨#[]⟩, .int .i64 (e : Int)])) (w.drewN kk)) := by
      show EachP _ _ _ _
      rw [HR.out]; exact ⟨_, rfl, World.ownsRow_nil _ _ _ _, below_drewN (Below.refl _ _) kk⟩
    go_wp2_with fail
    go_ret3
    exact HF.out
end Go.Proofs.YtmnakfonfpdneaaDoor
