/- pack.TakeNums: several numbers out of bytes, for every bytes. -/
import Derived.Test.YtdcpiaoadbbdoaaGreatDoorRb
import Derived.Test.YtdcpiaoadbbdoaaGreatDoorPtake
import Derived.Laws.AppendOwn
import Derived.OwnWalk
import Derived.WalkKit
import Derived.WalkSpells
import Derived.WalkSmall
import Derived.Test.YtdcpiaoadbbdoaaGreatDoorRtake
import Derived.Test.YtdcpiaoadbbdoaaGreatDoorJd
set_option maxRecDepth 100000
set_option maxHeartbeats 16000000
namespace Go.Proofs.YtdcpiaoadbbdoaaGreatDoor
open Go.RowKit

def tkEach : Nat → List UInt8 → List Nat × List UInt8 × Nat
 | 0, s => ([], s, 0)
 | n + 1, s => if (tkNum s).2.2 ≠ 0 then ([], [], (tkNum s).2.2) else
  if (tkEach n (tkNum s).2.1).2.2 ≠ 0 then ([], [], (tkEach n (tkNum s).2.1).2.2) else ((tkNum s).1 :: (tkEach n (tkNum s).2.1).1, (tkEach n (tkNum s).2.1).2.1, 0)
def tkNums (most : Int) (s : List UInt8) : List Nat × List UInt8 × Nat :=
 if (tkNum s).2.2 ≠ 0 then ([], [], (tkNum s).2.2) else if most < 0 ∨ most < ((tkNum s).1 : Int) then ([], [], 4) else tkEach (tkNum s).1 (tkNum s).2.1
theorem each_bad {n : Nat} {s : List UInt8} (h : (tkNum s).2.2 ≠ 0) : tkEach (n + 1) s = ([], [], (tkNum s).2.2) := by unfold tkEach; rw [if_pos h]
def joinE (l : List Nat) (r : List Nat × List UInt8 × Nat) : List Nat × List UInt8 × Nat := if r.2.2 ≠ 0 then ([], [], r.2.2) else (l ++ r.1, r.2.1, 0)
theorem each_succ {n : Nat} {s : List UInt8} (l : List Nat) (h : (tkNum s).2.2 = 0) : joinE l (tkEach (n + 1) s) = joinE (l ++ [(tkNum s).1]) (tkEach n (tkNum s).2.1) := by
 have e : tkEach (n + 1) s = if (tkEach n (tkNum s).2.1).2.2 ≠ 0 then ([], [], (tkEach n (tkNum s).2.1).2.2) else ((tkNum s).1 :: (tkEach n (tkNum s).2.1).1, (tkEach n (tkNum s).2.1).2.1, 0) := by
  conv => lhs; unfold tkEach
  rw [if_neg (by simp [h])]
 rw [e]
 by_cases h2 : (tkEach n (tkNum s).2.1).2.2 = 0
 · rw [if_neg (by simp [h2])]; simp [joinE, h2]
 · rw [if_pos h2]; simp [joinE, h2]
theorem joinE_nil (r : List Nat × List UInt8 × Nat) (h : r.2.2 ≠ 0 → r.1 = [] ∧ r.2.1 = []) : joinE [] r = r := by
 unfold joinE
 split
 · rename_i hb; obtain ⟨h1, h2⟩ := h hb; obtain ⟨a, b, c⟩ := r; simp at h1 h2 ⊢; exact ⟨h1, h2⟩
 · rename_i hb; obtain ⟨a, b, c⟩ := r; simp at hb ⊢; exact hb.symm
theorem each_nil (n : Nat) (s : List UInt8) : (tkEach n s).2.2 ≠ 0 → (tkEach n s).1 = [] ∧ (tkEach n s).2.1 = [] := by
 cases n with
 | zero => intro h; exact absurd rfl h
 | succ n =>
  intro h
  unfold tkEach at h ⊢
  split
  · exact ⟨rfl, rfl⟩
  · split
    · exact ⟨rfl, rfl⟩
    · rename_i h1 h2; rw [if_neg h1, if_neg h2] at h; exact absurd rfl h
def u64v (n : Nat) : Value := .int .u64 (n : Int)
theorem infoU64E : (Tryz.prog.info? 22).map (fun i => (i.zero, i.size, i.bytes)) = some (some (.int .u64 0), 1, 8) := by kernel_rfl
def EachP (w : World) (r : List Nat × List UInt8 × Nat) (e : Ending) (w' : World) : Prop :=
 ∃ v, e = .returned (.tuple #[v, .string ⟨r.2.1.toArray⟩, .int .i64 r.2.2]) ∧ w'.ownsRow w.heap.size 22 1 v r.1.length (r.1.map u64v) ∧ Below w.heap.size w w'
theorem tk_shape (s : List UInt8) : (tkNum s).2.2 ≠ 0 → (tkNum s).2.1 = [] := by
 cases s with
 | nil => intro _; rfl
 | cons c r =>
  simp only [tkNum]
  intro h
  by_cases h1 : r.length + 1 < tkLen c
  · rw [if_pos h1]
  · rw [if_neg h1] at h ⊢
    by_cases h2 : szOf (tkVal (c.toNat % 64) (r.take (tkLen c - 1))) = tkLen c
    · rw [if_pos h2] at h; exact absurd rfl h
    · rw [if_neg h2]
theorem tk_less (s : List UInt8) : (tkNum s).2.1.length ≤ s.length := by
 cases s with
 | nil => exact Nat.le_refl _
 | cons c r =>
  simp only [tkNum]
  by_cases h1 : r.length + 1 < tkLen c
  · rw [if_pos h1]; simp
  · rw [if_neg h1]
    by_cases h2 : szOf (tkVal (c.toNat % 64) (r.take (tkLen c - 1))) = tkLen c
    · rw [if_pos h2]; simp; omega
    · rw [if_neg h2]; simp
theorem each_any (n : Nat) (s : List UInt8) (hn : n ≤ 1048576) (_ : s.length ≤ 140737488351232) (w : World) :
 Calls Tryz.prog 185 #[.string ⟨s.toArray⟩, .int .u64 n, .func (.func 175) #[] #[]] w (EachP w (tkEach n s)) := by
 obtain ⟨i0, hi, hz0, hz1, hz2⟩ := info_parts infoU64E
 have hnil := joinE_nil (tkEach n s) (each_nil n s)
 have HNIL := hI_ hnil; clear hnil
 go_enter Tryz.func185, Tryz.ntmps185
 go_wp2_with fail
 go_loopw [0, 9, 14] (fun r v i wr => ∃ (k : Nat) (l : List Nat) (q : List UInt8), k ≤ n ∧ i = .int .u64 k ∧ r = .string ⟨q.toArray⟩ ∧ q.length ≤ s.length ∧ l.length = k ∧ tkEach n s = joinE l (tkEach (n - k) q) ∧ wr.ownsRow w.heap.size 22 1 v k (l.map u64v) ∧ Below w.heap.size w wr) (fun _ _ i _ => n - (intOf i).toNat)
 case atStart => exact ⟨0, [], s, Nat.zero_le _, rfl, rfl, Nat.le_refl _, rfl, HNIL.out.symm, World.ownsRow_nil _ _ _ _, Below.refl _ _⟩
 case round =>
  obtain ⟨k, l, q, hk, rfl, rfl, hq, hlk, hj, hown, B⟩ := hrel
  by_cases hlt : k < n
  · obtain ⟨m, hm⟩ : ∃ m, n - k = m + 1 := ⟨n - k - 1, by omega⟩
    rw [hm] at hj
    have HJ := hI_ hj; clear hj
    have HLK := hI_ hlk; clear hlk
    have HM := hI_ hm; clear hm
    obtain ⟨x, r, e, hx⟩ : ∃ x r e, tkNum q = (x, r, e) := ⟨_, _, _, rfl⟩
    have hless := tk_less q
    have hshape := tk_shape q
    rw [hx] at hless hshape
    simp only at hless hshape
    have HX := hI_ hx; clear hx
    have HSH := hI_ hshape; clear hshape
    by_cases he : e = 0
    · subst he
      go_wp2_with fail
      refine (take_any ⟨q.toArray⟩ _).mono ?_
      rintro e2 w2 ⟨rfl, kk, rfl⟩
      rw [show (ByteArray.mk q.toArray).data.toList = q from rfl, HX.out]
      have hown2 : (wr.drewN kk).ownsRow w.heap.size 22 1 u9 k (l.map u64v) := hown
      have B2 := below_drewN B kk
      have hj2 : tkEach n s = joinE (l ++ [x]) (tkEach (n - (k + 1)) r) := by
       have e1 := each_succ (n := m) (s := q) l (by rw [HX.out])
       rw [HX.out] at e1
       rw [HJ.out, e1, show n - (k + 1) = m by have := HM.out; omega]
      have hlk2 : (l ++ [x]).length = k + 1 := by rw [List.length_append, HLK.out]; rfl
      have HJ2 := hI_ hj2
      have HLK2 := hI_ hlk2
      clear hown B hj2 hlk2
      unfold tkOut
      simp only
      go_wp2_with (at_builtin; refine wpList_append_own _ rfl _ _ 23 rfl w.heap.size 22 i0 (.int .u64 0) 1 8 Tryz.underlying23 hi hz0 hz1 hz2 rfl (by decide) _ _ _ rfl (hown2.alloc _) ⟨wr.heap.size, 0, none⟩ 1 1 [u64v x] rfl rfl ?c1 ?c2 ?c3 ?c4 ?c5 ?_)
      case c1 => intro j u hj; rw [addHead]; exact (World.cell?_alloc_at _ _ _ _ (by simp)).trans (by rw [List.getElem?_toArray.symm] at hj; exact hj)
      case c2 => intro u hu; rw [List.mem_singleton.1 hu]; rfl
      case c3 => unfold maxLen; omega
      case c4 => omega
      case c5 => have := B2.size; simp at this ⊢; omega
      intro v' w3 hown3 hgrow _
      have B3 : Below w.heap.size w w3 := (B2.alloc B2.size _).grown hgrow (by have := B2.size; simp at this ⊢; omega) (fun j e => (hown2.lt j e).1)
      have HO : Hid (w3.ownsRow w.heap.size 22 1 v' (k + 1) ((l ++ [x]).map u64v)) := by
       show World.ownsRow _ _ _ _ _ _ _
       rw [List.map_append]; exact hown3
      clear hown2 hown3 hgrow
      go_wp2_with fail
      go_roundw
      case rel => exact ⟨k + 1, l ++ [x], r, by omega, by go_num, rfl, by omega, HLK2.out, HJ2.out, HO.out, B3⟩
      case measure => simp [intOf]; omega
    · have hfin : EachP w (tkEach n s) (.returned (.tuple #[.slice none 0 0, .string ⟨#[]⟩, .int .i64 (e : Int)])) wr := by
       have e1 : tkEach n s = ([], [], e) := by
        rw [HJ.out, each_bad (by rw [HX.out]; exact he), HX.out]
        unfold joinE; rw [if_pos he]
       rw [e1]; exact ⟨_, rfl, World.ownsRow_nil _ _ _ _, B⟩
      have he2 : (((e : Nat) : Int) == 0) = false := by simpa using he
      have HSH2 := HSH.out he
      subst HSH2
      clear HSH hown
      go_wp2_with fail
      refine (take_any ⟨q.toArray⟩ _).mono ?_
      rintro e2 w2 ⟨rfl, kk, rfl⟩
      rw [show (ByteArray.mk q.toArray).data.toList = q from rfl, HX.out]
      unfold tkOut
      simp only
      have HF : Hid (EachP w (tkEach n s) (.returned (.tuple #[.slice none 0 0, .string ⟨#[]⟩, .int .i64 (e : Int)])) (wr.drewN kk)) := by
       obtain ⟨v, h1, h2, h3⟩ := hfin
       exact ⟨v, h1, h2, below_drewN h3 kk⟩
      clear hfin he
      go_wp2_with fail
      go_ret3
      exact HF.out
  · obtain rfl : k = n := by omega
    have hfin : EachP w (tkEach k s) (.returned (.tuple #[u9, .string ⟨q.toArray⟩, .int .i64 0])) wr := by
     have e1 : tkEach k s = (l, q, 0) := by
      rw [hj, Nat.sub_self]; unfold joinE tkEach; simp
     rw [e1]; exact ⟨_, rfl, by simp only; rw [hlk]; exact hown, B⟩
    have HF := hI_ hfin
    clear hfin hj hown hlk
    go_wp2_with fail
    go_ret3
    exact HF.out
theorem takeNums_any (M : Nat) (s : List UInt8) (hM : M ≤ 1048576) (hs : s.length ≤ 140737488351232) (w : World) :
 Calls Tryz.prog 158 #[.string ⟨s.toArray⟩, .int .i64 M] w (EachP w (tkNums M s)) := by
 obtain ⟨x, r, e, hx⟩ : ∃ x r e, tkNum s = (x, r, e) := ⟨_, _, _, rfl⟩
 have hless := tk_less s
 rw [hx] at hless
 simp only at hless
 by_cases he : e = 0
 · subst he
   by_cases hc : M < x
   · have hr : tkNums M s = ([], [], 4) := by unfold tkNums; rw [hx, if_neg (by simp), if_pos (.inr (by simp only; omega))]
     have HR := hI_ hr; clear hr
     have HX := hI_ hx; clear hx
     have hc2 : (M : Int) < (x : Int) := by omega
     go_enter Tryz.func158, Tryz.ntmps158
     go_wp2_with fail
     refine (take_any ⟨s.toArray⟩ _).mono ?_
     rintro e2 w2 ⟨rfl, kk, rfl⟩
     rw [show (ByteArray.mk s.toArray).data.toList = s from rfl, HX.out]
     unfold tkOut
     simp only
     have HF : Hid (EachP w (tkNums M s) (.returned (.tuple #[.slice none 0 0, .string ⟨#[]⟩, .int .i64 4])) (w.drewN kk)) := by
      show EachP _ _ _ _
      rw [HR.out]; exact ⟨_, rfl, World.ownsRow_nil _ _ _ _, below_drewN (Below.refl _ _) kk⟩
     go_wp2_with fail
     go_ret3
     exact HF.out
   · have hr : tkNums M s = tkEach x r := by unfold tkNums; rw [hx, if_neg (by simp), if_neg (by simp only; omega)]
     have HR := hI_ hr; clear hr
     have HX := hI_ hx; clear hx
     have hc2 : ¬ (M : Int) < (x : Int) := by omega
     go_enter Tryz.func158, Tryz.ntmps158
     go_wp2_with fail
     refine (take_any ⟨s.toArray⟩ _).mono ?_
     rintro e2 w2 ⟨rfl, kk, rfl⟩
     rw [show (ByteArray.mk s.toArray).data.toList = s from rfl, HX.out]
     unfold tkOut
     simp only
     go_wp2_with fail
     refine (each_any x r (by omega) (by omega) _).mono ?_
     rintro e3 w3 ⟨v, rfl, hown, B⟩
     have HF : Hid (EachP w (tkNums M s) (.returned (.tuple #[v, .string ⟨(tkEach x r).2.1.toArray⟩, .int .i64 (tkEach x r).2.2])) w3) := by
      show EachP _ _ _ _
      rw [HR.out]; exact ⟨_, rfl, hown, (below_drewN (Below.refl _ _) kk).trans B⟩
     clear hown
     generalize tkEach x r = E at *
     go_wp2_with fail
     go_ret3
     exact HF.out
 · have hr : tkNums M s = ([], [], e) := by unfold tkNums; rw [hx, if_pos (by simpa using he)]
   have hr2 : r = [] := by have := tk_shape s; rw [hx] at this; exact this he
   subst hr2
   have HR := hI_ hr; clear hr
   have HX := hI_ hx; clear hx
   have he2 : (((e : Nat) : Int) == 0) = false := by simpa using he
   clear he
   go_enter Tryz.func158, Tryz.ntmps158
   go_wp2_with fail
   refine (take_any ⟨s.toArray⟩ _).mono ?_
   rintro e2 w2 ⟨rfl, kk, rfl⟩
   rw [show (ByteArray.mk s.toArray).data.toList = s from rfl, HX.out]
   unfold tkOut
   simp only
   have HF : Hid (EachP w (tkNums M s) (.returned (.tuple #[.slice none 0 0, .string ⟨#[]⟩, .int .i64 (e : Int)])) (w.drewN kk)) := by
    show EachP _ _ _ _
    rw [HR.out]; exact ⟨_, rfl, World.ownsRow_nil _ _ _ _, below_drewN (Below.refl _ _) kk⟩
   go_wp2_with fail
   go_ret3
   exact HF.out

theorem refTakeNums_any (M : Nat) (s : List UInt8) (hM : M ≤ 1048576) (_ : s.length ≤ 140737488351232) (w : World) :
 Calls Tryz.prog 139 #[.string ⟨s.toArray⟩, .int .i64 M] w (EachP w (tkNums M s)) := by
 obtain ⟨x, r, e, hx⟩ : ∃ x r e, tkNum s = (x, r, e) := ⟨_, _, _, rfl⟩
 have hless := tk_less s
 rw [hx] at hless
 simp only at hless
 by_cases he : e = 0
 · subst he
   by_cases hc : M < x
   · have hr : tkNums M s = ([], [], 4) := by unfold tkNums; rw [hx, if_neg (by simp), if_pos (.inr (by simp only; omega))]
     have HR := hI_ hr; clear hr
     have HX := hI_ hx; clear hx
     have hc2 : (M : Int) < (x : Int) := by omega
     go_enter Tryz.func139, Tryz.ntmps139
     go_wp2_with fail
     refine (refTake_any ⟨s.toArray⟩ _).mono ?_
     rintro e2 w2 ⟨rfl, kk, rfl⟩
     rw [show (ByteArray.mk s.toArray).data.toList = s from rfl, HX.out]
     unfold tkOut
     simp only
     have HF : Hid (EachP w (tkNums M s) (.returned (.tuple #[.slice none 0 0, .string ⟨#[]⟩, .int .i64 4])) (w.drewN kk)) := by
      show EachP _ _ _ _
      rw [HR.out]; exact ⟨_, rfl, World.ownsRow_nil _ _ _ _, below_drewN (Below.refl _ _) kk⟩
     go_wp2_with fail
     go_ret3
     exact HF.out
   · have hr : tkNums M s = tkEach x r := by unfold tkNums; rw [hx, if_neg (by simp), if_neg (by simp only; omega)]
     have HR := hI_ hr; clear hr
     have HX := hI_ hx; clear hx
     have hc2 : ¬ (M : Int) < (x : Int) := by omega
     go_enter Tryz.func139, Tryz.ntmps139
     go_wp2_with fail
     refine (refTake_any ⟨s.toArray⟩ _).mono ?_
     rintro e2 w2 ⟨rfl, kk, rfl⟩
     rw [show (ByteArray.mk s.toArray).data.toList = s from rfl, HX.out]
     unfold tkOut
     simp only
     go_wp2_with fail
     obtain ⟨i0, hi, hz0, hz1, hz2⟩ := info_parts infoU64E
     have hnil := joinE_nil (tkEach x r) (each_nil x r)
     have HNIL := hI_ hnil; clear hnil
     go_loopw [8, 10, 11] (fun rv v i wr => ∃ (k : Nat) (l : List Nat) (q : List UInt8), k ≤ x ∧ i = .int .u64 k ∧ rv = .string ⟨q.toArray⟩ ∧ q.length ≤ r.length ∧ l.length = k ∧ tkEach x r = joinE l (tkEach (x - k) q) ∧ wr.ownsRow w.heap.size 22 1 v k (l.map u64v) ∧ Below w.heap.size w wr) (fun _ _ i _ => x - (intOf i).toNat)
     case atStart => exact ⟨0, [], r, Nat.zero_le _, rfl, rfl, Nat.le_refl _, rfl, HNIL.out.symm, World.ownsRow_nil _ _ _ _, below_drewN (Below.refl _ _) kk⟩
     case round =>
      obtain ⟨k, l, q, hk, rfl, rfl, hq, hlk, hj, hown, B⟩ := hrel
      by_cases hlt : k < x
      · obtain ⟨m, hm⟩ : ∃ m, x - k = m + 1 := ⟨x - k - 1, by omega⟩
        rw [hm] at hj
        have HJ := hI_ hj; clear hj
        have HLK := hI_ hlk; clear hlk
        have HM := hI_ hm; clear hm
        obtain ⟨x1, r1, e1, hx1⟩ : ∃ x1 r1 e1, tkNum q = (x1, r1, e1) := ⟨_, _, _, rfl⟩
        have hless1 := tk_less q
        have hshape := tk_shape q
        rw [hx1] at hless1 hshape
        simp only at hless1 hshape
        have HX1 := hI_ hx1; clear hx1
        have HSH := hI_ hshape; clear hshape
        by_cases he1 : e1 = 0
        · subst he1
          go_wp2_with fail
          refine (refTake_any ⟨q.toArray⟩ _).mono ?_
          rintro e2 w2 ⟨rfl, k2, rfl⟩
          rw [show (ByteArray.mk q.toArray).data.toList = q from rfl, HX1.out]
          have hown2 : (wr.drewN k2).ownsRow w.heap.size 22 1 u10 k (l.map u64v) := hown
          have B2 := below_drewN B k2
          have hj2 : tkEach x r = joinE (l ++ [x1]) (tkEach (x - (k + 1)) r1) := by
           have e1 := each_succ (n := m) (s := q) l (by rw [HX1.out])
           rw [HX1.out] at e1
           rw [HJ.out, e1, show x - (k + 1) = m by have := HM.out; omega]
          have hlk2 : (l ++ [x1]).length = k + 1 := by rw [List.length_append, HLK.out]; rfl
          have HJ2 := hI_ hj2
          have HLK2 := hI_ hlk2
          clear hown B hj2 hlk2
          unfold tkOut
          simp only
          go_wp2_with (at_builtin; refine wpList_append_own _ rfl _ _ 23 rfl w.heap.size 22 i0 (.int .u64 0) 1 8 Tryz.underlying23 hi hz0 hz1 hz2 rfl (by decide) _ _ _ rfl (hown2.alloc _) ⟨wr.heap.size, 0, none⟩ 1 1 [u64v x1] rfl rfl ?c1 ?c2 ?c3 ?c4 ?c5 ?_)
          case c1 => intro j u hj; rw [addHead]; exact (World.cell?_alloc_at _ _ _ _ (by simp)).trans (by rw [List.getElem?_toArray.symm] at hj; exact hj)
          case c2 => intro u hu; rw [List.mem_singleton.1 hu]; rfl
          case c3 => unfold maxLen; omega
          case c4 => omega
          case c5 => have := B2.size; simp at this ⊢; omega
          intro v' w3 hown3 hgrow _
          have B3 : Below w.heap.size w w3 := (B2.alloc B2.size _).grown hgrow (by have := B2.size; simp at this ⊢; omega) (fun j e => (hown2.lt j e).1)
          have HO : Hid (w3.ownsRow w.heap.size 22 1 v' (k + 1) ((l ++ [x1]).map u64v)) := by
           show World.ownsRow _ _ _ _ _ _ _
           rw [List.map_append]; exact hown3
          clear hown2 hown3 hgrow
          go_wp2_with fail
          go_roundw
          case rel => exact ⟨k + 1, l ++ [x1], r1, by omega, by go_num, rfl, by omega, HLK2.out, HJ2.out, HO.out, B3⟩
          case measure => simp [intOf]; omega
        · have hfin : ∀ w', Below w.heap.size w w' → EachP w (tkNums M s) (.returned (.tuple #[.slice none 0 0, .string ⟨#[]⟩, .int .i64 (e1 : Int)])) w' := fun w' hb => by
           have e2 : tkEach x r = ([], [], e1) := by
            rw [HJ.out, each_bad (by rw [HX1.out]; exact he1), HX1.out]
            unfold joinE; rw [if_pos he1]
           rw [HR.out, e2]; exact ⟨_, rfl, World.ownsRow_nil _ _ _ _, hb⟩
          have he2 : (((e1 : Nat) : Int) == 0) = false := by simpa using he1
          have HSH2 := HSH.out he1
          subst HSH2
          have HF := hI_ hfin
          clear HSH hown hfin he1
          go_wp2_with fail
          refine (refTake_any ⟨q.toArray⟩ _).mono ?_
          rintro e2 w2 ⟨rfl, k2, rfl⟩
          rw [show (ByteArray.mk q.toArray).data.toList = q from rfl, HX1.out]
          unfold tkOut
          simp only
          go_wp2_with fail
          go_ret3
          exact HF.out _ (below_drewN B k2)
      · obtain rfl : k = x := by omega
        have hfin : EachP w (tkNums M s) (.returned (.tuple #[u10, .string ⟨q.toArray⟩, .int .i64 0])) wr := by
         have e1 : tkEach k r = (l, q, 0) := by
          rw [hj, Nat.sub_self]; unfold joinE tkEach; simp
         rw [HR.out, e1]; exact ⟨_, rfl, by simp only; rw [hlk]; exact hown, B⟩
        have HF := hI_ hfin
        clear hfin hj hown hlk
        go_wp2_with fail
        go_ret3
        exact HF.out
 · have hr : tkNums M s = ([], [], e) := by unfold tkNums; rw [hx, if_pos (by simpa using he)]
   have hr2 : r = [] := by have := tk_shape s; rw [hx] at this; exact this he
   subst hr2
   have HR := hI_ hr; clear hr
   have HX := hI_ hx; clear hx
   have he2 : (((e : Nat) : Int) == 0) = false := by simpa using he
   clear he
   go_enter Tryz.func139, Tryz.ntmps139
   go_wp2_with fail
   refine (refTake_any ⟨s.toArray⟩ _).mono ?_
   rintro e2 w2 ⟨rfl, kk, rfl⟩
   rw [show (ByteArray.mk s.toArray).data.toList = s from rfl, HX.out]
   unfold tkOut
   simp only
   have HF : Hid (EachP w (tkNums M s) (.returned (.tuple #[.slice none 0 0, .string ⟨#[]⟩, .int .i64 (e : Int)])) (w.drewN kk)) := by
    show EachP _ _ _ _
    rw [HR.out]; exact ⟨_, rfl, World.ownsRow_nil _ _ _ _, below_drewN (Below.refl _ _) kk⟩
   go_wp2_with fail
   go_ret3
   exact HF.out

def tkG (s : List UInt8) : (List Nat × List Nat) × Int :=
 if (tkNums 7 s).2.2 ≠ 0 then (([], []), 3)
 else if (tkNums 3 (tkNums 7 s).2.1).2.2 ≠ 0 ∨ (tkNums 3 (tkNums 7 s).2.1).2.1 ≠ [] ∨ mayB (tkNums 7 s).1 (tkNums 3 (tkNums 7 s).2.1).1 = false then (([], []), 3)
 else (((tkNums 7 s).1, (tkNums 3 (tkNums 7 s).2.1).1), 0)
theorem each_len : ∀ (n : Nat) (s : List UInt8), (tkEach n s).1.length ≤ n
 | 0, s => by simp [tkEach]
 | n + 1, s => by
  unfold tkEach
  split
  · simp
  · split
    · simp
    · have := each_len n (tkNum s).2.1; simp; omega
theorem each_less : ∀ (n : Nat) (s : List UInt8), (tkEach n s).2.1.length ≤ s.length
 | 0, s => by simp [tkEach]
 | n + 1, s => by
  unfold tkEach
  split
  · simp
  · split
    · simp
    · exact Nat.le_trans (each_less n _) (tk_less s)
theorem nums_len (M : Nat) (s : List UInt8) : (tkNums M s).1.length ≤ M := by
 unfold tkNums
 split
 · simp
 · split
   · simp
   · rename_i h1 h2
     have := each_len (tkNum s).1 (tkNum s).2.1
     omega
theorem nums_less (M : Nat) (s : List UInt8) : (tkNums M s).2.1.length ≤ s.length := by
 unfold tkNums
 split
 · simp
 · split
   · simp
   · exact Nat.le_trans (each_less _ _) (tk_less s)
theorem each_use {w w' : World} {r : List Nat × List UInt8 × Nat} {e : Ending} (h : EachP w r e w') {V : List Nat} {q : List UInt8} {x : Nat} (hr : r = (V, q, x)) :
 ∃ a n c, e = .returned (.tuple #[.slice a n c, .string ⟨q.toArray⟩, .int .i64 x]) ∧ V.length = n ∧ Us w' a V ∧ (0 < n → ∀ q, a = some q → w.heap.size ≤ q.block) ∧ Below w.heap.size w w' := by
 subst hr
 obtain ⟨v, rfl, ho, hb⟩ := h
 have hc := @ho.cells
 rcases ho.2 with ⟨rfl, h0⟩ | ⟨g, cap, cur, rfl, hg, hh, _⟩
 · simp only at h0
   have : V = [] := List.length_eq_zero_iff.1 h0
   subst this
   exact ⟨none, 0, 0, rfl, rfl, Us.nil _ _, fun h => absurd h (Nat.lt_irrefl _), hb⟩
 · refine ⟨some ⟨g, 0, none⟩, V.length, cap, rfl, rfl, fun j y hy => ⟨g, 0, rfl, (Array.getElem?_eq_some_iff.1 hh).1, ?_⟩, fun _ q e => by cases e; exact hg, hb⟩
   have h1 := hc (g := g) rfl j (u64v y) (by simp [hy])
   rw [addHead] at h1
   rw [Nat.zero_add]; exact h1
theorem one_below {w w' : World} (h : Below w.heap.size w w') (u v : Value) : Below w.heap.size w ((w'.setCell ⟨w.heap.size, 0, none⟩ u).setCell ⟨w.heap.size, 1, none⟩ v) := (h.setCell (Nat.le_refl _) u).setCell (Nat.le_refl _) v
theorem us_box {w1 : World} {a : Option Addr} {L : List Nat} {x : Nat} (h : Us w1 a L) (hne : 0 < L.length → ∀ q, a = some q → q.block ≠ x) (p q : Value) : Us ((w1.setCell ⟨x, 0, none⟩ p).setCell ⟨x, 1, none⟩ q) a L := (h.set' hne _ _).set' hne _ _
theorem pTake_any (s : List UInt8) (hs : s.length ≤ 140737488351232) (w : World) : Calls Tryz.prog 126 #[.string ⟨s.toArray⟩] w (NxF w (tkG s)) := by
 obtain ⟨V, q, x1, hx1⟩ : ∃ V q x1, tkNums 7 s = (V, q, x1) := ⟨_, _, _, rfl⟩
 obtain ⟨L, q2, x2, hx2⟩ : ∃ V q1 x1, tkNums 3 q = (V, q1, x1) := ⟨_, _, _, rfl⟩
 obtain ⟨mb, hmb⟩ : ∃ mb, mayB V L = mb := ⟨_, rfl⟩
 obtain ⟨r, hr⟩ : ∃ r, tkG s = r := ⟨_, rfl⟩
 have HR := hI_ (show (if x1 ≠ 0 then (([], []), 3) else if x2 ≠ 0 ∨ q2 ≠ [] ∨ mb = false then (([], []), 3) else ((V, L), 0)) = r by rw [← hr]; unfold tkG; rw [hx1]; simp only; rw [hx2]; simp only; rw [hmb])
 rw [hr]
 have HVL := hI_ (show V.length ≤ 7 by have h := nums_len 7 s; rw [show tkNums ((7 : Nat) : Int) s = (V, q, x1) from hx1] at h; exact h)
 have HLL := hI_ (show L.length ≤ 3 by have h := nums_len 3 q; rw [show tkNums ((3 : Nat) : Int) q = (L, q2, x2) from hx2] at h; exact h)
 have HQL := hI_ (show q.length ≤ 140737488351232 by have h := nums_less 7 s; rw [show tkNums ((7 : Nat) : Int) s = (V, q, x1) from hx1] at h; simp only at h; omega)
 have H1 := hI_ hx1
 have H2 := hI_ hx2
 have HMB := hI_ hmb
 have HB := hI_ ((Below.refl w.heap.size w).alloc (Nat.le_refl _) (.cells #[.slice none 0 0, .slice none 0 0] 25))
 have HD := hI_ (Cb.new (w := w) rfl (.slice none 0 0) (.slice none 0 0) 25)
 clear hx1 hx2 hmb hr
 go_enter Tryz.func126, Tryz.ntmps126
 go_wp2_with fail
 refine (takeNums_any 7 s (by omega) hs _).mono ?_
 intro e w1 h1
 obtain ⟨a, n, c, rfl, hn, hV, hf, hb1⟩ := each_use h1 H1.out
 have HN := hI_ hn
 have HB1 := hI_ (HB.out.trans (hb1.mono HB.out.size))
 have HD1 := hI_ (HD.out.later hb1)
 have HV := hI_ hV
 have HF := hI_ (show 0 < n → ∀ q, a = some q → w.heap.size + 1 ≤ q.block from fun h q e => by have := hf h q e; simpa using this)
 clear h1 hn hV hf hb1 HB HD
 obtain ⟨d0, d1, dz, dl⟩ := HD1.out
 by_cases he : x1 = 0
 case neg =>
  have HT := hI_ (show r = (([], []), 3) by rw [← HR.out, if_pos he])
  have g : ((x1 : Int) == 0) = false := by simp; omega
  clear he
  go_wp2_with fail
  refine bodyPost_ret (v := .tuple #[.agg #[.slice none 0 0, .slice none 0 0], .int .i64 3]) (by simp [results, Tryz.results126, go_sem, d0, d1]) rfl ?_
  exact nx_no HT.out (one_below HB1.out _ _)
 subst he
 clear d0 d1 dz dl
 go_wp2_with fail
 refine (takeNums_any 3 q (by omega) HQL.out _).mono ?_
 intro e w2 h2
 obtain ⟨a2, n2, c2, rfl, hn2, hU, hf2, hb2⟩ := each_use h2 H2.out
 have HN2 := hI_ hn2
 have HB2 := hI_ (HB1.out.trans (hb2.mono HB1.out.size))
 have HD2 := hI_ (HD1.out.later hb2)
 have HV2 := hI_ (HV.out.later hb2)
 have HU2 := hI_ hU
 have HF2 := hI_ (show 0 < n2 → ∀ q, a2 = some q → w.heap.size + 1 ≤ q.block from fun h q e => by have := hf2 h q e; have := HD1.out.lt; omega)
 clear h2 hn2 hU hf2 hb2 HB1 HD1 HV
 have HC := hI_ (Cb.new (w := w2) rfl (.slice a n c) (.slice a2 n2 c2) 25)
 have HX := hI_ ((Below.refl w2.heap.size w2).alloc (Nat.le_refl _) (.cells #[.slice a n c, .slice a2 n2 c2] 25))
 have HB3 := hI_ (HB2.out.trans (HX.out.mono HB2.out.size))
 go_upto_region 6 with (fail)
 generalize hW : w2.alloc (.cells #[.slice a n c, .slice a2 n2 c2] 25) = W at *
 clear hW
 have HD3 := hI_ (HD2.out.later HX.out)
 have HV3 := hI_ (HV2.out.later HX.out)
 have HU3 := hI_ (HU2.out.later HX.out)
 clear HD2 HV2 HU2 HB2 HX
 obtain ⟨y, hy⟩ : ∃ y, w2.heap.size = y := ⟨_, rfl⟩
 rw [hy] at HC ⊢
 clear hy
 obtain ⟨d0, d1, dz, dl⟩ := HD3.out
 obtain ⟨c0, c1, cz, cl⟩ := HC.out
 by_cases he : x2 = 0
 case neg =>
  have HT := hI_ (show r = (([], []), 3) by rw [← HR.out, if_neg (by simp), if_pos (.inl he)])
  have g : ((x2 : Int) == 0) = false := by simp; omega
  go_wp2_with fail
  refine bodyPost_ret (v := .tuple #[.agg #[.slice none 0 0, .slice none 0 0], .int .i64 3]) (by simp [results, Tryz.results126, go_sem, d0, d1]) rfl ?_
  exact nx_no HT.out (one_below HB3.out _ _)
 subst he
 cases q2 with
 | cons b t =>
  have HT := hI_ (show r = (([], []), 3) by rw [← HR.out, if_neg (by simp), if_pos (.inr (.inl (by simp)))])
  obtain ⟨k1, k2⟩ := isEmpty_of (s := ⟨(b :: t).toArray⟩) (c := b) (r := t) rfl
  go_wp2_with fail
  refine bodyPost_ret (v := .tuple #[.agg #[.slice none 0 0, .slice none 0 0], .int .i64 3]) (by simp [results, Tryz.results126, go_sem, d0, d1]) rfl ?_
  exact nx_no HT.out (one_below HB3.out _ _)
 | nil =>
  go_wp2_with fail
  refine (pMay_any n c n2 c2 a a2 V L HN.out (by have := HN.out; have := HVL.out; omega) HN2.out (by have := HN2.out; have := HLL.out; omega) _ HV3.out HU3.out).mono ?_
  rintro e w3 ⟨rfl, hb3⟩
  rw [HMB.out]
  have HD4 := hI_ (HD3.out.later hb3)
  have HC4 := hI_ (HC.out.later hb3)
  have HV4 := hI_ (HV3.out.later hb3)
  have HU4 := hI_ (HU3.out.later hb3)
  have HB4 := hI_ (HB3.out.trans (hb3.mono HB3.out.size))
  clear hb3 HD3 HC HV3 HU3 HB3 d0 d1 dz dl c0 c1 cz cl
  obtain ⟨d0, d1, dz, dl⟩ := HD4.out
  obtain ⟨c0, c1, cz, cl⟩ := HC4.out
  cases mb
  · have HT := hI_ (show r = (([], []), 3) by rw [← HR.out, if_neg (by simp), if_pos (.inr (.inr rfl))])
    go_wp2_with fail
    refine bodyPost_ret (v := .tuple #[.agg #[.slice none 0 0, .slice none 0 0], .int .i64 3]) (by simp [results, Tryz.results126, go_sem, d0, d1]) rfl ?_
    exact nx_no HT.out (one_below HB4.out _ _)
  · have HT := hI_ (show r = ((V, L), 0) by rw [← HR.out, if_neg (by simp), if_neg (by simp)])
    go_wp2_with fail
    refine bodyPost_ret (v := .tuple #[.agg #[.slice a n c, .slice a2 n2 c2], .int .i64 0]) (by simp [results, Tryz.results126, go_sem, d0, d1]) rfl ?_
    exact nx_yes HT.out HN.out HN2.out (us_box HV4.out (fun h q e => by have := HF.out (by have := HN.out; omega) q e; omega) _ _) (us_box HU4.out (fun h q e => by have := HF2.out (by have := HN2.out; omega) q e; omega) _ _)
     (fun h q e => by have := HF.out (by have := HN.out; omega) q e; omega) (fun h q e => by have := HF2.out (by have := HN2.out; omega) q e; omega) (one_below HB4.out _ _)
end Go.Proofs.YtdcpiaoadbbdoaaGreatDoor
