/- pack.TakeNums: several numbers out of bytes, for every bytes. -/
import Derived.Test.YtmnakfonfpdneaaDoorPtake
import Derived.Test.YtmnakfonfpdneaaDoorSl
import Derived.Laws.AppendOwn
import Derived.OwnWalk
import Derived.WalkKit
import Derived.WalkSpells
import Derived.WalkSmall
namespace Go.Proofs.YtmnakfonfpdneaaDoor
open Go.RowKit

/-- So many numbers, one behind another: what they are, what stands behind them, the error. -/
def tkEach : Nat → List UInt8 → List Nat × List UInt8 × Nat
  | 0, s => ([], s, 0)
  | n + 1, s => if (tkNum s).2.2 ≠ 0 then ([], [], (tkNum s).2.2) else
      if (tkEach n (tkNum s).2.1).2.2 ≠ 0 then ([], [], (tkEach n (tkNum s).2.1).2.2) else ((tkNum s).1 :: (tkEach n (tkNum s).2.1).1, (tkEach n (tkNum s).2.1).2.1, 0)
def tkNums (most : Int) (s : List UInt8) : List Nat × List UInt8 × Nat :=
  if (tkNum s).2.2 ≠ 0 then ([], [], (tkNum s).2.2) else if most < 0 ∨ most < ((tkNum s).1 : Int) then ([], [], 4) else tkEach (tkNum s).1 (tkNum s).2.1
theorem each_bad {n : Nat} {s : List UInt8} (h : (tkNum s).2.2 ≠ 0) : tkEach (n + 1) s = ([], [], (tkNum s).2.2) := by unfold tkEach; rw [if_pos h]
/-- What has been taken so far, and what is still to come. -/
def joinE (l : List Nat) (r : List Nat × List UInt8 × Nat) : List Nat × List UInt8 × Nat := if r.2.2 ≠ 0 then ([], [], r.2.2) else (l ++ r.1, r.2.1, 0)
theorem each_succ {n : Nat} {s : List UInt8} (l : List Nat) (h : (tkNum s).2.2 = 0) : joinE l (tkEach (n + 1) s) = joinE (l ++ [(tkNum s).1]) (tkEach n (tkNum s).2.1) := by
  have e : tkEach (n + 1) s = if (tkEach n (tkNum s).2.1).2.2 ≠ 0 then ([], [], (tkEach n (tkNum s).2.1).2.2) else ((tkNum s).1 :: (tkEach n (tkNum s).2.1).1, (tkEach n (tkNum s).2.1).2.1, 0) := by
    conv => lhs; unfold tkEach
    rw [if_neg (by simp [h])]
  rw [e]
  by_cases h2 : (tkEach n (tkNum s).2.1).2.2 = 0
  · rw [if_neg (by simp [h2])]; simp [joinE, h2]
  · rw [if_pos h2]; simp [joinE, h2]
theorem joinE_nil (r : List Nat × List UInt8 × Nat) (h : r.2.2 ≠ 0 → r.1 = [] ∧ r.2.1 = []) : joinE [] r = r := by
  unfold joinE
  split
  · rename_i hb; obtain ⟨h1, h2⟩ := h hb; obtain ⟨a, b, c⟩ := r; simp at h1 h2 ⊢; exact ⟨h1, h2⟩
  · rename_i hb; obtain ⟨a, b, c⟩ := r; simp at hb ⊢; exact hb.symm
theorem each_nil (n : Nat) (s : List UInt8) : (tkEach n s).2.2 ≠ 0 → (tkEach n s).1 = [] ∧ (tkEach n s).2.1 = [] := by
  cases n with
  | zero => intro h; exact absurd rfl h
  | succ n =>
    intro h
    unfold tkEach at h ⊢
    split
    · exact ⟨rfl, rfl⟩
    · split
      · exact ⟨rfl, rfl⟩
      · rename_i h1 h2; rw [if_neg h1, if_neg h2] at h; exact absurd rfl h
def u64v (n : Nat) : Value := .int .u64 (n : Int)
theorem infoU64E : (Tryd.prog.info? 38).map (fun i => (i.zero, i.size, i.bytes)) = some (some (.int .u64 0), 1, 8) := by kernel_rfl
/-- What is handed back: a list of the call's own, bytes, an error. -/
def EachP (w : World) (r : List Nat × List UInt8 × Nat) (e : Ending) (w' : World) : Prop :=
  ∃ v, e = .returned (.tuple #[v, .string ⟨r.2.1.toArray⟩, .int .i64 r.2.2]) ∧ w'.ownsRow w.heap.size 38 1 v r.1.length (r.1.map u64v) ∧ Below w.heap.size w w'
theorem tk_shape (s : List UInt8) : (tkNum s).2.2 ≠ 0 → (tkNum s).2.1 = [] := by
  cases s with
  | nil => intro _; rfl
  | cons c r =>
    simp only [tkNum]
    intro h
    by_cases h1 : r.length + 1 < tkLen c
    · rw [if_pos h1]
    · rw [if_neg h1] at h ⊢
      by_cases h2 : szOf (tkVal (c.toNat % 64) (r.take (tkLen c - 1))) = tkLen c
      · rw [if_pos h2] at h; exact absurd rfl h
      · rw [if_neg h2]
theorem tk_less (s : List UInt8) : (tkNum s).2.1.length ≤ s.length := by
  cases s with
  | nil => exact Nat.le_refl _
  | cons c r =>
    simp only [tkNum]
    by_cases h1 : r.length + 1 < tkLen c
    · rw [if_pos h1]; simp
    · rw [if_neg h1]
      by_cases h2 : szOf (tkVal (c.toNat % 64) (r.take (tkLen c - 1))) = tkLen c
      · rw [if_pos h2]; simp; omega
      · rw [if_neg h2]; simp
set_option maxRecDepth 100000 in
set_option maxHeartbeats 4000000 in
theorem each_any (n : Nat) (s : List UInt8) (hn : n ≤ 1048576) (_ : s.length ≤ 140737488351232) (w : World) :
    Calls Tryd.prog 39 #[.string ⟨s.toArray⟩, .int .u64 n, .func (.func 38) #[] #[]] w (EachP w (tkEach n s)) := by
  obtain ⟨i0, hi, hz0, hz1, hz2⟩ := info_parts infoU64E
  have hnil := joinE_nil (tkEach n s) (each_nil n s)
  have HNIL := Lib.hid hnil; clear hnil
  go_enter Tryd.func39, Tryd.ntmps39
  go_wp2_with fail
  go_loopw [0, 9, 14] (fun r v i wr => ∃ (k : Nat) (l : List Nat) (q : List UInt8), k ≤ n ∧ i = .int .u64 k ∧ r = .string ⟨q.toArray⟩ ∧ q.length ≤ s.length ∧ l.length = k ∧ tkEach n s = joinE l (tkEach (n - k) q) ∧ wr.ownsRow w.heap.size 38 1 v k (l.map u64v) ∧ Below w.heap.size w wr) (fun _ _ i _ => n - (intOf i).toNat)
  case atStart => exact ⟨0, [], s, Nat.zero_le _, rfl, rfl, Nat.le_refl _, rfl, HNIL.out.symm, World.ownsRow_nil _ _ _ _, Below.refl _ _⟩
  case round =>
    obtain ⟨k, l, q, hk, rfl, rfl, hq, hlk, hj, hown, B⟩ := hrel
    by_cases hlt : k < n
    · obtain ⟨m, hm⟩ : ∃ m, n - k = m + 1 := ⟨n - k - 1, by omega⟩
      rw [hm] at hj
      have HJ := Lib.hid hj; clear hj
      have HLK := Lib.hid hlk; clear hlk
      have HM := Lib.hid hm; clear hm
      obtain ⟨x, r, e, hx⟩ : ∃ x r e, tkNum q = (x, r, e) := ⟨_, _, _, rfl⟩
      have hless := tk_less q
      have hshape := tk_shape q
      rw [hx] at hless hshape
      simp only at hless hshape
      have HX := Lib.hid hx; clear hx
      have HSH := Lib.hid hshape; clear hshape
      by_cases he : e = 0
      · subst he
        go_wp2_with fail
        refine (take_any ⟨q.toArray⟩ _).mono ?_
        rintro e2 w2 ⟨rfl, kk, rfl⟩
        rw [show (ByteArray.mk q.toArray).data.toList = q from rfl, HX.out]
        have hown2 : (wr.drewN kk).ownsRow w.heap.size 38 1 u9 k (l.map u64v) := hown
        have B2 := below_drewN B kk
        have hj2 : tkEach n s = joinE (l ++ [x]) (tkEach (n - (k + 1)) r) := by
          have e1 := each_succ (n := m) (s := q) l (by rw [HX.out])
          rw [HX.out] at e1
          rw [HJ.out, e1, show n - (k + 1) = m by have := HM.out; omega]
        have hlk2 : (l ++ [x]).length = k + 1 := by rw [List.length_append, HLK.out]; rfl
        have HJ2 := Lib.hid hj2
        have HLK2 := Lib.hid hlk2
        clear hown B hj2 hlk2
        unfold tkOut
        simp only
        go_wp2_with (at_builtin; refine wpList_append_own _ rfl _ _ 22 rfl w.heap.size 38 i0 (.int .u64 0) 1 8 Tryd.underlying22 hi hz0 hz1 hz2 rfl (by decide) _ _ _ rfl (hown2.alloc _) ⟨wr.heap.size, 0, none⟩ 1 1 [u64v x] rfl rfl ?c1 ?c2 ?c3 ?c4 ?c5 ?_)
        case c1 => intro j u hj; rw [addHead]; exact (World.cell?_alloc_at _ _ _ _ (by simp)).trans (by rw [List.getElem?_toArray.symm] at hj; exact hj)
        case c2 => intro u hu; rw [List.mem_singleton.1 hu]; rfl
        case c3 => unfold maxLen; omega
        case c4 => omega
        case c5 => have := B2.size; simp at this ⊢; omega
        intro v' w3 hown3 hgrow _
        have B3 : Below w.heap.size w w3 := (B2.alloc B2.size _).grown hgrow (by have := B2.size; simp at this ⊢; omega) (fun j e => (hown2.lt j e).1)
        have HO : Hid (w3.ownsRow w.heap.size 38 1 v' (k + 1) ((l ++ [x]).map u64v)) := by
          show World.ownsRow _ _ _ _ _ _ _
          rw [List.map_append]; exact hown3
        clear hown2 hown3 hgrow
        go_wp2_with fail
        go_roundw
        case rel => exact ⟨k + 1, l ++ [x], r, by omega, by go_num, rfl, by omega, HLK2.out, HJ2.out, HO.out, B3⟩
        case measure => simp [intOf]; omega
      · have hfin : EachP w (tkEach n s) (.returned (.tuple #[.slice none 0 0, .string ⟨#[]⟩, .int .i64 (e : Int)])) wr := by
          have e1 : tkEach n s = ([], [], e) := by
            rw [HJ.out, each_bad (by rw [HX.out]; exact he), HX.out]
            unfold joinE; rw [if_pos he]
          rw [e1]; exact ⟨_, rfl, World.ownsRow_nil _ _ _ _, B⟩
        have he2 : (((e : Nat) : Int) == 0) = false := by simpa using he
        have HSH2 := HSH.out he
        subst HSH2
        clear HSH hown
        go_wp2_with fail
        refine (take_any ⟨q.toArray⟩ _).mono ?_
        rintro e2 w2 ⟨rfl, kk, rfl⟩
        rw [show (ByteArray.mk q.toArray).data.toList = q from rfl, HX.out]
        unfold tkOut
        simp only
        have HF : Hid (EachP w (tkEach n s) (.returned (.tuple #[.slice none 0 0, .string ⟨#[]⟩, .int .i64 (e : Int)])) (wr.drewN kk)) := by
          obtain ⟨v, h1, h2, h3⟩ := hfin
          exact ⟨v, h1, h2, below_drewN h3 kk⟩
        clear hfin he
        go_wp2_with fail
        go_ret3
        exact HF.out
    · obtain rfl : k = n := by omega
      have hfin : EachP w (tkEach k s) (.returned (.tuple #[u9, .string ⟨q.toArray⟩, .int .i64 0])) wr := by
        have e1 : tkEach k s = (l, q, 0) := by
          rw [hj, Nat.sub_self]; unfold joinE tkEach; simp
        rw [e1]; exact ⟨_, rfl, by simp only; rw [hlk]; exact hown, B⟩
      have HF := Lib.hid hfin
      clear hfin hj hown hlk
      go_wp2_with fail
      go_ret3
      exact HF.out
set_option maxRecDepth 100000 in
set_option maxHeartbeats 4000000 in
theorem takeNums_any (M : Nat) (s : List UInt8) (hM : M ≤ 1048576) (hs : s.length ≤ 140737488351232) (w : World) :
    Calls Tryd.prog 18 #[.string ⟨s.toArray⟩, .int .i64 M] w (EachP w (tkNums M s)) := by
  obtain ⟨x, r, e, hx⟩ : ∃ x r e, tkNum s = (x, r, e) := ⟨_, _, _, rfl⟩
  have hless := tk_less s
  rw [hx] at hless
  simp only at hless
  by_cases he : e = 0
  · subst he
    by_cases hc : M < x
    · have hr : tkNums M s = ([], [], 4) := by unfold tkNums; rw [hx, if_neg (by simp), if_pos (.inr (by simp only; omega))]
      have HR := Lib.hid hr; clear hr
      have HX := Lib.hid hx; clear hx
      have hc2 : (M : Int) < (x : Int) := by omega
      go_enter Tryd.func18, Tryd.ntmps18
      go_wp2_with fail
      refine (take_any ⟨s.toArray⟩ _).mono ?_
      rintro e2 w2 ⟨rfl, kk, rfl⟩
      rw [show (ByteArray.mk s.toArray).data.toList = s from rfl, HX.out]
      unfold tkOut
      simp only
      have HF : Hid (EachP w (tkNums M s) (.returned (.tuple #[.slice none 0 0, .string ⟨#[]⟩, .int .i64 4])) (w.drewN kk)) := by
        show EachP _ _ _ _
        rw [HR.out]; exact ⟨_, rfl, World.ownsRow_nil _ _ _ _, below_drewN (Below.refl _ _) kk⟩
      go_wp2_with fail
      go_ret3
      exact HF.out
    · have hr : tkNums M s = tkEach x r := by unfold tkNums; rw [hx, if_neg (by simp), if_neg (by simp only; omega)]
      have HR := Lib.hid hr; clear hr
      have HX := Lib.hid hx; clear hx
      have hc2 : ¬ (M : Int) < (x : Int) := by omega
      go_enter Tryd.func18, Tryd.ntmps18
      go_wp2_with fail
      refine (take_any ⟨s.toArray⟩ _).mono ?_
      rintro e2 w2 ⟨rfl, kk, rfl⟩
      rw [show (ByteArray.mk s.toArray).data.toList = s from rfl, HX.out]
      unfold tkOut
      simp only
      go_wp2_with fail
      refine (each_any x r (by omega) (by omega) _).mono ?_
      rintro e3 w3 ⟨v, rfl, hown, B⟩
      have HF : Hid (EachP w (tkNums M s) (.returned (.tuple #[v, .string ⟨(tkEach x r).2.1.toArray⟩, .int .i64 (tkEach x r).2.2])) w3) := by
        show EachP _ _ _ _
        rw [HR.out]; exact ⟨_, rfl, hown, (below_drewN (Below.refl _ _) kk).trans B⟩
      clear hown
      generalize tkEach x r = E at *
      go_wp2_with fail
      go_ret3
      exact HF.out
  · have hr : tkNums M s = ([], [], e) := by unfold tkNums; rw [hx, if_pos (by simpa using he)]
    have hr2 : r = [] := by have := tk_shape s; rw [hx] at this; exact this he
    subst hr2
    have HR := Lib.hid hr; clear hr
    have HX := Lib.hid hx; clear hx
    have he2 : (((e : Nat) : Int) == 0) = false := by simpa using he
    clear he
    go_enter Tryd.func18, Tryd.ntmps18
    go_wp2_with fail
    refine (take_any ⟨s.toArray⟩ _).mono ?_
    rintro e2 w2 ⟨rfl, kk, rfl⟩
    rw [show (ByteArray.mk s.toArray).data.toList = s from rfl, HX.out]
    unfold tkOut
    simp only
    have HF : Hid (EachP w (tkNums M s) (.returned (.tuple #[.slice none 0 0, .string ⟨#[]⟩, .int .i64 (e : Int)])) (w.drewN kk)) := by
      show EachP _ _ _ _
      rw [HR.out]; exact ⟨_, rfl, World.ownsRow_nil _ _ _ _, below_drewN (Below.refl _ _) kk⟩
    go_wp2_with fail
    go_ret3
    exact HF.out
end Go.Proofs.YtmnakfonfpdneaaDoor
