/- The reference of layer 2: All: the texts in a slice of the call's own, and how many bytes they have. -/
import Derived.Test.YtlpdoebmgfcfdaaDoorRtakes
import Derived.Test.YtlpdoebmgfcfdaaDoorAm
import Derived.Laws.AppendOwn
import Derived.OwnWalk
import Derived.Outline
namespace Go.Proofs.YtlpdoebmgfcfdaaDoor
open Go.RowKit

def strV (t : List UInt8) : Value := .string ⟨t.toArray⟩
theorem infoStr : (Tryd.prog.info? 9).map (fun i => (i.zero, i.size, i.bytes)) = some (some (.string ⟨#[]⟩), 1, 16) := by kernel_rfl
def RefAll (b : List UInt8) (w : World) (e : Ending) (w' : World) : Prop :=
  ∃ v, e = .returned (.tuple #[v, .int .i64 (sizeB (allB b))]) ∧ w'.ownsRow w.heap.size 9 1 v (allB b).length ((allB b).map strV) ∧ Below w.heap.size w w'
theorem retSl {v : Value} {a b : Int} (h : a = b) : Ending.returned (.tuple #[v, .int .i64 a]) = .returned (.tuple #[v, .int .i64 b]) := by rw [h]
def szS : Value → Nat | .string s => s.size | _ => 0
set_option maxHeartbeats 1000000 in
theorem refAll_any (b : List UInt8) (hb : b.length ≤ 2097152) (w : World) : Calls Tryd.prog 18 #[.string ⟨b.toArray⟩] w (RefAll b w) := by
  obtain ⟨i0, hi, hz0, hz1, hz2⟩ := info_parts infoStr
  go_enter Tryd.func18, Tryd.ntmps18
  go_wp2_with fail
  go_loopw [4, 5] (fun v r wr => ∃ (pre : List (List UInt8)) (q : List UInt8), r = .string ⟨q.toArray⟩ ∧ q.length ≤ b.length ∧ allB b = pre ++ allB q ∧ restB b = restB q ∧ wr.ownsRow w.heap.size 9 1 v pre.length (pre.map strV) ∧ Below w.heap.size w wr) (fun _ r _ => szS r)
  case atStart => exact ⟨[], b, rfl, Nat.le_refl _, rfl, rfl, World.ownsRow_nil _ _ _ _, Below.refl _ _⟩
  case round =>
    obtain ⟨pre, q, rfl, hq, ha, hr, hown, hB⟩ := hrel
    obtain ⟨t, r, x, hk⟩ : ∃ t r x, tkSeal q = (t, r, x) := ⟨_, _, _, rfl⟩
    have hn := all_len_le b
    have hn2 : pre.length ≤ (allB b).length := by rw [ha]; simp
    have hsz := sizeB_all b.length b (Nat.le_refl _)
    have hnn := sizeB_nonneg (allB b)
    by_cases hx : x = 0
    · subst hx
      have hless := tkSeal_less hk
      have ⟨o1, o2⟩ := all_ok hk
      have hn3 : pre.length + 1 ≤ (allB b).length := by rw [ha, o1]; simp
      have HA := Lib.hid ha; clear ha
      have HR := Lib.hid hr; clear hr
      have HK := Lib.hid hk; clear hk
      have HO1 := Lib.hid o1; clear o1
      have HO2 := Lib.hid o2; clear o2
      have HZ := Lib.hid hsz; clear hsz
      go_wp2_with fail
      refine (refTakes_any _ (by rw [size_arr]; unfold maxLen; omega) _).mono ?_
      rintro e w2 ⟨rfl, hb2⟩
      rw [show (ByteArray.mk q.toArray).data.toList = q from rfl, HK.out]
      have hown2 : w2.ownsRow w.heap.size 9 1 u4 pre.length (pre.map strV) := hown.kept (row := none) ⟨hb2.os, hb2.tape, hb2.output, hb2.size, fun k hk _ => hb2.block k hk⟩ (by cases h : u4.ownBlock <;> simp)
      have hB2 := hB.trans (hb2.mono hB.size)
      have hsz2 := hB2.size
      clear hown
      go_wp2_with (at_builtin; refine wpList_append_own _ rfl _ _ 35 rfl w.heap.size 9 i0 (.string ⟨#[]⟩) 1 16 Tryd.underlying35 hi hz0 hz1 hz2 rfl (by decide) _ _ _ rfl (hown2.alloc _) ⟨w2.heap.size, 0, none⟩ 1 1 [strV t] rfl rfl ?c1 ?c2 ?c3 ?c4 ?c5 ?_)
      case c1 => intro j u hj; rw [addHead]; exact (World.cell?_alloc_new _ _ _ _).trans (by rw [List.getElem?_toArray.symm] at hj; exact hj)
      case c2 => intro u hu; rw [List.mem_singleton.1 hu]; rfl
      case c3 => unfold maxLen; omega
      case c4 => omega
      case c5 => simp; omega
      intro v' w3 hown3 hgrow _
      have hB3 : Below w.heap.size w w3 := (hB2.alloc hsz2 _).grown hgrow (by simp; omega) (fun k e => (hown2.lt k e).1)
      have HG := Lib.hid hgrow; clear hgrow
      go_wp2_with fail
      go_roundw
      case rel =>
        exact ⟨pre ++ [t], r, rfl, by omega, by rw [HA.out, HO1.out]; simp, by rw [HR.out, HO2.out], by simpa using hown3, hB3⟩
      case measure => simp [szS]; show r.toArray.size < q.toArray.size; simpa using hless
    · obtain ⟨o1, o2⟩ := all_end hk hx
      have hval : ((b.length : Int) - q.length) = sizeB (allB b) := by rw [hr, o2] at hsz; omega
      have hown' : wr.ownsRow w.heap.size 9 1 u4 (allB b).length ((allB b).map strV) := by rw [ha, o1, List.append_nil]; exact hown
      have hx2 : (((x : Nat) : Int) == 0) = false := by simpa using hx
      have HV := Lib.hid hval; clear hval
      have HO := Lib.hid hown'; clear hown' hown
      have HK := Lib.hid hk; clear hk
      clear ha hr o1 o2 hsz hnn hn hn2 hx
      by_cases hq0 : q.length = 0
      · go_wp2_with fail
        go_ret2
        exact ⟨_, retSl (by rw [← HV.out]; omega), HO.out, hB⟩
      · go_wp2_with fail
        refine (refTakes_any _ (by rw [size_arr]; unfold maxLen; omega) _).mono ?_
        rintro e w2 ⟨rfl, hb2⟩
        rw [show (ByteArray.mk q.toArray).data.toList = q from rfl, HK.out]
        have hown2 : w2.ownsRow w.heap.size 9 1 u4 (allB b).length ((allB b).map strV) := HO.out.kept (row := none) ⟨hb2.os, hb2.tape, hb2.output, hb2.size, fun k hk _ => hb2.block k hk⟩ (by cases h : u4.ownBlock <;> simp)
        have HO2 := Lib.hid hown2; clear hown2
        have hB2 := hB.trans (hb2.mono hB.size)
        go_wp2_with fail
        go_ret2
        exact ⟨_, retSl (by rw [← HV.out]), HO2.out, hB2⟩
end Go.Proofs.YtlpdoebmgfcfdaaDoor
