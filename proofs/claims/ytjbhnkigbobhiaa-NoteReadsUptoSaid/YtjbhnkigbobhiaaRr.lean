/- The reference of layer 4: Read: the notes of bytes. -/
import Derived.Test.YtjbhnkigbobhiaaOn
import Derived.Test.YtjbhnkigbobhiaaRa
import Derived.Test.YtjbhnkigbobhiaaLt
import Derived.Test.YtjbhnkigbobhiaaRtakes
import Derived.Test.YtjbhnkigbobhiaaAm
namespace Go.Proofs.Ytjbhnkigbobhiaa
open Go.RowKit

set_option maxRecDepth 100000 in
set_option maxHeartbeats 4000000 in
theorem refRead_any (b : List UInt8) (hb : b.length ≤ 2097152) (w : World) : Calls Try.prog 8 #[.string ⟨b.toArray⟩] w (ReadP w b) := by
  obtain ⟨i0, hi, hz0, hz1, hz2⟩ := info_parts infoNote
  go_enter Try.func8, Try.ntmps8
  go_wp2_with fail
  go_loopw [4, 5] (fun v r wr => ∃ (pre : List Nt) (q : List UInt8), r = .string ⟨q.toArray⟩ ∧ pre.length + q.length ≤ b.length ∧ rdB b = (pre ++ (rdB q).1, (rdB q).2) ∧ wr.ownsRow w.heap.size 43 5 v pre.length (ntsCells pre) ∧ Below w.heap.size w wr) (fun _ r _ => szV r)
  case atStart => exact ⟨[], b, rfl, by simp, rfl, World.ownsRow_nil _ _ _ _, Below.refl _ _⟩
  case round =>
    obtain ⟨pre, q, rfl, hq, ha, hown, hB⟩ := hrel
    have HA := Lib.hid ha; clear ha
    have hend : noteAt q = none → ∀ w', Below w.heap.size w w' → w'.ownsRow w.heap.size 43 5 u4 pre.length (ntsCells pre) → ReadP w b (.returned (.tuple #[u4, .int .i64 ((b.length : Int) - q.length)])) w' := fun h0 w' hb ho => by
      have e : rdB b = (pre, q) := by rw [HA.out, rd_none h0]; simp
      unfold ReadP; rw [e]; exact ⟨_, rfl, ho, hb⟩
    have HEND := Lib.hid hend; clear hend
    by_cases hq0 : q.length = 0
    · obtain rfl : q = [] := List.length_eq_zero_iff.1 hq0
      have hn : noteAt [] = none := by
        cases h : noteAt [] with
        | none => rfl
        | some p => exact absurd (noteAt_less (n := p.1) (r := p.2) h) (by simp)
      have HR : ReadP w b (.returned (.tuple #[u4, .int .i64 (b.length : Int)])) wr := by
        have h := HEND.out hn wr hB hown
        simpa using h
      have HR2 := Lib.hid HR
      clear HR hown hn
      go_wp2_with fail
      go_ret2
      exact HR2.out
    · obtain ⟨t, r, x, hk⟩ : ∃ t r x, tkSeal q = (t, r, x) := ⟨_, _, _, rfl⟩
      have hsz2 := hB.size
      by_cases hx : x = 0
      · subst hx
        have hless := tkSeal_less hk
        have htl : t.length ≤ 140737488351232 := by have := tkSeal_parts hk; omega
        cases ho : oneL t with
        | some n =>
          have hat : noteAt q = some (n, r) := by unfold noteAt; rw [hk]; simp only [ho]; rfl
          have hrd := rd_some hat
          have HRD := Lib.hid hrd
          have HO := Lib.hid ho
          have HK := Lib.hid hk
          clear hk hat hrd ho
          go_wp2_with fail
          refine (refTakes_any _ (by rw [size_arr]; unfold maxLen; omega) _).mono ?_
          rintro e w2 ⟨rfl, hb2⟩
          rw [show (ByteArray.mk q.toArray).data.toList = q from rfl, HK.out]
          have hown2 : w2.ownsRow w.heap.size 43 5 u4 pre.length (ntsCells pre) := hown.kept (row := none) ⟨hb2.os, hb2.tape, hb2.output, hb2.size, fun k hk _ => hb2.block k hk⟩ (by cases h : u4.ownBlock <;> simp)
          have B2 := hB.trans (hb2.mono hB.size)
          clear hown hb2
          go_wp2_with fail
          refine (refOne_any t htl _).mono ?_
          rintro e w3 ⟨hb3, h3⟩
          obtain rfl : e = .returned (.tuple #[n.val, .bool true]) := by
            rcases h3 with ⟨n', h4, h5⟩ | ⟨h4, _⟩
            · rw [HO.out] at h4; cases h4; exact h5
            · rw [HO.out] at h4; cases h4
          have hown3 : w3.ownsRow w.heap.size 43 5 u4 pre.length (ntsCells pre) := hown2.kept (row := none) ⟨hb3.os, hb3.tape, hb3.output, hb3.size, fun k hk _ => hb3.block k hk⟩ (by cases h : u4.ownBlock <;> simp)
          have B3 := B2.trans (hb3.mono B2.size)
          clear hown2 hb3 h3 B2
          obtain ⟨K, I, T, V, D⟩ := n
          simp only [Nt.val]
          go_wp2_with (at_builtin; refine wpList_append_own _ rfl _ _ 23 rfl w.heap.size 43 i0 (.agg #[.int .i64 0, .int .u64 0, .int .u64 0, .int .u64 0, .string ⟨#[]⟩]) 5 48 Try.underlying23 hi hz0 hz1 hz2 rfl (by decide) _ _ _ rfl ((hown3.alloc _).alloc _) ⟨w3.heap.size + 1, 0, none⟩ 1 1 (ntCells ⟨K, I, T, V, D⟩) rfl rfl ?c1 ?c2 ?c3 ?c4 ?c5 ?_)
          case c1 => intro j u hj; rw [addHead]; exact (World.cell?_alloc_at _ _ _ _ (by simp)).trans (by rw [List.getElem?_toArray.symm] at hj; exact hj)
          case c2 => intro u hu; simp only [ntCells, List.mem_cons, List.not_mem_nil, or_false] at hu; rcases hu with rfl | rfl | rfl | rfl | rfl <;> rfl
          case c3 => unfold maxLen; omega
          case c4 => omega
          case c5 => have := B3.size; simp; omega
          intro v' w4 hown4 hgrow _
          have B4 : Below w.heap.size w w4 := ((B3.alloc B3.size _).alloc (by have := B3.size; simp; omega) _).grown hgrow (by have := B3.size; simp; omega) (fun j e => (hown3.lt j e).1)
          have hown5 : w4.ownsRow w.heap.size 43 5 v' (pre.length + 1) (ntsCells (pre ++ [⟨K, I, T, V, D⟩])) := by rw [ntsCells_snoc]; exact hown4
          have HW := Lib.hid hown5
          clear hown3 hown4 hown5 hgrow
          go_wp2_with fail
          go_roundw
          case rel => exact ⟨pre ++ [⟨K, I, T, V, D⟩], r, rfl, by simp; omega, by rw [HA.out, HRD.out]; simp, by rw [List.length_append]; exact HW.out, B4⟩
          case measure => simp [szV]; show r.toArray.size < q.toArray.size; simpa using hless
        | none =>
          have hat : noteAt q = none := by unfold noteAt; rw [hk]; simp only [ho]; rfl
          have HE := Lib.hid (HEND.out hat)
          have HO := Lib.hid ho
          have HK := Lib.hid hk
          clear hk hat ho
          go_wp2_with fail
          refine (refTakes_any _ (by rw [size_arr]; unfold maxLen; omega) _).mono ?_
          rintro e w2 ⟨rfl, hb2⟩
          rw [show (ByteArray.mk q.toArray).data.toList = q from rfl, HK.out]
          have hown2 : w2.ownsRow w.heap.size 43 5 u4 pre.length (ntsCells pre) := hown.kept (row := none) ⟨hb2.os, hb2.tape, hb2.output, hb2.size, fun k hk _ => hb2.block k hk⟩ (by cases h : u4.ownBlock <;> simp)
          have B2 := hB.trans (hb2.mono hB.size)
          clear hown hb2
          go_wp2_with fail
          refine (refOne_any t htl _).mono ?_
          rintro e w3 ⟨hb3, h3⟩
          obtain ⟨n, rfl⟩ : ∃ n : Nt, e = .returned (.tuple #[n.val, .bool false]) := by
            rcases h3 with ⟨n', h4, _⟩ | ⟨_, n', h5⟩
            · rw [HO.out] at h4; cases h4
            · exact ⟨n', h5⟩
          have hown3 : w3.ownsRow w.heap.size 43 5 u4 pre.length (ntsCells pre) := hown2.kept (row := none) ⟨hb3.os, hb3.tape, hb3.output, hb3.size, fun k hk _ => hb3.block k hk⟩ (by cases h : u4.ownBlock <;> simp)
          have B3 := B2.trans (hb3.mono B2.size)
          clear hown2 hb3 h3 B2
          obtain ⟨K, I, T, V, D⟩ := n
          simp only [Nt.val]
          have HF := Lib.hid (HE.out _ (B3.alloc B3.size (.cells #[.int .i64 K, .int .u64 I, .int .u64 T, .int .u64 V, .string D] 43)) (hown3.alloc _))
          clear hown3
          go_wp2_with fail
          go_ret2
          exact HF.out
      · have hat : noteAt q = none := by
          unfold noteAt; rw [hk]
          match x, hx with
          | 0, h => exact absurd rfl h
          | _ + 1, _ => rfl
        have HE := Lib.hid (HEND.out hat)
        have HK := Lib.hid hk
        have hx2 : (((x : Nat) : Int) == 0) = false := by simpa using hx
        clear hk hat hx
        go_wp2_with fail
        refine (refTakes_any _ (by rw [size_arr]; unfold maxLen; omega) _).mono ?_
        rintro e w2 ⟨rfl, hb2⟩
        rw [show (ByteArray.mk q.toArray).data.toList = q from rfl, HK.out]
        have hown2 : w2.ownsRow w.heap.size 43 5 u4 pre.length (ntsCells pre) := hown.kept (row := none) ⟨hb2.os, hb2.tape, hb2.output, hb2.size, fun k hk _ => hb2.block k hk⟩ (by cases h : u4.ownBlock <;> simp)
        have B2 := hB.trans (hb2.mono hB.size)
        have HF := Lib.hid (HE.out _ B2 hown2)
        clear hown hb2 hown2
        go_wp2_with fail
        go_ret2
        exact HF.out
end Go.Proofs.Ytjbhnkigbobhiaa
