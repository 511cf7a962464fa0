/- Rows out of bytes: the program's Take. -/
import Derived.Test.YtifdgjmbecilhaaDoorHm
import Derived.Test.YtifdgjmbecilhaaDoorHe
import Derived.Laws.MakeOwn
namespace Go.Proofs.YtifdgjmbecilhaaDoor
open Go.RowKit

theorem madeRo (n : Nat) : madeCells (Value.agg #[.string ⟨#[]⟩, .string ⟨#[]⟩, .int .u64 0]).cells (n * 3) = (rwC roC (List.replicate n z0)).toArray := by
  apply Array.ext
  · rw [size_madeCells, List.size_toArray, rwC_len roT.len, List.length_replicate]
  · intro i h1 h2
    have h3 : i < n * 3 := by rw [size_madeCells] at h1; exact h1
    have e1 : (madeCells (Value.agg #[.string ⟨#[]⟩, .string ⟨#[]⟩, .int .u64 0]).cells (n * 3))[i]? = (roC z0)[i % 3]? := by
      simp only [madeCells, Array.getElem?_map]
      rw [Array.getElem?_range, if_pos h3]
      have h4 : i % 3 = 0 ∨ i % 3 = 1 ∨ i % 3 = 2 := by omega
      rcases h4 with h | h | h <;> simp [Value.cells, h, roC, z0]
    have e2 : (rwC roC (List.replicate n z0))[i]? = (roC z0)[i % 3]? := by
      have hr : (List.replicate n z0)[i / 3]? = some z0 := by rw [List.getElem?_replicate, if_pos (by omega)]
      have hu : (roC z0)[i % 3]? = some ((roC z0)[i % 3]'(by show i % 3 < 3; omega)) := List.getElem?_eq_getElem _
      have h5 := rwC_at roT.len (List.replicate n z0) (i / 3) z0 hr (i % 3) _ hu
      rw [show i / 3 * 3 + i % 3 = i by omega] at h5
      rw [h5, hu]
    rw [← List.getElem?_toArray] at e2
    rw [Array.getElem?_eq_getElem h1] at e1
    rw [Array.getElem?_eq_getElem h2, ← e1] at e2
    exact (Option.some.inj e2).symm
theorem mkRo (n : Nat) (w : World) (hn : n ≤ 32) : (Instr.makeSlice 22 (.int .u64 n) (.int .u64 n)).run Tryd.prog w = .ok (.slice (some ⟨w.heap.size, 0, none⟩) n n) (w.alloc (.cells (rwC roC (List.replicate n z0)).toArray 26)) := by
  obtain ⟨i0, hi, hz0, hz1, hz2⟩ := info_parts roT.info
  have h := run_make (P := Tryd.prog) w 22 26 i0 _ Tryd.underlying22 hi hz0 .u64 .u64 n n (by omega) (Int.le_refl _) (by rw [hz2]; omega) (by omega)
  rw [Int.toNat_natCast, hz1, madeRo] at h
  exact h
theorem hd_made (n : Nat) (w : World) : HdR (w.alloc (.cells (rwC roC (List.replicate n z0)).toArray 26)) w.heap.size n (List.replicate n z0) := by
  have hh : (w.alloc (.cells (rwC roC (List.replicate n z0)).toArray 26)).heap[w.heap.size]? = some (.cells (rwC roC (List.replicate n z0)).toArray 26 (0, 0)) := heap_alloc_new w _
  refine ⟨fun j x hx i u hu => ?_, by simp, by simp, ⟨_, hh, by rw [List.size_toArray, rwC_len roT.len, List.length_replicate]⟩⟩
  rw [cell_of_row _ _ _ _ _ _ hh, List.getElem?_toArray]
  exact rwC_at roT.len _ j x hx i u hu
theorem set_made {l : List Ro} {n i : Nat} (hi : l.length = i) (h : i < n) (x : Ro) : (l ++ List.replicate (n - i) z0).set i x = (l ++ [x]) ++ List.replicate (n - (i + 1)) z0 := by
  have : n - i = (n - (i + 1)) + 1 := by omega
  rw [this, List.replicate_succ, List.set_append_right _ _ (by omega), hi, Nat.sub_self, List.set_cons_zero, List.append_assoc]; rfl
set_option maxRecDepth 100000 in
set_option maxHeartbeats 8000000 in
theorem pTake_any (s : List UInt8) (hs : s.length ≤ 140737488355328) (w : World) :
    Calls Tryd.prog 24 #[.string ⟨s.toArray⟩] w (TrP w (takeR s)) := by
  obtain ⟨n, s0, x, hx⟩ : ∃ v q x, tkNum s = (v, q, x) := ⟨_, _, _, rfl⟩
  have hs0 : s0.length ≤ s.length := by have := tk_less s; rw [hx] at this; exact this
  have HX := Lib.hid hx
  have htr : takeR s = if x ≠ 0 ∨ 32 < n then ([], [], 3) else match tkRows n s0 with
      | none => ([], [], 3)
      | some (l, q) => if rightB l then (l, q, 0) else ([], [], 3) := by unfold takeR; rw [hx]; rfl
  have HTR := Lib.hid htr
  clear hx htr
  go_enter Tryd.func24, Tryd.ntmps24
  go_wp2_with fail
  refine (take_any ⟨s.toArray⟩ _).mono ?_
  rintro e w1 ⟨rfl, k0, rfl⟩
  unfold tkOut
  rw [show (ByteArray.mk s.toArray).data.toList = s from rfl, HX.out]
  have B1 : Below w.heap.size w (w.drewN k0) := below_drewN (Below.refl _ _) _
  generalize w.drewN k0 = W at *
  have HB1 := Lib.hid B1
  clear B1
  by_cases h0 : x = 0
  case neg =>
    have g : ((x : Int) == 0) = false := by simp; omega
    have g' : ((x : Int) != 0) = true := by simp; omega
    have HF := Lib.hid (show takeR s = ([], [], 3) by rw [HTR.out, if_pos (.inl h0)])
    clear h0
    go_wp2_with fail
    go_ret3
    exact trP_no HF.out HB1.out
  subst h0
  by_cases h1 : 32 < n
  · have g : (32 : Int) < (n : Int) := by omega
    have HF := Lib.hid (show takeR s = ([], [], 3) by rw [HTR.out, if_pos (.inr h1)])
    go_wp2_with fail
    go_ret3
    exact trP_no HF.out HB1.out
  have g1 : ¬ (32 : Int) < (n : Int) := by omega
  have HTR2 := Lib.hid (show takeR s = match tkRows n s0 with
      | none => ([], [], 3)
      | some (l, q) => if rightB l then (l, q, 0) else ([], [], 3) by rw [HTR.out, if_neg (by omega)])
  clear HTR HX
  have hmk := mkRo n W (by omega)
  have hr0 := hd_made n W
  have hb0 : Below W.heap.size W (W.alloc (.cells (rwC roC (List.replicate n z0)).toArray 26)) := (Below.refl _ _).alloc (Nat.le_refl _) _
  obtain ⟨gx, hgx⟩ : ∃ gx, W.heap.size = gx := ⟨_, rfl⟩
  rw [hgx] at hmk hr0
  obtain ⟨W2, hW2⟩ : ∃ W2, W.alloc (.cells (rwC roC (List.replicate n z0)).toArray 26) = W2 := ⟨_, rfl⟩
  rw [hW2] at hmk hr0 hb0
  have HR0 := Lib.hid hr0
  have HB0 := Lib.hid hb0
  have HGX := Lib.hid hgx
  have hn32 : n ≤ 32 := by omega
  clear hr0 hb0 hW2 hgx h1
  go_wp2_with fail
  clear hmk
  go_loopw [6, 7, 26] (fun rv ev iv wr => ∃ (i : Nat) (r : List UInt8) (l : List Ro) (ex : Value), i ≤ n ∧ iv = .int .i64 i ∧ rv = .string ⟨r.toArray⟩ ∧ ev = ex ∧ l.length = i ∧ r.length ≤ s.length ∧ aheadR l (tkRows (n - i) r) = tkRows n s0 ∧ smallR l ∧ HdR wr gx n (l ++ List.replicate (n - i) z0) ∧ Below W.heap.size W wr) (fun _ _ iv _ => n - (intOf iv).toNat)
  case atStart => exact ⟨0, s0, [], _, Nat.zero_le _, rfl, rfl, rfl, rfl, hs0, ahead_nil _, (fun x hx => by simp at hx), HR0.out, HB0.out⟩
  case round =>
    obtain ⟨i, r, l, ex, hi, rfl, rfl, rfl, hli, hrl, hah, hsm, hR, hB⟩ := hrel
    have HAH := Lib.hid hah
    have HSM := Lib.hid hsm
    have HR := Lib.hid hR
    have HB := Lib.hid hB
    have HLI := Lib.hid hli
    clear hah hsm hR hB hli
    by_cases hlt : i < n
    · have i0 : (0 : Int) ≤ (i : Int) := by omega
      have i1 : (i : Int) < (n : Int) := by omega
      go_wp2_with fail
      refine (takeRow_any r (by omega) wr).mono ?_
      rintro e w3 ⟨⟨y, q, k, rfl, hk0, hk1⟩, hb3⟩
      have HB3 := Lib.hid (HB.out.trans (hb3.mono HB.out.size))
      have HR3 := Lib.hid (HR.out.later hb3)
      have HK0 := Lib.hid hk0
      have HK1 := Lib.hid hk1
      have HLN := Lib.hid (show (l ++ List.replicate (n - i) z0).length = n by rw [List.length_append, HLI.out, List.length_replicate]; omega)
      have hil : i < (l ++ List.replicate (n - i) z0).length := by rw [HLN.out]; exact hlt
      obtain ⟨q0, q1, q2⟩ := HdR.cells HR3.out (List.getElem?_eq_getElem hil)
      have z0' := HR3.out.fz (i * 3)
      have z1' := HR3.out.fz (i * 3 + 1)
      have z2' := HR3.out.fz (i * 3 + 2)
      have HP := Lib.hid (HR3.out.put roT hil y)
      have HBP := Lib.hid (HB3.out.grown (sc_grown (roC y) (i * 3) w3) HB3.out.size (fun k e => by cases e; exact Nat.le_of_eq HGX.out))
      generalize (l ++ List.replicate (n - i) z0)[i].key = o0 at q0
      generalize (l ++ List.replicate (n - i) z0)[i].val = o1 at q1
      generalize (l ++ List.replicate (n - i) z0)[i].ver = o2 at q2
      clear hb3 hk0 hk1 hil
      obtain ⟨yk, yv, yn⟩ := y
      by_cases hk : k = 0
      · subst hk
        obtain ⟨hrow, hyk, hyv, hql⟩ := HK0.out rfl
        have HSET := Lib.hid (set_made HLI.out hlt ⟨yk, yv, yn⟩)
        rw [HSET.out] at HP
        have HNA := Lib.hid (show aheadR (l ++ [⟨yk, yv, yn⟩]) (tkRows (n - (i + 1)) q) = tkRows n s0 by
          rw [← ahead_step hrow, show n - (i + 1) + 1 = n - i by omega, HAH.out])
        have HSM2 := Lib.hid (show smallR (l ++ [⟨yk, yv, yn⟩]) from fun z hz => by
          rcases List.mem_append.1 hz with h | h
          · exact HSM.out z h
          · simp only [List.mem_singleton] at h
            rw [h]; simp only; simp only at hyk hyv; omega)
        have hql2 : q.length ≤ s.length := Nat.le_trans hql hrl
        clear hrow hyk hyv
        go_wp2_with fail
        go_roundw
        case rel => exact ⟨i + 1, q, l ++ [(⟨yk, yv, yn⟩ : Ro)], _, by omega, by go_num, rfl, rfl, by rw [List.length_append, List.length_singleton, HLI.out], hql2, HNA.out, HSM2.out, HP.out, HBP.out⟩
        case measure => simp [intOf]; omega
      · have g : ((k : Int) == 0) = false := by simp; omega
        have g' : ((k : Int) != 0) = true := by simp; omega
        have HF := Lib.hid (show takeR s = ([], [], 3) by
          rw [HTR2.out, ← HAH.out, show n - i = n - (i + 1) + 1 by omega, ahead_no (HK1.out hk)])
        have HBW := Lib.hid (HB1.out.trans (HBP.out.mono HB1.out.size))
        clear hk
        go_wp2_with fail
        go_ret3
        exact trP_no HF.out HBW.out
    · have i1 : ¬ (i : Int) < (n : Int) := by omega
      have hin : i = n := by omega
      have hR := HR.out
      rw [show n - i = 0 by omega, List.replicate_zero, List.append_nil] at hR
      have HR2 := Lib.hid hR.row
      have htk : tkRows n s0 = some (l, r) := by
        rw [← HAH.out, show n - i = 0 by omega]; simp [tkRows, aheadR]
      obtain ⟨ok, hok⟩ : ∃ ok, rightB l = ok := ⟨_, rfl⟩
      have HOK := Lib.hid hok
      have HT3 := Lib.hid (show takeR s = if ok then (l, r, 0) else ([], [], 3) by rw [HTR2.out, htk]; simp only; rw [hok])
      have HBW := Lib.hid (HB1.out.trans (HB.out.mono HB1.out.size))
      have HLN := Lib.hid (show l.length = n by rw [HLI.out]; exact hin)
      clear htk hok hR hin
      go_wp2_with fail
      refine (pRight_any n n (some ⟨gx, 0, none⟩) l HLN.out (by omega) HSM.out _ HR2.out).mono ?_
      rintro e w8 ⟨rfl, hb8⟩
      rw [HOK.out]
      have HB8 := Lib.hid (HBW.out.trans (hb8.mono HBW.out.size))
      have HR8 := Lib.hid (HR2.out.later hb8)
      clear hb8
      cases ok
      case false =>
        go_wp2_with fail
        go_ret3
        exact trP_no HT3.out HB8.out
      case true =>
        have HF := Lib.hid (show TrP w (takeR s) (.returned (.tuple #[.slice (some ⟨gx, 0, none⟩) n n, .string ⟨r.toArray⟩, .int .i64 0])) w8 by
          rw [HT3.out]; exact ⟨some ⟨gx, 0, none⟩, n, by rw [show (if true = true then (l, r, 0) else (([] : List Ro), ([] : List UInt8), 3)) = (l, r, 0) from rfl]; simp only; rw [HLN.out]; rfl, HR8.out, HSM.out, HB8.out⟩)
        go_wp2_with fail
        go_ret3
        exact HF.out
end Go.Proofs.YtifdgjmbecilhaaDoor
