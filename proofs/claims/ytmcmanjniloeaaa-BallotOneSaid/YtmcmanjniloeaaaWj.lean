/- first: the first voices, as a map. -/
import Derived.Test.YtmcmanjniloeaaaWi
namespace Go.Proofs.Ytmcmanjniloeaaa
open Go.RowKit Go.Maps

theorem vcF_snoc (i : Nat) (L : List Vo) (x : Vo) : vcF i (L ++ [x]) = if vcF i L = 0 then (if x.id = i then (if x.y then 1 else 2) else 0) else vcF i L := by
  induction L with
  | nil => simp [vcF]
  | cons z r ih =>
    simp only [List.cons_append, vcF, ih]
    by_cases h : z.id = i
    · simp only [h, ↓reduceIte]; split <;> simp
    · simp [h]
theorem take_snoc' {L : List Vo} {k : Nat} {x : Vo} (h : L[k]? = some x) : L.take (k + 1) = L.take k ++ [x] := by rw [List.take_add_one, h]; rfl
theorem fv_skip {D : DataW Unit} {L : List Vo} {x : Vo} (hD : FvP D L) (h : vcF x.id L ≠ 0) : FvP D (L ++ [x]) := fun i y hi => by
  rw [hD i y hi, vcF_snoc]
  by_cases h0 : vcF i L = 0
  · have : x.id ≠ i := by rintro rfl; exact h h0
    simp [h0, this]
  · simp [h0]
theorem fv_put {D : DataW Unit} {L : List Vo} {x : Vo} (hD : FvP D L) (hI : IsMap D) (hx : x.id < 18446744073709551616) (h : vcF x.id L = 0) : FvP (D.put (kvo x.id x.y) (.agg [])) (L ++ [x]) := fun i y hi => by
  rw [vcF_snoc]
  by_cases he : x.id = i ∧ x.y = y
  · obtain ⟨rfl, rfl⟩ := he
    rw [has_put_same hI (kvo_lit _ _ hx)]
    simp [h]
  · rw [has_put_other (kvo_ne hi hx (fun e => he ⟨e.1.symm, e.2.symm⟩)), hD i y hi]
    by_cases hid : x.id = i
    · subst hid
      have hy : x.y ≠ y := fun e => he ⟨rfl, e⟩
      rw [h]
      revert hy
      cases x.y <;> cases y <;> simp
    · by_cases h0 : vcF i L = 0 <;> simp [h0, hid]
/-- What first answers. -/
def FiP (w : World) (L : List Vo) (e : Ending) (w' : World) : Prop := ∃ b n D, e = .returned (.map (some b)) ∧ VM w' b n D ∧ FvP D L ∧ n ≤ L.length ∧ w.heap.size ≤ b ∧ Below w.heap.size w w'
set_option maxRecDepth 100000 in
set_option maxHeartbeats 4000000 in
theorem pFirst_any (n c : Nat) (a : Option Addr) (L : List Vo) (hn : L.length = n) (hl : n ≤ 140737488351232) (hb : ∀ x ∈ L, x.id < 18446744073709551616) (w : World) (hE : Vs w a L) :
    Calls Try.prog 26 #[.slice a n c] w (FiP w L) := by
  have hmm := @run_makeMap Try.prog
  have HN := Lib.hid hn
  have HE := Lib.hid hE
  have HB := Lib.hid hb
  clear hn hE hb
  have HM0 := Lib.hid (show VM ((w.alloc (.map #[] 0)).alloc (.cells #[.map (some w.heap.size)] 59)) w.heap.size 0 (.map []) from (World.ownsMap_made (H := Unit) w Try.prog 33 unitElem).alloc _)
  have HW0 := Lib.hid (show Below w.heap.size w ((w.alloc (.map #[] 0)).alloc (.cells #[.map (some w.heap.size)] 59)) by go_grown)
  have HQ0 := Lib.hid (show ((w.alloc (.map #[] 0)).alloc (.cells #[.map (some w.heap.size)] 59)).cell? ⟨w.heap.size + 1, 0, none⟩ = some (.map (some w.heap.size)) ∧ w.heap.size + 1 < ((w.alloc (.map #[] 0)).alloc (.cells #[.map (some w.heap.size)] 59)).heap.size by simp [go_sem])
  go_enter Try.func26, Try.ntmps26
  go_wp2_with fail
  generalize (w.alloc (.map #[] 0)).alloc (.cells #[.map (some w.heap.size)] 59) = W at *
  go_loopw [11] (fun i wr => ∃ (k m : Nat) (D : DataW Unit), k ≤ n ∧ i = .int .i64 k ∧ VM wr w.heap.size m D ∧ m ≤ k ∧ FvP D (L.take k) ∧ wr.cell? ⟨w.heap.size + 1, 0, none⟩ = some (.map (some w.heap.size)) ∧ w.heap.size + 1 < wr.heap.size ∧ Below w.heap.size w wr) (fun i _ => n - (intOf i).toNat)
  case atStart => exact ⟨0, 0, _, Nat.zero_le _, rfl, HM0.out, Nat.le_refl _, fun i y _ => by cases y <;> simp [vcF, Maps.has], HQ0.out.1, HQ0.out.2, HW0.out⟩
  case round =>
    obtain ⟨k, m, D, hk, rfl, hown, hmk, hD, hq, hql, hB⟩ := hrel
    have HD := Lib.hid hD
    have HO := Lib.hid hown
    have HW := Lib.hid hB
    clear hD hown hB
    by_cases hlt : k < n
    · obtain ⟨x, hx⟩ : ∃ x, L[k]? = some x := ⟨_, List.getElem?_eq_getElem (by rw [HN.out]; exact hlt)⟩
      have i0 : (0 : Int) ≤ (k : Int) := by omega
      have i1 : (k : Int) < (n : Int) := by omega
      have hxb := HB.out x (List.mem_of_getElem? hx)
      have HTK := Lib.hid (take_snoc' hx)
      obtain ⟨b, off, rfl, hb, p0, p1⟩ := (HE.out.later HW.out).vo hx
      obtain ⟨xi, xy⟩ := x
      simp only at p0 p1 hxb
      clear hx
      have B1 : Below wr.heap.size wr (wr.alloc (.cells #[.int .u64 xi, .bool xy] 33)) := (Below.refl _ _).alloc (Nat.le_refl _) _
      have HV1 := Lib.hid (Vb.new (w := wr) rfl xi xy 33)
      have HB1 := Lib.hid B1
      clear B1
      go_wp2_with fail
      generalize wr.alloc (.cells #[.int .u64 xi, .bool xy] 33) = W1 at *
      refine (voted_any (w.heap.size + 1) w.heap.size m xi D (L.take k) hxb _ (vm_later HO.out HB1.out) ((HB1.out.cell (p := ⟨w.heap.size + 1, 0, none⟩) hql).trans hq) (Nat.lt_of_lt_of_le hql HB1.out.size) HD.out).mono ?_
      rintro e w2 ⟨rfl, hb2⟩
      have HO2 := Lib.hid (vm_later (vm_later HO.out HB1.out) hb2)
      have q2 := (hb2.cell (p := ⟨w.heap.size + 1, 0, none⟩) (Nat.lt_of_lt_of_le hql HB1.out.size)).trans ((HB1.out.cell (p := ⟨w.heap.size + 1, 0, none⟩) hql).trans hq)
      obtain ⟨v0, v1, vl⟩ := HV1.out.later hb2
      have HWR := HB1.out.trans (hb2.mono HB1.out.size)
      have q2l : w.heap.size + 1 < w2.heap.size := Nat.lt_of_lt_of_le hql HWR.size
      have HW2 := Lib.hid (HW.out.trans (HWR.mono HW.out.size))
      clear hb2 p0 p1 hq HO HW HB1 HV1 HWR
      by_cases hz : vcF xi (L.take k) = 0
      · rw [show decide (vcF xi (L.take k) ≠ 0) = false by simp [hz]]
        have hkey := keyVo xi xy hxb
        have HT := Lib.hid (show FvP (D.put (kvo xi xy) (.agg [])) (L.take (k + 1)) by rw [HTK.out]; exact fv_put (x := ⟨xi, xy⟩) HD.out HO2.out.isMap hxb hz)
        have hown := HO2.out
        clear hz
        go_wp2_with (first
          | (at_mapUpdate; refine wpList_mapUpdate_own _ rfl _ _ _ 59 rfl 33 61 keyedVo Try.underlying59 (unitElem (H := Unit)) w.heap.size m _ rfl hown (by unfold maxLen; omega) _ _ _ rfl rfl hkey _ [] unitElem_mk ?_; intro w3 hown3 hgrow3)
          | go_in)
        have hB3 : Below w.heap.size w w3 := HW2.out.grown hgrow3 HW2.out.size (fun j hj => by cases hj; omega)
        have q3 := hgrow3.cell q2 (by simp)
        have HO3 := Lib.hid (And.intro hown3 (And.intro q3 (And.intro (Nat.lt_of_lt_of_le q2l hgrow3.size) hB3)))
        clear hown hown3 hgrow3 hB3 q3 hkey q2 v0 v1
        go_roundw
        case rel => exact ⟨k + 1, m + 1, _, by omega, by go_num, HO3.out.1, by omega, HT.out, HO3.out.2.1, HO3.out.2.2.1, HO3.out.2.2.2⟩
        case measure => simp [intOf]; omega
      · rw [show decide (vcF xi (L.take k) ≠ 0) = true by simp [hz]]
        have HT := Lib.hid (show FvP D (L.take (k + 1)) by rw [HTK.out]; exact fv_skip (x := ⟨xi, xy⟩) HD.out hz)
        clear hz
        go_wp2_with fail
        go_roundw
        case rel => exact ⟨k + 1, m, D, by omega, by go_num, HO2.out, by omega, HT.out, q2, q2l, HW2.out⟩
        case measure => simp [intOf]; omega
    · have hkn : k = n := by omega
      subst hkn
      have HT := Lib.hid (show FvP D L by have := HD.out; rw [List.take_of_length_le (by rw [HN.out]; exact Nat.le_refl _)] at this; exact this)
      go_wp2_with fail
      go_ret
      exact ⟨w.heap.size, m, D, rfl, HO.out, HT.out, by rw [HN.out]; exact hmk, Nat.le_refl _, HW.out⟩
end Go.Proofs.Ytmcmanjniloeaaa
