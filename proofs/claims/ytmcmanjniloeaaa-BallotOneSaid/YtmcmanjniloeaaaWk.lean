/- Count: what voices come to. -/
import Derived.Test.YtmcmanjniloeaaaWj
namespace Go.Proofs.Ytmcmanjniloeaaa
open Go.RowKit Go.Maps

theorem usT : RowT (α := Nat) 39 22 1 8 (.int .u64 0) u64C :=
  ⟨Try.underlying39, by kernel_rfl, rfl, by decide, by decide, fun _ => rfl, fun x u hu => by
    simp only [u64C, List.mem_cons, List.not_mem_nil, or_false] at hu
    subst hu; rfl⟩
theorem Rw.us {w : World} {a : Option Addr} {L : List Nat} (h : Rw 1 u64C w a L) : Us w a L := fun j x hx => by
  obtain ⟨b, off, e, hb, hc⟩ := h j x hx
  exact ⟨b, off, e, hb, by simpa using hc 0 _ rfl⟩
/-- Whose first voice is yes. -/
def grN (V : List Nat) (L : List Vo) : List Nat := V.filter fun i => decide (vcF i L = 1)
/-- How many haven't said no. -/
def otN (V : List Nat) (L : List Vo) : Nat := (V.filter fun i => decide (vcF i L ≠ 2)).length
theorem grN_le (V : List Nat) (L : List Vo) : (grN V L).length ≤ V.length := List.length_filter_le _ _
theorem otN_le (V : List Nat) (L : List Vo) : otN V L ≤ V.length := List.length_filter_le _ _
theorem grN_sub (V : List Nat) (L : List Vo) : ∀ x ∈ grN V L, x ∈ V := fun _ hx => (List.mem_filter.1 hx).1
theorem grN_snoc {V : List Nat} {L : List Vo} {k x : Nat} (h : V[k]? = some x) : grN (V.take (k + 1)) L = if vcF x L = 1 then grN (V.take k) L ++ [x] else grN (V.take k) L := by
  unfold grN; rw [List.take_add_one, h]
  by_cases h1 : vcF x L = 1 <;> simp [List.filter_append, h1]
theorem otN_snoc {V : List Nat} {L : List Vo} {k x : Nat} (h : V[k]? = some x) : otN (V.take (k + 1)) L = otN (V.take k) L + if vcF x L = 2 then 0 else 1 := by
  unfold otN; rw [List.take_add_one, h]
  by_cases h1 : vcF x L = 2 <;> simp [List.filter_append, h1]
def cntV (V : List Nat) (L : List Vo) : Nat := if mostB V (grN V L) then 1 else if otN V L < V.length / 2 + 1 then 2 else 0
set_option maxRecDepth 100000 in
set_option maxHeartbeats 8000000 in
theorem pCount_any (n c n2 c2 m d : Nat) (a a2 a3 : Option Addr) (V : List Nat) (L : List Vo) (hn : V.length = n) (hl : n * 8 ≤ 140737488351232) (hm : L.length = m) (hl2 : m ≤ 140737488351232) (hb1 : ∀ x ∈ V, x < 18446744073709551616) (hb2 : ∀ x ∈ L, x.id < 18446744073709551616) (w : World) (hV : Us w a V) (hE : Vs w a3 L) :
    Calls Try.prog 16 #[.agg #[.slice a n c, .slice a2 n2 c2], .slice a3 m d] w fun e w' => e = .returned (.int .i64 (cntV V L : Nat)) ∧ Below w.heap.size w w' := by
  have HW0 := Lib.hid (show Below w.heap.size w (w.alloc (.cells #[.slice a n c, .slice a2 n2 c2] 41)) by go_grown)
  have HC0 := Lib.hid (Cb.new (w := w) rfl (.slice a n c) (.slice a2 n2 c2) 41)
  have HV := Lib.hid hV
  have HE := Lib.hid hE
  have HN := Lib.hid hn
  have HM := Lib.hid hm
  have HB1 := Lib.hid hb1
  have HB2 := Lib.hid hb2
  clear hV hE hn hm hb1 hb2
  go_enter Try.func16, Try.ntmps16
  go_wp2_with fail
  generalize w.alloc (.cells #[.slice a n c, .slice a2 n2 c2] 41) = W at *
  refine (pFirst_any m d a3 L HM.out hl2 HB2.out _ (HE.out.later HW0.out)).mono ?_
  rintro e w3 ⟨b, q, D, rfl, hown, hD, hq, hbW, hb3⟩
  have HO := Lib.hid hown
  have HD := Lib.hid hD
  have HC3 := Lib.hid (HC0.out.later hb3)
  have HW3 := Lib.hid (HW0.out.trans (hb3.mono HW0.out.size))
  clear hown hD hb3 hbW hq HW0 HC0
  obtain ⟨c0, c1, cz, cl⟩ := HC3.out
  go_wp2_with fail
  go_loopw [6, 7, 19] (fun ov gv i wr => ∃ (k : Nat), k ≤ n ∧ i = .int .i64 k ∧ ov = .int .i64 (otN (V.take k) L : Nat) ∧ Cq 22 1 u64C w3.heap.size wr gv (grN (V.take k) L) ∧ Below w3.heap.size w3 wr) (fun _ _ i _ => n - (intOf i).toNat)
  case atStart => exact ⟨0, Nat.zero_le _, rfl, rfl, Cq.nil _ _ none, Below.refl _ _⟩
  case round =>
    obtain ⟨k, hk, rfl, rfl, hG, hB⟩ := hrel
    have HG := Lib.hid hG
    have HB := Lib.hid hB
    clear hG hB
    by_cases hlt : k < n
    · obtain ⟨x, hx⟩ : ∃ x, V[k]? = some x := ⟨_, List.getElem?_eq_getElem (by rw [HN.out]; exact hlt)⟩
      have i0 : (0 : Int) ≤ (k : Int) := by omega
      have i1 : (k : Int) < (n : Int) := by omega
      have hxb := HB1.out x (List.mem_of_getElem? hx)
      have hgs := grN_snoc (L := L) hx
      have hos := otN_snoc (L := L) hx
      have hol := otN_le (V.take k) L
      rw [List.length_take] at hol
      have hgl := grN_le (V.take k) L
      rw [List.length_take] at hgl
      obtain ⟨b0, off, rfl, hb0, p0⟩ := HV.out.later (HW3.out.trans (HB.out.mono HW3.out.size)) k x hx
      have k1 := keyVo x true hxb
      have k2 := keyVo x false hxb
      have h1 := HD.out x true hxb
      have h2 := HD.out x false hxb
      simp only [↓reduceIte, Bool.false_eq_true] at h1 h2
      have hle := vcF_le x L
      obtain ⟨cx, hcx⟩ : ∃ c, vcF x L = c := ⟨_, rfl⟩
      rw [hcx] at h1 h2 hle hgs hos
      clear hx hcx
      have h3 : cx = 0 ∨ cx = 1 ∨ cx = 2 := by omega
      have HO1 := Lib.hid (vm_later HO.out HB.out)
      have HB5 := Lib.hid (show Below w3.heap.size w3 (wr.alloc (.cells #[] 61)) from HB.out.alloc HB.out.size _)
      rcases h3 with rfl | rfl | rfl
      · simp at h1 h2 hgs hos
        have HH1 := Lib.hid h1
        have HH2 := Lib.hid h2
        have HGS := Lib.hid hgs
        have HOS := Lib.hid hos
        clear h1 h2 hgs hos
        go_wp2_with (first
          | (at_lookup; refine wpList_lookup_own_unit _ rfl _ _ 59 rfl 33 61 keyedVo Try.underlying59 (zeroUnit _) b q _ rfl HO1.out _ _ rfl k1 ?_; rw [HH1.out])
          | (at_lookup; refine wpList_lookup_own_unit _ rfl _ _ 59 rfl 33 61 keyedVo Try.underlying59 (zeroUnit _) b q _ rfl (HO1.out.alloc _) _ _ rfl k2 ?_; rw [HH2.out])
          | go_in)
        have HF := Lib.hid (And.intro (HG.out.later (show Below wr.heap.size wr ((wr.alloc (.cells #[] 61)).alloc (.cells #[] 61)) by go_grown)) (HB5.out.alloc HB5.out.size (.cells #[] 61)))
        clear k1 k2
        go_roundw
        case rel => exact ⟨k + 1, by omega, by go_num, by rw [HOS.out]; go_num, by rw [HGS.out]; exact HF.out.1, HF.out.2⟩
        case measure => simp [intOf]; omega
      · simp at h1 h2 hgs hos
        have HH1 := Lib.hid h1
        have HH2 := Lib.hid h2
        have HGS := Lib.hid hgs
        have HOS := Lib.hid hos
        have BA : Below wr.heap.size wr ((wr.alloc (.cells #[] 61)).alloc (.cells #[.int .u64 x] 22)) := by go_grown
        obtain ⟨gv2, w5, hr, hc5, hb5⟩ := app_rw usT w3.heap.size _ 39 u7 (grN (V.take k) L) (HG.out.later BA) (some ⟨wr.heap.size + 1, 0, none⟩) 1 1 [x] rfl (rw_one (f := u64C) (wr.alloc (.cells #[] 61)) (by simp) x rfl 22) (by omega) (Nat.le_trans HB.out.size BA.size)
        have HR := Lib.hid hr
        have HB6 := Lib.hid ((HB.out.trans (BA.mono HB.out.size)).trans hb5)
        have HO5 := Lib.hid (vm_later HO.out HB6.out)
        have HF := Lib.hid (And.intro (hc5.later (show Below w5.heap.size w5 (w5.alloc (.cells #[] 61)) by go_grown)) (HB6.out.alloc HB6.out.size (.cells #[] 61)))
        clear h1 h2 hgs hos hr hc5 hb5 BA
        go_wp2_with (first
          | (at_lookup; refine wpList_lookup_own_unit _ rfl _ _ 59 rfl 33 61 keyedVo Try.underlying59 (zeroUnit _) b q _ rfl HO1.out _ _ rfl k1 ?_; rw [HH1.out])
          | (at_lookup; refine wpList_lookup_own_unit _ rfl _ _ 59 rfl 33 61 keyedVo Try.underlying59 (zeroUnit _) b q _ rfl HO5.out _ _ rfl k2 ?_; rw [HH2.out])
          | (at_builtin; refine Lib.wpList_append_run _ rfl _ _ 39 39 rfl u7 (.slice (some ⟨wr.heap.size + 1, 0, none⟩) 1 1) rfl rfl _ _ HR.out ?_)
          | go_in)
        clear k1 k2 HR
        go_roundw
        case rel => exact ⟨k + 1, by omega, by go_num, by rw [HOS.out]; go_num, by rw [HGS.out]; exact HF.out.1, HF.out.2⟩
        case measure => simp [intOf]; omega
      · simp at h1 h2 hgs hos
        have HH1 := Lib.hid h1
        have HH2 := Lib.hid h2
        have HGS := Lib.hid hgs
        have HOS := Lib.hid hos
        clear h1 h2 hgs hos
        go_wp2_with (first
          | (at_lookup; refine wpList_lookup_own_unit _ rfl _ _ 59 rfl 33 61 keyedVo Try.underlying59 (zeroUnit _) b q _ rfl HO1.out _ _ rfl k1 ?_; rw [HH1.out])
          | (at_lookup; refine wpList_lookup_own_unit _ rfl _ _ 59 rfl 33 61 keyedVo Try.underlying59 (zeroUnit _) b q _ rfl (HO1.out.alloc _) _ _ rfl k2 ?_; rw [HH2.out])
          | go_in)
        have HF := Lib.hid (And.intro (HG.out.later (show Below wr.heap.size wr ((wr.alloc (.cells #[] 61)).alloc (.cells #[] 61)) by go_grown)) (HB5.out.alloc HB5.out.size (.cells #[] 61)))
        clear k1 k2
        go_roundw
        case rel => exact ⟨k + 1, by omega, by go_num, by rw [HOS.out], by rw [HGS.out]; exact HF.out.1, HF.out.2⟩
        case measure => simp [intOf]; omega
    · have hkn : k = n := by omega
      subst hkn
      have htk : V.take k = V := List.take_of_length_le (by rw [HN.out]; exact Nat.le_refl _)
      have hG := HG.out
      rw [htk] at hG
      obtain ⟨ga, gc, rfl, hgu, _, _, _⟩ := hG.form usT
      obtain ⟨gm, hgm⟩ : ∃ m, (grN V L).length = m := ⟨_, rfl⟩
      have hgl := grN_le V L
      have HGM := Lib.hid hgm
      have HGU := Lib.hid hgu
      rw [hgm] at hgl
      have hol := otN_le V L
      have HTK := Lib.hid htk
      rw [hgm]
      have HGB := Lib.hid (show ∀ x ∈ grN V L, x < 18446744073709551616 from fun x hx => HB1.out x (grN_sub V L x hx))
      have HC4 := Lib.hid (HC3.out.later HB.out)
      have HW4 := Lib.hid (HW3.out.trans (HB.out.mono HW3.out.size))
      have HOT := Lib.hid (show otN (V.take k) L = otN V L by rw [htk])
      clear c0 c1 cz cl hG htk hgm hgu
      obtain ⟨c0, c1, cz, cl⟩ := HC4.out
      go_wp2_with fail
      refine (pMost_any k c n2 c2 gm gc a a2 ga V (grN V L) HN.out (by omega) HGM.out (by have := HN.out; omega) HB1.out HGB.out _ (HV.out.later HW4.out) (Rw.us HGU.out)).mono ?_
      rintro e w5 ⟨rfl, hb5⟩
      have HC5 := Lib.hid (HC4.out.later hb5)
      have HW5 := Lib.hid (HW4.out.trans (hb5.mono HW4.out.size))
      clear c0 c1 cz cl hb5
      obtain ⟨c0, c1, cz, cl⟩ := HC5.out
      obtain ⟨mb, hmb⟩ : ∃ b, mostB V (grN V L) = b := ⟨_, rfl⟩
      rw [hmb]
      have HMB := Lib.hid hmb
      clear hmb
      rw [HOT.out]
      cases mb
      · go_wp2_with fail
        refine (pNeed_any k c n2 c2 a a2 (by omega) _).mono ?_
        rintro e w6 ⟨rfl, hb6⟩
        have HW6 := Lib.hid (HW5.out.trans (hb6.mono HW5.out.size))
        clear hb6 c0 c1
        by_cases hlo : otN V L < k / 2 + 1
        · have g : ((otN V L : Nat) : Int) < ((k / 2 + 1 : Nat) : Int) := by omega
          have HT := Lib.hid (show cntV V L = 2 by unfold cntV; rw [HMB.out, HN.out, if_pos hlo]; rfl)
          go_wp2_with fail
          go_ret
          exact ⟨by rw [HT.out]; first | rfl | simp, HW6.out⟩
        · have g : ¬ ((otN V L : Nat) : Int) < ((k / 2 + 1 : Nat) : Int) := by omega
          have HT := Lib.hid (show cntV V L = 0 by unfold cntV; rw [HMB.out, HN.out, if_neg hlo]; rfl)
          go_wp2_with fail
          go_ret
          exact ⟨by rw [HT.out]; first | rfl | simp, HW6.out⟩
      · have HT := Lib.hid (show cntV V L = 1 by unfold cntV; rw [HMB.out]; rfl)
        go_wp2_with fail
        go_ret
        exact ⟨by rw [HT.out]; first | rfl | simp, HW5.out⟩
end Go.Proofs.Ytmcmanjniloeaaa
