/- Rows out of bytes: the document's Take. -/
import Derived.Test.YtifdgjmbecilhaaDoorUj
namespace Go.Proofs.YtifdgjmbecilhaaDoor
open Go.RowKit

/-- What Take answers, in memory. -/
def TrP (w : World) (r : List Ro × List UInt8 × Nat) (e : Ending) (w' : World) : Prop := ∃ (a : Option Addr) (c : Nat), e = .returned (.tuple #[.slice a r.1.length c, .string ⟨r.2.1.toArray⟩, .int .i64 (r.2.2 : Nat)]) ∧ Ros w' a r.1 ∧ smallR r.1 ∧ Below w.heap.size w w'
theorem trP_no {w w' : World} {r : List Ro × List UInt8 × Nat} (h : r = ([], [], 3)) (hB : Below w.heap.size w w') : TrP w r (.returned (.tuple #[.slice none 0 0, .string ⟨#[]⟩, .int .i64 3])) w' := by
  subst h
  exact ⟨none, 0, rfl, fun j x hx => by simp at hx, fun x hx => by simp at hx, hB⟩
theorem txG_bd {s b r : List UInt8} (h : txG s = some (b, r)) : b.length ≤ 4096 ∧ b.length + r.length ≤ s.length := by
  unfold txG at h
  split at h
  · cases h
  · rename_i hn
    have hl := tk_less s
    simp only [Option.some.injEq, Prod.mk.injEq] at h
    obtain ⟨rfl, rfl⟩ := h
    rw [List.length_take, List.length_drop]
    omega
set_option maxRecDepth 100000 in
set_option maxHeartbeats 8000000 in
theorem rTake_any (s : List UInt8) (hs : s.length ≤ 140737488355328) (w : World) :
    Calls Tryd.prog 25 #[.string ⟨s.toArray⟩] w (TrP w (takeR s)) := by
  obtain ⟨n, s0, x, hx⟩ : ∃ v q x, tkNum s = (v, q, x) := ⟨_, _, _, rfl⟩
  have hs0 : s0.length ≤ s.length := by have := tk_less s; rw [hx] at this; exact this
  have HX := Lib.hid hx
  have htr : takeR s = if x ≠ 0 ∨ 32 < n then ([], [], 3) else match tkRows n s0 with
      | none => ([], [], 3)
      | some (l, q) => if rightB l then (l, q, 0) else ([], [], 3) := by unfold takeR; rw [hx]; rfl
  have HTR := Lib.hid htr
  clear hx htr
  go_enter Tryd.func25, Tryd.ntmps25
  go_wp2_with fail
  refine (refTake_any ⟨s.toArray⟩ _).mono ?_
  rintro e w1 ⟨rfl, k0, rfl⟩
  unfold tkOut
  rw [show (ByteArray.mk s.toArray).data.toList = s from rfl, HX.out]
  have B1 : Below w.heap.size w (w.drewN k0) := below_drewN (Below.refl _ _) _
  generalize w.drewN k0 = W at *
  have HB1 := Lib.hid B1
  clear B1
  by_cases h0 : x = 0
  case neg =>
    have g : ((x : Int) == 0) = false := by simp; omega
    have g' : ((x : Int) != 0) = true := by simp; omega
    have HF := Lib.hid (show takeR s = ([], [], 3) by rw [HTR.out, if_pos (.inl h0)])
    clear h0
    go_wp2_with fail
    go_ret3
    exact trP_no HF.out HB1.out
  subst h0
  by_cases h1 : 32 < n
  · have g : (32 : Int) < (n : Int) := by omega
    have HF := Lib.hid (show takeR s = ([], [], 3) by rw [HTR.out, if_pos (.inr h1)])
    go_wp2_with fail
    go_ret3
    exact trP_no HF.out HB1.out
  have g1 : ¬ (32 : Int) < (n : Int) := by omega
  have HTR2 := Lib.hid (show takeR s = match tkRows n s0 with
      | none => ([], [], 3)
      | some (l, q) => if rightB l then (l, q, 0) else ([], [], 3) by rw [HTR.out, if_neg (by omega)])
  clear HTR HX
  go_wp2_with fail
  go_loopw [6, 8, 9] (fun rv lv iv wr => ∃ (i : Nat) (r : List UInt8) (l : List Ro) (a' : Option Addr) (c' : Nat), i ≤ n ∧ iv = .int .u64 i ∧ rv = .string ⟨r.toArray⟩ ∧ lv = .slice a' l.length c' ∧ l.length = i ∧ r.length ≤ s.length ∧ aheadR l (tkRows (n - i) r) = tkRows n s0 ∧ smallR l ∧ CqR W.heap.size wr (.slice a' l.length c') l ∧ Below W.heap.size W wr) (fun _ _ iv _ => n - (intOf iv).toNat)
  case atStart => exact ⟨0, s0, [], none, 0, Nat.zero_le _, rfl, rfl, rfl, rfl, hs0, ahead_nil _, (fun x hx => by simp at hx), Cq.nil _ _ _, Below.refl _ _⟩
  case round =>
    obtain ⟨i, r, l, a', c', hi, rfl, rfl, rfl, hli, hrl, hah, hsm, hC, hB⟩ := hrel
    have HAH := Lib.hid hah
    have HSM := Lib.hid hsm
    have HC := Lib.hid hC
    have HB := Lib.hid hB
    have HLI := Lib.hid hli
    clear hah hsm hC hB hli
    by_cases hlt : i < n
    · have gi : (i : Int) < (n : Int) := by omega
      obtain ⟨m, hm⟩ : ∃ m, n - i = m + 1 := ⟨n - i - 1, by omega⟩
      have hm2 : n - (i + 1) = m := by omega
      have HM := Lib.hid hm
      have HM2 := Lib.hid hm2
      clear hm hm2
      have HNO := Lib.hid (show ∀ w', Below w.heap.size w w' → tkRow r = none → TrP w (takeR s) (.returned (.tuple #[.slice none 0 0, .string ⟨#[]⟩, .int .i64 3])) w' from fun w' hB h => trP_no (by
        rw [HTR2.out, ← HAH.out, HM.out, ahead_no h]) hB)
      go_wp2_with fail
      refine (rTakeText_any r (by omega) _).mono ?_
      rintro e w4 ⟨⟨kb, ra, k1, rfl, t1, t1', _, hra⟩, hb4⟩
      have HT1 := Lib.hid (And.intro t1 t1')
      have HB4 := Lib.hid (HB.out.trans (hb4.mono HB.out.size))
      have HC4 := Lib.hid (HC.out.later hb4)
      clear t1 t1' hb4 HB HC
      go_wp2_with fail
      refine (rTakeText_any ra (by omega) _).mono ?_
      rintro e w5 ⟨⟨vb, rb, k2, rfl, t2, t2', _, hrb⟩, hb5⟩
      have HT2 := Lib.hid (And.intro t2 t2')
      have HB5 := Lib.hid (HB4.out.trans (hb5.mono HB4.out.size))
      have HC5 := Lib.hid (HC4.out.later hb5)
      clear t2 t2' hb5 HB4 HC4
      obtain ⟨ver, rc, k3, hx3⟩ : ∃ v q x, tkNum rb = (v, q, x) := ⟨_, _, _, rfl⟩
      have hrc : rc.length ≤ rb.length := by have := tk_less rb; rw [hx3] at this; exact this
      have HX3 := Lib.hid hx3
      clear hx3
      go_wp2_with fail
      refine (refTake_any ⟨rb.toArray⟩ _).mono ?_
      rintro e w6 ⟨rfl, q6, rfl⟩
      unfold tkOut
      rw [show (ByteArray.mk rb.toArray).data.toList = rb from rfl, HX3.out]
      have hb6 : Below w5.heap.size w5 (w5.drewN q6) := below_drewN (Below.refl _ _) _
      have HB6 := Lib.hid (HB5.out.trans (hb6.mono HB5.out.size))
      have HC6 := Lib.hid (HC5.out.later hb6)
      clear hb6 HB5 HC5
      generalize w5.drewN q6 = wv at *
      have HBW := Lib.hid (HB1.out.trans (HB6.out.mono HB1.out.size))
      by_cases hk1 : k1 = 0
      case neg =>
        have g : ((k1 : Int) == 0) = false := by simp; omega
        have g' : ((k1 : Int) != 0) = true := by simp; omega
        have HF := Lib.hid (HNO.out _ HBW.out (by unfold tkRow; rw [HT1.out.2 hk1]))
        clear hk1
        go_wp2_with fail
        go_ret3
        exact HF.out
      have HT1a := Lib.hid (HT1.out.1 hk1)
      subst hk1
      by_cases hk2 : k2 = 0
      case neg =>
        have g : ((k2 : Int) == 0) = false := by simp; omega
        have g' : ((k2 : Int) != 0) = true := by simp; omega
        have HF := Lib.hid (HNO.out _ HBW.out (by unfold tkRow; rw [HT1a.out]; simp only; rw [HT2.out.2 hk2]))
        clear hk2
        go_wp2_with fail
        go_ret3
        exact HF.out
      have HT2a := Lib.hid (HT2.out.1 hk2)
      subst hk2
      by_cases hk3 : k3 = 0
      case neg =>
        have g : ((k3 : Int) == 0) = false := by simp; omega
        have g' : ((k3 : Int) != 0) = true := by simp; omega
        have HF := Lib.hid (HNO.out _ HBW.out (by unfold tkRow; rw [HT1a.out]; simp only; rw [HT2a.out]; simp only; rw [HX3.out, if_neg hk3]))
        clear hk3
        go_wp2_with fail
        go_ret3
        exact HF.out
      subst hk3
      have HROW := Lib.hid (show tkRow r = some (⟨⟨kb.toArray⟩, ⟨vb.toArray⟩, ver⟩, rc) by unfold tkRow; rw [HT1a.out]; simp only; rw [HT2a.out]; simp only; rw [HX3.out, if_pos rfl])
      have hbd1 := txG_bd HT1a.out
      have hbd2 := txG_bd HT2a.out
      have HNA := Lib.hid (show aheadR (l ++ [⟨⟨kb.toArray⟩, ⟨vb.toArray⟩, ver⟩]) (tkRows (n - (i + 1)) rc) = tkRows n s0 by rw [HM2.out, ← ahead_step HROW.out, ← HM.out, HAH.out])
      have HSM2 := Lib.hid (show smallR (l ++ [⟨⟨kb.toArray⟩, ⟨vb.toArray⟩, ver⟩]) from fun y hy => by
        rcases List.mem_append.1 hy with h | h
        · exact HSM.out y h
        · simp only [List.mem_singleton] at h
          rw [h]; simp only; rw [sz_arr, sz_arr]; omega)
      have hll : l.length ≤ 32 := by rw [HLI.out]; omega
      obtain ⟨a6, c6, w7, hr7, hc7, hb7⟩ := appR W.heap.size wv _ l HC6.out ⟨⟨kb.toArray⟩, ⟨vb.toArray⟩, ver⟩ (by omega) HB6.out.size
      have HR7 := Lib.hid hr7
      have HC7 := Lib.hid hc7
      have HB7 := Lib.hid (HB6.out.trans hb7)
      have wi : IntKind.u64.wrap ((i : Int) + 1) = ((i + 1 : Nat) : Int) := by rw [IntWalk.u64_in _ (by omega)]; omega
      clear hr7 hc7 hb7 HT1 HT2 HT1a HT2a HX3 HNO HC6 HB6
      go_wp2_with (at_builtin; refine Lib.wpList_append_run _ rfl _ _ 22 22 rfl _ (.slice (some ⟨wv.heap.size, 0, none⟩) 1 1) rfl rfl _ _ HR7.out ?_)
      go_roundw
      case rel => exact ⟨i + 1, rc, l ++ [⟨⟨kb.toArray⟩, ⟨vb.toArray⟩, ver⟩], a6, c6, by omega, by first | rfl | go_num, rfl, by simp, by rw [List.length_append, List.length_singleton, HLI.out], by omega, HNA.out, HSM2.out, by simpa using HC7.out, HB7.out⟩
      case measure => simp [intOf]; omega
    · have gi : ¬ (i : Int) < (n : Int) := by omega
      have htk : tkRows n s0 = some (l, r) := by
        rw [← HAH.out, show n - i = 0 by omega]; simp [tkRows, aheadR]
      have hll : l.length ≤ 140737488351232 := by rw [HLI.out]; omega
      obtain ⟨a2, c2, e2, hR2, _⟩ := HC.out.form roT
      obtain ⟨rfl, _, rfl⟩ := Value.slice.inj e2
      have HR2 := Lib.hid hR2
      obtain ⟨ok, hok⟩ : ∃ ok, rightB l = ok := ⟨_, rfl⟩
      have HOK := Lib.hid hok
      have HT3 := Lib.hid (show takeR s = if ok then (l, r, 0) else ([], [], 3) by rw [HTR2.out, htk]; simp only; rw [hok])
      have HBW := Lib.hid (HB1.out.trans (HB.out.mono HB1.out.size))
      clear htk e2 hR2 hok
      go_wp2_with fail
      refine (rRight_any l.length c' a' l rfl hll HSM.out _ HR2.out).mono ?_
      rintro e w8 ⟨rfl, hb8⟩
      rw [HOK.out]
      have HB8 := Lib.hid (HBW.out.trans (hb8.mono HBW.out.size))
      have HR8 := Lib.hid (HR2.out.later hb8)
      clear hb8
      cases ok
      case false =>
        go_wp2_with fail
        go_ret3
        exact trP_no HT3.out HB8.out
      case true =>
        have HF := Lib.hid (show TrP w (takeR s) (.returned (.tuple #[.slice a' l.length c', .string ⟨r.toArray⟩, .int .i64 0])) w8 by
          rw [HT3.out]; exact ⟨a', c', rfl, HR8.out, HSM.out, HB8.out⟩)
        go_wp2_with fail
        go_ret3
        exact HF.out
end Go.Proofs.YtifdgjmbecilhaaDoor
