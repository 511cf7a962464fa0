/- One put: the program's Do. -/
import Derived.Test.YtifdgjmbecilhaaDoorHg
import Derived.Test.YtifdgjmbecilhaaDoorHj
import Derived.Test.YtifdgjmbecilhaaDoorUh
namespace Go.Proofs.YtifdgjmbecilhaaDoor
open Go.RowKit

set_option maxRecDepth 100000 in
set_option maxHeartbeats 4000000 in
theorem pDo_any (n c ver : Nat) (a : Option Addr) (L : List Ro) (p : Pu) (hn : L.length = n) (hl : n * 40 ≤ 140737488351232) (hpk : p.key.size ≤ 140737488351232) (hpv : p.val.size ≤ 140737488351232) (w : World) (hM : Ros w a L) :
    Calls Tryd.prog 17 #[.slice a n c, puV p, .int .u64 ver] w (AlP w (doR L p ver)) := by
  have HN := Lib.hid hn
  obtain ⟨pk, pv, pg⟩ := p
  simp only at hpk hpv
  obtain ⟨W, hW⟩ : ∃ W, w.alloc (.cells #[.string pk, .string pv, .bool pg] 37) = W := ⟨_, rfl⟩
  obtain ⟨x4, hx4⟩ : ∃ x4, w.heap.size = x4 := ⟨_, rfl⟩
  have HR : B3 W x4 (.string pk) (.string pv) (.bool pg) := hW ▸ B3.new hx4.symm _ _ _ _
  have B1 : Below w.heap.size w W := hW ▸ (Below.refl _ _).alloc (Nat.le_refl _) _
  obtain ⟨W2, hW2⟩ : ∃ W2, W.alloc (.cells #[.string pk, .string pv, .bool pg] 37) = W2 := ⟨_, rfl⟩
  obtain ⟨x10, hx10⟩ : ∃ x10, W.heap.size = x10 := ⟨_, rfl⟩
  have B2 : Below W.heap.size W W2 := hW2 ▸ (Below.refl _ _).alloc (Nat.le_refl _) _
  have HP1 := Lib.hid (show Pus W2 (some ⟨x10, 0, none⟩) [⟨pk, pv, pg⟩] from by rw [← hW2]; exact rw_one (f := puC) _ hx10.symm (⟨pk, pv, pg⟩ : Pu) rfl 37)
  have HB2 := Lib.hid (B1.trans (B2.mono B1.size))
  have HR2 := Lib.hid (HR.later B2)
  have HM2 := Lib.hid ((hM.later B1).later B2)
  obtain ⟨f, hf⟩ : ∃ f, fitsX [⟨pk, pv, pg⟩] = f := ⟨_, rfl⟩
  have HFX := Lib.hid (fun w1 h1 => pFits_any 1 1 (some ⟨x10, 0, none⟩) [⟨pk, pv, pg⟩] rfl (by omega) (fun x hx => by simp only [List.mem_singleton] at hx; subst hx; exact ⟨hpk, hpv⟩) w1 h1)
  rw [hf] at HFX
  have hfin : ∀ (M : List Ro) (k : Nat), doR L ⟨pk, pv, pg⟩ ver = (M, k) → ∀ (a : Option Addr) (c : Nat) (w' : World), Ros w' a M → Below w.heap.size w w' → AlP w (doR L ⟨pk, pv, pg⟩ ver) (.returned (.tuple #[.slice a M.length c, .int .i64 (k : Nat)])) w' := fun M k e a c w' h1 h2 => by rw [e]; exact ⟨a, c, rfl, h1, h2⟩
  have HF := Lib.hid hfin
  obtain ⟨c0, c1, c2, lt⟩ := HR
  clear hM B1 B2 hn hfin
  unfold puV
  by_cases hf0 : f = 0
  case neg =>
    have HE := Lib.hid (fun w' h => HF.out [] f (by unfold doR; rw [hf, if_pos hf0]) none 0 w' (fun j x hx => by simp at hx) h)
    have g : ((f : Int) == 0) = false := by simp; omega
    have g2 : ((f : Int) != 0) = true := by simp; omega
    clear hf hf0
    go_enter Tryd.func17, Tryd.ntmps17
    go_wp2_with fail
    refine (HFX.out _ HP1.out).mono ?_
    rintro e w3 ⟨rfl, hb3⟩
    have HB3 := Lib.hid (HB2.out.trans (hb3.mono HB2.out.size))
    clear hb3
    go_wp2_with fail
    go_ret2
    exact HE.out _ HB3.out
  subst hf0
  have HD := Lib.hid (show doR L ⟨pk, pv, pg⟩ ver = if pg then (delR pk L, 0) else withR L ⟨pk, pv, ver⟩ by unfold doR; rw [hf, if_neg (by omega)]; rfl)
  clear hf
  go_enter Tryd.func17, Tryd.ntmps17
  go_wp2_with fail
  refine (HFX.out _ HP1.out).mono ?_
  rintro e w3 ⟨rfl, hb3⟩
  have HB3 := Lib.hid (HB2.out.trans (hb3.mono HB2.out.size))
  have HM3 := Lib.hid (HM2.out.later hb3)
  obtain ⟨e0, e1, e2, _⟩ := HR2.out.later hb3
  clear hb3 c0 c1 c2
  cases pg
  · go_wp2_with fail
    refine (with_any ⟨pk, pv, ver⟩ n c a L HN.out hl w3 HM3.out).mono ?_
    rintro e w4 ⟨a4, c4, rfl, hR4, _, _, _, hb4⟩
    have HE := Lib.hid (HF.out (withR L ⟨pk, pv, ver⟩).1 (withR L ⟨pk, pv, ver⟩).2 (by rw [HD.out]; rfl) a4 c4 w4 hR4 (HB3.out.trans (hb4.mono HB3.out.size)))
    clear hR4 hb4 HF HD
    generalize (withR L ⟨pk, pv, ver⟩).1.length = m4 at *
    generalize (withR L ⟨pk, pv, ver⟩).2 = k4 at *
    go_wp2_with fail
    go_ret2
    exact HE.out
  · go_wp2_with fail
    refine (without_any pk n c a L HN.out hl w3 HM3.out).mono ?_
    rintro e w4 ⟨a4, c4, rfl, hR4, _, _, _, hb4⟩
    have HE := Lib.hid (HF.out (delR pk L) 0 (by rw [HD.out]; rfl) a4 c4 w4 hR4 (HB3.out.trans (hb4.mono HB3.out.size)))
    clear hR4 hb4 HF HD
    generalize (delR pk L).length = m4 at *
    go_wp2_with fail
    go_ret2
    exact HE.out
end Go.Proofs.YtifdgjmbecilhaaDoor
