/- without, Drop: the program's. -/
import Derived.Test.YtfidgnhinllhlaaNe
namespace Go.Proofs.Ytfidgnhinllhlaa
open Go.RowKit Go.Maps

set_option maxRecDepth 100000 in
set_option maxHeartbeats 2000000 in
theorem without1_any (h b n : Nat) (x : Ho) (D : DataW Unit) (m : Tx → Bool) (hx : okX x.t) (w : World) (H : B1 w h (.map (some b))) (hown : SX w b n D) (hD : HX D m) :
    Calls Try.prog 39 #[hoV x, .pointer (some ⟨h, 0, none⟩)] w fun e w' => e = .returned (.bool (m x.t)) ∧ Below w.heap.size w w' := by
  obtain ⟨xk, ⟨xa, xi⟩, xw⟩ := x
  have BV : Below w.heap.size w (w.alloc (.cells #[.string xk, .int .u64 (xa : Nat), .int .u64 (xi : Nat), .bool xw] 45)) := (Below.refl _ _).alloc (Nat.le_refl _) _
  obtain ⟨c, _⟩ := H.later BV
  have HC := Lib.hid (hasX_any b n ⟨xa, xi⟩ D m hx _ (SX_later hown BV) hD)
  have HB := Lib.hid BV
  clear H hown hD BV
  go_enter Try.func39, Try.ntmps39
  go_wp2_with fail
  refine HC.out.mono ?_
  rintro e w2 ⟨rfl, hb2⟩
  have HB2 := Lib.hid (HB.out.trans (hb2.mono HB.out.size))
  clear hb2
  go_wp2_with fail
  go_ret
  exact ⟨rfl, HB2.out⟩
theorem without1_run (p1 : Value) (x : Ho) (w : World) : (callFunc 39 (#[.agg #[.string x.key, .int .u64 (x.t.age : Nat), .int .u64 (x.t.id : Nat), .bool x.wr]] ++ #[p1])).run Try.prog w = .ok (.enter 39 (#[.agg #[.string x.key, .int .u64 (x.t.age : Nat), .int .u64 (x.t.id : Nat), .bool x.wr]] ++ #[p1])) w := by kernel_rfl
set_option maxRecDepth 100000 in
set_option maxHeartbeats 2000000 in
theorem without_any (n c m d : Nat) (a b : Option Addr) (L : List Ho) (F : List Tx) (hn : L.length = n) (hl : n * 40 ≤ 140737488351232) (hs : smallH L) (hm : F.length = m) (hl2 : m * 16 ≤ 140737488351232) (ho : ∀ x ∈ F, okX x) (w : World) (hL : Hos w a L) (hF : Txs w b F) :
    Calls Try.prog 28 #[.slice a n c, .slice b m d] w (OwH w.heap.size w (L.filter fun x => !amT x.t F)) := by
  have HC := Lib.hid (setOf_any m d b F hm hl2 ho w hF)
  have HL := Lib.hid hL
  have HN := Lib.hid hn
  have HS := Lib.hid hs
  clear hF hL hn hm ho hs
  go_enter Try.func28, Try.ntmps28
  go_wp2_with fail
  refine HC.out.mono ?_
  rintro e w1 ⟨g, k, D, rfl, hg, hk, hS1, hD1, hb1⟩
  obtain ⟨W, hW⟩ : ∃ W, w1.alloc (.cells #[.map (some g)] 69) = W := ⟨_, rfl⟩
  obtain ⟨x5, hx5⟩ : ∃ x5, w1.heap.size = x5 := ⟨_, rfl⟩
  have BW : Below w1.heap.size w1 W := hW ▸ (Below.refl _ _).alloc (Nat.le_refl _) _
  have hbx : B1 W x5 (.map (some g)) := by rw [← hW, ← hx5]; exact ⟨by simp [go_sem], by simp⟩
  have hBW : Below w.heap.size w W := hb1.trans (BW.mono hb1.size)
  have hSW : SX W g k D := SX_later hS1 BW
  have HCL := Lib.hid (cloneH_any n c a L HN.out (by omega) W ((HL.out.later hb1).later BW))
  have HDF := Lib.hid (fun w3 (h : Below W.heap.size W w3) (a3 : Option Addr) (c3 : Nat) (h3 : CqH W.heap.size w3 (.slice a3 n c3) L) =>
    deleteH_any W.heap.size 39 #[.pointer (some ⟨x5, 0, none⟩)] (fun x => amT x.t F) n c3 a3 L HN.out (by omega) HS.out w3 h.size (without1_run _)
      (fun x w' ho hb => without1_any x5 g k x D (fun t => amT t F) ho.2 w' (hbx.later (h.trans hb)) (SX_under hSW (h.trans hb) hSW.lt) hD1) h3)
  have HBW := Lib.hid hBW
  have HW := Lib.hid hW
  have HX5 := Lib.hid hx5
  have hsz := hBW.size
  clear hbx hBW hSW hS1 hD1 hb1 BW hg hk hW hx5
  go_wp2_with fail
  try rw [HW.out]
  try rw [HX5.out]
  refine HCL.out.mono ?_
  rintro e w3 ⟨v3, rfl, hc3, hb3⟩
  obtain ⟨a3, c3, rfl, _⟩ := hc3.form hoT
  rw [HN.out] at hc3 ⊢
  have HD3 := Lib.hid (HDF.out w3 hb3 a3 c3 hc3)
  have HB3 := Lib.hid (HBW.out.trans (hb3.mono hsz))
  clear hc3 hb3
  go_wp2_with fail
  refine HD3.out.mono ?_
  rintro e w4 ⟨v4, rfl, hc4, hb4⟩
  have HF := Lib.hid (show OwH w.heap.size w (L.filter fun x => !amT x.t F) (.returned v4) w4 from ⟨v4, rfl, hc4.mono hsz, HB3.out.trans (hb4.mono hsz)⟩)
  clear hc4 hb4
  go_wp2_with fail
  go_ret
  exact HF.out
theorem dropH_one (t : Tx) (L : List Ho) : (L.filter fun x => !amT x.t [t]) = dropH t L := by
  unfold dropH
  congr 1
  funext x
  simp only [amT, Bool.or_false]
  by_cases h : x.t = t
  · rw [decide_eq_true h, decide_eq_true h.symm]
  · rw [decide_eq_false h, decide_eq_false (fun e => h e.symm)]
set_option maxRecDepth 100000 in
set_option maxHeartbeats 2000000 in
theorem pDrop_any (n c : Nat) (a : Option Addr) (L : List Ho) (t : Tx) (hn : L.length = n) (hl : n * 40 ≤ 140737488351232) (hs : smallH L) (ho : okX t) (w : World) (hL : Hos w a L) :
    Calls Try.prog 14 #[.slice a n c, txV t] w (HoP w (dropH t L)) := by
  obtain ⟨ta, ti⟩ := t
  obtain ⟨W, hW⟩ : ∃ W, w.alloc (.cells #[.int .u64 (ta : Nat), .int .u64 (ti : Nat)] 25) = W := ⟨_, rfl⟩
  obtain ⟨W2, hW2⟩ : ∃ W2, W.alloc (.cells #[.int .u64 (ta : Nat), .int .u64 (ti : Nat)] 25) = W2 := ⟨_, rfl⟩
  obtain ⟨B1', _⟩ := txbox hW
  obtain ⟨B2, _⟩ := txbox hW2
  have hB2 : Below w.heap.size w W2 := B1'.trans (B2.mono B1'.size)
  have hF : Txs W2 (some ⟨W.heap.size, 0, none⟩) [⟨ta, ti⟩] := by subst hW2; exact rw_one (f := txC) W rfl (⟨ta, ti⟩ : Tx) rfl _
  have HC := Lib.hid (without_any n c 1 1 a (some ⟨W.heap.size, 0, none⟩) L [⟨ta, ti⟩] hn hl hs rfl (by decide) (fun x hx => by obtain rfl : x = ⟨ta, ti⟩ := by simpa using hx
                                                                                                                                exact ho) W2 (hL.later hB2) hF)
  rw [dropH_one, show W.heap.size = w.heap.size + 1 by rw [← hW]; simp] at HC
  obtain ⟨M, hM⟩ : ∃ M, dropH ⟨ta, ti⟩ L = M := ⟨_, rfl⟩
  rw [hM] at HC ⊢
  have HB := Lib.hid hB2
  have HW := Lib.hid hW
  have HW2 := Lib.hid hW2
  clear hM hF hB2 B1' B2 hW hW2 hL hn hs ho
  go_enter Try.func14, Try.ntmps14
  go_wp2_with fail
  try rw [HW.out]
  try rw [HW2.out]
  refine HC.out.mono ?_
  rintro e w2 ⟨v, rfl, hc, hb2⟩
  obtain ⟨a3, c3, rfl, hR, _, h1, h2⟩ := hc.form hoT
  have HF := Lib.hid (show HoP w M (.returned (.slice a3 M.length c3)) w2 from ⟨a3, c3, rfl, hR, h1, h2, HB.out.trans (hb2.mono HB.out.size)⟩)
  clear hc hR h1 h2 hb2
  go_wp2_with fail
  go_ret
  exact HF.out
end Go.Proofs.Ytfidgnhinllhlaa
