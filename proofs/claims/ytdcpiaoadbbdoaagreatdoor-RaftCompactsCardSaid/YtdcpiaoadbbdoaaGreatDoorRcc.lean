/- An entry's configuration, a snapshot's: the document's. -/
import Derived.Test.YtdcpiaoadbbdoaaGreatDoorRb
import Derived.Test.YtdcpiaoadbbdoaaGreatDoorRcd
import Derived.Test.YtdcpiaoadbbdoaaGreatDoorQk
import Derived.Test.YtdcpiaoadbbdoaaGreatDoorHn
set_option maxRecDepth 100000
set_option maxHeartbeats 16000000
namespace Go.Proofs.YtdcpiaoadbbdoaaGreatDoor
open Go.RowKit

theorem rApp_any (s : List UInt8) (hs : s.length ≤ 140737488351232) (w : World) : Calls Tryz.prog 100 #[.string ⟨s.toArray⟩] w (ApP s w) := by
 have hno : appG s = none → ∀ w', Below w.heap.size w w' → ApP s w (.returned (.tuple #[.agg #[.slice none 0 0, .slice none 0 0], .string ⟨#[]⟩, .bool false])) w' := fun h w' hb => ⟨⟨[], []⟩, ⟨none, 0⟩, ⟨none, 0⟩, [], false, rfl, h, Us.nil _ _, Us.nil _ _, fun h => absurd h (Nat.lt_irrefl _), fun h => absurd h (Nat.lt_irrefl _), hb⟩
 have HNO := hI_ hno
 clear hno
 obtain ⟨W, hW⟩ : ∃ W, w.alloc (.cells #[.slice none 0 0, .slice none 0 0] 25) = W := ⟨_, rfl⟩
 have HR : Bk W w.heap.size 25 [.slice none 0 0, .slice none 0 0] := hW ▸ Bk.new w #[.slice none 0 0, .slice none 0 0] _
 have HB : Below w.heap.size w W := hW ▸ (Below.refl _ _).alloc (Nat.le_refl _) _
 have hz := hI_ (show w.heap.size < W.heap.size from HR.lt)
 go_enter Tryz.func100, Tryz.ntmps100
 go_wp2_with fail
 refine (rTakeText_any s hs _).mono ?_
 rintro e w1 ⟨⟨b, r, k, rfl, h1, h2, h3, h4⟩, hb1⟩
 replace HB := HB.trans (hb1.mono HB.size)
 replace HR := HR.later hb1
 have hz1 := hI_ (show w.heap.size < w1.heap.size from HR.lt)
 clear hb1
 by_cases h0 : k = 0
 case neg =>
  have HA := hI_ (show appG s = none by unfold appG; rw [h2 h0])
  have g : ((k : Int) == 0) = false := by simp; omega
  clear h1 h2 h0
  go_wp2_with (first
   | (refine sBk rfl _ _ rfl rfl rfl confT HR rfl rfl rfl ?_; intro w' hk hg; replace HB := bGr HB hg HB.size (Nat.le_refl _); replace HR := hk; clear hk hg))
  refine bodyPost_ret (v := (.tuple #[.agg #[.slice none 0 0, .slice none 0 0], .string ⟨#[]⟩, .bool false])) (by rw [results_bk_tmp2 Tryz.results100 _ rfl confT HR rfl]; rfl) rfl ?_
  exact HNO.out HA.out _ HB
 subst h0
 have HA := hI_ (show appG s = if (tkG b).2 = 0 then some (⟨(tkG b).1.1, (tkG b).1.2⟩, r) else none by unfold appG; rw [h1 rfl])
 clear h1 h2
 go_wp2_with fail
 refine (rTake_any b (by omega) _).mono ?_
 rintro e w2 ⟨a, c, a2, c2, rfl, HV, HL, h3, h4, hb2⟩
 replace HB := HB.trans (hb2.mono HB.size)
 replace HR := HR.later hb2
 clear hb2
 obtain ⟨w3, y3, hw3, hy3, B3, H3, Z3⟩ := bk_new w2 #[.slice a (tkG b).1.1.length c, .slice a2 (tkG b).1.2.length c2] 25
 have B3' : Below w2.heap.size w2 w3 := hy3 ▸ B3
 have h3' := hI_ h3
 have h4' := hI_ h4
 replace HB := HB.trans (B3'.mono HB.size)
 replace HR := HR.later B3'
 replace HV := HV.later B3'
 replace HL := HL.later B3'
 clear B3 B3' h3 h4
 obtain ⟨k2, hk2⟩ : ∃ k2, (tkG b).2 = k2 := ⟨_, rfl⟩
 rw [hk2] at HA ⊢
 by_cases h0 : k2 = 0
 case neg =>
  have HA2 := hI_ (show appG s = none by rw [HA.out, if_neg h0])
  have g : (k2 == 0) = false := by simp; omega
  clear h0 hk2 HV HL
  go_wp2_with (first
   | (refine sBk rfl _ _ rfl rfl rfl confT HR rfl rfl rfl ?_; intro w' hk hg; replace HB := bGr HB hg HB.size (Nat.le_refl _); replace HR := hk; clear hk hg))
  refine bodyPost_ret (v := (.tuple #[.agg #[.slice none 0 0, .slice none 0 0], .string ⟨#[]⟩, .bool false])) (by rw [results_bk_tmp2 Tryz.results100 _ rfl confT HR rfl]; rfl) rfl ?_
  exact HNO.out HA2.out _ HB
 subst h0
 have HA2 := hI_ (show appG s = some (⟨(tkG b).1.1, (tkG b).1.2⟩, r) by rw [HA.out, if_pos rfl])
 clear hk2
 go_wp2_with (first
  | (refine lBk rfl _ rfl rfl confT (by assumption) rfl ?_)
  | (refine sBk rfl _ _ rfl rfl rfl confT HR rfl rfl rfl ?_; intro w' hk hg; replace HB := bGr HB hg HB.size (Nat.le_refl _); replace HV := HV.grown hg (fun h q e => by have := h3'.out h q e; have := hz1.out; omega); replace HL := HL.grown hg (fun h q e => by have := h4'.out h q e; have := hz1.out; omega); replace HR := hk; clear hk hg))
 refine bodyPost_ret (v := (.tuple #[.agg #[.slice a (tkG b).1.1.length c, .slice a2 (tkG b).1.2.length c2], .string ⟨r.toArray⟩, .bool true])) (by rw [results_bk_tmp2 Tryz.results100 _ rfl confT HR rfl]; rfl) rfl ?_
 exact ⟨⟨(tkG b).1.1, (tkG b).1.2⟩, ⟨a, c⟩, ⟨a2, c2⟩, r, true, rfl, HA2.out, HV, HL, fun h q e => by have := h3'.out h q e; have := hz1.out; omega, fun h q e => by have := h4'.out h q e; have := hz1.out; omega, HB⟩
def ToP (o : Option Cf) (w : World) (e : Ending) (w' : World) : Prop := ∃ (c : Cf) (s1 s2 : Sa) (b : Bool), e = .returned (.tuple #[.agg #[.slice s1.a c.V.length s1.c, .slice s2.a c.L.length s2.c], .bool b]) ∧ (o = if b then some c else none) ∧ Us w' s1.a c.V ∧ Us w' s2.a c.L ∧ (0 < c.V.length → ∀ q, s1.a = some q → w.heap.size ≤ q.block) ∧ (0 < c.L.length → ∀ q, s2.a = some q → w.heap.size ≤ q.block) ∧ Below w.heap.size w w'
theorem rTold_any (t : Nat) (s : List UInt8) (hs : s.length ≤ 140737488351232) (w : World) : Calls Tryz.prog 32 #[.agg #[.int .u64 t, .string ⟨s.toArray⟩]] w (ToP (toldB s) w) := by
 have hno : toldB s = none → ∀ w', Below w.heap.size w w' → ToP (toldB s) w (.returned (.tuple #[.agg #[.slice none 0 0, .slice none 0 0], .bool false])) w' := fun h w' hb => ⟨⟨[], []⟩, ⟨none, 0⟩, ⟨none, 0⟩, false, rfl, h, Us.nil _ _, Us.nil _ _, fun h => absurd h (Nat.lt_irrefl _), fun h => absurd h (Nat.lt_irrefl _), hb⟩
 have HNO := hI_ hno
 clear hno
 obtain ⟨W0, y0, hW0, hy0, B0, HE, Z0⟩ := bk_new w #[.int .u64 t, .string ⟨s.toArray⟩] 65
 obtain ⟨W, y, hW, hy, B1, HR, Z1⟩ := bk_new W0 #[.slice none 0 0, .slice none 0 0] 25
 have B1' : Below W0.heap.size W0 W := hy ▸ B1
 have HB : Below w.heap.size w W := (hy0 ▸ B0 : Below w.heap.size w W0).trans (B1'.mono (by have := Z0.out; omega))
 replace HE := HE.later B1'
 have hz := hI_ (show w.heap.size < y by have := Z0.out; omega)
 have hsz : (ByteArray.mk s.toArray).size = s.length := size_mk s
 have e1 := HE.bx.c 1 _ rfl
 clear B0 B1 B1'
 cases s with
 | nil =>
  have HN := hI_ (show toldB ([] : List UInt8) = none from rfl)
  go_enter Tryz.func32, Tryz.ntmps32
  go_wp2_with (first
   | (refine sBk rfl _ _ rfl rfl rfl confT HR rfl rfl rfl ?_; intro w' hk hg; replace HB := bGr HB hg HB.size (by have := hz.out; omega); replace HR := hk; clear hk hg))
  refine bodyPost_ret (v := (.tuple #[.agg #[.slice none 0 0, .slice none 0 0], .bool false])) (by rw [rBt Tryz.results32 _ rfl confT HR rfl]; rfl) rfl ?_
  exact HNO.out HN.out _ HB
 | cons c r =>
  have HTO := hI_ (show toldB (c :: r) = if c.toNat = 99 then (if (tkG r).2 = 0 then some ⟨(tkG r).1.1, (tkG r).1.2⟩ else none) else none from rfl)
  have hl : (ByteArray.mk (c :: r).toArray).data.toList = c :: r := rfl
  generalize (ByteArray.mk (c :: r).toArray) = S at *
  obtain ⟨oo, hto⟩ : ∃ oo, toldB (c :: r) = oo := ⟨_, rfl⟩
  rw [hto] at HNO HTO ⊢
  simp only [List.length_cons] at hsz hs
  obtain ⟨x0, hx0, a0, b0⟩ : ∃ x : Int, (c.toNat : Int) = x ∧ 0 ≤ x ∧ x < 256 := ⟨_, rfl, by omega, by have := c.toNat_lt; omega⟩
  have hs1 : 1 ≤ S.size := by omega
  have e0 : ((S[0]'hs1).toNat : Int) = x0 := by rw [getAt hl 0 c rfl hs1]; exact hx0
  have X0 := hI_ hx0
  have ED := hI_ (show S.extract 1 S.size = ⟨r.toArray⟩ from extract_drop hl 1)
  have i1 : (1 : Int) ≤ (S.size : Int) := by omega
  have g0 : ((S.size : Int) == 0) = false := by rw [beq_eq_false_iff_ne]; omega
  have hsz2 : S.size = r.length + 1 := hsz
  have HSZ := hI_ hsz2
  clear hx0 hl hto hsz hsz2
  by_cases hc : x0 = 99
  case neg =>
   have g1 : (x0 == 99) = false := by simpa using hc
   have g1' : (x0 != 99) = true := by simpa using hc
   have HN := hI_ (show oo = none by rw [HTO.out, if_neg (by have := X0.out; omega)])
   clear hc
   go_enter Tryz.func32, Tryz.ntmps32
   go_wp2_with (first
    | (refine sBk rfl _ _ rfl rfl rfl confT HR rfl rfl rfl ?_; intro w' hk hg; replace HB := bGr HB hg HB.size (by have := hz.out; omega); replace HR := hk; clear hk hg))
   refine bodyPost_ret (v := (.tuple #[.agg #[.slice none 0 0, .slice none 0 0], .bool false])) (by rw [rBt Tryz.results32 _ rfl confT HR rfl]; rfl) rfl ?_
   exact HNO.out HN.out _ HB
  subst hc
  have HT := hI_ (show oo = if (tkG r).2 = 0 then some ⟨(tkG r).1.1, (tkG r).1.2⟩ else none by rw [HTO.out, if_pos (by have := X0.out; omega)])
  go_enter Tryz.func32, Tryz.ntmps32
  go_wp2_with fail
  rw [ED.out]
  refine (rTake_any r (by omega) _).mono ?_
  rintro e w2 ⟨a, k, a2, k2, rfl, HV, HL, h3, h4, hb2⟩
  have HBs := hI_ HB.size
  replace HB := HB.trans (hb2.mono HB.size)
  replace HR := HR.later hb2
  obtain ⟨w3, y3, hw3, hy3, B3, H3, Z3⟩ := bk_new w2 #[.slice a (tkG r).1.1.length k, .slice a2 (tkG r).1.2.length k2] 25
  have B3' : Below w2.heap.size w2 w3 := hy3 ▸ B3
  have hyW := hI_ (show y < W.heap.size by have := Z1.out; omega)
  have h3' := hI_ h3
  have h4' := hI_ h4
  replace HB := HB.trans (B3'.mono HB.size)
  replace HR := HR.later B3'
  replace HV := HV.later B3'
  replace HL := HL.later B3'
  clear hb2 B3 B3' h3 h4 HE e1
  obtain ⟨x, hx⟩ : ∃ x, (tkG r).2 = x := ⟨_, rfl⟩
  rw [hx] at HT ⊢
  obtain ⟨b, hb⟩ : ∃ b, (x == 0) = b := ⟨_, rfl⟩
  have HT2 := hI_ (show oo = if b then some ⟨(tkG r).1.1, (tkG r).1.2⟩ else none by rw [HT.out, ← hb]; by_cases h : x = 0 <;> simp [h])
  clear hx
  go_wp2_with (first
   | (refine lBk rfl _ rfl rfl confT H3 rfl ?_)
   | (refine sBk rfl _ _ rfl rfl rfl confT HR rfl rfl rfl ?_; intro w' hk hg; replace HB := bGr HB hg HB.size (by have := hz.out; omega); replace HV := HV.grown hg (fun h q e => by have := h3'.out h q e; have := hyW.out; omega); replace HL := HL.grown hg (fun h q e => by have := h4'.out h q e; have := hyW.out; omega); replace HR := hk; clear hk hg))
  refine bodyPost_ret (v := (.tuple #[.agg #[.slice a (tkG r).1.1.length k, .slice a2 (tkG r).1.2.length k2], .bool b])) (by rw [rBt Tryz.results32 _ rfl confT HR rfl]; first | rfl | simp [hb]) rfl ?_
  exact ⟨⟨(tkG r).1.1, (tkG r).1.2⟩, ⟨a, k⟩, ⟨a2, k2⟩, b, rfl, HT2.out, HV, HL, fun h q e => by have := h3'.out h q e; have := HBs.out; omega, fun h q e => by have := h4'.out h q e; have := HBs.out; omega, HB⟩

theorem lastC_app (A B : List En) : lastC (A ++ B) = match lastC B with | some c => some c | none => lastC A := by
 simp only [lastC, List.reverse_append, List.findSome?_append]
 cases B.reverse.findSome? toldE <;> rfl
theorem lastC_at {L : List En} {k : Nat} {x : En} (hx : L[k]? = some x) (hn : lastC (L.drop (k + 1)) = none) : lastC L = match toldE x with | some c => some c | none => lastC (L.take k) := by
 have e : L = (L.take k ++ [x]) ++ L.drop (k + 1) := by
  have h : L.take (k + 1) = L.take k ++ [x] := by rw [List.take_add_one, hx]; rfl
  rw [← h, List.take_append_drop]
 have h1 := lastC_app (L.take k ++ [x]) (L.drop (k + 1))
 rw [hn, lastC_snoc, ← e] at h1
 exact h1
theorem lastC_drop {L : List En} {k : Nat} {x : En} (hx : L[k]? = some x) (hn : lastC (L.drop (k + 1)) = none) (ht : toldE x = none) : lastC (L.drop k) = none := by
 have hk := (List.getElem?_eq_some_iff.1 hx).1
 have e : L.drop k = [x] ++ L.drop (k + 1) := by
  rw [List.drop_eq_getElem_cons hk, (List.getElem?_eq_some_iff.1 hx).2]; rfl
 rw [e, lastC_app, hn]
 show lastC ([] ++ [x]) = none
 rw [lastC_snoc, ht]; rfl
theorem rConfAt_any (ci : Cf) (s1 s2 es : Sa) (g : Lg) (many : Nat) (hmn : many ≤ g.L.length) (hl : g.L.length ≤ 140737488351232) (hD : ∀ x ∈ g.L, x.d.size ≤ 140737488351232) (hsn : g.snap.size ≤ 140737488351232) (w : World) (hV : Us w s1.a ci.V) (hU : Us w s2.a ci.L) (hE : Ents w es.a g.L) :
 Calls Tryz.prog 52 #[.agg #[.slice s1.a ci.V.length s1.c, .slice s2.a ci.L.length s2.c], .agg #[.int .u64 g.base, .int .u64 g.bt, .string g.snap, .slice es.a g.L.length es.c], .int .i64 (many : Int)] w (CfQ w ci s1 s2 (confA ci { g with L := g.L.take many })) := by
 obtain ⟨gb, gt, gs, gL⟩ := g
 obtain ⟨s, rfl⟩ : ∃ s : List UInt8, gs = ⟨s.toArray⟩ := ⟨gs.data.toList, by cases gs; simp⟩
 simp only at hmn hl hD hsn hE ⊢
 obtain ⟨W0, y0, hW0, hy0, B0, H0, Z0⟩ := bk_new w #[.slice s1.a ci.V.length s1.c, .slice s2.a ci.L.length s2.c] 25
 obtain ⟨W1, y1, hW1, hy1, B1, HL, Z1⟩ := bk_new W0 #[.int .u64 gb, .int .u64 gt, .string ⟨s.toArray⟩, .slice es.a gL.length es.c] 28
 obtain ⟨W2, y2, hW2, hy2e, B2, HR, Z2⟩ := bk_new W1 #[.slice none 0 0, .slice none 0 0] 25
 have hz0 := Z0.out
 have hz1 := Z1.out
 have hz2 := Z2.out
 have HB : Below w.heap.size w W2 := (hy0 ▸ B0).trans ((B1.mono (by omega)).trans (B2.mono (by omega)))
 have HI : Bk W2 y0 25 [.slice s1.a ci.V.length s1.c, .slice s2.a ci.L.length s2.c] := (H0.later (hy1 ▸ B1)).later (hy2e ▸ B2)
 replace HL := HL.later (hy2e ▸ B2)
 have hy2 := hI_ (show w.heap.size ≤ y2 ∧ y0 < y2 ∧ y1 < y2 ∧ W2.heap.size = y2 + 1 by omega)
 have HVV := hI_ (show ∀ w1, Below w.heap.size w w1 → Us w1 s1.a ci.V from fun w1 h => hV.later h)
 have HUU := hI_ (show ∀ w1, Below w.heap.size w w1 → Us w1 s2.a ci.L from fun w1 h => hU.later h)
 have HEE := hI_ (show ∀ w1, Below w.heap.size w w1 → Ents w1 es.a gL from fun w1 h => hE.later h)
 have HNV := hI_ (us_elder hV (x := y2) (by omega))
 have HNU := hI_ (us_elder hU (x := y2) (by omega))
 have hss : s.length ≤ 140737488351232 := by have := str_size s; omega
 have HCA := hI_ (show confA ci ⟨gb, gt, ⟨s.toArray⟩, gL.take many⟩ = match lastC (gL.take many) with | some c => c | none => if 0 < gb then (match appG s with | some r => r.1 | none => ci) else ci from rfl)
 generalize confA ci ⟨gb, gt, ⟨s.toArray⟩, gL.take many⟩ = CC at *
 obtain ⟨M, hM⟩ : ∃ M, gL.take many = M := ⟨_, rfl⟩
 have hMl : M.length = many := by rw [← hM, List.length_take]; omega
 have HM := hI_ hM
 have HML := hI_ hMl
 have HDD := hI_ hD
 rw [hM] at HCA
 have hw : IntKind.i64.wrap ((many : Int) - 1) = (many : Int) - 1 := IntWalk.i64_in _ (by omega)
 clear hV hU hE B0 B1 B2 H0 hz0 hz1 hz2 hsn hM hMl hD
 go_enter Tryz.func52, Tryz.ntmps52
 go_wp2_with fail
 go_loopw [7, 8, 9] (fun i _ _ wr => ∃ k : Nat, k ≤ many ∧ i = .int .i64 ((k : Int) - 1) ∧ lastC (M.drop k) = none ∧ Bk wr y0 25 [.slice s1.a ci.V.length s1.c, .slice s2.a ci.L.length s2.c] ∧ Bk wr y1 28 [.int .u64 gb, .int .u64 gt, .string ⟨s.toArray⟩, .slice es.a gL.length es.c] ∧ Bk wr y2 25 [.slice none 0 0, .slice none 0 0] ∧ Below w.heap.size w wr) (fun i _ _ _ => (intOf i + 1).toNat)
 case atStart => exact ⟨many, Nat.le_refl _, rfl, by rw [← HML.out, List.drop_length, lastC_nil], HI, HL, HR, HB⟩
 case round =>
  clear HI HL HR HB hw
  obtain ⟨k, hk, rfl, hn, HI, HL, HR, HB⟩ := hrel
  have HN := hI_ hn
  clear hn
  rcases Nat.eq_zero_or_pos k with h0 | h0
  case inr =>
   obtain ⟨j, rfl⟩ : ∃ j, k = j + 1 := ⟨k - 1, by omega⟩
   rw [show (((j + 1 : Nat) : Int) - 1) = (j : Int) by omega]
   obtain ⟨x, hx⟩ : ∃ x, M[j]? = some x := ⟨_, List.getElem?_eq_getElem (by have := HML.out; omega)⟩
   have hgx : gL[j]? = some x := by rw [← HM.out, List.getElem?_take_of_lt (by omega)] at hx; exact hx
   obtain ⟨t, d⟩ := x
   obtain ⟨ds, rfl⟩ : ∃ ds : List UInt8, d = ⟨ds.toArray⟩ := ⟨d.data.toList, by cases d; simp⟩
   have hds : ds.length ≤ 140737488351232 := by have := HDD.out _ (List.mem_of_getElem? hgx); have := str_size ds; simp only at *; omega
   obtain ⟨b, off, e, hb, q0, q1⟩ := HEE.out _ HB j _ hgx
   have l3 := HL.bx.c 3 _ rfl
   rw [e] at l3
   have i0 : (0 : Int) ≤ (j : Int) := by omega
   have i1 : (j : Int) < (gL.length : Int) := by have := (List.getElem?_eq_some_iff.1 hgx).1; omega
   have hwj : IntKind.i64.wrap ((j : Int) - 1) = (j : Int) - 1 := IntWalk.i64_in _ (by omega)
   have HX := hI_ hx
   have HTO := hI_ (show toldE ⟨t, ⟨ds.toArray⟩⟩ = toldB ds from rfl)
   simp only at q0 q1
   clear hx hgx e hb
   go_wp2_with fail
   refine (rTold_any t ds hds _).mono ?_
   rintro e w3 ⟨c, t1, t2, bb, rfl, hc, hV3, hU3, h3, h4, hb⟩
   obtain ⟨w4, y4, hw4, hy4, B4, H4, Z4⟩ := bk_new w3 #[.slice t1.a c.V.length t1.c, .slice t2.a c.L.length t2.c] 25
   have B4' : Below w3.heap.size w3 w4 := hy4 ▸ B4
   have HZ3 := hI_ (show y2 < wr.heap.size from HR.lt)
   have HBs := hI_ HB.size
   replace HB := (HB.trans (hb.mono HB.size)).trans (B4'.mono (HB.trans (hb.mono HB.size)).size)
   replace HR := (HR.later hb).later B4'
   replace HL := (HL.later hb).later B4'
   replace HI := (HI.later hb).later B4'
   replace hV3 := hV3.later B4'
   replace hU3 := hU3.later B4'
   have HC := hI_ hc
   have G3 := hI_ h3
   have G4 := hI_ h4
   clear hb hc B4 B4' h3 h4 l3 q0 q1
   cases bb
   case true =>
    have HC2 := hI_ (show CC = c by
     have h := lastC_at HX.out HN.out
     rw [HTO.out, HC.out] at h
     rw [HCA.out, h]; rfl)
    go_wp2_with (first
     | (refine lBk rfl _ rfl rfl confT H4 rfl ?_)
     | (refine sBk rfl _ _ rfl rfl rfl confT HR rfl rfl rfl ?_; intro w' hk hg; replace HB := bGr HB hg HB.size (by have := hy2.out; omega); replace hV3 := hV3.grown hg (fun h q e => by have := G3.out h q e; have := HZ3.out; omega); replace hU3 := hU3.grown hg (fun h q e => by have := G4.out h q e; have := HZ3.out; omega); replace HR := hk; clear hk hg))
    refine bodyPost_ret (v := .agg #[.slice t1.a c.V.length t1.c, .slice t2.a c.L.length t2.c]) (by rw [results_bk Tryz.results52 _ rfl confT HR rfl]) rfl ?_
    exact ⟨t1, t2, by rw [HC2.out], by rw [HC2.out]; exact hV3, by rw [HC2.out]; exact hU3, .inr ⟨by rw [HC2.out]; exact fun h q e => by have := G3.out h q e; have := HBs.out; omega, by rw [HC2.out]; exact fun h q e => by have := G4.out h q e; have := HBs.out; omega⟩, HB⟩
   case false =>
    have HN2 := hI_ (lastC_drop HX.out HN.out (by rw [HTO.out]; exact HC.out))
    clear hV3 hU3 H4
    go_wp2_with fail
    go_roundw
    case rel => exact ⟨j, by omega, by go_num, HN2.out, HI, HL, HR, HB⟩
    case measure => simp [intOf]
  case inl =>
   subst h0
   have hC : lastC M = none := by have := HN.out; rwa [List.drop_zero] at this
   have HC : Hid (lastC M = if false then some (⟨[], []⟩ : Cf) else none) := hI_ hC
   have HV := HVV.out _ HB
   have HU := HUU.out _ HB
   have i0 : ¬ (0 : Int) ≤ ((0 : Nat) : Int) - 1 := by omega
   have l2 := HL.bx.c 2 _ rfl
   have l0 := HL.bx.c 0 _ rfl
   clear hC
   by_cases hg0 : 0 < gb
   case neg =>
    have HC2 := hI_ (show CC = ci by rw [HCA.out, HC.out]; show (if 0 < gb then _ else ci) = ci; rw [if_neg hg0])
    have g1 : ¬ (0 : Int) < (gb : Int) := by omega
    go_wp2_with (first
     | (refine lBk rfl _ rfl rfl confT HI rfl ?_)
     | (refine sBk rfl _ _ rfl rfl rfl confT HR rfl rfl rfl ?_; intro w' hk hg; replace HB := bGr HB hg HB.size (by have := hy2.out; omega); replace HV := HV.grown hg (HNV.out); replace HU := HU.grown hg (HNU.out); replace HR := hk; clear hk hg))
    refine bodyPost_ret (v := .agg #[.slice s1.a ci.V.length s1.c, .slice s2.a ci.L.length s2.c]) (by rw [results_bk Tryz.results52 _ rfl confT HR rfl]) rfl ?_
    exact ⟨s1, s2, by rw [HC2.out], by rw [HC2.out]; exact HV, by rw [HC2.out]; exact HU, .inl ⟨HC2.out, rfl, rfl⟩, HB⟩
   have g1 : (0 : Int) < (gb : Int) := by omega
   go_wp2_with fail
   refine (rApp_any s hss _).mono ?_
   rintro e w5 ⟨c5, u1, u2, r, o, rfl, ho, hV5, hU5, h5, h6, hb⟩
   obtain ⟨w6, y6, hw6, hy6, B6, H6, Z6⟩ := bk_new w5 #[.slice u1.a c5.V.length u1.c, .slice u2.a c5.L.length u2.c] 25
   have B6' : Below w5.heap.size w5 w6 := hy6 ▸ B6
   have HZ5 := hI_ (show y2 < wr.heap.size from HR.lt)
   have HBs := hI_ HB.size
   replace HB := (HB.trans (hb.mono HB.size)).trans (B6'.mono (HB.trans (hb.mono HB.size)).size)
   replace HR := (HR.later hb).later B6'
   replace HI := (HI.later hb).later B6'
   replace HV := (HV.later hb).later B6'
   replace HU := (HU.later hb).later B6'
   replace hV5 := hV5.later B6'
   replace hU5 := hU5.later B6'
   have HO := hI_ ho
   have G5 := hI_ h5
   have G6 := hI_ h6
   clear hb ho B6 B6' h5 h6 l0 l2
   cases o
   case false =>
    have HC2 := hI_ (show CC = ci by rw [HCA.out, HC.out]; show (if 0 < gb then (match appG s with | some r => r.1 | none => ci) else ci) = ci; rw [if_pos hg0, HO.out]; rfl)
    clear hV5 hU5 H6
    go_wp2_with (first
     | (refine lBk rfl _ rfl rfl confT HI rfl ?_)
     | (refine sBk rfl _ _ rfl rfl rfl confT HR rfl rfl rfl ?_; intro w' hk hg; replace HB := bGr HB hg HB.size (by have := hy2.out; omega); replace HV := HV.grown hg (HNV.out); replace HU := HU.grown hg (HNU.out); replace HR := hk; clear hk hg))
    refine bodyPost_ret (v := .agg #[.slice s1.a ci.V.length s1.c, .slice s2.a ci.L.length s2.c]) (by rw [results_bk Tryz.results52 _ rfl confT HR rfl]) rfl ?_
    exact ⟨s1, s2, by rw [HC2.out], by rw [HC2.out]; exact HV, by rw [HC2.out]; exact HU, .inl ⟨HC2.out, rfl, rfl⟩, HB⟩
   case true =>
    have HC2 := hI_ (show CC = c5 by rw [HCA.out, HC.out]; show (if 0 < gb then (match appG s with | some r => r.1 | none => ci) else ci) = c5; rw [if_pos hg0, HO.out]; rfl)
    clear HV HU
    go_wp2_with (first
     | (refine lBk rfl _ rfl rfl confT H6 rfl ?_)
     | (refine sBk rfl _ _ rfl rfl rfl confT HR rfl rfl rfl ?_; intro w' hk hg; replace HB := bGr HB hg HB.size (by have := hy2.out; omega); replace hV5 := hV5.grown hg (fun h q e => by have := G5.out h q e; have := HZ5.out; omega); replace hU5 := hU5.grown hg (fun h q e => by have := G6.out h q e; have := HZ5.out; omega); replace HR := hk; clear hk hg))
    refine bodyPost_ret (v := .agg #[.slice u1.a c5.V.length u1.c, .slice u2.a c5.L.length u2.c]) (by rw [results_bk Tryz.results52 _ rfl confT HR rfl]) rfl ?_
    exact ⟨u1, u2, by rw [HC2.out], by rw [HC2.out]; exact hV5, by rw [HC2.out]; exact hU5, .inr ⟨by rw [HC2.out]; exact fun h q e => by have := G5.out h q e; have := HBs.out; omega, by rw [HC2.out]; exact fun h q e => by have := G6.out h q e; have := HBs.out; omega⟩, HB⟩
end Go.Proofs.YtdcpiaoadbbdoaaGreatDoor
