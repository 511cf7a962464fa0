/- A node follows; it has heard. -/
import Derived.Test.YtdcpiaoadbbdoaaGreatDoorRb
import Derived.Test.YtdcpiaoadbbdoaaGreatDoorQh
set_option maxRecDepth 100000
set_option maxHeartbeats 16000000
namespace Go.Proofs.YtdcpiaoadbbdoaaGreatDoor
open Go.RowKit

theorem NdM.follow {K : Nat} {w : World} {p : Pn} {d : Ad} (h : NdM K w p d) (t : Nat) : NdM K w (followP p t) { d with o := ⟨none, 0⟩, n := ⟨none, 0⟩, m := ⟨none, 0⟩ } :=
 ⟨h.v, h.l, h.e, h.ec, h.em, Rw.nil _, (fun j x hx => by simp [followP] at hx), (fun j x hx => by simp [followP] at hx), h.tv, h.tl, h.te, Ty.nil _ _ _ _, Ty.nil _ _ _ _, Ty.nil _ _ _ _⟩
theorem pFollow_any (p : Pn) (d : Ad) (t K : Nat) (w : World) (hM : NdM K w p d) :
 Calls Tryz.prog 112 #[ndV p d, .int .u64 t] w (NvP K w (followP p t)) := by
 obtain ⟨W, hW, B0, N0, Z0⟩ := nk_new w p d
 obtain ⟨W1, y, hW1, hy, B1, HR, Z1⟩ := bk_new W znA 34
 have HN := N0.later (hy ▸ B1)
 have HB := B0.trans (B1.mono (by have := Z0.out; omega))
 have hyn := hI_ (show w.heap.size < y by have := Z0.out; omega)
 clear B0 N0 B1
 unfold ndA at hW
 unfold znA at hW1
 have HF := hI_ (show ∀ w', Below w.heap.size w w' → NvP K w (followP p t) (.returned (ndV (followP p t) { d with o := ⟨none, 0⟩, n := ⟨none, 0⟩, m := ⟨none, 0⟩ })) w' from fun w' hb => ⟨_, rfl, (hM.later hb).follow t, hb⟩)
 clear hM
 by_cases h : p.term < t
 · have g : (p.term : Int) < (t : Int) := by omega
   have HP := hI_ (show followP p t = { p with term := t, vote := 0, role := 0, lead := 0, voices := [], next := [], mat := [] } by unfold followP; rw [if_pos h, if_pos h])
   go_enter Tryz.func112, Tryz.ntmps112
   go_wp2_with (first
    | (refine lCc rfl _ rfl rfl (ocA rfl) (by assumption) rfl ?_)
    | (refine lBk rfl _ rfl rfl nodeT (by assumption) rfl ?_)
    | (refine sCc (v := .int .u64 t) rfl _ _ rfl rfl rfl (ocA rfl) HN rfl rfl rfl ?_; intro w' hk hg; replace HR := HR.grown hg (by have := hyn.out; omega); replace HB := bGr HB hg HB.size (Nat.le_refl _); replace HN := hk; clear hk hg)
    | (refine sCc (v := .int .u64 0) rfl _ _ rfl rfl rfl (ocA rfl) HN rfl rfl rfl ?_; intro w' hk hg; replace HR := HR.grown hg (by have := hyn.out; omega); replace HB := bGr HB hg HB.size (Nat.le_refl _); replace HN := hk; clear hk hg)
    | (refine sCc (v := .int .i64 0) rfl _ _ rfl rfl rfl (ocA rfl) HN rfl rfl rfl ?_; intro w' hk hg; replace HR := HR.grown hg (by have := hyn.out; omega); replace HB := bGr HB hg HB.size (Nat.le_refl _); replace HN := hk; clear hk hg)
    | (refine sCc (v := .slice none 0 0) rfl _ _ rfl rfl rfl (ocA rfl) HN rfl rfl rfl ?_; intro w' hk hg; replace HR := HR.grown hg (by have := hyn.out; omega); replace HB := bGr HB hg HB.size (Nat.le_refl _); replace HN := hk; clear hk hg)
    | (refine sBk rfl _ _ rfl rfl rfl nodeT HR rfl rfl rfl ?_; intro w' hk hg; replace HN := HN.grown hg (by have := hyn.out; omega); replace HB := bGr HB hg HB.size (by have := hyn.out; omega); replace HR := hk; clear hk hg))
   refine bodyPost_ret (v := ndV (followP p t) { d with o := ⟨none, 0⟩, n := ⟨none, 0⟩, m := ⟨none, 0⟩ }) (by rw [results_bk Tryz.results112 _ rfl nodeT HR rfl, HP.out]; rfl) rfl ?_
   exact HF.out _ HB
 · have g : ¬ (p.term : Int) < (t : Int) := by omega
   have HP := hI_ (show followP p t = { p with role := 0, lead := 0, voices := [], next := [], mat := [] } by unfold followP; rw [if_neg h, if_neg h])
   go_enter Tryz.func112, Tryz.ntmps112
   go_wp2_with (first
    | (refine lCc rfl _ rfl rfl (ocA rfl) (by assumption) rfl ?_)
    | (refine lBk rfl _ rfl rfl nodeT (by assumption) rfl ?_)
    | (refine sCc (v := .int .u64 t) rfl _ _ rfl rfl rfl (ocA rfl) HN rfl rfl rfl ?_; intro w' hk hg; replace HR := HR.grown hg (by have := hyn.out; omega); replace HB := bGr HB hg HB.size (Nat.le_refl _); replace HN := hk; clear hk hg)
    | (refine sCc (v := .int .u64 0) rfl _ _ rfl rfl rfl (ocA rfl) HN rfl rfl rfl ?_; intro w' hk hg; replace HR := HR.grown hg (by have := hyn.out; omega); replace HB := bGr HB hg HB.size (Nat.le_refl _); replace HN := hk; clear hk hg)
    | (refine sCc (v := .int .i64 0) rfl _ _ rfl rfl rfl (ocA rfl) HN rfl rfl rfl ?_; intro w' hk hg; replace HR := HR.grown hg (by have := hyn.out; omega); replace HB := bGr HB hg HB.size (Nat.le_refl _); replace HN := hk; clear hk hg)
    | (refine sCc (v := .slice none 0 0) rfl _ _ rfl rfl rfl (ocA rfl) HN rfl rfl rfl ?_; intro w' hk hg; replace HR := HR.grown hg (by have := hyn.out; omega); replace HB := bGr HB hg HB.size (Nat.le_refl _); replace HN := hk; clear hk hg)
    | (refine sBk rfl _ _ rfl rfl rfl nodeT HR rfl rfl rfl ?_; intro w' hk hg; replace HN := HN.grown hg (by have := hyn.out; omega); replace HB := bGr HB hg HB.size (by have := hyn.out; omega); replace HR := hk; clear hk hg))
   refine bodyPost_ret (v := ndV (followP p t) { d with o := ⟨none, 0⟩, n := ⟨none, 0⟩, m := ⟨none, 0⟩ }) (by rw [results_bk Tryz.results112 _ rfl nodeT HR rfl, HP.out]; rfl) rfl ?_
   exact HF.out _ HB
def MsP (w : World) (M : List Mg) (e : Ending) (w' : World) : Prop := ∃ v L, e = .returned v ∧ CqG w.heap.size w' v L ∧ L.map Mg.pl = M ∧ Below w.heap.size w w'

def TtP (s : List UInt8) (w : World) (e : Ending) (w' : World) : Prop := (∃ (b r : List UInt8) (k : Nat), e = .returned (.tuple #[.string ⟨b.toArray⟩, .string ⟨r.toArray⟩, .int .i64 k]) ∧ (k = 0 → txG s = some (b, r)) ∧ (k ≠ 0 → txG s = none) ∧ b.length ≤ s.length ∧ r.length ≤ s.length) ∧ Below w.heap.size w w'
theorem ttP_no {s : List UInt8} {w w' : World} {k : Nat} {K : Int} (hk : K = k) (h0 : k ≠ 0) (h : txG s = none) (hb : Below w.heap.size w w') : TtP s w (.returned (.tuple #[.string ⟨#[]⟩, .string ⟨#[]⟩, .int .i64 K])) w' := by
 subst hk
 exact ⟨⟨[], [], k, rfl, fun h1 => absurd h1 h0, fun _ => h, by simp, by simp⟩, hb⟩
theorem pTakeText_any (s : List UInt8) (hs : s.length ≤ 140737488351232) (w : World) : Calls Tryz.prog 143 #[.string ⟨s.toArray⟩] w (TtP s w) := by
 obtain ⟨v, q, x, hx⟩ : ∃ v q x, tkNum s = (v, q, x) := ⟨_, _, _, rfl⟩
 have HX := hI_ hx
 have hq : q.length ≤ s.length := by have := tk_less s; rw [hx] at this; exact this
 have htx : txG s = if x ≠ 0 ∨ 4096 < v ∨ q.length < v then none else some (q.take v, q.drop v) := by unfold txG; rw [hx]
 have HTX := hI_ htx
 have hsz : (ByteArray.mk q.toArray).size = q.length := size_mk q
 clear hx htx
 go_enter Tryz.func143, Tryz.ntmps143
 go_wp2_with fail
 refine (take_any ⟨s.toArray⟩ _).mono ?_
 rintro e w1 ⟨rfl, k, rfl⟩
 unfold tkOut
 rw [show (ByteArray.mk s.toArray).data.toList = s from rfl, HX.out]
 have B1 : Below w.heap.size w (w.drewN k) := below_drewN (Below.refl _ _) _
 by_cases h0 : x = 0
 case neg =>
  have g : ((x : Int) == 0) = false := by simp; omega
  have HF := hI_ (show txG s = none by rw [HTX.out, if_pos (.inl h0)])
  go_wp2_with fail
  go_ret3
  exact ttP_no rfl h0 HF.out B1
 subst h0
 by_cases h1 : 4096 < v
 · have g : (4096 : Int) < (v : Int) := by omega
   have HF := hI_ (show txG s = none by rw [HTX.out, if_pos (.inr (.inl h1))])
   go_wp2_with fail
   go_ret3
   exact ttP_no (k := 4) rfl (by decide) HF.out B1
 have g1 : ¬ (4096 : Int) < (v : Int) := by omega
 by_cases h2 : q.length < v
 · have g : (q.length : Int) < (v : Int) := by omega
   have HF := hI_ (show txG s = none by rw [HTX.out, if_pos (.inr (.inr h2))])
   go_wp2_with fail
   go_ret3
   exact ttP_no (k := 2) rfl (by decide) HF.out B1
 · have g : ¬ (q.length : Int) < (v : Int) := by omega
   have HF := hI_ (show txG s = some (q.take v, q.drop v) by rw [HTX.out, if_neg (by omega)])
   have e1 := extract_head (s := ⟨q.toArray⟩) (l := q) rfl v
   have e2 := extract_drop (s := ⟨q.toArray⟩) (l := q) rfl v
   rw [hsz] at e2
   have i1 : (0 : Int) ≤ (v : Int) := by omega
   have i2 : (v : Int) ≤ (q.length : Int) := by omega
   have E1 := hI_ e1
   have E2 := hI_ e2
   go_wp2_with fail
   go_quiet (fail)
   go_wp2_with fail
   go_ret3
   refine ⟨⟨q.take v, q.drop v, 0, ?_, fun _ => HF.out, fun h => absurd rfl h, by rw [List.length_take]; omega, by rw [List.length_drop]; omega⟩, below_drewN B1 _⟩
   first | rfl | (simp [E1.out, E2.out])
def ApP (s : List UInt8) (w : World) (e : Ending) (w' : World) : Prop := ∃ (c : Cf) (s1 s2 : Sa) (r : List UInt8) (o : Bool), e = .returned (.tuple #[.agg #[.slice s1.a c.V.length s1.c, .slice s2.a c.L.length s2.c], .string ⟨r.toArray⟩, .bool o]) ∧ (appG s = if o then some (c, r) else none) ∧ Us w' s1.a c.V ∧ Us w' s2.a c.L ∧ (0 < c.V.length → ∀ q, s1.a = some q → w.heap.size ≤ q.block) ∧ (0 < c.L.length → ∀ q, s2.a = some q → w.heap.size ≤ q.block) ∧ Below w.heap.size w w'
theorem pApp_any (s : List UInt8) (hs : s.length ≤ 140737488351232) (w : World) : Calls Tryz.prog 98 #[.string ⟨s.toArray⟩] w (ApP s w) := by
 have hno : appG s = none → ∀ w', Below w.heap.size w w' → ApP s w (.returned (.tuple #[.agg #[.slice none 0 0, .slice none 0 0], .string ⟨#[]⟩, .bool false])) w' := fun h w' hb => ⟨⟨[], []⟩, ⟨none, 0⟩, ⟨none, 0⟩, [], false, rfl, h, Us.nil _ _, Us.nil _ _, fun h => absurd h (Nat.lt_irrefl _), fun h => absurd h (Nat.lt_irrefl _), hb⟩
 have HNO := hI_ hno
 clear hno
 obtain ⟨W, hW⟩ : ∃ W, w.alloc (.cells #[.slice none 0 0, .slice none 0 0] 25) = W := ⟨_, rfl⟩
 have HR : Bk W w.heap.size 25 [.slice none 0 0, .slice none 0 0] := hW ▸ Bk.new w #[.slice none 0 0, .slice none 0 0] _
 have HB : Below w.heap.size w W := hW ▸ (Below.refl _ _).alloc (Nat.le_refl _) _
 have hz := hI_ (show w.heap.size < W.heap.size from HR.lt)
 go_enter Tryz.func98, Tryz.ntmps98
 go_wp2_with fail
 refine (pTakeText_any s hs _).mono ?_
 rintro e w1 ⟨⟨b, r, k, rfl, h1, h2, h3, h4⟩, hb1⟩
 replace HB := HB.trans (hb1.mono HB.size)
 replace HR := HR.later hb1
 have hz1 := hI_ (show w.heap.size < w1.heap.size from HR.lt)
 clear hb1
 by_cases h0 : k = 0
 case neg =>
  have HA := hI_ (show appG s = none by unfold appG; rw [h2 h0])
  have g : ((k : Int) == 0) = false := by simp; omega
  clear h1 h2 h0
  go_wp2_with (first
   | (refine sBk rfl _ _ rfl rfl rfl confT HR rfl rfl rfl ?_; intro w' hk hg; replace HB := bGr HB hg HB.size (Nat.le_refl _); replace HR := hk; clear hk hg))
  refine bodyPost_ret (v := (.tuple #[.agg #[.slice none 0 0, .slice none 0 0], .string ⟨#[]⟩, .bool false])) (by rw [results_bk_tmp2 Tryz.results98 _ rfl confT HR rfl]; rfl) rfl ?_
  exact HNO.out HA.out _ HB
 subst h0
 have HA := hI_ (show appG s = if (tkG b).2 = 0 then some (⟨(tkG b).1.1, (tkG b).1.2⟩, r) else none by unfold appG; rw [h1 rfl])
 clear h1 h2
 go_wp2_with fail
 refine (pTake_any b (by omega) _).mono ?_
 rintro e w2 ⟨a, c, a2, c2, rfl, HV, HL, h3, h4, hb2⟩
 replace HB := HB.trans (hb2.mono HB.size)
 replace HR := HR.later hb2
 clear hb2
 obtain ⟨w3, y3, hw3, hy3, B3, H3, Z3⟩ := bk_new w2 #[.slice a (tkG b).1.1.length c, .slice a2 (tkG b).1.2.length c2] 25
 have B3' : Below w2.heap.size w2 w3 := hy3 ▸ B3
 have h3' := hI_ h3
 have h4' := hI_ h4
 replace HB := HB.trans (B3'.mono HB.size)
 replace HR := HR.later B3'
 replace HV := HV.later B3'
 replace HL := HL.later B3'
 clear B3 B3' h3 h4
 obtain ⟨k2, hk2⟩ : ∃ k2, (tkG b).2 = k2 := ⟨_, rfl⟩
 rw [hk2] at HA ⊢
 by_cases h0 : k2 = 0
 case neg =>
  have HA2 := hI_ (show appG s = none by rw [HA.out, if_neg h0])
  have g : (k2 == 0) = false := by simp; omega
  clear h0 hk2 HV HL
  go_wp2_with (first
   | (refine sBk rfl _ _ rfl rfl rfl confT HR rfl rfl rfl ?_; intro w' hk hg; replace HB := bGr HB hg HB.size (Nat.le_refl _); replace HR := hk; clear hk hg))
  refine bodyPost_ret (v := (.tuple #[.agg #[.slice none 0 0, .slice none 0 0], .string ⟨#[]⟩, .bool false])) (by rw [results_bk_tmp2 Tryz.results98 _ rfl confT HR rfl]; rfl) rfl ?_
  exact HNO.out HA2.out _ HB
 subst h0
 have HA2 := hI_ (show appG s = some (⟨(tkG b).1.1, (tkG b).1.2⟩, r) by rw [HA.out, if_pos rfl])
 clear hk2
 go_wp2_with (first
  | (refine lBk rfl _ rfl rfl confT (by assumption) rfl ?_)
  | (refine sBk rfl _ _ rfl rfl rfl confT HR rfl rfl rfl ?_; intro w' hk hg; replace HB := bGr HB hg HB.size (Nat.le_refl _); replace HV := HV.grown hg (fun h q e => by have := h3'.out h q e; have := hz1.out; omega); replace HL := HL.grown hg (fun h q e => by have := h4'.out h q e; have := hz1.out; omega); replace HR := hk; clear hk hg))
 refine bodyPost_ret (v := (.tuple #[.agg #[.slice a (tkG b).1.1.length c, .slice a2 (tkG b).1.2.length c2], .string ⟨r.toArray⟩, .bool true])) (by rw [results_bk_tmp2 Tryz.results98 _ rfl confT HR rfl]; rfl) rfl ?_
 exact ⟨⟨(tkG b).1.1, (tkG b).1.2⟩, ⟨a, c⟩, ⟨a2, c2⟩, r, true, rfl, HA2.out, HV, HL, fun h q e => by have := h3'.out h q e; have := hz1.out; omega, fun h q e => by have := h4'.out h q e; have := hz1.out; omega, HB⟩
end Go.Proofs.YtdcpiaoadbbdoaaGreatDoor
