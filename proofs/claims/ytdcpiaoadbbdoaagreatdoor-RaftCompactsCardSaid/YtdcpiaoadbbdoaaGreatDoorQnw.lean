/- A node at its beginning. -/
import Derived.Test.YtdcpiaoadbbdoaaGreatDoorRb
import Derived.Test.YtdcpiaoadbbdoaaGreatDoorQmy
import Derived.Test.YtdcpiaoadbbdoaaGreatDoorQz
import Derived.Test.YtdcpiaoadbbdoaaGreatDoorZk
set_option maxRecDepth 100000
set_option maxHeartbeats 16000000
namespace Go.Proofs.YtdcpiaoadbbdoaaGreatDoor
open Go.RowKit

theorem stabT : StT 30 6 := ⟨fun w => by kernel_rfl, fun w => by kernel_rfl⟩
def newOk (id : Nat) (c : Cf) (t v : Nat) (g : Lg) : Prop := (1 ≤ id ∧ id ≤ 63) ∧ mayB c.V c.L = true ∧ stOk t v g.base g.bt g.snap g.L
def NwP (K : Nat) (w : World) (id : Nat) (c : Cf) (t v : Nat) (g : Lg) (e : Ending) (w' : World) : Prop :=
 ((newOk id c t v g ∧ ∃ d, e = .returned (.tuple #[ndV (newP id c t v g) d, .int .i64 0]) ∧ NdM K w' (newP id c t v g) d) ∨ (¬ newOk id c t v g ∧ e = .returned (.tuple #[.agg znA, .int .i64 1]))) ∧ Below w.heap.size w w'
theorem us_lt {w : World} {a : Option Addr} {L : List Nat} (h : Us w a L) : 0 < L.length → ∀ q, a = some q → q.block < w.heap.size := fun h0 q e => by
 obtain ⟨b, off, e2, hb⟩ := h.addr h0
 rw [e2] at e; cases e; exact hb
theorem ents_lt {w : World} {a : Option Addr} {L : List En} (h : Ents w a L) : 0 < L.length → ∀ q, a = some q → q.block < w.heap.size := fun h0 q e => by
 obtain ⟨b, off, e2, hb⟩ := h.addr h0
 rw [e2] at e; cases e; exact hb
theorem pNew_1 (id : Nat) (c : Cf) (s1 s2 es : Sa) (t v : Nat) (g : Lg) (hid : id < 18446744073709551616) (hv : c.V.length ≤ 140737488351232) (hl : c.L.length ≤ 140737488351232) (he : g.L.length ≤ 140737488351232) (_ : g.L.length ≤ es.c) (_ : es.c ≤ maxLen) (hs : g.snap.size ≤ 140737488351232) (hD : ∀ x ∈ g.L, x.d.size ≤ 140737488351232) (K : Nat) (w : World) (_ : w.heap.size ≤ K) (hV : Us w s1.a c.V) (hL : Us w s2.a c.L) (hE : Ents w es.a g.L) (h1 : ¬ (1 ≤ id ∧ id ≤ 63)) :
 Calls Tryz.prog 16 #[.int .u64 id, .agg #[.slice s1.a c.V.length s1.c, .slice s2.a c.L.length s2.c], .agg #[.int .u64 t, .int .u64 v, .int .u64 g.base, .int .u64 g.bt, .string g.snap, .slice es.a g.L.length es.c]] w (NwP K w id c t v g) := by
 obtain ⟨W, xc, hW, hxc, B0, HC, Z0⟩ := bk_new w #[.slice s1.a c.V.length s1.c, .slice s2.a c.L.length s2.c] 25
 obtain ⟨W1, xs, hW1, hxs, B1, HS, Z1⟩ := bk_new W #[.int .u64 t, .int .u64 v, .int .u64 g.base, .int .u64 g.bt, .string g.snap, .slice es.a g.L.length es.c] 30
 obtain ⟨W2, y, hW2, hy, B2, HR, Z2⟩ := bk_new W1 znA 34
 have B0' : Below w.heap.size w W := hxc ▸ B0
 have B1' : Below W.heap.size W W1 := hxs ▸ B1
 have B2' : Below W1.heap.size W1 W2 := hy ▸ B2
 replace HC := (HC.later B1').later B2'
 replace HS := HS.later B2'
 have HB1 := B0'.trans (B1'.mono B0'.size)
 have HB := HB1.trans (B2'.mono HB1.size)
 have hyn := hI_ (show w.heap.size = xc ∧ xc < xs ∧ xs < y by have := Z0.out; have := Z1.out; omega)
 clear B0 B1 B2 B0' B1' B2' HB1
 unfold znA at hW2
 have HMY := hI_ (show ∀ w1, Below w.heap.size w w1 → Calls Tryz.prog 56 #[.agg #[.slice s1.a c.V.length s1.c, .slice s2.a c.L.length s2.c]] w1 fun e w' => e = .returned (.bool (mayB c.V c.L)) ∧ Below w1.heap.size w1 w' from fun w1 hb => pMay_any _ _ _ _ _ _ c.V c.L rfl hv rfl hl w1 (hV.later hb) (hL.later hb))
 have HNM := hI_ (show ∀ w1, Below w.heap.size w w1 → Calls Tryz.prog 57 #[.agg #[.int .u64 t, .int .u64 v, .int .u64 g.base, .int .u64 g.bt, .string g.snap, .slice es.a g.L.length es.c]] w1 (MayP (stOk t v g.base g.bt g.snap g.L) w1) from fun w1 hb => noteMay_any _ _ _ _ _ _ _ _ g.L rfl he hs hD w1 (hE.later hb))
 have HX := hI_ (show ∀ w', Below w.heap.size w w' → NwP K w id c t v g (.returned (.tuple #[.agg znA, .int .i64 1])) w' from fun w' hb => ⟨.inr ⟨fun h => h1 h.1, rfl⟩, hb⟩)
 clear hV hL hE
 go_enter Tryz.func16, Tryz.ntmps16
 go_wp2_with fail
 refine (pMayIdR_any id _).mono ?_
 rintro e w2 ⟨rfl, rfl⟩
 rw [show decide (1 ≤ id ∧ id ≤ 63) = false by simp; omega]
 go_wp2_with (first
  | (refine sBk rfl _ _ rfl rfl (M := znA.toList) rfl nodeT HR rfl rfl rfl ?_; intro w' hk hg; replace HB := bGr HB hg HB.size (by have := hyn.out; omega); replace HR := hk; clear hk hg))
 refine bodyPost_ret (v := .tuple #[.agg znA, .int .i64 1]) (by rw [rBt Tryz.results16 _ rfl nodeT HR rfl]; rfl) rfl ?_
 exact HX.out _ HB
theorem pNew_2 (id : Nat) (c : Cf) (s1 s2 es : Sa) (t v : Nat) (g : Lg) (_ : id < 18446744073709551616) (hv : c.V.length ≤ 140737488351232) (hl : c.L.length ≤ 140737488351232) (he : g.L.length ≤ 140737488351232) (_ : g.L.length ≤ es.c) (_ : es.c ≤ maxLen) (hs : g.snap.size ≤ 140737488351232) (hD : ∀ x ∈ g.L, x.d.size ≤ 140737488351232) (K : Nat) (w : World) (_ : w.heap.size ≤ K) (hV : Us w s1.a c.V) (hL : Us w s2.a c.L) (hE : Ents w es.a g.L) (h1 : 1 ≤ id ∧ id ≤ 63) (hm : mayB c.V c.L = false) :
 Calls Tryz.prog 16 #[.int .u64 id, .agg #[.slice s1.a c.V.length s1.c, .slice s2.a c.L.length s2.c], .agg #[.int .u64 t, .int .u64 v, .int .u64 g.base, .int .u64 g.bt, .string g.snap, .slice es.a g.L.length es.c]] w (NwP K w id c t v g) := by
 obtain ⟨W, xc, hW, hxc, B0, HC, Z0⟩ := bk_new w #[.slice s1.a c.V.length s1.c, .slice s2.a c.L.length s2.c] 25
 obtain ⟨W1, xs, hW1, hxs, B1, HS, Z1⟩ := bk_new W #[.int .u64 t, .int .u64 v, .int .u64 g.base, .int .u64 g.bt, .string g.snap, .slice es.a g.L.length es.c] 30
 obtain ⟨W2, y, hW2, hy, B2, HR, Z2⟩ := bk_new W1 znA 34
 have B0' : Below w.heap.size w W := hxc ▸ B0
 have B1' : Below W.heap.size W W1 := hxs ▸ B1
 have B2' : Below W1.heap.size W1 W2 := hy ▸ B2
 replace HC := (HC.later B1').later B2'
 replace HS := HS.later B2'
 have HB1 := B0'.trans (B1'.mono B0'.size)
 have HB := HB1.trans (B2'.mono HB1.size)
 have hyn := hI_ (show w.heap.size = xc ∧ xc < xs ∧ xs < y by have := Z0.out; have := Z1.out; omega)
 clear B0 B1 B2 B0' B1' B2' HB1
 unfold znA at hW2
 have HMY := hI_ (show ∀ w1, Below w.heap.size w w1 → Calls Tryz.prog 56 #[.agg #[.slice s1.a c.V.length s1.c, .slice s2.a c.L.length s2.c]] w1 fun e w' => e = .returned (.bool (mayB c.V c.L)) ∧ Below w1.heap.size w1 w' from fun w1 hb => pMay_any _ _ _ _ _ _ c.V c.L rfl hv rfl hl w1 (hV.later hb) (hL.later hb))
 have HNM := hI_ (show ∀ w1, Below w.heap.size w w1 → Calls Tryz.prog 57 #[.agg #[.int .u64 t, .int .u64 v, .int .u64 g.base, .int .u64 g.bt, .string g.snap, .slice es.a g.L.length es.c]] w1 (MayP (stOk t v g.base g.bt g.snap g.L) w1) from fun w1 hb => noteMay_any _ _ _ _ _ _ _ _ g.L rfl he hs hD w1 (hE.later hb))
 have HX := hI_ (show ∀ w', Below w.heap.size w w' → NwP K w id c t v g (.returned (.tuple #[.agg znA, .int .i64 1])) w' from fun w' hb => ⟨.inr ⟨fun h => by have := h.2.1; rw [hm] at this; exact absurd this (by decide), rfl⟩, hb⟩)
 clear hV hL hE
 go_enter Tryz.func16, Tryz.ntmps16
 go_wp2_with fail
 refine (pMayIdR_any id _).mono ?_
 rintro e w2 ⟨rfl, rfl⟩
 rw [show decide (1 ≤ id ∧ id ≤ 63) = true by simp; omega]
 go_wp2_with (first
  | (refine wpList_load_bkg (by rfl) _ rfl rfl confT HC rfl ?_))
 refine (HMY.out _ HB).mono ?_
 rintro e w3 ⟨rfl, hb⟩
 rw [hm]
 replace HB := HB.trans (hb.mono HB.size)
 replace HC := HC.later hb
 replace HS := HS.later hb
 replace HR := HR.later hb
 clear hb
 go_wp2_with (first
  | (refine sBk rfl _ _ rfl rfl (M := znA.toList) rfl nodeT HR rfl rfl rfl ?_; intro w' hk hg; replace HB := bGr HB hg HB.size (by have := hyn.out; omega); replace HR := hk; clear hk hg))
 refine bodyPost_ret (v := .tuple #[.agg znA, .int .i64 1]) (by rw [rBt Tryz.results16 _ rfl nodeT HR rfl]; rfl) rfl ?_
 exact HX.out _ HB
theorem pNew_3 (id : Nat) (c : Cf) (s1 s2 es : Sa) (t v : Nat) (g : Lg) (_ : id < 18446744073709551616) (hv : c.V.length ≤ 140737488351232) (hl : c.L.length ≤ 140737488351232) (he : g.L.length ≤ 140737488351232) (_ : g.L.length ≤ es.c) (_ : es.c ≤ maxLen) (hs : g.snap.size ≤ 140737488351232) (hD : ∀ x ∈ g.L, x.d.size ≤ 140737488351232) (K : Nat) (w : World) (_ : w.heap.size ≤ K) (hV : Us w s1.a c.V) (hL : Us w s2.a c.L) (hE : Ents w es.a g.L) (h1 : 1 ≤ id ∧ id ≤ 63) (hm : mayB c.V c.L = true) (h3 : ¬ stOk t v g.base g.bt g.snap g.L) :
 Calls Tryz.prog 16 #[.int .u64 id, .agg #[.slice s1.a c.V.length s1.c, .slice s2.a c.L.length s2.c], .agg #[.int .u64 t, .int .u64 v, .int .u64 g.base, .int .u64 g.bt, .string g.snap, .slice es.a g.L.length es.c]] w (NwP K w id c t v g) := by
 obtain ⟨W, xc, hW, hxc, B0, HC, Z0⟩ := bk_new w #[.slice s1.a c.V.length s1.c, .slice s2.a c.L.length s2.c] 25
 obtain ⟨W1, xs, hW1, hxs, B1, HS, Z1⟩ := bk_new W #[.int .u64 t, .int .u64 v, .int .u64 g.base, .int .u64 g.bt, .string g.snap, .slice es.a g.L.length es.c] 30
 obtain ⟨W2, y, hW2, hy, B2, HR, Z2⟩ := bk_new W1 znA 34
 have B0' : Below w.heap.size w W := hxc ▸ B0
 have B1' : Below W.heap.size W W1 := hxs ▸ B1
 have B2' : Below W1.heap.size W1 W2 := hy ▸ B2
 replace HC := (HC.later B1').later B2'
 replace HS := HS.later B2'
 have HB1 := B0'.trans (B1'.mono B0'.size)
 have HB := HB1.trans (B2'.mono HB1.size)
 have hyn := hI_ (show w.heap.size = xc ∧ xc < xs ∧ xs < y by have := Z0.out; have := Z1.out; omega)
 clear B0 B1 B2 B0' B1' B2' HB1
 unfold znA at hW2
 have HMY := hI_ (show ∀ w1, Below w.heap.size w w1 → Calls Tryz.prog 56 #[.agg #[.slice s1.a c.V.length s1.c, .slice s2.a c.L.length s2.c]] w1 fun e w' => e = .returned (.bool (mayB c.V c.L)) ∧ Below w1.heap.size w1 w' from fun w1 hb => pMay_any _ _ _ _ _ _ c.V c.L rfl hv rfl hl w1 (hV.later hb) (hL.later hb))
 have HNM := hI_ (show ∀ w1, Below w.heap.size w w1 → Calls Tryz.prog 57 #[.agg #[.int .u64 t, .int .u64 v, .int .u64 g.base, .int .u64 g.bt, .string g.snap, .slice es.a g.L.length es.c]] w1 (MayP (stOk t v g.base g.bt g.snap g.L) w1) from fun w1 hb => noteMay_any _ _ _ _ _ _ _ _ g.L rfl he hs hD w1 (hE.later hb))
 have HX := hI_ (show ∀ w', Below w.heap.size w w' → NwP K w id c t v g (.returned (.tuple #[.agg znA, .int .i64 1])) w' from fun w' hb => ⟨.inr ⟨fun h => h3 h.2.2, rfl⟩, hb⟩)
 clear hV hL hE
 go_enter Tryz.func16, Tryz.ntmps16
 go_wp2_with fail
 refine (pMayIdR_any id _).mono ?_
 rintro e w2 ⟨rfl, rfl⟩
 rw [show decide (1 ≤ id ∧ id ≤ 63) = true by simp; omega]
 go_wp2_with (first
  | (refine wpList_load_bkg (by rfl) _ rfl rfl confT HC rfl ?_))
 refine (HMY.out _ HB).mono ?_
 rintro e w3 ⟨rfl, hb⟩
 rw [hm]
 replace HB := HB.trans (hb.mono HB.size)
 replace HC := HC.later hb
 replace HS := HS.later hb
 replace HR := HR.later hb
 clear hb
 go_wp2_with (first
  | (refine wpList_load_bkg (by rfl) _ rfl rfl stabT HS rfl ?_))
 refine (HNM.out _ HB).mono ?_
 rintro e w4 ⟨⟨b, rfl, hbi⟩, hb⟩
 obtain rfl : b = false := by cases b; rfl; exact absurd (hbi.1 rfl) h3
 replace HB := HB.trans (hb.mono HB.size)
 replace HC := HC.later hb
 replace HS := HS.later hb
 replace HR := HR.later hb
 clear hb
 go_wp2_with (first
  | (refine sBk rfl _ _ rfl rfl (M := znA.toList) rfl nodeT HR rfl rfl rfl ?_; intro w' hk hg; replace HB := bGr HB hg HB.size (by have := hyn.out; omega); replace HR := hk; clear hk hg))
 refine bodyPost_ret (v := .tuple #[.agg znA, .int .i64 1]) (by rw [rBt Tryz.results16 _ rfl nodeT HR rfl]; rfl) rfl ?_
 exact HX.out _ HB
theorem pNew_4 (id : Nat) (c : Cf) (s1 s2 es : Sa) (t v : Nat) (g : Lg) (_ : id < 18446744073709551616) (hv : c.V.length ≤ 140737488351232) (hl : c.L.length ≤ 140737488351232) (he : g.L.length ≤ 140737488351232) (hec : g.L.length ≤ es.c) (hem : es.c ≤ maxLen) (hs : g.snap.size ≤ 140737488351232) (hD : ∀ x ∈ g.L, x.d.size ≤ 140737488351232) (K : Nat) (w : World) (hK : w.heap.size ≤ K) (hV : Us w s1.a c.V) (hL : Us w s2.a c.L) (hE : Ents w es.a g.L) (h1 : 1 ≤ id ∧ id ≤ 63) (hm : mayB c.V c.L = true) (h3 : stOk t v g.base g.bt g.snap g.L) :
 Calls Tryz.prog 16 #[.int .u64 id, .agg #[.slice s1.a c.V.length s1.c, .slice s2.a c.L.length s2.c], .agg #[.int .u64 t, .int .u64 v, .int .u64 g.base, .int .u64 g.bt, .string g.snap, .slice es.a g.L.length es.c]] w (NwP K w id c t v g) := by
 obtain ⟨W, xc, hW, hxc, B0, HC, Z0⟩ := bk_new w #[.slice s1.a c.V.length s1.c, .slice s2.a c.L.length s2.c] 25
 obtain ⟨W1, xs, hW1, hxs, B1, HS, Z1⟩ := bk_new W #[.int .u64 t, .int .u64 v, .int .u64 g.base, .int .u64 g.bt, .string g.snap, .slice es.a g.L.length es.c] 30
 obtain ⟨W2, y, hW2, hy, B2, HR, Z2⟩ := bk_new W1 znA 34
 have B0' : Below w.heap.size w W := hxc ▸ B0
 have B1' : Below W.heap.size W W1 := hxs ▸ B1
 have B2' : Below W1.heap.size W1 W2 := hy ▸ B2
 replace HC := (HC.later B1').later B2'
 replace HS := HS.later B2'
 have HB1 := B0'.trans (B1'.mono B0'.size)
 have HB := HB1.trans (B2'.mono HB1.size)
 have hyn := hI_ (show w.heap.size = xc ∧ xc < xs ∧ xs < y by have := Z0.out; have := Z1.out; omega)
 clear B0 B1 B2 B0' B1' B2' HB1
 unfold znA at hW2
 have HMY := hI_ (show ∀ w1, Below w.heap.size w w1 → Calls Tryz.prog 56 #[.agg #[.slice s1.a c.V.length s1.c, .slice s2.a c.L.length s2.c]] w1 fun e w' => e = .returned (.bool (mayB c.V c.L)) ∧ Below w1.heap.size w1 w' from fun w1 hb => pMay_any _ _ _ _ _ _ c.V c.L rfl hv rfl hl w1 (hV.later hb) (hL.later hb))
 have HNM := hI_ (show ∀ w1, Below w.heap.size w w1 → Calls Tryz.prog 57 #[.agg #[.int .u64 t, .int .u64 v, .int .u64 g.base, .int .u64 g.bt, .string g.snap, .slice es.a g.L.length es.c]] w1 (MayP (stOk t v g.base g.bt g.snap g.L) w1) from fun w1 hb => noteMay_any _ _ _ _ _ _ _ _ g.L rfl he hs hD w1 (hE.later hb))
 have HX := hI_ (show ∀ w', Below w.heap.size w w' → NwP K w id c t v g (.returned (.tuple #[ndV (newP id c t v g) ⟨s1, s2, es, ⟨none, 0⟩, ⟨none, 0⟩, ⟨none, 0⟩⟩, .int .i64 0])) w' from fun w' hb => ⟨.inl ⟨⟨h1, hm, h3⟩, ⟨s1, s2, es, ⟨none, 0⟩, ⟨none, 0⟩, ⟨none, 0⟩⟩, rfl, ⟨hV.later hb, hL.later hb, hE.later hb, hec, hem, Rw.nil _, (fun j x hx => by simp [newP] at hx), (fun j x hx => by simp [newP] at hx), (Ty.elder (us_lt hV) hK).later hb, (Ty.elder (us_lt hL) hK).later hb, (Ty.elder (ents_lt hE) hK).later hb, Ty.nil _ _ _ _, Ty.nil _ _ _ _, Ty.nil _ _ _ _⟩⟩, hb⟩)
 clear hV hL hE
 go_enter Tryz.func16, Tryz.ntmps16
 go_wp2_with fail
 refine (pMayIdR_any id _).mono ?_
 rintro e w2 ⟨rfl, rfl⟩
 rw [show decide (1 ≤ id ∧ id ≤ 63) = true by simp; omega]
 go_wp2_with (first
  | (refine wpList_load_bkg (by rfl) _ rfl rfl confT HC rfl ?_))
 refine (HMY.out _ HB).mono ?_
 rintro e w3 ⟨rfl, hb⟩
 rw [hm]
 replace HB := HB.trans (hb.mono HB.size)
 replace HC := HC.later hb
 replace HS := HS.later hb
 replace HR := HR.later hb
 clear hb
 go_wp2_with (first
  | (refine wpList_load_bkg (by rfl) _ rfl rfl stabT HS rfl ?_))
 refine (HNM.out _ HB).mono ?_
 rintro e w4 ⟨⟨b, rfl, hbi⟩, hb⟩
 obtain rfl : b = true := by cases b; exact absurd (hbi.2 h3) (by decide); rfl
 replace HB := HB.trans (hb.mono HB.size)
 replace HC := HC.later hb
 replace HS := HS.later hb
 replace HR := HR.later hb
 clear hb
 have cs2 := HS.bx.c 2 _ rfl
 have cs2' := HS.bx.fz 2
 clear hm h3 h1 hbi
 go_wp2_with (first
  | (refine lBk rfl _ rfl rfl confT HC rfl ?_)
  | (refine lBk rfl _ rfl rfl stabT HS rfl ?_)
  | (refine sBk rfl _ _ rfl rfl (M := ndL (newP id c t v g) ⟨s1, s2, es, ⟨none, 0⟩, ⟨none, 0⟩, ⟨none, 0⟩⟩) rfl nodeT HR rfl rfl rfl ?_; intro w' hk hg; replace HB := bGr HB hg HB.size (by have := hyn.out; omega); replace HR := hk; clear hk hg))
 refine bodyPost_ret (v := .tuple #[ndV (newP id c t v g) ⟨s1, s2, es, ⟨none, 0⟩, ⟨none, 0⟩, ⟨none, 0⟩⟩, .int .i64 0]) (by rw [rBt Tryz.results16 _ rfl nodeT HR rfl]; rfl) rfl ?_
 exact HX.out _ HB
theorem pNew_any (id : Nat) (c : Cf) (s1 s2 es : Sa) (t v : Nat) (g : Lg) (hid : id < 18446744073709551616) (hv : c.V.length ≤ 140737488351232) (hl : c.L.length ≤ 140737488351232) (he : g.L.length ≤ 140737488351232) (hec : g.L.length ≤ es.c) (hem : es.c ≤ maxLen) (hs : g.snap.size ≤ 140737488351232) (hD : ∀ x ∈ g.L, x.d.size ≤ 140737488351232) (K : Nat) (w : World) (hK : w.heap.size ≤ K) (hV : Us w s1.a c.V) (hL : Us w s2.a c.L) (hE : Ents w es.a g.L) :
 Calls Tryz.prog 16 #[.int .u64 id, .agg #[.slice s1.a c.V.length s1.c, .slice s2.a c.L.length s2.c], .agg #[.int .u64 t, .int .u64 v, .int .u64 g.base, .int .u64 g.bt, .string g.snap, .slice es.a g.L.length es.c]] w (NwP K w id c t v g) := by
 by_cases h1 : 1 ≤ id ∧ id ≤ 63
 · cases hm : mayB c.V c.L
   · exact pNew_2 id c s1 s2 es t v g hid hv hl he hec hem hs hD K w hK hV hL hE h1 hm
   · by_cases h3 : stOk t v g.base g.bt g.snap g.L
     · exact pNew_4 id c s1 s2 es t v g hid hv hl he hec hem hs hD K w hK hV hL hE h1 hm h3
     · exact pNew_3 id c s1 s2 es t v g hid hv hl he hec hem hs hD K w hK hV hL hE h1 hm h3
 · exact pNew_1 id c s1 s2 es t v g hid hv hl he hec hem hs hD K w hK hV hL hE h1
end Go.Proofs.YtdcpiaoadbbdoaaGreatDoor
