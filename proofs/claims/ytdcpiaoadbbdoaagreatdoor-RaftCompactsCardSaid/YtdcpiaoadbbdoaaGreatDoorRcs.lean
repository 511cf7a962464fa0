/- Whether two nodes are the same: the document's. -/
import Derived.Test.YtdcpiaoadbbdoaaGreatDoorRb
import Derived.Test.YtdcpiaoadbbdoaaGreatDoorQnw
import Derived.Test.YtdcpiaoadbbdoaaGreatDoorGc
import Derived.Test.YtdcpiaoadbbdoaaGreatDoorWk
import Derived.Test.YtdcpiaoadbbdoaaGreatDoorAp
set_option maxRecDepth 100000
set_option maxHeartbeats 16000000
namespace Go.Proofs.YtdcpiaoadbbdoaaGreatDoor
open Go.RowKit

theorem rSame8_any (p : Pn) (d1 d2 : Ad) (hv : p.c.V.length ≤ 140737488351232) (hl : p.c.L.length ≤ 140737488351232) (he : p.g.L.length ≤ 140737488351232) (ho : p.voices.length ≤ 140737488351232) (hn : p.next.length ≤ 140737488351232) (hm : p.mat.length ≤ 140737488351232) (K1 K2 : Nat) (w : World) (h1 : NdM K1 w p d1) (h2 : NdM K2 w p d2) :
 Calls Tryz.prog 12 #[ndV p d1, ndV p d2] w fun e w' => e = .returned (.bool true) ∧ Below w.heap.size w w' := by
 obtain ⟨W, hW, B0, HN, Z0⟩ := nk_new w p d1
 obtain ⟨W1, y, hW1, hy, B1, HO, Z1⟩ := bk_new W (ndA p d2) 34
 have B1' : Below W.heap.size W W1 := hy ▸ B1
 replace HN := HN.later B1'
 have HB := B0.trans (B1'.mono B0.size)
 have H1 := hI_ (show ∀ w1, Below w.heap.size w w1 → NdM K1 w1 p d1 from fun w1 h => h1.later h)
 have H2 := hI_ (show ∀ w1, Below w.heap.size w w1 → NdM K2 w1 p d2 from fun w1 h => h2.later h)
 unfold ndA at hW hW1
 clear B0 B1 B1' h1 h2
 go_enter Tryz.func12, Tryz.ntmps12
 go_wp2_with (first
  | (refine lSb rfl _ rfl rfl [.slice d1.v.a p.c.V.length d1.v.c, .slice d1.l.a p.c.L.length d1.l.c] confT HN rfl rfl ?_)
  | (refine lSb rfl _ rfl rfl [.slice d2.v.a p.c.V.length d2.v.c, .slice d2.l.a p.c.L.length d2.l.c] confT HO rfl rfl ?_)
  | (refine lSb rfl _ rfl rfl [.int .u64 p.term, .int .u64 p.vote, .int .u64 p.g.base, .int .u64 p.g.bt, .string p.g.snap, .slice d1.e.a p.g.L.length d1.e.c] stabT HN rfl rfl ?_)
  | (refine lSb rfl _ rfl rfl [.int .u64 p.term, .int .u64 p.vote, .int .u64 p.g.base, .int .u64 p.g.bt, .string p.g.snap, .slice d2.e.a p.g.L.length d2.e.c] stabT HO rfl rfl ?_)
  | (refine lCc rfl _ rfl rfl (by first | exact ocV | exact ocM) HN rfl ?_)
  | (refine lCc rfl _ rfl rfl (by first | exact ocV | exact ocM) HO rfl ?_))
 refine (rSame_any _ _ _ _ _ _ _ _ _ _ p.c.V p.c.L rfl hv rfl hl _ (H1.out _ HB).v (H1.out _ HB).l (H2.out _ HB).v (H2.out _ HB).l).mono ?_
 rintro e w2 ⟨rfl, hb⟩
 replace HB := HB.trans (hb.mono HB.size)
 replace HN := HN.later hb
 replace HO := HO.later hb
 clear hb
 go_wp2_with (first
  | (refine lSb rfl _ rfl rfl [.slice d1.v.a p.c.V.length d1.v.c, .slice d1.l.a p.c.L.length d1.l.c] confT HN rfl rfl ?_)
  | (refine lSb rfl _ rfl rfl [.slice d2.v.a p.c.V.length d2.v.c, .slice d2.l.a p.c.L.length d2.l.c] confT HO rfl rfl ?_)
  | (refine lSb rfl _ rfl rfl [.int .u64 p.term, .int .u64 p.vote, .int .u64 p.g.base, .int .u64 p.g.bt, .string p.g.snap, .slice d1.e.a p.g.L.length d1.e.c] stabT HN rfl rfl ?_)
  | (refine lSb rfl _ rfl rfl [.int .u64 p.term, .int .u64 p.vote, .int .u64 p.g.base, .int .u64 p.g.bt, .string p.g.snap, .slice d2.e.a p.g.L.length d2.e.c] stabT HO rfl rfl ?_)
  | (refine lCc rfl _ rfl rfl (by first | exact ocV | exact ocM) HN rfl ?_)
  | (refine lCc rfl _ rfl rfl (by first | exact ocV | exact ocM) HO rfl ?_))
 refine (refSame_eq _ _ _ _ _ p.term p.vote p.g.base p.g.bt p.g.snap p.g.L rfl he _ (H1.out _ HB).e (H2.out _ HB).e).mono ?_
 rintro e w2 ⟨rfl, hb⟩
 replace HB := HB.trans (hb.mono HB.size)
 replace HN := HN.later hb
 replace HO := HO.later hb
 clear hb
 go_wp2_with (first
  | (refine lSb rfl _ rfl rfl [.slice d1.v.a p.c.V.length d1.v.c, .slice d1.l.a p.c.L.length d1.l.c] confT HN rfl rfl ?_)
  | (refine lSb rfl _ rfl rfl [.slice d2.v.a p.c.V.length d2.v.c, .slice d2.l.a p.c.L.length d2.l.c] confT HO rfl rfl ?_)
  | (refine lSb rfl _ rfl rfl [.int .u64 p.term, .int .u64 p.vote, .int .u64 p.g.base, .int .u64 p.g.bt, .string p.g.snap, .slice d1.e.a p.g.L.length d1.e.c] stabT HN rfl rfl ?_)
  | (refine lSb rfl _ rfl rfl [.int .u64 p.term, .int .u64 p.vote, .int .u64 p.g.base, .int .u64 p.g.bt, .string p.g.snap, .slice d2.e.a p.g.L.length d2.e.c] stabT HO rfl rfl ?_)
  | (refine lCc rfl _ rfl rfl (by first | exact ocV | exact ocM) HN rfl ?_)
  | (refine lCc rfl _ rfl rfl (by first | exact ocV | exact ocM) HO rfl ?_))
 refine (rVoices_same _ _ _ _ _ p.voices rfl ho _ (H1.out _ HB).o (H2.out _ HB).o).mono ?_
 rintro e w2 ⟨rfl, hb⟩
 replace HB := HB.trans (hb.mono HB.size)
 replace HN := HN.later hb
 replace HO := HO.later hb
 clear hb
 go_wp2_with (first
  | (refine lSb rfl _ rfl rfl [.slice d1.v.a p.c.V.length d1.v.c, .slice d1.l.a p.c.L.length d1.l.c] confT HN rfl rfl ?_)
  | (refine lSb rfl _ rfl rfl [.slice d2.v.a p.c.V.length d2.v.c, .slice d2.l.a p.c.L.length d2.l.c] confT HO rfl rfl ?_)
  | (refine lSb rfl _ rfl rfl [.int .u64 p.term, .int .u64 p.vote, .int .u64 p.g.base, .int .u64 p.g.bt, .string p.g.snap, .slice d1.e.a p.g.L.length d1.e.c] stabT HN rfl rfl ?_)
  | (refine lSb rfl _ rfl rfl [.int .u64 p.term, .int .u64 p.vote, .int .u64 p.g.base, .int .u64 p.g.bt, .string p.g.snap, .slice d2.e.a p.g.L.length d2.e.c] stabT HO rfl rfl ?_)
  | (refine lCc rfl _ rfl rfl (by first | exact ocV | exact ocM) HN rfl ?_)
  | (refine lCc rfl _ rfl rfl (by first | exact ocV | exact ocM) HO rfl ?_))
 refine (rMarks_any _ _ _ _ _ p.next rfl hn _ (H1.out _ HB).n (H2.out _ HB).n).mono ?_
 rintro e w2 ⟨rfl, hb⟩
 replace HB := HB.trans (hb.mono HB.size)
 replace HN := HN.later hb
 replace HO := HO.later hb
 clear hb
 go_wp2_with (first
  | (refine lSb rfl _ rfl rfl [.slice d1.v.a p.c.V.length d1.v.c, .slice d1.l.a p.c.L.length d1.l.c] confT HN rfl rfl ?_)
  | (refine lSb rfl _ rfl rfl [.slice d2.v.a p.c.V.length d2.v.c, .slice d2.l.a p.c.L.length d2.l.c] confT HO rfl rfl ?_)
  | (refine lSb rfl _ rfl rfl [.int .u64 p.term, .int .u64 p.vote, .int .u64 p.g.base, .int .u64 p.g.bt, .string p.g.snap, .slice d1.e.a p.g.L.length d1.e.c] stabT HN rfl rfl ?_)
  | (refine lSb rfl _ rfl rfl [.int .u64 p.term, .int .u64 p.vote, .int .u64 p.g.base, .int .u64 p.g.bt, .string p.g.snap, .slice d2.e.a p.g.L.length d2.e.c] stabT HO rfl rfl ?_)
  | (refine lCc rfl _ rfl rfl (by first | exact ocV | exact ocM) HN rfl ?_)
  | (refine lCc rfl _ rfl rfl (by first | exact ocV | exact ocM) HO rfl ?_))
 refine (rMarks_any _ _ _ _ _ p.mat rfl hm _ (H1.out _ HB).m (H2.out _ HB).m).mono ?_
 rintro e w2 ⟨rfl, hb⟩
 replace HB := HB.trans (hb.mono HB.size)
 replace HN := HN.later hb
 replace HO := HO.later hb
 clear hb
 have a0 := HN.bx.c 0 _ rfl
 have b0 := HO.bx.c 0 _ rfl
 have a9 := HN.bx.c 9 _ rfl
 have b9 := HO.bx.c 9 _ rfl
 have a10 := HN.bx.c 10 _ rfl
 have b10 := HO.bx.c 10 _ rfl
 have a11 := HN.bx.c 11 _ rfl
 have b11 := HO.bx.c 11 _ rfl
 have a15 := HN.bx.c 15 _ rfl
 have b15 := HO.bx.c 15 _ rfl
 have a16 := HN.bx.c 16 _ rfl
 have b16 := HO.bx.c 16 _ rfl
 have a17 := HN.bx.c 17 _ rfl
 have b17 := HO.bx.c 17 _ rfl
 have a18 := HN.bx.c 18 _ rfl
 have b18 := HO.bx.c 18 _ rfl
 clear HN HO H1 H2 hW hW1
 go_wp2_with fail
 go_ret
 exact ⟨by first | rfl | simp, HB⟩
end Go.Proofs.YtdcpiaoadbbdoaaGreatDoor
