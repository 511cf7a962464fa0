/- Do a message's entries fit? -/
import Derived.Test.YtdcpiaoadbbdoaaGreatDoorRtake
import Derived.Test.YtdcpiaoadbbdoaaGreatDoorQri
import Derived.Test.YtdcpiaoadbbdoaaGreatDoorQhea
import Derived.Test.YtdcpiaoadbbdoaaGreatDoorQc
set_option maxRecDepth 100000
set_option maxHeartbeats 16000000
namespace Go.Proofs.YtdcpiaoadbbdoaaGreatDoor
open Go.RowKit

def ft0 (ml mt bt : Nat) (es : List En) : Prop := rightB ⟨0, ml, ⟨#[]⟩, es⟩ = true ∧ ml ≤ mt ∧ bt ≤ ml
def ft1 (mt bt : Nat) (x : En) : Prop := x.t ≤ mt ∧ x.d.size ≤ 4096 ∧ bt ≤ x.t
def FtP (ml mt bt : Nat) (es : List En) (w : World) (e : Ending) (w' : World) : Prop := ∃ b, e = .returned (.bool b) ∧ (b = true → ft0 ml mt bt es ∧ ∀ x ∈ es, ft1 mt bt x) ∧ Below w.heap.size w w'
theorem rFits_any (mk : Int) (mf md mt mi ml mc : Nat) (mo : Bool) (mes : List En) (ms : ByteArray) (ma : Option Addr) (mcap : Nat) (hes : mes.length ≤ 140737488351232) (hsz : ∀ x ∈ mes, x.d.size ≤ 140737488351232) (t v gb bt : Nat) (sn : ByteArray) (sa : Option Addr) (sl sc : Nat) (w : World) (hE : Ents w ma mes) :
 Calls Tryz.prog 21 #[.agg #[.int .i64 mk, .int .u64 mf, .int .u64 md, .int .u64 mt, .int .u64 mi, .int .u64 ml, .int .u64 mc, .bool mo, .slice ma mes.length mcap, .string ms], .agg #[.int .u64 t, .int .u64 v, .int .u64 gb, .int .u64 bt, .string sn, .slice sa sl sc]] w (FtP ml mt bt mes w) := by
 obtain ⟨n, hn⟩ : ∃ n, mes.length = n := ⟨_, rfl⟩
 have HNN := hI_ hn
 rw [hn] at hes ⊢
 obtain ⟨W0, xm, hW0, hxm, B0, HG, Z0⟩ := bk_new w #[.int .i64 mk, .int .u64 mf, .int .u64 md, .int .u64 mt, .int .u64 mi, .int .u64 ml, .int .u64 mc, .bool mo, .slice ma n mcap, .string ms] 59
 obtain ⟨W1, xs, hW1, hxs, B1, HS, Z1⟩ := bk_new W0 #[.int .u64 t, .int .u64 v, .int .u64 gb, .int .u64 bt, .string sn, .slice sa sl sc] 30
 obtain ⟨W2, xl, hW2, hxl, B2, HL, Z2⟩ := bk_new W1 #[.int .u64 0, .int .u64 ml, .string ⟨#[]⟩, .slice ma n mcap] 28
 have B0' : Below w.heap.size w W0 := hxm ▸ B0
 have B1' : Below W0.heap.size W0 W1 := hxs ▸ B1
 have B2' : Below W1.heap.size W1 W2 := hxl ▸ B2
 have HG1 := HG.later B1'
 replace HG := HG1.later B2'
 replace HS := HS.later B2'
 have HB1 := B0'.trans (B1'.mono B0'.size)
 have HB := HB1.trans (B2'.mono HB1.size)
 have HE := hI_ hE
 obtain ⟨rb, hrb⟩ : ∃ b, rightB ⟨0, ml, ⟨#[]⟩, mes⟩ = b := ⟨_, rfl⟩
 have HRT := hI_ (show ∀ w1, Ents w1 ma mes → Calls Tryz.prog 64 #[.agg #[.int .u64 0, .int .u64 ml, .string ⟨#[]⟩, .slice ma n mcap]] w1 fun e w' => e = .returned (.bool rb) ∧ Below w1.heap.size w1 w' from fun w1 h => by
  have h5 := rRight_any 0 ml n mcap ⟨#[]⟩ ma mes hn (by omega) w1 h
  rw [hrb] at h5; exact h5)
 have HRB := hI_ hrb
 have HSZ := hI_ hsz
 clear hE hn hrb hsz B0 B1 B2 B0' B1' B2' HB1
 go_enter Tryz.func21, Tryz.ntmps21
 go_wp2_with (first
  | (refine lBk rfl _ rfl rfl logT HL rfl ?_)
  | (refine lCc rfl _ rfl rfl (by first | exact ocU | exact ocE) (by assumption) rfl ?_))
 refine (HRT.out _ (HE.out.later HB)).mono ?_
 rintro e w2 ⟨rfl, hb⟩
 replace HB := HB.trans (hb.mono HB.size)
 replace HG := HG.later hb
 replace HS := HS.later hb
 clear hb HL HG1
 have cm5 := HG.bx.c 5 _ rfl
 have cm3 := HG.bx.c 3 _ rfl
 have cs3 := HS.bx.c 3 _ rfl
 go_upto_region 3 with fail
 go_cut [7] (fun ov wx => ∃ b, ov = .bool b ∧ (b = true → ft0 ml mt bt mes) ∧ wx = w2)
 case first =>
  cases rb
  case false =>
   go_wp2_with fail
   go_meet
   exact ⟨false, rfl, fun h => (by cases h), rfl⟩
  case true =>
   by_cases h1 : ml ≤ mt
   · have g1 : decide ((ml : Int) ≤ (mt : Int)) = true := by simp; omega
     by_cases h2 : bt ≤ ml
     · have g2 : decide ((bt : Int) ≤ (ml : Int)) = true := by simp; omega
       have HY := hI_ (show ft0 ml mt bt mes from ⟨HRB.out, h1, h2⟩)
       go_wp2_with fail
       go_meet
       exact ⟨true, rfl, fun _ => HY.out, rfl⟩
     · have g2 : decide ((bt : Int) ≤ (ml : Int)) = false := by simp; omega
       go_wp2_with fail
       go_meet
       exact ⟨false, rfl, fun h => (by cases h), rfl⟩
   · have g1 : decide ((ml : Int) ≤ (mt : Int)) = false := by simp; omega
     go_wp2_with fail
     go_meet
     exact ⟨false, rfl, fun h => (by cases h), rfl⟩
 case rest =>
  obtain ⟨b0, rfl, hb0, rfl⟩ := hcut
  have H0 := hI_ hb0
  clear hb0 cm5 cm3 cs3
  go_wp2_with fail
  go_loopw [7, 8] (fun ov i wr => ∃ (k : Nat) (b : Bool), k ≤ n ∧ i = .int .i64 k ∧ ov = .bool b ∧ (b = true → ft0 ml mt bt mes ∧ ∀ j x, j < k → mes[j]? = some x → ft1 mt bt x) ∧ Bk wr xm 59 [.int .i64 mk, .int .u64 mf, .int .u64 md, .int .u64 mt, .int .u64 mi, .int .u64 ml, .int .u64 mc, .bool mo, .slice ma n mcap, .string ms] ∧ Bk wr xs 30 [.int .u64 t, .int .u64 v, .int .u64 gb, .int .u64 bt, .string sn, .slice sa sl sc] ∧ Below w.heap.size w wr) (fun _ i _ => n - (intOf i).toNat)
  case atStart => exact ⟨0, b0, Nat.zero_le _, rfl, rfl, fun h => ⟨H0.out h, fun j x hj => absurd hj (Nat.not_lt_zero _)⟩, HG, HS, HB⟩
  case round =>
   obtain ⟨k, b, hk, rfl, rfl, hbb, HG, HS, HB⟩ := hrel
   have HBB := hI_ hbb
   clear hbb
   have cm8 := HG.bx.c 8 _ rfl
   have cm3 := HG.bx.c 3 _ rfl
   have cs3 := HS.bx.c 3 _ rfl
   by_cases hlt : k < n
   · obtain ⟨x, hx⟩ : ∃ x, mes[k]? = some x := ⟨_, List.getElem?_eq_getElem (by rw [HNN.out]; exact hlt)⟩
     have HX := hI_ hx
     have i0 : (0 : Int) ≤ (k : Int) := by omega
     have i1 : (k : Int) < (n : Int) := by omega
     obtain ⟨q, off, rfl, hq, p0, p1⟩ := (HE.out.later HB) k x hx
     clear hx
     have HN1 := hI_ (show ∀ b', (b' = true → b = true ∧ ft1 mt bt x) → b' = true → ft0 ml mt bt mes ∧ ∀ j y, j < k + 1 → mes[j]? = some y → ft1 mt bt y from fun b' h h' => ⟨(HBB.out (h h').1).1, fun j y hj hy => by
      by_cases e : j = k
      · subst e; rw [HX.out] at hy; cases hy; exact (h h').2
      · exact (HBB.out (h h').1).2 j y (by omega) hy⟩)
     have HD := hI_ (fun (j : Nat) => And.intro (HG.later (below_drewN (Below.refl _ _) j)) (And.intro (HS.later (below_drewN (Below.refl _ _) j)) (below_drewN HB j)))
     cases b
     case false =>
      go_wp2_with fail
      go_quiet (fail)
      go_wp2_with fail
      go_roundw
      case rel => exact ⟨k + 1, false, by omega, by go_num, rfl, HN1.out _ (fun h => by cases h), (HD.out _).1, (HD.out _).2.1, (HD.out _).2.2⟩
      case measure => simp [intOf]; omega
     case true =>
      by_cases h1 : x.t ≤ mt
      case neg =>
       have g1 : decide ((x.t : Int) ≤ (mt : Int)) = false := by simp; omega
       go_wp2_with fail
       go_quiet (fail)
       go_wp2_with fail
       go_roundw
       case rel => exact ⟨k + 1, false, by omega, by go_num, rfl, HN1.out _ (fun h => by cases h), (HD.out _).1, (HD.out _).2.1, (HD.out _).2.2⟩
       case measure => simp [intOf]; omega
      have g1 : decide ((x.t : Int) ≤ (mt : Int)) = true := by simp; omega
      by_cases h2 : x.d.size ≤ 4096
      case neg =>
       have g2 : decide ((x.d.size : Int) ≤ 4096) = false := by simp; omega
       go_wp2_with fail
       go_quiet (fail)
       go_wp2_with fail
       go_roundw
       case rel => exact ⟨k + 1, false, by omega, by go_num, rfl, HN1.out _ (fun h => by cases h), (HD.out _).1, (HD.out _).2.1, (HD.out _).2.2⟩
       case measure => simp [intOf]; omega
      have g2 : decide ((x.d.size : Int) ≤ 4096) = true := by simp; omega
      by_cases h3 : bt ≤ x.t
      · have g3 : decide ((bt : Int) ≤ (x.t : Int)) = true := by simp; omega
        have HY := hI_ (show ft1 mt bt x from ⟨h1, h2, h3⟩)
        go_wp2_with fail
        go_quiet (fail)
        go_wp2_with fail
        go_roundw
        case rel => exact ⟨k + 1, true, by omega, by go_num, rfl, HN1.out _ (fun _ => ⟨by first | rfl | trivial, HY.out⟩), (HD.out _).1, (HD.out _).2.1, (HD.out _).2.2⟩
        case measure => simp [intOf]; omega
      · have g3 : decide ((bt : Int) ≤ (x.t : Int)) = false := by simp; omega
        go_wp2_with fail
        go_quiet (fail)
        go_wp2_with fail
        go_roundw
        case rel => exact ⟨k + 1, false, by omega, by go_num, rfl, HN1.out _ (fun h => by cases h), (HD.out _).1, (HD.out _).2.1, (HD.out _).2.2⟩
        case measure => simp [intOf]; omega
   · obtain rfl : k = n := by omega
     have i1 : ¬ (k : Int) < (k : Int) := by omega
     go_wp2_with fail
     go_ret
     exact ⟨b, rfl, fun h => ⟨(HBB.out h).1, fun x hx => by
      obtain ⟨j, hj⟩ := List.mem_iff_getElem?.1 hx
      exact (HBB.out h).2 j x (by rw [← HNN.out]; exact (List.getElem?_eq_some_iff.1 hj).1) hj⟩, HB⟩
theorem ft_of {m : Mg} {g : Lg} (h0 : ft0 m.lt m.term g.bt m.es) (h1 : ∀ x ∈ m.es, ft1 m.term g.bt x) : Ft m g := by
 have hr := h0.1
 unfold rightB at hr
 simp only [Bool.and_eq_true, Bool.not_eq_true'] at hr
 obtain ⟨a, b⟩ := fallB_no hr.2
 exact ⟨a, b, fun x hx => by have := h1 x hx; exact ⟨this.2.2, this.1, this.2.1⟩⟩
end Go.Proofs.YtdcpiaoadbbdoaaGreatDoor
