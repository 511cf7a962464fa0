/- BallotSays: a node's first voice counts, and others' stand as they were. -/
import Derived.Test.YtmcmanjniloeaaaWg
import Derived.Deep.RegionHeld3
namespace Go.Proofs.Ytmcmanjniloeaaa
open Go.RowKit

def KV (w : World) (i : Nat) (y : Bool) (w' : World) : Prop := w'.cell? ⟨w.heap.size, 0, none⟩ = some (.int .u64 i) ∧ w'.cell? ⟨w.heap.size, 1, none⟩ = some (.bool y) ∧ w.heap.size < w'.heap.size ∧ Below w.heap.size w w'
theorem keepV {w : World} {i : Nat} {y : Bool} {w1 w2 : World} (h : w1.cell? ⟨w.heap.size, 0, none⟩ = some (.int .u64 i) ∧ w1.cell? ⟨w.heap.size, 1, none⟩ = some (.bool y) ∧ w.heap.size < w1.heap.size ∧ Below w.heap.size w w1) (hb : Below w1.heap.size w1 w2) :
    w2.cell? ⟨w.heap.size, 0, none⟩ = some (.int .u64 i) ∧ w2.cell? ⟨w.heap.size, 1, none⟩ = some (.bool y) ∧ w.heap.size < w2.heap.size ∧ Below w.heap.size w w2 :=
  ⟨(hb.cell (p := ⟨w.heap.size, 0, none⟩) h.2.2.1).trans h.1, (hb.cell (p := ⟨w.heap.size, 1, none⟩) h.2.2.1).trans h.2.1, Nat.lt_of_lt_of_le h.2.2.1 hb.size, h.2.2.2.trans (hb.mono h.2.2.2.size)⟩
set_option maxRecDepth 100000 in
set_option maxHeartbeats 4000000 in
theorem law_BallotSays (i n c : Nat) (y : Bool) (a : Option Addr) (L : List Vo) (hn : L.length = n) (hl : n * 16 ≤ 140737488351232) (w : World) (hE : Vs w a L) :
    Calls Try.prog 4 #[.slice a n c, .agg #[.int .u64 i, .bool y]] w fun e w' => e = .returned (.bool true) ∧ Below w.heap.size w w' := by
  have HN := Lib.hid hn
  have HE := Lib.hid hE
  have HB := Lib.hid (Vb.new (w := w) rfl i y 33)
  have HW := Lib.hid (show Below w.heap.size w (w.alloc (.cells #[.int .u64 i, .bool y] 33)) by go_grown)
  obtain ⟨m, hm⟩ : ∃ m, (sayL L i y).length = m := ⟨_, rfl⟩
  have hml : m ≤ 140737488351232 := by have := sayL_len L i y; omega
  have HM := Lib.hid hm
  clear hn hE hm
  go_enter Try.func4, Try.ntmps4
  go_wp2_with fail
  generalize w.alloc (.cells #[.int .u64 i, .bool y] 33) = W at *
  refine (shown_any _).mono ?_
  rintro e w1 ⟨rfl, hb1⟩
  obtain ⟨v0, v1, vl⟩ := HB.out.later hb1
  have HW1 := Lib.hid (HW.out.trans (hb1.mono HW.out.size))
  clear hb1
  go_wp2_with fail
  have K1 : w1.drew.cell? ⟨w.heap.size, 0, none⟩ = some (.int .u64 i) ∧ w1.drew.cell? ⟨w.heap.size, 1, none⟩ = some (.bool y) ∧ w.heap.size < w1.drew.heap.size ∧ Below w.heap.size w w1.drew := ⟨v0, v1, vl, HW1.out.drew⟩
  clear v0 v1 vl
  go_region_held3 (fun w' => w'.cell? ⟨w.heap.size, 0, none⟩ = some (.int .u64 i) ∧ w'.cell? ⟨w.heap.size, 1, none⟩ = some (.bool y) ∧ w.heap.size < w'.heap.size ∧ Below w.heap.size w w')
    (first | (with_reducible assumption) | go_keep)
    (first
      | (go_at_call 12; (first | (with_reducible refine (pSay_any i n c y a L HN.out hl _ (HE.out.later K2.2.2.2)).mono ?_) | (with_reducible refine (pSay_any i n c y a L HN.out hl _ (HE.out.later K1.2.2.2)).mono ?_)); rintro e wp ⟨vp, rfl, hcp, hbp⟩; obtain ⟨ap, cp, rfl, hsp, _⟩ := hcp.form voT; rw [HM.out]; have HSP := Lib.hid hsp; have HBP := Lib.hid hbp; first | (have K3 := keepV K2 hbp) | (have K2 := keepV K1 hbp))
      | (go_at_call 13; (first | (with_reducible refine (rSay_any i n c y a L HN.out hl _ (HE.out.later K2.2.2.2)).mono ?_) | (with_reducible refine (rSay_any i n c y a L HN.out hl _ (HE.out.later K1.2.2.2)).mono ?_)); rintro e wq ⟨vq, rfl, hcq, hbq⟩; obtain ⟨aq, cq, rfl, hsq, _⟩ := hcq.form voT; rw [HM.out]; have HSQ := Lib.hid hsq; have HBQ := Lib.hid hbq; first | (have K3 := keepV K2 hbq) | (have K2 := keepV K1 hbq))
      | (go_at_call 11; (first | (with_reducible refine (rVoices_same m cp cq ap aq (sayL L i y) HM.out hml _ (HSP.out.later HBQ.out) HSQ.out).mono ?_) | (with_reducible refine (rVoices_same m cp cq ap aq (sayL L i y) HM.out hml _ HSP.out (HSQ.out.later HBP.out)).mono ?_)); rintro e wr ⟨rfl, hbr⟩; have K4 := keepV K3 hbr))
  all_goals
    have B9 := K4.2.2.2
    clear K1 K2 K3 K4
    go_wp2_with fail
    go_ret
    exact ⟨by simp, B9⟩
end Go.Proofs.Ytmcmanjniloeaaa
