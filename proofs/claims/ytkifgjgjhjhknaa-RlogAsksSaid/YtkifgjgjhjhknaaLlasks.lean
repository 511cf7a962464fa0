/- RlogAsks: what a log has, whether it is right, which end is newer, are as the document says. -/
import Derived.Test.YtkifgjgjhjhknaaLr2
namespace Go.Proofs.Ytkifgjgjhjhknaa
open Go.RowKit

theorem keepR {w wp w2 : World} {x : Nat} {v0 v1 v2 v3 : Value} (K : wp.cell? ⟨x, 0, none⟩ = some v0 ∧ wp.cell? ⟨x, 1, none⟩ = some v1 ∧ wp.cell? ⟨x, 2, none⟩ = some v2 ∧ wp.cell? ⟨x, 3, none⟩ = some v3 ∧ x < wp.heap.size ∧ Below w.heap.size w wp) (hb : Below wp.heap.size wp w2) :
    w2.cell? ⟨x, 0, none⟩ = some v0 ∧ w2.cell? ⟨x, 1, none⟩ = some v1 ∧ w2.cell? ⟨x, 2, none⟩ = some v2 ∧ w2.cell? ⟨x, 3, none⟩ = some v3 ∧ x < w2.heap.size ∧ Below w.heap.size w w2 := by
  obtain ⟨k0, k1, k2, k3, hx, hB⟩ := K
  exact ⟨(hb.cell (p := ⟨x, 0, none⟩) hx).trans k0, (hb.cell (p := ⟨x, 1, none⟩) hx).trans k1, (hb.cell (p := ⟨x, 2, none⟩) hx).trans k2, (hb.cell (p := ⟨x, 3, none⟩) hx).trans k3, Nat.lt_of_lt_of_le hx hb.size, hB.trans (hb.mono hB.size)⟩
set_option maxHeartbeats 4000000 in
theorem law_RlogAsks (base bt n c i t : Nat) (snap : ByteArray) (a : Option Addr) (L : List En) (hn : L.length = n) (hl : n ≤ 140737488351232) (hi : i < 18446744073709551616) (w : World) (hE : Ents w a L) :
    Calls Try.prog 3 #[.agg #[.int .u64 base, .int .u64 bt, .string snap, .slice a n c], .int .u64 i, .int .u64 t] w fun e w' => e = .returned (.bool true) ∧ Below w.heap.size w w' := by
  have B0 : Below w.heap.size w (w.alloc (.cells #[.int .u64 base, .int .u64 bt, .string snap, .slice a n c] 25)) := (Below.refl _ _).alloc (Nat.le_refl _) _
  have L0 := Lb.new (w := w) rfl base bt snap (.slice a n c) 25
  have HE := Lib.hid hE
  have HN := Lib.hid hn
  obtain ⟨q, hq⟩ : ∃ q, base + n = q := ⟨_, rfl⟩
  obtain ⟨lt, hlt⟩ : ∃ lt, lastT bt L = lt := ⟨_, rfl⟩
  obtain ⟨p, hp⟩ : ∃ p, tAt base bt L i = p := ⟨_, rfl⟩
  obtain ⟨u, o⟩ := p
  obtain ⟨rr, hrr⟩ : ∃ rr, rightB ⟨base, bt, snap, L⟩ = rr := ⟨_, rfl⟩
  obtain ⟨nn, hnn⟩ : ∃ nn, newB t i lt q = nn := ⟨_, rfl⟩
  have HQ := Lib.hid hq
  have HT := Lib.hid hlt
  have HP := Lib.hid hp
  have HR := Lib.hid hrr
  have HNN := Lib.hid hnn
  clear hE hn hq hlt hp hrr hnn
  by_cases hb : 4611686018427387903 < base
  · have g : (4611686018427387903 : Int) < (base : Int) := by omega
    go_enter Try.func3, Try.ntmps3
    go_wp2_with fail
    refine (shown_any _).mono ?_
    rintro e w1 ⟨rfl, hb1⟩
    obtain ⟨l0, l1, l2, l3, lz, ll⟩ := L0.later hb1
    have B1 := B0.trans (hb1.mono B0.size)
    clear hb1
    go_wp2_with fail
    go_ret
    exact ⟨rfl, B1⟩
  have g : ¬ (4611686018427387903 : Int) < (base : Int) := by omega
  have hb' : base < 4611686018427387904 := by omega
  clear hb
  go_enter Try.func3, Try.ntmps3
  go_wp2_with fail
  refine (shown_any _).mono ?_
  rintro e w1 ⟨rfl, hb1⟩
  obtain ⟨l0, l1, l2, l3, lz, ll⟩ := L0.later hb1
  have B1 := B0.trans (hb1.mono B0.size)
  have K1 := Lib.hid (show w1.cell? ⟨w.heap.size, 0, none⟩ = some (.int .u64 base) ∧ w1.cell? ⟨w.heap.size, 1, none⟩ = some (.int .u64 bt) ∧ w1.cell? ⟨w.heap.size, 2, none⟩ = some (.string snap) ∧ w1.cell? ⟨w.heap.size, 3, none⟩ = some (.slice a n c) ∧ w.heap.size < w1.heap.size ∧ Below w.heap.size w w1 from ⟨l0, l1, l2, l3, ll, B1⟩)
  clear hb1 L0 B0
  go_wp2_with fail
  refine (pLast_any base bt n c snap a L HN.out hl hb' _ (HE.out.later B1)).mono ?_
  rintro e w2 ⟨rfl, hb2⟩
  rw [HQ.out, HT.out]
  have K2 := Lib.hid (keepR K1.out hb2)
  clear hb2 l0 l1 l2 l3 lz ll B1
  obtain ⟨l0, l1, l2, l3, ll, B2⟩ := K2.out
  go_wp2_with fail
  refine (rLast_any base bt n c snap a L HN.out hl hb' _ (HE.out.later B2)).mono ?_
  rintro e w3 ⟨rfl, hb3⟩
  rw [HQ.out, HT.out]
  have K3 := Lib.hid (keepR K2.out hb3)
  clear hb3 l0 l1 l2 l3 ll B2
  obtain ⟨l0, l1, l2, l3, ll, B3⟩ := K3.out
  go_wp2_with fail
  refine (pTermAt_any base bt n c i snap a L HN.out hl hb' hi _ (HE.out.later B3)).mono ?_
  rintro e w4 ⟨rfl, hb4⟩
  rw [HP.out]
  have K4 := Lib.hid (keepR K3.out hb4)
  clear hb4 l0 l1 l2 l3 ll B3
  obtain ⟨l0, l1, l2, l3, ll, B4⟩ := K4.out
  go_wp2_with fail
  refine (rTermAt_any base bt n c i snap a L HN.out hl hb' hi _ (HE.out.later B4)).mono ?_
  rintro e w5 ⟨rfl, hb5⟩
  rw [HP.out]
  have K5 := Lib.hid (keepR K4.out hb5)
  clear hb5 l0 l1 l2 l3 ll B4
  go_upto_region 8 with fail
  have K6 : w5.drew.cell? ⟨w.heap.size, 0, none⟩ = some (.int .u64 base) ∧ w5.drew.cell? ⟨w.heap.size, 1, none⟩ = some (.int .u64 bt) ∧ w5.drew.cell? ⟨w.heap.size, 2, none⟩ = some (.string snap) ∧ w5.drew.cell? ⟨w.heap.size, 3, none⟩ = some (.slice a n c) ∧ w.heap.size < w5.drew.heap.size ∧ Below w.heap.size w w5.drew := keepR K5.out (Below.refl _ _).drew
  go_region_held3 (fun w' => w'.cell? ⟨w.heap.size, 0, none⟩ = some (.int .u64 base) ∧ w'.cell? ⟨w.heap.size, 1, none⟩ = some (.int .u64 bt) ∧ w'.cell? ⟨w.heap.size, 2, none⟩ = some (.string snap) ∧ w'.cell? ⟨w.heap.size, 3, none⟩ = some (.slice a n c) ∧ w.heap.size < w'.heap.size ∧ Below w.heap.size w w')
    (first | (with_reducible assumption) | go_keep)
    (first
      | (go_at_call 14; (with_reducible refine (pRight_any base bt n c snap a L HN.out hl _ (HE.out.later K6.2.2.2.2.2)).mono ?_); rintro e w6 ⟨rfl, hb6⟩; rw [HR.out]; have K7 := keepR K6 hb6)
      | (go_at_call 15; (with_reducible refine (rRight_any base bt n c snap a L HN.out hl _ (HE.out.later K7.2.2.2.2.2)).mono ?_); rintro e w7 ⟨rfl, hb7⟩; rw [HR.out]; have K8 := keepR K7 hb7)
      | (go_at_call 16; (with_reducible refine (pNewer_any t i lt q _).mono ?_); rintro e w8 ⟨rfl, rfl⟩; rw [HNN.out])
      | (go_at_call 17; (with_reducible refine (rNewer_any t i lt q _).mono ?_); rintro e w9 ⟨rfl, rfl⟩; rw [HNN.out]))
  all_goals
    have B9 := K8.2.2.2.2.2
    clear K6 K7 K8
    go_wp2_with fail
    go_ret
    exact ⟨by simp, B9⟩
end Go.Proofs.Ytkifgjgjhjhknaa
