/- The program's Compact. -/
import Derived.Test.YtjbhnkigbobhiaaDoorBk
import Derived.Test.YtjbhnkigbobhiaaDoorBd
import Derived.Test.YtjbhnkigbobhiaaDoorVn
import Derived.Test.YtjbhnkigbobhiaaDoorMl
import Derived.Test.YtjbhnkigbobhiaaDoorTbn
namespace Go.Proofs.YtjbhnkigbobhiaaDoor
open Go.RowKit

theorem bld_later {B b : Nat} {p : Value} {bs : List Value} {w w' : World} (h : Lib.BuilderAt 71 5 B b p bs w) (hb : Below w.heap.size w w') : Lib.BuilderAt 71 5 B b p bs w' := by
  have hlt := h.lt
  obtain ⟨hB, v, hk, hown, hne⟩ := h
  exact ⟨hB, v, (hb.block b hlt).trans hk, hown.kept (row := none) ⟨hb.os, hb.tape, hb.output, hb.size, fun j hj _ => hb.block j hj⟩ (by cases hv : v.ownBlock <;> simp), hne⟩
theorem isb_later {B b : Nat} {bs : List Value} {w w' : World} (h : Lib.IsBuilder 71 5 B b bs w) (hb : Below w.heap.size w w') : Lib.IsBuilder 71 5 B b bs w' := by
  rcases h with h | h
  · exact .inl (bld_later h hb)
  · exact .inr (bld_later h hb)
theorem strCells_mk (l : List UInt8) : Lib.strCells ⟨l.toArray⟩ = Lib.byteCells l := by simp [Lib.strCells, Lib.byteCells]
theorem byteCells_app (a b : List UInt8) : Lib.byteCells (a ++ b) = Lib.byteCells a ++ Lib.byteCells b := by simp [Lib.byteCells]
theorem Tb.under {w w' : World} {B x : Nat} {a b : ByteArray} {p : Int} {o : Bool} (T : Tb w x a b p o) (hx : x < B) (h : Below B w w') : Tb w' x a b p o :=
  ⟨(h.cell (p := ⟨x, 0, none⟩) hx).trans T.h0, (h.cell (p := ⟨x, 1, none⟩) hx).trans T.h1, (h.cell (p := ⟨x, 2, none⟩) hx).trans T.h2, (h.cell (p := ⟨x, 3, none⟩) hx).trans T.h3, fun i => (h.frozen (p := ⟨x, i, none⟩) hx).trans (T.fz i), Nat.lt_of_lt_of_le T.hx h.size⟩
set_option maxRecDepth 100000 in
set_option maxHeartbeats 4000000 in
theorem pCompact_yes (x y : ByteArray) (p : Int) (o : Bool) (term vote base bt n c : Nat) (snap : ByteArray) (a : Option Addr) (L : List En) (hn : L.length = n) (hl : n ≤ 140737488351232) (hs : snap.size ≤ 140737488351232) (hD : ∀ x ∈ L, x.d.size ≤ 140737488351232) (hP : p ≤ 9223372036854775807) (w : World) (hE : Ents w a L) (hyes : stOk term vote base bt snap L) (hT : Tz w) :
    Calls Tryd.prog 13 #[.agg #[.string x, .string y, .int .i64 p, .bool o], .agg #[.int .u64 term, .int .u64 vote, .int .u64 base, .int .u64 bt, .string snap, .slice a n c]] w fun e w' =>
      e = outT (tInstall ⟨x, y, p, o⟩ ⟨(catB (leastL term vote base bt snap L)).toArray⟩) ∧ Below w.heap.size w w' := by
  have hok := least_ok term vote base bt snap L hyes
  have hNl := least_len term vote base bt snap L
  have hcl := catB_len _ hok
  have h1024 : L.length ≤ 1024 := hyes.2.2.2.1
  have hpos : catB (leastL term vote base bt snap L) ≠ [] := by
    have hp := noteB_pos ⟨1, 0, term, vote, ⟨#[]⟩⟩
    intro e
    have := congrArg List.length e
    unfold leastL headL catB at this
    simp only [List.cons_append, List.flatMap_cons, List.length_append, List.length_nil] at this
    omega
  have hTb : Tb (((w.alloc (.cells #[.string x, .string y, .int .i64 p, .bool o] 44)).alloc (.cells #[.int .u64 term, .int .u64 vote, .int .u64 base, .int .u64 bt, .string snap, .slice a n c] 36)).alloc (.cells #[.string ⟨#[]⟩, .string ⟨#[]⟩, .int .i64 0, .bool false] 44)) w.heap.size x y p o := ((Tb.new w w.heap.size rfl _ x y p o).past _).past _
  have hTr : Tb (((w.alloc (.cells #[.string x, .string y, .int .i64 p, .bool o] 44)).alloc (.cells #[.int .u64 term, .int .u64 vote, .int .u64 base, .int .u64 bt, .string snap, .slice a n c] 36)).alloc (.cells #[.string ⟨#[]⟩, .string ⟨#[]⟩, .int .i64 0, .bool false] 44)) (w.heap.size + 1 + 1) ⟨#[]⟩ ⟨#[]⟩ 0 false := Tb.new _ _ (by simp) _ _ _ _ _
  have hB : Below w.heap.size w (((w.alloc (.cells #[.string x, .string y, .int .i64 p, .bool o] 44)).alloc (.cells #[.int .u64 term, .int .u64 vote, .int .u64 base, .int .u64 bt, .string snap, .slice a n c] 36)).alloc (.cells #[.string ⟨#[]⟩, .string ⟨#[]⟩, .int .i64 0, .bool false] 44)) := by go_grown
  have hE2 := hE.later hB
  obtain ⟨N, hN⟩ : ∃ N, leastL term vote base bt snap L = N := ⟨_, rfl⟩
  have hLe := fun w0 (h0 : Ents w0 a L) => pLeast_yes term vote base bt n c snap a L hn hl hs hD w0 h0 hyes
  rw [hN] at hok hNl hcl hpos ⊢
  simp only [hN] at hLe
  have hNn : N.length ≤ 1026 := by omega
  have hc0 : (catB N).length ≤ 4250000 := by omega
  obtain ⟨cb, hcb⟩ : ∃ cb, catB N = cb := ⟨_, rfl⟩
  rw [hcb] at hc0 hpos ⊢
  obtain ⟨r, hr⟩ : ∃ r, tInstall ⟨x, y, p, o⟩ ⟨cb.toArray⟩ = r := ⟨_, rfl⟩
  have hin := fun w0 => install_any x y ⟨cb.toArray⟩ p o w0 hP (by rw [size_arr]; omega)
  simp only [hr] at hin
  rw [hr]
  have HIN := Lib.hid hin
  have HCB := Lib.hid hcb
  clear hr hin hcb
  have HLE := Lib.hid hLe
  have HOK := Lib.hid hok
  have HPOS := Lib.hid hpos
  have HE2 := Lib.hid hE2
  obtain ⟨m, hm⟩ : ∃ m, N.length = m := ⟨_, rfl⟩
  rw [hm] at hNn
  have HM := Lib.hid hm
  clear hLe hok hpos hN hyes hD hE hE2 hcl hNl hm hn h1024
  go_enter Tryd.func13, Tryd.ntmps13
  go_wp2_with fail
  refine (HLE.out _ HE2.out).mono ?_
  rintro e w1 ⟨v1, rfl, hown, hb1⟩
  obtain ⟨a1, c1, rfl, hN1⟩ := nts_of_owns hown
  rw [HM.out]
  have B1 := hB.trans (hb1.mono hB.size)
  have hT1 := hTb.later hb1
  have hR1 := hTr.later hb1
  have hTz1 : Tz w1 := hT.below (B1.mono hT.n)
  have hw1 : w.heap.size + 2 < w1.heap.size := by have := hb1.size; simp at this; omega
  have hbl := Lib.fresh_isBuilder 71 5 w1
  have hBl : Below w1.heap.size w1 (w1.alloc (.cells #[.pointer none, .slice none 0 0] 71)) := (Below.refl _ _).alloc (Nat.le_refl _) _
  have HBL := Lib.hid hbl
  clear hown hTb hTr hB hb1 hbl HLE HE2
  go_wp2_with fail
  go_loopw [24] (fun i wr => ∃ k : Nat, k ≤ m ∧ i = .int .i64 k ∧ Lib.IsBuilder 71 5 w1.heap.size w1.heap.size (Lib.byteCells (catB (N.take k))) wr ∧ Below w1.heap.size w1 wr) (fun i _ => m - (intOf i).toNat)
  case atStart => exact ⟨0, Nat.zero_le _, rfl, HBL.out, hBl⟩
  case round =>
    clear HBL hBl
    obtain ⟨k, hk, rfl, hbd, C⟩ := hrel
    have HBD := Lib.hid hbd
    clear hbd
    have hsz := C.size
    by_cases hlt : k < m
    · have hkl : k < N.length := by have := HM.out; omega
      obtain ⟨z, hz⟩ : ∃ z, N[k]? = some z := ⟨_, List.getElem?_eq_getElem hkl⟩
      have hzo : z.ok := HOK.out z (List.mem_of_getElem? hz)
      have hsucc := catB_succ N k z hz
      have hless : (catB (N.take (k + 1))).length ≤ (catB N).length := by
        have e : N = N.take (k + 1) ++ N.drop (k + 1) := (List.take_append_drop _ _).symm
        have e2 : catB N = catB (N.take (k + 1)) ++ catB (N.drop (k + 1)) := by
          conv => lhs; rw [e]
          unfold catB; rw [List.flatMap_append]
        rw [e2, List.length_append]; omega
      rw [hsucc, List.length_append, HCB.out] at hless
      obtain ⟨b, off, rfl, hbb, p0, p1, p2, p3, p4⟩ := (hN1.later C) k z hz
      have i0 : (0 : Int) ≤ (k : Int) := by omega
      have i1 : (k : Int) < (m : Int) := by omega
      have HS := Lib.hid hsucc
      have HZ := Lib.hid hz
      have HZO := Lib.hid hzo
      have HLS := Lib.hid hless
      clear hsucc hz hzo hless hkl
      go_wp2_with fail
      have Ca : Below wr.heap.size wr (wr.alloc (.cells #[.int .i64 z.k, .int .u64 z.i, .int .u64 z.t, .int .u64 z.v, .string z.d] 24)) := (Below.refl _ _).alloc (Nat.le_refl _) _
      refine (pBytes_yes z _ HZO.out ((hTz1.below (C.mono hTz1.n)).below (Ca.mono (by have := hTz1.n; omega)))).mono ?_
      rintro e w2 ⟨rfl, hb2⟩
      have C2 := Ca.trans (hb2.mono Ca.size)
      have HB2 := Lib.hid (isb_later HBD.out C2)
      clear HBD hb2 Ca
      go_wp2_with fail
      refine (writeString_any w1.heap.size w1.heap.size _ _ _ HB2.out (by rw [Lib.byteCells_length, size_arr]; have := HLS.out; omega) (by have := C2.size; omega)).mono ?_
      rintro e w3 ⟨rfl, hb3, hB3⟩
      rw [strCells_mk, ← byteCells_app, ← HS.out] at hb3
      have C3 := (C.trans (C2.mono hsz)).trans hB3
      have HB3 := Lib.hid hb3
      clear HB2 hb3 hB3 C2 C
      go_wp2_with fail
      go_roundw
      case rel => exact ⟨k + 1, by omega, by go_num, .inr HB3.out, C3⟩
      case measure => simp [intOf]; omega
    · obtain rfl : k = m := by omega
      have hbd := HBD.out
      rw [List.take_of_length_le (by have := HM.out; omega)] at hbd
      rw [HCB.out] at hbd
      have HBD2 := Lib.hid hbd
      have hT2 := hT1.under (by omega) C
      have hR2 := hR1.under (by omega) C
      have HTB := Lib.hid hT2
      have HTR := Lib.hid hR2
      obtain ⟨q0, q1, q2, q3, qz, ql⟩ := hT2
      obtain ⟨u0, u1, u2, u3, uz, ul⟩ := hR2
      have HC := Lib.hid C
      clear hbd HBD hT1 hR1 C HOK HM hN1
      go_wp2_with fail
      go_region_with (first
        | (go_at_call 35; (with_reducible refine (builderString_any w1.heap.size w1.heap.size cb _ (isb_later HBD2.out (Below.refl _ _).drew) HPOS.out).mono ?_); rintro e w3 ⟨rfl, hb3⟩; obtain ⟨q0', q1', q2', q3', qz', ql'⟩ := HTB.out.under (B := w1.heap.size) (by omega) ((Below.refl _ _).drew.trans hb3); obtain ⟨u0', u1', u2', u3', uz', ul'⟩ := HTR.out.under (B := w1.heap.size) (by omega) ((Below.refl _ _).drew.trans hb3); have HTR3 := Lib.hid (HTR.out.under (B := w1.heap.size) (by omega) ((Below.refl _ _).drew.trans hb3)); have hC3 := HC.out.trans ((Below.refl _ _).drew.trans hb3))
        | (go_at_call 34; (with_reducible refine (HIN.out _).mono ?_); rintro e w4 ⟨rfl, hb4⟩; obtain ⟨r0, r1, r2, r3, rz, rl⟩ := HTR3.out.later (by first | (with_reducible exact hb4) | (with_reducible exact (Below.refl _ _).drew.trans hb4))))
      all_goals
        clear q0 q1 q2 q3 qz u0 u1 u2 u3 uz
        go_wp2_with fail
        refine bodyPost_ret (v := .tuple #[.agg #[.string r.1.a, .string r.1.b, .int .i64 r.1.p, .bool r.1.o], .int .i64 r.2]) (by simp [results, Tryd.results13, go_sem, r0, r1, r2, r3]) rfl ⟨rfl, ?_⟩
        exact set4_below (B1.trans ((hC3.trans (Below.mono (by first | (with_reducible exact hb4) | (with_reducible exact (Below.refl _ _).drew.trans hb4)) hC3.size)).mono B1.size)) (by omega)
end Go.Proofs.YtjbhnkigbobhiaaDoor
