/- The program's Recover, for a tape with power that is read whole, or is cut. -/
import Derived.Test.YtjbhnkigbobhiaaDoorTbn
import Derived.Test.YtjbhnkigbobhiaaDoorVd
import Derived.Test.YtjbhnkigbobhiaaDoorKh
import Derived.Deep.RegionHeld3
namespace Go.Proofs.YtjbhnkigbobhiaaDoor
open Go.RowKit

/-- What Recover answers: the state, the tape. -/
def RecP (w : World) (s : Sg) (t : Tp) (e : Ending) (w' : World) : Prop :=
  ∃ a c, e = .returned (.tuple #[s.val a c, .agg #[.string t.a, .string t.b, .int .i64 t.p, .bool t.o], .int .i64 0]) ∧ Ents w' a s.L ∧ Below w.heap.size w w'
theorem set4_ents {w : World} {a : Option Addr} {L : List En} (h : Ents w a L) {x : Nat} (hne : ∀ q, a = some q → q.block ≠ x) (v0 v1 v2 v3 : Value) : Ents (set4 w x v0 v1 v2 v3) a L :=
  ents_set (ents_set (ents_set (ents_set h hne _ _) hne _ _) hne _ _) hne _ _
set_option maxHeartbeats 2000000 in
theorem rec_whole (x y : ByteArray) (l : List UInt8) (hxy : x ++ y = ⟨l.toArray⟩) (hl : l.length ≤ 262144) (hw : (rdB l).2 = []) (w : World) :
    Calls Tryd.prog 14 #[.agg #[.string x, .string y, .int .i64 (-1), .bool false]] w (RecP w (Sg.fold (rdB l).1) ⟨x, y, -1, false⟩) := by
  have hxs : x.size + y.size ≤ 1125899906842624 := by have h := congrArg ByteArray.size hxy; rw [ByteArray.size_append] at h; have h2 : (⟨l.toArray⟩ : ByteArray).size = l.length := by simp [ByteArray.size]; ; omega
  have hlen : (rdB l).1.length ≤ 140737488351232 := by have := rd_less l l.length; unfold rdB; omega
  have hsz : (⟨l.toArray⟩ : ByteArray).size = l.length := by simp [ByteArray.size]
  obtain ⟨L, hL⟩ : ∃ L, (rdB l).1 = L := ⟨_, rfl⟩
  obtain ⟨s, hs⟩ : ∃ s, Sg.fold L = s := ⟨_, rfl⟩
  rw [hL] at hlen ⊢
  rw [hs]
  have hz : (l.length : Int) - (rdB l).2.length = l.length := by rw [hw]; simp
  have HL := Lib.hid hL
  have HS := Lib.hid hs
  have HZ := Lib.hid hz
  have HX := Lib.hid hxy
  clear hL hz hw hs hxy
  go_enter Tryd.func14, Tryd.ntmps14
  go_wp2_with fail
  have hTb : Tb (((w.alloc (.cells #[.string x, .string y, .int .i64 (-1), .bool false] 44)).alloc (.cells #[.int .u64 0, .int .u64 0, .int .u64 0, .int .u64 0, .string ⟨#[]⟩, .slice none 0 0] 36)).alloc (.cells #[.string ⟨#[]⟩, .string ⟨#[]⟩, .int .i64 0, .bool false] 44)) w.heap.size x y (-1) false := ((Tb.new w w.heap.size rfl _ x y (-1) false).past _).past _
  have hSx : Sx (((w.alloc (.cells #[.string x, .string y, .int .i64 (-1), .bool false] 44)).alloc (.cells #[.int .u64 0, .int .u64 0, .int .u64 0, .int .u64 0, .string ⟨#[]⟩, .slice none 0 0] 36)).alloc (.cells #[.string ⟨#[]⟩, .string ⟨#[]⟩, .int .i64 0, .bool false] 44)) (w.heap.size + 1) Sg.zero none 0 := (Sx.new (by simp) Sg.zero none 0 _).later ((Below.refl _ _).alloc (Nat.le_refl _) _)
  have hTr : Tb (((w.alloc (.cells #[.string x, .string y, .int .i64 (-1), .bool false] 44)).alloc (.cells #[.int .u64 0, .int .u64 0, .int .u64 0, .int .u64 0, .string ⟨#[]⟩, .slice none 0 0] 36)).alloc (.cells #[.string ⟨#[]⟩, .string ⟨#[]⟩, .int .i64 0, .bool false] 44)) (w.heap.size + 1 + 1) ⟨#[]⟩ ⟨#[]⟩ 0 false := Tb.new _ _ (by simp) _ _ _ _ _
  refine (read_any x y (-1) false _ hxs).mono ?_
  rintro e w1 ⟨rfl, hb1⟩
  simp only [tRead, Bool.false_eq_true, if_false]
  rw [HX.out]
  have hB : Below w.heap.size w w1 := Below.trans (by go_grown) (hb1.mono (by simp; omega))
  replace hTb := hTb.later hb1
  replace hSx := hSx.later hb1
  replace hTr := hTr.later hb1
  clear hb1
  go_wp2_with fail
  refine (pRead_any l (by omega) _).mono ?_
  rintro e w2 ⟨v2, rfl, hown2, hb2⟩
  rw [HZ.out]
  rw [HL.out] at hown2
  obtain ⟨a2, c2, rfl, hN2⟩ := nts_of_owns hown2
  have hB2 := hB.trans (hb2.mono hB.size)
  replace hTb := hTb.later hb2
  replace hSx := hSx.later hb2
  replace hTr := hTr.later hb2
  clear hb2 hown2 hB
  go_wp2_with fail
  have HTB := Lib.hid hTb
  have HSX := Lib.hid hSx
  have HTR := Lib.hid hTr
  obtain ⟨q0, q1, q2, q3, qz, ql⟩ := hTb
  obtain ⟨s0, s1, s2, s3, s4, s5, sz, sl⟩ := hSx
  obtain ⟨u0, u1, u2, u3, uz, ul⟩ := hTr
  have HN2 := Lib.hid hN2
  clear hN2
  go_region_with (go_at_call 12; (with_reducible refine (pFold_far a2 _ c2 L rfl hlen _ (HN2.out.later (Below.refl _ _).drew)).mono ?_); rintro e w3 ⟨a', c', rfl, hE', hfar, hb3⟩; obtain ⟨q0', q1', q2', q3', qz', ql'⟩ := HTB.out.later ((Below.refl _ _).drew.trans hb3); obtain ⟨s0', s1', s2', s3', s4', s5', sz', sl'⟩ := HSX.out.later ((Below.refl _ _).drew.trans hb3); obtain ⟨u0', u1', u2', u3', uz', ul'⟩ := HTR.out.later ((Below.refl _ _).drew.trans hb3); have HE' := Lib.hid hE'; have HF := Lib.hid hfar; clear hE' hfar)
  all_goals
    clear q0 q1 q2 q3 qz s0 s1 s2 s3 s4 s5 sz u0 u1 u2 u3 uz
    rw [HS.out] at HE'
    go_wp2_with fail
    refine bodyPost_ret (v := .tuple #[(Sg.fold L).val a' c', .agg #[.string x, .string y, .int .i64 (-1), .bool false], .int .i64 0]) (by simp [results, Tryd.results14, go_sem, s0', s1', s2', s3', s4', s5', u0', u1', u2', u3']) rfl ?_
    refine ⟨a', c', by rw [HS.out], ?_, ?_⟩
    · exact set4_ents (set6_ents HE'.out (fun q e => by have h := HF.out q e; simp at h; omega) (Sg.fold L) a' c') (fun q e => by have h := HF.out q e; simp at h; omega) _ _ _ _
    · exact set4_below (set6_below (hB2.trans (((Below.refl _ _).drew.trans hb3).mono hB2.size)) (by omega) (Sg.fold L) a' c') (by omega)
end Go.Proofs.YtjbhnkigbobhiaaDoor
