/- The program's Recover, for a tape with power that is read whole, or is cut. -/
import Derived.Test.YtjbhnkigbobhiaaDoorTbn
import Derived.Test.YtjbhnkigbobhiaaDoorVd
import Derived.Test.YtjbhnkigbobhiaaDoorKs
import Derived.Deep.RegionHeld3
namespace Go.Proofs.YtjbhnkigbobhiaaDoor
open Go.RowKit

/-- What Recover answers: the state, the tape. -/
def RecP (w : World) (s : Sg) (t : Tp) (e : Ending) (w' : World) : Prop :=
  ∃ a c, e = .returned (.tuple #[s.val a c, .agg #[.string t.a, .string t.b, .int .i64 t.p, .bool t.o], .int .i64 0]) ∧ Ents w' a s.L ∧ Below w.heap.size w w'
theorem set4_ents {w : World} {a : Option Addr} {L : List En} (h : Ents w a L) {x : Nat} (hne : ∀ q, a = some q → q.block ≠ x) (v0 v1 v2 v3 : Value) : Ents (set4 w x v0 v1 v2 v3) a L :=
  ents_set (ents_set (ents_set (ents_set h hne _ _) hne _ _) hne _ _) hne _ _
set_option maxHeartbeats 2000000 in
theorem rec_whole (x y : ByteArray) (l : List UInt8) (hxy : x ++ y = ⟨l.toArray⟩) (hl : l.length ≤ 262144) (hw : (rdB l).2 = []) (w : World) :
    Calls Tryd.prog 14 #[.agg #[.string x, .string y, .int .i64 (-1), .bool false]] w (RecP w (Sg.fold (rdB l).1) ⟨x, y, -1, false⟩) := by
  have hxs : x.size + y.size ≤ 1125899906842624 := by have h := congrArg ByteArray.size hxy; rw [ByteArray.size_append] at h; have h2 : (⟨l.toArray⟩ : ByteArray).size = l.length := by simp [ByteArray.size]; ; omega
  have hlen : (rdB l).1.length ≤ 140737488351232 := by have := rd_less l l.length; unfold rdB; omega
  have hsz : (⟨l.toArray⟩ : ByteArray).size = l.length := by simp [ByteArray.size]
  obtain ⟨L, hL⟩ : ∃ L, (rdB l).1 = L := ⟨_, rfl⟩
  obtain ⟨s, hs⟩ : ∃ s, Sg.fold L = s := ⟨_, rfl⟩
  rw [hL] at hlen ⊢
  rw [hs]
  have hz : (l.length : Int) - (rdB l).2.length = l.length := by rw [hw]; simp
  have HL := Lib.hid hL
  have HS := Lib.hid hs
  have HZ := Lib.hid hz
  have HX := Lib.hid hxy
  clear hL hz hw hs hxy
  go_enter Tryd.func14, Tryd.ntmps14
  go_wp2_with fail
  have hTb : Tb (((w.alloc (.cells #[.string x, .string y, .int .i64 (-1), .bool false] 44)).alloc (.cells #[.int .u64 0, .int .u64 0, .int .u64 0, .int .u64 0, .string ⟨#[]⟩, .slice none 0 0] 36)).alloc (.cells #[.string ⟨#[]⟩, .string ⟨#[]⟩, .int .i64 0, .bool false] 44)) w.heap.size x y (-1) false := ((Tb.new w w.heap.size rfl _ x y (-1) false).past _).past _
  have hSx : Sx (((w.alloc (.cells #[.string x, .string y, .int .i64 (-1), .bool false] 44)).alloc (.cells #[.int .u64 0, .int .u64 0, .int .u64 0, .int .u64 0, .string ⟨#[]⟩, .slice none 0 0] 36)).alloc (.cells #[.string ⟨#[]⟩, .string ⟨#[]⟩, .int .i64 0, .bool false] 44)) (w.heap.size + 1) Sg.zero none 0 := (Sx.new (by simp) Sg.zero none 0 _).later ((Below.refl _ _).alloc (Nat.le_refl _) _)
  have hTr : Tb (((w.alloc (.cells #[.string x, .string y, .int .i64 (-1), .bool false] 44)).alloc (.cells #[.int .u64 0, .int .u64 0, .int .u64 0, .int .u64 0, .string ⟨#[]⟩, .slice none 0 0] 36)).alloc (.cells #[.string ⟨#[]⟩, .string ⟨#[]⟩, .int .i64 0, .bool false] 44)) (w.heap.size + 1 + 1) ⟨#[]⟩ ⟨#[]⟩ 0 false := Tb.new _ _ (by simp) _ _ _ _ _
  refine (read_any x y (-1) false _ hxs).mono ?_
  rintro e w1 ⟨rfl, hb1⟩
  simp only [tRead, Bool.false_eq_true, if_false]
  rw [HX.out]
  have hB : Below w.heap.size w w1 := Below.trans (by go_grown) (hb1.mono (by simp; omega))
  replace hTb := hTb.later hb1
  replace hSx := hSx.later hb1
  replace hTr := hTr.later hb1
  clear hb1
  go_wp2_with fail
  refine (pRead_any l (by omega) _).mono ?_
  rintro e w2 ⟨v2, rfl, hown2, hb2⟩
  rw [HZ.out]
  rw [HL.out] at hown2
  obtain ⟨a2, c2, rfl, hN2⟩ := nts_of_owns hown2
  have hB2 := hB.trans (hb2.mono hB.size)
  replace hTb := hTb.later hb2
  replace hSx := hSx.later hb2
  replace hTr := hTr.later hb2
  clear hb2 hown2 hB
  go_wp2_with fail
  have HTB := Lib.hid hTb
  have HSX := Lib.hid hSx
  have HTR := Lib.hid hTr
  obtain ⟨q0, q1, q2, q3, qz, ql⟩ := hTb
  obtain ⟨s0, s1, s2, s3, s4, s5, sz, sl⟩ := hSx
  obtain ⟨u0, u1, u2, u3, uz, ul⟩ := hTr
  have HN2 := Lib.hid hN2
  clear hN2
  go_region_with (go_at_call 12; (with_reducible refine (pFold_far a2 _ c2 L rfl hlen _ (HN2.out.later (Below.refl _ _).drew)).mono ?_); rintro e w3 ⟨a', c', rfl, hE', hfar, hb3⟩; obtain ⟨q0', q1', q2', q3', qz', ql'⟩ := HTB.out.later ((Below.refl _ _).drew.trans hb3); obtain ⟨s0', s1', s2', s3', s4', s5', sz', sl'⟩ := HSX.out.later ((Below.refl _ _).drew.trans hb3); obtain ⟨u0', u1', u2', u3', uz', ul'⟩ := HTR.out.later ((Below.refl _ _).drew.trans hb3); have HE' := Lib.hid hE'; have HF := Lib.hid hfar; clear hE' hfar)
  all_goals
    clear q0 q1 q2 q3 qz s0 s1 s2 s3 s4 s5 sz u0 u1 u2 u3 uz
    rw [HS.out] at HE'
    go_wp2_with fail
    refine bodyPost_ret (v := .tuple #[(Sg.fold L).val a' c', .agg #[.string x, .string y, .int .i64 (-1), .bool false], .int .i64 0]) (by simp [results, Tryd.results14, go_sem, s0', s1', s2', s3', s4', s5', u0', u1', u2', u3']) rfl ?_
    refine ⟨a', c', by rw [HS.out], ?_, ?_⟩
    · exact set4_ents (set6_ents HE'.out (fun q e => by have h := HF.out q e; simp at h; omega) (Sg.fold L) a' c') (fun q e => by have h := HF.out q e; simp at h; omega) _ _ _ _
    · exact set4_below (set6_below (hB2.trans (((Below.refl _ _).drew.trans hb3).mono hB2.size)) (by omega) (Sg.fold L) a' c') (by omega)
end Go.Proofs.YtjbhnkigbobhiaaDoor
/- The program's Recover where the tape is cut: what stands behind the notes is thrown away. -/
namespace Go.Proofs.YtjbhnkigbobhiaaDoor
open Go.RowKit

theorem tIn_any (x y s : ByteArray) (h : s.size ≤ 262144) : tInstall ⟨x, y, -1, false⟩ s = (⟨s, ⟨#[]⟩, -1, false⟩, 0) := by
  unfold tInstall
  rw [if_neg (by simp), if_neg (by omega), if_neg (by simp)]; rfl
theorem Sx.far4 {w : World} {x y : Nat} {s : Sg} {a : Option Addr} {c : Nat} (T : Sx w x s a c) (hne : y ≠ x) (v0 v1 v2 v3 : Value) : Sx (set4 w y v0 v1 v2 v3) x s a c := by
  obtain ⟨c0, c1, c2, c3, c4, c5, fz, lt⟩ := T
  exact ⟨(set4_far hne _ _ _ _ _).trans c0, (set4_far hne _ _ _ _ _).trans c1, (set4_far hne _ _ _ _ _).trans c2, (set4_far hne _ _ _ _ _).trans c3, (set4_far hne _ _ _ _ _).trans c4, (set4_far hne _ _ _ _ _).trans c5, fun i => by rw [set4_frozen]; exact fz i, by rw [set4_size]; exact lt⟩
set_option maxHeartbeats 8000000 in
theorem rec_cut (x y : ByteArray) (l : List UInt8) (z : Nat) (hxy : x ++ y = ⟨l.toArray⟩) (hl : l.length ≤ 262144) (hz : z + (rdB l).2.length = l.length) (hw : (rdB l).2 ≠ []) (w : World) :
    Calls Tryd.prog 14 #[.agg #[.string x, .string y, .int .i64 (-1), .bool false]] w (RecP w (Sg.fold (rdB l).1) ⟨(⟨l.toArray⟩ : ByteArray).extract 0 z, ⟨#[]⟩, -1, false⟩) := by
  have hxs : x.size + y.size ≤ 1125899906842624 := by have h := congrArg ByteArray.size hxy; rw [ByteArray.size_append] at h; have h2 : (⟨l.toArray⟩ : ByteArray).size = l.length := by simp [ByteArray.size]; ; omega
  have hlen : (rdB l).1.length ≤ 140737488351232 := by have := rd_less l l.length; unfold rdB; omega
  have hsz : (⟨l.toArray⟩ : ByteArray).size = l.length := by simp [ByteArray.size]
  have hrl : 0 < (rdB l).2.length := List.length_pos_iff.2 hw
  have hze : (l.length : Int) - (rdB l).2.length = (z : Int) := by omega
  have hpr := fun w0 => pRead_any l (by omega) w0
  obtain ⟨L, hL⟩ : ∃ L, (rdB l).1 = L := ⟨_, rfl⟩
  obtain ⟨s, hs⟩ : ∃ s, Sg.fold L = s := ⟨_, rfl⟩
  unfold ReadP at hpr
  rw [hL] at hlen ⊢
  simp only [hL, hze] at hpr
  rw [hs]
  obtain ⟨S, hS⟩ : ∃ S, (⟨l.toArray⟩ : ByteArray) = S := ⟨_, rfl⟩
  rw [hS] at hxy hsz ⊢
  simp only [hS] at hpr
  have z0 : (0 : Int) ≤ (z : Int) := by omega
  have z1 : (z : Int) ≤ (S.size : Int) := by omega
  have z2 : (z : Int) < (S.size : Int) := by omega
  obtain ⟨Z, hZ⟩ : ∃ Z, S.extract 0 z = Z := ⟨_, rfl⟩
  have hZs : Z.size ≤ 262144 := by rw [← hZ, ByteArray.size_extract]; omega
  have hin := fun w0 => install_any x y Z (-1) false w0 (by omega) (by omega)
  simp only [tIn_any x y Z hZs] at hin
  rw [hZ]
  have HIN := Lib.hid hin
  have HPR := Lib.hid hpr
  have HS := Lib.hid hs
  have HX := Lib.hid hxy

  clear hL hze hw hs hxy hz hin hpr hS hrl hl hZs
  go_enter Tryd.func14, Tryd.ntmps14
  go_wp2_with fail
  have hTb : Tb (((w.alloc (.cells #[.string x, .string y, .int .i64 (-1), .bool false] 44)).alloc (.cells #[.int .u64 0, .int .u64 0, .int .u64 0, .int .u64 0, .string ⟨#[]⟩, .slice none 0 0] 36)).alloc (.cells #[.string ⟨#[]⟩, .string ⟨#[]⟩, .int .i64 0, .bool false] 44)) w.heap.size x y (-1) false := ((Tb.new w w.heap.size rfl _ x y (-1) false).past _).past _
  have hSx : Sx (((w.alloc (.cells #[.string x, .string y, .int .i64 (-1), .bool false] 44)).alloc (.cells #[.int .u64 0, .int .u64 0, .int .u64 0, .int .u64 0, .string ⟨#[]⟩, .slice none 0 0] 36)).alloc (.cells #[.string ⟨#[]⟩, .string ⟨#[]⟩, .int .i64 0, .bool false] 44)) (w.heap.size + 1) Sg.zero none 0 := (Sx.new (by simp) Sg.zero none 0 _).later ((Below.refl _ _).alloc (Nat.le_refl _) _)
  have hTr : Tb (((w.alloc (.cells #[.string x, .string y, .int .i64 (-1), .bool false] 44)).alloc (.cells #[.int .u64 0, .int .u64 0, .int .u64 0, .int .u64 0, .string ⟨#[]⟩, .slice none 0 0] 36)).alloc (.cells #[.string ⟨#[]⟩, .string ⟨#[]⟩, .int .i64 0, .bool false] 44)) (w.heap.size + 1 + 1) ⟨#[]⟩ ⟨#[]⟩ 0 false := Tb.new _ _ (by simp) _ _ _ _ _
  refine (read_any x y (-1) false _ hxs).mono ?_
  rintro e w1 ⟨rfl, hb1⟩
  simp only [tRead, Bool.false_eq_true, if_false]
  rw [HX.out]
  have hB : Below w.heap.size w w1 := Below.trans (by go_grown) (hb1.mono (by simp; omega))
  replace hTb := hTb.later hb1
  replace hSx := hSx.later hb1
  replace hTr := hTr.later hb1
  clear hb1
  go_wp2_with fail
  refine (HPR.out _).mono ?_
  rintro e w2 ⟨v2, rfl, hown2, hb2⟩
  have hw1 : w.heap.size < w1.heap.size := hTb.hx
  have HO2 := Lib.hid hown2
  obtain ⟨a2, c2, rfl, hN2⟩ := nts_of_owns hown2
  have hB2 := hB.trans (hb2.mono hB.size)
  replace hTb := hTb.later hb2
  replace hSx := hSx.later hb2
  replace hTr := hTr.later hb2
  clear hb2 hown2 hB
  have HTB := Lib.hid hTb
  have HSX := Lib.hid hSx
  have HTR := Lib.hid hTr
  obtain ⟨q0, q1, q2, q3, qz, ql⟩ := hTb
  clear hN2 hSx hTr
  go_wp2_with fail
  go_region_with (go_at_call 34; (with_reducible refine (HIN.out _).mono ?_); rintro e w3 ⟨rfl, hb3⟩; have hP3 : Below w2.heap.size w2 w3 := (Below.refl _ _).drew.trans hb3; obtain ⟨q0', q1', q2', q3', qz', ql'⟩ := HTB.out.later hP3; have HP3 := Lib.hid hP3; clear hP3 hb3)
  all_goals
    go_wp2_with fail
    generalize hW : ((((w3.setCell ⟨w.heap.size, 0, none⟩ (.string Z)).setCell ⟨w.heap.size, 1, none⟩ (.string ⟨#[]⟩)).setCell ⟨w.heap.size, 2, none⟩ (.int .i64 (-1))).setCell ⟨w.heap.size, 3, none⟩ (.bool false)) = W
    have hTb : Tb W w.heap.size Z ⟨#[]⟩ (-1) false := by rw [← hW]; exact (HTB.out.later HP3.out).set Z ⟨#[]⟩ (-1) false
    have hSx : Sx W (w.heap.size + 1) Sg.zero none 0 := by rw [← hW]; exact (HSX.out.later HP3.out).far4 (by omega) _ _ _ _
    have hTr : Tb W (w.heap.size + 1 + 1) ⟨#[]⟩ ⟨#[]⟩ 0 false := by rw [← hW]; exact (HTR.out.later HP3.out).far (by omega) _ _ _ _
    have hN4 : Nts W a2 L := by
      have ho : w3.ownsRow w1.heap.size 24 5 (.slice a2 L.length c2) L.length (ntsCells L) := HO2.out.kept (row := none) ⟨HP3.out.os, HP3.out.tape, HP3.out.output, HP3.out.size, fun j hj _ => HP3.out.block j hj⟩ (by cases (Value.slice a2 L.length c2).ownBlock <;> simp)
      have ho2 := ownsRow_setCell_below (ownsRow_setCell_below (ownsRow_setCell_below (ownsRow_setCell_below ho (a := ⟨w.heap.size, 0, none⟩) hw1 (.string Z)) (a := ⟨w.heap.size, 1, none⟩) hw1 (.string ⟨#[]⟩)) (a := ⟨w.heap.size, 2, none⟩) hw1 (.int .i64 (-1))) (a := ⟨w.heap.size, 3, none⟩) hw1 (.bool false)
      rw [hW] at ho2
      obtain ⟨a', c', e, hN⟩ := nts_of_owns ho2
      injection e with e1
      subst e1
      exact hN
    have hB4 : Below w.heap.size w W := by rw [← hW]; exact set4_below (hB2.trans (HP3.out.mono hB2.size)) (Nat.le_refl _)
    have HN4 := Lib.hid hN4
    have HTB4 := Lib.hid hTb
    have HSX4 := Lib.hid hSx
    have HTR4 := Lib.hid hTr
    clear hN4 hW q0 q1 q2 q3 qz q0' q1' q2' q3' qz' HTB HSX HTR HO2
    obtain ⟨q0, q1, q2, q3, qz, ql⟩ := hTb
    obtain ⟨s0, s1, s2, s3, s4, s5, sz, sl⟩ := hSx
    obtain ⟨u0, u1, u2, u3, uz, ul⟩ := hTr
    go_region_with (go_at_call 12; (with_reducible refine (pFold_far a2 _ c2 L rfl hlen _ (HN4.out.later (Below.refl _ _).drew)).mono ?_); rintro e w3 ⟨a', c', rfl, hE', hfar, hb3⟩; obtain ⟨q0', q1', q2', q3', qz', ql'⟩ := HTB4.out.later ((Below.refl _ _).drew.trans hb3); obtain ⟨s0', s1', s2', s3', s4', s5', sz', sl'⟩ := HSX4.out.later ((Below.refl _ _).drew.trans hb3); obtain ⟨u0', u1', u2', u3', uz', ul'⟩ := HTR4.out.later ((Below.refl _ _).drew.trans hb3); have HE' := Lib.hid hE'; have HF := Lib.hid hfar; clear hE' hfar)
    all_goals
      clear q0 q1 q2 q3 qz s0 s1 s2 s3 s4 s5 sz u0 u1 u2 u3 uz
      rw [HS.out] at HE'
      go_wp2_with fail
      refine bodyPost_ret (v := .tuple #[(Sg.fold L).val a' c', .agg #[.string Z, .string ⟨#[]⟩, .int .i64 (-1), .bool false], .int .i64 0]) (by simp [results, Tryd.results14, go_sem, s0', s1', s2', s3', s4', s5', u0', u1', u2', u3']) rfl ?_
      refine ⟨a', c', by rw [HS.out], ?_, ?_⟩
      · exact set4_ents (set6_ents HE'.out (fun q e => by have h := HF.out q e; simp at h; omega) (Sg.fold L) a' c') (fun q e => by have h := HF.out q e; simp at h; omega) _ _ _ _
      · exact set4_below (set6_below (hB4.trans (((Below.refl _ _).drew.trans hb3).mono hB4.size)) (by omega) (Sg.fold L) a' c') (by omega)
end Go.Proofs.YtjbhnkigbobhiaaDoor
