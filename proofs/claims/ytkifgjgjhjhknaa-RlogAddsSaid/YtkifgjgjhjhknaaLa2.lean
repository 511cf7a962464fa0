/- Add: the document's. -/
import Derived.Test.YtkifgjgjhjhknaaLz
import Derived.Deep.DeepCutAuto
namespace Go.Proofs.Ytkifgjgjhjhknaa
open Go.RowKit

set_option maxRecDepth 100000 in
set_option maxHeartbeats 4000000 in
theorem rAdd_any (base bt n c t : Nat) (snap d : ByteArray) (a : Option Addr) (L : List En) (hn : L.length = n) (hl : n ≤ 140737488351232) (hb : base < 4611686018427387904) (w : World) (hE : Ents w a L) :
    Calls Try.prog 22 #[.agg #[.int .u64 base, .int .u64 bt, .string snap, .slice a n c], .agg #[.int .u64 t, .string d]] w (LeP w (addG ⟨base, bt, snap, L⟩ ⟨t, d⟩) (addE ⟨base, bt, snap, L⟩ ⟨t, d⟩)) := by
  have B0 : Below w.heap.size w (((w.alloc (.cells #[.int .u64 base, .int .u64 bt, .string snap, .slice a n c] 25)).alloc (.cells #[.int .u64 t, .string d] 39)).alloc (.cells #[.int .u64 0, .int .u64 0, .string ⟨#[]⟩, .slice none 0 0] 25)) := by go_grown
  have L0 := ((Lb.new (w := w) rfl base bt snap (.slice a n c) 25).past (.cells #[.int .u64 t, .string d] 39)).past (.cells #[.int .u64 0, .int .u64 0, .string ⟨#[]⟩, .slice none 0 0] 25)
  have R0 := Lb.zero (w := ((w.alloc (.cells #[.int .u64 base, .int .u64 bt, .string snap, .slice a n c] 25)).alloc (.cells #[.int .u64 t, .string d] 39))) (x := w.heap.size + 1 + 1) (by simp) 25
  have x0 : (((w.alloc (.cells #[.int .u64 base, .int .u64 bt, .string snap, .slice a n c] 25)).alloc (.cells #[.int .u64 t, .string d] 39)).alloc (.cells #[.int .u64 0, .int .u64 0, .string ⟨#[]⟩, .slice none 0 0] 25)).cell? ⟨w.heap.size + 1, 0, none⟩ = some (.int .u64 t) := by simp [go_sem]
  have x1 : (((w.alloc (.cells #[.int .u64 base, .int .u64 bt, .string snap, .slice a n c] 25)).alloc (.cells #[.int .u64 t, .string d] 39)).alloc (.cells #[.int .u64 0, .int .u64 0, .string ⟨#[]⟩, .slice none 0 0] 25)).cell? ⟨w.heap.size + 1, 1, none⟩ = some (.string d) := by simp [go_sem]
  have hE0 := hE.later B0
  have HE := Lib.hid hE
  have HN := Lib.hid hn
  obtain ⟨q, hq⟩ : ∃ q, base + n = q := ⟨_, rfl⟩
  obtain ⟨lt, hlt⟩ : ∃ lt, lastT bt L = lt := ⟨_, rfl⟩
  have hf5 : (1024 ≤ n ∨ 1099511627776 ≤ q) → ∀ w', Below w.heap.size w w' → LeP w (addG ⟨base, bt, snap, L⟩ ⟨t, d⟩) (addE ⟨base, bt, snap, L⟩ ⟨t, d⟩) (.returned (.tuple #[.agg #[.int .u64 0, .int .u64 0, .string ⟨#[]⟩, .slice none 0 0], .int .i64 5])) w' := fun h w' hB => by
    obtain ⟨e1, e2⟩ := addG_full (g := ⟨base, bt, snap, L⟩) (x := ⟨t, d⟩) (by rw [hn, hq]; exact h)
    rw [e1, e2]; exact LeP.zero 5 hB
  have hf9 : ¬ (1024 ≤ n ∨ 1099511627776 ≤ q) → t < lt → ∀ w', Below w.heap.size w w' → LeP w (addG ⟨base, bt, snap, L⟩ ⟨t, d⟩) (addE ⟨base, bt, snap, L⟩ ⟨t, d⟩) (.returned (.tuple #[.agg #[.int .u64 0, .int .u64 0, .string ⟨#[]⟩, .slice none 0 0], .int .i64 9])) w' := fun h h2 w' hB => by
    obtain ⟨e1, e2⟩ := addG_order (g := ⟨base, bt, snap, L⟩) (x := ⟨t, d⟩) (by rw [hn, hq]; exact h) (by rw [hlt]; exact h2)
    rw [e1, e2]; exact LeP.zero 9 hB
  have hf0 : ¬ (1024 ≤ n ∨ 1099511627776 ≤ q) → ¬ t < lt → ∀ w' a' m' c', m' = n + 1 → m' ≤ c' → c' ≤ maxLen → Ents w' a' (L ++ [⟨t, d⟩]) → Below w.heap.size w w' → LeP w (addG ⟨base, bt, snap, L⟩ ⟨t, d⟩) (addE ⟨base, bt, snap, L⟩ ⟨t, d⟩) (.returned (.tuple #[.agg #[.int .u64 base, .int .u64 bt, .string snap, .slice a' m' c'], .int .i64 0])) w' := fun h h2 w' a' m' c' hm hc1 hc2 hE hB => by
    obtain ⟨e1, e2⟩ := addG_ok (g := ⟨base, bt, snap, L⟩) (x := ⟨t, d⟩) (by rw [hn]; omega) (by rw [hn, hq]; omega) (by rw [hlt]; exact h2)
    rw [e1, e2]
    have hlen : (L ++ [(⟨t, d⟩ : En)]).length = m' := by simp [hn, hm]
    exact ⟨a', c', by rw [← hlen], by rw [hlen]; exact hc1, hc2, hE, hB⟩
  have HF5 := Lib.hid hf5
  have HF9 := Lib.hid hf9
  have HF0 := Lib.hid hf0
  have HQ := Lib.hid hq
  have HT := Lib.hid hlt
  clear hf5 hf9 hf0
  have hz1 : w.heap.size + 1 < (((w.alloc (.cells #[.int .u64 base, .int .u64 bt, .string snap, .slice a n c] 25)).alloc (.cells #[.int .u64 t, .string d] 39)).alloc (.cells #[.int .u64 0, .int .u64 0, .string ⟨#[]⟩, .slice none 0 0] 25)).heap.size := by simp
  clear hn hq hlt hE
  go_enter Try.func22, Try.ntmps22
  go_wp2_with fail
  generalize (((w.alloc (.cells #[.int .u64 base, .int .u64 bt, .string snap, .slice a n c] 25)).alloc (.cells #[.int .u64 t, .string d] 39)).alloc (.cells #[.int .u64 0, .int .u64 0, .string ⟨#[]⟩, .slice none 0 0] 25)) = W at *
  refine (rLast_any base bt n c snap a L HN.out hl hb _ hE0).mono ?_
  rintro e w1 ⟨rfl, hb1⟩
  rw [HQ.out, HT.out]
  have L1 := L0.later hb1
  have R1 := R0.later hb1
  have y0 := (hb1.cell (p := ⟨w.heap.size + 1, 0, none⟩) hz1).trans x0
  have y1 := (hb1.cell (p := ⟨w.heap.size + 1, 1, none⟩) hz1).trans x1
  have hz2 : w.heap.size + 1 < w1.heap.size := Nat.lt_of_lt_of_le hz1 hb1.size
  have B1 := B0.trans (hb1.mono B0.size)
  clear hb1 x0 x1 L0 R0 hE0
  have HL := Lib.hid L1
  have HR := Lib.hid R1
  obtain ⟨l0, l1, l2, l3, lz, ll⟩ := L1
  obtain ⟨r0, r1, r2, r3, rz, rl⟩ := R1
  have u0 : w.heap.size ≤ w.heap.size + 1 + 1 := by omega
  by_cases h1 : 1024 ≤ n
  · have g1 : (1024 : Int) ≤ (n : Int) := by omega
    go_wp2_with fail
    refine bodyPost_ret (v := .tuple #[.agg #[.int .u64 0, .int .u64 0, .string ⟨#[]⟩, .slice none 0 0], .int .i64 5]) (by simp [results, Try.results22, go_sem, r0, r1, r2, r3]) rfl ?_
    exact HF5.out (.inl h1) _ ((((B1.setCell u0 _).setCell u0 _).setCell u0 _).setCell u0 _)
  have g1 : ¬ (1024 : Int) ≤ (n : Int) := by omega
  by_cases h2 : 1099511627776 ≤ q
  · have g2 : (1099511627776 : Int) ≤ (q : Int) := by omega
    go_wp2_with fail
    refine bodyPost_ret (v := .tuple #[.agg #[.int .u64 0, .int .u64 0, .string ⟨#[]⟩, .slice none 0 0], .int .i64 5]) (by simp [results, Try.results22, go_sem, r0, r1, r2, r3]) rfl ?_
    exact HF5.out (.inr h2) _ ((((B1.setCell u0 _).setCell u0 _).setCell u0 _).setCell u0 _)
  have g2 : decide ((1099511627776 : Int) ≤ (q : Int)) = false := decide_eq_false (by omega)
  have HH := Lib.hid (show ¬ (1024 ≤ n ∨ 1099511627776 ≤ q) by omega)
  have hn24 : n * 24 ≤ 24576 := by omega
  clear h1 h2
  by_cases h3 : t < lt
  · have g3 : (t : Int) < (lt : Int) := by omega
    go_wp2_with fail
    refine bodyPost_ret (v := .tuple #[.agg #[.int .u64 0, .int .u64 0, .string ⟨#[]⟩, .slice none 0 0], .int .i64 9]) (by simp [results, Try.results22, go_sem, r0, r1, r2, r3]) rfl ?_
    exact HF9.out HH.out h3 _ ((((B1.setCell u0 _).setCell u0 _).setCell u0 _).setCell u0 _)
  · have g3 : ¬ (t : Int) < (lt : Int) := by omega
    have H3 := Lib.hid h3
    clear h3
    have hnl : (([] : List En).length + n) * 24 ≤ 140737488355328 := by simp; omega
    have hnl2 : ((([] : List En) ++ L).length + 1) * 24 ≤ 140737488355328 := by simp; have := HN.out; omega
    go_upto_region 6 with fail
    go_cut [0] (fun _ wx => ∃ a' m' cap, m' = n + 1 ∧ m' ≤ cap ∧ cap ≤ maxLen ∧ (∀ q, a' = some q → w1.heap.size ≤ q.block) ∧ Ents wx a' (L ++ [⟨t, d⟩]) ∧ Lb wx w.heap.size base bt snap (.slice a' m' cap) ∧ Lb wx (w.heap.size + 1 + 1) 0 0 ⟨#[]⟩ (.slice none 0 0) ∧ Below w.heap.size w wx)
    case first =>
      go_region_law (first
        | (refine step_app (by rfl) _ _ _ (by rfl) _ _ (by rfl) (by rfl) _ (app_row _ _ _ _ [] (Cq.nil _ _ _) a n c L HN.out ((HE.out.later B1).later ?_) hnl (Nat.le_refl _)) ?_; (· (go_grown; done)); intro u1 wn hp; obtain ⟨hp1, hp2⟩ := hp; have hb3 : Below w1.heap.size w1 wn := Below.trans (by go_grown) (hp2.mono (by first | (simp; done) | (simp; omega))); obtain ⟨p0, p1, p2, p3, pz, pl⟩ := HL.out.later hb3; have z0 := (hb3.cell (p := ⟨w.heap.size + 1, 0, none⟩) hz2).trans y0; have z1 := (hb3.cell (p := ⟨w.heap.size + 1, 1, none⟩) hz2).trans y1)
        | (refine step_app (by rfl) _ _ _ (by rfl) _ _ (by rfl) (by rfl) _ (app_row _ _ _ _ ([] ++ L) (hp1.later ?_) _ 1 1 [⟨t, d⟩] rfl ?_ hnl2 ?_) ?_; (· (first | exact Below.refl _ _ | (go_grown; done))); (· (first | exact ents_one wn _ rfl t d 39 | exact (ents_one (w1.alloc _) _ (by simp) t d 39).later ((Below.refl _ _).drew.trans hp2) | exact ((ents_one w1 _ rfl t d 39).later ((Below.refl _ _).alloc (Nat.le_refl _) _)).later ((Below.refl _ _).drew.trans hp2))); (· (have := hp2.size; (first | exact this | (simp at this ⊢; omega)))); intro u2 wm hq; obtain ⟨hq1, hq2⟩ := hq; obtain ⟨a', cap, hv, hE2, hfar, hcc, hcm⟩ := hq1.form; have hB5 : Below w1.heap.size w1 wm := Below.trans (by first | exact hb3 | (go_grown; done) | exact (hb3.alloc hb3.size _)) (hq2.mono (by first | (simp; done) | (simp; omega))); obtain ⟨m', hm'⟩ : ∃ m', ([] ++ L ++ [(⟨t, d⟩ : En)]).length = m' := ⟨_, rfl⟩; rw [hm'] at hv hfar hcc; subst hv; have HLEN := Lib.hid (show m' = n + 1 by rw [← hm']; simp [HN.out]); have HEE := Lib.hid hE2; have HFR := Lib.hid (show ∀ q, a' = some q → w1.heap.size ≤ q.block from fun q e => Nat.le_trans (by first | (simp; done) | (simp; omega)) (hfar (by rw [← hm']; simp) q e)); clear hm' hE2 hfar hq2; obtain ⟨q0, q1, q2, q3, qz, ql⟩ := HL.out.later hB5; obtain ⟨s0, s1, s2, s3, sz, sl⟩ := HR.out.later hB5))
      all_goals
        go_wp2_with fail
        go_meet
        have n0 : ∀ q, a' = some q → q.block ≠ w.heap.size := fun q e => by have := HFR.out q e; omega
        exact ⟨a', m', cap, HLEN.out, hcc, hcm, HFR.out, (show Ents wm a' (L ++ [⟨t, d⟩]) from HEE.out).set n0 _ _, (HL.out.later hB5).put3 _, (HR.out.later hB5).far (by omega) _ _, (B1.trans (hB5.mono B1.size)).setCell (Nat.le_refl _) _⟩
    case rest =>
      obtain ⟨a', m', cap, hm, hmc, hcm, hfar, hE3, hL3, hR3, B3⟩ := hcut
      obtain ⟨p0, p1, p2, p3, pz, pl⟩ := hL3
      obtain ⟨s0, s1, s2, s3, sz, sl⟩ := hR3
      have HM := Lib.hid hm
      have HFR := Lib.hid hfar
      have HEE := Lib.hid hE3
      clear hm hfar hE3 l0 l1 l2 l3 lz r0 r1 r2 r3 rz
      go_wp2_with fail
      refine bodyPost_ret (v := .tuple #[.agg #[.int .u64 base, .int .u64 bt, .string snap, .slice a' m' cap], .int .i64 0]) (by simp [results, Try.results22, go_sem, s0, s1, s2, s3]) rfl ?_
      have n2 : ∀ q, a' = some q → q.block ≠ w.heap.size + 1 + 1 := fun q e => by have := HFR.out q e; omega
      refine HF0.out HH.out H3.out _ _ _ _ HM.out hmc hcm ?_ ?_
      · exact (((HEE.out.set n2 _ _).set n2 _ _).set n2 _ _).set n2 _ _
      · have hu0 : w.heap.size ≤ w.heap.size + 1 + 1 := by omega
        exact (((B3.setCell hu0 _).setCell hu0 _).setCell hu0 _).setCell hu0 _
end Go.Proofs.Ytkifgjgjhjhknaa
