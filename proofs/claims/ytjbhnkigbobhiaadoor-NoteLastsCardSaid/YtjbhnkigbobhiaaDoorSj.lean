/- The reference of layer 4: Step: a snapshot laid. DRAFT: not clean yet. -/
import Derived.Test.YtjbhnkigbobhiaaDoorKa
import Derived.Outline
import Derived.Deep.QuietTactic
import Derived.BigQuiet
import Derived.Test.YtjbhnkigbobhiaaDoorSf
import Derived.Test.YtjbhnkigbobhiaaDoorSa
import Derived.Test.YtjbhnkigbobhiaaDoorSb
import Derived.Test.YtjbhnkigbobhiaaDoorSc
import Derived.Test.YtjbhnkigbobhiaaDoorSd
import Derived.Test.YtjbhnkigbobhiaaDoorSi
namespace Go.Proofs.YtjbhnkigbobhiaaDoor
open Go.RowKit

set_option maxRecDepth 100000 in
set_option maxHeartbeats 4000000 in
theorem step_4 (term vote base bt n c : Nat) (snap : ByteArray) (a : Option Addr) (L : List En) (hn : L.length = n) (hl : n ≤ 1024) (hbn : base + n ≤ 1099511627776) (w : World) (hE : Ents w a L) (i t v : Nat) (d : ByteArray) (g0 : base < i) (g9 : i ≤ 1099511627776) :
    Calls Tryd.prog 39 #[.agg #[.int .u64 term, .int .u64 vote, .int .u64 base, .int .u64 bt, .string snap, .slice a n c], .agg #[.int .i64 4, .int .u64 i, .int .u64 t, .int .u64 v, .string d]] w (StP w a (Sg.step ⟨term, vote, base, bt, snap, L⟩ ⟨4, i, t, v, d⟩)) := by
  obtain ⟨i0, hi, hz0, hz1', hz2'⟩ := info_parts infoEntry
  have hstep : Sg.step ⟨term, vote, base, bt, snap, L⟩ ⟨4, i, t, v, d⟩ = ⟨term, vote, i, t, d, keptL base L i t⟩ := by
    have : ¬ (i ≤ base ∨ 1099511627776 < i) := by omega
    simp [Sg.step, this]
  rw [hstep]
  clear hstep
  have HN := Lib.hid hn; clear hn
  have q1 : ¬ (i : Int) ≤ (base : Int) := by omega
  have q2 : ¬ (1099511627776 : Int) < (i : Int) := by omega
  go_enter Tryd.func39, Tryd.ntmps39
  go_wp2_with fail
  generalize hW : ((((w.alloc (.cells #[.int .u64 term, .int .u64 vote, .int .u64 base, .int .u64 bt, .string snap, .slice a n c] 36)).alloc (.cells #[.int .i64 4, .int .u64 i, .int .u64 t, .int .u64 v, .string d] 24)).alloc (.cells #[.int .u64 0, .int .u64 0, .int .u64 0, .int .u64 0, .string ⟨#[]⟩, .slice none 0 0] 36)).alloc (.cells #[.int .u64 base, .int .u64 bt, .string snap, .slice a n c] 34)) = W
  have b0 : W.cell? ⟨w.heap.size, 0, none⟩ = some (.int .u64 term) := by subst hW; simp [go_sem]
  have b1 : W.cell? ⟨w.heap.size, 1, none⟩ = some (.int .u64 vote) := by subst hW; simp [go_sem]
  have b2 : W.cell? ⟨w.heap.size, 2, none⟩ = some (.int .u64 base) := by subst hW; simp [go_sem]
  have b3 : W.cell? ⟨w.heap.size, 3, none⟩ = some (.int .u64 bt) := by subst hW; simp [go_sem]
  have b4 : W.cell? ⟨w.heap.size, 4, none⟩ = some (.string snap) := by subst hW; simp [go_sem]
  have b5 : W.cell? ⟨w.heap.size, 5, none⟩ = some (.slice a n c) := by subst hW; simp [go_sem]
  have m1 : W.cell? ⟨w.heap.size + 1, 1, none⟩ = some (.int .u64 i) := by subst hW; simp [go_sem]
  have m2 : W.cell? ⟨w.heap.size + 1, 2, none⟩ = some (.int .u64 t) := by subst hW; simp [go_sem]
  have m4 : W.cell? ⟨w.heap.size + 1, 4, none⟩ = some (.string d) := by subst hW; simp [go_sem]
  have r0 : W.cell? ⟨w.heap.size + 1 + 1, 0, none⟩ = some (.int .u64 0) := by subst hW; simp [go_sem]
  have r1 : W.cell? ⟨w.heap.size + 1 + 1, 1, none⟩ = some (.int .u64 0) := by subst hW; simp [go_sem]
  have r2 : W.cell? ⟨w.heap.size + 1 + 1, 2, none⟩ = some (.int .u64 0) := by subst hW; simp [go_sem]
  have r3 : W.cell? ⟨w.heap.size + 1 + 1, 3, none⟩ = some (.int .u64 0) := by subst hW; simp [go_sem]
  have r4 : W.cell? ⟨w.heap.size + 1 + 1, 4, none⟩ = some (.string ⟨#[]⟩) := by subst hW; simp [go_sem]
  have r5 : W.cell? ⟨w.heap.size + 1 + 1, 5, none⟩ = some (.slice none 0 0) := by subst hW; simp [go_sem]
  have rz : ∀ j, W.frozen? ⟨w.heap.size + 1 + 1, j, none⟩ = false := by subst hW; intro j; simp [go_sem]
  have bz : ∀ j, W.frozen? ⟨w.heap.size, j, none⟩ = false := by subst hW; intro j; simp [go_sem]
  have l0 : W.cell? ⟨w.heap.size + 1 + 1 + 1, 0, none⟩ = some (.int .u64 base) := by subst hW; simp [go_sem]
  have l1 : W.cell? ⟨w.heap.size + 1 + 1 + 1, 1, none⟩ = some (.int .u64 bt) := by subst hW; simp [go_sem]
  have l2 : W.cell? ⟨w.heap.size + 1 + 1 + 1, 2, none⟩ = some (.string snap) := by subst hW; simp [go_sem]
  have l3 : W.cell? ⟨w.heap.size + 1 + 1 + 1, 3, none⟩ = some (.slice a n c) := by subst hW; simp [go_sem]
  have hz : w.heap.size + 1 + 1 + 1 < W.heap.size := by subst hW; simp
  have hB : Below w.heap.size w W := by subst hW; go_grown
  clear hW
  have g := hE.later hB
  clear hE
  have hz0' : w.heap.size < W.heap.size := by omega
  have hzz1 : w.heap.size + 1 < W.heap.size := by omega
  have hzz2 : w.heap.size + 1 + 1 < W.heap.size := by omega
  go_loopw [8, 9, 10] (fun V F j wr => ∃ k : Nat, k ≤ n ∧ j = .int .i64 k ∧ F = .bool (fndL base L i t k) ∧ wr.ownsRow W.heap.size 65 2 V (kpL base L i t k).length (esCells (kpL base L i t k)) ∧ Below W.heap.size W wr) (fun _ _ j _ => n - (intOf j).toNat)
  case atStart =>
    have z := kpL_zero base L i t
    exact ⟨0, Nat.zero_le _, rfl, by rw [z.1], by rw [z.2]; simpa [esCells] using World.ownsRow_nil W W.heap.size 65 2, Below.refl _ _⟩
  case round =>
    obtain ⟨k, hk, rfl, rfl, hown, B⟩ := hrel
    have M1 := (B.cell (p := ⟨w.heap.size + 1, 1, none⟩) hzz1).trans m1
    have M2 := (B.cell (p := ⟨w.heap.size + 1, 2, none⟩) hzz1).trans m2
    have M4 := (B.cell (p := ⟨w.heap.size + 1, 4, none⟩) hzz1).trans m4
    have L0 := (B.cell (p := ⟨w.heap.size + 1 + 1 + 1, 0, none⟩) hz).trans l0
    have L3 := (B.cell (p := ⟨w.heap.size + 1 + 1 + 1, 3, none⟩) hz).trans l3
    by_cases hlt : k < n
    · have hkl : k < L.length := by have := HN.out; omega
      obtain ⟨x, hx⟩ : ∃ x, L[k]? = some x := ⟨_, List.getElem?_eq_getElem hkl⟩
      obtain ⟨b, off, rfl, hbb, p0, p1⟩ := (g.later B) k x hx
      have hlen : (kpL base L i t k).length ≤ 1024 := by have := kpL_len base L i t k; have := HN.out; omega
      have i0' : (0 : Int) ≤ (k : Int) := by omega
      have i1 : (k : Int) < (n : Int) := by omega
      rcases Nat.lt_trichotomy (base + k + 1) i with hc | hc | hc
      · obtain ⟨f1, f2, f3, f4⟩ := fndL_low base L i t k hc
        have d1 : ((base : Int) + (k : Int) + 1 == (i : Int)) = false := by simp; omega
        have d2 : ¬ (i : Int) < (base : Int) + (k : Int) + 1 := by omega
        rw [f1]
        have hown4 : wr.ownsRow W.heap.size 65 2 u8 (kpL base L i t (k + 1)).length (esCells (kpL base L i t (k + 1))) := by rw [f4]; rw [f2] at hown; exact hown
        have HO := Lib.hid hown4
        have HF := Lib.hid f3
        clear f1 f2 f3 f4 hown hown4 hx
        go_wp2_with fail
        go_quiet (fail)
        go_wp2_with fail
        go_roundw
        case rel => exact ⟨k + 1, by omega, by go_num, by rw [HF.out], HO.out, below_drewN B _⟩
        case measure => simp [intOf]; omega
      · obtain ⟨f1, f2, f3, f4⟩ := fndL_at base L i t k x hx hc
        have d1 : ((base : Int) + (k : Int) + 1 == (i : Int)) = true := by simp; omega
        have d2 : ¬ (i : Int) < (base : Int) + (k : Int) + 1 := by omega
        rw [f1]
        have hown4 : wr.ownsRow W.heap.size 65 2 u8 (kpL base L i t (k + 1)).length (esCells (kpL base L i t (k + 1))) := by rw [f4]; rw [f2] at hown; exact hown
        have HO := Lib.hid hown4
        by_cases ht : x.t = t
        · have d3 : ((x.t : Int) == (t : Int)) = true := by simp; omega
          have HF := Lib.hid (f3.trans (by simp [ht] : decide (x.t = t) = true))
          clear f1 f2 f3 f4 hown hown4 hx ht
          go_wp2_with fail
          go_quiet (fail)
          go_wp2_with fail
          go_roundw
          case rel => exact ⟨k + 1, by omega, by go_num, by rw [HF.out], HO.out, below_drewN B _⟩
          case measure => simp [intOf]; omega
        · have d3 : ((x.t : Int) == (t : Int)) = false := by simp; omega
          have HF := Lib.hid (f3.trans (by simp [ht] : decide (x.t = t) = false))
          clear f1 f2 f3 f4 hown hown4 hx ht
          go_wp2_with fail
          go_quiet (fail)
          go_wp2_with fail
          go_roundw
          case rel => exact ⟨k + 1, by omega, by go_num, by rw [HF.out], HO.out, below_drewN B _⟩
          case measure => simp [intOf]; omega
      · obtain ⟨f3, f4⟩ := fndL_up base L i t k x hx g0 hc
        have d1 : ((base : Int) + (k : Int) + 1 == (i : Int)) = false := by simp; omega
        have d2 : (i : Int) < (base : Int) + (k : Int) + 1 := by omega
        rcases hf : fndL base L i t k with _ | _
        · have hown4 : wr.ownsRow W.heap.size 65 2 u8 (kpL base L i t (k + 1)).length (esCells (kpL base L i t (k + 1))) := by
            have e : kpL base L i t k = [] := by simp [kpL, hf]
            rw [f4, hf]; rw [e] at hown; exact hown
          have HO := Lib.hid hown4
          have HF := Lib.hid (f3.trans hf)
          clear f3 f4 hf hown hown4 hx
          go_wp2_with fail
          go_quiet (fail)
          go_wp2_with fail
          go_roundw
          case rel => exact ⟨k + 1, by omega, by go_num, by rw [HF.out], HO.out, below_drewN B _⟩
          case measure => simp [intOf]; omega
        · rw [hf, if_pos rfl] at f4
          have HE1 := Lib.hid f4
          have HF := Lib.hid (f3.trans hf)
          clear f3 f4 hf hx b0 b1 b2 b3 b4 b5 m1 m2 m4 r0 r1 r2 r3 r4 r5 rz bz l0 l1 l2 l3
          obtain ⟨T, D⟩ := x
          simp only at p0 p1
          go_wp2_with fail
          go_quiet (fail)
          go_wp2_with (at_builtin; refine wpList_append_own _ rfl _ _ 32 rfl W.heap.size 65 i0 (.agg #[.int .u64 0, .string ⟨#[]⟩]) 2 24 Tryd.underlying32 hi hz0 hz1' hz2' rfl (by decide) _ _ _ rfl (World.ownsRow.alloc (w := wr.drewN _) hown _) ⟨wr.heap.size, 0, none⟩ 1 1 (enCells ⟨T, D⟩) rfl rfl ?c1 ?c2 ?c3 ?c4 ?c5 ?_)
          case c1 => intro j u hj; rw [addHead]; exact (World.cell?_alloc_at _ _ _ _ (by simp)).trans (by rw [List.getElem?_toArray.symm] at hj; exact hj)
          case c2 => intro u hu; simp only [enCells, List.mem_cons, List.not_mem_nil, or_false] at hu; rcases hu with rfl | rfl <;> rfl
          case c3 => unfold maxLen; omega
          case c4 => omega
          case c5 => have := B.size; simp; omega
          intro v' w3 hown3 hgrow _
          have B3 : Below W.heap.size W w3 := ((below_drewN B _).alloc B.size _).grown hgrow (by have := B.size; simp; omega) (fun j e => (hown.lt j e).1)
          have hown4 : w3.ownsRow W.heap.size 65 2 v' (kpL base L i t (k + 1)).length (esCells (kpL base L i t (k + 1))) := by
            rw [HE1.out, List.length_append, esCells_snoc]; simpa using hown3
          have HO := Lib.hid hown4
          clear hown hown3 hown4 hgrow
          go_wp2_with fail
          go_roundw
          case rel => exact ⟨k + 1, by omega, by go_num, by rw [HF.out], HO.out, B3⟩
          case measure => simp [intOf]; omega
    · obtain rfl : k = n := by omega
      have e1 : kpL base L i t k = keptL base L i t := by have := kpL_all base L i t g0; rw [HN.out] at this; exact this
      rw [e1] at hown
      have hblk := hown.lt
      obtain ⟨a', c', rfl, hE'⟩ := ents_of_owns hown
      have hfar : ∀ q, a' = some q → W.heap.size ≤ q.block := fun q e => (hblk q.block (by subst e; rfl)).1
      have C0 := (B.cell (p := ⟨w.heap.size, 0, none⟩) hz0').trans b0
      have C1 := (B.cell (p := ⟨w.heap.size, 1, none⟩) hz0').trans b1
      have C2 := (B.cell (p := ⟨w.heap.size, 2, none⟩) hz0').trans b2
      have C3 := (B.cell (p := ⟨w.heap.size, 3, none⟩) hz0').trans b3
      have C4 := (B.cell (p := ⟨w.heap.size, 4, none⟩) hz0').trans b4
      have C5 := (B.cell (p := ⟨w.heap.size, 5, none⟩) hz0').trans b5
      have R0 := (B.cell (p := ⟨w.heap.size + 1 + 1, 0, none⟩) hzz2).trans r0
      have R1 := (B.cell (p := ⟨w.heap.size + 1 + 1, 1, none⟩) hzz2).trans r1
      have R2 := (B.cell (p := ⟨w.heap.size + 1 + 1, 2, none⟩) hzz2).trans r2
      have R3 := (B.cell (p := ⟨w.heap.size + 1 + 1, 3, none⟩) hzz2).trans r3
      have R4 := (B.cell (p := ⟨w.heap.size + 1 + 1, 4, none⟩) hzz2).trans r4
      have R5 := (B.cell (p := ⟨w.heap.size + 1 + 1, 5, none⟩) hzz2).trans r5
      have RZ : ∀ j, wr.frozen? ⟨w.heap.size + 1 + 1, j, none⟩ = false := fun j => (B.frozen (p := ⟨w.heap.size + 1 + 1, j, none⟩) hzz2).trans (rz j)
      have BZ : ∀ j, wr.frozen? ⟨w.heap.size, j, none⟩ = false := fun j => (B.frozen (p := ⟨w.heap.size, j, none⟩) hz0').trans (bz j)
      have B2 : Below w.heap.size w wr := hB.trans (B.mono hB.size)
      have hx : w.heap.size ≤ w.heap.size + 1 + 1 := by omega
      obtain ⟨nn, hnn⟩ : ∃ nn, (keptL base L i t).length = nn := ⟨_, rfl⟩
      rw [hnn]
      have HNN := Lib.hid hnn
      have HFAR := Lib.hid hfar
      have HE2 := Lib.hid hE'
      clear hown e1 hnn hblk hfar hE' b0 b1 b2 b3 b4 b5 m1 m2 m4 r0 r1 r2 r3 r4 r5 rz bz l0 l1 l2 l3
      go_wp2_with fail
      refine bodyPost_ret (v := .agg #[.int .u64 term, .int .u64 vote, .int .u64 i, .int .u64 t, .string d, .slice a' nn c']) (by simp [results, Tryd.results39, go_sem, R0, R1, R2, R3, R4, R5]) rfl ?_
      have n2 : ∀ q, a' = some q → q.block ≠ w.heap.size + 1 + 1 := fun q e => by have := HFAR.out q e; omega
      have n0 : ∀ q, a' = some q → q.block ≠ w.heap.size := fun q e => by have := HFAR.out q e; omega
      refine ⟨a', c', by simp only; rw [HNN.out], ?_, ?_, .inr fun q e => by have := HFAR.out q e; omega⟩
      · exact ents_set (ents_set (ents_set (ents_set (ents_set (ents_set (ents_set (ents_set (ents_set (ents_set HE2.out n0 _ _) n0 _ _) n0 _ _) n0 _ _) n2 _ _) n2 _ _) n2 _ _) n2 _ _) n2 _ _) n2 _ _
      · exact ((((((((((B2.setCell (Nat.le_refl _) _).setCell (Nat.le_refl _) _).setCell (Nat.le_refl _) _).setCell (Nat.le_refl _) _).setCell hx _).setCell hx _).setCell hx _).setCell hx _).setCell hx _).setCell hx _)
end Go.Proofs.YtjbhnkigbobhiaaDoor
/- The reference of layer 4: Step, whatever note; Fold. -/
namespace Go.Proofs.YtjbhnkigbobhiaaDoor
open Go.RowKit

@[reducible] def Sg.val (s : Sg) (a : Option Addr) (c : Nat) : Value := .agg #[.int .u64 s.term, .int .u64 s.vote, .int .u64 s.base, .int .u64 s.bt, .string s.snap, .slice a s.L.length c]
theorem step_any (s : Sg) (a : Option Addr) (c : Nat) (hf : s.fit) (w : World) (hE : Ents w a s.L) (m : Nt) :
    Calls Tryd.prog 39 #[s.val a c, m.val] w (StP w a (s.step m)) := by
  obtain ⟨hl, hb⟩ := hf
  obtain ⟨term, vote, base, bt, snap, L⟩ := s
  obtain ⟨k, i, t, v, d⟩ := m
  simp only at hl hb hE
  by_cases k1 : k = 1
  · exact step_1 term vote base bt _ c snap a L rfl w hE k i t v d k1
  by_cases k2 : k = 2
  · subst k2
    by_cases h1 : i = base + L.length + 1
    · by_cases h2 : L.length < 1024
      · by_cases h3 : i ≤ 1099511627776
        · exact step_2e term vote base bt _ c snap a L rfl hl hb w hE i t v d h1 h2 h3
        · exact step_2c term vote base bt _ c snap a L rfl hl hb w hE i t v d h1 h2 h3
      · exact step_2b term vote base bt _ c snap a L rfl hl hb w hE i t v d h1 h2
    · exact step_2a term vote base bt _ c snap a L rfl hl hb w hE i t v d h1
  by_cases k3 : k = 3
  · subst k3; exact step_3 term vote base bt _ c snap a L rfl hl hb w hE i t v d
  by_cases k4 : k = 4
  · by_cases h1 : i ≤ base
    · exact step_4a term vote base bt _ c snap a L rfl w hE k i t v d k4 h1
    by_cases h2 : 1099511627776 < i
    · exact step_4b term vote base bt _ c snap a L rfl w hE k i t v d k4 h1 h2
    · subst k4; exact step_4 term vote base bt _ c snap a L rfl hl hb w hE i t v d (by omega) (by omega)
  · exact step_0 term vote base bt _ c snap a L rfl w hE k i t v d k1 k2 k3 k4
/-- A state's box. -/
structure Sx (w : World) (x : Nat) (s : Sg) (a : Option Addr) (c : Nat) : Prop where
  c0 : w.cell? ⟨x, 0, none⟩ = some (.int .u64 s.term)
  c1 : w.cell? ⟨x, 1, none⟩ = some (.int .u64 s.vote)
  c2 : w.cell? ⟨x, 2, none⟩ = some (.int .u64 s.base)
  c3 : w.cell? ⟨x, 3, none⟩ = some (.int .u64 s.bt)
  c4 : w.cell? ⟨x, 4, none⟩ = some (.string s.snap)
  c5 : w.cell? ⟨x, 5, none⟩ = some (.slice a s.L.length c)
  fz : ∀ j, w.frozen? ⟨x, j, none⟩ = false
  lt : x < w.heap.size
theorem Sx.later {w w' : World} {x : Nat} {s : Sg} {a : Option Addr} {c : Nat} (h : Sx w x s a c) (hb : Below w.heap.size w w') : Sx w' x s a c :=
  ⟨(hb.cell (p := ⟨x, 0, none⟩) h.lt).trans h.c0, (hb.cell (p := ⟨x, 1, none⟩) h.lt).trans h.c1, (hb.cell (p := ⟨x, 2, none⟩) h.lt).trans h.c2, (hb.cell (p := ⟨x, 3, none⟩) h.lt).trans h.c3, (hb.cell (p := ⟨x, 4, none⟩) h.lt).trans h.c4, (hb.cell (p := ⟨x, 5, none⟩) h.lt).trans h.c5,
    fun j => (hb.frozen (p := ⟨x, j, none⟩) h.lt).trans (h.fz j), Nat.lt_of_lt_of_le h.lt hb.size⟩
/-- A state's box written whole. -/
def set6 (w : World) (x : Nat) (s : Sg) (a : Option Addr) (c : Nat) : World :=
  (((((w.setCell ⟨x, 0, none⟩ (.int .u64 s.term)).setCell ⟨x, 1, none⟩ (.int .u64 s.vote)).setCell ⟨x, 2, none⟩ (.int .u64 s.base)).setCell ⟨x, 3, none⟩ (.int .u64 s.bt)).setCell ⟨x, 4, none⟩ (.string s.snap)).setCell ⟨x, 5, none⟩ (.slice a s.L.length c)
theorem Sx.set {w : World} {x : Nat} {s : Sg} {a : Option Addr} {c : Nat} (h : Sx w x s a c) (s' : Sg) (a' : Option Addr) (c' : Nat) : Sx (set6 w x s' a' c') x s' a' c' := by
  obtain ⟨h0, h1, h2, h3, h4, h5, hz, hl⟩ := h
  unfold set6
  refine ⟨?_, ?_, ?_, ?_, ?_, ?_, fun j => ?_, by simpa using hl⟩ <;> simp [go_sem, h0, h1, h2, h3, h4, h5, hz]
theorem set6_below {B : Nat} {w0 w : World} {x : Nat} (h : Below B w0 w) (hx : B ≤ x) (s : Sg) (a : Option Addr) (c : Nat) : Below B w0 (set6 w x s a c) :=
  (((((h.setCell hx _).setCell hx _).setCell hx _).setCell hx _).setCell hx _).setCell hx _
theorem set6_far {w : World} {x b : Nat} (hne : x ≠ b) (s : Sg) (a : Option Addr) (c o : Nat) : (set6 w x s a c).cell? ⟨b, o, none⟩ = w.cell? ⟨b, o, none⟩ := by
  unfold set6
  exact (World.cell?_setCell_far _ ⟨x, 5, none⟩ ⟨b, o, none⟩ _ hne).trans ((World.cell?_setCell_far _ ⟨x, 4, none⟩ ⟨b, o, none⟩ _ hne).trans ((World.cell?_setCell_far _ ⟨x, 3, none⟩ ⟨b, o, none⟩ _ hne).trans ((World.cell?_setCell_far _ ⟨x, 2, none⟩ ⟨b, o, none⟩ _ hne).trans ((World.cell?_setCell_far _ ⟨x, 1, none⟩ ⟨b, o, none⟩ _ hne).trans (World.cell?_setCell_far _ ⟨x, 0, none⟩ ⟨b, o, none⟩ _ hne)))))
theorem set6_ents {w : World} {a0 : Option Addr} {L : List En} (h : Ents w a0 L) {x : Nat} (hne : ∀ q, a0 = some q → q.block ≠ x) (s : Sg) (a : Option Addr) (c : Nat) : Ents (set6 w x s a c) a0 L := by
  unfold set6
  exact ents_set (ents_set (ents_set (ents_set (ents_set (ents_set h hne _ _) hne _ _) hne _ _) hne _ _) hne _ _) hne _ _
end Go.Proofs.YtjbhnkigbobhiaaDoor
