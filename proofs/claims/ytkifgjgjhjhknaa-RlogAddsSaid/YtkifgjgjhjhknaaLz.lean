/- Add: the program's and the document's. -/
import Derived.Test.YtkifgjgjhjhknaaAp
namespace Go.Proofs.Ytkifgjgjhjhknaa
open Go.RowKit

/-- A log. -/
structure Lg where
  base : Nat
  bt : Nat
  snap : ByteArray
  L : List En
def Lg.zero : Lg := ⟨0, 0, ⟨#[]⟩, []⟩
/-- What a call that gives a log and an error answers. -/
def LeP (w : World) (g : Lg) (k : Int) (e : Ending) (w' : World) : Prop := ∃ a c, e = .returned (.tuple #[.agg #[.int .u64 g.base, .int .u64 g.bt, .string g.snap, .slice a g.L.length c], .int .i64 k]) ∧ g.L.length ≤ c ∧ c ≤ maxLen ∧ Ents w' a g.L ∧ Below w.heap.size w w'
theorem LeP.zero {w w' : World} (k : Int) (h : Below w.heap.size w w') : LeP w Lg.zero k (.returned (.tuple #[.agg #[.int .u64 0, .int .u64 0, .string ⟨#[]⟩, .slice none 0 0], .int .i64 k])) w' :=
  ⟨none, 0, rfl, Nat.le_refl _, by decide, Ents.nil _ _, h⟩
def addE (g : Lg) (x : En) : Int := if 1024 ≤ g.L.length ∨ 1099511627776 ≤ g.base + g.L.length then 5 else if x.t < lastT g.bt g.L then 9 else 0
def addG (g : Lg) (x : En) : Lg := if addE g x = 0 then { g with L := g.L ++ [x] } else Lg.zero
theorem addG_ok {g : Lg} {x : En} (h1 : ¬ 1024 ≤ g.L.length) (h2 : ¬ 1099511627776 ≤ g.base + g.L.length) (h3 : ¬ x.t < lastT g.bt g.L) : addE g x = 0 ∧ addG g x = { g with L := g.L ++ [x] } := by
  have h : addE g x = 0 := by unfold addE; rw [if_neg (by omega), if_neg h3]
  exact ⟨h, by unfold addG; rw [if_pos h]⟩
theorem addG_full {g : Lg} {x : En} (h1 : 1024 ≤ g.L.length ∨ 1099511627776 ≤ g.base + g.L.length) : addE g x = 5 ∧ addG g x = Lg.zero := by
  have h : addE g x = 5 := by unfold addE; rw [if_pos h1]
  exact ⟨h, by unfold addG; rw [if_neg (by omega)]⟩
theorem addG_order {g : Lg} {x : En} (h1 : ¬ (1024 ≤ g.L.length ∨ 1099511627776 ≤ g.base + g.L.length)) (h3 : x.t < lastT g.bt g.L) : addE g x = 9 ∧ addG g x = Lg.zero := by
  have h : addE g x = 9 := by unfold addE; rw [if_neg h1, if_pos h3]
  exact ⟨h, by unfold addG; rw [if_neg (by omega)]⟩
set_option maxRecDepth 100000 in
set_option maxHeartbeats 4000000 in
theorem pAdd_any (base bt n c t : Nat) (snap d : ByteArray) (a : Option Addr) (L : List En) (hn : L.length = n) (hl : n ≤ 140737488351232) (hc : n ≤ c) (_ : c ≤ maxLen) (hb : base < 4611686018427387904) (w : World) (hE : Ents w a L) :
    Calls Try.prog 21 #[.agg #[.int .u64 base, .int .u64 bt, .string snap, .slice a n c], .agg #[.int .u64 t, .string d]] w (LeP w (addG ⟨base, bt, snap, L⟩ ⟨t, d⟩) (addE ⟨base, bt, snap, L⟩ ⟨t, d⟩)) := by
  have B0 : Below w.heap.size w (((w.alloc (.cells #[.int .u64 base, .int .u64 bt, .string snap, .slice a n c] 25)).alloc (.cells #[.int .u64 t, .string d] 39)).alloc (.cells #[.int .u64 0, .int .u64 0, .string ⟨#[]⟩, .slice none 0 0] 25)) := by go_grown
  have L0 := ((Lb.new (w := w) rfl base bt snap (.slice a n c) 25).past (.cells #[.int .u64 t, .string d] 39)).past (.cells #[.int .u64 0, .int .u64 0, .string ⟨#[]⟩, .slice none 0 0] 25)
  have R0 := Lb.zero (w := ((w.alloc (.cells #[.int .u64 base, .int .u64 bt, .string snap, .slice a n c] 25)).alloc (.cells #[.int .u64 t, .string d] 39))) (x := w.heap.size + 1 + 1) (by simp) 25
  have x0 : (((w.alloc (.cells #[.int .u64 base, .int .u64 bt, .string snap, .slice a n c] 25)).alloc (.cells #[.int .u64 t, .string d] 39)).alloc (.cells #[.int .u64 0, .int .u64 0, .string ⟨#[]⟩, .slice none 0 0] 25)).cell? ⟨w.heap.size + 1, 0, none⟩ = some (.int .u64 t) := by simp [go_sem]
  have x1 : (((w.alloc (.cells #[.int .u64 base, .int .u64 bt, .string snap, .slice a n c] 25)).alloc (.cells #[.int .u64 t, .string d] 39)).alloc (.cells #[.int .u64 0, .int .u64 0, .string ⟨#[]⟩, .slice none 0 0] 25)).cell? ⟨w.heap.size + 1, 1, none⟩ = some (.string d) := by simp [go_sem]
  have hE0 := hE.later B0
  have HE := Lib.hid hE
  have HN := Lib.hid hn
  obtain ⟨q, hq⟩ : ∃ q, base + n = q := ⟨_, rfl⟩
  obtain ⟨lt, hlt⟩ : ∃ lt, lastT bt L = lt := ⟨_, rfl⟩
  have hf5 : (1024 ≤ n ∨ 1099511627776 ≤ q) → ∀ w', Below w.heap.size w w' → LeP w (addG ⟨base, bt, snap, L⟩ ⟨t, d⟩) (addE ⟨base, bt, snap, L⟩ ⟨t, d⟩) (.returned (.tuple #[.agg #[.int .u64 0, .int .u64 0, .string ⟨#[]⟩, .slice none 0 0], .int .i64 5])) w' := fun h w' hB => by
    obtain ⟨e1, e2⟩ := addG_full (g := ⟨base, bt, snap, L⟩) (x := ⟨t, d⟩) (by rw [hn, hq]; exact h)
    rw [e1, e2]; exact LeP.zero 5 hB
  have hf9 : ¬ (1024 ≤ n ∨ 1099511627776 ≤ q) → t < lt → ∀ w', Below w.heap.size w w' → LeP w (addG ⟨base, bt, snap, L⟩ ⟨t, d⟩) (addE ⟨base, bt, snap, L⟩ ⟨t, d⟩) (.returned (.tuple #[.agg #[.int .u64 0, .int .u64 0, .string ⟨#[]⟩, .slice none 0 0], .int .i64 9])) w' := fun h h2 w' hB => by
    obtain ⟨e1, e2⟩ := addG_order (g := ⟨base, bt, snap, L⟩) (x := ⟨t, d⟩) (by rw [hn, hq]; exact h) (by rw [hlt]; exact h2)
    rw [e1, e2]; exact LeP.zero 9 hB
  have hf0 : ¬ (1024 ≤ n ∨ 1099511627776 ≤ q) → ¬ t < lt → ∀ w' a' m' c', m' = n + 1 → m' ≤ c' → c' ≤ maxLen → Ents w' a' (L ++ [⟨t, d⟩]) → Below w.heap.size w w' → LeP w (addG ⟨base, bt, snap, L⟩ ⟨t, d⟩) (addE ⟨base, bt, snap, L⟩ ⟨t, d⟩) (.returned (.tuple #[.agg #[.int .u64 base, .int .u64 bt, .string snap, .slice a' m' c'], .int .i64 0])) w' := fun h h2 w' a' m' c' hm hc1 hc2 hE hB => by
    obtain ⟨e1, e2⟩ := addG_ok (g := ⟨base, bt, snap, L⟩) (x := ⟨t, d⟩) (by rw [hn]; omega) (by rw [hn, hq]; omega) (by rw [hlt]; exact h2)
    rw [e1, e2]
    have hlen : (L ++ [(⟨t, d⟩ : En)]).length = m' := by simp [hn, hm]
    exact ⟨a', c', by rw [← hlen], by rw [hlen]; exact hc1, hc2, hE, hB⟩
  have HF5 := Lib.hid hf5
  have HF9 := Lib.hid hf9
  have HF0 := Lib.hid hf0
  have HQ := Lib.hid hq
  have HT := Lib.hid hlt
  clear hf5 hf9 hf0
  have hz1 : w.heap.size + 1 < (((w.alloc (.cells #[.int .u64 base, .int .u64 bt, .string snap, .slice a n c] 25)).alloc (.cells #[.int .u64 t, .string d] 39)).alloc (.cells #[.int .u64 0, .int .u64 0, .string ⟨#[]⟩, .slice none 0 0] 25)).heap.size := by simp
  clear hn hq hlt hE
  go_enter Try.func21, Try.ntmps21
  go_wp2_with fail
  generalize (((w.alloc (.cells #[.int .u64 base, .int .u64 bt, .string snap, .slice a n c] 25)).alloc (.cells #[.int .u64 t, .string d] 39)).alloc (.cells #[.int .u64 0, .int .u64 0, .string ⟨#[]⟩, .slice none 0 0] 25)) = W at *
  refine (pLast_any base bt n c snap a L HN.out hl hb _ hE0).mono ?_
  rintro e w1 ⟨rfl, hb1⟩
  rw [HQ.out, HT.out]
  have L1 := L0.later hb1
  have R1 := R0.later hb1
  have y0 := (hb1.cell (p := ⟨w.heap.size + 1, 0, none⟩) hz1).trans x0
  have y1 := (hb1.cell (p := ⟨w.heap.size + 1, 1, none⟩) hz1).trans x1
  have hz2 : w.heap.size + 1 < w1.heap.size := Nat.lt_of_lt_of_le hz1 hb1.size
  have B1 := B0.trans (hb1.mono B0.size)
  clear hb1 x0 x1 L0 R0 hE0
  have HL := Lib.hid L1
  have HR := Lib.hid R1
  obtain ⟨l0, l1, l2, l3, lz, ll⟩ := L1
  obtain ⟨r0, r1, r2, r3, rz, rl⟩ := R1
  have u0 : w.heap.size ≤ w.heap.size + 1 + 1 := by omega
  by_cases h1 : 1024 ≤ n
  · have g1 : (1024 : Int) ≤ (n : Int) := by omega
    go_wp2_with fail
    refine bodyPost_ret (v := .tuple #[.agg #[.int .u64 0, .int .u64 0, .string ⟨#[]⟩, .slice none 0 0], .int .i64 5]) (by simp [results, Try.results21, go_sem, r0, r1, r2, r3]) rfl ?_
    exact HF5.out (.inl h1) _ ((((B1.setCell u0 _).setCell u0 _).setCell u0 _).setCell u0 _)
  have g1 : ¬ (1024 : Int) ≤ (n : Int) := by omega
  by_cases h2 : 1099511627776 ≤ q
  · have g2 : (1099511627776 : Int) ≤ (q : Int) := by omega
    go_wp2_with fail
    refine bodyPost_ret (v := .tuple #[.agg #[.int .u64 0, .int .u64 0, .string ⟨#[]⟩, .slice none 0 0], .int .i64 5]) (by simp [results, Try.results21, go_sem, r0, r1, r2, r3]) rfl ?_
    exact HF5.out (.inr h2) _ ((((B1.setCell u0 _).setCell u0 _).setCell u0 _).setCell u0 _)
  have g2 : decide ((1099511627776 : Int) ≤ (q : Int)) = false := decide_eq_false (by omega)
  have HH := Lib.hid (show ¬ (1024 ≤ n ∨ 1099511627776 ≤ q) by omega)
  have hn24 : n * 24 ≤ 24576 := by omega
  clear h1 h2
  by_cases h3 : t < lt
  · have g3 : (t : Int) < (lt : Int) := by omega
    go_wp2_with fail
    refine bodyPost_ret (v := .tuple #[.agg #[.int .u64 0, .int .u64 0, .string ⟨#[]⟩, .slice none 0 0], .int .i64 9]) (by simp [results, Try.results21, go_sem, r0, r1, r2, r3]) rfl ?_
    exact HF9.out HH.out h3 _ ((((B1.setCell u0 _).setCell u0 _).setCell u0 _).setCell u0 _)
  · have g3 : ¬ (t : Int) < (lt : Int) := by omega
    have H3 := Lib.hid h3
    clear h3
    have i0 : (0 : Int) ≤ (n : Int) := by omega
    have i1 : (n : Int) ≤ (c : Int) := by omega
    go_wp2_with fail
    go_region_law (refine step_app (by rfl) _ _ _ (by rfl) _ _ (by rfl) (by rfl) _ (app_full _ _ a n L HN.out ((HE.out.later B1).later ?_) _ 1 1 [⟨t, d⟩] rfl (ents_one w1.drew _ rfl t d 39) (by omega) (by omega)) ?_; (· (go_grown; done)); intro v' w2 hp; obtain ⟨g, cap, hv, hg, hcc, hcm', hE2, hb2⟩ := hp; obtain ⟨m', hm'⟩ : ∃ m', (L ++ [(⟨t, d⟩ : En)]).length = m' := ⟨_, rfl⟩; rw [hm'] at hv hcc; subst hv; have HM := Lib.hid hm'; clear hm'; have hb3 : Below w1.heap.size w1 w2 := ((Below.refl w1.heap.size w1).drew.alloc (Nat.le_refl _) _).trans (hb2.mono (by simp)); obtain ⟨p0, p1, p2, p3, pz, pl⟩ := HL.out.later hb3; obtain ⟨s0, s1, s2, s3, sz, sl⟩ := HR.out.later hb3)
    all_goals
      clear hb2 l0 l1 l2 l3 lz r0 r1 r2 r3 rz
      have B2 := B1.trans (hb3.mono B1.size)
      have hne : g ≠ w.heap.size := by simp at hg; omega
      have hne2 : g ≠ w.heap.size + 1 + 1 := by simp at hg; omega
      have hm2 : m' = n + 1 := by rw [← HM.out]; simp [HN.out]
      have HC := Lib.hid hm2
      have HEE := Lib.hid hE2
      clear hm2 hE2 hb3 hg
      go_wp2_with fail
      refine bodyPost_ret (v := .tuple #[.agg #[.int .u64 base, .int .u64 bt, .string snap, .slice (some ⟨g, 0, none⟩) m' cap], .int .i64 0]) (by simp [results, Try.results21, go_sem, s0, s1, s2, s3]) rfl ?_
      have n0 : ∀ q, (some (⟨g, 0, none⟩ : Addr)) = some q → q.block ≠ w.heap.size := fun q e => by cases e; exact hne
      have n2 : ∀ q, (some (⟨g, 0, none⟩ : Addr)) = some q → q.block ≠ w.heap.size + 1 + 1 := fun q e => by cases e; exact hne2
      refine HF0.out HH.out H3.out _ _ _ _ HC.out hcc hcm' ?_ ?_
      · exact ((((HEE.out.set n0 _ _).set n2 _ _).set n2 _ _).set n2 _ _).set n2 _ _
      · exact ((((B2.setCell (Nat.le_refl _) _).setCell u0 _).setCell u0 _).setCell u0 _).setCell u0 _
end Go.Proofs.Ytkifgjgjhjhknaa
