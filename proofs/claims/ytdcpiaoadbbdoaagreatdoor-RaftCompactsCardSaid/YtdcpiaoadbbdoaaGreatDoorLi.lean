/- Add: the program's and the document's. -/
import Derived.Test.YtdcpiaoadbbdoaaGreatDoorRb
import Derived.Test.YtdcpiaoadbbdoaaGreatDoorAp
import Derived.Deep.DeepCutAuto
set_option maxRecDepth 100000
set_option maxHeartbeats 16000000
namespace Go.Proofs.YtdcpiaoadbbdoaaGreatDoor
open Go.RowKit

structure Lg where
 base : Nat
 bt : Nat
 snap : ByteArray
 L : List En
def Lg.zero : Lg := ⟨0, 0, ⟨#[]⟩, []⟩
def LeT (w : World) (g : Lg) (k : Int) (e : Ending) (w' : World) : Prop := ∃ a c, e = .returned (.tuple #[.agg #[.int .u64 g.base, .int .u64 g.bt, .string g.snap, .slice a g.L.length c], .int .i64 k]) ∧ g.L.length ≤ c ∧ c ≤ maxLen ∧ Ents w' a g.L ∧ (∀ q, a = some q → TyE w' q.block) ∧ Below w.heap.size w w'
theorem LeT.zero {w w' : World} (k : Int) (h : Below w.heap.size w w') : LeT w Lg.zero k (.returned (.tuple #[.agg #[.int .u64 0, .int .u64 0, .string ⟨#[]⟩, .slice none 0 0], .int .i64 k])) w' :=
 ⟨none, 0, rfl, Nat.le_refl _, by decide, Ents.nil _ _, fun _ e => (by cases e), h⟩
def addE (g : Lg) (x : En) : Int := if 1024 ≤ g.L.length ∨ 1099511627776 ≤ g.base + g.L.length then 5 else if x.t < lastT g.bt g.L then 9 else 0
def addG (g : Lg) (x : En) : Lg := if addE g x = 0 then { g with L := g.L ++ [x] } else Lg.zero
theorem addG_ok {g : Lg} {x : En} (h1 : ¬ 1024 ≤ g.L.length) (h2 : ¬ 1099511627776 ≤ g.base + g.L.length) (h3 : ¬ x.t < lastT g.bt g.L) : addE g x = 0 ∧ addG g x = { g with L := g.L ++ [x] } := by
 have h : addE g x = 0 := by unfold addE; rw [if_neg (by omega), if_neg h3]
 exact ⟨h, by unfold addG; rw [if_pos h]⟩
theorem addG_full {g : Lg} {x : En} (h1 : 1024 ≤ g.L.length ∨ 1099511627776 ≤ g.base + g.L.length) : addE g x = 5 ∧ addG g x = Lg.zero := by
 have h : addE g x = 5 := by unfold addE; rw [if_pos h1]
 exact ⟨h, by unfold addG; rw [if_neg (by omega)]⟩
theorem addG_order {g : Lg} {x : En} (h1 : ¬ (1024 ≤ g.L.length ∨ 1099511627776 ≤ g.base + g.L.length)) (h3 : x.t < lastT g.bt g.L) : addE g x = 9 ∧ addG g x = Lg.zero := by
 have h : addE g x = 9 := by unfold addE; rw [if_neg h1, if_pos h3]
 exact ⟨h, by unfold addG; rw [if_neg (by omega)]⟩
theorem pAdd_any (base bt n c t : Nat) (snap d : ByteArray) (a : Option Addr) (L : List En) (hn : L.length = n) (hl : n ≤ 140737488351232) (hc : n ≤ c) (_ : c ≤ maxLen) (hb : base < 4611686018427387904) (w : World) (hE : Ents w a L) :
 Calls Tryz.prog 77 #[.agg #[.int .u64 base, .int .u64 bt, .string snap, .slice a n c], .agg #[.int .u64 t, .string d]] w (LeT w (addG ⟨base, bt, snap, L⟩ ⟨t, d⟩) (addE ⟨base, bt, snap, L⟩ ⟨t, d⟩)) := by
 have B0 : Below w.heap.size w (((w.alloc (.cells #[.int .u64 base, .int .u64 bt, .string snap, .slice a n c] 28)).alloc (.cells #[.int .u64 t, .string d] 65)).alloc (.cells #[.int .u64 0, .int .u64 0, .string ⟨#[]⟩, .slice none 0 0] 28)) := by go_grown
 have L0 := ((Lb.new (w := w) rfl base bt snap (.slice a n c) 28).past (.cells #[.int .u64 t, .string d] 65)).past (.cells #[.int .u64 0, .int .u64 0, .string ⟨#[]⟩, .slice none 0 0] 28)
 have R0 := Lb.zero (w := ((w.alloc (.cells #[.int .u64 base, .int .u64 bt, .string snap, .slice a n c] 28)).alloc (.cells #[.int .u64 t, .string d] 65))) (x := w.heap.size + 1 + 1) (by simp) 28
 have x0 : (((w.alloc (.cells #[.int .u64 base, .int .u64 bt, .string snap, .slice a n c] 28)).alloc (.cells #[.int .u64 t, .string d] 65)).alloc (.cells #[.int .u64 0, .int .u64 0, .string ⟨#[]⟩, .slice none 0 0] 28)).cell? ⟨w.heap.size + 1, 0, none⟩ = some (.int .u64 t) := by simp [go_sem]
 have x1 : (((w.alloc (.cells #[.int .u64 base, .int .u64 bt, .string snap, .slice a n c] 28)).alloc (.cells #[.int .u64 t, .string d] 65)).alloc (.cells #[.int .u64 0, .int .u64 0, .string ⟨#[]⟩, .slice none 0 0] 28)).cell? ⟨w.heap.size + 1, 1, none⟩ = some (.string d) := by simp [go_sem]
 have hE0 := hE.later B0
 have HE := hI_ hE
 have HN := hI_ hn
 obtain ⟨q, hq⟩ : ∃ q, base + n = q := ⟨_, rfl⟩
 obtain ⟨lt, hlt⟩ : ∃ lt, lastT bt L = lt := ⟨_, rfl⟩
 have hf5 : (1024 ≤ n ∨ 1099511627776 ≤ q) → ∀ w', Below w.heap.size w w' → LeT w (addG ⟨base, bt, snap, L⟩ ⟨t, d⟩) (addE ⟨base, bt, snap, L⟩ ⟨t, d⟩) (.returned (.tuple #[.agg #[.int .u64 0, .int .u64 0, .string ⟨#[]⟩, .slice none 0 0], .int .i64 5])) w' := fun h w' hB => by
  obtain ⟨e1, e2⟩ := addG_full (g := ⟨base, bt, snap, L⟩) (x := ⟨t, d⟩) (by rw [hn, hq]; exact h)
  rw [e1, e2]; exact LeT.zero 5 hB
 have hf9 : ¬ (1024 ≤ n ∨ 1099511627776 ≤ q) → t < lt → ∀ w', Below w.heap.size w w' → LeT w (addG ⟨base, bt, snap, L⟩ ⟨t, d⟩) (addE ⟨base, bt, snap, L⟩ ⟨t, d⟩) (.returned (.tuple #[.agg #[.int .u64 0, .int .u64 0, .string ⟨#[]⟩, .slice none 0 0], .int .i64 9])) w' := fun h h2 w' hB => by
  obtain ⟨e1, e2⟩ := addG_order (g := ⟨base, bt, snap, L⟩) (x := ⟨t, d⟩) (by rw [hn, hq]; exact h) (by rw [hlt]; exact h2)
  rw [e1, e2]; exact LeT.zero 9 hB
 have hf0 : ¬ (1024 ≤ n ∨ 1099511627776 ≤ q) → ¬ t < lt → ∀ w' a' m' c', m' = n + 1 → m' ≤ c' → c' ≤ maxLen → Ents w' a' (L ++ [⟨t, d⟩]) → (∀ q, a' = some q → TyE w' q.block) → Below w.heap.size w w' → LeT w (addG ⟨base, bt, snap, L⟩ ⟨t, d⟩) (addE ⟨base, bt, snap, L⟩ ⟨t, d⟩) (.returned (.tuple #[.agg #[.int .u64 base, .int .u64 bt, .string snap, .slice a' m' c'], .int .i64 0])) w' := fun h h2 w' a' m' c' hm hc1 hc2 hE hT hB => by
  obtain ⟨e1, e2⟩ := addG_ok (g := ⟨base, bt, snap, L⟩) (x := ⟨t, d⟩) (by rw [hn]; omega) (by rw [hn, hq]; omega) (by rw [hlt]; exact h2)
  rw [e1, e2]
  have hlen : (L ++ [(⟨t, d⟩ : En)]).length = m' := by simp [hn, hm]
  exact ⟨a', c', by rw [← hlen], by rw [hlen]; exact hc1, hc2, hE, hT, hB⟩
 have HF5 := hI_ hf5
 have HF9 := hI_ hf9
 have HF0 := hI_ hf0
 have HQ := hI_ hq
 have HT := hI_ hlt
 clear hf5 hf9 hf0
 have hz1 : w.heap.size + 1 < (((w.alloc (.cells #[.int .u64 base, .int .u64 bt, .string snap, .slice a n c] 28)).alloc (.cells #[.int .u64 t, .string d] 65)).alloc (.cells #[.int .u64 0, .int .u64 0, .string ⟨#[]⟩, .slice none 0 0] 28)).heap.size := by simp
 clear hn hq hlt hE
 go_enter Tryz.func77, Tryz.ntmps77
 go_wp2_with fail
 generalize (((w.alloc (.cells #[.int .u64 base, .int .u64 bt, .string snap, .slice a n c] 28)).alloc (.cells #[.int .u64 t, .string d] 65)).alloc (.cells #[.int .u64 0, .int .u64 0, .string ⟨#[]⟩, .slice none 0 0] 28)) = W at *
 refine (pLast_any base bt n c snap a L HN.out hl hb _ hE0).mono ?_
 rintro e w1 ⟨rfl, hb1⟩
 rw [HQ.out, HT.out]
 have L1 := L0.later hb1
 have R1 := R0.later hb1
 have y0 := (hb1.cell (p := ⟨w.heap.size + 1, 0, none⟩) hz1).trans x0
 have y1 := (hb1.cell (p := ⟨w.heap.size + 1, 1, none⟩) hz1).trans x1
 have hz2 : w.heap.size + 1 < w1.heap.size := Nat.lt_of_lt_of_le hz1 hb1.size
 have B1 := B0.trans (hb1.mono B0.size)
 clear hb1 x0 x1 L0 R0 hE0
 have HL := hI_ L1
 have HR := hI_ R1
 obtain ⟨l0, l1, l2, l3, lz, ll⟩ := L1
 obtain ⟨r0, r1, r2, r3, rz, rl⟩ := R1
 have u0 : w.heap.size ≤ w.heap.size + 1 + 1 := by omega
 by_cases h1 : 1024 ≤ n
 · have g1 : (1024 : Int) ≤ (n : Int) := by omega
   go_wp2_with fail
   refine bodyPost_ret (v := .tuple #[.agg #[.int .u64 0, .int .u64 0, .string ⟨#[]⟩, .slice none 0 0], .int .i64 5]) (by simp [results, Tryz.results77, go_sem, r0, r1, r2, r3]) rfl ?_
   exact HF5.out (.inl h1) _ ((((B1.setCell u0 _).setCell u0 _).setCell u0 _).setCell u0 _)
 have g1 : ¬ (1024 : Int) ≤ (n : Int) := by omega
 by_cases h2 : 1099511627776 ≤ q
 · have g2 : (1099511627776 : Int) ≤ (q : Int) := by omega
   go_wp2_with fail
   refine bodyPost_ret (v := .tuple #[.agg #[.int .u64 0, .int .u64 0, .string ⟨#[]⟩, .slice none 0 0], .int .i64 5]) (by simp [results, Tryz.results77, go_sem, r0, r1, r2, r3]) rfl ?_
   exact HF5.out (.inr h2) _ ((((B1.setCell u0 _).setCell u0 _).setCell u0 _).setCell u0 _)
 have g2 : decide ((1099511627776 : Int) ≤ (q : Int)) = false := decide_eq_false (by omega)
 have HH := hI_ (show ¬ (1024 ≤ n ∨ 1099511627776 ≤ q) by omega)
 have hn24 : n * 24 ≤ 24576 := by omega
 clear h1 h2
 by_cases h3 : t < lt
 · have g3 : (t : Int) < (lt : Int) := by omega
   go_wp2_with fail
   refine bodyPost_ret (v := .tuple #[.agg #[.int .u64 0, .int .u64 0, .string ⟨#[]⟩, .slice none 0 0], .int .i64 9]) (by simp [results, Tryz.results77, go_sem, r0, r1, r2, r3]) rfl ?_
   exact HF9.out HH.out h3 _ ((((B1.setCell u0 _).setCell u0 _).setCell u0 _).setCell u0 _)
 · have g3 : ¬ (t : Int) < (lt : Int) := by omega
   have H3 := hI_ h3
   clear h3
   have i0 : (0 : Int) ≤ (n : Int) := by omega
   have i1 : (n : Int) ≤ (c : Int) := by omega
   go_wp2_with fail
   go_region_law (refine step_appE (by rfl) _ _ _ (by rfl) _ _ (by rfl) (by rfl) _ (app_full _ _ a n L HN.out ((HE.out.later B1).later ?_) _ 1 1 [⟨t, d⟩] rfl (ents_one w1.drew _ rfl t d 65) (by omega) (by omega)) ?_; (· (go_grown; done)); intro v' w2 hp; obtain ⟨g, cap, hv, hg, hcc, hcm', hE2, hty, hb2⟩ := hp; obtain ⟨m', hm'⟩ : ∃ m', (L ++ [(⟨t, d⟩ : En)]).length = m' := ⟨_, rfl⟩; rw [hm'] at hv hcc; subst hv; have HM := hI_ hm'; clear hm'; have hb3 : Below w1.heap.size w1 w2 := ((Below.refl w1.heap.size w1).drew.alloc (Nat.le_refl _) _).trans (hb2.mono (by simp)); obtain ⟨p0, p1, p2, p3, pz, pl⟩ := HL.out.later hb3; obtain ⟨s0, s1, s2, s3, sz, sl⟩ := HR.out.later hb3)
   all_goals
    clear hb2 l0 l1 l2 l3 lz r0 r1 r2 r3 rz
    have B2 := B1.trans (hb3.mono B1.size)
    have hne : g ≠ w.heap.size := by simp at hg; omega
    have hne2 : g ≠ w.heap.size + 1 + 1 := by simp at hg; omega
    have hm2 : m' = n + 1 := by rw [← HM.out]; simp [HN.out]
    have HC := hI_ hm2
    have HEE := hI_ hE2
    clear hm2 hE2 hb3 hg
    go_wp2_with fail
    refine bodyPost_ret (v := .tuple #[.agg #[.int .u64 base, .int .u64 bt, .string snap, .slice (some ⟨g, 0, none⟩) m' cap], .int .i64 0]) (by simp [results, Tryz.results77, go_sem, s0, s1, s2, s3]) rfl ?_
    have n0 : ∀ q, (some (⟨g, 0, none⟩ : Addr)) = some q → q.block ≠ w.heap.size := fun q e => by cases e; exact hne
    have n2 : ∀ q, (some (⟨g, 0, none⟩ : Addr)) = some q → q.block ≠ w.heap.size + 1 + 1 := fun q e => by cases e; exact hne2
    refine HF0.out HH.out H3.out _ _ _ _ HC.out hcc hcm' ?_ (fun q e => ?_) ?_
    · exact ((((HEE.out.set n0 _ _).set n2 _ _).set n2 _ _).set n2 _ _).set n2 _ _
    · cases e; exact ((((hty.set _ _ _).set _ _ _).set _ _ _).set _ _ _).set _ _ _
    · exact ((((B2.setCell (Nat.le_refl _) _).setCell u0 _).setCell u0 _).setCell u0 _).setCell u0 _


def insG (g : Lg) (i term : Nat) (snap : ByteArray) : Lg := if i ≤ g.base then g else ⟨i, term, snap, if hasB g.base g.bt g.L i term then g.L.drop (i - g.base) else []⟩
def Fr (w : World) (a0 : Option Addr) (L0 : List En) (w' : World) (a : Option Addr) (L : List En) : Prop := Pc a0 L0 a L ∨ (Ents w' a L ∧ ∀ q, a = some q → w.heap.size ≤ q.block ∧ TyE w' q.block)
theorem Fr.same (w : World) (a0 : Option Addr) (L0 : List En) (w' : World) : Fr w a0 L0 w' a0 L0 := .inl ⟨fun _ h => h, fun h => ⟨h, fun q e => ⟨q, e, rfl⟩⟩⟩
theorem Fr.nil (w : World) (a0 : Option Addr) (L0 : List En) (w' : World) (a : Option Addr) : Fr w a0 L0 w' a [] := .inl ⟨fun _ _ => Ents.nil _ _, fun h => absurd h (by simp)⟩
theorem Fr.set {w w' : World} {a0 a : Option Addr} {L0 L : List En} (h : Fr w a0 L0 w' a L) {x : Nat} (hx : x < w.heap.size) (o : Nat) (v : Value) : Fr w a0 L0 (w'.setCell ⟨x, o, none⟩ v) a L :=
 h.imp id fun ⟨h1, h2⟩ => ⟨h1.set (fun q e => by have := (h2 q e).1; omega) _ _, fun q e => ⟨(h2 q e).1, (h2 q e).2.set _ _ _⟩⟩
theorem Fr.mono {w1 w w' : World} {a0 a : Option Addr} {L0 L : List En} (h : Fr w1 a0 L0 w' a L) (hw : w.heap.size ≤ w1.heap.size) : Fr w a0 L0 w' a L :=
 h.imp id fun ⟨h1, h2⟩ => ⟨h1, fun q e => ⟨Nat.le_trans hw (h2 q e).1, (h2 q e).2⟩⟩
theorem Fr.out {w w1 w' : World} {a0 a : Option Addr} {L0 L : List En} (h : Fr w1 a0 L0 w' a L) (hE : Ents w a0 L0) (hB : Below w.heap.size w w') : Ents w' a L := by
 rcases h with h | ⟨h, _⟩
 · exact (h.1 _ hE).later hB
 · exact h
theorem Fr.pl {w w' : World} {a0 a : Option Addr} {L0 L : List En} (h : Fr w a0 L0 w' a L) : Pl a0 L0 w' a L := by
 rcases h with h | h
 · exact fun h0 q e => .inr ⟨(h.2 h0).1, (h.2 h0).2 q e⟩
 · exact Pl.new fun q e => (h.2 q e).2
def LoP (w : World) (a0 : Option Addr) (L0 : List En) (g : Lg) (e : Ending) (w' : World) : Prop := ∃ a c, e = .returned (.agg #[.int .u64 g.base, .int .u64 g.bt, .string g.snap, .slice a g.L.length c]) ∧ g.L.length ≤ c ∧ c ≤ maxLen ∧ Fr w a0 L0 w' a g.L ∧ Below w.heap.size w w'
theorem pInstall_any (base bt n c i term : Nat) (snap sn : ByteArray) (a : Option Addr) (L : List En) (hn : L.length = n) (hl : n ≤ 140737488351232) (hc : n ≤ c) (hcm : c ≤ maxLen) (hb : base < 4611686018427387904) (hi : i < 18446744073709551616) (w : World) (hE : Ents w a L) :
 Calls Tryz.prog 99 #[.agg #[.int .u64 base, .int .u64 bt, .string snap, .slice a n c], .int .u64 i, .int .u64 term, .string sn] w (LoP w a L (insG ⟨base, bt, snap, L⟩ i term sn)) := by
 have B0 : Below w.heap.size w ((w.alloc (.cells #[.int .u64 base, .int .u64 bt, .string snap, .slice a n c] 28)).alloc (.cells #[.int .u64 0, .int .u64 0, .string ⟨#[]⟩, .slice none 0 0] 28)) := by go_grown
 have L0 := (Lb.new (w := w) rfl base bt snap (.slice a n c) 28).past (.cells #[.int .u64 0, .int .u64 0, .string ⟨#[]⟩, .slice none 0 0] 28)
 have R0 := Lb.zero (w := (w.alloc (.cells #[.int .u64 base, .int .u64 bt, .string snap, .slice a n c] 28))) (x := w.heap.size + 1) (by simp) 28
 have hE0 := hE.later B0
 have HE := hI_ hE
 have HN := hI_ hn
 by_cases h1 : i ≤ base
 · have g1 : (i : Int) ≤ (base : Int) := by omega
   have hf : ∀ w', Below w.heap.size w w' → LoP w a L (insG ⟨base, bt, snap, L⟩ i term sn) (.returned (.agg #[.int .u64 base, .int .u64 bt, .string snap, .slice a n c])) w' := fun w' hB => by
    unfold insG; rw [if_pos h1]; exact ⟨a, c, by rw [← hn], by rw [hn]; exact hc, hcm, Fr.same _ _ _ _, hB⟩
   have HF := hI_ hf
   clear hf hn hE hE0
   go_enter Tryz.func99, Tryz.ntmps99
   go_wp2_with fail
   refine bodyPost_ret (v := .agg #[.int .u64 base, .int .u64 bt, .string snap, .slice a n c]) (by simp [results, Tryz.results99, go_sem]) rfl ?_
   exact HF.out _ (by go_grown)
 have g1 : ¬ (i : Int) ≤ (base : Int) := by omega
 obtain ⟨M, hM⟩ : ∃ M, L.drop (i - base) = M := ⟨_, rfl⟩
 obtain ⟨m, hm⟩ : ∃ m, M.length = m := ⟨_, rfl⟩
 obtain ⟨b, hhb⟩ : ∃ b, hasB base bt L i term = b := ⟨_, rfl⟩
 have hf0 : b = false → ∀ w', Below w.heap.size w w' → LoP w a L (insG ⟨base, bt, snap, L⟩ i term sn) (.returned (.agg #[.int .u64 i, .int .u64 term, .string sn, .slice none 0 0])) w' := fun h w' hB => by
  unfold insG; rw [if_neg h1, hhb, h]; exact ⟨none, 0, rfl, Nat.le_refl _, by decide, Fr.nil _ _ _ _ _, hB⟩
 have hf1 : b = true → ∀ w' a', Fr w a L w' a' M → Below w.heap.size w w' → LoP w a L (insG ⟨base, bt, snap, L⟩ i term sn) (.returned (.agg #[.int .u64 i, .int .u64 term, .string sn, .slice a' m m])) w' := fun h w' a' hE' hB => by
  unfold insG; rw [if_neg h1, hhb, h]; simp only [if_true]; rw [hM]
  have hmn : m ≤ n := by rw [← hm, ← hM, List.length_drop]; omega
  exact ⟨a', m, by rw [hm], by rw [hm]; exact Nat.le_refl _, by unfold maxLen at *; omega, hE', hB⟩
 have HF0 := hI_ hf0
 have HF1 := hI_ hf1
 have HM := hI_ hM
 have HL := hI_ hm
 have HH := hI_ hhb
 have hbi : base ≤ i := by omega
 have z1 : w.heap.size + 1 < ((w.alloc (.cells #[.int .u64 base, .int .u64 bt, .string snap, .slice a n c] 28)).alloc (.cells #[.int .u64 0, .int .u64 0, .string ⟨#[]⟩, .slice none 0 0] 28)).heap.size := by simp
 have hz : ((w.alloc (.cells #[.int .u64 base, .int .u64 bt, .string snap, .slice a n c] 28)).alloc (.cells #[.int .u64 0, .int .u64 0, .string ⟨#[]⟩, .slice none 0 0] 28)).heap.size = w.heap.size + 1 + 1 := by simp
 have hu0 : w.heap.size ≤ w.heap.size + 1 := by omega
 clear hf0 hf1 hM hm hhb hE hn h1
 go_enter Tryz.func99, Tryz.ntmps99
 go_wp2_with fail
 have B1 := B0.alloc B0.size (.cells #[.int .u64 i, .int .u64 term, .string sn, .slice none 0 0] 28)
 have L1 := L0.past (.cells #[.int .u64 i, .int .u64 term, .string sn, .slice none 0 0] 28)
 have R1 := R0.past (.cells #[.int .u64 i, .int .u64 term, .string sn, .slice none 0 0] 28)
 have N1 := Lb.new (w := ((w.alloc (.cells #[.int .u64 base, .int .u64 bt, .string snap, .slice a n c] 28)).alloc (.cells #[.int .u64 0, .int .u64 0, .string ⟨#[]⟩, .slice none 0 0] 28))) (x := w.heap.size + 1 + 1) hz.symm i term sn (.slice none 0 0) 28
 have hE1 := HE.out.later B1
 generalize ((w.alloc (.cells #[.int .u64 base, .int .u64 bt, .string snap, .slice a n c] 28)).alloc (.cells #[.int .u64 0, .int .u64 0, .string ⟨#[]⟩, .slice none 0 0] 28)).alloc (.cells #[.int .u64 i, .int .u64 term, .string sn, .slice none 0 0] 28) = W at *
 refine (pHas_any base bt n c i term snap a L HN.out hl hb hi _ hE1).mono ?_
 rintro e w1 ⟨rfl, hb1⟩
 rw [HH.out]
 have L2 := L1.later hb1
 have R2 := R1.later hb1
 have N2 := N1.later hb1
 have B2 := B1.trans (hb1.mono B1.size)
 have hE2 := HE.out.later B2
 clear hb1 B1 L1 R1 N1 hE1 L0 R0 B0 hE0
 have HN2 := hI_ N2
 have HR2 := hI_ R2
 obtain ⟨l0, l1, l2, l3, lz, ll⟩ := L2
 obtain ⟨r0, r1, r2, r3, rz, rl⟩ := R2
 obtain ⟨n0, n1, n2, n3, nz, nl⟩ := N2
 cases b
 · go_wp2_with fail
   refine bodyPost_ret (v := .agg #[.int .u64 i, .int .u64 term, .string sn, .slice none 0 0]) (by simp [results, Tryz.results99, go_sem, r0, r1, r2, r3]) rfl ?_
   exact HF0.out (by first | rfl | trivial) _ ((((B2.setCell hu0 _).setCell hu0 _).setCell hu0 _).setCell hu0 _)
 · go_wp2_with fail
   refine (pBehind_any base bt n c i snap a L HN.out hl hc hcm hb hi hbi _ hE2).mono ?_
   rintro e w2 ⟨a', rfl, hE3, hb2⟩
   rw [HM.out] at hE3 ⊢
   rw [HL.out]
   have B3 := B2.trans (hb2.mono B2.size)
   obtain ⟨p0, p1, p2, p3, pz, pl⟩ := HN2.out.later hb2
   obtain ⟨s0, s1, s2, s3, sz, sl⟩ := HR2.out.later hb2
   have HE4 := hI_ hE3
   have hu1 : w.heap.size ≤ w.heap.size + 1 + 1 := by omega
   clear hb2 hE3 l0 l1 l2 l3 lz r0 r1 r2 r3 rz n0 n1 n2 n3 nz hE2
   go_wp2_with fail
   refine bodyPost_ret (v := .agg #[.int .u64 i, .int .u64 term, .string sn, .slice a' m m]) (by simp [results, Tryz.results99, go_sem, s0, s1, s2, s3]) rfl ?_
   refine (fun B4 => HF1.out (by first | rfl | trivial) _ _ (.inl HE4.out) B4) ?_
   exact ((((B3.setCell hu1 _).setCell hu0 _).setCell hu0 _).setCell hu0 _).setCell hu0 _
end Go.Proofs.YtdcpiaoadbbdoaaGreatDoor
