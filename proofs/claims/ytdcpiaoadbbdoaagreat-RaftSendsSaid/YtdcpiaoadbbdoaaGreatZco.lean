/- The program's May, in plain words. -/
import Derived.Test.YtdcpiaoadbbdoaaGreatBulk
import Derived.Test.YtdcpiaoadbbdoaaGreatMy
import Derived.Outline
import Derived.Test.YtdcpiaoadbbdoaaGreatQz
import Derived.Test.YtdcpiaoadbbdoaaGreatQmb
import Derived.Test.YtdcpiaoadbbdoaaGreatHp
import Derived.Deep.RegionLaw
import Derived.Deep.RegionWith
import Derived.Test.YtdcpiaoadbbdoaaGreatJd
set_option maxRecDepth 100000
set_option maxHeartbeats 16000000
namespace Go.Proofs.YtdcpiaoadbbdoaaGreat
open Go.RowKit

def baseOk (base bt : Nat) (snap : ByteArray) : Prop := (base = 0 → bt = 0 ∧ snap.size = 0) ∧ base ≤ 1099511627776 ∧ snap.size ≤ 4096
def dataOk (L : List En) : Prop := ∀ x ∈ L, x.d.size ≤ 4096
def entsOk (base : Nat) (L : List En) : Prop := L.length ≤ 1024 ∧ base + L.length ≤ 1099511627776 ∧ dataOk L
def hiT (bt : Nat) (L : List En) : Nat → Nat
 | 0 => bt
 | k + 1 => match L[k]? with | some x => x.t | none => 0
def ascT (bt : Nat) (L : List En) (k : Nat) : Prop := ∀ j, j < k → hiT bt L j ≤ hiT bt L (j + 1)
def termsOk (term bt : Nat) (L : List En) : Prop := ascT bt L L.length ∧ hiT bt L L.length ≤ term
theorem hiT_succ {bt : Nat} {L : List En} {k : Nat} {x : En} (h : L[k]? = some x) : hiT bt L (k + 1) = x.t := by simp only [hiT, h]
theorem ascT_le {bt : Nat} {L : List En} {n : Nat} (h : ascT bt L n) : ∀ m, m ≤ n → ∀ j, j ≤ m → hiT bt L j ≤ hiT bt L m := by
 intro m
 induction m with
 | zero => intro _ j hj; have e : j = 0 := Nat.le_zero.1 hj; rw [e]; exact Nat.le_refl _
 | succ m ih =>
  intro hm j hj
  by_cases e : j = m + 1
  · subst e; exact Nat.le_refl _
  · exact Nat.le_trans (ih (by omega) j (by omega)) (h m (by omega))
theorem ents_terms (term bt : Nat) (L : List En) : (bt ≤ term ∧ ∀ k, entOk term bt L k) ↔ (termsOk term bt L ∧ dataOk L) := by
 constructor
 · rintro ⟨h0, h⟩
   refine ⟨⟨fun j hj => ?_, ?_⟩, fun x hx => ?_⟩
   · have hx := List.getElem?_eq_getElem hj
     obtain ⟨_, b1, b2, _⟩ := h j _ hx
     rw [hiT_succ hx]
     cases j with
     | zero => exact b1
     | succ j =>
      have hy := List.getElem?_eq_getElem (show j < L.length by omega)
      rw [hiT_succ hy]
      exact b2 _ (by omega) (by simp)
   · cases hL : L.length with
     | zero => exact h0
     | succ m =>
      have hx := List.getElem?_eq_getElem (show m < L.length by omega)
      rw [hiT_succ hx]
      exact (h m _ hx).1
   · obtain ⟨j, hj, rfl⟩ := List.mem_iff_getElem.1 hx
     exact (h j _ (List.getElem?_eq_getElem hj)).2.2.2
 · rintro ⟨⟨h1, h2⟩, h3⟩
   have mono := ascT_le h1
   refine ⟨Nat.le_trans (mono _ (Nat.le_refl _) 0 (Nat.zero_le _)) h2, fun k x hx => ?_⟩
   have hk := (List.getElem?_eq_some_iff.1 hx).1
   have e := hiT_succ (bt := bt) hx
   refine ⟨?_, ?_, ?_, h3 x (List.mem_of_getElem? hx)⟩
   · rw [← e]; exact Nat.le_trans (mono _ (Nat.le_refl _) _ (by omega)) h2
   · rw [← e]; exact mono (k + 1) (by omega) 0 (Nat.zero_le _)
   · intro y h0 hy
     have e2 := hiT_succ (bt := bt) hy
     rw [← e, ← e2, show k - 1 + 1 = k by omega]
     exact h1 k hk
theorem stOk_iff (term vote base bt : Nat) (snap : ByteArray) (L : List En) : stOk term vote base bt snap L ↔ term ≤ 4611686018427387903 ∧ vote ≤ 4611686018427387903 ∧ baseOk base bt snap ∧ entsOk base L ∧ termsOk term bt L := by
 have h := ents_terms term bt L
 unfold stOk baseOk entsOk
 constructor
 · rintro ⟨a1, a2, a3, a4, a5, a6, a7, a8, a9⟩
   obtain ⟨b1, b2⟩ := h.1 ⟨a7, a9⟩
   exact ⟨a1, a2, ⟨a8, a3, a6⟩, ⟨a4, a5, b2⟩, b1⟩
 · rintro ⟨a1, a2, ⟨a8, a3, a6⟩, ⟨a4, a5, b2⟩, b1⟩
   obtain ⟨a7, a9⟩ := h.2 ⟨b1, b2⟩
   exact ⟨a1, a2, a3, a4, a5, a6, a7, a8, a9⟩

theorem plast_any (a : Option Addr) (n c base bt : Nat) (snap : ByteArray) (w : World) (hb : base ≤ 1099511627776) (hn : n ≤ 1048576) :
 Calls Tryz.prog 95 #[.agg #[.int .u64 base, .int .u64 bt, .string snap, .slice a n c]] w fun e w' => e = .returned (.int .u64 (base + n : Nat)) ∧ Below w.heap.size w w' := by
 go_enter Tryz.func95, Tryz.ntmps95
 go_wp2_with fail
 go_ret
 exact ⟨by simp, (Below.refl _ _).alloc (Nat.le_refl _) _⟩
theorem mayBase_no0 (a : Option Addr) (n c base bt : Nat) (snap : ByteArray) (_ : snap.size ≤ 140737488351232) (w : World) (hb : base = 0) (h : ¬ bt = 0 ∨ ¬ snap.size = 0) :
 Calls Tryz.prog 63 #[.agg #[.int .u64 base, .int .u64 bt, .string snap, .slice a n c]] w fun e w' => e = .returned (.bool false) ∧ Below w.heap.size w w' := by
 have g1 : ((base : Int) == 0) = true := by simp [hb]
 by_cases hbt : bt = 0
 · have hs0 := nonempty_of (h.resolve_left (fun f => f hbt))
   have g2 : ((bt : Int) != 0) = false := by simp [hbt]
   obtain ⟨q1, q2, q3⟩ := hs0
   have q4 : (snap.toList != []) = true := by simp [q3]
   clear hb h hbt
   go_enter Tryz.func63, Tryz.ntmps63
   go_wp2_with fail
   go_ret
   exact ⟨rfl, by go_grown⟩
 · have g2 : ((bt : Int) != 0) = true := by simp [hbt]
   clear hb h hbt
   go_enter Tryz.func63, Tryz.ntmps63
   go_wp2_with fail
   go_ret
   exact ⟨rfl, by go_grown⟩
theorem mayBase_rest (a : Option Addr) (n c base bt : Nat) (snap : ByteArray) (hs : snap.size ≤ 140737488351232) (w : World) (h : base = 0 → bt = 0 ∧ snap.size = 0) :
 Calls Tryz.prog 63 #[.agg #[.int .u64 base, .int .u64 bt, .string snap, .slice a n c]] w (MayP (baseOk base bt snap) w) := by
 by_cases hb : base = 0
 · obtain ⟨h1, h2⟩ := h hb
   have g1 : ((base : Int) == 0) = true := by simp [hb]
   have g2 : ((bt : Int) != 0) = false := by simp [h1]
   have g3 : (base : Int) ≤ 1099511627776 := by omega
   have g4 : (snap.size : Int) ≤ 4096 := by omega
   have e := empty_of h2
   have g5 : snap.toList = [] := by rw [e]; simp [ByteArray.toList_eq]
   have g6 : snap.toList.isEmpty = true := by rw [g5]; rfl
   have HG := hI_ (show baseOk base bt snap from ⟨h, by omega, by omega⟩)
   clear hb h h1 h2 e
   go_enter Tryz.func63, Tryz.ntmps63
   go_wp2_with fail
   go_ret
   exact mayP_yes HG.out (by go_grown)
 · have g1 : ((base : Int) == 0) = false := by simp [hb]
   by_cases h3 : base ≤ 1099511627776
   · have g3 : (base : Int) ≤ 1099511627776 := by omega
     by_cases h4 : snap.size ≤ 4096
     · have g4 : (snap.size : Int) ≤ 4096 := by omega
       have HG := hI_ (show baseOk base bt snap from ⟨h, by omega, by omega⟩)
       clear hb h h3 h4
       go_enter Tryz.func63, Tryz.ntmps63
       go_wp2_with fail
       go_ret
       exact mayP_yes HG.out (by go_grown)
     · have g4 : ¬ (snap.size : Int) ≤ 4096 := by omega
       have HG := hI_ (show ¬ baseOk base bt snap from fun k => h4 k.2.2)
       clear hb h h3 h4
       go_enter Tryz.func63, Tryz.ntmps63
       go_wp2_with fail
       go_ret
       exact mayP_no HG.out (by go_grown)
   · have g3 : ¬ (base : Int) ≤ 1099511627776 := by omega
     have HG := hI_ (show ¬ baseOk base bt snap from fun k => h3 k.2.1)
     clear hb h h3
     go_enter Tryz.func63, Tryz.ntmps63
     go_wp2_with fail
     go_ret
     exact mayP_no HG.out (by go_grown)
theorem mayBase_any (a : Option Addr) (n c base bt : Nat) (snap : ByteArray) (hs : snap.size ≤ 140737488351232) (w : World) :
 Calls Tryz.prog 63 #[.agg #[.int .u64 base, .int .u64 bt, .string snap, .slice a n c]] w (MayP (baseOk base bt snap) w) := by
 by_cases h : base = 0 → bt = 0 ∧ snap.size = 0
 · exact mayBase_rest a n c base bt snap hs w h
 · have hb : base = 0 := Classical.byContradiction fun k => h fun k2 => absurd k2 k
   have h2 : ¬ bt = 0 ∨ ¬ snap.size = 0 := by
    by_cases k : bt = 0
    · exact .inr fun k2 => h fun _ => ⟨k, k2⟩
    · exact .inl k
   refine (mayBase_no0 a n c base bt snap hs w hb h2).mono ?_
   rintro e w' ⟨rfl, hb'⟩
   exact mayP_no (fun k => h k.1) hb'
theorem mayEntries_any (n c base bt : Nat) (snap : ByteArray) (a : Option Addr) (L : List En) (hn : L.length = n) (hl : n ≤ 140737488351232) (hbase : base ≤ 1099511627776) (hD : ∀ x ∈ L, x.d.size ≤ 140737488351232) (w : World) (hE : Ents w a L) :
 Calls Tryz.prog 64 #[.agg #[.int .u64 base, .int .u64 bt, .string snap, .slice a n c]] w (MayP (entsOk base L) w) := by
 have HN := hI_ hn; clear hn
 by_cases h1 : 1024 < n
 · have g1 : (1024 : Int) < (n : Int) := by omega
   have HNO := hI_ (show ¬ entsOk base L from fun h => by have := h.1; have := HN.out; omega)
   clear h1 hE
   go_enter Tryz.func64, Tryz.ntmps64
   go_wp2_with fail
   go_ret
   exact mayP_no HNO.out (by go_grown)
 have g1 : ¬ (1024 : Int) < (n : Int) := by omega
 have HD := hI_ hD; clear hD
 obtain ⟨q, hq⟩ : ∃ q, base + n = q := ⟨_, rfl⟩
 have HQ := hI_ hq
 by_cases h2 : 1099511627776 < q
 · have g2 : (1099511627776 : Int) < (q : Int) := by omega
   have HNO := hI_ (show ¬ entsOk base L from fun h => by have := h.2.1; have := HN.out; omega)
   clear hq hE
   go_enter Tryz.func64, Tryz.ntmps64
   go_wp2_with fail
   refine (plast_any _ _ _ _ _ _ _ (by omega) (by omega)).mono ?_
   rintro e w2 ⟨rfl, hb2⟩
   rw [HQ.out]
   have B2 : Below w.heap.size w w2 := ((Below.refl _ w).alloc (Nat.le_refl _) _).trans (hb2.mono (by simp))
   clear hb2
   go_wp2_with fail
   go_ret
   exact mayP_no HNO.out B2
 have g2 : ¬ (1099511627776 : Int) < (q : Int) := by omega
 clear hq
 go_enter Tryz.func64, Tryz.ntmps64
 go_wp2_with fail
 refine (plast_any _ _ _ _ _ _ _ (by omega) (by omega)).mono ?_
 rintro e w2 ⟨rfl, hb2⟩
 rw [HQ.out]
 have x3 : w2.cell? ⟨w.heap.size, 3, none⟩ = some (.slice a n c) := (hb2.cell (p := ⟨w.heap.size, 3, none⟩) (by simp)).trans (by simp [go_sem])
 have hE2 := (hE.later ((Below.refl _ w).alloc (Nat.le_refl _) (.cells #[.int .u64 base, .int .u64 bt, .string snap, .slice a n c] 28))).later hb2
 have B2 : Below w.heap.size w w2 := ((Below.refl _ w).alloc (Nat.le_refl _) _).trans (hb2.mono (by simp))
 clear hb2 hE
 go_wp2_with fail
 go_loopw [17] (fun i wr => ∃ k : Nat, k ≤ n ∧ i = .int .i64 k ∧ (∀ j x, j < k → L[j]? = some x → x.d.size ≤ 4096) ∧ Below w2.heap.size w2 wr) (fun i _ => n - (intOf i).toNat)
 case atStart => exact ⟨0, Nat.zero_le _, rfl, fun j x hj => by omega, Below.refl _ _⟩
 case round =>
  obtain ⟨k, hk, rfl, hok, B⟩ := hrel
  have HOK := hI_ hok; clear hok
  by_cases hlt : k < n
  · have hkl : k < L.length := by have := HN.out; omega
    obtain ⟨x, hx⟩ : ∃ x, L[k]? = some x := ⟨_, List.getElem?_eq_getElem hkl⟩
    have hxs : x.d.size ≤ 140737488351232 := HD.out x (List.mem_of_getElem? hx)
    obtain ⟨b, off, rfl, hbb, p0, p1⟩ := (hE2.later B) k x hx
    have i0 : (0 : Int) ≤ (k : Int) := by omega
    have i1 : (k : Int) < (n : Int) := by omega
    have B3 : Below w2.heap.size w2 (wr.alloc (.cells #[.int .u64 x.t, .string x.d] 66)) := B.alloc B.size _
    by_cases hbig : x.d.size ≤ 4096
    · have g3 : ¬ (4096 : Int) < (x.d.size : Int) := by omega
      have hok2 : ∀ j y, j < k + 1 → L[j]? = some y → y.d.size ≤ 4096 := fun j y hj hy => by
       by_cases e : j = k
       · subst e; rw [hx] at hy; cases hy; exact hbig
       · exact HOK.out j y (by omega) hy
      have HO2 := hI_ hok2
      clear hx hok2 hkl hbig
      go_wp2_with fail
      go_roundw
      case rel => exact ⟨k + 1, by omega, by go_num, HO2.out, B3⟩
      case measure => simp [intOf]; omega
    · have g3 : (4096 : Int) < (x.d.size : Int) := by omega
      have HNO := hI_ (show ¬ entsOk base L from fun h => hbig (h.2.2 x (List.mem_of_getElem? hx)))
      clear hx hkl hbig
      go_wp2_with fail
      go_ret
      exact mayP_no HNO.out (B2.trans (B3.mono B2.size))
  · obtain rfl : k = n := by omega
    have hyes : entsOk base L := ⟨by have := HN.out; omega, by have := HN.out; have := HQ.out; omega, fun x hx => by
     obtain ⟨j, hj, rfl⟩ := List.mem_iff_getElem.1 hx
     exact HOK.out j _ (by have := HN.out; omega) (List.getElem?_eq_getElem hj)⟩
    have HY := hI_ hyes
    clear hyes
    go_wp2_with fail
    go_ret
    exact mayP_yes HY.out (B2.trans (B.mono B2.size))
theorem mayTerms_any (term vote base bt n c : Nat) (snap : ByteArray) (a : Option Addr) (L : List En) (hn : L.length = n) (hl : n ≤ 140737488351232) (w : World) (hE : Ents w a L) :
 Calls Tryz.prog 65 #[.agg #[.int .u64 term, .int .u64 vote, .int .u64 base, .int .u64 bt, .string snap, .slice a n c]] w (MayP (termsOk term bt L) w) := by
 have HN := hI_ hn; clear hn
 go_enter Tryz.func65, Tryz.ntmps65
 go_wp2_with fail
 generalize hW : w.alloc (.cells #[.int .u64 term, .int .u64 vote, .int .u64 base, .int .u64 bt, .string snap, .slice a n c] 30) = W
 have x0 : W.cell? ⟨w.heap.size, 0, none⟩ = some (.int .u64 term) := by subst hW; simp [go_sem]
 have hz : w.heap.size < W.heap.size := by subst hW; simp
 have hB : Below w.heap.size w W := by subst hW; go_grown
 have hE2 := hE.later hB
 clear hW hE
 go_loopw [3, 13] (fun h i wr => ∃ k : Nat, k ≤ n ∧ i = .int .i64 k ∧ h = .int .u64 (hiT bt L k : Nat) ∧ ascT bt L k ∧ Below W.heap.size W wr) (fun _ i _ => n - (intOf i).toNat)
 case atStart => exact ⟨0, Nat.zero_le _, rfl, rfl, fun j hj => by omega, Below.refl _ _⟩
 case round =>
  obtain ⟨k, hk, rfl, rfl, hasc, B⟩ := hrel
  have X0 := (B.cell (p := ⟨w.heap.size, 0, none⟩) hz).trans x0
  by_cases hlt : k < n
  · have hkl : k < L.length := by have := HN.out; omega
    obtain ⟨x, hx⟩ : ∃ x, L[k]? = some x := ⟨_, List.getElem?_eq_getElem hkl⟩
    obtain ⟨b, off, rfl, hbb, p0, p1⟩ := (hE2.later B) k x hx
    have hs := hiT_succ (bt := bt) hx
    have i0 : (0 : Int) ≤ (k : Int) := by omega
    have i1 : (k : Int) < (n : Int) := by omega
    have B3 : Below W.heap.size W (wr.alloc (.cells #[.int .u64 x.t, .string x.d] 66)) := B.alloc B.size _
    by_cases hlow : x.t < hiT bt L k
    · have g1 : (x.t : Int) < (hiT bt L k : Nat) := by omega
      have hno : ¬ termsOk term bt L := fun h => by have := h.1 k hkl; omega
      have HNO := hI_ hno
      clear hx hs hno hlow hkl
      go_wp2_with fail
      go_ret
      exact mayP_no HNO.out (hB.trans (B3.mono hB.size))
    · have g1 : ¬ (x.t : Int) < (hiT bt L k : Nat) := by omega
      have hasc2 : ascT bt L (k + 1) := fun j hj => by
       by_cases e : j = k
       · subst e; omega
       · exact hasc j (by omega)
      have HA := hI_ hasc2
      have HS := hI_ hs
      clear hx hs hasc hasc2 hlow hkl
      go_wp2_with fail
      go_roundw
      case rel => exact ⟨k + 1, by omega, by go_num, by rw [HS.out], HA.out, B3⟩
      case measure => simp [intOf]; omega
  · obtain rfl : k = n := by omega
    have hlen := HN.out
    by_cases hle : hiT bt L k ≤ term
    · have g1 : (hiT bt L k : Nat) ≤ (term : Int) := by omega
      have hyes : termsOk term bt L := ⟨by rw [hlen]; exact hasc, by rw [hlen]; exact hle⟩
      have HY := hI_ hyes
      clear hyes hasc hlen hle
      go_wp2_with fail
      go_ret
      exact mayP_yes HY.out (hB.trans (B.mono hB.size))
    · have g1 : ¬ (hiT bt L k : Nat) ≤ (term : Int) := by omega
      have hno : ¬ termsOk term bt L := fun h => by have := h.2; rw [hlen] at this; exact hle this
      have HNO := hI_ hno
      clear hno hasc hlen hle
      go_wp2_with fail
      go_ret
      exact mayP_no HNO.out (hB.trans (B.mono hB.size))

structure Sc (w : World) (x : Nat) (term vote base bt : Nat) (snap : ByteArray) (a : Option Addr) (n c : Nat) : Prop where
 c0 : w.cell? ⟨x, 0, none⟩ = some (.int .u64 term)
 c1 : w.cell? ⟨x, 1, none⟩ = some (.int .u64 vote)
 c2 : w.cell? ⟨x, 2, none⟩ = some (.int .u64 base)
 c3 : w.cell? ⟨x, 3, none⟩ = some (.int .u64 bt)
 c4 : w.cell? ⟨x, 4, none⟩ = some (.string snap)
 c5 : w.cell? ⟨x, 5, none⟩ = some (.slice a n c)
 lt : x < w.heap.size
theorem Sc.later {w w' : World} {x term vote base bt : Nat} {snap : ByteArray} {a : Option Addr} {n c : Nat} (h : Sc w x term vote base bt snap a n c) (hb : Below w.heap.size w w') : Sc w' x term vote base bt snap a n c :=
 ⟨(hb.cell (p := ⟨x, 0, none⟩) h.lt).trans h.c0, (hb.cell (p := ⟨x, 1, none⟩) h.lt).trans h.c1, (hb.cell (p := ⟨x, 2, none⟩) h.lt).trans h.c2, (hb.cell (p := ⟨x, 3, none⟩) h.lt).trans h.c3, (hb.cell (p := ⟨x, 4, none⟩) h.lt).trans h.c4, (hb.cell (p := ⟨x, 5, none⟩) h.lt).trans h.c5, Nat.lt_of_lt_of_le h.lt hb.size⟩
theorem Sc.new (w : World) (term vote base bt : Nat) (snap : ByteArray) (a : Option Addr) (n c : Nat) : Sc (w.alloc (.cells #[.int .u64 term, .int .u64 vote, .int .u64 base, .int .u64 bt, .string snap, .slice a n c] 30)) w.heap.size term vote base bt snap a n c :=
 ⟨by simp [go_sem], by simp [go_sem], by simp [go_sem], by simp [go_sem], by simp [go_sem], by simp [go_sem], by simp⟩
theorem noteMay_any (term vote base bt n c : Nat) (snap : ByteArray) (a : Option Addr) (L : List En) (hn : L.length = n) (hl : n ≤ 140737488351232) (hs : snap.size ≤ 140737488351232) (hD : ∀ x ∈ L, x.d.size ≤ 140737488351232) (w : World) (hE : Ents w a L) :
 Calls Tryz.prog 32 #[.agg #[.int .u64 term, .int .u64 vote, .int .u64 base, .int .u64 bt, .string snap, .slice a n c]] w (MayP (stOk term vote base bt snap L) w) := by
 have HI := hI_ (stOk_iff term vote base bt snap L)
 by_cases h1 : term ≤ 4611686018427387903
 case neg =>
  have g1 : ¬ (term : Int) ≤ 4611686018427387903 := by omega
  have HNO := hI_ (show ¬ stOk term vote base bt snap L from fun h => h1 (HI.out.1 h).1)
  clear h1 hE hD HI
  go_enter Tryz.func32, Tryz.ntmps32
  go_wp2_with fail
  go_ret
  exact mayP_no HNO.out (by go_grown)
 have g1 : (term : Int) ≤ 4611686018427387903 := by omega
 by_cases h2 : vote ≤ 4611686018427387903
 case neg =>
  have g2 : ¬ (vote : Int) ≤ 4611686018427387903 := by omega
  have HNO := hI_ (show ¬ stOk term vote base bt snap L from fun h => h2 (HI.out.1 h).2.1)
  clear h2 hE hD HI
  go_enter Tryz.func32, Tryz.ntmps32
  go_wp2_with fail
  go_ret
  exact mayP_no HNO.out (by go_grown)
 have g2 : (vote : Int) ≤ 4611686018427387903 := by omega
 have HD := hI_ hD; clear hD
 have HN := hI_ hn; clear hn
 have B0 : Below w.heap.size w (w.alloc (.cells #[.int .u64 term, .int .u64 vote, .int .u64 base, .int .u64 bt, .string snap, .slice a n c] 30)) := (Below.refl _ _).alloc (Nat.le_refl _) _
 have hS := Sc.new w term vote base bt snap a n c
 have hE0 := hE.later B0
 clear hE
 by_cases h3 : baseOk base bt snap
 case neg =>
  have HNO := hI_ (show ¬ stOk term vote base bt snap L from fun h => h3 (HI.out.1 h).2.2.1)
  have H3 := hI_ h3
  clear h3 HI hS hE0 B0
  go_enter Tryz.func32, Tryz.ntmps32
  go_wp2_with fail
  refine (mayBase_any _ _ _ _ _ _ hs _).mono ?_
  rintro e w1 ⟨⟨b, rfl, hb⟩, hb1⟩
  obtain rfl : b = false := by
   cases b with
   | false => rfl
   | true => exact absurd (hb.1 rfl) H3.out
  have B1 : Below w.heap.size w w1 := ((Below.refl _ w).alloc (Nat.le_refl _) _).trans (hb1.mono (by simp))
  clear hb hb1
  go_wp2_with fail
  go_ret
  exact mayP_no HNO.out B1
 have hbase : base ≤ 1099511627776 := h3.2.1
 by_cases h4 : entsOk base L
 case neg =>
  have HNO := hI_ (show ¬ stOk term vote base bt snap L from fun h => h4 (HI.out.1 h).2.2.2.1)
  have H3 := hI_ h3
  have H4 := hI_ h4
  have HS := hI_ hS
  have HE := hI_ hE0
  have HB := hI_ B0
  clear h3 h4 HI hS hE0 B0
  go_enter Tryz.func32, Tryz.ntmps32
  go_wp2_with fail
  refine (mayBase_any _ _ _ _ _ _ hs _).mono ?_
  rintro e w1 ⟨⟨b, rfl, hb⟩, hb1⟩
  obtain rfl : b = true := hb.2 H3.out
  have hE1 := HE.out.later hb1
  have B1 := HB.out.trans (hb1.mono HB.out.size)
  obtain ⟨x0, x1, x2, x3, x4, x5, xl⟩ := HS.out.later hb1
  clear hb hb1
  go_wp2_with fail
  refine (mayEntries_any n c base bt snap a L HN.out hl hbase HD.out _ hE1).mono ?_
  rintro e w2 ⟨⟨b, rfl, hb⟩, hb2⟩
  obtain rfl : b = false := by
   cases b with
   | false => rfl
   | true => exact absurd (hb.1 rfl) H4.out
  have B2 := B1.trans (hb2.mono B1.size)
  clear hb hb2 hE1 B1 x0 x1 x2 x3 x4 x5 xl
  go_wp2_with fail
  go_ret
  exact mayP_no HNO.out B2
 have hfin : ∀ (b : Bool) (w' : World), (b = true ↔ termsOk term bt L) → Below w.heap.size w w' → MayP (stOk term vote base bt snap L) w (.returned (.bool b)) w' := fun b w' hb hB =>
  ⟨⟨b, rfl, by rw [hb, HI.out]; exact ⟨fun h => ⟨h1, h2, h3, h4, h⟩, fun h => h.2.2.2.2⟩⟩, hB⟩
 have HF := hI_ hfin
 have H3 := hI_ h3
 have H4 := hI_ h4
 have HS := hI_ hS
 have HE := hI_ hE0
 have HB := hI_ B0
 clear h3 h4 HI hS hE0 B0 hfin
 go_enter Tryz.func32, Tryz.ntmps32
 go_wp2_with fail
 refine (mayBase_any _ _ _ _ _ _ hs _).mono ?_
 rintro e w1 ⟨⟨b, rfl, hb⟩, hb1⟩
 obtain rfl : b = true := hb.2 H3.out
 have hE1 := HE.out.later hb1
 have B1 := HB.out.trans (hb1.mono HB.out.size)
 have hS1 := HS.out.later hb1
 obtain ⟨x0, x1, x2, x3, x4, x5, xl⟩ := hS1
 clear hb hb1
 go_wp2_with fail
 refine (mayEntries_any n c base bt snap a L HN.out hl hbase HD.out _ hE1).mono ?_
 rintro e w2 ⟨⟨b, rfl, hb⟩, hb2⟩
 obtain rfl : b = true := hb.2 H4.out
 have hE2 := hE1.later hb2
 have B2 := B1.trans (hb2.mono B1.size)
 obtain ⟨y0, y1, y2, y3, y4, y5, yl⟩ := (Sc.mk x0 x1 x2 x3 x4 x5 xl).later hb2
 clear hb hb2 hE1 B1 x0 x1 x2 x3 x4 x5 xl
 go_wp2_with fail
 refine (mayTerms_any term vote base bt n c snap a L HN.out hl _ hE2).mono ?_
 rintro e w3 ⟨⟨b, rfl, hb⟩, hb3⟩
 have B3 := B2.trans (hb3.mono B2.size)
 have HFB := hI_ hb
 clear hb hb3 hE2 B2 y0 y1 y2 y3 y4 y5 yl
 go_wp2_with fail
 go_ret
 exact HF.out b _ HFB.out B3

def Ion (L : List Nat) : Prop := L.Nodup ∧ ∀ x ∈ L, x ≤ 63
theorem Ion.nil : Ion [] := ⟨List.nodup_nil, (fun x hx => by cases hx)⟩
theorem Ion.len {L : List Nat} (h : Ion L) : L.length ≤ 64 := by
 have := nodup_len L (List.range 64) h.1 (fun x hx => List.mem_range.2 (by have := h.2 x hx; omega))
 simpa using this
theorem setN_ids {id u : Nat} : ∀ {L : List Mk}, ∀ y ∈ setN id u L, y.id = id ∨ y ∈ L
 | [] => fun y hy => by simp only [setN, List.mem_singleton] at hy; subst hy; exact .inl rfl
 | x :: r => fun y hy => by
  unfold setN at hy
  split at hy
  · rcases List.mem_cons.1 hy with rfl | hy
    · exact .inl rfl
    · exact .inr (List.mem_cons_of_mem _ hy)
  · rcases List.mem_cons.1 hy with rfl | hy
    · exact .inr (List.mem_cons_self ..)
    · exact (setN_ids y hy).imp (fun h => h) (List.mem_cons_of_mem _)
theorem ion_set {id u : Nat} (hid : id ≤ 63) : ∀ {L : List Mk}, Ion (L.map (·.id)) → Ion ((setN id u L).map (·.id))
 | [], _ => ⟨by simp [setN], fun x hx => by simp only [setN, List.map_cons, List.map_nil, List.mem_singleton] at hx; subst hx; exact hid⟩
 | x :: r, h => by
  unfold setN
  split
  · rename_i e
    obtain ⟨h1, h2⟩ := h
    simp only [List.map_cons] at h1 h2 ⊢
    rw [e] at h1 h2
    exact ⟨h1, h2⟩
  · rename_i e
    obtain ⟨h1, h2⟩ := h
    simp only [List.map_cons, List.nodup_cons] at h1 h2
    obtain ⟨i1, i2⟩ := ion_set (u := u) hid (L := r) ⟨h1.2, fun y hy => h2 y (List.mem_cons_of_mem _ hy)⟩
    refine ⟨?_, fun y hy => ?_⟩
    · simp only [List.map_cons, List.nodup_cons]
      refine ⟨fun hm => ?_, i1⟩
      obtain ⟨y, hy, e2⟩ := List.mem_map.1 hm
      rcases setN_ids y hy with e3 | e3
      · exact e (e2.symm.trans e3)
      · exact h1.1 (e2 ▸ List.mem_map_of_mem e3)
    · rcases List.mem_cons.1 hy with rfl | hy
      · exact h2 _ (List.mem_cons_self ..)
      · exact i2 y hy
theorem ion_filter {L : List Mk} (f : Mk → Bool) (h : Ion (L.map (·.id))) : Ion ((L.filter f).map (·.id)) :=
 ⟨h.1.sublist ((List.filter_sublist).map _), fun x hx => h.2 x (((List.filter_sublist).map _).subset hx)⟩
theorem ion_fold {e : Nat} : ∀ (O : List Nat) (s : List Mk × List Mk), (∀ x ∈ O, x ≤ 63) → Ion (s.1.map (·.id)) → Ion (s.2.map (·.id)) → Ion ((O.foldl (markStep e) s).1.map (·.id)) ∧ Ion ((O.foldl (markStep e) s).2.map (·.id))
 | [], _, _, h1, h2 => ⟨h1, h2⟩
 | q :: O, s, ho, h1, h2 => by
  have hq := ho q (List.mem_cons_self ..)
  have hs : Ion ((markStep e s q).1.map (·.id)) ∧ Ion ((markStep e s q).2.map (·.id)) := by
   unfold markStep; split
   · exact ⟨h1, h2⟩
   · exact ⟨ion_set hq h1, ion_set hq h2⟩
  exact ion_fold O (markStep e s q) (fun x hx => ho x (List.mem_cons_of_mem _ hx)) hs.1 hs.2
theorem saidV_no {i : Nat} : ∀ {L : List Vo}, saidV i L = false → i ∉ L.map (·.id)
 | [], _ => by simp
 | x :: r, h => by
  simp only [saidV, Bool.or_eq_false_iff, decide_eq_false_iff_not] at h
  simp only [List.map_cons, List.mem_cons, not_or]
  exact ⟨fun e => h.1 e.symm, saidV_no h.2⟩
theorem ion_say {L : List Vo} (h : Ion (L.map (·.id))) {i : Nat} (hi : i ≤ 63) (y : Bool) : Ion ((sayL L i y).map (·.id)) := by
 unfold sayL
 split
 · exact h
 · rename_i hs
   have hs : saidV i L = false := by simpa using hs
   refine ⟨?_, fun x hx => ?_⟩
   · rw [List.map_append, List.nodup_append]
     refine ⟨h.1, by simp, fun a ha b hb e => ?_⟩
     simp only [List.map_cons, List.map_nil, List.mem_singleton] at hb
     subst hb; subst e
     exact saidV_no hs ha
   · rw [List.map_append] at hx
     rcases List.mem_append.1 hx with hx | hx
     · exact h.2 x hx
     · simp only [List.map_cons, List.map_nil, List.mem_singleton] at hx; subst hx; exact hi
structure Il (g : Lg) : Prop where
 bt : g.bt < 18446744073709551616
 snap : g.snap.size ≤ 140737488351232
 len : g.L.length ≤ 1024
 top : g.base + g.L.length ≤ 1099511627776
 data : ∀ x ∈ g.L, x.t < 18446744073709551616 ∧ x.d.size ≤ 140737488351232
structure Iv (p : Pn) : Prop where
 id : 1 ≤ p.id ∧ p.id ≤ 63
 may : mayB p.c.V p.c.L = true
 term : p.term ≤ 4611686018427387903
 asks : p.role = 1 → p.term < 4611686018427387903
 vote : p.vote < 18446744073709551616
 g : Il p.g
 commit : p.commit < 18446744073709551616
 voices : Ion (p.voices.map (·.id))
 next : Ion (p.next.map (·.id))
 mat : Ion (p.mat.map (·.id))
 marks : ∀ x ∈ p.mat, x.n < 18446744073709551616
 nexts : ∀ x ∈ p.next, x.n < 18446744073709551616
theorem Iv.vlen {p : Pn} (h : Iv p) : p.voices.length ≤ 64 := by simpa using h.voices.len
theorem Iv.nlen {p : Pn} (h : Iv p) : p.next.length ≤ 64 := by simpa using h.next.len
theorem Iv.mlen {p : Pn} (h : Iv p) : p.mat.length ≤ 64 := by simpa using h.mat.len
theorem Iv.bd {p : Pn} (h : Iv p) : Bd p := by
 have h1 := h.vlen; have h2 := h.nlen; have h3 := h.mlen; have h4 := h.g.len; have h5 := h.g.top; have h6 := h.term; have h7 := h.id.2
 refine ⟨by omega, h.may, by omega, h.vote, by omega, h.g.bt, h.g.snap, by omega, h.g.data, h.commit, by omega, fun x hx => ?_, by omega, by omega, h.marks, h.nexts⟩
 have := h.voices.2 x.id (List.mem_map_of_mem hx)
 omega
theorem iv_follow {p : Pn} (h : Iv p) {t : Nat} (ht : t ≤ 4611686018427387903) : Iv (followP p t) :=
 ⟨h.id, h.may, by show (if p.term < t then t else p.term) ≤ _; have := h.term; split <;> assumption, fun e => by simp [followP] at e, by show (if p.term < t then 0 else p.vote) < _; have := h.vote; split <;> omega, h.g, h.commit, Ion.nil, Ion.nil, Ion.nil, (fun x hx => by cases hx), (fun x hx => by cases hx)⟩
theorem il_add {g : Lg} (h : Il g) {x : En} (hx : x.t < 18446744073709551616 ∧ x.d.size ≤ 140737488351232) (h0 : addE g x = 0) : Il (addG g x) := by
 unfold addG
 rw [if_pos h0]
 unfold addE at h0
 split at h0
 · cases h0
 · rename_i h1
   refine ⟨h.bt, h.snap, by simp; omega, by simp; omega, fun y hy => ?_⟩
   rcases List.mem_append.1 hy with hy | hy
   · exact h.data y hy
   · rw [List.mem_singleton.1 hy]; exact hx
theorem iv_addP {p : Pn} (h : Iv p) {dt : ByteArray} (hd : dt.size ≤ 140737488351232) (h0 : addX p dt = 0) : Iv (addP p dt) := by
 have hb := bd_addP h.bd hd h0 (by have := h.mlen; omega)
 exact ⟨h.id, h.may, h.term, h.asks, h.vote, il_add h.g ⟨by have := h.term; show p.term < _; omega, hd⟩ h0, h.commit, h.voices, h.next, ion_set h.id.2 h.mat, hb.marks, h.nexts⟩
theorem iv_commit {p : Pn} (h : Iv p) : Iv (commitP p) := by
 have hb := bd_commit h.bd
 unfold commitP at hb ⊢
 split
 · rename_i e
   rw [if_pos e] at hb
   exact ⟨h.id, h.may, h.term, h.asks, h.vote, h.g, hb.commit, h.voices, h.next, h.mat, h.marks, h.nexts⟩
 · exact h
theorem iv_remark {p : Pn} (h : Iv p) : Iv (remarkP p) := by
 have hb := bd_remark h.bd (by have := h.nlen; omega) (by have := h.mlen; omega)
 obtain ⟨h1, h2⟩ := ion_fold (e := p.endI) p.oth (p.next.filter (keepM p), p.mat.filter (keepM p)) (fun x hx => (oth_ok h.may hx).2.2) (ion_filter _ h.next) (ion_filter _ h.mat)
 exact ⟨h.id, h.may, h.term, h.asks, h.vote, h.g, h.commit, h.voices, h1, h2, hb.marks, hb.nexts⟩
theorem iv_lead0 {p : Pn} (h : Iv p) : Iv (lead0 p) :=
 ⟨h.id, h.may, h.term, fun e => by simp [lead0] at e, h.vote, h.g, h.commit, Ion.nil, Ion.nil, Ion.nil, (fun x hx => by cases hx), (fun x hx => by cases hx)⟩
theorem iv_lead {p : Pn} (h : Iv p) : Iv (leadP p).1 := by
 rw [leadP_eq]; split
 · rename_i h0
   exact iv_commit (iv_remark (iv_addP (iv_lead0 h) (by decide) h0))
 · exact iv_follow (iv_lead0 h) h.term
theorem iv_countC {p : Pn} (h : Iv p) : Iv (countC p).1 := by
 unfold countC; split
 · exact iv_lead h
 · split
   · exact iv_follow h h.term
   · exact h
theorem ion_one {i : Nat} (hi : i ≤ 63) (y : Bool) : Ion (([⟨i, y⟩] : List Vo).map (·.id)) := ⟨by simp, fun x hx => by simp only [List.map_cons, List.map_nil, List.mem_singleton] at hx; subst hx; exact hi⟩
theorem iv_standQ {p : Pn} (h : Iv p) (ht : p.term < 4611686018427387903) : Iv (standQ p) :=
 ⟨h.id, h.may, by show (p.term + 1) % 18446744073709551616 ≤ _; omega, fun e => by simp [standQ] at e, by have := h.id.2; show p.id < _; omega, h.g, h.commit, ion_one h.id.2 true, h.next, h.mat, h.marks, h.nexts⟩
theorem iv_count {p : Pn} (h : Iv p) : Iv (countP p).1 := by
 unfold countP; split
 · split
   · rename_i e; exact iv_countC (iv_standQ h (h.asks e))
   · exact iv_lead h
 · split
   · exact iv_follow h h.term
   · exact h
theorem iv_askQ {p : Pn} (h : Iv p) (ht : p.term < 4611686018427387903) : Iv (askQ p) :=
 ⟨h.id, h.may, h.term, fun _ => ht, h.vote, h.g, h.commit, ion_one h.id.2 true, h.next, h.mat, h.marks, h.nexts⟩
theorem iv_ask {p : Pn} (h : Iv p) (ht : p.term < 4611686018427387903) : Iv (askP p).1 := iv_count (iv_askQ h ht)
theorem Iv.times {p q : Pn} (h : Iv p) (h1 : q.id = p.id) (h2 : q.c = p.c) (h3 : q.term = p.term) (h4 : q.vote = p.vote) (h5 : q.g = p.g) (h6 : q.role = 1 → p.role = 1) (h7 : q.commit < 18446744073709551616) (h8 : q.voices = p.voices) (h9 : q.next = p.next) (h10 : q.mat = p.mat) : Iv q :=
 ⟨by rw [h1]; exact h.id, by rw [h2]; exact h.may, by rw [h3]; exact h.term, fun e => by rw [h3]; exact h.asks (h6 e), by rw [h4]; exact h.vote, by rw [h5]; exact h.g, h7, by rw [h8]; exact h.voices, by rw [h9]; exact h.next, by rw [h10]; exact h.mat, by rw [h10]; exact h.marks, by rw [h9]; exact h.nexts⟩
theorem iv_beat {p : Pn} (h : Iv p) : Iv (beatP p).1 := by
 unfold beatP; split <;> exact h.times rfl rfl rfl rfl rfl id h.commit rfl rfl rfl
theorem iv_tick {p : Pn} (h : Iv p) (n : Nat) : Iv (tickP p n).1 := by
 have hl : Iv (lessH p) := h.times rfl rfl rfl rfl rfl id h.commit rfl rfl rfl
 unfold tickP; split
 · exact iv_beat hl
 · split
   · exact h.times rfl rfl rfl rfl rfl id h.commit rfl rfl rfl
   · split
     · exact h.times rfl rfl rfl rfl rfl id h.commit rfl rfl rfl
     · rename_i e
       exact iv_ask (p := { lessH p with span := 10 + (n % 10 : Nat), wait := 10 + (n % 10 : Nat) }) (h.times rfl rfl rfl rfl rfl id h.commit rfl rfl rfl) (by show p.term < _; omega)
theorem iv_say {p : Pn} (h : Iv p) {m : Mg} (hm : m.fr ≤ 63) : Iv (sayP p m).1 :=
 iv_count (p := { p with voices := sayL p.voices m.fr m.ok }) ⟨h.id, h.may, h.term, h.asks, h.vote, h.g, h.commit, ion_say h.voices hm m.ok, h.next, h.mat, h.marks, h.nexts⟩
theorem iv_fore {p : Pn} (h : Iv p) {m : Mg} (hm : m.fr ≤ 63) (ht : m.term ≤ 4611686018427387903) : Iv (foretP p m).1 := by
 rcases foret_cases p m with e | e | e <;> rw [e]
 · exact iv_say h hm
 · exact iv_follow h ht
 · exact h
theorem ans_top (p : Pn) (m : Mg) : (ansS (seatP p) ⟨m.term, m.fr, m.lt, m.i, false⟩).1.t ≤ max p.term m.term ∧ (ansS (seatP p) ⟨m.term, m.fr, m.lt, m.i, false⟩).1.v ≤ max p.vote m.fr := by
 have e1 : (seatP p).t = p.term := rfl
 have e2 : (seatP p).v = p.vote := rfl
 rcases ans_cases (seatP p) m.term m.fr m.lt m.i with h | ⟨h1, h2, h3⟩ | ⟨h1, h2, h3⟩
 · rw [h]; exact ⟨Nat.le_max_left .., Nat.le_max_left ..⟩
 · omega
 · omega
theorem iv_vote {p : Pn} (h : Iv p) {m : Mg} (hm : m.fr ≤ 63) (ht : m.term ≤ 4611686018427387903) : Iv (voteP p m) := by
 obtain ⟨h1, h2⟩ := ans_top p m
 have hv : (ansS (seatP p) ⟨m.term, m.fr, m.lt, m.i, false⟩).1.v < 18446744073709551616 := by have := h.vote; omega
 have ht2 : (ansS (seatP p) ⟨m.term, m.fr, m.lt, m.i, false⟩).1.t ≤ 4611686018427387903 := by have := h.term; omega
 have hq : Iv (voteQ p m) := by
  unfold voteQ
  split
  · have hf := iv_follow h ht2
    exact ⟨hf.id, hf.may, hf.term, hf.asks, hv, hf.g, hf.commit, hf.voices, hf.next, hf.mat, hf.marks, hf.nexts⟩
  · exact ⟨h.id, h.may, h.term, h.asks, hv, h.g, h.commit, h.voices, h.next, h.mat, h.marks, h.nexts⟩
 exact hq.times rfl rfl rfl rfl rfl id hq.commit rfl rfl rfl
theorem iv_up {p : Pn} (h : Iv p) {t : Nat} (ht : t ≤ 4611686018427387903) : Iv (upP p t) := by
 unfold upP; split
 · exact iv_follow h ht
 · exact h
theorem iv_heard {p : Pn} (h : Iv p) (fr : Nat) : Iv (heardP p fr) := (iv_follow h h.term).times rfl rfl rfl rfl rfl id h.commit rfl rfl rfl
theorem il_joinC {g : Lg} (h : Il g) {pv t : Nat} {E : List En} (hE : ∀ x ∈ E, x.t < 18446744073709551616 ∧ x.d.size ≤ 140737488351232) : Il (joinC g pv t E).1 := by
 unfold joinC
 split
 · exact h
 · split
   · exact h
   · rename_i h2
     refine ⟨h.bt, h.snap, by show (joinL g pv E).length ≤ _; omega, by show g.base + (joinL g pv E).length ≤ _; omega, fun x hx => ?_⟩
     have hx : x ∈ joinL g pv E := hx
     unfold joinL at hx
     split at hx
     · rcases List.mem_append.1 hx with hx | hx
       · exact h.data x (List.mem_of_mem_take hx)
       · exact hE x (List.mem_of_mem_drop hx)
     · exact h.data x hx
theorem il_join {g : Lg} (h : Il g) {pv t : Nat} {E : List En} (hE : ∀ x ∈ E, x.t < 18446744073709551616 ∧ x.d.size ≤ 140737488351232) : Il (joinG g pv t E).1 := by
 unfold joinG; split
 · exact il_joinC h (fun x hx => hE x (List.mem_of_mem_drop hx))
 · exact il_joinC h hE
theorem il_ins {g : Lg} (h : Il g) {i t : Nat} {s : ByteArray} (hi : i ≤ 1099511627776) (ht : t < 18446744073709551616) (hs : s.size ≤ 140737488351232) : Il (insG g i t s) := by
 unfold insG
 split
 · exact h
 · have h1 := h.len; have h2 := h.top
   refine ⟨ht, hs, ?_, ?_, fun x hx => ?_⟩
   · show (if hasB g.base g.bt g.L i t then g.L.drop (i - g.base) else []).length ≤ _
     split
     · rw [List.length_drop]; omega
     · simp
   · show i + (if hasB g.base g.bt g.L i t then g.L.drop (i - g.base) else []).length ≤ _
     split
     · rename_i hb
       have := hasB_top hb
       rw [List.length_drop]; omega
     · simpa using hi
   · have hx : x ∈ (if hasB g.base g.bt g.L i t then g.L.drop (i - g.base) else []) := hx
     split at hx
     · exact h.data x (List.mem_of_mem_drop hx)
     · cases hx
theorem iv_join {p : Pn} (h : Iv p) {m : Mg} (hm : Bm m) : Iv (joinP p m).1 := by
 unfold joinP; split
 · exact h
 · refine ⟨h.id, h.may, h.term, h.asks, h.vote, il_join h.g hm.data, ?_, h.voices, h.next, h.mat, h.marks, h.nexts⟩
   have := h.commit
   show max p.commit (min m.commit ((m.i + m.es.length) % 18446744073709551616)) < _
   omega
theorem iv_inst {p : Pn} (h : Iv p) {m : Mg} (hm : Bm m) : Iv (instP p m).1 := by
 show Iv (instQ p m)
 unfold instQ
 split
 · rename_i e
   exact ⟨h.id, h.may, h.term, h.asks, h.vote, il_ins h.g e.2.2.2.2 hm.lt hm.snap, hm.i, h.voices, h.next, h.mat, h.marks, h.nexts⟩
 · exact h
theorem mrk_lt {q : Nat} : ∀ {L : List Mk}, (∀ x ∈ L, x.n < 18446744073709551616) → mrkN q L < 18446744073709551616
 | [], _ => by simp [mrkN, markN]
 | x :: r, h => by
  unfold mrkN markN
  split
  · exact h x (List.mem_cons_self ..)
  · exact mrk_lt (fun y hy => h y (List.mem_cons_of_mem _ hy))
theorem iv_reply {p : Pn} (h : Iv p) {m : Mg} (hm : Bm m) (hf : m.fr ≤ 63) : Iv (replyP p m).1 := by
 have h1 := mrk_lt (q := m.fr) h.marks
 have h2 := mrk_lt (q := m.fr) h.nexts
 have h3 := hm.i
 unfold replyP; split
 · exact h
 · split
   · refine ⟨h.id, h.may, h.term, h.asks, h.vote, h.g, h.commit, h.voices, ion_set hf h.next, h.mat, h.marks, setN_lt ?_ h.nexts⟩
     unfold backN
     omega
   · split
     · exact h
     · have hq : Iv (okQ p m) := iv_commit (p := { p with mat := setN m.fr (max (mrkN m.fr p.mat) m.i) p.mat, next := setN m.fr ((max (mrkN m.fr p.mat) m.i + 1) % 18446744073709551616) p.next })
        ⟨h.id, h.may, h.term, h.asks, h.vote, h.g, h.commit, h.voices, ion_set hf h.next, ion_set hf h.mat, setN_lt (by omega) h.marks, setN_lt (by omega) h.nexts⟩
       split <;> exact hq
theorem iv_term {p : Pn} (h : Iv p) {m : Mg} (hm : Bm m) (hf : m.fr ≤ 63) (ht : m.term ≤ 4611686018427387903) : Iv (termP p m).1 := by
 have hu := iv_up h ht
 have hh := iv_heard hu m.fr
 unfold termP
 split
 · exact hu
 · split
   · exact hu
   · split
     · exact iv_join hh hm
     · split
       · exact iv_inst hh hm
       · split
         · exact iv_reply hu hm hf
         · split
           · exact iv_say hu hf
           · exact hu
theorem iv_hear {p : Pn} (h : Iv p) {m : Mg} (hm : Bm m) : Iv (hearP p m).1 := by
 unfold hearP
 split
 · exact h
 · rename_i e
   have hf : m.fr ≤ 63 := by omega
   have ht : m.term ≤ 4611686018427387903 := by omega
   split
   · exact h
   · split
     · exact iv_vote h hf ht
     · split
       · exact iv_fore h hf ht
       · split
         · exact iv_term h hm hf ht
         · exact h
theorem pre_size (b : UInt8) (s : ByteArray) : (pre b s).size = s.size + 1 := by
 unfold pre; rw [ByteArray.size_append]
 show 1 + s.size = _
 omega
theorem iv_off {p : Pn} (h : Iv p) {s : ByteArray} (h0 : offX p s = 0) : Iv (offP p s).1 := by
 unfold offX at h0
 split at h0
 · cases h0
 · split at h0
   · cases h0
   · rename_i h2
     exact iv_commit (iv_addP h (by rw [pre_size]; omega) h0)
theorem byG_len (V L : List Nat) : (byG V L).length ≤ 96 := by
 unfold byG
 split
 · rename_i hm
   have := nums_room (may_small hm)
   simpa using this
 · simp
theorem mk_size (L : List UInt8) : (⟨L.toArray⟩ : ByteArray).size = L.length := by simp [ByteArray.size]
theorem iv_chg {p : Pn} (h : Iv p) {k : Int} {i : Nat} (h0 : chgX p k i = 0) : Iv (chgP p k i).1 := by
 unfold chgX at h0
 split at h0
 · cases h0
 · split at h0
   · cases h0
   · split at h0
     · cases h0
     · split at h0
       · rename_i e; exact absurd h0 e
       · refine iv_commit (iv_remark (iv_addP h ?_ h0))
         have := byG_len (nxC p k i).1.1 (nxC p k i).1.2
         unfold chgD; rw [pre_size, mk_size]; omega
theorem iv_cmp {p : Pn} (h : Iv p) {i : Nat} {app : ByteArray} (h0 : cmpX p i app = 0) : Iv (cmpP p i app) := by
 unfold cmpX at h0
 split at h0
 · cases h0
 · split at h0
   · cases h0
   · rename_i h1 h2
     have h3 := h.g.top
     have he : p.endI = p.g.base + p.g.L.length := rfl
     refine ⟨h.id, h.may, h.term, h.asks, h.vote, il_ins h.g (by omega) ?_ (by omega), h.commit, h.voices, h.next, h.mat, h.marks, h.nexts⟩
     unfold tAt
     split
     · exact h.g.bt
     · split
       · exact (by decide : 0 < 18446744073709551616)
       · split
         · rename_i x hx
           exact (h.g.data x (List.mem_of_getElem? hx)).1
         · exact (by decide : 0 < 18446744073709551616)
theorem iv_does {p : Pn} (h : Iv p) {a : Ac} (hm : Bm a.m) : Iv (doesP p a) := by
 unfold doesP
 split
 · exact iv_tick h a.n
 · split
   · exact iv_hear h hm
   · split
     · split
       · rename_i e; exact iv_off h e
       · exact h
     · split
       · split
         · rename_i e; exact iv_chg h e
         · exact h
       · split
         · split
           · rename_i e; exact iv_cmp h e
           · exact h
         · exact h
theorem iv_new {id : Nat} {c : Cf} {t v : Nat} {g : Lg} (hid : 1 ≤ id ∧ id ≤ 63) (hc : mayB c.V c.L = true) (hs : stOk t v g.base g.bt g.snap g.L) : Iv (newP id c t v g) := by
 obtain ⟨h1, h2, h3, h4, h5, h6, h7, h8, h9⟩ := hs
 refine ⟨hid, hc, h1, fun e => by simp [newP] at e, by show v < _; omega, ⟨by show g.bt < _; omega, by show g.snap.size ≤ _; omega, h4, h5, fun x hx => ?_⟩, by show g.base < _; omega, Ion.nil, Ion.nil, Ion.nil, (fun x hx => by cases hx), (fun x hx => by cases hx)⟩
 obtain ⟨k, hk⟩ := List.mem_iff_getElem?.1 hx
 obtain ⟨i1, _, _, i4⟩ := h9 k x hk
 omega

def Kpt (h : Lg) (at' : Nat) (x : En) : Prop := at' < h.base ∨ (tAt h.base h.bt h.L at' = (x.t, true) ∧ (h.base < at' → h.L[at' - h.base - 1]? = some x))
def Kept (S : Nat → Prop) (g h : Lg) : Prop := ∀ (k : Nat) (x : En), g.L[k]? = some x → S (g.base + k + 1) → Kpt h (g.base + k + 1) x
theorem tAtZ_in {base bt k : Nat} {L : List En} {x : En} (h : L[k]? = some x) : tAt base bt L (base + k + 1) = (x.t, true) := by
 unfold tAt
 rw [if_neg (by omega), if_neg (by omega), show base + k + 1 - base - 1 = k by omega, h]
theorem kept_same (S : Nat → Prop) {g h : Lg} (h1 : h.base = g.base) (h2 : ∀ (k : Nat) (x : En), g.L[k]? = some x → S (g.base + k + 1) → h.L[k]? = some x) : Kept S g h := fun k x hx hs => by
 have h3 := h2 k x hx hs
 right
 rw [← h1]
 exact ⟨tAtZ_in h3, fun _ => by rw [show h.base + k + 1 - h.base - 1 = k by omega]; exact h3⟩
theorem kept_refl (S : Nat → Prop) (g : Lg) : Kept S g g := kept_same S rfl fun _ _ h _ => h
theorem kept_add (S : Nat → Prop) {g : Lg} {x : En} (h0 : addE g x = 0) : Kept S g (addG g x) := by
 unfold addG
 rw [if_pos h0]
 exact kept_same S rfl fun k y hy _ => by
  have := (List.getElem?_eq_some_iff.1 hy).1
  show (g.L ++ [x])[k]? = _
  rw [List.getElem?_append_left this]; exact hy
theorem kept_joinC {g : Lg} {pv t c : Nat} {E : List En} (hf : (joinC g pv t E).2.2 = true → ¬ ((joinC g pv t E).2.1 ≠ 0 ∧ (joinC g pv t E).2.1 ≤ g.base + g.L.length ∧ (joinC g pv t E).2.1 ≤ c)) : Kept (fun i => i ≤ c) g (joinC g pv t E).1 := by
 unfold joinC at hf ⊢
 split
 · exact kept_refl _ _
 · rename_i h1
   rw [if_neg h1] at hf
   split
   · exact kept_refl _ _
   · rename_i h2
     rw [if_neg h2] at hf
     have hf := hf rfl
     refine kept_same _ rfl fun k x hx hs => ?_
     show (joinL g pv E)[k]? = _
     unfold joinL
     split
     · rename_i h3
       simp only [if_pos h3] at hf
       have hk := (List.getElem?_eq_some_iff.1 hx).1
       have h4 : k < pv + knF g.base g.bt g.L pv E - g.base := by omega
       rw [List.getElem?_append_left (by rw [List.length_take]; omega), List.getElem?_take_of_lt h4]
       exact hx
     · exact hx
theorem kept_join {g : Lg} {pv t c : Nat} {E : List En} (hf : (joinG g pv t E).2.2 = true → ¬ ((joinG g pv t E).2.1 ≠ 0 ∧ (joinG g pv t E).2.1 ≤ g.base + g.L.length ∧ (joinG g pv t E).2.1 ≤ c)) : Kept (fun i => i ≤ c) g (joinG g pv t E).1 := by
 unfold joinG at hf ⊢
 split
 · rename_i h; rw [if_pos h] at hf; exact kept_joinC hf
 · rename_i h; rw [if_neg h] at hf; exact kept_joinC hf
structure Kc (p q : Pn) : Prop where
 commit : p.commit ≤ q.commit
 kept : Kept (fun i => i ≤ p.commit ∨ (p.role = 3 ∧ q.role = 3)) p.g q.g
theorem Kc.g {p q : Pn} (h1 : p.commit ≤ q.commit) (h2 : q.g = p.g) : Kc p q := ⟨h1, by rw [h2]; exact kept_refl _ _⟩
theorem Kc.from {p p' q : Pn} (h : Kc p' q) (h1 : p'.commit = p.commit) (h2 : p'.g = p.g) (h3 : p.role = 3 → q.role = 3 → p'.role = 3) : Kc p q :=
 ⟨by rw [← h1]; exact h.commit, fun k x hx hs => by
  have := h.kept k x (by rw [h2]; exact hx) (by rw [h1]; rw [h2]; exact hs.imp id fun e => ⟨h3 e.1 e.2, e.2⟩)
  rw [h2] at this; exact this⟩
theorem commit_kc (p : Pn) : p.commit ≤ (commitP p).commit ∧ (commitP p).g = p.g := by
 unfold commitP; split
 · rename_i h; exact ⟨Nat.le_of_lt h.2.2, rfl⟩
 · exact ⟨Nat.le_refl _, rfl⟩
theorem kc_lead (p : Pn) : Kc p (leadP p).1 := by
 rw [leadP_eq]; split
 · rename_i h0
   obtain ⟨h1, h2⟩ := commit_kc (remarkP (addP (lead0 p) ⟨#[]⟩))
   refine ⟨h1, ?_⟩
   show Kept _ p.g (commitP (remarkP (addP (lead0 p) ⟨#[]⟩))).g
   rw [h2]
   exact kept_add _ (g := p.g) h0
 · exact Kc.g (Nat.le_refl _) rfl
theorem kc_countC (p : Pn) : Kc p (countC p).1 := by
 unfold countC; split
 · exact kc_lead p
 · split <;> exact Kc.g (Nat.le_refl _) rfl
theorem kc_count (p : Pn) : Kc p (countP p).1 := by
 unfold countP; split
 · split
   · rename_i e
     exact (kc_countC (standQ p)).from rfl rfl (fun e3 => by rw [e] at e3; cases e3)
   · exact kc_lead p
 · split <;> exact Kc.g (Nat.le_refl _) rfl
theorem kc_beat (p : Pn) : Kc p (beatP p).1 := by unfold beatP; split <;> exact Kc.g (Nat.le_refl _) rfl
theorem kc_tick (p : Pn) (n : Nat) : Kc p (tickP p n).1 := by
 unfold tickP; split
 · exact (kc_beat (lessH p)).from rfl rfl (fun h _ => h)
 · rename_i hr
   split
   · exact Kc.g (Nat.le_refl _) rfl
   · split
     · exact Kc.g (Nat.le_refl _) rfl
     · exact (kc_count (askQ { lessH p with span := 10 + (n % 10 : Nat), wait := 10 + (n % 10 : Nat) })).from rfl rfl (fun h => absurd h hr)
theorem kc_say (p : Pn) (m : Mg) : Kc p (sayP p m).1 := (kc_count { p with voices := sayL p.voices m.fr m.ok }).from rfl rfl (fun h _ => h)
theorem kc_fore (p : Pn) (m : Mg) : Kc p (foretP p m).1 := by
 rcases foret_cases p m with e | e | e <;> rw [e]
 · exact kc_say p m
 · exact Kc.g (Nat.le_refl _) rfl
 · exact Kc.g (Nat.le_refl _) rfl
theorem kc_vote (p : Pn) (m : Mg) : Kc p (voteP p m) := by
 have h1 : (voteP p m).commit = p.commit := by show (voteQ p m).commit = _; unfold voteQ; split <;> rfl
 have h2 : (voteP p m).g = p.g := by show (voteQ p m).g = _; unfold voteQ; split <;> rfl
 exact Kc.g (Nat.le_of_eq h1.symm) h2
theorem up_kc (p : Pn) (t : Nat) : (upP p t).commit = p.commit ∧ (upP p t).g = p.g := by unfold upP; split <;> exact ⟨rfl, rfl⟩
theorem kc_reply (p : Pn) (m : Mg) : Kc p (replyP p m).1 := by
 unfold replyP; split
 · exact Kc.g (Nat.le_refl _) rfl
 · split
   · exact Kc.g (Nat.le_refl _) rfl
   · split
     · exact Kc.g (Nat.le_refl _) rfl
     · obtain ⟨h1, h2⟩ := commit_kc { p with mat := setN m.fr (max (mrkN m.fr p.mat) m.i) p.mat, next := setN m.fr ((max (mrkN m.fr p.mat) m.i + 1) % 18446744073709551616) p.next }
       split <;> exact Kc.g h1 h2
theorem kc_join {p : Pn} (m : Mg) (hr : p.role ≠ 3) : Kc p (joinP p m).1 := by
 unfold joinP; split
 · exact Kc.g (Nat.le_refl _) rfl
 · rename_i h
   refine ⟨Nat.le_max_left .., fun k x hx hs => ?_⟩
   refine kept_join (c := p.commit) (fun _ h2 => h (.inr h2)) k x hx ?_
   rcases hs with hs | hs
   · exact hs
   · exact absurd hs.1 hr
theorem kc_inst {p : Pn} (m : Mg) (hr : p.role ≠ 3) : Kc p (instP p m).1 := by
 show Kc p (instQ p m)
 unfold instQ; split
 · rename_i h
   have hc := h.2.2.2.1
   refine ⟨Nat.le_of_lt hc, fun k x hx hs => ?_⟩
   show Kpt (insG p.g m.i m.lt m.snap) _ x
   rcases hs with hs | hs
   · unfold insG
     split
     · exact kept_refl (fun _ => True) p.g k x hx trivial
     · exact .inl (by show p.g.base + k + 1 < m.i; omega)
   · exact absurd hs.1 hr
 · exact Kc.g (Nat.le_refl _) rfl
theorem kc_term (p : Pn) (m : Mg) : Kc p (termP p m).1 := by
 obtain ⟨u1, u2⟩ := up_kc p m.term
 have hu : Kc p (upP p m.term) := Kc.g (Nat.le_of_eq u1.symm) u2
 have hh := (heard_same (upP p m.term) m.fr).2.2.2
 unfold termP
 split
 · exact hu
 · split
   · exact hu
   · split
     · obtain ⟨_, _, _, h4⟩ := join_same (heardP (upP p m.term) m.fr) m
       exact (kc_join (p := heardP (upP p m.term) m.fr) m (by rw [hh]; decide)).from u1 u2 (fun _ e => by rw [h4, hh] at e; cases e)
     · split
       · obtain ⟨_, _, _, h4⟩ := inst_same (heardP (upP p m.term) m.fr) m
         exact (kc_inst (p := heardP (upP p m.term) m.fr) m (by rw [hh]; decide)).from u1 u2 (fun _ e => by rw [h4, hh] at e; cases e)
       · split
         · obtain ⟨_, _, _, h4⟩ := reply_same (upP p m.term) m
           exact (kc_reply (upP p m.term) m).from u1 u2 (fun _ e => by rw [h4] at e; exact e)
         · split
           · rename_i hr
             by_cases hl : p.term < m.term
             · have := ((up_term p m.term).2.1 hl).1; omega
             · rw [(up_term p m.term).2.2 hl]; exact kc_say p m
           · exact hu
theorem kc_hear (p : Pn) (m : Mg) : Kc p (hearP p m).1 := by
 unfold hearP
 split
 · exact Kc.g (Nat.le_refl _) rfl
 · split
   · exact Kc.g (Nat.le_refl _) rfl
   · split
     · exact kc_vote p m
     · split
       · exact kc_fore p m
       · split
         · exact kc_term p m
         · exact Kc.g (Nat.le_refl _) rfl
theorem kc_spread {p : Pn} {dt : ByteArray} (h0 : addX p dt = 0) {q : Pn} (h1 : q.commit = p.commit) (h2 : q.g = (addP p dt).g) : Kc p (spreadP q).1 := by
 obtain ⟨h3, h4⟩ := commit_kc q
 refine ⟨by rw [← h1]; exact h3, ?_⟩
 show Kept _ p.g (commitP q).g
 rw [h4, h2]
 exact kept_add _ (g := p.g) h0
theorem off_add {p : Pn} {s : ByteArray} (h0 : offX p s = 0) : addX p (pre 100 s) = 0 := by
 unfold offX at h0
 split at h0
 · cases h0
 · split at h0
   · cases h0
   · exact h0
theorem chg_add {p : Pn} {k : Int} {i : Nat} (h0 : chgX p k i = 0) : addX p (chgD p k i) = 0 := by
 unfold chgX at h0
 split at h0
 · cases h0
 · split at h0
   · cases h0
   · split at h0
     · cases h0
     · split at h0
       · rename_i e; exact absurd h0 e
       · exact h0
theorem kc_cmp {p : Pn} {i : Nat} {app : ByteArray} (h0 : cmpX p i app = 0) : Kc p (cmpP p i app) := by
 unfold cmpX at h0
 split at h0
 · cases h0
 · rename_i h1
   refine ⟨Nat.le_refl _, fun k x hx _ => ?_⟩
   have hk := (List.getElem?_eq_some_iff.1 hx).1
   have he : p.endI = p.g.base + p.g.L.length := rfl
   obtain ⟨y, hy⟩ : ∃ y, p.g.L[i - p.g.base - 1]? = some y := ⟨_, List.getElem?_eq_getElem (by omega)⟩
   have ht : tAt p.g.base p.g.bt p.g.L i = (y.t, true) := by
    have := tAtZ_in (base := p.g.base) (bt := p.g.bt) hy
    rwa [show p.g.base + (i - p.g.base - 1) + 1 = i by omega] at this
   have hb : hasB p.g.base p.g.bt p.g.L i y.t = true := by unfold hasB; rw [ht]; simp
   show Kpt (insG p.g i (tAt p.g.base p.g.bt p.g.L i).1 (cmpS p i app)) _ x
   rw [ht]
   unfold insG
   rw [if_neg (by omega)]
   simp only [if_pos hb]
   by_cases e1 : p.g.base + k + 1 < i
   · exact .inl e1
   · refine .inr ?_
     by_cases e2 : p.g.base + k + 1 = i
     · have : k = i - p.g.base - 1 := by omega
       subst this
       rw [hx] at hy
       obtain rfl := Option.some.inj hy
       refine ⟨?_, fun h => ?_⟩
       · show tAt i x.t _ (p.g.base + (i - p.g.base - 1) + 1) = _
         unfold tAt; rw [if_pos (by omega)]
       · have h : i < p.g.base + (i - p.g.base - 1) + 1 := h
         omega
     · have h3 : (p.g.L.drop (i - p.g.base))[p.g.base + k + 1 - i - 1]? = some x := by
        rw [List.getElem?_drop, show i - p.g.base + (p.g.base + k + 1 - i - 1) = k by omega]; exact hx
       refine ⟨?_, fun _ => h3⟩
       have := tAtZ_in (base := i) (bt := y.t) h3
       rwa [show i + (p.g.base + k + 1 - i - 1) + 1 = p.g.base + k + 1 by omega] at this
theorem kc_does (p : Pn) (a : Ac) : Kc p (doesP p a) := by
 unfold doesP
 split
 · exact kc_tick p a.n
 · split
   · exact kc_hear p a.m
   · split
     · split
       · rename_i e; exact kc_spread (off_add e) rfl rfl
       · exact Kc.g (Nat.le_refl _) rfl
     · split
       · split
         · rename_i e; exact kc_spread (q := remarkP (addP p (chgD p a.xk a.xi))) (chg_add e) rfl rfl
         · exact Kc.g (Nat.le_refl _) rfl
       · split
         · split
           · rename_i e; exact kc_cmp e
           · exact Kc.g (Nat.le_refl _) rfl
         · exact Kc.g (Nat.le_refl _) rfl


def geC (v : Nat) (D : List Nat) : Nat := D.countP fun x => decide (v ≤ x)
theorem geC_le (v : Nat) (D : List Nat) : geC v D ≤ D.length := List.countP_le_length
theorem descL_perm (D : List Nat) : (descL D).Perm D := List.mergeSort_perm _ _
theorem descL_sorted (D : List Nat) : (descL D).Pairwise fun x y => y ≤ x := by
 have h := List.pairwise_mergeSort (le := fun x y : Nat => decide (y ≤ x)) (by intro a b c h1 h2; simp at *; omega) (by intro a b; simp; omega) D
 exact h.imp (by intro a b h; simpa using h)
theorem descL_at {D : List Nat} {i j x y : Nat} (hx : (descL D)[i]? = some x) (hy : (descL D)[j]? = some y) (hij : i ≤ j) : y ≤ x := by
 obtain ⟨hi, rfl⟩ := List.getElem?_eq_some_iff.1 hx
 obtain ⟨hj, rfl⟩ := List.getElem?_eq_some_iff.1 hy
 rcases Nat.lt_or_ge i j with h | h
 · exact (List.pairwise_iff_getElem.1 (descL_sorted D)) i j hi hj h
 · obtain rfl : i = j := by omega
   exact Nat.le_refl _
theorem le_agL (D : List Nat) (v : Nat) : v ≤ agL D ↔ v = 0 ∨ D.length / 2 + 1 ≤ geC v D := by
 have hl := descL_len D
 have hp : geC v (descL D) = geC v D := (descL_perm D).countP_eq _
 rw [← hp, ← hl]
 unfold agL
 rcases Nat.eq_zero_or_pos D.length with h0 | h0
 · have e : (descL D)[D.length / 2]? = none := List.getElem?_eq_none (by omega)
   have := geC_le v (descL D)
   rw [e]; simp; omega
 · obtain ⟨s, hs⟩ : ∃ s, (descL D)[D.length / 2]? = some s := ⟨_, List.getElem?_eq_getElem (by omega)⟩
   rw [hs]
   simp only [Option.getD_some]
   have e : geC v (descL D) = geC v ((descL D).take (D.length / 2 + 1)) + geC v ((descL D).drop (D.length / 2 + 1)) := by
    unfold geC; rw [← List.countP_append, List.take_append_drop]
   have e2 : geC v (descL D) = geC v ((descL D).take (D.length / 2)) + geC v ((descL D).drop (D.length / 2)) := by
    unfold geC; rw [← List.countP_append, List.take_append_drop]
   constructor
   · intro h
     right
     have h2 : geC v ((descL D).take (D.length / 2 + 1)) = ((descL D).take (D.length / 2 + 1)).length := by
      unfold geC
      refine List.countP_eq_length.2 fun x hx => ?_
      obtain ⟨j, hj⟩ := List.mem_iff_getElem?.1 hx
      have hjl := (List.getElem?_eq_some_iff.1 hj).1
      rw [List.length_take] at hjl
      rw [List.getElem?_take_of_lt (by omega)] at hj
      have := descL_at hj hs (by omega)
      simp; omega
     rw [List.length_take] at h2
     omega
   · rintro (h | h)
     · omega
     · refine Classical.byContradiction fun hc => ?_
       have h2 : geC v ((descL D).drop (D.length / 2)) = 0 := by
        unfold geC
        refine List.countP_eq_zero.2 fun x hx => ?_
        obtain ⟨j, hj⟩ := List.mem_iff_getElem?.1 hx
        rw [List.getElem?_drop] at hj
        have := descL_at hs hj (by omega)
        simp; omega
       have h3 := geC_le v ((descL D).take (D.length / 2))
       rw [List.length_take] at h3
       omega
def hasL (g : Nat) (M : List Mk) (V : List Nat) : List Nat := V.filter fun x => decide (g ≤ (markN x M).1)
theorem hasL_len (g : Nat) (M : List Mk) (V : List Nat) : (hasL g M V).length = geC g (mks V M) := by
 unfold hasL geC mks
 rw [List.countP_map, ← List.countP_eq_length_filter]; rfl
theorem pairwise_nodup {V : List Nat} (h : V.Pairwise (· < ·)) : V.Nodup := h.imp (fun h e => by omega)
theorem rises_most {V L : List Nat} {M : List Mk} (hm : mayB V L = true) : mostB V (hasL (agL (mks V M)) M V) = true := by
 obtain ⟨⟨m1, _, _⟩, _, m5, _⟩ := mayB_iff.1 hm
 unfold mostB
 refine decide_eq_true ?_
 have hl : (mks V M).length = V.length := by simp [mks]
 have hc : V.length / 2 + 1 ≤ (hasL (agL (mks V M)) M V).length := by
  rw [hasL_len]
  rcases (le_agL (mks V M) (agL (mks V M))).1 (Nat.le_refl _) with h0 | h0
  · have : geC (agL (mks V M)) (mks V M) = (mks V M).length := by
     unfold geC; exact List.countP_eq_length.2 fun x _ => by rw [h0]; simp
    rw [this, hl]; omega
  · rw [hl] at h0; exact h0
 refine Nat.le_trans hc ?_
 rw [← fr_len]
 have hn : (hasL (agL (mks V M)) M V).Nodup := (pairwise_nodup m5).filter _
 refine nodup_le hn fun x hx => ?_
 have := fr_mem V (hasL (agL (mks V M)) M V) x _ (Nat.le_refl _)
 rw [List.take_length] at this
 exact this.2 ⟨(List.mem_filter.1 hx).1, hx⟩
structure Cm (p q : Pn) : Prop where
 up : p.commit < q.commit
 agr : q.commit = q.agr
 at_ : tAt q.g.base q.g.bt q.g.L q.commit = (q.term, true)
 g : q.g = p.g
 c : q.c = p.c
 mat : q.mat.length ≤ p.mat.length + 1
def Kq (p q : Pn) : Prop := q.role = 3 → q.commit = p.commit ∨ Cm p q
theorem commit_new {p : Pn} (h : (commitP p).commit ≠ p.commit) : Cm p (commitP p) := by
 unfold commitP at h ⊢
 by_cases c : (tAt p.g.base p.g.bt p.g.L p.agr).2 = true ∧ (tAt p.g.base p.g.bt p.g.L p.agr).1 = p.term ∧ p.commit < p.agr
 · rw [if_pos c]
   exact ⟨c.2.2, rfl, Prod.ext c.2.1 c.1, rfl, rfl, Nat.le_succ _⟩
 · rw [if_neg c] at h
   exact absurd rfl h
theorem kq_ok (p : Pn) (m : Mg) : Kq p (okQ p m) := fun _ => by
 by_cases e : (okQ p m).commit = p.commit
 · exact .inl e
 · have h := commit_new (p := { p with mat := setN m.fr (max (mrkN m.fr p.mat) m.i) p.mat, next := setN m.fr ((max (mrkN m.fr p.mat) m.i + 1) % 18446744073709551616) p.next }) e
   exact .inr ⟨h.up, h.agr, h.at_, h.g, h.c, by rw [show (okQ p m).mat = setN m.fr (max (mrkN m.fr p.mat) m.i) p.mat by unfold okQ commitP; split <;> rfl]; exact setN_len _ _ _⟩
theorem kq_reply (p : Pn) (m : Mg) : Kq p (replyP p m).1 := by
 unfold replyP; split
 · exact fun _ => .inl rfl
 · split
   · exact fun _ => .inl rfl
   · split
     · exact fun _ => .inl rfl
     · split <;> exact kq_ok p m
theorem kq_role {p q : Pn} (h : q.role = 0 ∨ q.role = 2) : Kq p q := fun h3 => by rcases h with h | h <;> (rw [h] at h3; exact absurd h3 (by decide))
theorem kq_term {p : Pn} (m : Mg) (h1 : p.role = 3) : Kq p (termP p m).1 := by
 have hh := (heard_same (upP p m.term) m.fr).2.2.2
 by_cases hl : p.term < m.term
 · have hr := ((up_term p m.term).2.1 hl).1
   unfold termP
   split
   · exact kq_role (.inl hr)
   · split
     · exact kq_role (.inl hr)
     · split
       · exact kq_role (.inl ((join_same _ _).2.2.2.trans hh))
       · split
         · exact kq_role (.inl ((inst_same _ _).2.2.2.trans hh))
         · split
           · exact kq_role (.inl ((reply_same _ _).2.2.2.trans hr))
           · split
             · rename_i h; rw [hr] at h; exact absurd h (by decide)
             · exact kq_role (.inl hr)
 · have hu := (up_term p m.term).2.2 hl
   rw [hu] at hh
   unfold termP
   rw [hu]
   split
   · exact fun _ => .inl rfl
   · split
     · exact fun _ => .inl rfl
     · split
       · exact kq_role (.inl ((join_same _ _).2.2.2.trans hh))
       · split
         · exact kq_role (.inl ((inst_same _ _).2.2.2.trans hh))
         · split
           · exact kq_reply p m
           · split
             · rename_i h; rw [h1] at h; exact absurd h (by decide)
             · exact fun _ => .inl rfl
theorem kq_hear {p : Pn} (m : Mg) (h1 : p.role = 3) : Kq p (hearP p m).1 := by
 unfold hearP
 split
 · exact fun _ => .inl rfl
 · split
   · exact fun _ => .inl rfl
   · split
     · refine fun _ => .inl ?_
       show (voteQ p m).commit = _; unfold voteQ; split <;> rfl
     · split
       · unfold foretP
         rw [if_neg (fun h => by rw [h1] at h; exact absurd h.1 (by decide))]
         split <;> exact fun _ => .inl rfl
       · split
         · exact kq_term m h1
         · exact fun _ => .inl rfl
theorem at_cases {base bt i t : Nat} {L : List En} (h : tAt base bt L i = (t, true)) : base ≤ i ∧ (i = base → bt = t) ∧ (base < i → ∃ x, L[i - base - 1]? = some x ∧ x.t = t) := by
 unfold tAt at h
 by_cases h1 : i = base
 · rw [if_pos h1] at h
   injection h with h
   exact ⟨by omega, fun _ => h, fun h2 => by omega⟩
 · rw [if_neg h1] at h
   by_cases h2 : i < base
   · rw [if_pos h2] at h; injection h with _ h; cases h
   · rw [if_neg h2] at h
     refine ⟨by omega, fun e => absurd e h1, fun _ => ?_⟩
     cases hx : L[i - base - 1]? with
     | none => rw [hx] at h; injection h with _ h; cases h
     | some x => rw [hx] at h; injection h with h; exact ⟨x, rfl, h⟩
theorem cm_most {p q : Pn} (h : Cm p q) (hm : mayB q.conf.V q.conf.L = true) : mostB q.conf.V (hasL q.commit q.mat q.conf.V) = true := by
 rw [h.agr]; exact rises_most hm
end Go.Proofs.YtdcpiaoadbbdoaaGreat
