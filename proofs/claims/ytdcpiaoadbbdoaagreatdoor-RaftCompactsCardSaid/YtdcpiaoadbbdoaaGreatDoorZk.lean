/- The program's May, in plain words. -/
import Derived.Test.YtdcpiaoadbbdoaaGreatDoorRb
import Derived.Test.YtdcpiaoadbbdoaaGreatDoorMy
import Derived.Outline
import Derived.Test.YtdcpiaoadbbdoaaGreatDoorQz
import Derived.Test.YtdcpiaoadbbdoaaGreatDoorQmy
set_option maxRecDepth 100000
set_option maxHeartbeats 16000000
namespace Go.Proofs.YtdcpiaoadbbdoaaGreatDoor
open Go.RowKit

def baseOk (base bt : Nat) (snap : ByteArray) : Prop := (base = 0 → bt = 0 ∧ snap.size = 0) ∧ base ≤ 1099511627776 ∧ snap.size ≤ 4096
def dataOk (L : List En) : Prop := ∀ x ∈ L, x.d.size ≤ 4096
def entsOk (base : Nat) (L : List En) : Prop := L.length ≤ 1024 ∧ base + L.length ≤ 1099511627776 ∧ dataOk L
def hiT (bt : Nat) (L : List En) : Nat → Nat
 | 0 => bt
 | k + 1 => match L[k]? with | some x => x.t | none => 0
def ascT (bt : Nat) (L : List En) (k : Nat) : Prop := ∀ j, j < k → hiT bt L j ≤ hiT bt L (j + 1)
def termsOk (term bt : Nat) (L : List En) : Prop := ascT bt L L.length ∧ hiT bt L L.length ≤ term
theorem hiT_succ {bt : Nat} {L : List En} {k : Nat} {x : En} (h : L[k]? = some x) : hiT bt L (k + 1) = x.t := by simp only [hiT, h]
theorem ascT_le {bt : Nat} {L : List En} {n : Nat} (h : ascT bt L n) : ∀ m, m ≤ n → ∀ j, j ≤ m → hiT bt L j ≤ hiT bt L m := by
 intro m
 induction m with
 | zero => intro _ j hj; have e : j = 0 := Nat.le_zero.1 hj; rw [e]; exact Nat.le_refl _
 | succ m ih =>
  intro hm j hj
  by_cases e : j = m + 1
  · subst e; exact Nat.le_refl _
  · exact Nat.le_trans (ih (by omega) j (by omega)) (h m (by omega))
theorem ents_terms (term bt : Nat) (L : List En) : (bt ≤ term ∧ ∀ k, entOk term bt L k) ↔ (termsOk term bt L ∧ dataOk L) := by
 constructor
 · rintro ⟨h0, h⟩
   refine ⟨⟨fun j hj => ?_, ?_⟩, fun x hx => ?_⟩
   · have hx := List.getElem?_eq_getElem hj
     obtain ⟨_, b1, b2, _⟩ := h j _ hx
     rw [hiT_succ hx]
     cases j with
     | zero => exact b1
     | succ j =>
      have hy := List.getElem?_eq_getElem (show j < L.length by omega)
      rw [hiT_succ hy]
      exact b2 _ (by omega) (by simp)
   · cases hL : L.length with
     | zero => exact h0
     | succ m =>
      have hx := List.getElem?_eq_getElem (show m < L.length by omega)
      rw [hiT_succ hx]
      exact (h m _ hx).1
   · obtain ⟨j, hj, rfl⟩ := List.mem_iff_getElem.1 hx
     exact (h j _ (List.getElem?_eq_getElem hj)).2.2.2
 · rintro ⟨⟨h1, h2⟩, h3⟩
   have mono := ascT_le h1
   refine ⟨Nat.le_trans (mono _ (Nat.le_refl _) 0 (Nat.zero_le _)) h2, fun k x hx => ?_⟩
   have hk := (List.getElem?_eq_some_iff.1 hx).1
   have e := hiT_succ (bt := bt) hx
   refine ⟨?_, ?_, ?_, h3 x (List.mem_of_getElem? hx)⟩
   · rw [← e]; exact Nat.le_trans (mono _ (Nat.le_refl _) _ (by omega)) h2
   · rw [← e]; exact mono (k + 1) (by omega) 0 (Nat.zero_le _)
   · intro y h0 hy
     have e2 := hiT_succ (bt := bt) hy
     rw [← e, ← e2, show k - 1 + 1 = k by omega]
     exact h1 k hk
theorem stOk_iff (term vote base bt : Nat) (snap : ByteArray) (L : List En) : stOk term vote base bt snap L ↔ term ≤ 4611686018427387903 ∧ vote ≤ 4611686018427387903 ∧ baseOk base bt snap ∧ entsOk base L ∧ termsOk term bt L := by
 have h := ents_terms term bt L
 unfold stOk baseOk entsOk
 constructor
 · rintro ⟨a1, a2, a3, a4, a5, a6, a7, a8, a9⟩
   obtain ⟨b1, b2⟩ := h.1 ⟨a7, a9⟩
   exact ⟨a1, a2, ⟨a8, a3, a6⟩, ⟨a4, a5, b2⟩, b1⟩
 · rintro ⟨a1, a2, ⟨a8, a3, a6⟩, ⟨a4, a5, b2⟩, b1⟩
   obtain ⟨a7, a9⟩ := h.2 ⟨b1, b2⟩
   exact ⟨a1, a2, a3, a4, a5, a6, a7, a8, a9⟩

theorem plast_any (a : Option Addr) (n c base bt : Nat) (snap : ByteArray) (w : World) (hb : base ≤ 1099511627776) (hn : n ≤ 1048576) :
 Calls Tryz.prog 148 #[.agg #[.int .u64 base, .int .u64 bt, .string snap, .slice a n c]] w fun e w' => e = .returned (.int .u64 (base + n : Nat)) ∧ Below w.heap.size w w' := by
 go_enter Tryz.func148, Tryz.ntmps148
 go_wp2_with fail
 go_ret
 exact ⟨by simp, (Below.refl _ _).alloc (Nat.le_refl _) _⟩
theorem mayBase_no0 (a : Option Addr) (n c base bt : Nat) (snap : ByteArray) (_ : snap.size ≤ 140737488351232) (w : World) (hb : base = 0) (h : ¬ bt = 0 ∨ ¬ snap.size = 0) :
 Calls Tryz.prog 106 #[.agg #[.int .u64 base, .int .u64 bt, .string snap, .slice a n c]] w fun e w' => e = .returned (.bool false) ∧ Below w.heap.size w w' := by
 have g1 : ((base : Int) == 0) = true := by simp [hb]
 by_cases hbt : bt = 0
 · have hs0 := nonempty_of (h.resolve_left (fun f => f hbt))
   have g2 : ((bt : Int) != 0) = false := by simp [hbt]
   obtain ⟨q1, q2, q3⟩ := hs0
   have q4 : (snap.toList != []) = true := by simp [q3]
   clear hb h hbt
   go_enter Tryz.func106, Tryz.ntmps106
   go_wp2_with fail
   go_ret
   exact ⟨rfl, by go_grown⟩
 · have g2 : ((bt : Int) != 0) = true := by simp [hbt]
   clear hb h hbt
   go_enter Tryz.func106, Tryz.ntmps106
   go_wp2_with fail
   go_ret
   exact ⟨rfl, by go_grown⟩
theorem mayBase_rest (a : Option Addr) (n c base bt : Nat) (snap : ByteArray) (hs : snap.size ≤ 140737488351232) (w : World) (h : base = 0 → bt = 0 ∧ snap.size = 0) :
 Calls Tryz.prog 106 #[.agg #[.int .u64 base, .int .u64 bt, .string snap, .slice a n c]] w (MayP (baseOk base bt snap) w) := by
 by_cases hb : base = 0
 · obtain ⟨h1, h2⟩ := h hb
   have g1 : ((base : Int) == 0) = true := by simp [hb]
   have g2 : ((bt : Int) != 0) = false := by simp [h1]
   have g3 : (base : Int) ≤ 1099511627776 := by omega
   have g4 : (snap.size : Int) ≤ 4096 := by omega
   have e := empty_of h2
   have g5 : snap.toList = [] := by rw [e]; simp [ByteArray.toList_eq]
   have g6 : snap.toList.isEmpty = true := by rw [g5]; rfl
   have HG := hI_ (show baseOk base bt snap from ⟨h, by omega, by omega⟩)
   clear hb h h1 h2 e
   go_enter Tryz.func106, Tryz.ntmps106
   go_wp2_with fail
   go_ret
   exact mayP_yes HG.out (by go_grown)
 · have g1 : ((base : Int) == 0) = false := by simp [hb]
   by_cases h3 : base ≤ 1099511627776
   · have g3 : (base : Int) ≤ 1099511627776 := by omega
     by_cases h4 : snap.size ≤ 4096
     · have g4 : (snap.size : Int) ≤ 4096 := by omega
       have HG := hI_ (show baseOk base bt snap from ⟨h, by omega, by omega⟩)
       clear hb h h3 h4
       go_enter Tryz.func106, Tryz.ntmps106
       go_wp2_with fail
       go_ret
       exact mayP_yes HG.out (by go_grown)
     · have g4 : ¬ (snap.size : Int) ≤ 4096 := by omega
       have HG := hI_ (show ¬ baseOk base bt snap from fun k => h4 k.2.2)
       clear hb h h3 h4
       go_enter Tryz.func106, Tryz.ntmps106
       go_wp2_with fail
       go_ret
       exact mayP_no HG.out (by go_grown)
   · have g3 : ¬ (base : Int) ≤ 1099511627776 := by omega
     have HG := hI_ (show ¬ baseOk base bt snap from fun k => h3 k.2.1)
     clear hb h h3
     go_enter Tryz.func106, Tryz.ntmps106
     go_wp2_with fail
     go_ret
     exact mayP_no HG.out (by go_grown)
theorem mayBase_any (a : Option Addr) (n c base bt : Nat) (snap : ByteArray) (hs : snap.size ≤ 140737488351232) (w : World) :
 Calls Tryz.prog 106 #[.agg #[.int .u64 base, .int .u64 bt, .string snap, .slice a n c]] w (MayP (baseOk base bt snap) w) := by
 by_cases h : base = 0 → bt = 0 ∧ snap.size = 0
 · exact mayBase_rest a n c base bt snap hs w h
 · have hb : base = 0 := Classical.byContradiction fun k => h fun k2 => absurd k2 k
   have h2 : ¬ bt = 0 ∨ ¬ snap.size = 0 := by
    by_cases k : bt = 0
    · exact .inr fun k2 => h fun _ => ⟨k, k2⟩
    · exact .inl k
   refine (mayBase_no0 a n c base bt snap hs w hb h2).mono ?_
   rintro e w' ⟨rfl, hb'⟩
   exact mayP_no (fun k => h k.1) hb'
theorem mayEntries_any (n c base bt : Nat) (snap : ByteArray) (a : Option Addr) (L : List En) (hn : L.length = n) (hl : n ≤ 140737488351232) (hbase : base ≤ 1099511627776) (hD : ∀ x ∈ L, x.d.size ≤ 140737488351232) (w : World) (hE : Ents w a L) :
 Calls Tryz.prog 107 #[.agg #[.int .u64 base, .int .u64 bt, .string snap, .slice a n c]] w (MayP (entsOk base L) w) := by
 have HN := hI_ hn; clear hn
 by_cases h1 : 1024 < n
 · have g1 : (1024 : Int) < (n : Int) := by omega
   have HNO := hI_ (show ¬ entsOk base L from fun h => by have := h.1; have := HN.out; omega)
   clear h1 hE
   go_enter Tryz.func107, Tryz.ntmps107
   go_wp2_with fail
   go_ret
   exact mayP_no HNO.out (by go_grown)
 have g1 : ¬ (1024 : Int) < (n : Int) := by omega
 have HD := hI_ hD; clear hD
 obtain ⟨q, hq⟩ : ∃ q, base + n = q := ⟨_, rfl⟩
 have HQ := hI_ hq
 by_cases h2 : 1099511627776 < q
 · have g2 : (1099511627776 : Int) < (q : Int) := by omega
   have HNO := hI_ (show ¬ entsOk base L from fun h => by have := h.2.1; have := HN.out; omega)
   clear hq hE
   go_enter Tryz.func107, Tryz.ntmps107
   go_wp2_with fail
   refine (plast_any _ _ _ _ _ _ _ (by omega) (by omega)).mono ?_
   rintro e w2 ⟨rfl, hb2⟩
   rw [HQ.out]
   have B2 : Below w.heap.size w w2 := ((Below.refl _ w).alloc (Nat.le_refl _) _).trans (hb2.mono (by simp))
   clear hb2
   go_wp2_with fail
   go_ret
   exact mayP_no HNO.out B2
 have g2 : ¬ (1099511627776 : Int) < (q : Int) := by omega
 clear hq
 go_enter Tryz.func107, Tryz.ntmps107
 go_wp2_with fail
 refine (plast_any _ _ _ _ _ _ _ (by omega) (by omega)).mono ?_
 rintro e w2 ⟨rfl, hb2⟩
 rw [HQ.out]
 have x3 : w2.cell? ⟨w.heap.size, 3, none⟩ = some (.slice a n c) := (hb2.cell (p := ⟨w.heap.size, 3, none⟩) (by simp)).trans (by simp [go_sem])
 have hE2 := (hE.later ((Below.refl _ w).alloc (Nat.le_refl _) (.cells #[.int .u64 base, .int .u64 bt, .string snap, .slice a n c] 28))).later hb2
 have B2 : Below w.heap.size w w2 := ((Below.refl _ w).alloc (Nat.le_refl _) _).trans (hb2.mono (by simp))
 clear hb2 hE
 go_wp2_with fail
 go_loopw [17] (fun i wr => ∃ k : Nat, k ≤ n ∧ i = .int .i64 k ∧ (∀ j x, j < k → L[j]? = some x → x.d.size ≤ 4096) ∧ Below w2.heap.size w2 wr) (fun i _ => n - (intOf i).toNat)
 case atStart => exact ⟨0, Nat.zero_le _, rfl, fun j x hj => by omega, Below.refl _ _⟩
 case round =>
  obtain ⟨k, hk, rfl, hok, B⟩ := hrel
  have HOK := hI_ hok; clear hok
  by_cases hlt : k < n
  · have hkl : k < L.length := by have := HN.out; omega
    obtain ⟨x, hx⟩ : ∃ x, L[k]? = some x := ⟨_, List.getElem?_eq_getElem hkl⟩
    have hxs : x.d.size ≤ 140737488351232 := HD.out x (List.mem_of_getElem? hx)
    obtain ⟨b, off, rfl, hbb, p0, p1⟩ := (hE2.later B) k x hx
    have i0 : (0 : Int) ≤ (k : Int) := by omega
    have i1 : (k : Int) < (n : Int) := by omega
    have B3 : Below w2.heap.size w2 (wr.alloc (.cells #[.int .u64 x.t, .string x.d] 65)) := B.alloc B.size _
    by_cases hbig : x.d.size ≤ 4096
    · have g3 : ¬ (4096 : Int) < (x.d.size : Int) := by omega
      have hok2 : ∀ j y, j < k + 1 → L[j]? = some y → y.d.size ≤ 4096 := fun j y hj hy => by
       by_cases e : j = k
       · subst e; rw [hx] at hy; cases hy; exact hbig
       · exact HOK.out j y (by omega) hy
      have HO2 := hI_ hok2
      clear hx hok2 hkl hbig
      go_wp2_with fail
      go_roundw
      case rel => exact ⟨k + 1, by omega, by go_num, HO2.out, B3⟩
      case measure => simp [intOf]; omega
    · have g3 : (4096 : Int) < (x.d.size : Int) := by omega
      have HNO := hI_ (show ¬ entsOk base L from fun h => hbig (h.2.2 x (List.mem_of_getElem? hx)))
      clear hx hkl hbig
      go_wp2_with fail
      go_ret
      exact mayP_no HNO.out (B2.trans (B3.mono B2.size))
  · obtain rfl : k = n := by omega
    have hyes : entsOk base L := ⟨by have := HN.out; omega, by have := HN.out; have := HQ.out; omega, fun x hx => by
     obtain ⟨j, hj, rfl⟩ := List.mem_iff_getElem.1 hx
     exact HOK.out j _ (by have := HN.out; omega) (List.getElem?_eq_getElem hj)⟩
    have HY := hI_ hyes
    clear hyes
    go_wp2_with fail
    go_ret
    exact mayP_yes HY.out (B2.trans (B.mono B2.size))
theorem mayTerms_any (term vote base bt n c : Nat) (snap : ByteArray) (a : Option Addr) (L : List En) (hn : L.length = n) (hl : n ≤ 140737488351232) (w : World) (hE : Ents w a L) :
 Calls Tryz.prog 108 #[.agg #[.int .u64 term, .int .u64 vote, .int .u64 base, .int .u64 bt, .string snap, .slice a n c]] w (MayP (termsOk term bt L) w) := by
 have HN := hI_ hn; clear hn
 go_enter Tryz.func108, Tryz.ntmps108
 go_wp2_with fail
 generalize hW : w.alloc (.cells #[.int .u64 term, .int .u64 vote, .int .u64 base, .int .u64 bt, .string snap, .slice a n c] 30) = W
 have x0 : W.cell? ⟨w.heap.size, 0, none⟩ = some (.int .u64 term) := by subst hW; simp [go_sem]
 have hz : w.heap.size < W.heap.size := by subst hW; simp
 have hB : Below w.heap.size w W := by subst hW; go_grown
 have hE2 := hE.later hB
 clear hW hE
 go_loopw [3, 13] (fun h i wr => ∃ k : Nat, k ≤ n ∧ i = .int .i64 k ∧ h = .int .u64 (hiT bt L k : Nat) ∧ ascT bt L k ∧ Below W.heap.size W wr) (fun _ i _ => n - (intOf i).toNat)
 case atStart => exact ⟨0, Nat.zero_le _, rfl, rfl, fun j hj => by omega, Below.refl _ _⟩
 case round =>
  obtain ⟨k, hk, rfl, rfl, hasc, B⟩ := hrel
  have X0 := (B.cell (p := ⟨w.heap.size, 0, none⟩) hz).trans x0
  by_cases hlt : k < n
  · have hkl : k < L.length := by have := HN.out; omega
    obtain ⟨x, hx⟩ : ∃ x, L[k]? = some x := ⟨_, List.getElem?_eq_getElem hkl⟩
    obtain ⟨b, off, rfl, hbb, p0, p1⟩ := (hE2.later B) k x hx
    have hs := hiT_succ (bt := bt) hx
    have i0 : (0 : Int) ≤ (k : Int) := by omega
    have i1 : (k : Int) < (n : Int) := by omega
    have B3 : Below W.heap.size W (wr.alloc (.cells #[.int .u64 x.t, .string x.d] 65)) := B.alloc B.size _
    by_cases hlow : x.t < hiT bt L k
    · have g1 : (x.t : Int) < (hiT bt L k : Nat) := by omega
      have hno : ¬ termsOk term bt L := fun h => by have := h.1 k hkl; omega
      have HNO := hI_ hno
      clear hx hs hno hlow hkl
      go_wp2_with fail
      go_ret
      exact mayP_no HNO.out (hB.trans (B3.mono hB.size))
    · have g1 : ¬ (x.t : Int) < (hiT bt L k : Nat) := by omega
      have hasc2 : ascT bt L (k + 1) := fun j hj => by
       by_cases e : j = k
       · subst e; omega
       · exact hasc j (by omega)
      have HA := hI_ hasc2
      have HS := hI_ hs
      clear hx hs hasc hasc2 hlow hkl
      go_wp2_with fail
      go_roundw
      case rel => exact ⟨k + 1, by omega, by go_num, by rw [HS.out], HA.out, B3⟩
      case measure => simp [intOf]; omega
  · obtain rfl : k = n := by omega
    have hlen := HN.out
    by_cases hle : hiT bt L k ≤ term
    · have g1 : (hiT bt L k : Nat) ≤ (term : Int) := by omega
      have hyes : termsOk term bt L := ⟨by rw [hlen]; exact hasc, by rw [hlen]; exact hle⟩
      have HY := hI_ hyes
      clear hyes hasc hlen hle
      go_wp2_with fail
      go_ret
      exact mayP_yes HY.out (hB.trans (B.mono hB.size))
    · have g1 : ¬ (hiT bt L k : Nat) ≤ (term : Int) := by omega
      have hno : ¬ termsOk term bt L := fun h => by have := h.2; rw [hlen] at this; exact hle this
      have HNO := hI_ hno
      clear hno hasc hlen hle
      go_wp2_with fail
      go_ret
      exact mayP_no HNO.out (hB.trans (B.mono hB.size))

structure Sc (w : World) (x : Nat) (term vote base bt : Nat) (snap : ByteArray) (a : Option Addr) (n c : Nat) : Prop where
 c0 : w.cell? ⟨x, 0, none⟩ = some (.int .u64 term)
 c1 : w.cell? ⟨x, 1, none⟩ = some (.int .u64 vote)
 c2 : w.cell? ⟨x, 2, none⟩ = some (.int .u64 base)
 c3 : w.cell? ⟨x, 3, none⟩ = some (.int .u64 bt)
 c4 : w.cell? ⟨x, 4, none⟩ = some (.string snap)
 c5 : w.cell? ⟨x, 5, none⟩ = some (.slice a n c)
 lt : x < w.heap.size
theorem Sc.later {w w' : World} {x term vote base bt : Nat} {snap : ByteArray} {a : Option Addr} {n c : Nat} (h : Sc w x term vote base bt snap a n c) (hb : Below w.heap.size w w') : Sc w' x term vote base bt snap a n c :=
 ⟨(hb.cell (p := ⟨x, 0, none⟩) h.lt).trans h.c0, (hb.cell (p := ⟨x, 1, none⟩) h.lt).trans h.c1, (hb.cell (p := ⟨x, 2, none⟩) h.lt).trans h.c2, (hb.cell (p := ⟨x, 3, none⟩) h.lt).trans h.c3, (hb.cell (p := ⟨x, 4, none⟩) h.lt).trans h.c4, (hb.cell (p := ⟨x, 5, none⟩) h.lt).trans h.c5, Nat.lt_of_lt_of_le h.lt hb.size⟩
theorem Sc.new (w : World) (term vote base bt : Nat) (snap : ByteArray) (a : Option Addr) (n c : Nat) : Sc (w.alloc (.cells #[.int .u64 term, .int .u64 vote, .int .u64 base, .int .u64 bt, .string snap, .slice a n c] 30)) w.heap.size term vote base bt snap a n c :=
 ⟨by simp [go_sem], by simp [go_sem], by simp [go_sem], by simp [go_sem], by simp [go_sem], by simp [go_sem], by simp⟩
theorem noteMay_any (term vote base bt n c : Nat) (snap : ByteArray) (a : Option Addr) (L : List En) (hn : L.length = n) (hl : n ≤ 140737488351232) (hs : snap.size ≤ 140737488351232) (hD : ∀ x ∈ L, x.d.size ≤ 140737488351232) (w : World) (hE : Ents w a L) :
 Calls Tryz.prog 57 #[.agg #[.int .u64 term, .int .u64 vote, .int .u64 base, .int .u64 bt, .string snap, .slice a n c]] w (MayP (stOk term vote base bt snap L) w) := by
 have HI := hI_ (stOk_iff term vote base bt snap L)
 by_cases h1 : term ≤ 4611686018427387903
 case neg =>
  have g1 : ¬ (term : Int) ≤ 4611686018427387903 := by omega
  have HNO := hI_ (show ¬ stOk term vote base bt snap L from fun h => h1 (HI.out.1 h).1)
  clear h1 hE hD HI
  go_enter Tryz.func57, Tryz.ntmps57
  go_wp2_with fail
  go_ret
  exact mayP_no HNO.out (by go_grown)
 have g1 : (term : Int) ≤ 4611686018427387903 := by omega
 by_cases h2 : vote ≤ 4611686018427387903
 case neg =>
  have g2 : ¬ (vote : Int) ≤ 4611686018427387903 := by omega
  have HNO := hI_ (show ¬ stOk term vote base bt snap L from fun h => h2 (HI.out.1 h).2.1)
  clear h2 hE hD HI
  go_enter Tryz.func57, Tryz.ntmps57
  go_wp2_with fail
  go_ret
  exact mayP_no HNO.out (by go_grown)
 have g2 : (vote : Int) ≤ 4611686018427387903 := by omega
 have HD := hI_ hD; clear hD
 have HN := hI_ hn; clear hn
 have B0 : Below w.heap.size w (w.alloc (.cells #[.int .u64 term, .int .u64 vote, .int .u64 base, .int .u64 bt, .string snap, .slice a n c] 30)) := (Below.refl _ _).alloc (Nat.le_refl _) _
 have hS := Sc.new w term vote base bt snap a n c
 have hE0 := hE.later B0
 clear hE
 by_cases h3 : baseOk base bt snap
 case neg =>
  have HNO := hI_ (show ¬ stOk term vote base bt snap L from fun h => h3 (HI.out.1 h).2.2.1)
  have H3 := hI_ h3
  clear h3 HI hS hE0 B0
  go_enter Tryz.func57, Tryz.ntmps57
  go_wp2_with fail
  refine (mayBase_any _ _ _ _ _ _ hs _).mono ?_
  rintro e w1 ⟨⟨b, rfl, hb⟩, hb1⟩
  obtain rfl : b = false := by
   cases b with
   | false => rfl
   | true => exact absurd (hb.1 rfl) H3.out
  have B1 : Below w.heap.size w w1 := ((Below.refl _ w).alloc (Nat.le_refl _) _).trans (hb1.mono (by simp))
  clear hb hb1
  go_wp2_with fail
  go_ret
  exact mayP_no HNO.out B1
 have hbase : base ≤ 1099511627776 := h3.2.1
 by_cases h4 : entsOk base L
 case neg =>
  have HNO := hI_ (show ¬ stOk term vote base bt snap L from fun h => h4 (HI.out.1 h).2.2.2.1)
  have H3 := hI_ h3
  have H4 := hI_ h4
  have HS := hI_ hS
  have HE := hI_ hE0
  have HB := hI_ B0
  clear h3 h4 HI hS hE0 B0
  go_enter Tryz.func57, Tryz.ntmps57
  go_wp2_with fail
  refine (mayBase_any _ _ _ _ _ _ hs _).mono ?_
  rintro e w1 ⟨⟨b, rfl, hb⟩, hb1⟩
  obtain rfl : b = true := hb.2 H3.out
  have hE1 := HE.out.later hb1
  have B1 := HB.out.trans (hb1.mono HB.out.size)
  obtain ⟨x0, x1, x2, x3, x4, x5, xl⟩ := HS.out.later hb1
  clear hb hb1
  go_wp2_with fail
  refine (mayEntries_any n c base bt snap a L HN.out hl hbase HD.out _ hE1).mono ?_
  rintro e w2 ⟨⟨b, rfl, hb⟩, hb2⟩
  obtain rfl : b = false := by
   cases b with
   | false => rfl
   | true => exact absurd (hb.1 rfl) H4.out
  have B2 := B1.trans (hb2.mono B1.size)
  clear hb hb2 hE1 B1 x0 x1 x2 x3 x4 x5 xl
  go_wp2_with fail
  go_ret
  exact mayP_no HNO.out B2
 have hfin : ∀ (b : Bool) (w' : World), (b = true ↔ termsOk term bt L) → Below w.heap.size w w' → MayP (stOk term vote base bt snap L) w (.returned (.bool b)) w' := fun b w' hb hB =>
  ⟨⟨b, rfl, by rw [hb, HI.out]; exact ⟨fun h => ⟨h1, h2, h3, h4, h⟩, fun h => h.2.2.2.2⟩⟩, hB⟩
 have HF := hI_ hfin
 have H3 := hI_ h3
 have H4 := hI_ h4
 have HS := hI_ hS
 have HE := hI_ hE0
 have HB := hI_ B0
 clear h3 h4 HI hS hE0 B0 hfin
 go_enter Tryz.func57, Tryz.ntmps57
 go_wp2_with fail
 refine (mayBase_any _ _ _ _ _ _ hs _).mono ?_
 rintro e w1 ⟨⟨b, rfl, hb⟩, hb1⟩
 obtain rfl : b = true := hb.2 H3.out
 have hE1 := HE.out.later hb1
 have B1 := HB.out.trans (hb1.mono HB.out.size)
 have hS1 := HS.out.later hb1
 obtain ⟨x0, x1, x2, x3, x4, x5, xl⟩ := hS1
 clear hb hb1
 go_wp2_with fail
 refine (mayEntries_any n c base bt snap a L HN.out hl hbase HD.out _ hE1).mono ?_
 rintro e w2 ⟨⟨b, rfl, hb⟩, hb2⟩
 obtain rfl : b = true := hb.2 H4.out
 have hE2 := hE1.later hb2
 have B2 := B1.trans (hb2.mono B1.size)
 obtain ⟨y0, y1, y2, y3, y4, y5, yl⟩ := (Sc.mk x0 x1 x2 x3 x4 x5 xl).later hb2
 clear hb hb2 hE1 B1 x0 x1 x2 x3 x4 x5 xl
 go_wp2_with fail
 refine (mayTerms_any term vote base bt n c snap a L HN.out hl _ hE2).mono ?_
 rintro e w3 ⟨⟨b, rfl, hb⟩, hb3⟩
 have B3 := B2.trans (hb3.mono B2.size)
 have HFB := hI_ hb
 clear hb hb3 hE2 B2 y0 y1 y2 y3 y4 y5 yl
 go_wp2_with fail
 go_ret
 exact HF.out b _ HFB.out B3

theorem oth_ok {p : Pn} (_ : mayB p.c.V p.c.L = true) {y : Nat} (hy : y ∈ p.oth) : y ≠ p.id ∧ 1 ≤ y ∧ y ≤ 63 := by
 have h := hy
 unfold Pn.oth othersL at h
 rw [List.mem_filter, List.mem_range] at h
 obtain ⟨h1, h2⟩ := h
 simp only [Bool.and_eq_true, decide_eq_true_eq, Bool.not_eq_true', decide_eq_false_iff_not] at h2
 exact ⟨h2.2.1, h2.1, by omega⟩

def Ion (L : List Nat) : Prop := L.Nodup ∧ ∀ x ∈ L, x ≤ 63
theorem Ion.nil : Ion [] := ⟨List.nodup_nil, (fun x hx => by cases hx)⟩
theorem Ion.len {L : List Nat} (h : Ion L) : L.length ≤ 64 := by
 have := nodup_len L (List.range 64) h.1 (fun x hx => List.mem_range.2 (by have := h.2 x hx; omega))
 simpa using this
theorem setN_ids {id u : Nat} : ∀ {L : List Mk}, ∀ y ∈ setN id u L, y.id = id ∨ y ∈ L
 | [] => fun y hy => by simp only [setN, List.mem_singleton] at hy; subst hy; exact .inl rfl
 | x :: r => fun y hy => by
  unfold setN at hy
  split at hy
  · rcases List.mem_cons.1 hy with rfl | hy
    · exact .inl rfl
    · exact .inr (List.mem_cons_of_mem _ hy)
  · rcases List.mem_cons.1 hy with rfl | hy
    · exact .inr (List.mem_cons_self ..)
    · exact (setN_ids y hy).imp (fun h => h) (List.mem_cons_of_mem _)
theorem ion_set {id u : Nat} (hid : id ≤ 63) : ∀ {L : List Mk}, Ion (L.map (·.id)) → Ion ((setN id u L).map (·.id))
 | [], _ => ⟨by simp [setN], fun x hx => by simp only [setN, List.map_cons, List.map_nil, List.mem_singleton] at hx; subst hx; exact hid⟩
 | x :: r, h => by
  unfold setN
  split
  · rename_i e
    obtain ⟨h1, h2⟩ := h
    simp only [List.map_cons] at h1 h2 ⊢
    rw [e] at h1 h2
    exact ⟨h1, h2⟩
  · rename_i e
    obtain ⟨h1, h2⟩ := h
    simp only [List.map_cons, List.nodup_cons] at h1 h2
    obtain ⟨i1, i2⟩ := ion_set (u := u) hid (L := r) ⟨h1.2, fun y hy => h2 y (List.mem_cons_of_mem _ hy)⟩
    refine ⟨?_, fun y hy => ?_⟩
    · simp only [List.map_cons, List.nodup_cons]
      refine ⟨fun hm => ?_, i1⟩
      obtain ⟨y, hy, e2⟩ := List.mem_map.1 hm
      rcases setN_ids y hy with e3 | e3
      · exact e (e2.symm.trans e3)
      · exact h1.1 (e2 ▸ List.mem_map_of_mem e3)
    · rcases List.mem_cons.1 hy with rfl | hy
      · exact h2 _ (List.mem_cons_self ..)
      · exact i2 y hy
theorem ion_filter {L : List Mk} (f : Mk → Bool) (h : Ion (L.map (·.id))) : Ion ((L.filter f).map (·.id)) :=
 ⟨h.1.sublist ((List.filter_sublist).map _), fun x hx => h.2 x (((List.filter_sublist).map _).subset hx)⟩
theorem ion_fold {e : Nat} : ∀ (O : List Nat) (s : List Mk × List Mk), (∀ x ∈ O, x ≤ 63) → Ion (s.1.map (·.id)) → Ion (s.2.map (·.id)) → Ion ((O.foldl (markStep e) s).1.map (·.id)) ∧ Ion ((O.foldl (markStep e) s).2.map (·.id))
 | [], _, _, h1, h2 => ⟨h1, h2⟩
 | q :: O, s, ho, h1, h2 => by
  have hq := ho q (List.mem_cons_self ..)
  have hs : Ion ((markStep e s q).1.map (·.id)) ∧ Ion ((markStep e s q).2.map (·.id)) := by
   unfold markStep; split
   · exact ⟨h1, h2⟩
   · exact ⟨ion_set hq h1, ion_set hq h2⟩
  exact ion_fold O (markStep e s q) (fun x hx => ho x (List.mem_cons_of_mem _ hx)) hs.1 hs.2
structure Il (g : Lg) : Prop where
 bt : g.bt < 18446744073709551616
 snap : g.snap.size ≤ 140737488351232
 len : g.L.length ≤ 1024
 top : g.base + g.L.length ≤ 1099511627776
 data : ∀ x ∈ g.L, x.t < 18446744073709551616 ∧ x.d.size ≤ 140737488351232
structure Iv (p : Pn) : Prop where
 id : 1 ≤ p.id ∧ p.id ≤ 63
 may : mayB p.c.V p.c.L = true
 term : p.term ≤ 4611686018427387903
 asks : p.role = 1 → p.term < 4611686018427387903
 vote : p.vote < 18446744073709551616
 g : Il p.g
 commit : p.commit < 18446744073709551616
 voices : Ion (p.voices.map (·.id))
 next : Ion (p.next.map (·.id))
 mat : Ion (p.mat.map (·.id))
 marks : ∀ x ∈ p.mat, x.n < 18446744073709551616
 nexts : ∀ x ∈ p.next, x.n < 18446744073709551616
theorem Iv.vlen {p : Pn} (h : Iv p) : p.voices.length ≤ 64 := by simpa using h.voices.len
theorem Iv.nlen {p : Pn} (h : Iv p) : p.next.length ≤ 64 := by simpa using h.next.len
theorem Iv.mlen {p : Pn} (h : Iv p) : p.mat.length ≤ 64 := by simpa using h.mat.len
theorem Iv.bd {p : Pn} (h : Iv p) : Bd p := by
 have h1 := h.vlen; have h2 := h.nlen; have h3 := h.mlen; have h4 := h.g.len; have h5 := h.g.top; have h6 := h.term; have h7 := h.id.2
 refine ⟨by omega, h.may, by omega, h.vote, by omega, h.g.bt, h.g.snap, by omega, h.g.data, h.commit, by omega, fun x hx => ?_, by omega, by omega, h.marks, h.nexts⟩
 have := h.voices.2 x.id (List.mem_map_of_mem hx)
 omega
theorem iv_follow {p : Pn} (h : Iv p) {t : Nat} (ht : t ≤ 4611686018427387903) : Iv (followP p t) :=
 ⟨h.id, h.may, by show (if p.term < t then t else p.term) ≤ _; have := h.term; split <;> assumption, fun e => by simp [followP] at e, by show (if p.term < t then 0 else p.vote) < _; have := h.vote; split <;> omega, h.g, h.commit, Ion.nil, Ion.nil, Ion.nil, (fun x hx => by cases hx), (fun x hx => by cases hx)⟩
theorem il_add {g : Lg} (h : Il g) {x : En} (hx : x.t < 18446744073709551616 ∧ x.d.size ≤ 140737488351232) (h0 : addE g x = 0) : Il (addG g x) := by
 unfold addG
 rw [if_pos h0]
 unfold addE at h0
 split at h0
 · cases h0
 · rename_i h1
   refine ⟨h.bt, h.snap, by simp; omega, by simp; omega, fun y hy => ?_⟩
   rcases List.mem_append.1 hy with hy | hy
   · exact h.data y hy
   · rw [List.mem_singleton.1 hy]; exact hx
theorem iv_addP {p : Pn} (h : Iv p) {dt : ByteArray} (hd : dt.size ≤ 140737488351232) (h0 : addX p dt = 0) : Iv (addP p dt) := by
 have hb := bd_addP h.bd hd h0 (by have := h.mlen; omega)
 exact ⟨h.id, h.may, h.term, h.asks, h.vote, il_add h.g ⟨by have := h.term; show p.term < _; omega, hd⟩ h0, h.commit, h.voices, h.next, ion_set h.id.2 h.mat, hb.marks, h.nexts⟩
theorem iv_commit {p : Pn} (h : Iv p) : Iv (commitP p) := by
 have hb := bd_commit h.bd
 unfold commitP at hb ⊢
 split
 · rename_i e
   rw [if_pos e] at hb
   exact ⟨h.id, h.may, h.term, h.asks, h.vote, h.g, hb.commit, h.voices, h.next, h.mat, h.marks, h.nexts⟩
 · exact h
theorem iv_remark {p : Pn} (h : Iv p) : Iv (remarkP p) := by
 have hb := bd_remark h.bd (by have := h.nlen; omega) (by have := h.mlen; omega)
 obtain ⟨h1, h2⟩ := ion_fold (e := p.endI) p.oth (p.next.filter (keepM p), p.mat.filter (keepM p)) (fun x hx => (oth_ok h.may hx).2.2) (ion_filter _ h.next) (ion_filter _ h.mat)
 exact ⟨h.id, h.may, h.term, h.asks, h.vote, h.g, h.commit, h.voices, h1, h2, hb.marks, hb.nexts⟩
theorem iv_lead0 {p : Pn} (h : Iv p) : Iv (lead0 p) :=
 ⟨h.id, h.may, h.term, fun e => by simp [lead0] at e, h.vote, h.g, h.commit, Ion.nil, Ion.nil, Ion.nil, (fun x hx => by cases hx), (fun x hx => by cases hx)⟩
theorem iv_lead {p : Pn} (h : Iv p) : Iv (leadP p).1 := by
 rw [leadP_eq]; split
 · rename_i h0
   exact iv_commit (iv_remark (iv_addP (iv_lead0 h) (by decide) h0))
 · exact iv_follow (iv_lead0 h) h.term
theorem iv_countC {p : Pn} (h : Iv p) : Iv (countC p).1 := by
 unfold countC; split
 · exact iv_lead h
 · split
   · exact iv_follow h h.term
   · exact h
theorem ion_one {i : Nat} (hi : i ≤ 63) (y : Bool) : Ion (([⟨i, y⟩] : List Vo).map (·.id)) := ⟨by simp, fun x hx => by simp only [List.map_cons, List.map_nil, List.mem_singleton] at hx; subst hx; exact hi⟩
theorem iv_standQ {p : Pn} (h : Iv p) (ht : p.term < 4611686018427387903) : Iv (standQ p) :=
 ⟨h.id, h.may, by show (p.term + 1) % 18446744073709551616 ≤ _; omega, fun e => by simp [standQ] at e, by have := h.id.2; show p.id < _; omega, h.g, h.commit, ion_one h.id.2 true, h.next, h.mat, h.marks, h.nexts⟩
theorem iv_count {p : Pn} (h : Iv p) : Iv (countP p).1 := by
 unfold countP; split
 · split
   · rename_i e; exact iv_countC (iv_standQ h (h.asks e))
   · exact iv_lead h
 · split
   · exact iv_follow h h.term
   · exact h
theorem iv_askQ {p : Pn} (h : Iv p) (ht : p.term < 4611686018427387903) : Iv (askQ p) :=
 ⟨h.id, h.may, h.term, fun _ => ht, h.vote, h.g, h.commit, ion_one h.id.2 true, h.next, h.mat, h.marks, h.nexts⟩
theorem iv_ask {p : Pn} (h : Iv p) (ht : p.term < 4611686018427387903) : Iv (askP p).1 := iv_count (iv_askQ h ht)
theorem Iv.times {p q : Pn} (h : Iv p) (h1 : q.id = p.id) (h2 : q.c = p.c) (h3 : q.term = p.term) (h4 : q.vote = p.vote) (h5 : q.g = p.g) (h6 : q.role = 1 → p.role = 1) (h7 : q.commit < 18446744073709551616) (h8 : q.voices = p.voices) (h9 : q.next = p.next) (h10 : q.mat = p.mat) : Iv q :=
 ⟨by rw [h1]; exact h.id, by rw [h2]; exact h.may, by rw [h3]; exact h.term, fun e => by rw [h3]; exact h.asks (h6 e), by rw [h4]; exact h.vote, by rw [h5]; exact h.g, h7, by rw [h8]; exact h.voices, by rw [h9]; exact h.next, by rw [h10]; exact h.mat, by rw [h10]; exact h.marks, by rw [h9]; exact h.nexts⟩
theorem iv_beat {p : Pn} (h : Iv p) : Iv (beatP p).1 := by
 unfold beatP; split <;> exact h.times rfl rfl rfl rfl rfl id h.commit rfl rfl rfl
theorem iv_tick {p : Pn} (h : Iv p) (n : Nat) : Iv (tickP p n).1 := by
 have hl : Iv (lessH p) := h.times rfl rfl rfl rfl rfl id h.commit rfl rfl rfl
 unfold tickP; split
 · exact iv_beat hl
 · split
   · exact h.times rfl rfl rfl rfl rfl id h.commit rfl rfl rfl
   · split
     · exact h.times rfl rfl rfl rfl rfl id h.commit rfl rfl rfl
     · rename_i e
       exact iv_ask (p := { lessH p with span := 10 + (n % 10 : Nat), wait := 10 + (n % 10 : Nat) }) (h.times rfl rfl rfl rfl rfl id h.commit rfl rfl rfl) (by show p.term < _; omega)
theorem iv_new {id : Nat} {c : Cf} {t v : Nat} {g : Lg} (hid : 1 ≤ id ∧ id ≤ 63) (hc : mayB c.V c.L = true) (hs : stOk t v g.base g.bt g.snap g.L) : Iv (newP id c t v g) := by
 obtain ⟨h1, h2, h3, h4, h5, h6, h7, h8, h9⟩ := hs
 refine ⟨hid, hc, h1, fun e => by simp [newP] at e, by show v < _; omega, ⟨by show g.bt < _; omega, by show g.snap.size ≤ _; omega, h4, h5, fun x hx => ?_⟩, by show g.base < _; omega, Ion.nil, Ion.nil, Ion.nil, (fun x hx => by cases hx), (fun x hx => by cases hx)⟩
 obtain ⟨k, hk⟩ := List.mem_iff_getElem?.1 hx
 obtain ⟨i1, _, _, i4⟩ := h9 k x hk
 omega

theorem tAtZ_in {base bt k : Nat} {L : List En} {x : En} (h : L[k]? = some x) : tAt base bt L (base + k + 1) = (x.t, true) := by
 unfold tAt
 rw [if_neg (by omega), if_neg (by omega), show base + k + 1 - base - 1 = k by omega, h]
end Go.Proofs.YtdcpiaoadbbdoaaGreatDoor
