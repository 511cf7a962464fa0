/- The program's May: mayBase, mayEntries, mayTerms. -/
import Derived.Test.YtjbhnkigbobhiaaDoorMa
import Derived.Outline
namespace Go.Proofs.YtjbhnkigbobhiaaDoor
open Go.RowKit

theorem plast_any (a : Option Addr) (n c base bt : Nat) (snap : ByteArray) (w : World) (hb : base ≤ 1099511627776) (hn : n ≤ 1048576) :
    Calls Tryd.prog 51 #[.agg #[.int .u64 base, .int .u64 bt, .string snap, .slice a n c]] w fun e w' => e = .returned (.int .u64 (base + n : Nat)) ∧ Below w.heap.size w w' := by
  go_enter Tryd.func51, Tryd.ntmps51
  go_wp2_with fail
  go_ret
  exact ⟨by simp, (Below.refl _ _).alloc (Nat.le_refl _) _⟩
theorem mayBase_no0 (a : Option Addr) (n c base bt : Nat) (snap : ByteArray) (_ : snap.size ≤ 140737488351232) (w : World) (hb : base = 0) (h : ¬ bt = 0 ∨ ¬ snap.size = 0) :
    Calls Tryd.prog 48 #[.agg #[.int .u64 base, .int .u64 bt, .string snap, .slice a n c]] w fun e w' => e = .returned (.bool false) ∧ Below w.heap.size w w' := by
  have g1 : ((base : Int) == 0) = true := by simp [hb]
  by_cases hbt : bt = 0
  · have hs0 := nonempty_of (h.resolve_left (fun f => f hbt))
    have g2 : ((bt : Int) != 0) = false := by simp [hbt]
    obtain ⟨q1, q2, q3⟩ := hs0
    have q4 : (snap.toList != []) = true := by simp [q3]
    clear hb h hbt
    go_enter Tryd.func48, Tryd.ntmps48
    go_wp2_with fail
    go_ret
    exact ⟨rfl, by go_grown⟩
  · have g2 : ((bt : Int) != 0) = true := by simp [hbt]
    clear hb h hbt
    go_enter Tryd.func48, Tryd.ntmps48
    go_wp2_with fail
    go_ret
    exact ⟨rfl, by go_grown⟩
theorem mayBase_rest (a : Option Addr) (n c base bt : Nat) (snap : ByteArray) (hs : snap.size ≤ 140737488351232) (w : World) (h : base = 0 → bt = 0 ∧ snap.size = 0) :
    Calls Tryd.prog 48 #[.agg #[.int .u64 base, .int .u64 bt, .string snap, .slice a n c]] w (MayP (baseOk base bt snap) w) := by
  by_cases hb : base = 0
  · obtain ⟨h1, h2⟩ := h hb
    have g1 : ((base : Int) == 0) = true := by simp [hb]
    have g2 : ((bt : Int) != 0) = false := by simp [h1]
    have g3 : (base : Int) ≤ 1099511627776 := by omega
    have g4 : (snap.size : Int) ≤ 4096 := by omega
    have e := empty_of h2
    have g5 : snap.toList = [] := by rw [e]; simp [ByteArray.toList_eq]
    have g6 : snap.toList.isEmpty = true := by rw [g5]; rfl
    have HG := Lib.hid (show baseOk base bt snap from ⟨h, by omega, by omega⟩)
    clear hb h h1 h2 e
    go_enter Tryd.func48, Tryd.ntmps48
    go_wp2_with fail
    go_ret
    exact mayP_yes HG.out (by go_grown)
  · have g1 : ((base : Int) == 0) = false := by simp [hb]
    by_cases h3 : base ≤ 1099511627776
    · have g3 : (base : Int) ≤ 1099511627776 := by omega
      by_cases h4 : snap.size ≤ 4096
      · have g4 : (snap.size : Int) ≤ 4096 := by omega
        have HG := Lib.hid (show baseOk base bt snap from ⟨h, by omega, by omega⟩)
        clear hb h h3 h4
        go_enter Tryd.func48, Tryd.ntmps48
        go_wp2_with fail
        go_ret
        exact mayP_yes HG.out (by go_grown)
      · have g4 : ¬ (snap.size : Int) ≤ 4096 := by omega
        have HG := Lib.hid (show ¬ baseOk base bt snap from fun k => h4 k.2.2)
        clear hb h h3 h4
        go_enter Tryd.func48, Tryd.ntmps48
        go_wp2_with fail
        go_ret
        exact mayP_no HG.out (by go_grown)
    · have g3 : ¬ (base : Int) ≤ 1099511627776 := by omega
      have HG := Lib.hid (show ¬ baseOk base bt snap from fun k => h3 k.2.1)
      clear hb h h3
      go_enter Tryd.func48, Tryd.ntmps48
      go_wp2_with fail
      go_ret
      exact mayP_no HG.out (by go_grown)
theorem mayBase_any (a : Option Addr) (n c base bt : Nat) (snap : ByteArray) (hs : snap.size ≤ 140737488351232) (w : World) :
    Calls Tryd.prog 48 #[.agg #[.int .u64 base, .int .u64 bt, .string snap, .slice a n c]] w (MayP (baseOk base bt snap) w) := by
  by_cases h : base = 0 → bt = 0 ∧ snap.size = 0
  · exact mayBase_rest a n c base bt snap hs w h
  · have hb : base = 0 := Classical.byContradiction fun k => h fun k2 => absurd k2 k
    have h2 : ¬ bt = 0 ∨ ¬ snap.size = 0 := by
      by_cases k : bt = 0
      · exact .inr fun k2 => h fun _ => ⟨k, k2⟩
      · exact .inl k
    refine (mayBase_no0 a n c base bt snap hs w hb h2).mono ?_
    rintro e w' ⟨rfl, hb'⟩
    exact mayP_no (fun k => h k.1) hb'
set_option maxHeartbeats 4000000 in
theorem mayEntries_any (n c base bt : Nat) (snap : ByteArray) (a : Option Addr) (L : List En) (hn : L.length = n) (hl : n ≤ 140737488351232) (hbase : base ≤ 1099511627776) (hD : ∀ x ∈ L, x.d.size ≤ 140737488351232) (w : World) (hE : Ents w a L) :
    Calls Tryd.prog 49 #[.agg #[.int .u64 base, .int .u64 bt, .string snap, .slice a n c]] w (MayP (entsOk base L) w) := by
  have HN := Lib.hid hn; clear hn
  by_cases h1 : 1024 < n
  · have g1 : (1024 : Int) < (n : Int) := by omega
    have HNO := Lib.hid (show ¬ entsOk base L from fun h => by have := h.1; have := HN.out; omega)
    clear h1 hE
    go_enter Tryd.func49, Tryd.ntmps49
    go_wp2_with fail
    go_ret
    exact mayP_no HNO.out (by go_grown)
  have g1 : ¬ (1024 : Int) < (n : Int) := by omega
  have HD := Lib.hid hD; clear hD
  obtain ⟨q, hq⟩ : ∃ q, base + n = q := ⟨_, rfl⟩
  have HQ := Lib.hid hq
  by_cases h2 : 1099511627776 < q
  · have g2 : (1099511627776 : Int) < (q : Int) := by omega
    have HNO := Lib.hid (show ¬ entsOk base L from fun h => by have := h.2.1; have := HN.out; omega)
    clear hq hE
    go_enter Tryd.func49, Tryd.ntmps49
    go_wp2_with fail
    refine (plast_any _ _ _ _ _ _ _ (by omega) (by omega)).mono ?_
    rintro e w2 ⟨rfl, hb2⟩
    rw [HQ.out]
    have B2 : Below w.heap.size w w2 := ((Below.refl _ w).alloc (Nat.le_refl _) _).trans (hb2.mono (by simp))
    clear hb2
    go_wp2_with fail
    go_ret
    exact mayP_no HNO.out B2
  have g2 : ¬ (1099511627776 : Int) < (q : Int) := by omega
  clear hq
  go_enter Tryd.func49, Tryd.ntmps49
  go_wp2_with fail
  refine (plast_any _ _ _ _ _ _ _ (by omega) (by omega)).mono ?_
  rintro e w2 ⟨rfl, hb2⟩
  rw [HQ.out]
  have x3 : w2.cell? ⟨w.heap.size, 3, none⟩ = some (.slice a n c) := (hb2.cell (p := ⟨w.heap.size, 3, none⟩) (by simp)).trans (by simp [go_sem])
  have hE2 := (hE.later ((Below.refl _ w).alloc (Nat.le_refl _) (.cells #[.int .u64 base, .int .u64 bt, .string snap, .slice a n c] 34))).later hb2
  have B2 : Below w.heap.size w w2 := ((Below.refl _ w).alloc (Nat.le_refl _) _).trans (hb2.mono (by simp))
  clear hb2 hE
  go_wp2_with fail
  go_loopw [17] (fun i wr => ∃ k : Nat, k ≤ n ∧ i = .int .i64 k ∧ (∀ j x, j < k → L[j]? = some x → x.d.size ≤ 4096) ∧ Below w2.heap.size w2 wr) (fun i _ => n - (intOf i).toNat)
  case atStart => exact ⟨0, Nat.zero_le _, rfl, fun j x hj => by omega, Below.refl _ _⟩
  case round =>
    obtain ⟨k, hk, rfl, hok, B⟩ := hrel
    have HOK := Lib.hid hok; clear hok
    by_cases hlt : k < n
    · have hkl : k < L.length := by have := HN.out; omega
      obtain ⟨x, hx⟩ : ∃ x, L[k]? = some x := ⟨_, List.getElem?_eq_getElem hkl⟩
      have hxs : x.d.size ≤ 140737488351232 := HD.out x (List.mem_of_getElem? hx)
      obtain ⟨b, off, rfl, hbb, p0, p1⟩ := (hE2.later B) k x hx
      have i0 : (0 : Int) ≤ (k : Int) := by omega
      have i1 : (k : Int) < (n : Int) := by omega
      have B3 : Below w2.heap.size w2 (wr.alloc (.cells #[.int .u64 x.t, .string x.d] 65)) := B.alloc B.size _
      by_cases hbig : x.d.size ≤ 4096
      · have g3 : ¬ (4096 : Int) < (x.d.size : Int) := by omega
        have hok2 : ∀ j y, j < k + 1 → L[j]? = some y → y.d.size ≤ 4096 := fun j y hj hy => by
          by_cases e : j = k
          · subst e; rw [hx] at hy; cases hy; exact hbig
          · exact HOK.out j y (by omega) hy
        have HO2 := Lib.hid hok2
        clear hx hok2 hkl hbig
        go_wp2_with fail
        go_roundw
        case rel => exact ⟨k + 1, by omega, by go_num, HO2.out, B3⟩
        case measure => simp [intOf]; omega
      · have g3 : (4096 : Int) < (x.d.size : Int) := by omega
        have HNO := Lib.hid (show ¬ entsOk base L from fun h => hbig (h.2.2 x (List.mem_of_getElem? hx)))
        clear hx hkl hbig
        go_wp2_with fail
        go_ret
        exact mayP_no HNO.out (B2.trans (B3.mono B2.size))
    · obtain rfl : k = n := by omega
      have hyes : entsOk base L := ⟨by have := HN.out; omega, by have := HN.out; have := HQ.out; omega, fun x hx => by
        obtain ⟨j, hj, rfl⟩ := List.mem_iff_getElem.1 hx
        exact HOK.out j _ (by have := HN.out; omega) (List.getElem?_eq_getElem hj)⟩
      have HY := Lib.hid hyes
      clear hyes
      go_wp2_with fail
      go_ret
      exact mayP_yes HY.out (B2.trans (B.mono B2.size))
set_option maxHeartbeats 4000000 in
theorem mayTerms_any (term vote base bt n c : Nat) (snap : ByteArray) (a : Option Addr) (L : List En) (hn : L.length = n) (hl : n ≤ 140737488351232) (w : World) (hE : Ents w a L) :
    Calls Tryd.prog 50 #[.agg #[.int .u64 term, .int .u64 vote, .int .u64 base, .int .u64 bt, .string snap, .slice a n c]] w (MayP (termsOk term bt L) w) := by
  have HN := Lib.hid hn; clear hn
  go_enter Tryd.func50, Tryd.ntmps50
  go_wp2_with fail
  generalize hW : w.alloc (.cells #[.int .u64 term, .int .u64 vote, .int .u64 base, .int .u64 bt, .string snap, .slice a n c] 36) = W
  have x0 : W.cell? ⟨w.heap.size, 0, none⟩ = some (.int .u64 term) := by subst hW; simp [go_sem]
  have hz : w.heap.size < W.heap.size := by subst hW; simp
  have hB : Below w.heap.size w W := by subst hW; go_grown
  have hE2 := hE.later hB
  clear hW hE
  go_loopw [3, 13] (fun h i wr => ∃ k : Nat, k ≤ n ∧ i = .int .i64 k ∧ h = .int .u64 (hiT bt L k : Nat) ∧ ascT bt L k ∧ Below W.heap.size W wr) (fun _ i _ => n - (intOf i).toNat)
  case atStart => exact ⟨0, Nat.zero_le _, rfl, rfl, fun j hj => by omega, Below.refl _ _⟩
  case round =>
    obtain ⟨k, hk, rfl, rfl, hasc, B⟩ := hrel
    have X0 := (B.cell (p := ⟨w.heap.size, 0, none⟩) hz).trans x0
    by_cases hlt : k < n
    · have hkl : k < L.length := by have := HN.out; omega
      obtain ⟨x, hx⟩ : ∃ x, L[k]? = some x := ⟨_, List.getElem?_eq_getElem hkl⟩
      obtain ⟨b, off, rfl, hbb, p0, p1⟩ := (hE2.later B) k x hx
      have hs := hiT_succ (bt := bt) hx
      have i0 : (0 : Int) ≤ (k : Int) := by omega
      have i1 : (k : Int) < (n : Int) := by omega
      have B3 : Below W.heap.size W (wr.alloc (.cells #[.int .u64 x.t, .string x.d] 65)) := B.alloc B.size _
      by_cases hlow : x.t < hiT bt L k
      · have g1 : (x.t : Int) < (hiT bt L k : Nat) := by omega
        have hno : ¬ termsOk term bt L := fun h => by have := h.1 k hkl; omega
        have HNO := Lib.hid hno
        clear hx hs hno hlow hkl
        go_wp2_with fail
        go_ret
        exact mayP_no HNO.out (hB.trans (B3.mono hB.size))
      · have g1 : ¬ (x.t : Int) < (hiT bt L k : Nat) := by omega
        have hasc2 : ascT bt L (k + 1) := fun j hj => by
          by_cases e : j = k
          · subst e; omega
          · exact hasc j (by omega)
        have HA := Lib.hid hasc2
        have HS := Lib.hid hs
        clear hx hs hasc hasc2 hlow hkl
        go_wp2_with fail
        go_roundw
        case rel => exact ⟨k + 1, by omega, by go_num, by rw [HS.out], HA.out, B3⟩
        case measure => simp [intOf]; omega
    · obtain rfl : k = n := by omega
      have hlen := HN.out
      by_cases hle : hiT bt L k ≤ term
      · have g1 : (hiT bt L k : Nat) ≤ (term : Int) := by omega
        have hyes : termsOk term bt L := ⟨by rw [hlen]; exact hasc, by rw [hlen]; exact hle⟩
        have HY := Lib.hid hyes
        clear hyes hasc hlen hle
        go_wp2_with fail
        go_ret
        exact mayP_yes HY.out (hB.trans (B.mono hB.size))
      · have g1 : ¬ (hiT bt L k : Nat) ≤ (term : Int) := by omega
        have hno : ¬ termsOk term bt L := fun h => by have := h.2; rw [hlen] at this; exact hle this
        have HNO := Lib.hid hno
        clear hno hasc hlen hle
        go_wp2_with fail
        go_ret
        exact mayP_no HNO.out (hB.trans (B.mono hB.size))
end Go.Proofs.YtjbhnkigbobhiaaDoor
