/- What a majority has: the program's Agreed. -/
import Derived.Test.YtoabpakichjieaaGx
import Derived.Test.YtoabpakichjieaaGm
import Derived.Test.YtoabpakichjieaaGd
import Derived.Laws.MakeOwn
namespace Go.Proofs.Ytoabpakichjieaa
open Go.RowKit

/-- The voters' numbers. -/
def mks (V : List Nat) (L : List Mk) : List Nat := V.map fun v => (markN v L).1
/-- What a majority has. -/
def agL (D : List Nat) : Nat := ((descL D)[D.length / 2]?).getD 0
/-- The row while it is filled. -/
def rowK (D : List Nat) (k : Nat) : List Nat := D.take k ++ List.replicate (D.length - k) 0
theorem rowK_len (D : List Nat) (k : Nat) (hk : k ≤ D.length) : (rowK D k).length = D.length := by simp [rowK]; omega
theorem rowK_zero (D : List Nat) : rowK D 0 = List.replicate D.length 0 := by simp [rowK]
theorem rowK_all (D : List Nat) : rowK D D.length = D := by simp [rowK]
theorem rowK_at (D : List Nat) (k : Nat) (hk : k < D.length) : (rowK D k)[k]? = some 0 := by
  unfold rowK
  rw [List.getElem?_append_right (by simp; omega), List.length_take, Nat.min_eq_left (by omega), Nat.sub_self, List.getElem?_replicate, if_pos (by omega)]
theorem rowK_set (D : List Nat) (k x : Nat) (hx : D[k]? = some x) : (rowK D k).set k x = rowK D (k + 1) := by
  obtain ⟨hk, rfl⟩ := List.getElem?_eq_some_iff.1 hx
  unfold rowK
  rw [List.set_append, if_neg (by simp; omega), List.length_take, Nat.min_eq_left (by omega), Nat.sub_self, List.take_succ_eq_append_getElem hk, List.append_assoc]
  congr 1
  obtain ⟨m, hm⟩ : ∃ m, D.length - k = m + 1 := ⟨D.length - k - 1, by omega⟩
  rw [hm, show D.length - (k + 1) = m by omega, List.replicate_succ]; rfl
theorem usCells_set (L : List Nat) (k x : Nat) : (usCells L).set k (.int .u64 (x : Nat)) = usCells (L.set k x) := by simp [usCells, List.map_set]
theorem madeU : ∀ n : Nat, madeCells [Value.int .u64 0].toArray (n * 1) = (usCells (List.replicate n 0)).toArray := by
  intro n; rw [Nat.mul_one]
  apply Array.ext
  · rw [size_madeCells]; simp [usCells]
  · intro i h1 h2
    have e : (madeCells [Value.int .u64 0].toArray n)[i]? = some (.int .u64 0) := by
      have h3 : i < n := by rw [size_madeCells] at h1; exact h1
      simp [madeCells, h3, Nat.mod_one]
    rw [Array.getElem?_eq_getElem h1] at e
    rw [Option.some.inj e]; simp [usCells]
theorem mkU (n : Nat) (w : World) (hn : n * 8 ≤ 140737488355328) : (Instr.makeSlice 27 (.int .i64 n) (.int .i64 n)).run Try.prog w = .ok (.slice (some ⟨w.heap.size, 0, none⟩) n n) (w.alloc (.cells (usCells (List.replicate n 0)).toArray 22)) := by
  obtain ⟨i0, hi, hz0, hz1, hz2⟩ := info_parts infoU64
  have h := run_make (P := Try.prog) w 27 22 i0 (.int .u64 0) Try.underlying27 hi hz0 .i64 .i64 n n (by omega) (Int.le_refl _) (by rw [hz2]; omega) (by omega)
  rw [Int.toNat_natCast, hz1] at h
  rw [h, show (Value.int IntKind.u64 0).cells = [Value.int .u64 0].toArray from rfl, madeU]
theorem owns_later {B : Nat} {w w' : World} {e : TypeId} {size : Nat} {v : Value} {n : Nat} {xs : List Value} (h : w.ownsRow B e size v n xs) (hb : Below w.heap.size w w') : w'.ownsRow B e size v n xs := by
  refine h.kept ⟨hb.os, hb.tape, hb.output, hb.size, fun k hk _ => hb.block k hk⟩ (row := none) ?_
  rcases h1 : v.ownBlock with _ | g
  · exact .inl rfl
  · exact .inr (by simp)
/-- What Agreed answers. -/
def AgP (w : World) (x : Nat) (e : Ending) (w' : World) : Prop := e = .returned (.int .u64 (x : Nat)) ∧ Below w.heap.size w w'
set_option maxRecDepth 100000 in
set_option maxHeartbeats 4000000 in
theorem pAgreed_any (n c n2 c2 m d : Nat) (a a2 a3 : Option Addr) (V : List Nat) (L : List Mk) (hn : V.length = n) (hl : n * 8 ≤ 140737488351232) (hm : L.length = m) (hl2 : m ≤ 140737488351232) (w : World) (hV : Us w a V) (hM : Ms w a3 L) :
    Calls Try.prog 25 #[.agg #[.slice a n c, .slice a2 n2 c2], .slice a3 m d] w (AgP w (agL (mks V L))) := by
  have hl' : n ≤ 140737488351232 := by omega
  have HL := Lib.hid hl
  have HV := Lib.hid hV
  have HM := Lib.hid hM
  have HN := Lib.hid hn
  have HM2 := Lib.hid hm
  have hdl : (mks V L).length = n := by simp [mks, hn]
  have HDL := Lib.hid hdl
  have hA : Below w.heap.size w (w.alloc (.cells #[.slice a n c, .slice a2 n2 c2] 29)) := (Below.refl _ _).alloc (Nat.le_refl _) _
  have C0 := Cb.new (w := w) rfl (.slice a n c) (.slice a2 n2 c2) 29
  have es : (w.alloc (.cells #[.slice a n c, .slice a2 n2 c2] 29)).heap.size = w.heap.size + 1 := by simp
  by_cases h0 : n = 0
  · subst h0
    have HT := Lib.hid (show agL (mks V L) = 0 by unfold agL; rw [List.getElem?_eq_none (by rw [descL_len, hdl]; exact Nat.zero_le _)]; rfl)
    have HA := Lib.hid hA
    clear hl hV hM hn hm hdl hA C0 es
    go_enter Try.func25, Try.ntmps25
    go_wp2_with fail
    go_ret
    exact ⟨by rw [HT.out]; rfl, HA.out⟩
  have g0 : ((n : Int) == 0) = false := by simpa using h0
  have hmk := mkU n (w.alloc (.cells #[.slice a n c, .slice a2 n2 c2] 29)) (by omega)
  rw [es] at hmk
  have B1 : Below w.heap.size w ((w.alloc (.cells #[.slice a n c, .slice a2 n2 c2] 29)).alloc (.cells (usCells (List.replicate n 0)).toArray 22)) := hA.alloc (by simp) _
  have O1 := World.ownsRow_lit (base := w.heap.size + 1) (e := 22) (size := 1) (w.alloc (.cells #[.slice a n c, .slice a2 n2 c2] 29)) (usCells (List.replicate n 0)).toArray n (by rw [es]; exact Nat.le_refl _) (by unfold maxLen; omega) (by simp [usCells])
  rw [es] at O1
  have HO1 := Lib.hid (show ((w.alloc (.cells #[.slice a n c, .slice a2 n2 c2] 29)).alloc (.cells (usCells (List.replicate n 0)).toArray 22)).ownsRow (w.heap.size + 1) 22 1 (.slice (some ⟨w.heap.size + 1, 0, none⟩) n n) n (usCells (rowK (mks V L) 0)) from by rw [rowK_zero, hdl]; exact O1)
  have HMK := Lib.hid hmk
  have HB1 := Lib.hid B1
  have HC1 := Lib.hid (C0.past (.cells (usCells (List.replicate n 0)).toArray 22))
  have h1n : 0 < n := by omega
  clear hl hV hM hn hm hdl hA O1 B1 hmk h0 es
  obtain ⟨c0, c1, fz, lt⟩ := C0
  go_enter Try.func25, Try.ntmps25
  have hmk := HMK.out
  go_wp2_with fail
  clear hmk HMK c0 c1 fz lt
  generalize (w.alloc (.cells #[.slice a n c, .slice a2 n2 c2] 29)).alloc (.cells (usCells (List.replicate n 0)).toArray 22) = W at *
  obtain ⟨c0, c1, fz, lt⟩ := HC1.out
  go_wp2_with fail
  clear c0 c1 fz lt
  go_loopw [19] (fun i wr => ∃ k : Nat, k ≤ n ∧ i = .int .i64 k ∧ wr.ownsRow (w.heap.size + 1) 22 1 (.slice (some ⟨w.heap.size + 1, 0, none⟩) n n) n (usCells (rowK (mks V L) k)) ∧ w.heap.size + 1 < wr.heap.size ∧ Cb wr w.heap.size (.slice a n c) (.slice a2 n2 c2) ∧ Below w.heap.size w wr) (fun i _ => n - (intOf i).toNat)
  case atStart => exact ⟨0, Nat.zero_le _, rfl, HO1.out, (HO1.out.lt (w.heap.size + 1) rfl).2, HC1.out, HB1.out⟩
  case round =>
    obtain ⟨k, hk, rfl, hown, hsz, hC, hB⟩ := hrel
    have HC := Lib.hid hC
    clear hC
    by_cases hlt : k < n
    · obtain ⟨x, hx⟩ : ∃ x, V[k]? = some x := ⟨_, List.getElem?_eq_getElem (by rw [HN.out]; exact hlt)⟩
      have i0 : (0 : Int) ≤ (k : Int) := by omega
      have i1 : (k : Int) < (n : Int) := by omega
      obtain ⟨b, off, rfl, hb, p0⟩ := HV.out.later hB k x hx
      obtain ⟨p, hp⟩ : ∃ p, markN x L = p := ⟨_, rfl⟩
      have hset := rowK_set (mks V L) k p.1 (by simp [mks, hx, hp])
      have HP := Lib.hid hp
      have HS := Lib.hid hset
      have HO := Lib.hid hown
      have HB := Lib.hid hB
      clear hx hp hset hown hB
      go_wp2_with fail
      refine (pMark_any x m d a3 L HM2.out hl2 _ (HM.out.later HB.out)).mono ?_
      rintro e w2 ⟨rfl, hb2⟩
      rw [HP.out]
      have hown2 := owns_later HO.out hb2
      have q0 : w2.cell? ⟨w.heap.size + 1, k, none⟩ = some (.int .u64 0) := by
        rw [hown2.cellAt k (by omega), usCells_at _ _ _ (rowK_at (mks V L) k (by rw [HDL.out]; exact hlt))]; rfl
      have qz : w2.frozen? ⟨w.heap.size + 1, k, none⟩ = false := hown2.frozenAt k
      have hst := (hown2.stored k (.int .u64 (p.1 : Nat))).1
      rw [usCells_set, HS.out] at hst
      have hsz2 : w.heap.size + 1 < w2.heap.size := Nat.lt_of_lt_of_le hsz hb2.size
      have HR := Lib.hid (And.intro hst (And.intro (show w.heap.size + 1 < (w2.setCell ⟨w.heap.size + 1, k, none⟩ (.int .u64 (p.1 : Nat))).heap.size by simpa using hsz2) (And.intro ((HC.out.later hb2).far (y := w.heap.size + 1) (by omega) k (.int .u64 (p.1 : Nat))) (show Below w.heap.size w (w2.setCell ⟨w.heap.size + 1, k, none⟩ (.int .u64 (p.1 : Nat))) from (HB.out.trans (hb2.mono HB.out.size)).setCell (Nat.le_succ _) _))))
      clear hown2 hst hb2
      go_wp2_with fail
      go_roundw
      case rel => exact ⟨k + 1, by omega, by go_num, HR.out.1, HR.out.2.1, HR.out.2.2.1, HR.out.2.2.2⟩
      case measure => simp [intOf]; omega
    · have hkn : k = n := by omega
      subst hkn
      have hown' : wr.ownsRow (w.heap.size + 1) 22 1 (.slice (some ⟨w.heap.size + 1, 0, none⟩) k k) k (usCells (mks V L)) := by
        have h := hown; rw [← HDL.out, rowK_all] at h; rw [← HDL.out]; exact h
      have HO := Lib.hid hown'
      have HB := Lib.hid hB
      clear hown hown' hB hlt
      go_wp2_with fail
      refine (sort_any (w.heap.size + 1) (w.heap.size + 1) k (mks V L) HDL.out hl' _ (Nat.le_refl _) HO.out hsz).mono ?_
      rintro e w2 ⟨rfl, hus, hb2⟩
      have HB2 := Lib.hid (HB.out.trans (hb2.mono (Nat.le_succ _)))
      have HU := Lib.hid hus
      obtain ⟨c0, c1, fz, lt⟩ := HC.out.under (Nat.lt_succ_self _) hb2
      clear hb2 hus
      go_wp2_with fail
      refine (pNeed_any k c n2 c2 a a2 hl' _).mono ?_
      rintro e w3 ⟨rfl, hb3⟩
      obtain ⟨s, hs⟩ : ∃ s, (descL (mks V L))[k / 2]? = some s := ⟨_, List.getElem?_eq_getElem (by rw [descL_len, HDL.out]; omega)⟩
      obtain ⟨b', off', e', hb', p0⟩ := HU.out.later hb3 (k / 2) s hs
      cases e'
      rw [Nat.zero_add] at p0
      have HT := Lib.hid (show agL (mks V L) = s by unfold agL; rw [HDL.out, hs]; rfl)
      have HB3 := Lib.hid (HB2.out.trans (hb3.mono HB2.out.size))
      obtain ⟨q, hq⟩ : ∃ q, k / 2 = q := ⟨_, rfl⟩
      rw [hq] at p0 hs ⊢
      have j0 : (0 : Int) ≤ (q : Int) := by omega
      have j1 : (q : Int) < (k : Int) := by omega
      have HQ := Lib.hid hq
      clear hb3 c0 c1 hs hq
      go_wp2_with fail
      go_ret
      exact ⟨by rw [HT.out]; rfl, HB3.out⟩
end Go.Proofs.Ytoabpakichjieaa
