/- Marks: Mark and Set: the program's and the document's. -/
import Derived.Test.YtdcpiaoadbbdoaaGreatDoorRb
import Derived.Test.YtdcpiaoadbbdoaaGreatDoorGe
import Derived.Shelf.SlSortCmp.NoneTotal
import Derived.Shelf.SlicesE.Clone
import Derived.Shelf.SlicesE.DeleteFunc
import Derived.Test.YtdcpiaoadbbdoaaGreatDoorProg
import Derived.Deep.RegionHeld3
import Derived.Test.YtdcpiaoadbbdoaaGreatDoorJd
import Derived.Laws.MakeOwn
import Derived.Test.YtdcpiaoadbbdoaaGreatDoorLi
import Derived.Test.YtdcpiaoadbbdoaaGreatDoorJe
import Derived.Test.YtdcpiaoadbbdoaaGreatDoorWk
import Derived.Test.YtdcpiaoadbbdoaaGreatDoorWb
import Derived.Test.YtdcpiaoadbbdoaaGreatDoorLn
import Derived.Lib.Strings
set_option maxRecDepth 100000
set_option maxHeartbeats 16000000
namespace Go.Proofs.YtdcpiaoadbbdoaaGreatDoor
open Go.RowKit

def PlP (id : Nat) (L : List Mk) (k : Int) : Prop := (k = -1 ∧ ∀ (j : Nat) (y : Mk), L[j]? = some y → y.id ≠ id) ∨ ∃ (j : Nat) (x : Mk), k = (j : Int) ∧ L[j]? = some x ∧ x.id = id ∧ ∀ i, i < j → ∀ y : Mk, L[i]? = some y → y.id ≠ id
def setN (id v : Nat) : List Mk → List Mk
 | [] => [⟨id, v⟩]
 | x :: r => if x.id = id then ⟨id, v⟩ :: r else x :: setN id v r
theorem marks_no {id : Nat} : ∀ {L : List Mk}, (∀ (j : Nat) (y : Mk), L[j]? = some y → y.id ≠ id) → markN id L = (0, false) ∧ ∀ v, setN id v L = L ++ [⟨id, v⟩]
 | [], _ => ⟨rfl, fun _ => rfl⟩
 | x :: r, h => by
  obtain ⟨h1, h2⟩ := marks_no (L := r) (id := id) fun j y hy => h (j + 1) y (by simpa using hy)
  have h0 : x.id ≠ id := h 0 x (by simp)
  exact ⟨by rw [markN, if_neg h0]; exact h1, fun v => by rw [setN, if_neg h0, h2 v]; rfl⟩
theorem marks_yes {id : Nat} : ∀ {j : Nat} {L : List Mk} {x : Mk}, L[j]? = some x → x.id = id → (∀ i, i < j → ∀ y : Mk, L[i]? = some y → y.id ≠ id) → markN id L = (x.n, true) ∧ ∀ v, setN id v L = L.set j ⟨id, v⟩
 | _, [], _, h, _, _ => by simp at h
 | 0, y :: r, x, h, h1, _ => by
  obtain rfl : y = x := by simpa using h
  exact ⟨by rw [markN, if_pos h1], fun v => by rw [setN, if_pos h1]; rfl⟩
 | j + 1, y :: r, x, h, h1, h2 => by
  obtain ⟨h3, h4⟩ := marks_yes (j := j) (L := r) (x := x) (by simpa using h) h1 fun i hi z hz => h2 (i + 1) (by omega) z (by simpa using hz)
  have h0 : y.id ≠ id := h2 0 (by omega) y (by simp)
  exact ⟨by rw [markN, if_neg h0]; exact h3, fun v => by rw [setN, if_neg h0, h4 v]; rfl⟩
theorem place1_any (i n h id : Nat) (w : World) (H : Nb w h id) :
 Calls Tryz.prog 164 #[.agg #[.int .u64 i, .int .u64 n], .pointer (some ⟨h, 0, none⟩)] w fun e w' => e = .returned (.bool (decide (i = id))) ∧ Below w.heap.size w w' := by
 have H1 := H.later (w' := w.alloc (.cells #[.int .u64 i, .int .u64 n] 100)) ((Below.refl _ _).alloc (Nat.le_refl _) _)
 have B1 := hI_ (show Below w.heap.size w (w.alloc (.cells #[.int .u64 i, .int .u64 n] 100)) from (Below.refl _ _).alloc (Nat.le_refl _) _)
 obtain ⟨c, fz, lt⟩ := H1
 clear H
 by_cases he : i = id
 · subst he
   go_enter Tryz.func164, Tryz.ntmps164
   go_wp2_with fail
   go_ret
   exact ⟨by simp, B1.out⟩
 · have g : ((i : Int) == (id : Int)) = false := by simp; omega
   go_enter Tryz.func164, Tryz.ntmps164
   go_wp2_with fail
   go_ret
   exact ⟨by simp [he], B1.out⟩
def IxP (w : World) (id : Nat) (L : List Mk) (e : Ending) (w' : World) : Prop := ∃ k : Int, e = .returned (.int .i64 k) ∧ PlP id L k ∧ Below w.heap.size w w'
theorem indexM_any (h id n c : Nat) (a : Option Addr) (L : List Mk) (hn : L.length = n) (hl : n ≤ 140737488351232) (w : World) (H : Nb w h id) (hM : Ms w a L) :
 Calls Tryz.prog 138 #[.slice a n c, .func (.func 164) #[] #[.pointer (some ⟨h, 0, none⟩)]] w (IxP w id L) := by
 have HN := hI_ hn
 have HM := hI_ hM
 have HH := hI_ H
 have HW := hI_ (Below.refl w.heap.size w)
 clear hn hM H
 go_enter Tryz.func138, Tryz.ntmps138
 go_wp2_with fail
 go_loopw [8] (fun u wr => ∃ k : Nat, k ≤ n ∧ u = .int .i64 k ∧ (∀ i, i < k → ∀ y : Mk, L[i]? = some y → y.id ≠ id) ∧ Below w.heap.size w wr) (fun u _ => n - (intOf u).toNat)
 case atStart => exact ⟨0, Nat.zero_le _, rfl, fun i hi => absurd hi (Nat.not_lt_zero _), HW.out⟩
 case round =>
  obtain ⟨k, hk, rfl, hf, B⟩ := hrel
  have HFB := hI_ hf
  clear hf
  by_cases hlt : k < n
  · obtain ⟨x, hx⟩ : ∃ x, L[k]? = some x := ⟨_, List.getElem?_eq_getElem (by rw [HN.out]; exact hlt)⟩
    obtain ⟨b, off, rfl, hb, p0, p1⟩ := HM.out.later B k x hx
    have HNB := hI_ (HH.out.later B)
    have HBB := hI_ B
    have HX := hI_ hx
    have i0 : (0 : Int) ≤ (k : Int) := by omega
    have i1 : (k : Int) < (n : Int) := by omega
    clear hx B
    go_wp2_with fail
    refine (place1_any x.id x.n h id _ HNB.out).mono ?_
    rintro e w2 ⟨rfl, hb2⟩
    have B3 := HBB.out.trans (hb2.mono HBB.out.size)
    have HB3 := hI_ B3
    clear hb2 B3
    by_cases he : x.id = id
    · rw [decide_eq_true he]
      have HT := hI_ (show PlP id L k from Or.inr ⟨k, x, rfl, HX.out, he, HFB.out⟩)
      clear he
      go_wp2_with fail
      go_ret
      exact ⟨k, rfl, HT.out, HB3.out⟩
    · rw [decide_eq_false he]
      have HT := hI_ (show ∀ i, i < k + 1 → ∀ y : Mk, L[i]? = some y → y.id ≠ id from fun i hi y hy => by
       by_cases hik : i = k
       · subst hik; have := HX.out; rw [hy] at this; cases this; exact he
       · exact HFB.out i (by omega) y hy)
      clear he
      go_wp2_with fail
      go_roundw
      case rel => exact ⟨k + 1, by omega, by go_num, HT.out, HB3.out⟩
      case measure => simp [intOf]; omega
  · have HT := hI_ (show PlP id L (-1) from Or.inl ⟨rfl, fun j y hy => HFB.out j (by have := (List.getElem?_eq_some_iff.1 hy).1; have := HN.out; omega) y hy⟩)
    go_wp2_with fail
    go_ret
    exact ⟨-1, rfl, HT.out, B⟩
theorem place_any (id n c : Nat) (a : Option Addr) (L : List Mk) (hn : L.length = n) (hl : n ≤ 140737488351232) (w : World) (hM : Ms w a L) :
 Calls Tryz.prog 132 #[.slice a n c, .int .u64 id] w (IxP w id L) := by
 have B1 := hI_ (show Below w.heap.size w (w.alloc (.cells #[.int .u64 id] 22)) from (Below.refl _ _).alloc (Nat.le_refl _) _)
 have HN := hI_ (Nb.new (w := w) rfl id 22)
 have HM := hI_ (hM.later B1.out)
 clear hM
 go_enter Tryz.func132, Tryz.ntmps132
 go_wp2_with fail
 refine (indexM_any w.heap.size id n c a L hn hl _ HN.out HM.out).mono ?_
 rintro e w2 ⟨k, rfl, hk, hb2⟩
 have HK := hI_ hk
 have HB := hI_ (B1.out.trans (hb2.mono B1.out.size))
 clear hk hb2
 go_wp2_with fail
 go_ret
 exact ⟨k, rfl, HK.out, HB.out⟩
theorem pMark_any (id n c : Nat) (a : Option Addr) (L : List Mk) (hn : L.length = n) (hl : n ≤ 140737488351232) (w : World) (hM : Ms w a L) :
 Calls Tryz.prog 85 #[.slice a n c, .int .u64 id] w fun e w' => e = .returned (.tuple #[.int .u64 ((markN id L).1 : Nat), .bool (markN id L).2]) ∧ Below w.heap.size w w' := by
 have HN := hI_ hn
 have HM := hI_ hM
 clear hn hM
 obtain ⟨p, hp⟩ : ∃ p, markN id L = p := ⟨_, rfl⟩
 rw [hp]
 have HP := hI_ hp
 clear hp
 go_enter Tryz.func85, Tryz.ntmps85
 go_wp2_with fail
 refine (place_any id n c a L HN.out hl _ HM.out).mono ?_
 rintro e w2 ⟨k, rfl, hk, hb2⟩
 have HB := hI_ hb2
 rcases hk with ⟨rfl, hno⟩ | ⟨j, x, rfl, hx, he, hno⟩
 · obtain ⟨h1, _⟩ := marks_no hno
   obtain rfl : p = (0, false) := by rw [← HP.out, h1]
   clear h1 hno hb2
   go_wp2_with fail
   go_ret2
   exact ⟨rfl, HB.out⟩
 · obtain ⟨h1, _⟩ := marks_yes hx he hno
   obtain rfl : p = (x.n, true) := by rw [← HP.out, h1]
   have hj : j < n := by have := (List.getElem?_eq_some_iff.1 hx).1; have := HN.out; omega
   obtain ⟨b, off, rfl, hb, p0, p1⟩ := HM.out.later hb2 j x hx
   have i0 : (0 : Int) ≤ (j : Int) := by omega
   have i1 : (j : Int) < (n : Int) := by omega
   clear h1 hno hb2 hx he
   go_wp2_with fail
   go_ret2
   exact ⟨rfl, HB.out⟩

theorem msCells_set (L : List Mk) : ∀ (j : Nat) (x : Mk) (u : Nat), L[j]? = some x → (msCells L).set (j * 2 + 1) (.int .u64 (u : Nat)) = msCells (L.set j ⟨x.id, u⟩) := by
 induction L with
 | nil => intro j x u h; simp at h
 | cons y L ih =>
  intro j x u h
  cases j with
  | zero =>
   obtain rfl : y = x := by simpa using h
   simp [msCells, mkCells]
  | succ j =>
   have h2 := ih j x u (by simpa using h)
   have e : (j + 1) * 2 + 1 = (j * 2 + 1) + 1 + 1 := by omega
   rw [e]
   simp only [msCells, List.flatMap_cons, List.set_cons_succ] at h2 ⊢
   rw [← h2]
   simp [mkCells]
theorem CqM.at {B : Nat} {w : World} {v : Value} {L : List Mk} (h : CqM B w v L) {j : Nat} {x : Mk} (hx : L[j]? = some x) :
 ∃ g cap, v = .slice (some ⟨g, 0, none⟩) L.length cap ∧ B ≤ g ∧ g < w.heap.size ∧ w.cell? ⟨g, j * 2, none⟩ = some (.int .u64 (x.id : Nat)) ∧ w.cell? ⟨g, j * 2 + 1, none⟩ = some (.int .u64 (x.n : Nat)) ∧ w.frozen? ⟨g, j * 2 + 1, none⟩ = false ∧
  ∀ u : Nat, CqM B (w.setCell ⟨g, j * 2 + 1, none⟩ (.int .u64 u)) v (L.set j ⟨x.id, u⟩) := by
 have hj := (List.getElem?_eq_some_iff.1 hx).1
 rcases h with ⟨rfl, _⟩ | h
 · simp at hx
 · have h' := h
   rcases h.2 with ⟨_, h0⟩ | ⟨g, cap, cur, e1, hB, hg, hn, hm, _⟩
   · omega
   · subst e1
     have c0 := h'.cellAt (j * 2) (by omega)
     have c1 := h'.cellAt (j * 2 + 1) (by omega)
     have a0 := msCells_at L j x hx 0 (by omega)
     have a1 := msCells_at L j x hx 1 (by omega)
     rw [Nat.add_zero] at a0
     rw [a0] at c0; rw [a1] at c1
     refine ⟨g, cap, rfl, hB, lt_of_rowG hg, c0, c1, h'.frozenAt _, fun u => .inr ?_⟩
     have hs := (h'.stored (j * 2 + 1) (.int .u64 u)).1
     rw [msCells_set L j x u hx] at hs
     rw [List.length_set]; exact hs
theorem ms_one (w : World) (m : Nat) (hm : m = w.heap.size) (i n : Nat) (T : TypeId) : Ms (w.alloc (.cells #[.int .u64 i, .int .u64 n] T)) (some ⟨m, 0, none⟩) [⟨i, n⟩] := fun j x hx => by
 have hj := (List.getElem?_eq_some_iff.1 hx).1
 have h0 : j = 0 := by simpa using hj
 subst h0 hm
 simp at hx
 subst hx
 exact ⟨_, 0, rfl, by simp, by simp [go_sem], by simp [go_sem]⟩
def SetP (w : World) (M : List Mk) (e : Ending) (w' : World) : Prop := ∃ v', e = .returned v' ∧ CqM w.heap.size w' v' M ∧ Below w.heap.size w w'
theorem pSet_any (id u n c : Nat) (a : Option Addr) (L : List Mk) (hn : L.length = n) (hl : (n + 1) * 16 ≤ 140737488355328) (w : World) (hM : Ms w a L) :
 Calls Tryz.prog 78 #[.slice a n c, .int .u64 id, .int .u64 u] w (SetP w (setN id u L)) := by
 have HN := hI_ hn
 have HM := hI_ hM
 have HL := hI_ hl
 clear hn hM hl
 go_enter Tryz.func78, Tryz.ntmps78
 go_wp2_with fail
 refine (cloneM_any n c a L HN.out (by have := HL.out; omega) _ HM.out).mono ?_
 rintro e w1 ⟨v1, rfl, hc1, hb1⟩
 have HC := hI_ hc1
 have HB := hI_ hb1
 clear hc1 hb1
 go_wp2_with fail
 refine (place_any id n c a L HN.out (by have := HL.out; omega) _ (HM.out.later HB.out)).mono ?_
 rintro e w2 ⟨k, rfl, hk, hb2⟩
 have hc2 := HC.out.later hb2
 have HB2 := hI_ (HB.out.trans (hb2.mono HB.out.size))
 clear hb2
 rcases hk with ⟨rfl, hno⟩ | ⟨j, x, rfl, hx, he, hno⟩
 · obtain ⟨_, h1⟩ := marks_no hno
   obtain ⟨v', w', hr, hc, hb⟩ := appM w.heap.size (w2.alloc (.cells #[.int .u64 id, .int .u64 u] 100)) 32 v1 L (hc2.later ((Below.refl _ _).alloc (Nat.le_refl _) _)) (some ⟨w2.heap.size, 0, none⟩) 1 1 [⟨id, u⟩] rfl (ms_one _ _ rfl _ _ _) (by have := HN.out; have := HL.out; omega) (by have := HB2.out.size; simp; omega)
   have hBa : Below w.heap.size w (w2.alloc (.cells #[.int .u64 id, .int .u64 u] 100)) := HB2.out.alloc HB2.out.size _
   have HR := hI_ hr
   have HF := hI_ (show SetP w (setN id u L) (.returned v') w' from ⟨v', rfl, by rw [h1 u]; exact hc, hBa.trans hb⟩)
   clear hr hc hb hBa h1 hno hc2
   go_wp2_with (at_builtin; refine Lib.wpList_append_run _ rfl _ _ 32 32 rfl v1 (.slice (some ⟨w2.heap.size, 0, none⟩) 1 1) rfl rfl _ _ HR.out ?_)
   go_wp2_with fail
   go_ret
   exact HF.out
 · obtain ⟨_, h1⟩ := marks_yes hx he hno
   have hj : j < n := by have := (List.getElem?_eq_some_iff.1 hx).1; have := HN.out; omega
   obtain ⟨g, cap, rfl, hg1, hg2, p0, p1, pz, hst⟩ := hc2.at hx
   have i0 : (0 : Int) ≤ (j : Int) := by omega
   have i1 : (j : Int) < (n : Int) := by omega
   have HF := hI_ (show SetP w (setN id u L) (.returned (.slice (some ⟨g, 0, none⟩) n cap)) (w2.setCell ⟨g, j * 2 + 1, none⟩ (.int .u64 u)) from ⟨_, rfl, by rw [h1 u]; have h := hst u; rw [he, HN.out] at h; exact h, HB2.out.setCell hg1 _⟩)
   rw [HN.out]
   clear h1 hno hc2 hx he hst
   go_wp2_with fail
   go_ret
   exact HF.out
end Go.Proofs.YtdcpiaoadbbdoaaGreatDoor
/-
 DERIVED: THE SHELF's CONTRACTS AT THIS DUMP, IN PLAIN WORDS (tools/lay-plain.mjs out of 'YtdcpiaoadbbdoaaGreatDoorShelfRaw.lean', which tools/lay-shelf.mjs wrote): THE SAME DECLARATIONS UNDER THE SAME NAMES: 'import', 'namespace', 'open', 'def', 'theorem' AND NOTHING ELSE: no command of the shelf's: FOR A HAND-IN. Each laying: the table of numbers ('.._ren') and one theorem, a field a fact of the dump's own or the kernel's comparison; each contract: ONE APPLICATION.
-/
set_option maxRecDepth 100000
set_option maxHeartbeats 16000000
set_option maxRecDepth 100000
set_option maxHeartbeats 16000000
set_option maxRecDepth 100000
set_option maxHeartbeats 16000000
set_option maxRecDepth 100000
set_option maxHeartbeats 16000000
namespace Go.Proofs
open Go.Shelf
def Tryz.sortL_ren : Go.Shelf.Ren := ⟨fun | 6 => 165 | 15 => 172 | 14 => 192 | 28 => 202 | 29 => 203 | 20 => 207 | 21 => 208 | 22 => 209 | 23 => 210 | 24 => 211 | 25 => 212 | 26 => 213 | 27 => 214 | 46 => 221 | 47 => 216 | 48 => 217 | 49 => 222 | 50 => 223 | 57 => 225 | n => n, fun | 22 => 23 | 24 => 22 | 25 => 207 | 3 => 3 | 39 => 205 | 0 => 0 | 53 => 232 | 55 => 22 | 4 => 4 | 46 => 236 | 45 => 235 | 50 => 199 | 5 => 5 | 9 => 9 | 66 => 250 | 70 => 254 | 76 => 258 | 77 => 259 | n => n, fun | n => n⟩
theorem Tryz.sortL : Go.Proofs.SlLaysF.n6 Tryz.prog Tryz.sortL_ren := {
 mixed := by kernel_rfl
 f6 := ⟨Tryz.f165.name, by decide, Tryz.func165.trans (congrArg some (by kernel_rfl))⟩
 f14 := ⟨Tryz.f192.name, by decide, Tryz.func192.trans (congrArg some (by kernel_rfl))⟩
 f15 := Tryz.func172.trans (congrArg some (by kernel_rfl))
 f20 := ⟨Tryz.f207.name, by decide, Tryz.func207.trans (congrArg some (by kernel_rfl))⟩
 f21 := ⟨Tryz.f208.name, by decide, Tryz.func208.trans (congrArg some (by kernel_rfl))⟩
 f22 := ⟨Tryz.f209.name, by decide, Tryz.func209.trans (congrArg some (by kernel_rfl))⟩
 f23 := ⟨Tryz.f210.name, by decide, Tryz.func210.trans (congrArg some (by kernel_rfl))⟩
 f24 := ⟨Tryz.f211.name, by decide, Tryz.func211.trans (congrArg some (by kernel_rfl))⟩
 f25 := ⟨Tryz.f212.name, by decide, Tryz.func212.trans (congrArg some (by kernel_rfl))⟩
 f26 := ⟨Tryz.f213.name, by decide, Tryz.func213.trans (congrArg some (by kernel_rfl))⟩
 f27 := ⟨Tryz.f214.name, by decide, Tryz.func214.trans (congrArg some (by kernel_rfl))⟩
 f28 := Tryz.func202.trans (congrArg some (by kernel_rfl))
 f29 := Tryz.func203.trans (congrArg some (by kernel_rfl))
 f46 := ⟨Tryz.f221.name, by decide, Tryz.func221.trans (congrArg some (by kernel_rfl))⟩
 f47 := Tryz.func216.trans (congrArg some (by kernel_rfl))
 f48 := Tryz.func217.trans (congrArg some (by kernel_rfl))
 f49 := ⟨Tryz.f222.name, by decide, Tryz.func222.trans (congrArg some (by kernel_rfl))⟩
 f50 := ⟨Tryz.f223.name, by decide, Tryz.func223.trans (congrArg some (by kernel_rfl))⟩
 f57 := ⟨Tryz.f225.name, by decide, Tryz.func225.trans (congrArg some (by kernel_rfl))⟩
 t0 := Tryz.underlying0
 a0 := Tryz.isAgg0
 z0 := Tryz.sizeOf0
 v0 := Tryz.zeroValue0
 t3 := Tryz.underlying3
 a3 := Tryz.isAgg3
 z3 := Tryz.sizeOf3
 v3 := Tryz.zeroValue3
 t4 := Tryz.underlying4
 a4 := Tryz.isAgg4
 z4 := Tryz.sizeOf4
 v4 := Tryz.zeroValue4
 t5 := Tryz.underlying5
 a5 := Tryz.isAgg5
 z5 := Tryz.sizeOf5
 v5 := Tryz.zeroValue5
 t9 := Tryz.underlying9
 a9 := Tryz.isAgg9
 z9 := Tryz.sizeOf9
 v9 := Tryz.zeroValue9
 t22 := Tryz.underlying23
 a22 := Tryz.isAgg23
 z22 := Tryz.sizeOf23
 v22 := Tryz.zeroValue23
 a24 := Tryz.isAgg22
 z24 := Tryz.sizeOf22
 t25 := Tryz.underlying207
 a25 := Tryz.isAgg207
 z25 := Tryz.sizeOf207
 v25 := Tryz.zeroValue207
 t39 := Tryz.underlying205
 a39 := Tryz.isAgg205
 z39 := Tryz.sizeOf205
 v39 := Tryz.zeroValue205
 t45 := Tryz.underlying235
 a45 := Tryz.isAgg235
 z45 := Tryz.sizeOf235
 v45 := Tryz.zeroValue235
 t46 := Tryz.underlying236
 a46 := Tryz.isAgg236
 z46 := Tryz.sizeOf236
 v46 := Tryz.zeroValue236
 t50 := Tryz.underlying199
 a50 := Tryz.isAgg199
 z50 := Tryz.sizeOf199
 v50 := Tryz.zeroValue199
 t53 := Tryz.underlying232
 a53 := Tryz.isAgg232
 z53 := Tryz.sizeOf232
 v53 := Tryz.zeroValue232
 t55 := Tryz.underlying22
 a55 := Tryz.isAgg22
 z55 := Tryz.sizeOf22
 v55 := Tryz.zeroValue22
 t66 := Tryz.underlying250
 a66 := Tryz.isAgg250
 z66 := Tryz.sizeOf250
 v66 := Tryz.zeroValue250
 t70 := Tryz.underlying254
 a70 := Tryz.isAgg254
 z70 := Tryz.sizeOf254
 v70 := Tryz.zeroValue254
 t76 := Tryz.underlying258
 a76 := Tryz.isAgg258
 z76 := Tryz.sizeOf258
 v76 := Tryz.zeroValue258
 t77 := Tryz.underlying259
 a77 := Tryz.isAgg259
 z77 := Tryz.sizeOf259
 v77 := Tryz.zeroValue259 }
def Tryz.delU_ren : Go.Shelf.Ren := ⟨fun | 10 => 161 | 6 => 147 | n => n, fun | 22 => 23 | 23 => 22 | 25 => 118 | 3 => 3 | 4 => 4 | 0 => 0 | n => n, fun | n => n⟩
theorem Tryz.delU : Go.Proofs.SlLaysH.n10 Tryz.prog Tryz.delU_ren := {
 mixed := by kernel_rfl
 f6 := ⟨Tryz.f147.name, by decide, Tryz.func147.trans (congrArg some (by kernel_rfl))⟩
 f10 := ⟨Tryz.f161.name, by decide, Tryz.func161.trans (congrArg some (by kernel_rfl))⟩
 t0 := Tryz.underlying0
 a0 := Tryz.isAgg0
 z0 := Tryz.sizeOf0
 v0 := Tryz.zeroValue0
 t3 := Tryz.underlying3
 a3 := Tryz.isAgg3
 z3 := Tryz.sizeOf3
 v3 := Tryz.zeroValue3
 t4 := Tryz.underlying4
 a4 := Tryz.isAgg4
 z4 := Tryz.sizeOf4
 v4 := Tryz.zeroValue4
 t22 := Tryz.underlying23
 a22 := Tryz.isAgg23
 z22 := Tryz.sizeOf23
 v22 := Tryz.zeroValue23
 a23 := Tryz.isAgg22
 z23 := Tryz.sizeOf22
 t25 := Tryz.underlying118
 a25 := Tryz.isAgg118
 z25 := Tryz.sizeOf118
 v25 := Tryz.zeroValue118 }
end Go.Proofs
/- What a majority has: the sort that the program calls. -/
set_option maxRecDepth 100000
set_option maxHeartbeats 16000000
namespace Go.Proofs.YtdcpiaoadbbdoaaGreatDoor
open Go.RowKit Go.Shelf Go.Lib Go.Sort

def enc64 (x : Nat) : Value := .int .u64 (x : Nat)
def cfD (x y : Nat) : Int := if y < x then -1 else if x < y then 1 else 0
theorem ltD (x y : Nat) : ltOf cfD x y = decide (y < x) := by
 unfold ltOf cfD
 by_cases h1 : y < x
 · simp [h1]
 · by_cases h2 : x < y <;> simp [h1, h2]
theorem swoD : SWO (ltOf cfD) where
 irrefl x := by rw [ltD]; simp
 trans x y z h1 h2 := by rw [ltD] at *; simp at *; omega
 ntrans x y z h1 h2 := by rw [ltD] at *; simp at *; omega
theorem totD (x y : Nat) (h1 : ltOf cfD x y = false) (h2 : ltOf cfD y x = false) : x = y := by rw [ltD] at *; simp at *; omega
theorem geD : (fun x y : Nat => !ltOf cfD y x) = fun x y => decide (y ≤ x) := by
 funext x y
 rw [ltD]
 by_cases h : y ≤ x
 · have h' : ¬ x < y := by omega
   simp [h, h']
 · have h' : x < y := by omega
   simp [h, h']
theorem isNaN_any (x : Nat) (w : World) : Calls Tryz.prog 193 #[.int .u64 x] w fun e w' => e = .returned (.bool false) ∧ w = w' := by
 go_enter Tryz.func193, Tryz.ntmps193
 go_wp2_with fail
 go_ret
 exact ⟨by simp, rfl⟩
theorem compare_any (x y : Nat) (w : World) : Calls Tryz.prog 167 #[.int .u64 x, .int .u64 y] w fun e w' => e = .returned (.int .i64 (cfD y x)) ∧ w = w' := by
 by_cases h1 : x < y
 · have e1 : cfD y x = -1 := by simp [cfD, h1]
   have g1 : (x : Int) < (y : Int) := by omega
   rw [e1]
   go_enter Tryz.func167, Tryz.ntmps167
   go_wp2_with fail
   refine (isNaN_any x _).mono ?_
   rintro e w2 ⟨rfl, rfl⟩
   go_wp2_with fail
   refine (isNaN_any y _).mono ?_
   rintro e w2 ⟨rfl, rfl⟩
   go_wp2_with fail
   go_ret
   exact ⟨rfl, rfl⟩
 have g1 : ¬ (x : Int) < (y : Int) := by omega
 by_cases h2 : y < x
 · have e1 : cfD y x = 1 := by simp [cfD, h1, h2]
   have g2 : (y : Int) < (x : Int) := by omega
   rw [e1]
   go_enter Tryz.func167, Tryz.ntmps167
   go_wp2_with fail
   refine (isNaN_any x _).mono ?_
   rintro e w2 ⟨rfl, rfl⟩
   go_wp2_with fail
   refine (isNaN_any y _).mono ?_
   rintro e w2 ⟨rfl, rfl⟩
   go_wp2_with fail
   go_ret
   exact ⟨rfl, rfl⟩
 · have e1 : cfD y x = 0 := by simp [cfD, h1, h2]
   have g2 : ¬ (y : Int) < (x : Int) := by omega
   rw [e1]
   go_enter Tryz.func167, Tryz.ntmps167
   go_wp2_with fail
   refine (isNaN_any x _).mono ?_
   rintro e w2 ⟨rfl, rfl⟩
   go_wp2_with fail
   refine (isNaN_any y _).mono ?_
   rintro e w2 ⟨rfl, rfl⟩
   go_wp2_with fail
   go_ret
   exact ⟨rfl, rfl⟩
theorem cmpD_any (x y : Nat) (W : World) : Calls Tryz.prog 166 #[.int .u64 x, .int .u64 y] W fun e w' => e = .returned (.int .i64 (cfD x y)) ∧ ∃ q, w' = W.drewN q := by
 have hc := fun w => compare_any y x w
 generalize cfD x y = r at hc ⊢
 go_enter Tryz.func166, Tryz.ntmps166
 go_wp2_with fail
 refine (hc _).mono ?_
 rintro e w2 ⟨rfl, rfl⟩
 go_wp2_with fail
 go_ret
 exact ⟨rfl, 0, rfl⟩
theorem cmpReadsD (blk off size : Nat) (w : World) : CmpReads Tryz.prog 166 #[] enc64 cfD blk off size w := fun _ _ _ _ x y => cmpD_any x y _
def descL (L : List Nat) : List Nat := L.mergeSort fun x y => decide (y ≤ x)
theorem descL_len (L : List Nat) : (descL L).length = L.length := by simp [descL]
def SrP (B g : Nat) (w : World) (S : List Nat) (e : Ending) (w' : World) : Prop := e = .returned (.tuple #[]) ∧ Us w' (some ⟨g, 0, none⟩) S ∧ Below B w w'
theorem sort_any (B g n : Nat) (L : List Nat) (hn : L.length = n) (hl : n ≤ 140737488351232) (w : World) (hB : B ≤ g) (h : w.ownsRow B 22 1 (.slice (some ⟨g, 0, none⟩) n n) n (usCells L)) (hg : g < w.heap.size) :
 Calls Tryz.prog 165 #[.slice (some ⟨g, 0, none⟩) n n, .func (.func 166) #[] #[]] w (SrP B g w (descL L)) := by
 have eg : ∀ args w, (callFunc 166 args).run Tryz.prog w = .ok (.enter 166 args) w := enters_of Tryz.func166 (by kernel_rfl) rfl
 have hH : Holds enc64 w g 0 L.toArray := fun j hj => by
  have hj' : j < L.length := by simpa using hj
  refine ⟨?_, by simpa using h.frozenAt (0 + j)⟩
  have h1 := h.cellAt j (by omega)
  rw [Nat.zero_add, h1, usCells_at L j L[j] (List.getElem?_eq_getElem hj')]
  rw [getElem!_pos L.toArray j (by simpa using hj')]
  simp [enc64]
 have hS := Any.slices_SortFunc_total Tryz.sortL enc64 (fun _ => rfl) cfD swoD 166 #[] g 0 n L.toArray w eg (cmpReadsD g 0 L.toArray.size w).lays hH hg (by simp; omega) totD
 rw [geD] at hS
 change Calls Tryz.prog 165 _ _ _ at hS
 rw [show L.toArray.size = n by simpa using hn] at hS
 refine hS.mono ?_
 rintro e w' ⟨rfl, q, os, hw⟩
 have hsw : SW enc64 w g 0 (descL L).toArray w' := ⟨q, os, hw⟩
 have hh := hsw.holds hg hH (by simp [descL_len])
 refine ⟨rfl, fun j x hx => ⟨g, 0, rfl, hsw.lt hg, ?_⟩, ?_⟩
 · have hj := (List.getElem?_eq_some_iff.1 hx).1
   have h1 := (hh j (by simpa using hj)).1
   rw [h1, getElem!_pos (descL L).toArray j (by simpa using hj)]
   obtain ⟨_, h2⟩ := List.getElem?_eq_some_iff.1 hx
   simp [enc64, h2]
 · refine (Below.refl B w).grown (row := some g) ?_ (by omega) (fun k e => by cases e; exact hB)
   rw [hw]
   unfold sortWorld
   refine ⟨rfl, rfl, rfl, by simp, fun k hk hne => ?_⟩
   rw [heap_grow_old _ _ (by simpa using hk)]
   have hgk : g ≠ k := fun e => hne (by rw [e])
   simp [putRow, mapBlock, Sort.ahead, Array.getElem?_modify, hgk]
end Go.Proofs.YtdcpiaoadbbdoaaGreatDoor
/- A list without a number: the node's own without. -/
set_option maxRecDepth 100000
set_option maxHeartbeats 16000000
namespace Go.Proofs.YtdcpiaoadbbdoaaGreatDoor
open Go.RowKit Go.Shelf Go.Lib Go.Sort

def InR (B : Nat) (w : World) (M : List Nat) (e : Ending) (w' : World) : Prop := ∃ a c, e = .returned (.slice a M.length c) ∧ Us w' a M ∧ (0 < M.length → ∀ q, a = some q → B ≤ q.block) ∧ Below B w w'
def WiR (w : World) (M : List Nat) (e : Ending) (w' : World) : Prop := ∃ a c, e = .returned (.slice a M.length c) ∧ Us w' a M ∧ (0 < M.length → ∀ q, a = some q → w.heap.size ≤ q.block) ∧ Below w.heap.size w w'
def lessR (id : Nat) (L : List Nat) : List Nat := L.filter fun x => !decide (x = id)
theorem givesR_any (id x h : Nat) (W : World) (hc : W.cell? ⟨h, 0, none⟩ = some (.int .u64 id)) :
 FnGives Tryz.prog 173 #[.pointer (some ⟨h, 0, none⟩)] #[enc64 x] (.bool (decide (x = id))) W := by
 show Calls Tryz.prog 173 #[.int .u64 (x : Nat), .pointer (some ⟨h, 0, none⟩)] W _
 by_cases he : x = id
 · subst he
   go_enter Tryz.func173, Tryz.ntmps173
   go_wp2_with fail
   go_ret
   exact ⟨by simp, 0, rfl⟩
 · have g : ((x : Int) == (id : Int)) = false := by simp; omega
   rw [decide_eq_false he]
   go_enter Tryz.func173, Tryz.ntmps173
   go_wp2_with fail
   go_ret
   exact ⟨by simp, 0, rfl⟩
theorem indexF0R_any (c : Nat) (a : Option Addr) (fv : Value) (w : World) :
 Calls Tryz.prog 147 #[.slice a 0 c, fv] w fun e w' => e = .returned (.int .i64 (-1)) ∧ w = w' := by
 go_enter Tryz.func147, Tryz.ntmps147
 go_wp2_with fail
 refine wp_loop_rounds 1 ?_
 rw [rounds_succ]
 go_wp2_with fail
 go_ret
 exact ⟨rfl, rfl⟩
theorem delete0R_any (c : Nat) (a : Option Addr) (fv : Value) (w : World) :
 Calls Tryz.prog 161 #[.slice a 0 c, fv] w fun e w' => e = .returned (.slice a 0 c) ∧ w = w' := by
 go_enter Tryz.func161, Tryz.ntmps161
 go_wp2_with fail
 refine (indexF0R_any c a fv _).mono ?_
 rintro e w2 ⟨rfl, rfl⟩
 go_wp2_with fail
 go_ret
 exact ⟨rfl, rfl⟩
theorem deleteR_any (B id h n c : Nat) (a : Option Addr) (L : List Nat) (hn : L.length = n) (hl : n ≤ 140737488351232) (w : World) (hO : CqU B w (.slice a n c) L) (hB : B ≤ w.heap.size) (hN : Nb w h id) (hfar : ∀ q, a = some q → 0 < n → q.block ≠ h) :
 Calls Tryz.prog 161 #[.slice a n c, .func (.func 173) #[] #[.pointer (some ⟨h, 0, none⟩)]] w (InR B w (lessR id L)) := by
 have hnil : n = 0 → Calls Tryz.prog 161 #[.slice a n c, .func (.func 173) #[] #[.pointer (some ⟨h, 0, none⟩)]] w (InR B w (lessR id L)) := fun h0 => by
  subst h0
  obtain rfl : L = [] := List.length_eq_zero_iff.1 hn
  refine (delete0R_any c a _ w).mono ?_
  rintro e w' ⟨rfl, rfl⟩
  exact ⟨a, c, rfl, Us.nil _ _, fun h => absurd h (Nat.not_lt_zero _), Below.refl _ _⟩
 rcases hO with ⟨h0, _⟩ | hO
 · exact hnil (by rw [← hn, h0]; rfl)
 rcases hO.2 with ⟨_, h0⟩ | ⟨g, cap, cur, e0, hBg, hg, h1, h2, h3, _⟩
 · exact hnil (by omega)
 injection e0 with ea en ec
 subst ea ec
 have hg' : g < w.heap.size := lt_of_rowG hg
 by_cases h0 : n = 0
 · exact hnil h0
 have hgh : h ≠ g := fun e => hfar _ rfl (by omega) e.symm
 rw [hn] at hO
 have eg : ∀ args w, (callFunc 173 args).run Tryz.prog w = .ok (.enter 173 args) w := enters_of Tryz.func173 (by kernel_rfl) rfl
 have hH : Holds enc64 w g 0 L.toArray := fun j hj => by
  have hj' : j < L.length := by simpa using hj
  refine ⟨?_, by simpa using hO.frozenAt (0 + j)⟩
  have h1 := hO.cellAt j (by omega)
  rw [Nat.zero_add, h1, usCells_at L j L[j] (List.getElem?_eq_getElem hj')]
  rw [getElem!_pos L.toArray j (by simpa using hj')]
  simp [enc64]
 have hD := AnyE.slices_DeleteFunc Tryz.delU enc64 (fun _ => rfl) (fun x => decide (x = id)) 173 #[.pointer (some ⟨h, 0, none⟩)] eg 0 Tryz.zeroValue22 g 0 c L.toArray w
  (fun W x hb => givesR_any id x h W ((hb.cell (p := ⟨h, 0, none⟩) hN.lt).trans hN.c))
  (fun m os dk x _ => givesR_any id x h _ (by
   unfold sortWorld
   rw [cell?_grow _ _ _ (by show h < (putRow _ _ _ _ _).heap.size; rw [size_putRow]; exact hN.lt), cell?_putRow_other _ _ g 0 _ _ (Or.inl hgh)]
   exact hN.c)) hH (by simp; omega) (by simp; omega)
 change Calls Tryz.prog 161 _ _ _ at hD
 rw [show L.toArray.size = n by simpa using hn] at hD
 refine hD.mono ?_
 rintro e w' ⟨rfl, q, hw⟩
 have hle : (lessR id L).length ≤ n := by rw [← hn]; exact List.length_filter_le _ _
 have hw2 : w' = putRow enc64 (Sort.ahead w q) g 0 (lessR id L ++ List.replicate (n - (lessR id L).length) 0).toArray := hw
 refine ⟨some ⟨g, 0, none⟩, c, rfl, fun j x hx => ⟨g, 0, rfl, ?_, ?_⟩, fun _ q e => by cases e; exact hBg, ?_⟩
 · rw [hw2, size_putRow]; exact hg'
 · have hj := (List.getElem?_eq_some_iff.1 hx).1
   have hh := holds_putRow enc64 (Sort.ahead w q) g 0 L.toArray (lessR id L ++ List.replicate (n - (lessR id L).length) 0).toArray (holds_ahead _ _ _ _ _ _ hH) (by simp; omega)
   have h1 := (hh j (by simp; omega)).1
   rw [hw2, h1, getElem!_pos _ j (by simp; omega)]
   obtain ⟨_, h2⟩ := List.getElem?_eq_some_iff.1 hx
   simp [enc64, List.getElem_append_left hj, h2]
 · refine (Below.refl B w).grown (row := some g) ?_ hB (fun k e => by cases e; exact hBg)
   rw [hw2]
   refine ⟨rfl, rfl, rfl, by simp, fun k hk hne => ?_⟩
   have hgk : g ≠ k := fun e => hne (by rw [e])
   simp [putRow, mapBlock, Sort.ahead, Array.getElem?_modify, hgk]
theorem withoutR_any (id n c : Nat) (a : Option Addr) (L : List Nat) (hn : L.length = n) (hl : n * 8 ≤ 140737488351232) (w : World) (hU : Us w a L) :
 Calls Tryz.prog 137 #[.slice a n c, .int .u64 id] w (WiR w (lessR id L)) := by
 have B0 := hI_ (show Below w.heap.size w (w.alloc (.cells #[.int .u64 id] 22)) from (Below.refl _ _).alloc (Nat.le_refl _) _)
 have N0 := hI_ (Nb.new (w := w) rfl id 22)
 have HU := hI_ (hU.later B0.out)
 have HN := hI_ hn
 have HL := hI_ hl
 clear hU hn hl
 go_enter Tryz.func137, Tryz.ntmps137
 go_wp2_with fail
 refine (cloneU_any n c a L HN.out (by have := HL.out; omega) _ HU.out).mono ?_
 rintro e w1 ⟨v1, rfl, hc1, hb1⟩
 obtain ⟨a1, c1, rfl, _, hf, _⟩ := hc1.form
 have HC := hI_ hc1
 have HF1 := hI_ hf
 have HB := hI_ hb1
 have N1 := hI_ (N0.out.later hb1)
 clear hc1 hb1 hf
 rw [HN.out] at HC HF1 ⊢
 go_wp2_with fail
 refine (deleteR_any (w.heap.size + 1) id w.heap.size n c1 a1 L HN.out (by have := HL.out; omega) w1 (by have h := HC.out; simpa using h) (by have := HB.out.size; simpa using this) N1.out (fun q e h0 => by have := HF1.out h0 q e; simp at this; omega)).mono ?_
 rintro e w3 ⟨a3, c3, rfl, hU3, hf3, hb3⟩
 have HF := hI_ (show WiR w (lessR id L) (.returned (.slice a3 (lessR id L).length c3)) w3 from ⟨a3, c3, rfl, hU3, fun h q e => Nat.le_of_succ_le (hf3 h q e), (B0.out.trans ((HB.out.trans (hb3.mono (by simp))).mono B0.out.size))⟩)
 clear hU3 hb3 hf3
 generalize (Value.slice a3 (lessR id L).length c3) = R at *
 go_wp2_with fail
 go_ret
 exact HF.out

def mks (V : List Nat) (L : List Mk) : List Nat := V.map fun v => (markN v L).1
def agL (D : List Nat) : Nat := ((descL D)[D.length / 2]?).getD 0
def rowK (D : List Nat) (k : Nat) : List Nat := D.take k ++ List.replicate (D.length - k) 0
theorem rowK_zero (D : List Nat) : rowK D 0 = List.replicate D.length 0 := by simp [rowK]
theorem rowK_all (D : List Nat) : rowK D D.length = D := by simp [rowK]
theorem rowK_at (D : List Nat) (k : Nat) (hk : k < D.length) : (rowK D k)[k]? = some 0 := by
 unfold rowK
 rw [List.getElem?_append_right (by simp; omega), List.length_take, Nat.min_eq_left (by omega), Nat.sub_self, List.getElem?_replicate, if_pos (by omega)]
theorem rowK_set (D : List Nat) (k x : Nat) (hx : D[k]? = some x) : (rowK D k).set k x = rowK D (k + 1) := by
 obtain ⟨hk, rfl⟩ := List.getElem?_eq_some_iff.1 hx
 unfold rowK
 rw [List.set_append, if_neg (by simp; omega), List.length_take, Nat.min_eq_left (by omega), Nat.sub_self, List.take_succ_eq_append_getElem hk, List.append_assoc]
 congr 1
 obtain ⟨m, hm⟩ : ∃ m, D.length - k = m + 1 := ⟨D.length - k - 1, by omega⟩
 rw [hm, show D.length - (k + 1) = m by omega, List.replicate_succ]; rfl
theorem usCells_set (L : List Nat) (k x : Nat) : (usCells L).set k (.int .u64 (x : Nat)) = usCells (L.set k x) := by simp [usCells, List.map_set]
theorem madeU : ∀ n : Nat, madeCells [Value.int .u64 0].toArray (n * 1) = (usCells (List.replicate n 0)).toArray := by
 intro n; rw [Nat.mul_one]
 apply Array.ext
 · rw [size_madeCells]; simp [usCells]
 · intro i h1 h2
   have e : (madeCells [Value.int .u64 0].toArray n)[i]? = some (.int .u64 0) := by
    have h3 : i < n := by rw [size_madeCells] at h1; exact h1
    simp [madeCells, h3, Nat.mod_one]
   rw [Array.getElem?_eq_getElem h1] at e
   rw [Option.some.inj e]; simp [usCells]
theorem mkU (n : Nat) (w : World) (hn : n * 8 ≤ 140737488355328) : (Instr.makeSlice 23 (.int .i64 n) (.int .i64 n)).run Tryz.prog w = .ok (.slice (some ⟨w.heap.size, 0, none⟩) n n) (w.alloc (.cells (usCells (List.replicate n 0)).toArray 22)) := by
 obtain ⟨i0, hi, hz0, hz1, hz2⟩ := info_parts infoU64
 have h := run_make (P := Tryz.prog) w 23 22 i0 (.int .u64 0) Tryz.underlying23 hi hz0 .i64 .i64 n n (by omega) (Int.le_refl _) (by rw [hz2]; omega) (by omega)
 rw [Int.toNat_natCast, hz1] at h
 rw [h, show (Value.int IntKind.u64 0).cells = [Value.int .u64 0].toArray from rfl, madeU]
theorem owns_later {B : Nat} {w w' : World} {e : TypeId} {size : Nat} {v : Value} {n : Nat} {xs : List Value} (h : w.ownsRow B e size v n xs) (hb : Below w.heap.size w w') : w'.ownsRow B e size v n xs := by
 refine h.kept ⟨hb.os, hb.tape, hb.output, hb.size, fun k hk _ => hb.block k hk⟩ (row := none) ?_
 rcases h1 : v.ownBlock with _ | g
 · exact .inl rfl
 · exact .inr (by simp)
def AgP (w : World) (x : Nat) (e : Ending) (w' : World) : Prop := e = .returned (.int .u64 (x : Nat)) ∧ Below w.heap.size w w'
theorem pAgreed_any (n c n2 c2 m d : Nat) (a a2 a3 : Option Addr) (V : List Nat) (L : List Mk) (hn : V.length = n) (hl : n * 8 ≤ 140737488351232) (hm : L.length = m) (hl2 : m ≤ 140737488351232) (w : World) (hV : Us w a V) (hM : Ms w a3 L) :
 Calls Tryz.prog 133 #[.agg #[.slice a n c, .slice a2 n2 c2], .slice a3 m d] w (AgP w (agL (mks V L))) := by
 have hl' : n ≤ 140737488351232 := by omega
 have HL := hI_ hl
 have HV := hI_ hV
 have HM := hI_ hM
 have HN := hI_ hn
 have HM2 := hI_ hm
 have hdl : (mks V L).length = n := by simp [mks, hn]
 have HDL := hI_ hdl
 have hA : Below w.heap.size w (w.alloc (.cells #[.slice a n c, .slice a2 n2 c2] 25)) := (Below.refl _ _).alloc (Nat.le_refl _) _
 have C0 := Cb.new (w := w) rfl (.slice a n c) (.slice a2 n2 c2) 25
 have es : (w.alloc (.cells #[.slice a n c, .slice a2 n2 c2] 25)).heap.size = w.heap.size + 1 := by simp
 by_cases h0 : n = 0
 · subst h0
   have HT := hI_ (show agL (mks V L) = 0 by unfold agL; rw [List.getElem?_eq_none (by rw [descL_len, hdl]; exact Nat.zero_le _)]; rfl)
   have HA := hI_ hA
   clear hl hV hM hn hm hdl hA C0 es
   go_enter Tryz.func133, Tryz.ntmps133
   go_wp2_with fail
   go_ret
   exact ⟨by rw [HT.out]; rfl, HA.out⟩
 have g0 : ((n : Int) == 0) = false := by simpa using h0
 have hmk := mkU n (w.alloc (.cells #[.slice a n c, .slice a2 n2 c2] 25)) (by omega)
 rw [es] at hmk
 have B1 : Below w.heap.size w ((w.alloc (.cells #[.slice a n c, .slice a2 n2 c2] 25)).alloc (.cells (usCells (List.replicate n 0)).toArray 22)) := hA.alloc (by simp) _
 have O1 := World.ownsRow_lit (base := w.heap.size + 1) (e := 22) (size := 1) (w.alloc (.cells #[.slice a n c, .slice a2 n2 c2] 25)) (usCells (List.replicate n 0)).toArray n (by rw [es]; exact Nat.le_refl _) (by unfold maxLen; omega) (by simp [usCells])
 rw [es] at O1
 have HO1 := hI_ (show ((w.alloc (.cells #[.slice a n c, .slice a2 n2 c2] 25)).alloc (.cells (usCells (List.replicate n 0)).toArray 22)).ownsRow (w.heap.size + 1) 22 1 (.slice (some ⟨w.heap.size + 1, 0, none⟩) n n) n (usCells (rowK (mks V L) 0)) from by rw [rowK_zero, hdl]; exact O1)
 have HMK := hI_ hmk
 have HB1 := hI_ B1
 have HC1 := hI_ (C0.past (.cells (usCells (List.replicate n 0)).toArray 22))
 have h1n : 0 < n := by omega
 clear hl hV hM hn hm hdl hA O1 B1 hmk h0 es
 obtain ⟨c0, c1, fz, lt⟩ := C0
 go_enter Tryz.func133, Tryz.ntmps133
 have hmk := HMK.out
 go_wp2_with fail
 clear hmk HMK c0 c1 fz lt
 generalize (w.alloc (.cells #[.slice a n c, .slice a2 n2 c2] 25)).alloc (.cells (usCells (List.replicate n 0)).toArray 22) = W at *
 obtain ⟨c0, c1, fz, lt⟩ := HC1.out
 go_wp2_with fail
 clear c0 c1 fz lt
 go_loopw [19] (fun i wr => ∃ k : Nat, k ≤ n ∧ i = .int .i64 k ∧ wr.ownsRow (w.heap.size + 1) 22 1 (.slice (some ⟨w.heap.size + 1, 0, none⟩) n n) n (usCells (rowK (mks V L) k)) ∧ w.heap.size + 1 < wr.heap.size ∧ Cb wr w.heap.size (.slice a n c) (.slice a2 n2 c2) ∧ Below w.heap.size w wr) (fun i _ => n - (intOf i).toNat)
 case atStart => exact ⟨0, Nat.zero_le _, rfl, HO1.out, (HO1.out.lt (w.heap.size + 1) rfl).2, HC1.out, HB1.out⟩
 case round =>
  obtain ⟨k, hk, rfl, hown, hsz, hC, hB⟩ := hrel
  have HC := hI_ hC
  clear hC
  by_cases hlt : k < n
  · obtain ⟨x, hx⟩ : ∃ x, V[k]? = some x := ⟨_, List.getElem?_eq_getElem (by rw [HN.out]; exact hlt)⟩
    have i0 : (0 : Int) ≤ (k : Int) := by omega
    have i1 : (k : Int) < (n : Int) := by omega
    obtain ⟨b, off, rfl, hb, p0⟩ := HV.out.later hB k x hx
    obtain ⟨p, hp⟩ : ∃ p, markN x L = p := ⟨_, rfl⟩
    have hset := rowK_set (mks V L) k p.1 (by simp [mks, hx, hp])
    have HP := hI_ hp
    have HS := hI_ hset
    have HO := hI_ hown
    have HB := hI_ hB
    clear hx hp hset hown hB
    go_wp2_with fail
    refine (pMark_any x m d a3 L HM2.out hl2 _ (HM.out.later HB.out)).mono ?_
    rintro e w2 ⟨rfl, hb2⟩
    rw [HP.out]
    have hown2 := owns_later HO.out hb2
    have q0 : w2.cell? ⟨w.heap.size + 1, k, none⟩ = some (.int .u64 0) := by
     rw [hown2.cellAt k (by omega), usCells_at _ _ _ (rowK_at (mks V L) k (by rw [HDL.out]; exact hlt))]; rfl
    have qz : w2.frozen? ⟨w.heap.size + 1, k, none⟩ = false := hown2.frozenAt k
    have hst := (hown2.stored k (.int .u64 (p.1 : Nat))).1
    rw [usCells_set, HS.out] at hst
    have hsz2 : w.heap.size + 1 < w2.heap.size := Nat.lt_of_lt_of_le hsz hb2.size
    have HR := hI_ (And.intro hst (And.intro (show w.heap.size + 1 < (w2.setCell ⟨w.heap.size + 1, k, none⟩ (.int .u64 (p.1 : Nat))).heap.size by simpa using hsz2) (And.intro ((HC.out.later hb2).far (y := w.heap.size + 1) (by omega) k (.int .u64 (p.1 : Nat))) (show Below w.heap.size w (w2.setCell ⟨w.heap.size + 1, k, none⟩ (.int .u64 (p.1 : Nat))) from (HB.out.trans (hb2.mono HB.out.size)).setCell (Nat.le_succ _) _))))
    clear hown2 hst hb2
    go_wp2_with fail
    go_roundw
    case rel => exact ⟨k + 1, by omega, by go_num, HR.out.1, HR.out.2.1, HR.out.2.2.1, HR.out.2.2.2⟩
    case measure => simp [intOf]; omega
  · have hkn : k = n := by omega
    subst hkn
    have hown' : wr.ownsRow (w.heap.size + 1) 22 1 (.slice (some ⟨w.heap.size + 1, 0, none⟩) k k) k (usCells (mks V L)) := by
     have h := hown; rw [← HDL.out, rowK_all] at h; rw [← HDL.out]; exact h
    have HO := hI_ hown'
    have HB := hI_ hB
    clear hown hown' hB hlt
    go_wp2_with fail
    refine (sort_any (w.heap.size + 1) (w.heap.size + 1) k (mks V L) HDL.out hl' _ (Nat.le_refl _) HO.out hsz).mono ?_
    rintro e w2 ⟨rfl, hus, hb2⟩
    have HB2 := hI_ (HB.out.trans (hb2.mono (Nat.le_succ _)))
    have HU := hI_ hus
    obtain ⟨c0, c1, fz, lt⟩ := HC.out.under (Nat.lt_succ_self _) hb2
    clear hb2 hus
    go_wp2_with fail
    refine (pNeed_any k c n2 c2 a a2 hl' _).mono ?_
    rintro e w3 ⟨rfl, hb3⟩
    obtain ⟨s, hs⟩ : ∃ s, (descL (mks V L))[k / 2]? = some s := ⟨_, List.getElem?_eq_getElem (by rw [descL_len, HDL.out]; omega)⟩
    obtain ⟨b', off', e', hb', p0⟩ := HU.out.later hb3 (k / 2) s hs
    cases e'
    rw [Nat.zero_add] at p0
    have HT := hI_ (show agL (mks V L) = s by unfold agL; rw [HDL.out, hs]; rfl)
    have HB3 := hI_ (HB2.out.trans (hb3.mono HB2.out.size))
    obtain ⟨q, hq⟩ : ∃ q, k / 2 = q := ⟨_, rfl⟩
    rw [hq] at p0 hs ⊢
    have j0 : (0 : Int) ≤ (q : Int) := by omega
    have j1 : (q : Int) < (k : Int) := by omega
    have HQ := hI_ hq
    clear hb3 c0 c1 hs hq
    go_wp2_with fail
    go_ret
    exact ⟨by rw [HT.out]; rfl, HB3.out⟩

structure Bx (w : World) (x : Nat) (T : TypeId) (L : List Value) : Prop where
 c : ∀ i u, L[i]? = some u → w.cell? ⟨x, i, none⟩ = some u
 fz : ∀ j, w.frozen? ⟨x, j, none⟩ = false
 lt : x < w.heap.size
 ty : ∃ cur, w.heap[x]? = some (.cells cur T (0, 0))
theorem Bx.new {w : World} {x : Nat} (hx : x = w.heap.size) {os : Array Value} {L : List Value} (hL : L = os.toList) (T : TypeId) : Bx (w.alloc (.cells os T)) x T L := by
 subst hx; subst hL
 refine ⟨fun i u hu => ?_, fun j => by simp [go_sem], by simp, ⟨os, heap_alloc_new w _⟩⟩
 rw [show (w.alloc (.cells os T)).cell? ⟨w.heap.size, i, none⟩ = os[i]? by simp [go_sem]]
 simpa using hu
theorem Bx.same {w w' : World} {x : Nat} {T : TypeId} {L : List Value} (h : Bx w x T L) (hb : w'.heap[x]? = w.heap[x]?) (hs : w.heap.size ≤ w'.heap.size) : Bx w' x T L :=
 ⟨fun i u hu => (World.cell?_of_block (a := ⟨x, i, none⟩) hb).trans (h.c i u hu), fun j => (World.frozen?_of_block (a := ⟨x, j, none⟩) hb).trans (h.fz j), Nat.lt_of_lt_of_le h.lt hs, by rw [hb]; exact h.ty⟩
theorem Bx.later {w w' : World} {x : Nat} {T : TypeId} {L : List Value} (h : Bx w x T L) (hb : Below w.heap.size w w') : Bx w' x T L := h.same (hb.block x h.lt) hb.size
theorem setCell_grown (w : World) (x o : Nat) (v : Value) : w.grownBy (w.setCell ⟨x, o, none⟩ v) (some x) :=
 ⟨rfl, rfl, rfl, by simp, fun k _ hne => by
  simp only [World.setCell, Array.getElem?_modify]
  rw [if_neg (fun e => hne (by rw [e]))]⟩
theorem grown_trans {w w1 w2 : World} {x : Nat} (h : w.grownBy w1 (some x)) (h2 : w1.grownBy w2 (some x)) : w.grownBy w2 (some x) :=
 ⟨h2.os.trans h.os, h2.tape.trans h.tape, h2.output.trans h.output, Nat.le_trans h.size h2.size, fun k hk hne => (h2.block k (Nat.lt_of_lt_of_le hk h.size) hne).trans (h.block k hk hne)⟩
theorem setCell_ty {w : World} {x : Nat} {T : TypeId} (h : ∃ cur, w.heap[x]? = some (.cells cur T (0, 0))) (o : Nat) (v : Value) : ∃ cur, (w.setCell ⟨x, o, none⟩ v).heap[x]? = some (.cells cur T (0, 0)) := by
 obtain ⟨cur, h⟩ := h
 refine ⟨cur.setIfInBounds o v, ?_⟩
 simp only [World.setCell, Array.getElem?_modify, h]
 simp
theorem Bx.set {w : World} {x : Nat} {T : TypeId} {L : List Value} (h : Bx w x T L) (j : Nat) (v : Value) {M : List Value} (hM : L.set j v = M) (hj : j < L.length) : Bx (w.setCell ⟨x, j, none⟩ v) x T M := by
 subst hM
 refine ⟨fun i u hu => ?_, fun j => by simpa using h.fz j, by simpa using h.lt, setCell_ty h.ty _ _⟩
 rw [List.getElem?_set] at hu
 by_cases hi : j = i
 · subst hi
   rw [if_pos rfl, if_pos hj] at hu
   obtain rfl : v = u := Option.some.inj hu
   have h1 := h.c j _ (List.getElem?_eq_getElem hj)
   simp [go_sem, h1]
 · rw [if_neg hi] at hu
   have h1 := h.c i u hu
   rw [World.cell?_setCell_other _ _ _ _ (by simp)]
   exact h1
def setsL (w : World) (x : Nat) : Nat → List Value → World
 | _, [] => w
 | i, v :: r => setsL (w.setCell ⟨x, i, none⟩ v) x (i + 1) r
theorem setsL_grown {x : Nat} : ∀ (L : List Value) (i : Nat) (w1 : World), w1.grownBy (setsL w1 x i L) (some x)
 | [], _, _ => ⟨rfl, rfl, rfl, Nat.le_refl _, fun _ _ _ => rfl⟩
 | v :: r, i, w1 => grown_trans (setCell_grown w1 x i v) (setsL_grown r (i + 1) _)
theorem setsL_put {x : Nat} {T : TypeId} : ∀ (L : List Value) (i : Nat) (w1 : World) (M : List Value), Bx w1 x T M → i + L.length ≤ M.length → Bx (setsL w1 x i L) x T (M.take i ++ L ++ M.drop (i + L.length))
 | [], i, w1, M, h, _ => by simpa [setsL] using h
 | v :: r, i, w1, M, h, hl => by
  simp only [List.length_cons] at hl
  have h1 := setsL_put r (i + 1) _ (M.set i v) (h.set i v rfl (by omega)) (by simp; omega)
  rw [setsL]
  have e : (M.set i v).take (i + 1) ++ r ++ (M.set i v).drop (i + 1 + r.length) = M.take i ++ (v :: r) ++ M.drop (i + (v :: r).length) := by
   rw [List.take_add_one, List.take_set_of_le (Nat.le_refl _), List.getElem?_set, if_pos rfl, if_pos (by omega), List.drop_set_of_lt (by omega), List.length_cons, show i + 1 + r.length = i + (r.length + 1) by omega]
   simp
  rw [e] at h1
  exact h1
theorem Bx.puts {w w' : World} {x : Nat} {T : TypeId} {M L : List Value} (h : Bx w x T M) (hw : setsL w x 0 L = w') (hl : L.length = M.length) : Bx w' x T L ∧ w.grownBy w' (some x) := by
 subst hw
 have h1 := setsL_put L 0 w M h (by omega)
 rw [Nat.zero_add, hl, List.drop_length, List.take_zero, List.nil_append, List.append_nil] at h1
 exact ⟨h1, setsL_grown L 0 w⟩
theorem bGr {B : Nat} {w w1 w2 : World} {x : Nat} (h : Below B w w1) (hg : w1.grownBy w2 (some x)) (hB : B ≤ w1.heap.size) (hx : B ≤ x) : Below B w w2 := h.grown hg hB (fun k e => by cases e; exact hx)
def Ty (K : Nat) (w : World) (a : Option Addr) (n : Nat) (E : TypeId) : Prop := 0 < n → ∀ q, a = some q → q.block < w.heap.size ∧ (q.block < K ∨ ∃ cur, w.heap[q.block]? = some (.cells cur E (0, 0)))
section
variable {K : Nat} {w w' : World} {a : Option Addr} {n x : Nat} {E T : TypeId}
theorem Ty.nil (K : Nat) (w : World) (a : Option Addr) (E : TypeId) : Ty K w a 0 E := fun h => absurd h (Nat.lt_irrefl _)
theorem Ty.later (h : Ty K w a n E) (hb : Below w.heap.size w w') : Ty K w' a n E := fun h0 q e => by
 obtain ⟨h1, h2⟩ := h h0 q e
 exact ⟨Nat.lt_of_lt_of_le h1 hb.size, h2.imp id fun h => by rw [hb.block _ h1]; exact h⟩
theorem Ty.ne (h : Ty K w a n E) (hK : K ≤ x) (hx : ∃ cur, w.heap[x]? = some (.cells cur T (0, 0))) (hT : T ≠ E) : 0 < n → ∀ q, a = some q → q.block ≠ x := fun h0 q e e2 => by
 obtain ⟨_, h2 | ⟨cur, h2⟩⟩ := h h0 q e
 · omega
 · obtain ⟨cur', hx⟩ := hx
   rw [e2, hx] at h2
   cases h2
   exact hT rfl
theorem Ty.grown (h : Ty K w a n E) (hg : w.grownBy w' (some x)) (hne : 0 < n → ∀ q, a = some q → q.block ≠ x) : Ty K w' a n E := fun h0 q e => by
 obtain ⟨h1, h2⟩ := h h0 q e
 exact ⟨Nat.lt_of_lt_of_le h1 hg.size, h2.imp id fun h => by rw [hg.block _ h1 (by simpa using hne h0 q e)]; exact h⟩
theorem Ty.of_owns {B k : Nat} {v : Value} {xs : List Value} {c : Nat} (h : w.ownsRow B E k v n xs) (hv : v = .slice a n c) : Ty K w a n E := fun h0 q e => by
 subst hv
 rcases h.2 with ⟨e2, h2⟩ | ⟨g, cap, cur, e2, _, hg, _⟩
 · omega
 · cases e2; cases e
   exact ⟨(Array.getElem?_eq_some_iff.1 hg).1, .inr ⟨cur, hg⟩⟩
theorem Ty.elder (hlt : 0 < n → ∀ q, a = some q → q.block < w.heap.size) (hK : w.heap.size ≤ K) : Ty K w a n E := fun h0 q e => ⟨hlt h0 q e, .inl (Nat.lt_of_lt_of_le (hlt h0 q e) hK)⟩
theorem Ty.pl {a0 : Option Addr} {L0 L : List En} (h : Ty K w a0 L0.length 65) (hp : Pl a0 L0 w' a L) (hb : Below w.heap.size w w') : Ty K w' a L.length 65 := fun h0 q e => by
 rcases hp h0 q e with h1 | ⟨h1, q0, e0, h2⟩
 · exact ⟨h1.lt, .inr h1⟩
 · rw [h2]; exact h.later hb h1 q0 e0
theorem Us.grown {L : List Nat} (h : Us w a L) (hg : w.grownBy w' (some x)) (hne : 0 < L.length → ∀ q, a = some q → q.block ≠ x) : Us w' a L := fun j y hy => by
 obtain ⟨b, off, e, hlt, c⟩ := h j y hy
 have h0 : 0 < L.length := by have := (List.getElem?_eq_some_iff.1 hy).1; omega
 have hb := hg.block b hlt (by simpa using hne h0 _ e)
 exact ⟨b, off, e, Nat.lt_of_lt_of_le hlt hg.size, (World.cell?_of_block hb).trans c⟩
theorem Ms.grown {L : List Mk} (h : Ms w a L) (hg : w.grownBy w' (some x)) (hne : 0 < L.length → ∀ q, a = some q → q.block ≠ x) : Ms w' a L := fun j y hy => by
 obtain ⟨b, off, e, hlt, c0, c1⟩ := h j y hy
 have h0 : 0 < L.length := by have := (List.getElem?_eq_some_iff.1 hy).1; omega
 have hb := hg.block b hlt (by simpa using hne h0 _ e)
 exact ⟨b, off, e, Nat.lt_of_lt_of_le hlt hg.size, (World.cell?_of_block hb).trans c0, (World.cell?_of_block hb).trans c1⟩
theorem Ents.grown {L : List En} (h : Ents w a L) (hg : w.grownBy w' (some x)) (hne : 0 < L.length → ∀ q, a = some q → q.block ≠ x) : Ents w' a L := fun j y hy => by
 obtain ⟨b, off, e, hlt, c0, c1⟩ := h j y hy
 have h0 : 0 < L.length := by have := (List.getElem?_eq_some_iff.1 hy).1; omega
 have hb := hg.block b hlt (by simpa using hne h0 _ e)
 exact ⟨b, off, e, Nat.lt_of_lt_of_le hlt hg.size, (World.cell?_of_block hb).trans c0, (World.cell?_of_block hb).trans c1⟩
theorem Rw.grown {α : Type} {k : Nat} {f : α → List Value} {L : List α} (h : Rw k f w a L) (hg : w.grownBy w' (some x)) (hne : 0 < L.length → ∀ q, a = some q → q.block ≠ x) : Rw k f w' a L := fun j y hy => by
 obtain ⟨b, off, e, hlt, c⟩ := h j y hy
 have h0 : 0 < L.length := by have := (List.getElem?_eq_some_iff.1 hy).1; omega
 have hb := hg.block b hlt (by simpa using hne h0 _ e)
 exact ⟨b, off, e, Nat.lt_of_lt_of_le hlt hg.size, fun i u hu => (World.cell?_of_block hb).trans (c i u hu)⟩
end
structure Cf where
 V : List Nat
 L : List Nat
structure Sa where
 a : Option Addr
 c : Nat
structure Pn where
 id : Nat
 c : Cf
 term : Nat
 vote : Nat
 g : Lg
 role : Int
 lead : Nat
 commit : Nat
 voices : List Vo
 next : List Mk
 mat : List Mk
 span : Int
 wait : Int
 beat : Int
 heard : Int
structure Ad where
 v : Sa
 l : Sa
 e : Sa
 o : Sa
 n : Sa
 m : Sa
@[reducible] def ndL (p : Pn) (d : Ad) : List Value :=
 [.int .u64 p.id, .slice d.v.a p.c.V.length d.v.c, .slice d.l.a p.c.L.length d.l.c, .int .u64 p.term, .int .u64 p.vote, .int .u64 p.g.base, .int .u64 p.g.bt, .string p.g.snap, .slice d.e.a p.g.L.length d.e.c,
  .int .i64 p.role, .int .u64 p.lead, .int .u64 p.commit, .slice d.o.a p.voices.length d.o.c, .slice d.n.a p.next.length d.n.c, .slice d.m.a p.mat.length d.m.c, .int .i64 p.span, .int .i64 p.wait, .int .i64 p.beat, .int .i64 p.heard]
@[reducible] def ndA (p : Pn) (d : Ad) : Array Value :=
 #[.int .u64 p.id, .slice d.v.a p.c.V.length d.v.c, .slice d.l.a p.c.L.length d.l.c, .int .u64 p.term, .int .u64 p.vote, .int .u64 p.g.base, .int .u64 p.g.bt, .string p.g.snap, .slice d.e.a p.g.L.length d.e.c,
  .int .i64 p.role, .int .u64 p.lead, .int .u64 p.commit, .slice d.o.a p.voices.length d.o.c, .slice d.n.a p.next.length d.n.c, .slice d.m.a p.mat.length d.m.c, .int .i64 p.span, .int .i64 p.wait, .int .i64 p.beat, .int .i64 p.heard]
@[reducible] def ndV (p : Pn) (d : Ad) : Value := .agg (ndA p d)
structure NdM (K : Nat) (w : World) (p : Pn) (d : Ad) : Prop where
 v : Us w d.v.a p.c.V
 l : Us w d.l.a p.c.L
 e : Ents w d.e.a p.g.L
 ec : p.g.L.length ≤ d.e.c
 em : d.e.c ≤ maxLen
 o : Vs w d.o.a p.voices
 n : Ms w d.n.a p.next
 m : Ms w d.m.a p.mat
 tv : Ty K w d.v.a p.c.V.length 22
 tl : Ty K w d.l.a p.c.L.length 22
 te : Ty K w d.e.a p.g.L.length 65
 tvo : Ty K w d.o.a p.voices.length 144
 tn : Ty K w d.n.a p.next.length 100
 tm : Ty K w d.m.a p.mat.length 100
theorem NdM.later {K : Nat} {w w' : World} {p : Pn} {d : Ad} (h : NdM K w p d) (hb : Below w.heap.size w w') : NdM K w' p d :=
 ⟨h.v.later hb, h.l.later hb, h.e.later hb, h.ec, h.em, h.o.later hb, h.n.later hb, h.m.later hb, h.tv.later hb, h.tl.later hb, h.te.later hb, h.tvo.later hb, h.tn.later hb, h.tm.later hb⟩
theorem NdM.log {K : Nat} {w w' : World} {p : Pn} {d : Ad} (h : NdM K w p d) (hb : Below w.heap.size w w') {a : Option Addr} {c : Nat} {g : Lg} (hE : Ents w' a g.L) (hc : g.L.length ≤ c) (hm : c ≤ maxLen) (hp : Pl d.e.a p.g.L w' a g.L) : NdM K w' { p with g := g } { d with e := ⟨a, c⟩ } :=
 ⟨h.v.later hb, h.l.later hb, hE, hc, hm, h.o.later hb, h.n.later hb, h.m.later hb, h.tv.later hb, h.tl.later hb, h.te.pl hp hb, h.tvo.later hb, h.tn.later hb, h.tm.later hb⟩
theorem NdM.mat {K : Nat} {w w' : World} {p : Pn} {d : Ad} (h : NdM K w p d) (hb : Below w.heap.size w w') {a : Option Addr} {c : Nat} {M : List Mk} (hE : Ms w' a M) (ht : Ty K w' a M.length 100) : NdM K w' { p with mat := M } { d with m := ⟨a, c⟩ } :=
 ⟨h.v.later hb, h.l.later hb, h.e.later hb, h.ec, h.em, h.o.later hb, h.n.later hb, hE, h.tv.later hb, h.tl.later hb, h.te.later hb, h.tvo.later hb, h.tn.later hb, ht⟩
theorem NdM.nxt {K : Nat} {w w' : World} {p : Pn} {d : Ad} (h : NdM K w p d) (hb : Below w.heap.size w w') {a : Option Addr} {c : Nat} {M : List Mk} (hE : Ms w' a M) (ht : Ty K w' a M.length 100) : NdM K w' { p with next := M } { d with n := ⟨a, c⟩ } :=
 ⟨h.v.later hb, h.l.later hb, h.e.later hb, h.ec, h.em, h.o.later hb, hE, h.m.later hb, h.tv.later hb, h.tl.later hb, h.te.later hb, h.tvo.later hb, ht, h.tm.later hb⟩
theorem NdM.vos {K : Nat} {w w' : World} {p : Pn} {d : Ad} (h : NdM K w p d) (hb : Below w.heap.size w w') {a : Option Addr} {c : Nat} {M : List Vo} (hE : Vs w' a M) (ht : Ty K w' a M.length 144) : NdM K w' { p with voices := M } { d with o := ⟨a, c⟩ } :=
 ⟨h.v.later hb, h.l.later hb, h.e.later hb, h.ec, h.em, hE, h.n.later hb, h.m.later hb, h.tv.later hb, h.tl.later hb, h.te.later hb, ht, h.tn.later hb, h.tm.later hb⟩
theorem NdM.same {K : Nat} {w : World} {p q : Pn} {d : Ad} (h : NdM K w p d) (h1 : q.c = p.c) (h2 : q.g = p.g) (h3 : q.voices = p.voices) (h4 : q.next = p.next) (h5 : q.mat = p.mat) : NdM K w q d := by
 obtain ⟨i, c, t, v, g, r, l, k, o, n, m, s, wt, b, hd⟩ := q
 simp only at h1 h2 h3 h4 h5
 subst h1 h2 h3 h4 h5
 exact ⟨h.v, h.l, h.e, h.ec, h.em, h.o, h.n, h.m, h.tv, h.tl, h.te, h.tvo, h.tn, h.tm⟩
def BoxT (T : TypeId) : Prop := T ≠ 22 ∧ T ≠ 65 ∧ T ≠ 144 ∧ T ≠ 100
theorem NdM.grown {K : Nat} {w w' : World} {p : Pn} {d : Ad} {x : Nat} {T : TypeId} (h : NdM K w p d) (hg : w.grownBy w' (some x)) (hK : K ≤ x) (hx : ∃ cur, w.heap[x]? = some (.cells cur T (0, 0))) (hT : BoxT T) : NdM K w' p d :=
 ⟨h.v.grown hg (h.tv.ne hK hx hT.1), h.l.grown hg (h.tl.ne hK hx hT.1), h.e.grown hg (h.te.ne hK hx hT.2.1), h.ec, h.em, h.o.grown hg (h.tvo.ne hK hx hT.2.2.1), h.n.grown hg (h.tn.ne hK hx hT.2.2.2), h.m.grown hg (h.tm.ne hK hx hT.2.2.2),
  h.tv.grown hg (h.tv.ne hK hx hT.1), h.tl.grown hg (h.tl.ne hK hx hT.1), h.te.grown hg (h.te.ne hK hx hT.2.1), h.tvo.grown hg (h.tvo.ne hK hx hT.2.2.1), h.tn.grown hg (h.tn.ne hK hx hT.2.2.2), h.tm.grown hg (h.tm.ne hK hx hT.2.2.2)⟩
theorem bNd : BoxT 34 := by unfold BoxT; decide
theorem boxMessage : BoxT 59 := by unfold BoxT; decide
structure Bd (p : Pn) : Prop where
 id : p.id < 18446744073709551616
 may : mayB p.c.V p.c.L = true
 term : p.term < 18446744073709551616
 vote : p.vote < 18446744073709551616
 base : p.g.base < 4611686018427387904
 bt : p.g.bt < 18446744073709551616
 snap : p.g.snap.size ≤ 140737488351232
 ents : p.g.L.length * 24 ≤ 140737488351232
 data : ∀ x ∈ p.g.L, x.t < 18446744073709551616 ∧ x.d.size ≤ 140737488351232
 commit : p.commit < 18446744073709551616
 voices : p.voices.length * 16 ≤ 140737488353000
 ids : ∀ x ∈ p.voices, x.id < 18446744073709551616
 next : p.next.length * 16 ≤ 140737488353000
 mat : p.mat.length * 16 ≤ 140737488353000
 marks : ∀ x ∈ p.mat, x.n < 18446744073709551616
 nexts : ∀ x ∈ p.next, x.n < 18446744073709551616
theorem Bx.c19 {w : World} {x : Nat} {T : TypeId} {v0 v1 v2 v3 v4 v5 v6 v7 v8 v9 v10 v11 v12 v13 v14 v15 v16 v17 v18 : Value} (h : Bx w x T [v0, v1, v2, v3, v4, v5, v6, v7, v8, v9, v10, v11, v12, v13, v14, v15, v16, v17, v18]) :
 w.cell? ⟨x, 0, none⟩ = some v0 ∧ w.cell? ⟨x, 1, none⟩ = some v1 ∧ w.cell? ⟨x, 2, none⟩ = some v2 ∧ w.cell? ⟨x, 3, none⟩ = some v3 ∧ w.cell? ⟨x, 4, none⟩ = some v4 ∧ w.cell? ⟨x, 5, none⟩ = some v5 ∧ w.cell? ⟨x, 6, none⟩ = some v6 ∧ w.cell? ⟨x, 7, none⟩ = some v7 ∧ w.cell? ⟨x, 8, none⟩ = some v8 ∧ w.cell? ⟨x, 9, none⟩ = some v9 ∧
 w.cell? ⟨x, 10, none⟩ = some v10 ∧ w.cell? ⟨x, 11, none⟩ = some v11 ∧ w.cell? ⟨x, 12, none⟩ = some v12 ∧ w.cell? ⟨x, 13, none⟩ = some v13 ∧ w.cell? ⟨x, 14, none⟩ = some v14 ∧ w.cell? ⟨x, 15, none⟩ = some v15 ∧ w.cell? ⟨x, 16, none⟩ = some v16 ∧ w.cell? ⟨x, 17, none⟩ = some v17 ∧ w.cell? ⟨x, 18, none⟩ = some v18 :=
 ⟨h.c 0 _ rfl, h.c 1 _ rfl, h.c 2 _ rfl, h.c 3 _ rfl, h.c 4 _ rfl, h.c 5 _ rfl, h.c 6 _ rfl, h.c 7 _ rfl, h.c 8 _ rfl, h.c 9 _ rfl, h.c 10 _ rfl, h.c 11 _ rfl, h.c 12 _ rfl, h.c 13 _ rfl, h.c 14 _ rfl, h.c 15 _ rfl, h.c 16 _ rfl, h.c 17 _ rfl, h.c 18 _ rfl⟩
theorem Bx.c10 {w : World} {x : Nat} {T : TypeId} {v0 v1 v2 v3 v4 v5 v6 v7 v8 v9 : Value} (h : Bx w x T [v0, v1, v2, v3, v4, v5, v6, v7, v8, v9]) :
 w.cell? ⟨x, 0, none⟩ = some v0 ∧ w.cell? ⟨x, 1, none⟩ = some v1 ∧ w.cell? ⟨x, 2, none⟩ = some v2 ∧ w.cell? ⟨x, 3, none⟩ = some v3 ∧ w.cell? ⟨x, 4, none⟩ = some v4 ∧ w.cell? ⟨x, 5, none⟩ = some v5 ∧ w.cell? ⟨x, 6, none⟩ = some v6 ∧ w.cell? ⟨x, 7, none⟩ = some v7 ∧ w.cell? ⟨x, 8, none⟩ = some v8 ∧ w.cell? ⟨x, 9, none⟩ = some v9 :=
 ⟨h.c 0 _ rfl, h.c 1 _ rfl, h.c 2 _ rfl, h.c 3 _ rfl, h.c 4 _ rfl, h.c 5 _ rfl, h.c 6 _ rfl, h.c 7 _ rfl, h.c 8 _ rfl, h.c 9 _ rfl⟩

structure Mg where
 kind : Int
 fr : Nat
 dst : Nat
 term : Nat
 i : Nat
 lt : Nat
 commit : Nat
 ok : Bool
 es : List En
 snap : ByteArray
 at_ : Option Addr
 cap : Nat
@[reducible] def mgC (x : Mg) : List Value := [.int .i64 x.kind, .int .u64 x.fr, .int .u64 x.dst, .int .u64 x.term, .int .u64 x.i, .int .u64 x.lt, .int .u64 x.commit, .bool x.ok, .slice x.at_ x.es.length x.cap, .string x.snap]
@[reducible] def mgV (x : Mg) : Value := .agg #[.int .i64 x.kind, .int .u64 x.fr, .int .u64 x.dst, .int .u64 x.term, .int .u64 x.i, .int .u64 x.lt, .int .u64 x.commit, .bool x.ok, .slice x.at_ x.es.length x.cap, .string x.snap]
def Mg.pl (x : Mg) : Mg := { x with at_ := none, cap := 0 }
def MgM (w : World) (L : List Mg) : Prop := ∀ x ∈ L, x.es = [] ∨ w.ownsRow 0 65 2 (.slice x.at_ x.es.length x.cap) x.es.length (esCells x.es)
theorem MgM.nil (w : World) : MgM w [] := fun x hx => by cases hx
theorem MgM.later {w w' : World} {L : List Mg} (h : MgM w L) (hb : Below w.heap.size w w') : MgM w' L := fun x hx => (h x hx).imp id fun h => h.kept ⟨hb.os, hb.tape, hb.output, hb.size, fun k hk _ => hb.block k hk⟩ (row := none) (by
 rcases h1 : (Value.slice x.at_ x.es.length x.cap).ownBlock with _ | g
 · exact .inl rfl
 · exact .inr (by simp))
theorem MgM.app {w : World} {L M : List Mg} (h : MgM w L) (h2 : MgM w M) : MgM w (L ++ M) := fun x hx => (List.mem_append.1 hx).elim (h x) (h2 x)
theorem MgM.grown {w w' : World} {L : List Mg} {B k n : Nat} {v : Value} {xs : List Value} (h : MgM w L) (hv : w.ownsRow B 59 k v n xs) (hg : w.grownBy w' v.ownBlock) : MgM w' L := fun x hx => (h x hx).imp id fun h => h.kept hg (by
 rcases h.2 with ⟨e, _⟩ | ⟨g, cap, cur, e, _, hb, _⟩
 · exact .inl (by rw [e]; rfl)
 · refine .inr fun e2 => ?_
   rcases hv.2 with ⟨rfl, _⟩ | ⟨g2, cap2, cur2, rfl, _, hb2, _⟩
   · rw [e] at e2; simp [Value.ownBlock] at e2
   · rw [e] at e2; simp [Value.ownBlock] at e2
     subst e2
     rw [hb] at hb2
     cases hb2)
abbrev Mgs (w : World) (a : Option Addr) (L : List Mg) : Prop := Rw 10 mgC w a L

def toldB : List UInt8 → Option Cf
 | [] => none
 | c :: r => if c.toNat = 99 then (if (tkG r).2 = 0 then some ⟨(tkG r).1.1, (tkG r).1.2⟩ else none) else none
def toldE (x : En) : Option Cf := toldB x.d.data.toList
def lastC (L : List En) : Option Cf := L.reverse.findSome? toldE
theorem lastC_nil : lastC [] = none := rfl
theorem lastC_snoc (L : List En) (x : En) : lastC (L ++ [x]) = match toldE x with | some c => some c | none => lastC L := by
 simp only [lastC, List.reverse_append, List.reverse_cons, List.reverse_nil, List.nil_append, List.cons_append, List.findSome?_cons]
 cases toldE x <;> rfl
def txG (s : List UInt8) : Option (List UInt8 × List UInt8) :=
 if (tkNum s).2.2 ≠ 0 ∨ 4096 < (tkNum s).1 ∨ (tkNum s).2.1.length < (tkNum s).1 then none else some ((tkNum s).2.1.take (tkNum s).1, (tkNum s).2.1.drop (tkNum s).1)
def appG (s : List UInt8) : Option (Cf × List UInt8) := match txG s with
 | none => none
 | some (b, r) => if (tkG b).2 = 0 then some (⟨(tkG b).1.1, (tkG b).1.2⟩, r) else none
def confA (init : Cf) (g : Lg) : Cf := match lastC g.L with
 | some c => c
 | none => if 0 < g.base then (match appG g.snap.data.toList with | some r => r.1 | none => init) else init
def Pn.conf (p : Pn) : Cf := confA p.c p.g
def Pn.endI (p : Pn) : Nat := p.g.base + p.g.L.length
def Pn.endT (p : Pn) : Nat := lastT p.g.bt p.g.L
def othersL (c : Cf) (id : Nat) : List Nat := (List.range 64).filter fun x => decide (1 ≤ x) && (!decide (x = id) && (hasN x c.V || hasN x c.L))
def rivalsL (c : Cf) (id : Nat) : List Nat := c.V.filter fun x => !decide (x = id)
def Pn.oth (p : Pn) : List Nat := othersL p.conf p.id
def msgG (p : Pn) (kind : Int) (q : Nat) : Mg := ⟨kind, p.id, q, p.term, 0, 0, 0, false, [], ⟨#[]⟩, none, 0⟩
def nextI (p : Pn) (q : Nat) : Nat := if (markN q p.next).2 then (markN q p.next).1 else 1
def portG (p : Pn) (q : Nat) : Mg :=
 if nextI p q ≤ p.g.base then { msgG p 6 q with i := p.g.base, lt := p.g.bt, snap := p.g.snap }
 else { msgG p 5 q with i := nextI p q - 1, lt := (tAt p.g.base p.g.bt p.g.L (nextI p q - 1)).1, commit := p.commit, es := fromL p.g.base p.g.L (nextI p q) 8 }
def reqG (p : Pn) (kind : Int) (term : Nat) (q : Nat) : Mg := { msgG p kind q with term := term, i := p.endI, lt := p.endT }
def addX (p : Pn) (data : ByteArray) : Int := addE p.g ⟨p.term, data⟩
def addP (p : Pn) (data : ByteArray) : Pn := { p with g := addG p.g ⟨p.term, data⟩, mat := setN p.id ((addG p.g ⟨p.term, data⟩).base + (addG p.g ⟨p.term, data⟩).L.length) p.mat }
def Pn.agr (p : Pn) : Nat := agL (mks p.conf.V p.mat)
def commitP (p : Pn) : Pn := if (tAt p.g.base p.g.bt p.g.L p.agr).2 = true ∧ (tAt p.g.base p.g.bt p.g.L p.agr).1 = p.term ∧ p.commit < p.agr then { p with commit := p.agr } else p
def spreadP (p : Pn) : Pn × List Mg := (commitP p, (commitP p).oth.map (portG (commitP p)))
def followP (p : Pn) (t : Nat) : Pn := { p with term := if p.term < t then t else p.term, vote := if p.term < t then 0 else p.vote, role := 0, lead := 0, voices := [], next := [], mat := [] }
def markStep (e : Nat) (s : List Mk × List Mk) (q : Nat) : List Mk × List Mk := if (markN q s.1).2 then s else (setN q e s.1, setN q 0 s.2)
def keepM (p : Pn) (x : Mk) : Bool := decide (x.id = p.id) || hasN x.id p.oth
def remarkP (p : Pn) : Pn :=
 { p with next := (p.oth.foldl (markStep p.endI) (p.next.filter (keepM p), p.mat.filter (keepM p))).1, mat := (p.oth.foldl (markStep p.endI) (p.next.filter (keepM p), p.mat.filter (keepM p))).2 }
def leadP (p : Pn) : Pn × List Mg :=
 if addX { p with role := 3, lead := p.id, voices := [], beat := 3, next := [], mat := [] } ⟨#[]⟩ = 0
 then spreadP (remarkP (addP { p with role := 3, lead := p.id, voices := [], beat := 3, next := [], mat := [] } ⟨#[]⟩))
 else (followP { p with role := 3, lead := p.id, voices := [], beat := 3, next := [], mat := [] } p.term, [])
def countC (p : Pn) : Pn × List Mg := if cntV p.conf.V p.voices = 1 then leadP p else if cntV p.conf.V p.voices = 2 then (followP p p.term, []) else (p, [])
def standQ (p : Pn) : Pn := { p with term := (p.term + 1) % 18446744073709551616, vote := p.id, role := 2, lead := 0, voices := [⟨p.id, true⟩] }
def standP (p : Pn) : Pn × List Mg := ((countC (standQ p)).1, (rivalsL p.conf p.id).map (reqG (standQ p) 3 (standQ p).term) ++ (countC (standQ p)).2)
def countP (p : Pn) : Pn × List Mg := if cntV p.conf.V p.voices = 1 then (if p.role = 1 then standP p else leadP p) else if cntV p.conf.V p.voices = 2 then (followP p p.term, []) else (p, [])
def askQ (p : Pn) : Pn := { p with role := 1, lead := 0, voices := [⟨p.id, true⟩] }
def askP (p : Pn) : Pn × List Mg := ((countP (askQ p)).1, (rivalsL p.conf p.id).map (reqG (askQ p) 1 ((p.term + 1) % 18446744073709551616)) ++ (countP (askQ p)).2)
def beatP (p : Pn) : Pn × List Mg := if 1 ≤ IntKind.i64.wrap (p.beat - 1) then ({ p with beat := IntKind.i64.wrap (p.beat - 1) }, []) else ({ p with beat := 3 }, p.oth.map (portG { p with beat := 3 }))
def lessH (p : Pn) : Pn := { p with heard := if 0 < p.heard then p.heard - 1 else p.heard }
def tickP (p : Pn) (draw : Nat) : Pn × List Mg :=
 if p.role = 3 then beatP (lessH p)
 else if 1 ≤ IntKind.i64.wrap (p.wait - 1) then ({ lessH p with wait := IntKind.i64.wrap (p.wait - 1) }, [])
 else if 4611686018427387903 ≤ p.term ∨ hasN p.id p.conf.V = false then ({ lessH p with span := 10 + (draw % 10 : Nat), wait := 10 + (draw % 10 : Nat) }, [])
 else askP { lessH p with span := 10 + (draw % 10 : Nat), wait := 10 + (draw % 10 : Nat) }
def instOk (p : Pn) (m : Mg) : Prop := (appG m.snap.data.toList).isSome = true ∧ m.snap.size ≤ 4096 ∧ m.lt ≤ p.term ∧ p.commit < m.i ∧ m.i ≤ 1099511627776
instance (p : Pn) (m : Mg) : Decidable (instOk p m) := by unfold instOk; exact inferInstance

theorem mgT : RowT (α := Mg) 39 59 10 104 (.agg #[.int .i64 0, .int .u64 0, .int .u64 0, .int .u64 0, .int .u64 0, .int .u64 0, .int .u64 0, .bool false, .slice none 0 0, .string ⟨#[]⟩]) mgC :=
 ⟨Tryz.underlying39, by kernel_rfl, rfl, by decide, by decide, fun _ => rfl, fun x u hu => by
  simp only [mgC, List.mem_cons, List.not_mem_nil, or_false] at hu
  rcases hu with rfl | rfl | rfl | rfl | rfl | rfl | rfl | rfl | rfl | rfl <;> rfl⟩
theorem enT : RowT (α := En) 26 65 2 24 (.agg #[.int .u64 0, .string ⟨#[]⟩]) enCells :=
 ⟨Tryz.underlying26, by kernel_rfl, rfl, by decide, by decide, fun _ => rfl, fun x u hu => enOne x u hu⟩
theorem ents_rw {w : World} {a : Option Addr} {L : List En} (h : Ents w a L) : Rw 2 enCells w a L := fun j x hx => by
 obtain ⟨b, off, e, hlt, c0, c1⟩ := h j x hx
 refine ⟨b, off, e, hlt, fun i u hu => ?_⟩
 match i, hu with
 | 0, hu => cases hu; exact c0
 | 1, hu => cases hu; exact c1
def CqG (B : Nat) (w : World) (v : Value) (L : List Mg) : Prop := Cq 59 10 mgC B w v L ∧ MgM w L
theorem CqG.later {B : Nat} {w w' : World} {v : Value} {L : List Mg} (h : CqG B w v L) (hb : Below w.heap.size w w') : CqG B w' v L := ⟨h.1.later hb, h.2.later hb⟩
theorem CqG.nil (B : Nat) (w : World) (ao : Option Addr) : CqG B w (.slice ao 0 0) [] := ⟨Cq.nil _ _ _, MgM.nil _⟩
theorem CqG.mono {B B' : Nat} {w : World} {v : Value} {L : List Mg} (h : CqG B w v L) (hB : B' ≤ B) : CqG B' w v L := ⟨h.1.mono hB, h.2⟩
theorem CqG.form {B : Nat} {w : World} {v : Value} {L : List Mg} (h : CqG B w v L) : ∃ a c, v = .slice a L.length c ∧ Mgs w a L ∧ L.length ≤ c ∧ c ≤ maxLen := by
 obtain ⟨a, c, e, h1, _, h2, h3⟩ := h.1.form mgT
 exact ⟨a, c, e, h1, h2, h3⟩
theorem app_mg (B : Nat) (w : World) (ty : TypeId) (v : Value) (L : List Mg) (h : CqG B w v L) (a : Option Addr) (m c : Nat) (M : List Mg) (hm : M.length = m) (hM : Mgs w a M) (hMM : MgM w M) (hl : L.length + m ≤ 1000000) (hB : B ≤ w.heap.size) :
 ∃ v' w', (Builtin.append_ #[39, 39] ty #[v, .slice a m c]).run Tryz.prog w = .ok v' w' ∧ (CqG B w' v' (L ++ M) ∧ Below B w w') := by
 have R := mgT
 obtain ⟨i0, hi, hz0, hz1', hz2'⟩ := info_parts R.info
 rcases Nat.eq_zero_or_pos m with h0 | h0
 · subst h0
   have hM0 : M = [] := List.length_eq_zero_iff.1 hm
   subst hM0
   rw [List.append_nil]
   have hs : Src Tryz.prog i0.size 39 (.slice a 0 c) 0 [] w := by
    cases a with
    | none => exact Src.ofNil w R.und c
    | some p => exact Src.ofSlice w R.und p 0 c [] (by simp) (by simp) (by simp)
   have hv : ∃ ao n cap, v = .slice ao n cap ∧ n ≤ cap := by
    rcases h.1 with ⟨_, ao, rfl⟩ | h
    · exact ⟨ao, 0, 0, rfl, Nat.le_refl _⟩
    · rcases h.2 with ⟨rfl, h0⟩ | ⟨g, cap, cur, rfl, _, _, hn, _⟩
      · exact ⟨none, 0, 0, rfl, Nat.le_refl _⟩
      · exact ⟨_, _, cap, rfl, hn⟩
   obtain ⟨ao, n, cap, rfl, hle⟩ := hv
   exact ⟨_, _, run_append_nothing w _ _ ty _ i0 R.und hi ao n cap hle _ hs, h, Below.refl _ _⟩
 · obtain ⟨b1, off, rfl, hb1⟩ := hM.addr (by omega)
   have hrow := rw_row R.len R.kp hM
   have hnews : ∀ j u, (rwC mgC M)[j]? = some u → w.cell? ((⟨b1, off, none⟩ : Addr).add j) = some u := fun j u hj => by rw [addAny']; exact hrow j u hj
   have hlen : (rwC mgC M).length = m * 10 := by rw [rwC_len R.len, hm]
   obtain ⟨h, hMg⟩ := h
   rcases h with ⟨rfl, ao, rfl⟩ | h
   · simp only [List.length_nil, Nat.zero_add] at hl
     cases ao with
     | none =>
      obtain ⟨v', w', hr, hown, hg, _⟩ := run_append_own (P := Tryz.prog) w B 39 ty 59 i0 _ 10 104 R.und hi hz0 hz1' hz2' R.zs R.kp (.slice none 0 0) 0 [] (World.ownsRow_nil w B _ 10) ⟨b1, off, none⟩ m c (rwC mgC M) hlen hnews (oneRw R M) (by unfold maxLen; omega) (by omega) hB
      refine ⟨v', w', hr, ⟨.inr ?_, ?_⟩, (Below.refl _ _).grown hg hB (by simp [Value.ownBlock])⟩
      · simpa [hm] using hown
      · rw [List.nil_append]; exact hMM.grown (World.ownsRow_nil w B 59 10) hg
     | some b =>
      obtain ⟨v', w', hr, hown, hg⟩ := run_append_arg_grows (P := Tryz.prog) w 39 ty 59 i0 _ 10 104 R.und hi hz0 hz1' hz2' R.zs R.kp b 0 0 [] (by simp) (by simp)
       ⟨b1, off, none⟩ m c (rwC mgC M) hlen hnews (by omega) (by unfold maxLen; omega) (by omega)
      refine ⟨v', w', hr, ⟨.inr ?_, ?_⟩, (Below.refl _ _).grown hg hB (by simp)⟩
      · have hown' := owns_less hown hB
        simpa [hm] using hown'
      · rw [List.nil_append]; exact hMM.grown (World.ownsRow_nil w B 59 10) hg
   · obtain ⟨v', w', hr, hown, hg, _⟩ := run_append_own (P := Tryz.prog) w B 39 ty 59 i0 _ 10 104 R.und hi hz0 hz1' hz2' R.zs R.kp v L.length (rwC mgC L) h ⟨b1, off, none⟩ m c (rwC mgC M) hlen hnews (oneRw R M) (by unfold maxLen; omega) (by omega) hB
     refine ⟨v', w', hr, ⟨.inr ?_, ?_⟩, (Below.refl _ _).grown hg hB (fun k e => (h.lt k e).1)⟩
     · rw [List.length_append, rwC_app, hm]
       exact hown
     · exact (hMg.app hMM).grown h hg

theorem nd_new (w : World) (p : Pn) (d : Ad) : ∃ W, w.alloc (.cells (ndA p d) 34) = W ∧ Below w.heap.size w W ∧ Bx W w.heap.size 34 (ndL p d) ∧ Hid (W.heap.size = w.heap.size + 1) :=
 ⟨_, rfl, (Below.refl _ _).alloc (Nat.le_refl _) _, Bx.new rfl rfl _, hI_ (by simp)⟩
theorem bx_new (w : World) (os : Array Value) (T : TypeId) : ∃ W y, w.alloc (.cells os T) = W ∧ w.heap.size = y ∧ Below y w W ∧ Bx W y T os.toList ∧ Hid (W.heap.size = y + 1) :=
 ⟨_, _, rfl, rfl, (Below.refl _ _).alloc (Nat.le_refl _) _, Bx.new rfl rfl _, hI_ (by simp)⟩
@[reducible] def znA : Array Value := #[.int .u64 0, .slice none 0 0, .slice none 0 0, .int .u64 0, .int .u64 0, .int .u64 0, .int .u64 0, .string ⟨#[]⟩, .slice none 0 0, .int .i64 0, .int .u64 0, .int .u64 0, .slice none 0 0, .slice none 0 0, .slice none 0 0, .int .i64 0, .int .i64 0, .int .i64 0, .int .i64 0]
def NvP (K : Nat) (w : World) (p : Pn) (e : Ending) (w' : World) : Prop := ∃ d, e = .returned (ndV p d) ∧ NdM K w' p d ∧ Below w.heap.size w w'
theorem pEnd_any (p : Pn) (d : Ad) (hB : Bd p) (K : Nat) (w : World) (hM : NdM K w p d) :
 Calls Tryz.prog 31 #[ndV p d] w fun e w' => e = .returned (.int .u64 (p.endI : Nat)) ∧ Below w.heap.size w w' := by
 obtain ⟨W, hW, B0, H0, Z0⟩ := nd_new w p d
 have hM0 := hM.later B0
 have hb := hB.base
 have hl := hB.ents
 obtain ⟨c0, c1, c2, c3, c4, c5, c6, c7, c8, c9, c10, c11, c12, c13, c14, c15, c16, c17, c18⟩ := H0.c19
 unfold ndA at hW
 go_enter Tryz.func31, Tryz.ntmps31
 go_wp2_with fail
 refine (pLast_any _ _ _ _ _ _ p.g.L rfl (by omega) hb _ hM0.e).mono ?_
 rintro e w2 ⟨rfl, hb2⟩
 go_wp2_with fail
 go_ret
 exact ⟨rfl, B0.trans (hb2.mono B0.size)⟩
@[reducible] def zmA : Array Value := #[.int .i64 0, .int .u64 0, .int .u64 0, .int .u64 0, .int .u64 0, .int .u64 0, .int .u64 0, .bool false, .slice none 0 0, .string ⟨#[]⟩]
theorem pMessage_any (p : Pn) (d : Ad) (kind : Int) (q : Nat) (w : World) :
 Calls Tryz.prog 111 #[ndV p d, .int .i64 kind, .int .u64 q] w fun e w' => e = .returned (mgV (msgG p kind q)) ∧ Below w.heap.size w w' := by
 obtain ⟨W, hW, B0, H0, Z0⟩ := nd_new w p d
 obtain ⟨W1, y, hW1, hy, B1, R1, Z1⟩ := bx_new W zmA 59
 obtain ⟨W2, hW2⟩ : ∃ W2, setsL W1 y 0 [.int .i64 kind, .int .u64 p.id, .int .u64 q, .int .u64 p.term, .int .u64 0, .int .u64 0, .int .u64 0, .bool false, .slice none 0 0, .string ⟨#[]⟩] = W2 := ⟨_, rfl⟩
 obtain ⟨R2, g2⟩ := R1.puts hW2 rfl
 have HB2 := hI_ (show Below w.heap.size w W2 by
  have z0 := Z0.out; have z1 := Z1.out
  exact bGr (B0.trans (B1.mono (by omega))) g2 (by omega) (by omega))
 obtain ⟨c0, c1, c2, c3, c4, c5, c6, c7, c8, c9, c10, c11, c12, c13, c14, c15, c16, c17, c18⟩ := (H0.later (hy ▸ B1)).c19
 obtain ⟨r0, r1, r2, r3, r4, r5, r6, r7, r8, r9⟩ := R2.c10
 have f0 := R1.fz
 obtain ⟨s0, s1, s2, s3, s4, s5, s6, s7, s8, s9⟩ := R1.c10
 simp only [setsL, Nat.reduceAdd] at hW2
 unfold ndA at hW
 unfold zmA at hW1
 clear B0 B1 R1 R2 g2 H0
 go_enter Tryz.func111, Tryz.ntmps111
 go_wp2_with fail
 refine bodyPost_ret (v := mgV (msgG p kind q)) (by simp [results, Tryz.results111, go_sem, msgG, r0, r1, r2, r3, r4, r5, r6, r7, r8, r9]) rfl ?_
 exact ⟨rfl, HB2.out⟩

structure Bk (w : World) (x : Nat) (T : TypeId) (L : List Value) : Prop where
 row : w.heap[x]? = some (.cells L.toArray T (0, 0))
theorem Bk.bx {w : World} {x : Nat} {T : TypeId} {L : List Value} (h : Bk w x T L) : Bx w x T L :=
 ⟨fun i u hu => by rw [cell_of_row w x i _ _ _ h.row]; simpa using hu, fun j => by simp [World.frozen?, h.row], (Array.getElem?_eq_some_iff.1 h.row).1, ⟨_, h.row⟩⟩
theorem Bk.lt {w : World} {x : Nat} {T : TypeId} {L : List Value} (h : Bk w x T L) : x < w.heap.size := h.bx.lt
theorem Bk.same {w w' : World} {x : Nat} {T : TypeId} {L : List Value} (h : Bk w x T L) (hb : w'.heap[x]? = w.heap[x]?) : Bk w' x T L := ⟨hb.trans h.row⟩
theorem Bk.later {w w' : World} {x : Nat} {T : TypeId} {L : List Value} (h : Bk w x T L) (hb : Below w.heap.size w w') : Bk w' x T L := h.same (hb.block x h.lt)
theorem Bk.under {w w' : World} {x B : Nat} {T : TypeId} {L : List Value} (h : Bk w x T L) (hx : x < B) (hb : Below B w w') : Bk w' x T L := h.same (hb.block x hx)
theorem Bk.grown {w w' : World} {x y : Nat} {T : TypeId} {L : List Value} (h : Bk w x T L) (hg : w.grownBy w' (some y)) (hne : x ≠ y) : Bk w' x T L := h.same (hg.block x h.lt (by simpa using hne))
theorem Bk.new (w : World) (os : Array Value) (T : TypeId) : Bk (w.alloc (.cells os T)) w.heap.size T os.toList := ⟨by rw [Array.toArray_toList]; exact heap_alloc_new w _⟩
theorem Bk.set {w : World} {x : Nat} {T : TypeId} {L : List Value} (h : Bk w x T L) (j : Nat) (v : Value) : Bk (w.setCell ⟨x, j, none⟩ v) x T (L.set j v) := by
 refine ⟨?_⟩
 simp only [World.setCell, Array.getElem?_modify, h.row]
 simp
theorem nk_new (w : World) (p : Pn) (d : Ad) : ∃ W, w.alloc (.cells (ndA p d) 34) = W ∧ Below w.heap.size w W ∧ Bk W w.heap.size 34 (ndL p d) ∧ Hid (W.heap.size = w.heap.size + 1) :=
 ⟨_, rfl, (Below.refl _ _).alloc (Nat.le_refl _) _, Bk.new _ _ _, hI_ (by simp)⟩
theorem bk_new (w : World) (os : Array Value) (T : TypeId) : ∃ W y, w.alloc (.cells os T) = W ∧ w.heap.size = y ∧ Below y w W ∧ Bk W y T os.toList ∧ Hid (W.heap.size = y + 1) :=
 ⟨_, _, rfl, rfl, (Below.refl _ _).alloc (Nat.le_refl _) _, Bk.new _ _ _, hI_ (by simp)⟩
structure StT (T : TypeId) (n : Nat) : Prop where
 agg : ∀ w, (isAgg T).run Tryz.prog w = .ok true w
 size : ∀ w, (sizeOf T).run Tryz.prog w = .ok n w
structure Oc (T : TypeId) : Prop where
 na : ∀ w, (isAgg T).run Tryz.prog w = .ok false w
 sz : ∀ w, (sizeOf T).run Tryz.prog w = .ok 1 w
section
variable {w : World} {ops : Array Oper} {rest : List Oper} {o : Oper} {a : Act} {Q : Exit → Act → World → Prop} {K : Act → World → Prop} {T E : TypeId} {g n i : Nat} {L : List Value}
theorem addG' (b o j : Nat) : (⟨b, o, none⟩ : Addr).add j = ⟨b, o + j, none⟩ := Addr.add_lit ..
theorem run_load_bk (hS : StT T n) (H : Bk w g E L) (hn : L.length = n) : (loadVar T ⟨g, 0, none⟩).run Tryz.prog w = .ok (.agg L.toArray) w := by
 have hl : (loadCells ⟨g, 0, none⟩ n).run Tryz.prog w = .ok L.toArray w := by
  rw [← hn]
  exact run_loadCells_list (P := Tryz.prog) w ⟨g, 0, none⟩ L (fun j v hv => by rw [addG', Nat.zero_add]; exact H.bx.c j v hv)
 simp [loadVar, Sem.run_bind, hS.agg, hS.size, hl]
theorem run_store_bk (hS : StT T n) (H : Bk w g E L) (hn : L.length = n) {M : List Value} (hM : M.length = n) (h1 : M.all (·.oneCell') = true) :
 (storeVar T ⟨g, 0, none⟩ (.agg M.toArray)).run Tryz.prog w = .ok () (w.setRow g M.toArray) := by
 have := run_storeCells_from (P := Tryz.prog) g E M 0 L.toArray w H.row (by simp; omega) (fun v hv => List.all_eq_true.1 h1 v hv)
 simp [storeVar, Sem.run_bind, hS.size, Value.cells, hM, this]
theorem setRow_bk (H : Bk w g E L) (M : List Value) : Bk (w.setRow g M.toArray) g E M ∧ w.grownBy (w.setRow g M.toArray) (some g) := by
 refine ⟨⟨?_⟩, ⟨rfl, rfl, rfl, by simp [World.setRow], fun k _ hne => ?_⟩⟩
 · simp only [World.setRow, Array.getElem?_modify, H.row]; simp
 · simp only [World.setRow, Array.getElem?_modify]
   rw [if_neg (fun e => hne (by rw [e]))]
theorem wp_load_bk (x : Operand) (ho : o.op = .load T x) (hx : a.eval x = .pointer (some ⟨g, 0, none⟩)) (hS : StT T n) (H : Bk w g E L) (hn : L.length = n) (h : K (a.put o.dst (.agg L.toArray)) w) : o.wp Tryz.prog a w K Q := by
 unfold Oper.wp execOp
 simp only [ho, hx, Instr.loadAt, Instr.sureAddr, Sem.run_bind, Sem.run_pure, Result.andThen_ok, run_load_bk hS H hn]
 exact h
theorem lBk (hgd : o.guard = none) (x : Operand) (ho : o.op = .load T x) (hx : a.eval x = .pointer (some ⟨g, 0, none⟩)) (hS : StT T n) (H : Bk w g E L) (hn : L.length = n) (h : wpList Tryz.prog ops Q rest (a.put o.dst (.agg L.toArray)) w) : wpList Tryz.prog ops Q (o :: rest) a w :=
 wpList_plain hgd fun _ hK => wp_load_bk x ho hx hS H hn (hK _ _ h)
theorem wSb (x y : Operand) (ho : o.op = .store T x y) (hx : a.eval x = .pointer (some ⟨g, 0, none⟩)) {M : List Value} (hy : a.eval y = .agg M.toArray) (hS : StT T n) (H : Bk w g E L) (hn : L.length = n) (hM : M.length = n) (h1 : M.all (·.oneCell') = true)
 (h : ∀ w', Bk w' g E M → w.grownBy w' (some g) → K (a.put o.dst undef) w') : o.wp Tryz.prog a w K Q := by
 unfold Oper.wp execOp
 simp only [ho, hx, hy, Instr.storeAt, Instr.sureAddr, Sem.run_bind, Sem.run_pure, Result.andThen_ok, run_store_bk hS H hn hM h1]
 obtain ⟨h2, h3⟩ := setRow_bk H M
 exact h _ h2 h3
theorem sBk (hgd : o.guard = none) (x y : Operand) (ho : o.op = .store T x y) (hx : a.eval x = .pointer (some ⟨g, 0, none⟩)) {M : List Value} (hy : a.eval y = .agg M.toArray) (hS : StT T n) (H : Bk w g E L) (hn : L.length = n) (hM : M.length = n) (h1 : M.all (·.oneCell') = true)
 (h : ∀ w', Bk w' g E M → w.grownBy w' (some g) → wpList Tryz.prog ops Q rest (a.put o.dst undef) w') : wpList Tryz.prog ops Q (o :: rest) a w :=
 wpList_plain hgd fun _ hK => wSb x y ho hx hy hS H hn hM h1 fun w' h2 h3 => hK _ _ (h w' h2 h3)
theorem run_load_sub (hS : StT T n) (H : Bk w g E L) (i : Nat) (M : List Value) (hM : (L.drop i).take n = M) (hn : M.length = n) : (loadVar T ⟨g, i, none⟩).run Tryz.prog w = .ok (.agg M.toArray) w := by
 have hl : (loadCells ⟨g, i, none⟩ n).run Tryz.prog w = .ok M.toArray w := by
  conv => lhs; rw [← hn]
  refine run_loadCells_list (P := Tryz.prog) w ⟨g, i, none⟩ M (fun j v hv => ?_)
  rw [addG']
  have hj := (List.getElem?_eq_some_iff.1 hv).1
  rw [← hM, List.getElem?_take_of_lt (by omega), List.getElem?_drop] at hv
  exact H.bx.c _ v hv
 simp [loadVar, Sem.run_bind, hS.agg, hS.size, hl]
theorem run_store_sub (hS : StT T n) (H : Bk w g E L) (i : Nat) {M : List Value} (hM : M.length = n) (hi : i + n ≤ L.length) (h1 : M.all (·.oneCell') = true) :
 (storeVar T ⟨g, i, none⟩ (.agg M.toArray)).run Tryz.prog w = .ok () (w.setRow g (L.take i ++ M ++ L.drop (i + n)).toArray) := by
 have := run_storeCells_at (P := Tryz.prog) g i E M 0 L.toArray w H.row (by simp; omega) (fun v hv => List.all_eq_true.1 h1 v hv)
 simp only [Nat.add_zero, hM] at this
 simp [storeVar, Sem.run_bind, hS.size, Value.cells, hM, this]
theorem lSb (hgd : o.guard = none) (x : Operand) (ho : o.op = .load T x) {g i : Nat} (hx : a.eval x = .pointer (some ⟨g, i, none⟩)) (M : List Value) (hS : StT T n) (H : Bk w g E L) (hM : (L.drop i).take n = M) (hn : M.length = n) (h : wpList Tryz.prog ops Q rest (a.put o.dst (.agg M.toArray)) w) : wpList Tryz.prog ops Q (o :: rest) a w :=
 wpList_plain hgd fun K hK => by
  unfold Oper.wp execOp
  simp only [ho, hx, Instr.loadAt, Instr.sureAddr, Sem.run_bind, Sem.run_pure, Result.andThen_ok, run_load_sub hS H i M hM hn]
  exact hK _ _ h
theorem wpList_store_sub (hgd : o.guard = none) (x y : Operand) (ho : o.op = .store T x y) {g i : Nat} (hx : a.eval x = .pointer (some ⟨g, i, none⟩)) {M : List Value} (hy : a.eval y = .agg M.toArray) (hS : StT T n) (H : Bk w g E L) (hM : M.length = n) (hi : Nat.ble (i + n) L.length = true) (h1 : M.all (·.oneCell') = true) {L' : List Value} (hL : L.take i ++ M ++ L.drop (i + n) = L')
 (h : ∀ w', Bk w' g E L' → w.grownBy w' (some g) → wpList Tryz.prog ops Q rest (a.put o.dst undef) w') : wpList Tryz.prog ops Q (o :: rest) a w :=
 wpList_plain hgd fun K hK => by
  have hi : i + n ≤ L.length := by simpa using hi
  unfold Oper.wp execOp
  simp only [ho, hx, hy, Instr.storeAt, Instr.sureAddr, Sem.run_bind, Sem.run_pure, Result.andThen_ok, run_store_sub hS H i hM hi h1]
  obtain ⟨h2, h3⟩ := setRow_bk H (L.take i ++ M ++ L.drop (i + n))
  subst hL
  exact hK _ _ (h _ h2 h3)
theorem eLb {o : Oper} {a : Act} (x : Operand) (ho : o.op = .load T x) (hx : a.eval x = .pointer (some ⟨g, 0, none⟩)) (hS : StT T n) (H : Bk w g E L) (hn : L.length = n) : (execOp a.eval o).run Tryz.prog w = .ok (.value (.agg L.toArray)) w := by
 unfold execOp
 simp only [ho, hx, Instr.loadAt, Instr.sureAddr, Sem.run_bind, Sem.run_pure, Result.andThen_ok, run_load_bk hS H hn]
def ocVl : Value → Bool
 | .int _ _ => true
 | .bool _ => true
 | .string _ => true
 | .slice _ _ _ => true
 | _ => false
theorem wp_load_c (x : Operand) (ho : o.op = .load T x) {g i : Nat} (hx : a.eval x = .pointer (some ⟨g, i, none⟩)) (hA : Oc T) (H : Bk w g E L) {v : Value} (hv : L[i]? = some v) (h : K (a.put o.dst v) w) : o.wp Tryz.prog a w K Q := by
 have hc := H.bx.c i v hv
 have hr : (loadVar T ⟨g, i, none⟩).run Tryz.prog w = .ok v w := by
  simp only [loadVar, Sem.run_bind, hA.na, Result.andThen_ok]
  simp [go_sem, hc]
 unfold Oper.wp execOp
 simp only [ho, hx, Instr.loadAt, Instr.sureAddr, Sem.run_bind, Sem.run_pure, Result.andThen_ok, hr]
 exact h
theorem exec_load_c {o : Oper} {a : Act} (x : Operand) (ho : o.op = .load T x) {g i : Nat} (hx : a.eval x = .pointer (some ⟨g, i, none⟩)) (hA : Oc T) (H : Bk w g E L) {v : Value} (hv : L[i]? = some v) : (execOp a.eval o).run Tryz.prog w = .ok (.value v) w := by
 have hc := H.bx.c i v hv
 have hr : (loadVar T ⟨g, i, none⟩).run Tryz.prog w = .ok v w := by
  simp only [loadVar, Sem.run_bind, hA.na, Result.andThen_ok]
  simp [go_sem, hc]
 unfold execOp
 simp only [ho, hx, Instr.loadAt, Instr.sureAddr, Sem.run_bind, Sem.run_pure, Result.andThen_ok, hr]
theorem lCc (hgd : o.guard = none) (x : Operand) (ho : o.op = .load T x) {g i : Nat} (hx : a.eval x = .pointer (some ⟨g, i, none⟩)) (hA : Oc T) (H : Bk w g E L) {v : Value} (hv : L[i]? = some v) (h : wpList Tryz.prog ops Q rest (a.put o.dst v) w) : wpList Tryz.prog ops Q (o :: rest) a w :=
 wpList_plain hgd fun _ hK => wp_load_c x ho hx hA H hv (hK _ _ h)
theorem wp_store_c (x y : Operand) (ho : o.op = .store T x y) {g i : Nat} (hx : a.eval x = .pointer (some ⟨g, i, none⟩)) {v : Value} (hy : a.eval y = v) (hs : Oc T) (H : Bk w g E L) (hi : Nat.blt i L.length = true) (h1 : v.cells = #[v]) (h2 : ocVl v = true)
 (h : ∀ w', Bk w' g E (L.set i v) → w.grownBy w' (some g) → K (a.put o.dst undef) w') : o.wp Tryz.prog a w K Q := by
 have hi : i < L.length := by simpa using hi
 have hc := H.bx.c i _ (List.getElem?_eq_getElem hi)
 have hf := H.bx.fz i
 unfold Oper.wp execOp
 have hr : (storeVar T ⟨g, i, none⟩ v).run Tryz.prog w = .ok () (w.setCell ⟨g, i, none⟩ v) := by
  simp only [storeVar, Sem.run_bind, hs.sz, Result.andThen_ok, h1]
  clear hy h1
  cases v <;> first | (cases h2; done) | (simp [storeCells, go_sem, hc, hf]; done) | (simp [storeCells, store, go_sem, hc, hf]; done)
 simp only [ho, hx, hy, Instr.storeAt, Instr.sureAddr, Sem.run_bind, Sem.run_pure, Result.andThen_ok, hr]
 exact h _ (H.set i v) (setCell_grown w g i v)
theorem sCc (hgd : o.guard = none) (x y : Operand) (ho : o.op = .store T x y) {g i : Nat} (hx : a.eval x = .pointer (some ⟨g, i, none⟩)) {v : Value} (hy : a.eval y = v) (hs : Oc T) (H : Bk w g E L) (hi : Nat.blt i L.length = true) (h1 : v.cells = #[v]) (h2 : ocVl v = true)
 (h : ∀ w', Bk w' g E (L.set i v) → w.grownBy w' (some g) → wpList Tryz.prog ops Q rest (a.put o.dst undef) w') : wpList Tryz.prog ops Q (o :: rest) a w :=
 wpList_plain hgd fun _ hK => wp_store_c x y ho hx hy hs H hi h1 h2 fun w' h3 h4 => hK _ _ (h w' h3 h4)
theorem results_bk {fn : Func} {p : Tmp} (h : fn.results = #[.cell p T]) (tmps : Array Value) (hp : tmps.getD p undef = .pointer (some ⟨g, 0, none⟩)) (hS : StT T n) (H : Bk w g E L) (hn : L.length = n) : (results fn tmps).run Tryz.prog w = .ok (.agg L.toArray) w := by
 have hp' : tmps[p]?.getD undef = .pointer (some ⟨g, 0, none⟩) := by simpa using hp
 simp [results, h, hp', asAddr, run_load_bk hS H hn]
theorem rBt {fn : Func} {p u : Tmp} (h : fn.results = #[.cell p T, .tmp u]) (tmps : Array Value) (hp : tmps.getD p undef = .pointer (some ⟨g, 0, none⟩)) (hS : StT T n) (H : Bk w g E L) (hn : L.length = n) : (results fn tmps).run Tryz.prog w = .ok (.tuple #[.agg L.toArray, tmps.getD u undef]) w := by
 rw [results_cell_tmp h, hp]
 simp [asAddr, run_load_bk hS H hn]
theorem results_bk_tmp2 {fn : Func} {p u u2 : Tmp} (h : fn.results = #[.cell p T, .tmp u, .tmp u2]) (tmps : Array Value) (hp : tmps.getD p undef = .pointer (some ⟨g, 0, none⟩)) (hS : StT T n) (H : Bk w g E L) (hn : L.length = n) : (results fn tmps).run Tryz.prog w = .ok (.tuple #[.agg L.toArray, tmps.getD u undef, tmps.getD u2 undef]) w := by
 have hp' : tmps[p]?.getD undef = .pointer (some ⟨g, 0, none⟩) := by simpa using hp
 simp only [results, h]
 simp [Result.andThen, hp', asAddr, run_load_bk hS H hn]
theorem results_bk_cell {fn : Func} {p u : Tmp} {T2 E2 : TypeId} {g2 : Nat} {v : Value} (h : fn.results = #[.cell p T, .cell u T2]) (tmps : Array Value) (hp : tmps.getD p undef = .pointer (some ⟨g, 0, none⟩)) (hp2 : tmps.getD u undef = .pointer (some ⟨g2, 0, none⟩)) (hS : StT T n) (H : Bk w g E L) (hn : L.length = n) (hA : Oc T2) (H2 : Bk w g2 E2 [v]) :
 (results fn tmps).run Tryz.prog w = .ok (.tuple #[.agg L.toArray, v]) w := by
 have hp' : tmps[p]?.getD undef = .pointer (some ⟨g, 0, none⟩) := by simpa using hp
 have hp2' : tmps[u]?.getD undef = .pointer (some ⟨g2, 0, none⟩) := by simpa using hp2
 have hc := H2.bx.c 0 v rfl
 have hr : (loadVar T2 ⟨g2, 0, none⟩).run Tryz.prog w = .ok v w := by
  simp only [loadVar, Sem.run_bind, hA.na, Result.andThen_ok]
  simp [go_sem, hc]
 simp only [results, h]
 simp [Sem.run_bind, Result.andThen, hp', hp2', asAddr, run_load_bk hS H hn, hr]
end
theorem ocU : Oc 22 := ⟨fun w => by kernel_rfl, fun w => by kernel_rfl⟩
theorem ocI : Oc 3 := ⟨fun w => by kernel_rfl, fun w => by kernel_rfl⟩
theorem ocB : Oc 4 := ⟨fun w => by kernel_rfl, fun w => by kernel_rfl⟩
theorem ocS : Oc 9 := ⟨fun w => by kernel_rfl, fun w => by kernel_rfl⟩
theorem ocV : Oc 31 := ⟨fun w => by kernel_rfl, fun w => by kernel_rfl⟩
theorem ocM : Oc 32 := ⟨fun w => by kernel_rfl, fun w => by kernel_rfl⟩
theorem ocE : Oc 26 := ⟨fun w => by kernel_rfl, fun w => by kernel_rfl⟩
theorem ocL : Oc 23 := ⟨fun w => by kernel_rfl, fun w => by kernel_rfl⟩
theorem ocA {T : TypeId} (h : ([22, 3, 4, 9, 31, 32, 26, 23] : List TypeId).contains T = true) : Oc T := by
 simp only [List.contains_cons, List.contains_nil, Bool.or_false, Bool.or_eq_true, beq_iff_eq] at h
 rcases h with rfl | rfl | rfl | rfl | rfl | rfl | rfl | rfl
 · exact ocU
 · exact ocI
 · exact ocB
 · exact ocS
 · exact ocV
 · exact ocM
 · exact ocE
 · exact ocL
theorem nodeT : StT 34 19 := ⟨fun w => by kernel_rfl, fun w => by kernel_rfl⟩
theorem logT : StT 28 4 := ⟨fun w => by kernel_rfl, fun w => by kernel_rfl⟩
theorem confT : StT 25 2 := ⟨fun w => by kernel_rfl, fun w => by kernel_rfl⟩
theorem messT : StT 59 10 := ⟨fun w => by kernel_rfl, fun w => by kernel_rfl⟩

theorem extract_head {s : ByteArray} {l : List UInt8} (h : s.data.toList = l) (n : Nat) : s.extract 0 n = ⟨(l.take n).toArray⟩ := by
 subst h; apply ByteArray.ext
 apply Array.toList_inj.1
 rw [ByteArray.data_extract, Array.toList_extract]
 simp only [List.extract_eq_take_drop]
 simp
def cutB : List UInt8 → Bool
 | [] => false
 | c :: _ => decide (c.toNat = 99)
theorem str_size (l : List UInt8) : (ByteArray.mk l.toArray).size = l.length := by show l.toArray.size = _; simp
theorem hasPre_any (s : List UInt8) (hs : s.length ≤ 140737488351232) (w : World) : Calls Tryz.prog 184 #[.string ⟨s.toArray⟩, .string ⟨#[99]⟩] w fun e w' => e = .returned (.bool (cutB s)) ∧ w = w' := by
 have hz := str_size s
 cases s with
 | nil =>
  go_enter Tryz.func184, Tryz.ntmps184
  go_wp2_with fail
  go_ret
  exact ⟨rfl, rfl⟩
 | cons c r =>
  have e1 := extract_head (s := ⟨(c :: r).toArray⟩) (l := c :: r) rfl 1
  have e2 : ((ByteArray.mk (c :: r).toArray).extract 0 1).toList = [c] := by rw [e1, ByteArray.toList_eq]; simp
  have e3 : (ByteArray.mk #[99]).toList = [99] := by rw [ByteArray.toList_eq]
  have hl : (1 : Int) ≤ ((r.length : Int) + 1) := by omega
  simp only [List.length_cons] at hz
  by_cases hc : c.toNat = 99
  · obtain rfl : c = 99 := by apply UInt8.toNat_inj.1; simpa using hc
    go_enter Tryz.func184, Tryz.ntmps184
    go_wp2_with fail
    go_ret
    exact ⟨rfl, rfl⟩
  · have g : ([c] == [(99 : UInt8)]) = false := by
     simp; intro h; apply hc; rw [h]; rfl
    go_enter Tryz.func184, Tryz.ntmps184
    go_wp2_with fail
    go_ret
    exact ⟨by simp [cutB, hc], rfl⟩
def cutR (s : List UInt8) : List UInt8 := if cutB s then s.drop 1 else s
theorem cutIn_any (s : List UInt8) (hs : s.length ≤ 140737488351232) (w : World) : Calls Tryz.prog 157 #[.string ⟨s.toArray⟩, .string ⟨#[99]⟩] w fun e w' => e = .returned (.tuple #[.string ⟨(cutR s).toArray⟩, .bool (cutB s)]) ∧ w = w' := by
 have hz := str_size s
 obtain ⟨b, hb⟩ : ∃ b, cutB s = b := ⟨_, rfl⟩
 have HB := hI_ hb
 cases b
 · have HC := hI_ (show cutR s = s by unfold cutR; rw [hb]; rfl)
   clear hb
   go_enter Tryz.func157, Tryz.ntmps157
   go_wp2_with fail
   refine (hasPre_any s hs _).mono ?_
   rintro e w2 ⟨rfl, rfl⟩
   rw [HB.out]
   go_wp2_with fail
   go_ret2
   exact ⟨by rw [HC.out, HB.out]; rfl, rfl⟩
 · have HC := hI_ (show cutR s = s.drop 1 by unfold cutR; rw [hb]; rfl)
   have h1 : 1 ≤ s.length := by
    cases s with
    | nil => cases hb
    | cons c r => simp
   have e2 := extract_drop (s := ⟨s.toArray⟩) (l := s) rfl 1
   rw [hz] at e2
   have i1 : (1 : Int) ≤ (s.length : Int) := by omega
   have E2 := hI_ e2
   clear hb e2
   go_enter Tryz.func157, Tryz.ntmps157
   go_wp2_with fail
   refine (hasPre_any s hs _).mono ?_
   rintro e w2 ⟨rfl, rfl⟩
   rw [HB.out]
   go_wp2_with fail
   go_ret2
   refine ⟨?_, rfl⟩
   rw [HC.out, HB.out]
   first | rfl | (simp [E2.out])
theorem cut_any (s : List UInt8) (hs : s.length ≤ 140737488351232) (w : World) : Calls Tryz.prog 125 #[.string ⟨s.toArray⟩, .string ⟨#[99]⟩] w fun e w' => e = .returned (.tuple #[.string ⟨(cutR s).toArray⟩, .bool (cutB s)]) ∧ w = w' := by
 go_enter Tryz.func125, Tryz.ntmps125
 go_wp2_with fail
 refine (cutIn_any s hs _).mono ?_
 rintro e w2 ⟨rfl, rfl⟩
 go_wp2_with fail
 go_ret2
 exact ⟨rfl, rfl⟩
end Go.Proofs.YtdcpiaoadbbdoaaGreatDoor
