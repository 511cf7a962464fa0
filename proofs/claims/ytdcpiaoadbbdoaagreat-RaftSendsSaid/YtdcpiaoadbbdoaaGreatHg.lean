/- slices.Insert at numbers: at the end; amid, with room; amid, without. -/
import Derived.Test.YtdcpiaoadbbdoaaGreatBulk
import Derived.Test.YtdcpiaoadbbdoaaGreatGe
import Derived.Shelf.Spec.SlicesInsertGrow
import Derived.RegionTactic
import Derived.Deep.RegionLaw
set_option maxRecDepth 100000
set_option maxHeartbeats 16000000
namespace Go.Proofs.YtdcpiaoadbbdoaaGreat
open Go.RowKit Go.Lib

def InP (B : Nat) (w : World) (M : List Nat) (e : Ending) (w' : World) : Prop := ∃ a c, e = .returned (.slice a M.length c) ∧ Us w' a M ∧ (0 < M.length → ∀ q, a = some q → B ≤ q.block) ∧ Below B w w'
theorem sizeU64 : (Tryz.prog.info? 22).map (·.size) = some 1 := by
 obtain ⟨i0, hi0, _, h1, _⟩ := info_parts infoU64
 rw [hi0]; simp [h1]
theorem below_setCellsH {B b : Nat} {w w' : World} (hb : B ≤ b) : ∀ (vs : List Value) (o : Nat) (W : World), Below B w W → w' = W.setCells b o vs → Below B w w'
 | [], _, _, h, e => by rw [e]; exact h
 | v :: r, o, W, h, e => below_setCellsH hb r (o + 1) (W.setCell ⟨b, o, none⟩ v) (h.setCell hb v) e
theorem usCells_drop (L : List Nat) (i : Nat) : (usCells L).drop i = usCells (L.drop i) := by simp [usCells, List.map_drop]
theorem usCells_take (L : List Nat) (i : Nat) : (usCells L).take i = usCells (L.take i) := by simp [usCells, List.map_take]
structure RwH (B : Nat) (w : World) (g n c : Nat) (L : List Nat) : Prop where
 base : B ≤ g
 lt : g < w.heap.size
 len : L.length = n
 cap : n ≤ c
 c63 : c ≤ 9223372036854775807
 shape : w.shape? g = some (22, c)
 has : ∀ j, j < c → (w.cell? ⟨g, j, none⟩).isSome = true
 fz : ∀ j, w.frozen? ⟨g, j, none⟩ = false
 mem : Us w (some ⟨g, 0, none⟩) L
theorem rwH_of_owns {B : Nat} {w : World} {g n c : Nat} {L : List Nat} (hn : L.length = n) (h : w.ownsRow B 22 1 (.slice (some ⟨g, 0, none⟩) n c) n (usCells L)) : RwH B w g n c L := by
 subst hn
 have hu := us_of_owns h
 obtain ⟨a, cap, e, hcap, hU, hf⟩ := hu
 cases e
 rcases h.2 with ⟨e, _⟩ | ⟨g', cap', cur, e, hB, hg, h1, h2, h3, _⟩
 · cases e
 · cases e
   have hs : cur.size = c := by omega
   refine ⟨hB, lt_of_rowG hg, rfl, h1, h2, by simp [World.shape?, hg, hs], fun j hj => ?_, fun j => by simp [World.frozen?, hg], hU⟩
   rw [cell_of_row w g _ cur _ _ hg, Array.getElem?_eq_getElem (by omega)]; rfl
theorem us_shape {w : World} {x : Nat} {T : TypeId} : (w.alloc (.cells #[.int .u64 (x : Nat)] T)).shape? w.heap.size = some (T, 1) := by unfold World.shape?; rw [heap_alloc_new]; rfl
end Go.Proofs.YtdcpiaoadbbdoaaGreat
