/- The closures of Ask and Has; slices.IndexFunc over any closure; Has, Elder: the program's. -/
import Derived.Test.YtfidgnhinllhlaaVs
namespace Go.Proofs.Ytfidgnhinllhlaa
open Go.RowKit

/-- Where the first one lies of which f is true. -/
def FsG {α : Type} (f : α → Bool) (L : List α) (k : Int) : Prop := (k = -1 ∧ ∀ x ∈ L, f x = false) ∨ ∃ (j : Nat) (x : α), k = (j : Int) ∧ L[j]? = some x ∧ f x = true ∧ ∀ i, i < j → ∀ y : α, L[i]? = some y → f y = false
/-- One value in a box. -/
structure B1 (w : World) (h : Nat) (v : Value) : Prop where
  c : w.cell? ⟨h, 0, none⟩ = some v
  lt : h < w.heap.size
theorem B1.later {w w' : World} {h : Nat} {v : Value} (H : B1 w h v) (hb : Below w.heap.size w w') : B1 w' h v := ⟨(hb.cell (p := ⟨h, 0, none⟩) H.lt).trans H.c, Nat.lt_of_lt_of_le H.lt hb.size⟩
theorem B1.grown {w w' : World} {h g : Nat} {v : Value} (H : B1 w h v) (hg : w.grownBy w' (some g)) (hne : h ≠ g) : B1 w' h v := ⟨(World.cell?_of_block (a := ⟨h, 0, none⟩) (hg.block h H.lt (by simpa using hne))).trans H.c, Nat.lt_of_lt_of_le H.lt hg.size⟩
theorem TxBox.grown {w w' : World} {h g : Nat} {x : Tx} (H : TxBox w h x) (hg : w.grownBy w' (some g)) (hne : h ≠ g) : TxBox w' h x := ⟨Nat.lt_of_lt_of_le H.lt hg.size, (World.cell?_of_block (a := ⟨h, 0, none⟩) (hg.block h H.lt (by simpa using hne))).trans H.c0, (World.cell?_of_block (a := ⟨h, 1, none⟩) (hg.block h H.lt (by simpa using hne))).trans H.c1⟩
/-- What a closure over locks answers, whatever comes behind a world. -/
def ClF (fn : Nat) (caps : Array Value) (f : Ho → Bool) (w : World) : Prop := ∀ (x : Ho) (w' : World), okA x.key x.t → Below w.heap.size w w' → Calls Try.prog fn (#[hoV x] ++ caps) w' fun e w2 => e = .returned (.bool (f x)) ∧ Below w'.heap.size w' w2
theorem ClF.later {fn : Nat} {caps : Array Value} {f : Ho → Bool} {w w' : World} (h : ClF fn caps f w) (hb : Below w.heap.size w w') : ClF fn caps f w' := fun x w2 ho h2 => h x w2 ho (hb.trans (h2.mono hb.size))
set_option maxRecDepth 100000 in
set_option maxHeartbeats 2000000 in
theorem index_any (fn : Nat) (caps : Array Value) (f : Ho → Bool) (n c : Nat) (a : Option Addr) (L : List Ho) (hn : L.length = n) (hl : n ≤ 140737488351232) (hs : smallH L) (w : World) (hR : ∀ (x : Ho) (w : World), (callFunc fn (#[.agg #[.string x.key, .int .u64 (x.t.age : Nat), .int .u64 (x.t.id : Nat), .bool x.wr]] ++ caps)).run Try.prog w = .ok (.enter fn (#[.agg #[.string x.key, .int .u64 (x.t.age : Nat), .int .u64 (x.t.id : Nat), .bool x.wr]] ++ caps)) w) (H : ClF fn caps f w) (hM : Hos w a L) :
    Calls Try.prog 24 #[.slice a n c, .func (.func fn) #[] caps] w fun e w' => (∃ k : Int, e = .returned (.int .i64 k) ∧ FsG f L k) ∧ Below w.heap.size w w' := by
  have HN := Lib.hid hn
  have HM := Lib.hid hM
  have HC := Lib.hid H
  have HS := Lib.hid hs
  clear hn hM H hs
  go_enter Try.func24, Try.ntmps24
  go_wp2_with fail
  go_loopw [8] (fun u wr => ∃ k : Nat, k ≤ n ∧ u = .int .i64 k ∧ (∀ i, i < k → ∀ y : Ho, L[i]? = some y → f y = false) ∧ Below w.heap.size w wr) (fun u _ => n - (intOf u).toNat)
  case atStart => exact ⟨0, Nat.zero_le _, rfl, fun i hi => absurd hi (Nat.not_lt_zero _), Below.refl _ _⟩
  case round =>
    obtain ⟨k, hk, rfl, hf, B⟩ := hrel
    have HFB := Lib.hid hf
    clear hf
    by_cases hlt : k < n
    · obtain ⟨x, hx⟩ : ∃ x, L[k]? = some x := ⟨_, List.getElem?_eq_getElem (by rw [HN.out]; exact hlt)⟩
      obtain ⟨b, off, rfl, hb, p0, p1, p2, p3⟩ := Hos.cells (HM.out.later B) hx
      have HBB := Lib.hid B
      have HX := Lib.hid hx
      have hxo := HS.out x (List.mem_of_getElem? hx)
      have i0 : (0 : Int) ≤ (k : Int) := by omega
      have i1 : (k : Int) < (n : Int) := by omega
      clear hx B
      go_wp2_with fail
      refine (HC.out x _ hxo HBB.out).mono ?_
      rintro e w2 ⟨rfl, hb2⟩
      have HB3 := Lib.hid (HBB.out.trans (hb2.mono HBB.out.size))
      clear hb2
      by_cases he : f x = true
      · rw [he]
        have HT := Lib.hid (show FsG f L k from Or.inr ⟨k, x, rfl, HX.out, he, HFB.out⟩)
        clear he
        go_wp2_with fail
        go_ret
        exact ⟨⟨k, rfl, HT.out⟩, HB3.out⟩
      · have he : f x = false := by simpa using he
        rw [he]
        have HT := Lib.hid (show ∀ i, i < k + 1 → ∀ y : Ho, L[i]? = some y → f y = false from fun i hi y hy => by
          by_cases hik : i = k
          · subst hik; have := HX.out; rw [hy] at this; cases this; exact he
          · exact HFB.out i (by omega) y hy)
        clear he
        go_wp2_with fail
        go_roundw
        case rel => exact ⟨k + 1, by omega, by go_num, HT.out, HB3.out⟩
        case measure => simp [intOf]; omega
    · have HT := Lib.hid (show FsG f L (-1) from Or.inl ⟨rfl, fun y hy => by
        obtain ⟨j, hj⟩ := List.mem_iff_getElem?.1 hy
        exact HFB.out j (by have := (List.getElem?_eq_some_iff.1 hj).1; have := HN.out; omega) y hj⟩)
      go_wp2_with fail
      go_ret
      exact ⟨⟨-1, rfl, HT.out⟩, B⟩
end Go.Proofs.Ytfidgnhinllhlaa
