/- The program's parse: the note of a sealed text. -/
import Derived.Test.YtjbhnkigbobhiaaDoorOa
import Derived.Test.YtjbhnkigbobhiaaDoorVa
import Derived.Deep.QuietTactic
import Derived.BigQuiet
import Derived.Deep.RegionHeld3
import Derived.IntWalk
namespace Go.Proofs.YtjbhnkigbobhiaaDoor
open Go.RowKit

set_option maxHeartbeats 4000000 in
theorem pParse_any (s : List UInt8) (hs : s.length ≤ 140737488351232) (w : World) : Calls Tryd.prog 59 #[.string ⟨s.toArray⟩] w (OneP w s) := by
  match s, hs with
  | [], _ =>
    have hf : ∀ w', Below w.heap.size w w' → OneP w [] (.returned (.tuple #[.agg #[.int .i64 0, .int .u64 0, .int .u64 0, .int .u64 0, .string ⟨#[]⟩], .bool false])) w' := fun w' hb => ⟨hb, .inr ⟨rfl, ⟨0, 0, 0, 0, ⟨#[]⟩⟩, rfl⟩⟩
    have HF := Lib.hid hf; clear hf
    have e0 : (ByteArray.mk ([] : List UInt8).toArray).toList = [] := by simp [ByteArray.toList_eq]
    have e1 : (ByteArray.mk ([] : List UInt8).toArray).toList.isEmpty = true := by rw [e0]; rfl
    go_enter Tryd.func59, Tryd.ntmps59
    go_wp2_with fail
    refine bodyPost_ret (v := .tuple #[.agg #[.int .i64 0, .int .u64 0, .int .u64 0, .int .u64 0, .string ⟨#[]⟩], .bool false]) (by simp [results, Tryd.results59, go_sem]) rfl ?_
    refine HF.out _ ?_
    go_grown
  | c :: r, hs =>
    simp only [List.length_cons] at hs
    obtain ⟨l, d, e, hk⟩ : ∃ l d e, tkNums 3 r = (l, d, e) := ⟨_, _, _, rfl⟩
    have hz : (ByteArray.mk (c :: r).toArray).size = r.length + 1 := by rw [size_arr]; rfl
    have hsl : (ByteArray.mk (c :: r).toArray).extract 1 (r.length + 1) = ⟨r.toArray⟩ := by
      have h := extract_drop (s := ByteArray.mk (c :: r).toArray) (l := c :: r) rfl 1
      rw [hz] at h; simpa using h
    have HK := Lib.hid hk
    obtain ⟨ne1, ne2⟩ := isEmpty_of (s := ByteArray.mk (c :: r).toArray) (c := c) (r := r) rfl
    go_enter Tryd.func59, Tryd.ntmps59
    go_wp2_with fail
    refine (takeNums_any 3 r (by omega) (by omega) _).mono ?_
    rintro e1 w2 ⟨v, rfl, hown, B⟩
    rw [show ((3 : Nat) : Int) = 3 from rfl, HK.out] at hown ⊢
    simp only at hown ⊢
    have q0 : w2.cell? ⟨w.heap.size, 0, none⟩ = some (.int .i64 0) := (B.cell (p := ⟨w.heap.size, 0, none⟩) (by simp)).trans (by simp)
    have q1 : w2.cell? ⟨w.heap.size, 1, none⟩ = some (.int .u64 0) := (B.cell (p := ⟨w.heap.size, 1, none⟩) (by simp)).trans (by simp)
    have q2 : w2.cell? ⟨w.heap.size, 2, none⟩ = some (.int .u64 0) := (B.cell (p := ⟨w.heap.size, 2, none⟩) (by simp)).trans (by simp)
    have q3 : w2.cell? ⟨w.heap.size, 3, none⟩ = some (.int .u64 0) := (B.cell (p := ⟨w.heap.size, 3, none⟩) (by simp)).trans (by simp)
    have q4 : w2.cell? ⟨w.heap.size, 4, none⟩ = some (.string ⟨#[]⟩) := (B.cell (p := ⟨w.heap.size, 4, none⟩) (by simp)).trans (by simp)
    have B2 : Below w.heap.size w w2 := ((Below.refl _ w).alloc (Nat.le_refl _) _).trans (B.mono (by simp))
    have hz2 : w.heap.size < w2.heap.size := by have := B.size; simp at this; omega
    have qf : ∀ j, w2.frozen? ⟨w.heap.size, j, none⟩ = false := fun j => (B.frozen (p := ⟨w.heap.size, j, none⟩) (by simp)).trans (by simp)
    have hown2 := hown
    clear B
    by_cases he : e = 0
    · subst he
      by_cases hl3 : l.length = 3
      · match l, hl3 with
        | [i, t, u], _ =>
          rcases hown.2 with ⟨_, h0⟩ | ⟨g, cap, cur, rfl, hg0, hg, _, _, _, htake⟩
          · simp at h0
          have hgl := lt_of_row hg
          have cj : ∀ j x, ([i, t, u].map u64v)[j]? = some x → w2.cell? ⟨g, j, none⟩ = some x := fun j x hx => by
            have h1 := hown.cells (g := g) rfl j x hx
            rw [addHead] at h1; exact h1
          have z0 : w2.cell? ⟨g, 0, none⟩ = some (.int .u64 i) := cj 0 _ rfl
          have z1 : w2.cell? ⟨g, 1, none⟩ = some (.int .u64 t) := cj 1 _ rfl
          have z2 : w2.cell? ⟨g, 2, none⟩ = some (.int .u64 u) := cj 2 _ rfl
          have hone : oneL (c :: r) = if okB ⟨c.toNat, i, t, u, ⟨d.toArray⟩⟩ = true then some ⟨c.toNat, i, t, u, ⟨d.toArray⟩⟩ else none := by
            unfold oneL
            simp only [HK.out]
          have hd : d.length ≤ 140737488351232 := by have h := nums_less 3 r; rw [HK.out] at h; simp only at h; omega
          have x0 : (0 : Int) < (((c :: r).length : Nat) : Int) := by simp
          have hw : IntKind.i64.wrap (((ByteArray.mk (c :: r).toArray)[0]'(by rw [hz]; omega)).toNat : Int) = (c.toNat : Int) := by
            have hc0 : (ByteArray.mk (c :: r).toArray)[0]'(by rw [hz]; omega) = c := rfl
            rw [hc0]; exact IntWalk.i64_in _ (by have := c.toNat_lt; omega)
          have HONE := Lib.hid hone
          clear cj htake hg hown hown2 hg0 hk hone
          go_wp2_with fail
          go_region_held3 (fun w' => w'.cell? ⟨g, 0, none⟩ = some (.int .u64 i) ∧ w'.cell? ⟨g, 1, none⟩ = some (.int .u64 t) ∧ w'.cell? ⟨g, 2, none⟩ = some (.int .u64 u)) (go_keep) (first | fail)
          all_goals
            clear hw
            try go_wp2_with fail
            refine (pValid_any (c.toNat : Int) i t u ⟨d.toArray⟩ _ (by rw [size_arr]; omega)).mono ?_
            rintro e3 w3 ⟨rfl, hb3⟩
            have y0 : w3.cell? ⟨w2.heap.size, 0, none⟩ = some (.int .i64 (c.toNat : Int)) := (hb3.cell (p := ⟨w2.heap.size, 0, none⟩) (by simp)).trans (World.cell?_alloc_at _ _ _ _ rfl)
            have y1 : w3.cell? ⟨w2.heap.size, 1, none⟩ = some (.int .u64 i) := (hb3.cell (p := ⟨w2.heap.size, 1, none⟩) (by simp)).trans (World.cell?_alloc_at _ _ _ _ rfl)
            have y2 : w3.cell? ⟨w2.heap.size, 2, none⟩ = some (.int .u64 t) := (hb3.cell (p := ⟨w2.heap.size, 2, none⟩) (by simp)).trans (World.cell?_alloc_at _ _ _ _ rfl)
            have y3 : w3.cell? ⟨w2.heap.size, 3, none⟩ = some (.int .u64 u) := (hb3.cell (p := ⟨w2.heap.size, 3, none⟩) (by simp)).trans (World.cell?_alloc_at _ _ _ _ rfl)
            have y4 : w3.cell? ⟨w2.heap.size, 4, none⟩ = some (.string ⟨d.toArray⟩) := (hb3.cell (p := ⟨w2.heap.size, 4, none⟩) (by simp)).trans (World.cell?_alloc_at _ _ _ _ rfl)
            have r0 : w3.cell? ⟨w.heap.size, 0, none⟩ = some (.int .i64 0) := (hb3.cell (p := ⟨w.heap.size, 0, none⟩) (by simp; omega)).trans ((World.cell?_alloc_past _ _ _ hz2).trans q0)
            have r1 : w3.cell? ⟨w.heap.size, 1, none⟩ = some (.int .u64 0) := (hb3.cell (p := ⟨w.heap.size, 1, none⟩) (by simp; omega)).trans ((World.cell?_alloc_past _ _ _ hz2).trans q1)
            have r2 : w3.cell? ⟨w.heap.size, 2, none⟩ = some (.int .u64 0) := (hb3.cell (p := ⟨w.heap.size, 2, none⟩) (by simp; omega)).trans ((World.cell?_alloc_past _ _ _ hz2).trans q2)
            have r3 : w3.cell? ⟨w.heap.size, 3, none⟩ = some (.int .u64 0) := (hb3.cell (p := ⟨w.heap.size, 3, none⟩) (by simp; omega)).trans ((World.cell?_alloc_past _ _ _ hz2).trans q3)
            have r4 : w3.cell? ⟨w.heap.size, 4, none⟩ = some (.string ⟨#[]⟩) := (hb3.cell (p := ⟨w.heap.size, 4, none⟩) (by simp; omega)).trans ((World.cell?_alloc_past _ _ _ hz2).trans q4)
            have rf : ∀ j, w3.frozen? ⟨w.heap.size, j, none⟩ = false := fun j => (hb3.frozen (p := ⟨w.heap.size, j, none⟩) (by simp; omega)).trans ((World.frozen?_alloc_past _ _ _ hz2).trans (qf j))
            have B3 : Below w.heap.size w w3 := ((B2.alloc B2.size _).drew).trans (hb3.mono (by simp; have := B2.size; omega))
            obtain ⟨ob, hob⟩ : ∃ ob, okB ⟨(c.toNat : Int), i, t, u, ⟨d.toArray⟩⟩ = ob := ⟨_, rfl⟩
            rw [hob]
            cases ob with
            | true =>
              have hf : ∀ w', Below w.heap.size w w' → OneP w (c :: r) (.returned (.tuple #[.agg #[.int .i64 (c.toNat : Int), .int .u64 i, .int .u64 t, .int .u64 u, .string ⟨d.toArray⟩], .bool true])) w' := fun w' hb => by
                refine ⟨hb, .inl ⟨⟨(c.toNat : Int), i, t, u, ⟨d.toArray⟩⟩, ?_, rfl⟩⟩
                rw [HONE.out, hob]; rfl
              have HF := Lib.hid hf
              clear hb3 q0 q1 q2 q3 q4 qf z0 z1 z2 hf hob
              go_wp2_with fail
              refine bodyPost_ret (v := .tuple #[.agg #[.int .i64 (c.toNat : Int), .int .u64 i, .int .u64 t, .int .u64 u, .string ⟨d.toArray⟩], .bool true]) (by simp [results, Tryd.results59, go_sem, r0, r1, r2, r3, r4]) rfl ?_
              exact HF.out _ (((((B3.setCell (Nat.le_refl _) _).setCell (Nat.le_refl _) _).setCell (Nat.le_refl _) _).setCell (Nat.le_refl _) _).setCell (Nat.le_refl _) _)
            | false =>
              have hf : ∀ w', Below w.heap.size w w' → OneP w (c :: r) (.returned (.tuple #[.agg #[.int .i64 0, .int .u64 0, .int .u64 0, .int .u64 0, .string ⟨#[]⟩], .bool false])) w' := fun w' hb => by
                refine ⟨hb, .inr ⟨?_, ⟨0, 0, 0, 0, ⟨#[]⟩⟩, rfl⟩⟩
                rw [HONE.out, hob]; rfl
              have HF := Lib.hid hf
              clear hb3 q0 q1 q2 q3 q4 qf z0 z1 z2 hf hob
              go_wp2_with fail
              refine bodyPost_ret (v := .tuple #[.agg #[.int .i64 0, .int .u64 0, .int .u64 0, .int .u64 0, .string ⟨#[]⟩], .bool false]) (by simp [results, Tryd.results59, go_sem, r0, r1, r2, r3, r4]) rfl ?_
              exact HF.out _ (((((B3.setCell (Nat.le_refl _) _).setCell (Nat.le_refl _) _).setCell (Nat.le_refl _) _).setCell (Nat.le_refl _) _).setCell (Nat.le_refl _) _)
      · obtain ⟨a, cap, rfl⟩ : ∃ a cap, v = .slice a l.length cap := by
          rcases hown.2 with ⟨rfl, h0⟩ | ⟨g, cap, cur, rfl, _⟩
          · exact ⟨none, 0, by rw [h0]⟩
          · exact ⟨_, cap, rfl⟩
        have hnone : oneL (c :: r) = none := by
          unfold oneL
          simp only [HK.out]
          match l, hl3 with
          | [], _ => rfl
          | [_], _ => rfl
          | [_, _], _ => rfl
          | _ :: _ :: _ :: _ :: _, _ => rfl
          | [_, _, _], h => exact absurd rfl h
        have hl4 : (((l.length : Nat) : Int) == 3) = false := by simp; omega
        have hl5 : ((3 : Int) == ((l.length : Nat) : Int)) = false := by simp; omega
        clear hown hown2
        have hf : ∀ w', Below w.heap.size w w' → OneP w (c :: r) (.returned (.tuple #[.agg #[.int .i64 0, .int .u64 0, .int .u64 0, .int .u64 0, .string ⟨#[]⟩], .bool false])) w' := fun w' hb => ⟨hb, .inr ⟨hnone, ⟨0, 0, 0, 0, ⟨#[]⟩⟩, rfl⟩⟩
        have HF := Lib.hid hf; clear hf
        go_wp2_with fail
        refine bodyPost_ret (v := .tuple #[.agg #[.int .i64 0, .int .u64 0, .int .u64 0, .int .u64 0, .string ⟨#[]⟩], .bool false]) (by simp [results, Tryd.results59, go_sem, q0, q1, q2, q3, q4]) rfl ?_
        exact HF.out _ (((((B2.setCell (Nat.le_refl _) _).setCell (Nat.le_refl _) _).setCell (Nat.le_refl _) _).setCell (Nat.le_refl _) _).setCell (Nat.le_refl _) _)
    · have hnone : oneL (c :: r) = none := by
        unfold oneL
        simp only [HK.out]
        match l, e, he with
        | [], _, _ => rfl
        | [_], _, _ => rfl
        | [_, _], _, _ => rfl
        | _ :: _ :: _ :: _ :: _, _, _ => rfl
        | [_, _, _], 0, h => exact absurd rfl h
        | [_, _, _], _ + 1, _ => rfl
      have he2 : (((e : Nat) : Int) == 0) = false := by simpa using he
      obtain ⟨a, cap, rfl⟩ : ∃ a cap, v = .slice a l.length cap := by
        rcases hown.2 with ⟨rfl, h0⟩ | ⟨g, cap, cur, rfl, _⟩
        · exact ⟨none, 0, by rw [h0]⟩
        · exact ⟨_, cap, rfl⟩
      clear hown hown2 he hk
      have hf : ∀ w', Below w.heap.size w w' → OneP w (c :: r) (.returned (.tuple #[.agg #[.int .i64 0, .int .u64 0, .int .u64 0, .int .u64 0, .string ⟨#[]⟩], .bool false])) w' := fun w' hb => ⟨hb, .inr ⟨hnone, ⟨0, 0, 0, 0, ⟨#[]⟩⟩, rfl⟩⟩
      have HF := Lib.hid hf; clear hf
      go_wp2_with fail
      refine bodyPost_ret (v := .tuple #[.agg #[.int .i64 0, .int .u64 0, .int .u64 0, .int .u64 0, .string ⟨#[]⟩], .bool false]) (by simp [results, Tryd.results59, go_sem, q0, q1, q2, q3, q4]) rfl ?_
      exact HF.out _ (((((B2.setCell (Nat.le_refl _) _).setCell (Nat.le_refl _) _).setCell (Nat.le_refl _) _).setCell (Nat.le_refl _) _).setCell (Nat.le_refl _) _)
end Go.Proofs.YtjbhnkigbobhiaaDoor
