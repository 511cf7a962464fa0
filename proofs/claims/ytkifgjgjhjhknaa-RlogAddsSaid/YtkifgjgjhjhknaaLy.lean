/- The document's From; its Add and the program's. -/
import Derived.Test.YtkifgjgjhjhknaaLx
import Derived.Outline
import Derived.RegionTactic
namespace Go.Proofs.Ytkifgjgjhjhknaa
open Go.RowKit

theorem addHd (b j : Nat) : (⟨b, 0, none⟩ : Addr).add j = ⟨b, j, none⟩ := by unfold Addr.add; split <;> simp_all
theorem enOne (x : En) : ∀ u ∈ enCells x, u.oneCell' = true := by
  intro u hu; simp only [enCells, List.mem_cons, List.not_mem_nil, or_false] at hu; rcases hu with rfl | rfl <;> rfl
theorem enNew (w : World) (m : Nat) (hm : m = w.heap.size) (x : En) (T : TypeId) : ∀ j u, (enCells x)[j]? = some u → (w.alloc (.cells #[.int .u64 (x.t : Nat), .string x.d] T)).cell? ((⟨m, 0, none⟩ : Addr).add j) = some u := by
  subst hm; intro j u hj; rw [addHd]; exact (World.cell?_alloc_at _ _ _ _ (by simp)).trans (by rw [List.getElem?_toArray.symm] at hj; exact hj)
/-- A row of the call's own, one entry more. -/
theorem own_more {B : Nat} {w3 : World} {v' : Value} {S : List En} {x : En} (h : w3.ownsRow B 39 2 v' (S.length + 1) (esCells S ++ enCells x)) : w3.ownsRow B 39 2 v' (S ++ [x]).length (esCells (S ++ [x])) := by
  rw [List.length_append, esCells_snoc]; simpa using h
theorem owns_mono' {w : World} {B B' : Nat} {e : TypeId} {size : Nat} {v : Value} {n : Nat} {xs : List Value} (h : w.ownsRow B e size v n xs) (hB : B' ≤ B) : w.ownsRow B' e size v n xs := by
  refine ⟨h.1, ?_⟩
  rcases h.2 with h2 | ⟨g, cap, cur, e1, e2, rest⟩
  · exact .inl h2
  · exact .inr ⟨g, cap, cur, e1, Nat.le_trans hB e2, rest⟩
theorem drop_take_more {L : List En} {d q : Nat} {x : En} (h : L[d + q]? = some x) : (L.drop d).take (q + 1) = (L.drop d).take q ++ [x] := by
  rw [List.take_add_one, List.getElem?_drop, h]; rfl
set_option maxHeartbeats 2000000 in
theorem rFrom_any (base bt n c i : Nat) (most : Int) (hm0 : -9223372036854775808 ≤ most) (hm1 : most ≤ 9223372036854775807) (snap : ByteArray) (a : Option Addr) (L : List En) (hn : L.length = n) (hl : n * 24 ≤ 140737488351232) (hb : base < 4611686018427387904) (hi : i < 18446744073709551616) (w : World) (hE : Ents w a L) :
    Calls Try.prog 19 #[.agg #[.int .u64 base, .int .u64 bt, .string snap, .slice a n c], .int .u64 i, .int .i64 most] w (FrP w (fromL base L i most) (decide (base < i))) := by
  by_cases h0 : i ≤ base
  · have hf : ∀ w', Below w.heap.size w w' → FrP w (fromL base L i most) (decide (base < i)) (.returned (.tuple #[.slice none 0 0, .bool false])) w' := fun w' hB => by
      unfold fromL; rw [if_pos h0, decide_eq_false (by omega)]; exact ⟨none, 0, rfl, Ents.nil _ _, hB⟩
    have HF := Lib.hid hf
    clear hf hE hn
    have g : (i : Int) ≤ (base : Int) := by omega
    go_enter Try.func19, Try.ntmps19
    go_wp2_with fail
    go_ret2
    exact HF.out _ (by go_grown)
  obtain ⟨i0, hinf, hz0, hz1, hz2⟩ := info_parts infoEntry
  obtain ⟨d, hd⟩ : ∃ d, i - 1 - base = d := ⟨_, rfl⟩
  have hid : i = base + 1 + d := by omega
  have hf : ∀ (B : Nat) w' v q, w'.ownsRow B 39 2 v ((L.drop d).take q).length (esCells ((L.drop d).take q)) → (n ≤ d + q ∨ most.toNat = q) → (q : Int) ≤ max most 0 → Below w.heap.size w w' → FrP w (fromL base L i most) (decide (base < i)) (.returned (.tuple #[v, .bool true])) w' := fun B w' v q ho hq hq2 hB => by
    unfold fromL; rw [if_neg h0, decide_eq_true (by omega), hd]
    have e : (L.drop d).take most.toNat = (L.drop d).take q := by
      rcases hq with h | h
      · rw [List.take_of_length_le (by rw [List.length_drop]; omega), List.take_of_length_le (by rw [List.length_drop]; omega)]
      · rw [h]
    rw [e]
    obtain ⟨a', c', rfl, hE', _⟩ := ents_of_owns ho
    exact ⟨a', c', rfl, hE', hB⟩
  have HF := Lib.hid hf
  have HN := Lib.hid hn
  have g : ¬ (i : Int) ≤ (base : Int) := by omega
  obtain ⟨I, hI⟩ : ∃ I : Int, (i : Int) = I := ⟨_, rfl⟩
  have B0 : Below w.heap.size w (w.alloc (.cells #[.int .u64 base, .int .u64 bt, .string snap, .slice a n c] 25)) := (Below.refl _ _).alloc (Nat.le_refl _) _
  have hE0 := hE.later B0
  have hL := Lb.new (w := w) rfl base bt snap (.slice a n c) 25
  have e1 : IntKind.u64.wrap (I - (base : Int)) = (d : Int) + 1 := by rw [IntWalk.u64_in _ (by omega)]; omega
  have e2 : I - (base : Int) = (d : Int) + 1 := by omega
  have hd64 : (d : Int) + 1 < 18446744073709551616 := by omega
  rw [hI] at g ⊢
  have HI := Lib.hid hI
  have HID := Lib.hid hid
  have HD := Lib.hid hd
  have h0' : w.heap.size < (w.alloc (.cells #[.int .u64 base, .int .u64 bt, .string snap, .slice a n c] 25)).heap.size := by simp
  clear hf hn hE h0 hI hid hd hi
  go_enter Try.func19, Try.ntmps19
  go_wp2_with fail
  generalize w.alloc (.cells #[.int .u64 base, .int .u64 bt, .string snap, .slice a n c] 25) = W at *
  go_loopw [8, 9] (fun V j wr => ∃ k q : Nat, k ≤ n ∧ q = k - d ∧ (q : Int) ≤ max most 0 ∧ j = .int .i64 k ∧ wr.ownsRow W.heap.size 39 2 V ((L.drop d).take q).length (esCells ((L.drop d).take q)) ∧ Below W.heap.size W wr) (fun _ j _ => n - (intOf j).toNat)
  case atStart => exact ⟨0, 0, Nat.zero_le _, by omega, by omega, rfl, by simpa [esCells] using World.ownsRow_nil W W.heap.size 39 2, Below.refl _ _⟩
  case round =>
    obtain ⟨k, q, hk, hq, hqm, rfl, hown, B⟩ := hrel
    obtain ⟨l0, l1, l2, l3, _, _⟩ := hL.later B
    have hqlen : ((L.drop d).take q).length = q := by rw [List.length_take, List.length_drop]; have := HN.out; omega
    have HQ := Lib.hid hq
    clear hq
    obtain ⟨S, hS⟩ : ∃ S, (L.drop d).take q = S := ⟨_, rfl⟩
    rw [hS] at hown hqlen
    have hfin := fun ho h1 => HF.out W.heap.size wr u8 q ho h1 hqm (B0.trans (B.mono B0.size))
    rw [hS] at hfin
    obtain ⟨a', c', rfl, _, _⟩ := ents_of_owns hown
    rw [hqlen] at hown hfin ⊢
    have HFI := Lib.hid hfin
    have HSS := Lib.hid hS
    have HQL := Lib.hid hqlen
    clear hqlen hS hfin
    by_cases hlt : k < n
    · have i0' : (0 : Int) ≤ (k : Int) := by omega
      have i1 : (k : Int) < (n : Int) := by omega
      by_cases hmo : (q : Int) < most
      · have hkl : k < L.length := by have := HN.out; omega
        obtain ⟨x, hx⟩ : ∃ x, L[k]? = some x := ⟨_, List.getElem?_eq_getElem hkl⟩
        by_cases hdk : d ≤ k
        · obtain ⟨b, off, rfl, hbb, p0, p1⟩ := (hE0.later B) k x hx
          have hmore := drop_take_more (L := L) (d := d) (q := q) (x := x) (by rw [show d + q = k by have := HQ.out; omega]; exact hx)
          have g2 : (d : Int) ≤ (k : Int) := by omega
          have hqn : q ≤ k := by have := HQ.out; omega
          have HX := Lib.hid hx
          have HM := Lib.hid hmore
          clear hx hmore
          obtain ⟨T, D⟩ := x
          simp only at p0 p1
          go_wp2_with (at_builtin; refine wpList_append_own _ rfl _ _ 23 rfl W.heap.size 39 i0 (.agg #[.int .u64 0, .string ⟨#[]⟩]) 2 24 Try.underlying23 hinf hz0 hz1 hz2 rfl (by decide) _ _ _ rfl (hown.alloc _) ⟨wr.heap.size, 0, none⟩ 1 1 (enCells ⟨T, D⟩) rfl rfl (enNew wr _ rfl ⟨T, D⟩ _) (enOne _) ?c3 ?c4 ?c5 ?_)
          case c3 => unfold maxLen; omega
          case c4 => omega
          case c5 => have := B.size; simp; omega
          intro v' w3 hown3 hgrow _
          have B3 : Below W.heap.size W w3 := (B.alloc B.size _).grown hgrow (by have := B.size; simp; omega) (fun j e => (hown.lt j e).1)
          rw [← HQL.out] at hown3
          have hown4 := own_more hown3
          rw [← HSS.out, ← HM.out] at hown4
          have HO := Lib.hid hown4
          clear hown hown3 hown4 hgrow
          go_wp2_with fail
          go_roundw
          case rel => exact ⟨k + 1, q + 1, by omega, by have := HQ.out; omega, by omega, by go_num, HO.out, B3⟩
          case measure => simp [intOf]; omega
        · have g2 : ¬ (d : Int) ≤ (k : Int) := by omega
          have hown4 : wr.ownsRow W.heap.size 39 2 (.slice a' q c') ((L.drop d).take q).length (esCells ((L.drop d).take q)) := by rw [HSS.out, HQL.out]; exact hown
          have HO := Lib.hid hown4
          clear hown4
          have HX := Lib.hid hx
          clear hown hx
          go_wp2_with fail
          go_roundw
          case rel => exact ⟨k + 1, q, by omega, by have := HQ.out; omega, by omega, by go_num, HO.out, B⟩
          case measure => simp [intOf]; omega
      · have HG := Lib.hid (HFI.out hown (.inr (by omega)))
        clear hown
        go_wp2_with fail
        go_ret2
        exact HG.out
    · have HG := Lib.hid (HFI.out hown (.inl (by have := HQ.out; omega)))
      clear hown
      go_wp2_with fail
      go_ret2
      exact HG.out
end Go.Proofs.Ytkifgjgjhjhknaa
