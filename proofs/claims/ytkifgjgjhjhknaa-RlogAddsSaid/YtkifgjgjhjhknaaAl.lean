/- Arguments that are logs, entries, or hold them: what their reading gives. -/
import Derived.Test.YtkifgjgjhjhknaaEn
import Derived.Test.YtkifgjgjhjhknaaBulk
import Derived.Deep.Slices
import Derived.Deep.Fields
import Derived.Deep.Strs
import Derived.SizedLaws
import Derived.OpenShut
import Derived.ProofKit
import Derived.Lib.SmallJoins
namespace Go.Proofs.Ytkifgjgjhjhknaa
open Go.ChangeShapes Go.WideShapes Go.ChangeAt Go.RowKit Go.Deep Go.Joins

theorem u64_nat {z : Int} (h : (Lit.int .u64 z).wf = true) : ∃ n : Nat, z = n ∧ n < 18446744073709551616 := by
  have hb := bounds_u64 h
  exact ⟨z.toNat, by omega, by omega⟩
theorem cellsU64 : Try.prog.cellsOf 22 = 1 := by kernel_rfl
theorem cellsString : Try.prog.cellsOf 9 = 1 := by kernel_rfl
theorem cellsEn : Try.prog.cellsOf 39 = 2 := by kernel_rfl
theorem bytesEn : Try.prog.bytesOf 39 = 24 := by kernel_rfl
theorem cellsEns : Try.prog.cellsOf 23 = 1 := by kernel_rfl
theorem cellsLog : Try.prog.cellsOf 25 = 4 := by kernel_rfl
/-- What entries that came in are known for. -/
structure EnRow {H : Type} (W : World) (a : Option Addr) (n c : Nat) (L : List En) (d : DataW H) : Prop where
  hlen : L.length = n
  hcap : n ≤ c
  hmax : c ≤ maxLen
  nums : ∀ x ∈ L, x.t < 18446744073709551616
  mem : Ents W a L
  bulk : n ≤ Rows.uptoBulk d
  room : (∀ q ∈ d.weights Try.prog 23, q ≤ 140737488351232) → n * 24 ≤ 140737488351232
theorem bulkAll_len {H : Type} (l : List (DataW H)) : l.length ≤ Rows.uptoBulkAll l := by
  induction l with
  | nil => exact Nat.le_refl _
  | cons x r ih =>
    have h1 : 1 ≤ Rows.uptoBulk x := by
      cases x with
      | lit l => cases l <;> simp [Rows.uptoBulk]
      | _ => simp [Rows.uptoBulk]
    simp only [Rows.uptoBulkAll, List.length_cons]; omega
theorem enRow_of {H : Type} {enc : TypeId × Value → H} {W : World} {fuel : Nat} {c : Value} {y : DataW H × List MemPlace}
    (hf : DataW.trod enc Try.prog W 0 (fun _ => true) true fuel 23 [c] = some y) (hlt : ∀ x ∈ y.2, x.block < W.heap.size) : ∃ a len cap L, c = .slice a len cap ∧ EnRow W a len cap L y.1 := by
  obtain ⟨d, p⟩ := y
  rcases open_slice Try.underlying23 hf with ⟨hcs, hx⟩ | ⟨a', len, cap', m, n, D, Pl, hcs, _, hl, hm, hmm, hx, hi⟩
  · simp at hcs
    subst hcs
    exact ⟨none, 0, 0, [], rfl, rfl, Nat.le_refl _, by decide, by simp, Ents.nil _ _, Nat.zero_le _, fun _ => by omega⟩
  · simp at hcs
    subst hcs
    simp only [Prod.mk.injEq] at hx
    obtain ⟨rfl, rfl⟩ := hx
    simp only [if_true] at hmm
    subst hmm
    simp only at hlt
    obtain ⟨b, off, spot⟩ := a'
    have hspot : 0 < len → spot = none := by
      intro h0
      obtain ⟨cs', hc, _⟩ := hi 0 (by omega)
      rw [cellsEn] at hc
      obtain ⟨_, hcl, hat⟩ := World.cells?_some hc
      have s0 := hat 0 (by omega)
      match cs', hcl with
      | [c0, c1], _ => simpa [Addr.add] using World.cell?_spot s0
    have hone : ∀ i, ∃ x : En, i < len → x.t < 18446744073709551616 ∧ spot = none ∧ b < W.heap.size ∧
        W.cell? ⟨b, off + i * 2, none⟩ = some (.int .u64 x.t) ∧ W.cell? ⟨b, off + i * 2 + 1, none⟩ = some (.string x.d) := by
      intro i
      by_cases hil : i < len
      · obtain ⟨cs', hc, ht⟩ := hi i (by omega)
        rw [cellsEn] at hc
        obtain ⟨_, hcl, hat⟩ := World.cells?_some hc
        obtain ⟨y0, y1, n', hy, _, t0, t1⟩ := trod_struct2 Try.underlying39 ht
        match cs', hcl with
        | [c0, c1], _ =>
          obtain ⟨zt, e0, h0, wt⟩ := DataW.trod_int Try.underlying22 t0
          obtain ⟨s, e1, h1, _⟩ := DataW.trod_string Try.underlying9 t1
          simp only [cellsU64, cellsString] at e0 e1
          simp at e0 e1
          subst e0 e1
          have s0 := hat 0 (by omega)
          have s1 := hat 1 (by omega)
          obtain rfl := hspot (by omega)
          rw [add_plain, add_plain] at s0 s1
          obtain ⟨nt, rfl, bt⟩ := u64_nat wt
          refine ⟨⟨nt, s⟩, fun _ => ⟨bt, rfl, ?_, ?_, ?_⟩⟩
          · exact hlt (.cell b off) (List.mem_append.2 (.inl (MemPlace.mem_row.2 ⟨0, by rw [cellsEn]; omega, by simp⟩)))
          · simpa using s0
          · simpa using s1
      · exact ⟨⟨0, ⟨#[]⟩⟩, fun h => absurd h hil⟩
    have hget : ∀ i x, ((List.range len).map fun i => Classical.choose (hone i))[i]? = some x → i < len ∧ x = Classical.choose (hone i) := fun i x hx => by
      have hil : i < len := by have := (List.getElem?_eq_some_iff.1 hx).1; simpa using this
      rw [List.getElem?_map, List.getElem?_range hil] at hx
      exact ⟨hil, (Option.some.inj hx).symm⟩
    refine ⟨_, len, m, (List.range len).map fun i => Classical.choose (hone i), rfl, by simp, hl, hm, fun x hx => ?_, fun i x hx => ?_, ?_, fun hw => ?_⟩
    · obtain ⟨i, hi, rfl⟩ := List.mem_map.1 hx
      exact (Classical.choose_spec (hone i) (List.mem_range.1 hi)).1
    · obtain ⟨hil, rfl⟩ := hget i x hx
      obtain ⟨_, g3, g4, g5, g6⟩ := Classical.choose_spec (hone i) hil
      exact ⟨b, off, by rw [g3], g4, g5, g6⟩
    · have h1 := bulkAll_len ((List.range len).map D)
      simp only [List.length_map, List.length_range] at h1
      simp only [Rows.uptoBulk]; omega
    · have hreach := hw (((List.range len).map D).length * Try.prog.bytesOf 39 + ((List.range (m - len)).map fun j => D (len + j)).length * Try.prog.bytesOf 39) (by
        simp only [DataW.weights, Try.underlying23, List.mem_cons]
        left; rw [Nat.add_mul])
      rw [bytesEn] at hreach
      simp only [List.length_map, List.length_range] at hreach
      omega
/-- What a log that came in is known for. -/
structure LgRow {H : Type} (W : World) (cs : List Value) (base bt : Nat) (snap : ByteArray) (a : Option Addr) (n c : Nat) (L : List En) (d : DataW H) (e : DataW H) (s : DataW H) : Prop where
  cells : cs = [.int .u64 base, .int .u64 bt, .string snap, .slice a n c]
  hbase : base < 18446744073709551616
  hbt : bt < 18446744073709551616
  row : EnRow W a n c L e
  snapS : s = .lit (.string snap.data.toList)
  datum : ∃ d0 d1, d = .agg [d0, d1, s, e]
theorem lgRow_of {H : Type} {enc : TypeId × Value → H} {W : World} {fuel : Nat} {cs : List Value} {y : DataW H × List MemPlace} (hsz : cs.length = 4)
    (hf : DataW.trod enc Try.prog W 0 (fun _ => true) true fuel 25 cs = some y) (hlt : ∀ x ∈ y.2, x.block < W.heap.size) : ∃ base bt snap a n c L e s, LgRow W cs base bt snap a n c L y.1 e s := by
  obtain ⟨z0, z1, z2, z3, n2, hz, _, u0, u1, u2, u3⟩ := trod_struct4 Try.underlying25 hf
  match cs, hsz with
  | [c0, c1, c2, c3], _ =>
    obtain ⟨zb, e2, h2, wb⟩ := DataW.trod_int Try.underlying22 u0
    obtain ⟨zbt, e3, h3, wbt⟩ := DataW.trod_int Try.underlying22 u1
    obtain ⟨s, e4, h4, _⟩ := DataW.trod_string Try.underlying9 u2
    simp only [cellsU64, cellsString] at e2 e3 e4
    simp at e2 e3 e4
    subst e2 e3 e4
    have u3' : DataW.trod enc Try.prog W 0 (fun _ => true) true n2 23 [c3] = some z3 := by
      simp only [cellsEns] at u3
      simpa using u3
    obtain ⟨a, n, c, L, rfl, hr⟩ := enRow_of u3' (fun x hx => hlt x (by rw [hz]; simp [hx]))
    obtain ⟨nb, rfl, bb⟩ := u64_nat wb
    obtain ⟨nbt, rfl, bbt⟩ := u64_nat wbt
    exact ⟨nb, nbt, s, a, n, c, L, z3.1, z2.1, rfl, bb, bbt, hr, by rw [h4], z0.1, z1.1, by rw [hz]⟩
end Go.Proofs.Ytkifgjgjhjhknaa
