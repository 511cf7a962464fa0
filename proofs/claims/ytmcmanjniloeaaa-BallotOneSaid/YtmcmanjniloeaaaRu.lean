/- Arguments: configurations; what the bound on the arguments' bulk gives. -/
import Derived.Test.YtmcmanjniloeaaaRg
import Derived.Test.YtmcmanjniloeaaaGa
namespace Go.Proofs.Ytmcmanjniloeaaa
open Go.ChangeShapes Go.WideShapes Go.ChangeAt Go.RowKit Go.Deep Go.Joins

theorem bulk_le {H : Type} {l : List (DataW H)} (hk : Rows.uptoSmall H l = true) : Rows.uptoBulkAll l ≤ 1048576 := of_decide_eq_true hk
theorem bulkAll_len {H : Type} (l : List (DataW H)) : l.length ≤ Rows.uptoBulkAll l := by
  induction l with
  | nil => simp [Rows.uptoBulkAll]
  | cons x r ih =>
    have : 1 ≤ Rows.uptoBulk x := by
      cases x with
      | lit l => cases l <;> simp [Rows.uptoBulk]
      | _ => simp [Rows.uptoBulk]
    simp only [Rows.uptoBulkAll, List.length_cons]; omega
theorem slice_bulk {H : Type} {enc : TypeId × Value → H} {W : World} {fuel : Nat} {T E : TypeId} (hT : Try.prog.underlying T = some (.slice E)) {a : Option Addr} {n c : Nat} {y : DataW H × List MemPlace}
    (hf : DataW.trod enc Try.prog W 0 (fun _ => true) true fuel T [.slice a n c] = some y) : n ≤ Rows.uptoBulk y.1 := by
  rcases open_slice hT hf with ⟨hcs, hx⟩ | ⟨a', len, cap', m, n', D, Pl, hcs, _, hl, hm, hmm, hx, hi⟩
  · simp at hcs; omega
  · simp at hcs
    obtain ⟨_, rfl, _⟩ := hcs
    rw [hx]
    simp only [Rows.uptoBulk]
    have := bulkAll_len ((List.range n).map D)
    simp only [List.length_map, List.length_range] at this
    omega
/-- Numbers as they came in. -/
theorem usRowOf {H : Type} {enc : TypeId × Value → H} {W : World} {fuel : Nat} {c : Value} {y : DataW H × List MemPlace}
    (hf : DataW.trod enc Try.prog W 0 (fun _ => true) true fuel 39 [c] = some y) (hlt : ∀ x ∈ y.2, x.block < W.heap.size) :
    ∃ a n cap L, c = .slice a n cap ∧ n ≤ Rows.uptoBulk y.1 ∧ RowOf W 1 (fun cs (x : Nat) (_ : DataW H) => cs = u64C x ∧ x < 18446744073709551616) 22 a n cap L (fun q => q ∈ y.1.weights Try.prog 39) := by
  obtain ⟨a, n, cap, L, rfl, hr⟩ := rowOf_of (0 : Nat) (fun cs x _ => cs = u64C x ∧ x < 18446744073709551616) Try.underlying39 cellsU64 (by decide) (fun f cs y hsz ht _ => u64Read hsz ht) hf hlt
  exact ⟨a, n, cap, L, rfl, slice_bulk Try.underlying39 hf, hr⟩
theorem RowOf.us {H : Type} {W : World} {E : TypeId} {a : Option Addr} {n c : Nat} {L : List Nat} {S : Nat → Prop} {P : List Value → Nat → DataW H → Prop} (h : RowOf W 1 P E a n c L S) (hP : ∀ cs x d, P cs x d → cs = u64C x) : Us W a L := fun j x hx => by
  obtain ⟨b, off, e, hb, hc⟩ := h.rw hP j x hx
  exact ⟨b, off, e, hb, by simpa using hc 0 _ rfl⟩
/-- A configuration in its cells. -/
structure CfRow {H : Type} (W : World) (cs : List Value) (a : Option Addr) (n c : Nat) (V : List Nat) (a2 : Option Addr) (n2 c2 : Nat) (L : List Nat) (d d1 d2 : DataW H) : Prop where
  cells : cs = [.slice a n c, .slice a2 n2 c2]
  row : RowOf W 1 (fun cs (x : Nat) (_ : DataW H) => cs = u64C x ∧ x < 18446744073709551616) 22 a n c V (fun q => q ∈ d1.weights Try.prog 39)
  row2 : RowOf W 1 (fun cs (x : Nat) (_ : DataW H) => cs = u64C x ∧ x < 18446744073709551616) 22 a2 n2 c2 L (fun q => q ∈ d2.weights Try.prog 39)
  datum : d = .agg [d1, d2]
  bulk : n + n2 ≤ Rows.uptoBulk d
set_option maxRecDepth 100000 in
theorem cfRow_of {H : Type} {enc : TypeId × Value → H} {W : World} {fuel : Nat} {cs : List Value} {y : DataW H × List MemPlace} (hsz : cs.length = 2)
    (hf : DataW.trod enc Try.prog W 0 (fun _ => true) true fuel 41 cs = some y) (hlt : ∀ x ∈ y.2, x.block < W.heap.size) : ∃ a n c V a2 n2 c2 L d1 d2, CfRow W cs a n c V a2 n2 c2 L y.1 d1 d2 := by
  obtain ⟨z0, z1, n', hz, _, u0, u1⟩ := trod_struct2 Try.underlying41 hf
  match cs, hsz with
  | [c0, c1], _ =>
    have u0' : DataW.trod enc Try.prog W 0 (fun _ => true) true n' 39 [c0] = some z0 := by simp only [cellsUs] at u0; simpa using u0
    have u1' : DataW.trod enc Try.prog W 0 (fun _ => true) true n' 39 [c1] = some z1 := by simp only [cellsUs] at u1; simpa using u1
    obtain ⟨a, n, c, V, rfl, b1, h1⟩ := usRowOf u0' (fun x hx => hlt x (by rw [hz]; simp [hx]))
    obtain ⟨a2, n2, c2, L, rfl, b2, h2⟩ := usRowOf u1' (fun x hx => hlt x (by rw [hz]; simp [hx]))
    exact ⟨a, n, c, V, a2, n2, c2, L, z0.1, z1.1, rfl, h1, h2, by rw [hz], by rw [hz]; simp only [Rows.uptoBulk, Rows.uptoBulkAll]; omega⟩
/-- A configuration as an argument. -/
structure CfArg (W : World) (v : Value) (a : Option Addr) (n c : Nat) (V : List Nat) (a2 : Option Addr) (n2 c2 : Nat) (L : List Nat) : Prop where
  val : v = .agg #[.slice a n c, .slice a2 n2 c2]
  hlen : V.length = n
  hcap : n ≤ c
  hmax : c ≤ 9223372036854775807
  room : n * 8 ≤ 140737488351232
  nums : ∀ x ∈ V, x < 18446744073709551616
  mem : Us W a V
  hlen2 : L.length = n2
  room2 : n2 * 8 ≤ 140737488351232
  mem2 : Us W a2 L
section
variable {H : Type} {enc : TypeId × Value → H} {W : World} {r : Reach} {b0 : Nat} {v : Value} {d : DataW H} {p : List MemPlace} {ts : List TypeId} {ds : List (DataW H)} {j : Nat}
set_option maxRecDepth 100000 in
/-- Of bounded bulk. -/
theorem confArgU_of (hv : Value.okWide Try.prog W r b0 41 v) (h : DataW.Trod enc Try.prog W 0 (fun _ => true) true 41 v d p) (hlt : ∀ x ∈ p, x.block < W.heap.size)
    (hb : Rows.uptoBulk d ≤ 1048576) : ∃ a n c V a2 n2 c2 L, CfArg W v a n c V a2 n2 c2 L ∧ n ≤ 1048576 := by
  obtain ⟨cs, rfl, hsz⟩ := okWide_struct Try.underlying41 hv
  rw [cellsConf] at hsz
  obtain ⟨fuel, hf⟩ := h
  obtain ⟨a, n, c, V, a2, n2, c2, L, d1, d2, hr⟩ := cfRow_of (cs := cs.toList) (by simpa using hsz) (by simpa [Value.cells] using hf) hlt
  have hcs := hr.cells
  have hbk : n + n2 ≤ Rows.uptoBulk d := hr.bulk
  exact ⟨a, n, c, V, a2, n2, c2, L, ⟨by congr 1; rw [← Array.toList_inj]; exact hcs, hr.row.hlen, hr.row.hcap, maxLen63 hr.row.hmax, by omega, hr.row.all fun _ _ _ h => h.2, hr.row.us fun _ _ _ h => h.1, hr.row2.hlen, by omega, hr.row2.us fun _ _ _ h => h.1⟩, by omega⟩
set_option maxRecDepth 100000 in
/-- Of bounded bulk. -/
theorem vsArgU_of (hv : Value.okWide Try.prog W r b0 31 v) (h : DataW.Trod enc Try.prog W 0 (fun _ => true) true 31 v d p) (hlt : ∀ x ∈ p, x.block < W.heap.size)
    (hb : Rows.uptoBulk d ≤ 1048576) : ∃ a n c L, VsArg W v a n c L ∧ n ≤ Rows.uptoBulk d := by
  obtain ⟨a0, l0, c0, rfl⟩ := okWide_slice Try.underlying31 hv
  obtain ⟨fuel, hf⟩ := h
  have hf' : DataW.trod enc Try.prog W 0 (fun _ => true) true fuel 31 [.slice a0 l0 c0] = some (d, p) := by simpa [Value.cells] using hf
  obtain ⟨a, n, c, L, e, hr⟩ := rowOf_of (c := .slice a0 l0 c0) (⟨0, false⟩ : Vo) (fun cs x _ => cs = voC x ∧ x.id < 18446744073709551616) Try.underlying31 cellsVoice (by decide) (fun f cs y hsz ht _ => voRead hsz ht) hf' hlt
  have hn : l0 ≤ Rows.uptoBulk d := slice_bulk Try.underlying31 hf'
  simp only [Value.slice.injEq] at e
  obtain ⟨rfl, rfl, rfl⟩ := e
  exact ⟨a0, l0, c0, L, ⟨rfl, hr.hlen, by omega, hr.all fun _ _ _ h => h.2, hr.rw fun _ _ _ h => h.1⟩, hn⟩
end
end Go.Proofs.Ytmcmanjniloeaaa
