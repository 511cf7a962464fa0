/- Arguments of stage 7: seats, requests, voices, configurations, lists of them. -/
import Derived.Test.YtmcmanjniloeaaaRd
import Derived.Test.YtmcmanjniloeaaaWa
namespace Go.Proofs.Ytmcmanjniloeaaa
open Go.ChangeShapes Go.WideShapes Go.ChangeAt Go.RowKit Go.Deep Go.Joins

/-- A voice. -/
structure Vo where
  id : Nat
  y : Bool
def voC (x : Vo) : List Value := [.int .u64 (x.id : Nat), .bool x.y]
def akC (x : Ak) : List Value := [.int .u64 (x.t : Nat), .int .u64 (x.fr : Nat), .int .u64 (x.lt : Nat), .int .u64 (x.li : Nat), .bool x.p]
def inC (z : Int) : List Value := [.int .i64 z]
def u64C (x : Nat) : List Value := [.int .u64 (x : Nat)]
/-- Voices in memory. -/
abbrev Vs (w : World) (a : Option Addr) (L : List Vo) : Prop := Rw 2 voC w a L
abbrev Aks (w : World) (a : Option Addr) (L : List Ak) : Prop := Rw 5 akC w a L
theorem cellsU64 : Try.prog.cellsOf 22 = 1 := by kernel_rfl
theorem cellsInt : Try.prog.cellsOf 3 = 1 := by kernel_rfl
theorem cellsBool : Try.prog.cellsOf 4 = 1 := by kernel_rfl
theorem bytesU64 : Try.prog.bytesOf 22 = 8 := by kernel_rfl
theorem cellsVoice : Try.prog.cellsOf 33 = 2 := by kernel_rfl
theorem bytesVoice : Try.prog.bytesOf 33 = 16 := by kernel_rfl
theorem cellsAsk : Try.prog.cellsOf 26 = 5 := by kernel_rfl
theorem bytesAsk : Try.prog.bytesOf 26 = 40 := by kernel_rfl
theorem cellsSeat : Try.prog.cellsOf 24 = 5 := by kernel_rfl
theorem cellsConf : Try.prog.cellsOf 41 = 2 := by kernel_rfl
theorem cellsUs : Try.prog.cellsOf 39 = 1 := by kernel_rfl
section
variable {H : Type} {enc : TypeId × Value → H} {W : World} {f : Nat} {cs : List Value} {y : DataW H × List MemPlace}
set_option maxRecDepth 100000 in
theorem voRead (hsz : cs.length = 2) (ht : DataW.trod enc Try.prog W 0 (fun _ => true) true f 33 cs = some y) : ∃ x : Vo, cs = voC x ∧ x.id < 18446744073709551616 := by
  obtain ⟨y0, y1, n', hy, _, t0, t1⟩ := trod_struct2 Try.underlying33 ht
  match cs, hsz with
  | [c0, c1], _ =>
    obtain ⟨zt, e0, h0, wt⟩ := DataW.trod_int Try.underlying22 t0
    obtain ⟨zb, e1, h1⟩ := DataW.trod_bool Try.underlying4 t1
    simp only [cellsU64, cellsBool] at e0 e1
    simp at e0 e1
    subst e0 e1
    obtain ⟨nt, rfl, bt⟩ := u64_nat wt
    exact ⟨⟨nt, zb⟩, rfl, bt⟩
set_option maxRecDepth 100000 in
theorem akRead (hsz : cs.length = 5) (ht : DataW.trod enc Try.prog W 0 (fun _ => true) true f 26 cs = some y) : ∃ x : Ak, cs = akC x := by
  obtain ⟨y0, y1, y2, y3, y4, n', hy, t0, t1, t2, t3, t4⟩ := trod_struct5 Try.underlying26 ht
  match cs, hsz with
  | [c0, c1, c2, c3, c4], _ =>
    obtain ⟨z0, e0, _, w0⟩ := DataW.trod_int Try.underlying22 t0
    obtain ⟨z1, e1, _, w1⟩ := DataW.trod_int Try.underlying22 t1
    obtain ⟨z2, e2, _, w2⟩ := DataW.trod_int Try.underlying22 t2
    obtain ⟨z3, e3, _, w3⟩ := DataW.trod_int Try.underlying22 t3
    obtain ⟨z4, e4, _⟩ := DataW.trod_bool Try.underlying4 t4
    simp only [cellsU64, cellsBool] at e0 e1 e2 e3 e4
    simp at e0 e1 e2 e3 e4
    subst e0 e1 e2 e3 e4
    obtain ⟨n0, rfl, _⟩ := u64_nat w0
    obtain ⟨n1, rfl, _⟩ := u64_nat w1
    obtain ⟨n2, rfl, _⟩ := u64_nat w2
    obtain ⟨n3, rfl, _⟩ := u64_nat w3
    exact ⟨⟨n0, n1, n2, n3, z4⟩, rfl⟩
set_option maxRecDepth 100000 in
theorem seRead (hsz : cs.length = 5) (ht : DataW.trod enc Try.prog W 0 (fun _ => true) true f 24 cs = some y) : ∃ x : Ak, cs = akC x := by
  obtain ⟨y0, y1, y2, y3, y4, n', hy, t0, t1, t2, t3, t4⟩ := trod_struct5 Try.underlying24 ht
  match cs, hsz with
  | [c0, c1, c2, c3, c4], _ =>
    obtain ⟨z0, e0, _, w0⟩ := DataW.trod_int Try.underlying22 t0
    obtain ⟨z1, e1, _, w1⟩ := DataW.trod_int Try.underlying22 t1
    obtain ⟨z2, e2, _, w2⟩ := DataW.trod_int Try.underlying22 t2
    obtain ⟨z3, e3, _, w3⟩ := DataW.trod_int Try.underlying22 t3
    obtain ⟨z4, e4, _⟩ := DataW.trod_bool Try.underlying4 t4
    simp only [cellsU64, cellsBool] at e0 e1 e2 e3 e4
    simp at e0 e1 e2 e3 e4
    subst e0 e1 e2 e3 e4
    obtain ⟨n0, rfl, _⟩ := u64_nat w0
    obtain ⟨n1, rfl, _⟩ := u64_nat w1
    obtain ⟨n2, rfl, _⟩ := u64_nat w2
    obtain ⟨n3, rfl, _⟩ := u64_nat w3
    exact ⟨⟨n0, n1, n2, n3, z4⟩, rfl⟩
set_option maxRecDepth 100000 in
theorem u64Read (hsz : cs.length = 1) (ht : DataW.trod enc Try.prog W 0 (fun _ => true) true f 22 cs = some y) : ∃ x : Nat, cs = u64C x ∧ x < 18446744073709551616 := by
  match cs, hsz with
  | [c0], _ =>
    obtain ⟨z0, e0, _, w0⟩ := DataW.trod_int Try.underlying22 ht
    simp at e0
    subst e0
    obtain ⟨n0, rfl, b0⟩ := u64_nat w0
    exact ⟨n0, rfl, b0⟩
set_option maxRecDepth 100000 in
theorem intRead (hsz : cs.length = 1) (ht : DataW.trod enc Try.prog W 0 (fun _ => true) true f 3 cs = some y) : ∃ z : Int, cs = inC z ∧ -9223372036854775808 ≤ z ∧ z ≤ 9223372036854775807 := by
  match cs, hsz with
  | [c0], _ =>
    obtain ⟨z0, e0, _, w0⟩ := DataW.trod_int Try.underlying3 ht
    simp at e0
    subst e0
    exact ⟨z0, rfl, bounds_i64 w0⟩
end
/-- A list of voices as an argument. -/
structure VsArg (W : World) (v : Value) (a : Option Addr) (n c : Nat) (L : List Vo) : Prop where
  val : v = .slice a n c
  hlen : L.length = n
  room : n * 16 ≤ 140737488351232
  nums : ∀ x ∈ L, x.id < 18446744073709551616
  mem : Vs W a L
/-- A list of requests as an argument. -/
structure AksArg (W : World) (v : Value) (a : Option Addr) (n c : Nat) (L : List Ak) : Prop where
  val : v = .slice a n c
  hlen : L.length = n
  room : n * 40 ≤ 140737488351232
  mem : Aks W a L
section
variable {H : Type} {enc : TypeId × Value → H} {W : World} {r : Reach} {b0 : Nat} {v : Value} {d : DataW H} {p : List MemPlace} {ts : List TypeId} {ds : List (DataW H)} {j : Nat}
set_option maxRecDepth 100000 in
theorem vsArg_of (hv : Value.okWide Try.prog W r b0 31 v) (h : DataW.Trod enc Try.prog W 0 (fun _ => true) true 31 v d p) (hlt : ∀ x ∈ p, x.block < W.heap.size)
    (hZ : (DataW.weightsEach Try.prog ts ds).all (· ≤ reachBytes) = true) (hj : ts[j]? = some 31) (hd : ds[j]? = some d) : ∃ a n c L, VsArg W v a n c L := by
  obtain ⟨a0, l0, c0, rfl⟩ := okWide_slice Try.underlying31 hv
  obtain ⟨fuel, hf⟩ := h
  obtain ⟨a, n, c, L, e, hr⟩ := rowOf_of (c := .slice a0 l0 c0) (⟨0, false⟩ : Vo) (fun cs x _ => cs = voC x ∧ x.id < 18446744073709551616) Try.underlying31 cellsVoice (by decide) (fun f cs y hsz ht _ => voRead hsz ht) (by simpa [Value.cells] using hf) hlt
  exact ⟨a, n, c, L, e, hr.hlen, hr.small bytesVoice (sized_of hZ hj hd), hr.all fun _ _ _ h => h.2, hr.rw fun _ _ _ h => h.1⟩
set_option maxRecDepth 100000 in
theorem aksArg_of (hv : Value.okWide Try.prog W r b0 37 v) (h : DataW.Trod enc Try.prog W 0 (fun _ => true) true 37 v d p) (hlt : ∀ x ∈ p, x.block < W.heap.size)
    (hZ : (DataW.weightsEach Try.prog ts ds).all (· ≤ reachBytes) = true) (hj : ts[j]? = some 37) (hd : ds[j]? = some d) : ∃ a n c L, AksArg W v a n c L := by
  obtain ⟨a0, l0, c0, rfl⟩ := okWide_slice Try.underlying37 hv
  obtain ⟨fuel, hf⟩ := h
  obtain ⟨a, n, c, L, e, hr⟩ := rowOf_of (c := .slice a0 l0 c0) (⟨0, 0, 0, 0, false⟩ : Ak) (fun cs x _ => cs = akC x) Try.underlying37 cellsAsk (by decide) (fun f cs y hsz ht _ => akRead hsz ht) (by simpa [Value.cells] using hf) hlt
  exact ⟨a, n, c, L, e, hr.hlen, hr.small bytesAsk (sized_of hZ hj hd), hr.rw fun _ _ _ h => h⟩
set_option maxRecDepth 100000 in
theorem askArg_of (hv : Value.okWide Try.prog W r b0 26 v) (h : DataW.Trod enc Try.prog W 0 (fun _ => true) true 26 v d p) : ∃ (t fr lt li : Nat) (p : Bool), v = v5 t fr lt li p := by
  obtain ⟨cs, rfl, hsz⟩ := okWide_struct Try.underlying26 hv
  rw [cellsAsk] at hsz
  obtain ⟨fuel, hf⟩ := h
  obtain ⟨x, hx⟩ := akRead (cs := cs.toList) (by simpa using hsz) (by simpa [Value.cells] using hf)
  exact ⟨x.t, x.fr, x.lt, x.li, x.p, by congr 1; rw [← Array.toList_inj]; exact hx⟩
set_option maxRecDepth 100000 in
theorem seatArg_of (hv : Value.okWide Try.prog W r b0 24 v) (h : DataW.Trod enc Try.prog W 0 (fun _ => true) true 24 v d p) : ∃ (t fr lt li : Nat) (p : Bool), v = v5 t fr lt li p := by
  obtain ⟨cs, rfl, hsz⟩ := okWide_struct Try.underlying24 hv
  rw [cellsSeat] at hsz
  obtain ⟨fuel, hf⟩ := h
  obtain ⟨x, hx⟩ := seRead (cs := cs.toList) (by simpa using hsz) (by simpa [Value.cells] using hf)
  exact ⟨x.t, x.fr, x.lt, x.li, x.p, by congr 1; rw [← Array.toList_inj]; exact hx⟩
set_option maxRecDepth 100000 in
theorem voiceArg_of (hv : Value.okWide Try.prog W r b0 33 v) (h : DataW.Trod enc Try.prog W 0 (fun _ => true) true 33 v d p) : ∃ (i : Nat) (y : Bool), v = .agg #[.int .u64 i, .bool y] ∧ i < 18446744073709551616 := by
  obtain ⟨cs, rfl, hsz⟩ := okWide_struct Try.underlying33 hv
  rw [cellsVoice] at hsz
  obtain ⟨fuel, hf⟩ := h
  obtain ⟨x, hx, hb⟩ := voRead (cs := cs.toList) (by simpa using hsz) (by simpa [Value.cells] using hf)
  exact ⟨x.id, x.y, by congr 1; rw [← Array.toList_inj]; exact hx, hb⟩
end
end Go.Proofs.Ytmcmanjniloeaaa
