/- Arguments that are locks, transactions, or what is asked for: what their reading gives. -/
import Derived.Test.YtfidgnhinllhlaaVb
namespace Go.Proofs.Ytfidgnhinllhlaa
open Go.ChangeShapes Go.WideShapes Go.ChangeAt Go.RowKit Go.Deep Go.Joins

theorem cellsStr : Try.prog.cellsOf 9 = 1 := by kernel_rfl
theorem cellsU64 : Try.prog.cellsOf 23 = 1 := by kernel_rfl
theorem cellsBoo : Try.prog.cellsOf 4 = 1 := by kernel_rfl
theorem cellsTx : Try.prog.cellsOf 25 = 2 := by kernel_rfl
theorem cellsHold : Try.prog.cellsOf 45 = 4 := by kernel_rfl
theorem cellsAsks : Try.prog.cellsOf 27 = 4 := by kernel_rfl
theorem bytesTx : Try.prog.bytesOf 25 = 16 := by kernel_rfl
theorem bytesHold : Try.prog.bytesOf 45 = 40 := by kernel_rfl
theorem bytesAsks : Try.prog.bytesOf 27 = 40 := by kernel_rfl
theorem cellsHos : Try.prog.cellsOf 22 = 1 := by kernel_rfl
theorem cellsTxs : Try.prog.cellsOf 28 = 1 := by kernel_rfl
theorem mem_str {H : Type} (P : Program) (t : TypeId) (s : ByteArray) : s.size ∈ DataW.weights P t (.lit (.string s.data.toList) : DataW H) := by
  rw [DataW.weights]; exact List.mem_singleton.2 (Array.length_toList (xs := s.data)).symm
/-- What is asked for. -/
structure As where
  t : Tx
  key : ByteArray
  wr : Bool
def asC (x : As) : List Value := [.int .u64 (x.t.age : Nat), .int .u64 (x.t.id : Nat), .string x.key, .bool x.wr]
@[reducible] def asV (x : As) : Value := .agg #[.int .u64 (x.t.age : Nat), .int .u64 (x.t.id : Nat), .string x.key, .bool x.wr]
abbrev Ass (w : World) (a : Option Addr) (L : List As) : Prop := Rw 4 asC w a L
def TxR {H : Type} (cs : List Value) (x : Tx) (_ : DataW H) : Prop := cs = txC x ∧ okX x
def HoR {H : Type} (cs : List Value) (x : Ho) (d : DataW H) : Prop := cs = hoC x ∧ x.key.size ∈ d.weights Try.prog 45 ∧ okX x.t
def AsR {H : Type} (cs : List Value) (x : As) (d : DataW H) : Prop := cs = asC x ∧ x.key.size ∈ d.weights Try.prog 27 ∧ okX x.t
set_option maxRecDepth 100000 in
theorem txRead {H : Type} {enc : TypeId × Value → H} {W : World} {f : Nat} {cs : List Value} {y : DataW H × List MemPlace} (hsz : cs.length = 2)
    (ht : DataW.trod enc Try.prog W 0 (fun _ => true) true f 25 cs = some y) : ∃ x : Tx, cs = txC x ∧ okX x := by
  obtain ⟨z0, z1, n', hz, _, u0, u1⟩ := trod_struct2 Try.underlying25 ht
  match cs, hsz with
  | [c0, c1], _ =>
    obtain ⟨z, e0, _, w0⟩ := DataW.trod_int Try.underlying23 u0
    obtain ⟨z', e1, _, w1⟩ := DataW.trod_int Try.underlying23 u1
    simp only [cellsU64] at e0 e1
    simp at e0 e1
    subst e0 e1
    obtain ⟨a, rfl, ha⟩ := u64_nat w0
    obtain ⟨i, rfl, hi⟩ := u64_nat w1
    exact ⟨⟨a, i⟩, rfl, ha, hi⟩
set_option maxRecDepth 100000 in
set_option maxHeartbeats 1000000 in
theorem hoRead {H : Type} {enc : TypeId × Value → H} {W : World} {f : Nat} {cs : List Value} {y : DataW H × List MemPlace} (hsz : cs.length = 4)
    (ht : DataW.trod enc Try.prog W 0 (fun _ => true) true f 45 cs = some y) : ∃ x : Ho, HoR cs x y.1 := by
  obtain ⟨z0, z1, z2, n', hz, _, u0, u1, u2⟩ := trod_struct3 Try.underlying45 ht
  match cs, hsz with
  | [c0, c1, c2, c3], _ =>
    obtain ⟨s0, e0, h0, _⟩ := DataW.trod_string Try.underlying9 u0
    obtain ⟨g, e2, h2⟩ := DataW.trod_bool Try.underlying4 u2
    have u1' : DataW.trod enc Try.prog W 0 (fun _ => true) true n' 25 [c1, c2] = some z1 := by
      simp only [cellsTx] at u1; simpa using u1
    obtain ⟨x, hx, hxo⟩ := txRead rfl u1'
    simp only [cellsStr, cellsBoo] at e0 e2
    simp at e0 e2
    subst e0 e2
    simp only [txC, List.cons.injEq, and_true] at hx
    obtain ⟨rfl, rfl⟩ := hx
    refine ⟨⟨s0, x, g⟩, rfl, ?_, hxo⟩
    rw [hz, h0]
    simp only [DataW.weights, Try.underlying45, List.map_cons, List.map_nil, DataW.weightsEach, List.mem_append]
    exact .inl (List.mem_singleton.2 (Array.length_toList (xs := s0.data)).symm)
set_option maxRecDepth 100000 in
set_option maxHeartbeats 1000000 in
theorem asRead {H : Type} {enc : TypeId × Value → H} {W : World} {f : Nat} {cs : List Value} {y : DataW H × List MemPlace} (hsz : cs.length = 4)
    (ht : DataW.trod enc Try.prog W 0 (fun _ => true) true f 27 cs = some y) : ∃ x : As, AsR cs x y.1 := by
  obtain ⟨z0, z1, z2, n', hz, _, u0, u1, u2⟩ := trod_struct3 Try.underlying27 ht
  match cs, hsz with
  | [c0, c1, c2, c3], _ =>
    obtain ⟨s0, e0, h0, _⟩ := DataW.trod_string Try.underlying9 u1
    obtain ⟨g, e2, h2⟩ := DataW.trod_bool Try.underlying4 u2
    have u0' : DataW.trod enc Try.prog W 0 (fun _ => true) true n' 25 [c0, c1] = some z0 := by
      simp only [cellsTx] at u0; simpa using u0
    obtain ⟨x, hx, hxo⟩ := txRead rfl u0'
    simp only [cellsStr, cellsBoo] at e0 e2
    simp at e0 e2
    subst e0 e2
    simp only [txC, List.cons.injEq, and_true] at hx
    obtain ⟨rfl, rfl⟩ := hx
    refine ⟨⟨x, s0, g⟩, rfl, ?_, hxo⟩
    rw [hz, h0]
    simp only [DataW.weights, Try.underlying27, List.map_cons, List.map_nil, DataW.weightsEach, List.mem_append]
    exact .inr (.inl (List.mem_singleton.2 (Array.length_toList (xs := s0.data)).symm))
theorem RowOf.allS {H α : Type} {W : World} {k : Nat} {P : List Value → α → DataW H → Prop} {E : TypeId} {a : Option Addr} {n c : Nat} {L : List α} {S : Nat → Prop} {Q : α → Prop}
    (h : RowOf W k P E a n c L S) (hP : ∀ cs x d, P cs x d → (∀ q ∈ d.weights Try.prog E, S q) → Q x) : ∀ x ∈ L, Q x := fun x hx => by
  obtain ⟨j, hj⟩ := List.mem_iff_getElem?.1 hx
  obtain ⟨b, off, cs, d, e, hlt, _, hc, hp, hq⟩ := h.mem j x hj
  exact hP _ _ _ hp hq
/-- Locks, transactions, what is asked for, as they come in. -/
structure HoIn (W : World) (a : Option Addr) (n c : Nat) (L : List Ho) : Prop where
  hlen : L.length = n
  hcap : n ≤ c
  hmax : c ≤ maxLen
  room : n * 40 ≤ 140737488351232
  small : smallH L
  mem : Hos W a L
structure TxIn (W : World) (a : Option Addr) (n c : Nat) (L : List Tx) : Prop where
  hlen : L.length = n
  room : n * 16 ≤ 140737488351232
  ok : ∀ x ∈ L, okX x
  mem : Txs W a L
structure AsIn (W : World) (a : Option Addr) (n c : Nat) (L : List As) : Prop where
  hlen : L.length = n
  room : n * 40 ≤ 140737488351232
  small : ∀ x ∈ L, okA x.key x.t
  mem : Ass W a L
set_option maxRecDepth 100000 in
theorem hoRow_of {H : Type} {enc : TypeId × Value → H} {W : World} {fuel : Nat} {c : Value} {y : DataW H × List MemPlace}
    (hf : DataW.trod enc Try.prog W 0 (fun _ => true) true fuel 22 [c] = some y) (hlt : ∀ x ∈ y.2, x.block < W.heap.size) (hS : ∀ q ∈ y.1.weights Try.prog 22, q ≤ 140737488351232) :
    ∃ a n cap L, c = .slice a n cap ∧ HoIn W a n cap L := by
  obtain ⟨a, n, cap, L, e, h⟩ := rowOf_of (⟨⟨#[]⟩, ⟨0, 0⟩, false⟩ : Ho) HoR Try.underlying22 cellsHold (by decide) (fun f cs y hsz ht _ => hoRead hsz ht) hf hlt
  exact ⟨a, n, cap, L, e, h.hlen, h.hcap, h.hmax, h.small bytesHold hS, h.allS (fun cs x d hp hq => ⟨hS _ (hq _ hp.2.1), hp.2.2⟩), h.rw (fun cs x d hp => hp.1)⟩
set_option maxRecDepth 100000 in
theorem txRow_of {H : Type} {enc : TypeId × Value → H} {W : World} {fuel : Nat} {c : Value} {y : DataW H × List MemPlace}
    (hf : DataW.trod enc Try.prog W 0 (fun _ => true) true fuel 28 [c] = some y) (hlt : ∀ x ∈ y.2, x.block < W.heap.size) (hS : ∀ q ∈ y.1.weights Try.prog 28, q ≤ 140737488351232) :
    ∃ a n cap L, c = .slice a n cap ∧ TxIn W a n cap L := by
  obtain ⟨a, n, cap, L, e, h⟩ := rowOf_of (⟨0, 0⟩ : Tx) TxR Try.underlying28 cellsTx (by decide) (fun f cs y hsz ht _ => txRead hsz ht) hf hlt
  exact ⟨a, n, cap, L, e, h.hlen, h.small bytesTx hS, h.all (fun cs x d hp => hp.2), h.rw (fun cs x d hp => hp.1)⟩
set_option maxRecDepth 100000 in
theorem asRow_of {H : Type} {enc : TypeId × Value → H} {W : World} {fuel : Nat} {c : Value} {y : DataW H × List MemPlace}
    (hf : DataW.trod enc Try.prog W 0 (fun _ => true) true fuel 43 [c] = some y) (hlt : ∀ x ∈ y.2, x.block < W.heap.size) (hS : ∀ q ∈ y.1.weights Try.prog 43, q ≤ 140737488351232) :
    ∃ a n cap L, c = .slice a n cap ∧ AsIn W a n cap L := by
  obtain ⟨a, n, cap, L, e, h⟩ := rowOf_of (⟨⟨0, 0⟩, ⟨#[]⟩, false⟩ : As) AsR Try.underlying43 cellsAsks (by decide) (fun f cs y hsz ht _ => asRead hsz ht) hf hlt
  exact ⟨a, n, cap, L, e, h.hlen, h.small bytesAsks hS, h.allS (fun cs x d hp hq => ⟨hS _ (hq _ hp.2.1), hp.2.2⟩), h.rw (fun cs x d hp => hp.1)⟩
end Go.Proofs.Ytfidgnhinllhlaa
