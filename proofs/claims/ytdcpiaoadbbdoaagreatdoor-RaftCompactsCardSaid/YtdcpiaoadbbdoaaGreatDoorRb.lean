/- Reading arguments, in general: a slice's elements, each by its own reading; a struct's parts. -/
import Derived.Test.YtdcpiaoadbbdoaaGreatDoorRows
import Derived.WalkKit
import Derived.WalkSpells
import Derived.Handy
import Derived.IntWalk
import Derived.Deep.Slices
import Derived.Deep.Fields
import Derived.Deep.Strs
import Derived.SizedLaws
import Derived.OpenShut
import Derived.ProofKit
import Derived.Lib.SmallJoins
import Derived.Laws.AppendOwn
import Derived.Laws.OwnMore
import Derived.OwnWalk
import Derived.WalkLawsBesides
import Derived.Lib.Hide
import Derived.WalkSmall
import Derived.Laws.StructEq
import Derived.Deep.RegionHeld
import Derived.Deep.Upon
import Derived.Deep.AppendLies
import Derived.Lib.AppendZeros
import Derived.Lib.SliceRun
import Derived.ArgAppend
import Derived.Deep.QuietTactic
import Derived.BigQuiet
import Derived.Laws.CopyOwn
import Derived.Deep.DeepMust
import Derived.Deep.RegionWith
import Derived.Deep.Draws
import Derived.Laws.BytesArg
import Derived.Laws.IdiomStrings
set_option maxRecDepth 100000
set_option maxHeartbeats 16000000
namespace Go.Proofs.YtdcpiaoadbbdoaaGreatDoor
open Go.ChangeShapes Go.WideShapes Go.ChangeAt Go.RowKit Go.Deep Go.Joins

theorem u64_nat {z : Int} (h : (Lit.int .u64 z).wf = true) : ∃ n : Nat, z = n ∧ n < 18446744073709551616 := by
 have hb := bounds_u64 h
 exact ⟨z.toNat, by omega, by omega⟩
def Rw {α : Type} (k : Nat) (f : α → List Value) (w : World) (a : Option Addr) (L : List α) : Prop :=
 ∀ j x, L[j]? = some x → ∃ b off, a = some ⟨b, off, none⟩ ∧ b < w.heap.size ∧ ∀ i u, (f x)[i]? = some u → w.cell? ⟨b, off + j * k + i, none⟩ = some u
section
variable {α : Type} {k : Nat} {f : α → List Value} {w : World} {a : Option Addr} {L : List α}
theorem Rw.later {w' : World} (h : Rw k f w a L) (hb : Below w.heap.size w w') : Rw k f w' a L := fun j x hx => by
 obtain ⟨b, off, e, hlt, c⟩ := h j x hx
 exact ⟨b, off, e, Nat.lt_of_lt_of_le hlt hb.size, fun i u hu => (hb.cell (p := ⟨b, off + j * k + i, none⟩) hlt).trans (c i u hu)⟩
theorem Rw.nil (a : Option Addr) : Rw k f w a [] := fun j x hx => by simp at hx
theorem Rw.addr (h : Rw k f w a L) (hL : 0 < L.length) : ∃ b off, a = some ⟨b, off, none⟩ ∧ b < w.heap.size := by
 obtain ⟨b2, off2, e, hlt, _⟩ := h 0 _ (List.getElem?_eq_getElem hL)
 exact ⟨b2, off2, e, hlt⟩
def rwC (f : α → List Value) (L : List α) : List Value := L.flatMap f
theorem rwC_app (L M : List α) : rwC f (L ++ M) = rwC f L ++ rwC f M := by simp [rwC]
theorem rwC_len (hf : ∀ x, (f x).length = k) (L : List α) : (rwC f L).length = L.length * k := by
 induction L with
 | nil => simp [rwC]
 | cons y L ih => simp only [rwC, List.flatMap_cons, List.length_append, List.length_cons] at ih ⊢; rw [ih, hf, Nat.add_mul]; omega
theorem rwC_at (hf : ∀ x, (f x).length = k) (L : List α) : ∀ (j : Nat) (x : α), L[j]? = some x → ∀ i u, (f x)[i]? = some u → (rwC f L)[j * k + i]? = some u := by
 induction L with
 | nil => intro j x h; simp at h
 | cons y L ih =>
  intro j x h i u hi
  have hil := (List.getElem?_eq_some_iff.1 hi).1
  cases j with
  | zero =>
   obtain rfl : y = x := by simpa using h
   simp only [rwC, List.flatMap_cons, Nat.zero_mul, Nat.zero_add]
   rw [List.getElem?_append_left hil]; exact hi
  | succ j =>
   have h2 := ih j x (by simpa using h) i u hi
   simp only [rwC, List.flatMap_cons]
   rw [List.getElem?_append_right (by rw [hf, Nat.add_mul]; omega), hf]
   rw [show (j + 1) * k + i - k = j * k + i by rw [Nat.add_mul]; omega]; exact h2
theorem rw_row (hf : ∀ x, (f x).length = k) (hk : 0 < k) {b off : Nat} (h : Rw k f w (some ⟨b, off, none⟩) L) : ∀ j u, (rwC f L)[j]? = some u → w.cell? ⟨b, off + j, none⟩ = some u := by
 intro j u hj
 have hlt := (List.getElem?_eq_some_iff.1 hj).1
 rw [rwC_len hf] at hlt
 have hq : j / k < L.length := (Nat.div_lt_iff_lt_mul hk).2 hlt
 obtain ⟨x, hx⟩ : ∃ x, L[j / k]? = some x := ⟨_, List.getElem?_eq_getElem hq⟩
 have hm : j % k < (f x).length := by rw [hf]; exact Nat.mod_lt _ hk
 obtain ⟨v, hv⟩ : ∃ v, (f x)[j % k]? = some v := ⟨_, List.getElem?_eq_getElem hm⟩
 have e := rwC_at hf L (j / k) x hx (j % k) v hv
 have hj2 : j / k * k + j % k = j := by rw [Nat.mul_comm]; exact Nat.div_add_mod j k
 rw [hj2, hj] at e
 obtain rfl : u = v := Option.some.inj e
 obtain ⟨b', off', e1, _, c⟩ := h (j / k) x hx
 cases e1
 have h3 := c _ _ hv
 rw [Nat.add_assoc, hj2] at h3; exact h3
theorem rw_of_owns {B : Nat} {T : TypeId} {v : Value} (hf : ∀ x, (f x).length = k) (_ : 0 < k) (h : w.ownsRow B T k v L.length (rwC f L)) : ∃ a cap, v = .slice a L.length cap ∧ L.length ≤ cap ∧ Rw k f w a L ∧ ∀ q, a = some q → B ≤ q.block := by
 rcases h.2 with ⟨rfl, h0⟩ | ⟨g, cap, cur, rfl, hB, hg, h1, h2, h3, htake⟩
 · refine ⟨none, 0, by rw [h0], by omega, fun j x hx => ?_, fun q e => by cases e⟩
   have := (List.getElem?_eq_some_iff.1 hx).1; omega
 · refine ⟨_, cap, rfl, by omega, fun j x hx => ?_, fun q e => by cases e; exact hB⟩
   refine ⟨g, 0, rfl, (Array.getElem?_eq_some_iff.1 hg).1, fun i u hu => ?_⟩
   rw [cell_of_row w g _ cur _ _ hg, ← Array.getElem?_toList]
   have h1 := rwC_at hf L j x hx i u hu
   have hj := (List.getElem?_eq_some_iff.1 h1).1
   rw [rwC_len hf] at hj
   rw [← htake, List.getElem?_take_of_lt (by omega)] at h1
   rw [Nat.zero_add]; exact h1
end
structure RowOf {H α : Type} (W : World) (k : Nat) (P : List Value → α → DataW H → Prop) (E : TypeId) (a : Option Addr) (n c : Nat) (L : List α) (S : Nat → Prop) : Prop where
 hlen : L.length = n
 hcap : n ≤ c
 hmax : c ≤ maxLen
 mem : ∀ i x, L[i]? = some x → ∃ b off cs d, a = some ⟨b, off, none⟩ ∧ b < W.heap.size ∧ cs.length = k ∧ (∀ j u, cs[j]? = some u → W.cell? ⟨b, off + i * k + j, none⟩ = some u) ∧ P cs x d ∧ ∀ q ∈ d.weights Tryz.prog E, S q
 room : 0 < n → ∃ m, n ≤ m ∧ S (m * Tryz.prog.bytesOf E)
theorem mem_weightsAll' {H : Type} {P : Program} {e : TypeId} {n : Nat} {d : DataW H} (hn : n ∈ d.weights P e) : ∀ l : List (DataW H), d ∈ l → n ∈ DataW.weightsAll P e l
 | x :: r, h => by
  rcases List.mem_cons.1 h with rfl | h
  · exact List.mem_append.2 (.inl hn)
  · exact List.mem_append.2 (.inr (mem_weightsAll' hn r h))
theorem rowOf_of {H α : Type} {enc : TypeId × Value → H} {W : World} {fuel : Nat} {T E : TypeId} {k : Nat} (dflt : α) (P : List Value → α → DataW H → Prop)
 (hT : Tryz.prog.underlying T = some (.slice E)) (hk : Tryz.prog.cellsOf E = k) (hk0 : 0 < k)
 (hel : ∀ f cs y, cs.length = k → DataW.trod enc Tryz.prog W 0 (fun _ => true) true f E cs = some y → (∀ x ∈ y.2, x.block < W.heap.size) → ∃ x, P cs x y.1)
 {c : Value} {y : DataW H × List MemPlace}
 (hf : DataW.trod enc Tryz.prog W 0 (fun _ => true) true fuel T [c] = some y) (hlt : ∀ x ∈ y.2, x.block < W.heap.size) :
 ∃ a n cap L, c = .slice a n cap ∧ RowOf W k P E a n cap L (fun q => q ∈ y.1.weights Tryz.prog T) := by
 obtain ⟨d, p⟩ := y
 rcases open_slice hT hf with ⟨hcs, hx⟩ | ⟨a', len, cap', m, n, D, Pl, hcs, _, hl, hm, hmm, hx, hi⟩
 · simp at hcs
   subst hcs
   exact ⟨none, 0, 0, [], rfl, rfl, Nat.le_refl _, by decide, fun j x hx => by simp at hx, fun h => by omega⟩
 · simp at hcs
   subst hcs
   simp only [Prod.mk.injEq] at hx
   obtain ⟨rfl, rfl⟩ := hx
   simp only [if_true] at hmm
   subst hmm
   simp only at hlt
   obtain ⟨b, off, spot⟩ := a'
   have hspot : 0 < len → spot = none := by
    intro h0
    obtain ⟨cs', hc, _⟩ := hi 0 (by omega)
    obtain ⟨_, hcl, hat⟩ := World.cells?_some hc
    rw [hk] at hcl hat
    have s0 := hat 0 hk0
    rw [List.getElem?_eq_getElem (by omega : 0 < cs'.length)] at s0
    simpa [Addr.add] using World.cell?_spot s0
   have hone : ∀ i, ∃ x : α, i < len → spot = none ∧ b < W.heap.size ∧ ∃ cs, cs.length = k ∧ (∀ j u, cs[j]? = some u → W.cell? ⟨b, off + i * k + j, none⟩ = some u) ∧ P cs x (D i) := by
    intro i
    by_cases hil : i < len
    · obtain ⟨cs', hc, ht⟩ := hi i (by omega)
      rw [hk] at hc
      obtain ⟨_, hcl, hat⟩ := World.cells?_some hc
      obtain rfl := hspot (by omega)
      obtain ⟨x, hx⟩ := hel _ cs' _ hcl ht (fun q hq => hlt q (List.mem_append.2 (.inr (List.mem_flatMap.2 ⟨i, List.mem_range.2 (by omega), hq⟩))))
      refine ⟨x, fun _ => ⟨rfl, ?_, cs', hcl, fun j u hj => ?_, hx⟩⟩
      · exact hlt (.cell b off) (List.mem_append.2 (.inl (MemPlace.mem_row.2 ⟨0, by rw [hk]; exact Nat.mul_pos (by omega) hk0, by simp⟩)))
      · have hjl := (List.getElem?_eq_some_iff.1 hj).1
        have s0 := hat j (by omega)
        rw [add_plain, add_plain, hj] at s0
        exact s0
    · exact ⟨dflt, fun h => absurd h hil⟩
   have hget : ∀ i x, ((List.range len).map fun i => Classical.choose (hone i))[i]? = some x → i < len ∧ x = Classical.choose (hone i) := fun i x hx => by
    have hil : i < len := by have := (List.getElem?_eq_some_iff.1 hx).1; simpa using this
    rw [List.getElem?_map, List.getElem?_range hil] at hx
    exact ⟨hil, (Option.some.inj hx).symm⟩
   refine ⟨_, len, m, (List.range len).map fun i => Classical.choose (hone i), rfl, by simp, hl, hm, fun i x hx => ?_, fun h0 => ⟨m, hl, ?_⟩⟩
   · obtain ⟨hil, rfl⟩ := hget i x hx
     obtain ⟨g3, g4, cs, g5, g6, g7⟩ := Classical.choose_spec (hone i) hil
     refine ⟨b, off, cs, _, by rw [g3], g4, g5, g6, g7, fun q hq => ?_⟩
     simp only [DataW.weights, hT, List.mem_cons, List.mem_append]
     exact .inr (.inl (mem_weightsAll' hq _ (List.mem_map.2 ⟨i, List.mem_range.2 hil, rfl⟩)))
   · simp only [DataW.weights, hT, List.mem_cons]
     left
     simp only [List.length_map, List.length_range]
     rw [show len + (m - len) = m by omega]
theorem RowOf.rw {H α : Type} {W : World} {k : Nat} {P : List Value → α → DataW H → Prop} {E : TypeId} {a : Option Addr} {n c : Nat} {L : List α} {S : Nat → Prop} {f : α → List Value}
 (h : RowOf W k P E a n c L S) (hP : ∀ cs x d, P cs x d → cs = f x) : Rw k f W a L := fun j x hx => by
 obtain ⟨b, off, cs, d, e, hlt, _, hc, hp, _⟩ := h.mem j x hx
 obtain rfl := hP _ _ _ hp
 exact ⟨b, off, e, hlt, hc⟩
theorem RowOf.all {H α : Type} {W : World} {k : Nat} {P : List Value → α → DataW H → Prop} {E : TypeId} {a : Option Addr} {n c : Nat} {L : List α} {S : Nat → Prop} {Q : α → Prop}
 (h : RowOf W k P E a n c L S) (hP : ∀ cs x d, P cs x d → Q x) : ∀ x ∈ L, Q x := fun x hx => by
 obtain ⟨j, hj⟩ := List.mem_iff_getElem?.1 hx
 obtain ⟨b, off, cs, d, e, hlt, _, hc, hp, _⟩ := h.mem j x hj
 exact hP _ _ _ hp
theorem RowOf.small {H α : Type} {W : World} {k : Nat} {P : List Value → α → DataW H → Prop} {E : TypeId} {a : Option Addr} {n c : Nat} {L : List α} {S : Nat → Prop}
 (h : RowOf W k P E a n c L S) {bs : Nat} (hb : Tryz.prog.bytesOf E = bs) (hS : ∀ q, S q → q ≤ 140737488351232) : n * bs ≤ 140737488351232 := by
 rcases Nat.eq_zero_or_pos n with h0 | h0
 · rw [h0]; omega
 · obtain ⟨m, h1, h2⟩ := h.room h0
   rw [hb] at h2
   exact Nat.le_trans (Nat.mul_le_mul_right _ h1) (hS _ h2)
theorem sized_of {H : Type} {ts : List TypeId} {ds : List (DataW H)} {j : Nat} {t : TypeId} {D : DataW H}
 (hZ : (DataW.weightsEach Tryz.prog ts ds).all (· ≤ reachBytes) = true) (hj : ts[j]? = some t) (hd : ds[j]? = some D) : ∀ q ∈ D.weights Tryz.prog t, q ≤ 140737488351232 := fun q hq =>
 of_decide_eq_true (List.all_eq_true.1 hZ _ (DataW.weights_mem_each hj hd q hq))

theorem ly {α : Type} : (∀ (xs : List α) (i : Nat) (h : i < xs.toArray.size), xs.toArray[i] = xs[i]'(by simpa using h)) ∧ (∀ (a : α) (l : List α) (i : Nat) (h : i + 1 < (a :: l).length), (a :: l)[i + 1] = l[i]'(by simpa using h)) ∧ (∀ (a : α) (l : List α) (h : 0 < (a :: l).length), (a :: l)[0] = a) ∧
 (∀ (l : List α) (i : Nat) (a : α), l.toArray.setIfInBounds i a = (l.set i a).toArray) ∧ (∀ (x : α) (xs : List α) (a : α), (x :: xs).set 0 a = a :: xs) ∧ (∀ (x : α) (xs : List α) (i : Nat) (a : α), (x :: xs).set (i + 1) a = x :: xs.set i a) :=
 ⟨fun _ _ h => List.getElem_toArray h, fun _ _ _ _ => List.getElem_cons_succ .., fun _ _ _ => List.getElem_cons_zero .., fun _ _ _ => List.setIfInBounds_toArray .., fun _ _ _ => List.set_cons_zero .., fun _ _ _ _ => List.set_cons_succ ..⟩
theorem hI_ {p : Prop} (h : p) : Hid p := Lib.hid h
section
variable {P : Program} {ops : Array Oper} {Q : Exit → Act → World → Prop} {md : Region.Mode} {S : World → Prop}
theorem tkh {i : Nat} {oi : Oper} {v : Value} {fuel : Nat} {listed : Array Bool} {a : Act} {w : World} (hi : ops[i]? = some oi)
 (hy : Region.wanted oi (yielded ops a.tmps) = true ∧ ∀ w, S w → (execOp a.eval oi).run P w = .ok (.value v) w) (hS : S w)
 (h : wpAnyH P md ops Q S fuel (listed.setIfInBounds i true) (a.put oi.dst v) w)
 (hb : (Region.noSelect ops && Region.free md ops listed i && (Region.ready md ops listed).contains i) = true := by kernel_rfl)
 (hQ : ∀ c a w, Q (.panic c) (a.put oi.dst v) w → Q (.panic c) a w := by exact fun _ _ _ h => h) : wpAnyH P md ops Q S (fuel + 1) listed a w := by
 simp only [Bool.and_eq_true] at hb
 exact wpAnyH_take hi hb.1.1 hb.1.2 hb.2 hQ (.inl hy) hS h
theorem tkp {i : Nat} {oi : Oper} {v : Value} {fuel : Nat} {listed : Array Bool} {a : Act} {w : World} (hi : ops[i]? = some oi) (hS : S w)
 (h : wpAnyH P md ops Q S fuel (listed.setIfInBounds i true) (a.put oi.dst v) w)
 (hy : Region.wanted oi (yielded ops a.tmps) = true ∧ ∀ w, S w → (execOp a.eval oi).run P w = .ok (.value v) w := by exact ⟨by rfl, by intro _ _; go_simp; (try with_reducible rfl)⟩)
 (hb : (Region.noSelect ops && Region.free md ops listed i && (Region.ready md ops listed).contains i) = true := by kernel_rfl)
 (hQ : ∀ c a w, Q (.panic c) (a.put oi.dst v) w → Q (.panic c) a w := by exact fun _ _ _ h => h) : wpAnyH P md ops Q S (fuel + 1) listed a w := tkh hi hy hS h hb hQ
theorem onh {r : Nat} {o : Oper} {fuel : Nat} {listed : Array Bool} {a : Act} {w : World} (hr : Region.ready md ops listed = [r]) (ho : ops[r]? = some o)
 (h : ∀ K' : Act → World → Prop, Shut (∀ a w, S w → (S w → wpAnyH P md ops Q S fuel (listed.setIfInBounds r true) a w) → K' a w) → if Region.wanted o (yielded ops a.tmps) = true then Oper.wp P o a w K' Q else K' (a.put o.dst undef) w) : wpAnyH P md ops Q S (fuel + 1) listed a w :=
 wpAnyH_ready hr (by simp) (AllReadyH.cons ho h AllReadyH.nil)
end
end Go.Proofs.YtdcpiaoadbbdoaaGreatDoor
/- Arguments of stage 7: seats, requests, voices, configurations, lists of them. -/
set_option maxRecDepth 100000
set_option maxHeartbeats 16000000
namespace Go.Proofs.YtdcpiaoadbbdoaaGreatDoor
open Go.ChangeShapes Go.WideShapes Go.ChangeAt Go.RowKit Go.Deep Go.Joins

structure Vo where
 id : Nat
 y : Bool
def voC (x : Vo) : List Value := [.int .u64 (x.id : Nat), .bool x.y]
def u64C (x : Nat) : List Value := [.int .u64 (x : Nat)]
abbrev Vs (w : World) (a : Option Addr) (L : List Vo) : Prop := Rw 2 voC w a L
theorem cellsU64 : Tryz.prog.cellsOf 22 = 1 := by kernel_rfl
theorem cellsBool : Tryz.prog.cellsOf 4 = 1 := by kernel_rfl
theorem cellsVoice : Tryz.prog.cellsOf 144 = 2 := by kernel_rfl

structure RowT {α : Type} (T E : TypeId) (k bs : Nat) (z : Value) (f : α → List Value) : Prop where
 und : Tryz.prog.underlying T = some (.slice E)
 info : (Tryz.prog.info? E).map (fun i => (i.zero, i.size, i.bytes)) = some (some z, k, bs)
 zs : z.cells.size = k
 kp : 0 < k
 bp : 2 ≤ bs
 len : ∀ x, (f x).length = k
 one : ∀ x, ∀ u ∈ f x, u.oneCell' = true
theorem owns_less {w : World} {B B' : Nat} {e : TypeId} {size : Nat} {v : Value} {n : Nat} {xs : List Value} (h : w.ownsRow B e size v n xs) (hB : B' ≤ B) : w.ownsRow B' e size v n xs := by
 refine ⟨h.1, ?_⟩
 rcases h.2 with h2 | ⟨g, cap, cur, e1, e2, rest⟩
 · exact .inl h2
 · exact .inr ⟨g, cap, cur, e1, Nat.le_trans hB e2, rest⟩
def Cq {α : Type} (E : TypeId) (k : Nat) (f : α → List Value) (B : Nat) (w : World) (v : Value) (L : List α) : Prop :=
 (L = [] ∧ ∃ ao, v = .slice ao 0 0) ∨ w.ownsRow B E k v L.length (rwC f L)
section
variable {α : Type} {T E : TypeId} {k bs : Nat} {z : Value} {f : α → List Value} {B : Nat} {w : World} {v : Value} {L : List α}
theorem Cq.later {w' : World} (h : Cq E k f B w v L) (hb : Below w.heap.size w w') : Cq E k f B w' v L := by
 rcases h with h | h
 · exact .inl h
 · refine .inr (h.kept ⟨hb.os, hb.tape, hb.output, hb.size, fun k hk _ => hb.block k hk⟩ (row := none) ?_)
   rcases h1 : v.ownBlock with _ | g
   · exact .inl rfl
   · exact .inr (by simp)
theorem Cq.nil (B : Nat) (w : World) (ao : Option Addr) : Cq E k f B w (.slice ao 0 0) [] := .inl ⟨rfl, ao, rfl⟩
theorem Cq.mono {B' : Nat} (h : Cq E k f B w v L) (hB : B' ≤ B) : Cq E k f B' w v L := h.imp id fun h => owns_less h hB
theorem Cq.form (R : RowT T E k bs z f) (h : Cq E k f B w v L) : ∃ a c, v = .slice a L.length c ∧ Rw k f w a L ∧ (0 < L.length → ∀ q, a = some q → B ≤ q.block) ∧ L.length ≤ c ∧ c ≤ maxLen := by
 rcases h with ⟨rfl, ao, rfl⟩ | h
 · exact ⟨ao, 0, rfl, fun j x hx => by simp at hx, fun h => by simp at h, Nat.le_refl _, by decide⟩
 · obtain ⟨a, c, e, _, hE, hf⟩ := rw_of_owns R.len R.kp h
   refine ⟨a, c, e, hE, fun _ => hf, ?_⟩
   rcases h.2 with ⟨e2, h0⟩ | ⟨g, cap, cur, e2, _, _, hn, hm, _⟩
   · injection e2.symm.trans e with _ _ h3
     subst h3; exact ⟨by omega, by decide⟩
   · injection e2.symm.trans e with _ _ h3
     subst h3; exact ⟨hn, hm⟩
theorem addAny' (b off j : Nat) : (⟨b, off, none⟩ : Addr).add j = ⟨b, off + j, none⟩ := Addr.add_lit ..
theorem maxLen_of {n bs : Nat} (hb : 2 ≤ bs) (h : n * bs ≤ 140737488355328) : n ≤ maxLen := by
 have := Nat.mul_le_mul_left n hb
 unfold maxLen; omega
theorem oneRw (R : RowT T E k bs z f) (L : List α) : ∀ u ∈ rwC f L, u.oneCell' = true := by
 intro u hu
 obtain ⟨x, _, hx⟩ := List.mem_flatMap.1 hu
 exact R.one x u hx
theorem app_rw (R : RowT T E k bs z f) (B : Nat) (w : World) (ty : TypeId) (v : Value) (L : List α) (h : Cq E k f B w v L) (a : Option Addr) (m c : Nat) (M : List α) (hm : M.length = m) (hM : Rw k f w a M) (hl : (L.length + m) * bs ≤ 140737488355328) (hB : B ≤ w.heap.size) :
 ∃ v' w', (Builtin.append_ #[T, T] ty #[v, .slice a m c]).run Tryz.prog w = .ok v' w' ∧ (Cq E k f B w' v' (L ++ M) ∧ Below B w w') := by
 obtain ⟨i0, hi, hz0, hz1', hz2'⟩ := info_parts R.info
 rcases Nat.eq_zero_or_pos m with h0 | h0
 · subst h0
   have hM0 : M = [] := List.length_eq_zero_iff.1 hm
   subst hM0
   rw [List.append_nil]
   have hs : Src Tryz.prog i0.size T (.slice a 0 c) 0 [] w := by
    cases a with
    | none => exact Src.ofNil w R.und c
    | some p => exact Src.ofSlice w R.und p 0 c [] (by simp) (by simp) (by simp)
   have hv : ∃ ao n cap, v = .slice ao n cap ∧ n ≤ cap := by
    rcases h with ⟨_, ao, rfl⟩ | h
    · exact ⟨ao, 0, 0, rfl, Nat.le_refl _⟩
    · rcases h.2 with ⟨rfl, h0⟩ | ⟨g, cap, cur, rfl, _, _, hn, _⟩
      · exact ⟨none, 0, 0, rfl, Nat.le_refl _⟩
      · exact ⟨_, _, cap, rfl, hn⟩
   obtain ⟨ao, n, cap, rfl, hle⟩ := hv
   exact ⟨_, _, run_append_nothing w _ _ ty _ i0 R.und hi ao n cap hle _ hs, h, Below.refl _ _⟩
 · obtain ⟨b1, off, rfl, hb1⟩ := hM.addr (by omega)
   have hrow := rw_row R.len R.kp hM
   have hnews : ∀ j u, (rwC f M)[j]? = some u → w.cell? ((⟨b1, off, none⟩ : Addr).add j) = some u := fun j u hj => by rw [addAny']; exact hrow j u hj
   have hlen : (rwC f M).length = m * k := by rw [rwC_len R.len, hm]
   have hmx := maxLen_of R.bp hl
   rcases h with ⟨rfl, ao, rfl⟩ | h
   · simp only [List.length_nil, Nat.zero_add] at hl hmx
     cases ao with
     | none =>
      obtain ⟨v', w', hr, hown, hg, _⟩ := run_append_own (P := Tryz.prog) w B T ty E i0 _ k bs R.und hi hz0 hz1' hz2' R.zs R.kp (.slice none 0 0) 0 [] (World.ownsRow_nil w B _ k) ⟨b1, off, none⟩ m c (rwC f M) hlen hnews (oneRw R M) (by simpa using hmx) (by simpa using hl) hB
      refine ⟨v', w', hr, .inr ?_, (Below.refl _ _).grown hg hB (by simp [Value.ownBlock])⟩
      simpa [hm] using hown
     | some b =>
      obtain ⟨v', w', hr, hown, hg⟩ := run_append_arg_grows (P := Tryz.prog) w T ty E i0 _ k bs R.und hi hz0 hz1' hz2' R.zs R.kp b 0 0 [] (by simp) (by simp)
       ⟨b1, off, none⟩ m c (rwC f M) hlen hnews (by omega) (by simpa using hmx) (by simpa using hl)
      refine ⟨v', w', hr, .inr ?_, (Below.refl _ _).grown hg hB (by simp)⟩
      have hown' := owns_less hown hB
      simpa [hm] using hown'
   · obtain ⟨v', w', hr, hown, hg, _⟩ := run_append_own (P := Tryz.prog) w B T ty E i0 _ k bs R.und hi hz0 hz1' hz2' R.zs R.kp v L.length (rwC f L) h ⟨b1, off, none⟩ m c (rwC f M) hlen hnews (oneRw R M) hmx hl hB
     refine ⟨v', w', hr, .inr ?_, (Below.refl _ _).grown hg hB (fun k e => (h.lt k e).1)⟩
     rw [List.length_append, rwC_app, hm]
     exact hown
theorem rw_one (w : World) {b : Nat} (hb : b = w.heap.size) (x : α) {os : Array Value} (hf : f x = os.toList) (T : TypeId) : Rw k f (w.alloc (.cells os T)) (some ⟨b, 0, none⟩) [x] := fun j y hy => by
 have hj := (List.getElem?_eq_some_iff.1 hy).1
 simp at hj
 subst hj
 obtain rfl : x = y := by simpa using hy
 refine ⟨b, 0, rfl, by subst hb; simp, fun i u hu => ?_⟩
 subst hb
 rw [hf] at hu
 simp only [Nat.zero_mul, Nat.zero_add]
 rw [show (w.alloc (.cells os T)).cell? ⟨w.heap.size, i, none⟩ = os[i]? by simp [go_sem]]
 simpa using hu
end
def ClP {α : Type} (E : TypeId) (k : Nat) (f : α → List Value) (w : World) (L : List α) (e : Ending) (w' : World) : Prop := ∃ v', e = .returned v' ∧ Cq E k f w.heap.size w' v' L ∧ Below w.heap.size w w'

structure En where
 t : Nat
 d : ByteArray
def Ents (w : World) (a : Option Addr) (L : List En) : Prop :=
 ∀ j x, L[j]? = some x → ∃ b off, a = some ⟨b, off, none⟩ ∧ b < w.heap.size ∧ w.cell? ⟨b, off + j * 2, none⟩ = some (.int .u64 (x.t : Nat)) ∧ w.cell? ⟨b, off + j * 2 + 1, none⟩ = some (.string x.d)
theorem Ents.later {w w' : World} {a : Option Addr} {L : List En} (h : Ents w a L) (hb : Below w.heap.size w w') : Ents w' a L := fun j x hx => by
 obtain ⟨b, off, e, hlt, c0, c1⟩ := h j x hx
 exact ⟨b, off, e, Nat.lt_of_lt_of_le hlt hb.size, (hb.cell (p := ⟨b, off + j * 2, none⟩) hlt).trans c0, (hb.cell (p := ⟨b, off + j * 2 + 1, none⟩) hlt).trans c1⟩
theorem Ents.nil (w : World) (a : Option Addr) : Ents w a [] := fun j x hx => by simp at hx
theorem Ents.take {w : World} {a : Option Addr} {L : List En} (h : Ents w a L) (k : Nat) : Ents w a (L.take k) := fun j x hx => by
 have hj := (List.getElem?_eq_some_iff.1 hx).1
 rw [List.length_take] at hj
 rw [List.getElem?_take_of_lt (by omega)] at hx
 exact h j x hx
theorem Ents.drop {w : World} {b off off' : Nat} {L : List En} (h : Ents w (some ⟨b, off, none⟩) L) (k : Nat) (ho : k < L.length → off' = off + k * 2) : Ents w (some ⟨b, off', none⟩) (L.drop k) := fun j x hx => by
 have hj := (List.getElem?_eq_some_iff.1 hx).1
 rw [List.length_drop] at hj
 rw [List.getElem?_drop] at hx
 obtain ⟨b2, off2, e, hlt, c0, c1⟩ := h _ x hx
 cases e
 have e2 : off' + j * 2 = off + (k + j) * 2 := by rw [ho (by omega)]; omega
 exact ⟨b, off', rfl, hlt, by rw [e2]; exact c0, by rw [e2]; exact c1⟩
theorem Ents.set {w : World} {a : Option Addr} {L : List En} (h : Ents w a L) {x : Nat} (hne : ∀ q, a = some q → q.block ≠ x) (o : Nat) (v : Value) : Ents (w.setCell ⟨x, o, none⟩ v) a L := fun j y hy => by
 obtain ⟨b, off, e, hlt, c0, c1⟩ := h j y hy
 have hb : x ≠ b := fun h => hne _ e h.symm
 exact ⟨b, off, e, by simpa using hlt, (World.cell?_setCell_far _ _ _ _ hb).trans c0, (World.cell?_setCell_far _ _ _ _ hb).trans c1⟩
theorem Ents.addr {w : World} {a : Option Addr} {L : List En} (h : Ents w a L) (hL : 0 < L.length) : ∃ b off, a = some ⟨b, off, none⟩ ∧ b < w.heap.size := by
 obtain ⟨b2, off2, e, hlt, _, _⟩ := h 0 _ (List.getElem?_eq_getElem hL)
 exact ⟨b2, off2, e, hlt⟩
def enCells (x : En) : List Value := [.int .u64 (x.t : Nat), .string x.d]
def esCells (L : List En) : List Value := L.flatMap enCells
theorem esCells_app (L M : List En) : esCells (L ++ M) = esCells L ++ esCells M := by simp [esCells]
theorem esCells_len (L : List En) : (esCells L).length = L.length * 2 := by
 induction L with
 | nil => rfl
 | cons y L ih => simp only [esCells, List.flatMap_cons, List.length_append, List.length_cons] at ih ⊢; rw [ih]; simp [enCells]; omega
theorem esCells_at (L : List En) : ∀ (j : Nat) (x : En), L[j]? = some x → ∀ i (h : i < 2), (esCells L)[j * 2 + i]? = some ((enCells x)[i]'h) := by
 induction L with
 | nil => intro j x h; simp at h
 | cons y L ih =>
  intro j x h i hi
  cases j with
  | zero =>
   obtain rfl : y = x := by simpa using h
   simp only [esCells, List.flatMap_cons, Nat.zero_mul, Nat.zero_add]
   rw [List.getElem?_append_left (by simpa [enCells] using hi), List.getElem?_eq_getElem (by simpa [enCells] using hi)]
   rfl
  | succ j =>
   have h2 := ih j x (by simpa using h) i hi
   simp only [esCells, List.flatMap_cons]
   rw [List.getElem?_append_right (by simp [enCells]; omega)]
   have e : (j + 1) * 2 + i - (enCells y).length = j * 2 + i := by simp [enCells]; omega
   rw [e]; exact h2
theorem infoEntry : (Tryz.prog.info? 65).map (fun i => (i.zero, i.size, i.bytes)) = some (some (.agg #[.int .u64 0, .string ⟨#[]⟩]), 2, 24) := by kernel_rfl
theorem lt_of_row' {w : World} {b : Nat} {o : Obj} (hb : w.heap[b]? = some o) : b < w.heap.size := (Array.getElem?_eq_some_iff.1 hb).1
theorem ents_of_owns {w : World} {B : Nat} {v : Value} {L : List En} (h : w.ownsRow B 65 2 v L.length (esCells L)) : ∃ a cap, v = .slice a L.length cap ∧ Ents w a L ∧ ∀ q, a = some q → B ≤ q.block := by
 rcases h.2 with ⟨rfl, h0⟩ | ⟨g, cap, cur, rfl, hB, hg, _, _, _, htake⟩
 · refine ⟨none, 0, by rw [h0], fun j x hx => ?_, fun q e => by cases e⟩
   have := (List.getElem?_eq_some_iff.1 hx).1; omega
 · refine ⟨_, cap, rfl, fun j x hx => ?_, fun q e => by cases e; exact hB⟩
   have hj := (List.getElem?_eq_some_iff.1 hx).1
   have c : ∀ i (hi : i < 2), w.cell? ⟨g, j * 2 + i, none⟩ = some ((enCells x)[i]'hi) := fun i hi => by
    rw [cell_of_row w g _ cur _ _ hg, ← Array.getElem?_toList]
    have h1 := esCells_at L j x hx i hi
    rw [← htake, List.getElem?_take_of_lt (by omega)] at h1
    exact h1
   exact ⟨g, 0, rfl, lt_of_row' hg, by simpa [enCells] using c 0 (by omega), by simpa [enCells] using c 1 (by omega)⟩
theorem ents_row {w : World} {b off : Nat} {L : List En} (h : Ents w (some ⟨b, off, none⟩) L) : ∀ j u, (esCells L)[j]? = some u → w.cell? ⟨b, off + j, none⟩ = some u := by
 intro j u hj
 have hlt := (List.getElem?_eq_some_iff.1 hj).1
 rw [esCells_len] at hlt
 obtain ⟨x, hx⟩ : ∃ x, L[j / 2]? = some x := ⟨_, List.getElem?_eq_getElem (by omega)⟩
 have e := esCells_at L (j / 2) x hx (j % 2) (by omega)
 rw [show j / 2 * 2 + j % 2 = j by omega, hj] at e
 obtain ⟨b', off', e1, _, c0, c1⟩ := h (j / 2) x hx
 cases e1
 have hcase : j % 2 = 0 ∨ j % 2 = 1 := by omega
 rcases hcase with h0 | h0
 · rw [show off + j = off + j / 2 * 2 by omega, c0]; simp only [h0] at e; simpa [enCells] using e.symm
 · rw [show off + j = off + j / 2 * 2 + 1 by omega, c1]; simp only [h0] at e; simpa [enCells] using e.symm
theorem oneEs (L : List En) : ∀ u ∈ esCells L, u.oneCell' = true := by
 intro u hu
 simp only [esCells, List.mem_flatMap] at hu
 obtain ⟨x, _, hx⟩ := hu
 simp only [enCells, List.mem_cons, List.not_mem_nil, or_false] at hx
 rcases hx with rfl | rfl <;> rfl
theorem addAnyE' (b off j : Nat) : (⟨b, off, none⟩ : Addr).add j = ⟨b, off + j, none⟩ := Addr.add_lit ..

structure Lb (w : World) (x : Nat) (base bt : Nat) (snap : ByteArray) (v : Value) : Prop where
 c0 : w.cell? ⟨x, 0, none⟩ = some (.int .u64 base)
 c1 : w.cell? ⟨x, 1, none⟩ = some (.int .u64 bt)
 c2 : w.cell? ⟨x, 2, none⟩ = some (.string snap)
 c3 : w.cell? ⟨x, 3, none⟩ = some v
 fz : ∀ j, w.frozen? ⟨x, j, none⟩ = false
 lt : x < w.heap.size
theorem Lb.new {w : World} {x : Nat} (hx : x = w.heap.size) (base bt : Nat) (snap : ByteArray) (v : Value) (T : TypeId) : Lb (w.alloc (.cells #[.int .u64 base, .int .u64 bt, .string snap, v] T)) x base bt snap v := by
 subst hx
 exact ⟨by simp [go_sem], by simp [go_sem], by simp [go_sem], by simp [go_sem], fun j => by simp [go_sem], by simp⟩
theorem Lb.zero {w : World} {x : Nat} (hx : x = w.heap.size) (T : TypeId) : Lb (w.alloc (.cells #[.int .u64 0, .int .u64 0, .string ⟨#[]⟩, .slice none 0 0] T)) x 0 0 ⟨#[]⟩ (.slice none 0 0) := Lb.new hx 0 0 _ _ T
theorem Lb.later {w w' : World} {x base bt : Nat} {snap : ByteArray} {v : Value} (h : Lb w x base bt snap v) (hb : Below w.heap.size w w') : Lb w' x base bt snap v :=
 ⟨(hb.cell (p := ⟨x, 0, none⟩) h.lt).trans h.c0, (hb.cell (p := ⟨x, 1, none⟩) h.lt).trans h.c1, (hb.cell (p := ⟨x, 2, none⟩) h.lt).trans h.c2, (hb.cell (p := ⟨x, 3, none⟩) h.lt).trans h.c3, fun j => (hb.frozen (p := ⟨x, j, none⟩) h.lt).trans (h.fz j), Nat.lt_of_lt_of_le h.lt hb.size⟩
theorem Lb.past {w : World} {x base bt : Nat} {snap : ByteArray} {v : Value} (h : Lb w x base bt snap v) (ob : Obj) : Lb (w.alloc ob) x base bt snap v := h.later ((Below.refl _ _).alloc (Nat.le_refl _) _)
theorem Lb.far {w : World} {x base bt : Nat} {snap : ByteArray} {v : Value} (h : Lb w x base bt snap v) {y : Nat} (hne : y ≠ x) (o : Nat) (u : Value) : Lb (w.setCell ⟨y, o, none⟩ u) x base bt snap v :=
 ⟨(World.cell?_setCell_far _ _ _ _ hne).trans h.c0, (World.cell?_setCell_far _ _ _ _ hne).trans h.c1, (World.cell?_setCell_far _ _ _ _ hne).trans h.c2, (World.cell?_setCell_far _ _ _ _ hne).trans h.c3, fun j => by simpa using h.fz j, by simpa using h.lt⟩
theorem Lb.put3 {w : World} {x base bt : Nat} {snap : ByteArray} {v : Value} (h : Lb w x base bt snap v) (u : Value) : Lb (w.setCell ⟨x, 3, none⟩ u) x base bt snap u := by
 obtain ⟨h0, h1, h2, h3, hf, hl⟩ := h
 exact ⟨by simp [go_sem, h0], by simp [go_sem, h1], by simp [go_sem, h2], by simp [go_sem, h3], fun j => by simpa using hf j, by simpa using hl⟩

def szOf (v : Int) : Int := if v < 64 then 1 else if v < 16384 then 2 else if v < 1073741824 then 4 else if v < 4611686018427387904 then 8 else 0
theorem szOf1 {v : Int} (h : v < 64) : szOf v = 1 := by unfold szOf; rw [if_pos h]
theorem szOf2 {v : Int} (h : 64 ≤ v) (h2 : v < 16384) : szOf v = 2 := by unfold szOf; rw [if_neg (by omega), if_pos h2]
theorem szOf4 {v : Int} (h : 16384 ≤ v) (h2 : v < 1073741824) : szOf v = 4 := by unfold szOf; rw [if_neg (by omega), if_neg (by omega), if_pos h2]
theorem szOf8 {v : Int} (h : 1073741824 ≤ v) (h2 : v < 4611686018427387904) : szOf v = 8 := by unfold szOf; rw [if_neg (by omega), if_neg (by omega), if_neg (by omega), if_pos h2]
theorem szOf0 {v : Int} (h : 4611686018427387904 ≤ v) : szOf v = 0 := by unfold szOf; rw [if_neg (by omega), if_neg (by omega), if_neg (by omega), if_neg (by omega)]
theorem retI64 {a b : Int} (h : a = b) : Ending.returned (.int .i64 a) = .returned (.int .i64 b) := by rw [h]

theorem refSize_any (v : Int) (w : World) (_h0 : 0 ≤ v) :
 Calls Tryz.prog 146 #[.int .u64 v] w fun e w' => e = .returned (.int .i64 (szOf v)) ∧ w = w' := by
 go_enter Tryz.func146, Tryz.ntmps146
 go_wp2
 all_goals go_ret
 · exact ⟨retI64 (szOf1 (by assumption)).symm, rfl⟩
 · exact ⟨retI64 (szOf2 (by assumption) (by assumption)).symm, rfl⟩
 · exact ⟨retI64 (szOf4 (by assumption) (by assumption)).symm, rfl⟩
 · exact ⟨retI64 (szOf8 (by assumption) (by assumption)).symm, rfl⟩
 · exact ⟨retI64 (szOf0 (by assumption)).symm, rfl⟩
theorem div_t {v c : Int} (h : (v / c == 0) = true) (_h0 : 0 ≤ v) (hc : 0 < c) : v < c := by
 have h1 : v / c = 0 := by simpa using h
 have := Int.lt_ediv_add_one_mul_self v hc; rw [h1] at this; omega
theorem div_f {v c : Int} (h : (v / c == 0) = false) (h0 : 0 ≤ v) (_hc : 0 < c) : c ≤ v := by
 have h1 : v / c ≠ 0 := by simpa using h
 exact Int.not_lt.1 fun hl => h1 (Int.ediv_eq_zero_of_lt h0 hl)
theorem size_any (v : Int) (w : World) (h0 : 0 ≤ v) :
 Calls Tryz.prog 130 #[.int .u64 v] w fun e w' => e = .returned (.int .i64 (szOf v)) ∧ w = w' := by
 go_enter Tryz.func130, Tryz.ntmps130
 go_wp2
 refine wp_loop_rounds 5 ?_
 iterate 5 (any_goals (rw [rounds_succ]; go_wp2))
 all_goals go_ret
 · exact ⟨retI64 (szOf1 (div_t ‹(v / 64 == 0) = true› h0 (by decide))).symm, rfl⟩
 · exact ⟨retI64 (szOf2 (div_f ‹(v / 64 == 0) = false› h0 (by decide)) (div_t ‹(v / 16384 == 0) = true› h0 (by decide))).symm, rfl⟩
 · exact ⟨retI64 (szOf4 (div_f ‹(v / 16384 == 0) = false› h0 (by decide)) (div_t ‹(v / 1073741824 == 0) = true› h0 (by decide))).symm, rfl⟩
 · exact ⟨retI64 (szOf8 (div_f ‹(v / 1073741824 == 0) = false› h0 (by decide)) (div_t ‹(v / 4611686018427387904 == 0) = true› h0 (by decide))).symm, rfl⟩
 · exact ⟨retI64 (szOf0 (div_f ‹(v / 4611686018427387904 == 0) = false› h0 (by decide))).symm, rfl⟩

structure Tz (w : World) : Prop where
 n : 2 ≤ w.heap.size
 c0 : w.cell? ⟨1, 0, none⟩ = some (.int .u8 0)
 c1 : w.cell? ⟨1, 1, none⟩ = some (.int .u8 1)
 c3 : w.cell? ⟨1, 3, none⟩ = some (.int .u8 2)
 c7 : w.cell? ⟨1, 7, none⟩ = some (.int .u8 3)
theorem Tz.below {w w' : World} (h : Tz w) (hb : Below 2 w w') : Tz w' := by
 refine ⟨Nat.le_trans h.n hb.size, ?_, ?_, ?_, ?_⟩ <;> rw [hb.cell (by show 1 < 2; omega)]
 · exact h.c0
 · exact h.c1
 · exact h.c3
 · exact h.c7
theorem sizeU8 : (Tryz.prog.info? 5).map (·.size) = some 1 := by kernel_rfl
theorem addHead (b j : Nat) : (⟨b, 0, none⟩ : Addr).add j = ⟨b, j, none⟩ := by unfold Addr.add; split <;> simp_all
def u8v (c : UInt8) : Value := .int .u8 (c.toNat : Int)
def beB (n : Nat) (k : Nat) : List UInt8 := (List.range k).map fun i => UInt8.ofNat (n / 256 ^ (k - 1 - i))
def numB (n : Nat) : List UInt8 :=
 if n < 64 then beB n 1 else if n < 16384 then beB (n + 16384) 2 else if n < 1073741824 then beB (n + 2147483648) 4 else beB (n + 13835058055282163712) 8
theorem numB_1 {n : Nat} (h : n < 64) : numB n = beB n 1 := by unfold numB; rw [if_pos h]
theorem numB_2 {n : Nat} (h : 64 ≤ n) (h2 : n < 16384) : numB n = beB (n + 16384) 2 := by unfold numB; rw [if_neg (by omega), if_pos h2]
theorem numB_4 {n : Nat} (h : 16384 ≤ n) (h2 : n < 1073741824) : numB n = beB (n + 2147483648) 4 := by unfold numB; rw [if_neg (by omega), if_neg (by omega), if_pos h2]
theorem numB_8 {n : Nat} (h : 1073741824 ≤ n) : numB n = beB (n + 13835058055282163712) 8 := by unfold numB; rw [if_neg (by omega), if_neg (by omega), if_neg (by omega)]
theorem length_beB (n k : Nat) : (beB n k).length = k := by simp [beB]
theorem u8v_of {x : Int} {n : Nat} (h : x = ((n % 256 : Nat) : Int)) : Value.int .u8 x = u8v (UInt8.ofNat n) := by unfold u8v; rw [h]; simp
theorem or_tag (t : Fin 4) {x : Int} (h0 : 0 ≤ x) (h1 : x < 64) : Go.bits BinOp.or IntKind.u8 x (64 * t.1 : Int) = x + 64 * t.1 := by
 obtain ⟨n, rfl⟩ := Int.eq_ofNat_of_zero_le h0
 have : ∀ (t : Fin 4) (n : Fin 64), Go.bits BinOp.or IntKind.u8 (n.1 : Int) (64 * t.1 : Int) = (n.1 : Int) + 64 * t.1 := by decide +kernel
 exact this t ⟨n, by omega⟩
theorem or0 {x : Int} (h0 : 0 ≤ x) (h1 : x < 64) : Go.bits BinOp.or IntKind.u8 x 0 = x := by simpa using or_tag 0 h0 h1
theorem or64 {x : Int} (h0 : 0 ≤ x) (h1 : x < 64) : Go.bits BinOp.or IntKind.u8 x 64 = x + 64 := or_tag 1 h0 h1
theorem or128 {x : Int} (h0 : 0 ≤ x) (h1 : x < 64) : Go.bits BinOp.or IntKind.u8 x 128 = x + 128 := or_tag 2 h0 h1
theorem or192 {x : Int} (h0 : 0 ≤ x) (h1 : x < 64) : Go.bits BinOp.or IntKind.u8 x 192 = x + 192 := or_tag 3 h0 h1
theorem getElem?_more {L : List Value} {j : Nat} {x : Value} (h : L[j]? = some x) (Z : List Value) : (L ++ Z).toArray[j]? = some x := by
 rw [List.getElem?_toArray, List.getElem?_append_left (List.getElem?_eq_some_iff.1 h).1]; exact h
theorem one_u8v (bs : List UInt8) : ∀ x ∈ bs.map u8v, x.oneCell' = true := by
 intro x hx; obtain ⟨c, _, rfl⟩ := List.mem_map.1 hx; rfl
theorem lt_of_rowB {w : World} {b : Nat} {o : Obj} (hb : w.heap[b]? = some o) : b < w.heap.size := by
 rcases Nat.lt_or_ge b w.heap.size with h | h
 · exact h
 · rw [Array.getElem?_eq_none h] at hb; cases hb
theorem splice_spelt (cur : List Value) (off : Nat) (bs : List UInt8) : List.take off cur ++ (List.map u8v bs ++ List.drop (off + bs.length) cur) = splice cur off (bs.map u8v) := by simp [splice]
theorem lay_close {w : World} {o : Obj} {b : Nat} {cur X : List Value} {t : TypeId} (hb : w.heap[b]? = some (.cells cur.toArray t (0, 0))) :
 w.grownBy ((w.alloc o).drew.setRow b X.toArray) (some b) ∧ ((w.alloc o).drew.setRow b X.toArray).heap[b]? = some (.cells X.toArray t (0, 0)) := by
 have hb1 : (w.alloc o).drew.heap[b]? = some (.cells cur.toArray t (0, 0)) := (Below.heap_alloc w o b (lt_of_rowB hb)).trans hb
 refine ⟨⟨rfl, rfl, rfl, by simp [World.setRow], fun k hk hne => ?_⟩, setRow_heap _ b _ _ t _ hb1⟩
 rw [setRow_other _ _ _ _ (by intro e; exact hne (by rw [e]))]
 exact Below.heap_alloc w o k hk
theorem cells_1 (v : Int) (h0 : 0 ≤ v) (h1 : v < 64) :
 ([.int .u8 (Go.bits BinOp.or IntKind.u8 (v) 0)] : List Value) = (numB v.toNat).map u8v := by
 obtain ⟨n, rfl⟩ := Int.eq_ofNat_of_zero_le (show 0 ≤ v by omega)
 rw [or0 (by omega) (by omega), Int.toNat_natCast, numB_1 (by omega)]
 simp only [beB, List.range_succ, List.range_zero, List.nil_append, List.map_cons, List.map_nil, Nat.reduceSub, Nat.reducePow, Nat.div_one]
 congr 1; exact u8v_of (by omega)
theorem len_1 {v : Int} (h0 : 0 ≤ v) (h1 : v < 64) : (numB v.toNat).length = 1 := by rw [numB_1 (by omega), length_beB]
theorem cells_2 (v : Int) (h0 : 64 ≤ v) (h1 : v < 16384) :
 ([.int .u8 (Go.bits BinOp.or IntKind.u8 (v / 256) 64), .int .u8 (v % 256)] : List Value) = (numB v.toNat).map u8v := by
 obtain ⟨n, rfl⟩ := Int.eq_ofNat_of_zero_le (show 0 ≤ v by omega)
 rw [or64 (by omega) (by omega), Int.toNat_natCast, numB_2 (by omega) (by omega)]
 simp only [beB, List.range_succ, List.range_zero, List.nil_append, List.cons_append, List.map_cons, List.map_nil, Nat.reduceSub, Nat.reducePow, Nat.div_one]
 congr 1; exact u8v_of (by omega)
 congr 1; exact u8v_of (by omega)
theorem len_2 {v : Int} (h0 : 64 ≤ v) (h1 : v < 16384) : (numB v.toNat).length = 2 := by rw [numB_2 (by omega) (by omega), length_beB]
theorem cells_4 (v : Int) (h0 : 16384 ≤ v) (h1 : v < 1073741824) :
 ([.int .u8 (Go.bits BinOp.or IntKind.u8 (v / 16777216) 128), .int .u8 (v / 65536 % 256), .int .u8 (v / 256 % 256), .int .u8 (v % 256)] : List Value) = (numB v.toNat).map u8v := by
 obtain ⟨n, rfl⟩ := Int.eq_ofNat_of_zero_le (show 0 ≤ v by omega)
 rw [or128 (by omega) (by omega), Int.toNat_natCast, numB_4 (by omega) (by omega)]
 simp only [beB, List.range_succ, List.range_zero, List.nil_append, List.cons_append, List.map_cons, List.map_nil, Nat.reduceSub, Nat.reducePow, Nat.div_one]
 congr 1; exact u8v_of (by omega)
 congr 1; exact u8v_of (by omega)
 congr 1; exact u8v_of (by omega)
 congr 1; exact u8v_of (by omega)
theorem len_4 {v : Int} (h0 : 16384 ≤ v) (h1 : v < 1073741824) : (numB v.toNat).length = 4 := by rw [numB_4 (by omega) (by omega), length_beB]
theorem cells_8 (v : Int) (h0 : 1073741824 ≤ v) (h1 : v < 4611686018427387904) :
 ([.int .u8 (Go.bits BinOp.or IntKind.u8 (v / 72057594037927936) 192), .int .u8 (v / 281474976710656 % 256), .int .u8 (v / 1099511627776 % 256), .int .u8 (v / 4294967296 % 256), .int .u8 (v / 16777216 % 256), .int .u8 (v / 65536 % 256), .int .u8 (v / 256 % 256), .int .u8 (v % 256)] : List Value) = (numB v.toNat).map u8v := by
 obtain ⟨n, rfl⟩ := Int.eq_ofNat_of_zero_le (show 0 ≤ v by omega)
 rw [or192 (by omega) (by omega), Int.toNat_natCast, numB_8 (by omega)]
 simp only [beB, List.range_succ, List.range_zero, List.nil_append, List.cons_append, List.map_cons, List.map_nil, Nat.reduceSub, Nat.reducePow, Nat.div_one]
 congr 1; exact u8v_of (by omega)
 congr 1; exact u8v_of (by omega)
 congr 1; exact u8v_of (by omega)
 congr 1; exact u8v_of (by omega)
 congr 1; exact u8v_of (by omega)
 congr 1; exact u8v_of (by omega)
 congr 1; exact u8v_of (by omega)
 congr 1; exact u8v_of (by omega)
theorem len_8 {v : Int} (h0 : 1073741824 ≤ v) (h1 : v < 4611686018427387904) : (numB v.toNat).length = 8 := by rw [numB_8 (by omega), length_beB]
theorem numB_len (v : Int) (h0 : 0 ≤ v) (h1 : v < 4611686018427387904) : ((numB v.toNat).length : Int) = szOf v := by
 by_cases a : v < 64
 · rw [len_1 h0 a, szOf1 a]; rfl
 by_cases b : v < 16384
 · rw [len_2 (by omega) b, szOf2 (by omega) b]; rfl
 by_cases c : v < 1073741824
 · rw [len_4 (by omega) c, szOf4 (by omega) c]; rfl
 · rw [len_8 (by omega) h1, szOf8 (by omega) h1]; rfl

def tkVal (a : Nat) (l : List UInt8) : Nat := l.foldl (fun v c => v * 256 + c.toNat) a
def tkLen (c : UInt8) : Nat := 2 ^ (c.toNat / 64)
def tkNum : List UInt8 → Nat × List UInt8 × Nat
 | [] => (0, [], 2)
 | c :: r => if r.length + 1 < tkLen c then (0, [], 2) else
  if szOf (tkVal (c.toNat % 64) (r.take (tkLen c - 1))) = tkLen c then (tkVal (c.toNat % 64) (r.take (tkLen c - 1)), r.drop (tkLen c - 1), 0) else (0, [], 3)
def tkOut (r : Nat × List UInt8 × Nat) : Ending := .returned (.tuple #[.int .u64 r.1, .string ⟨r.2.1.toArray⟩, .int .i64 r.2.2])
def TkPost (s : ByteArray) (w : World) (e : Ending) (w' : World) : Prop := e = tkOut (tkNum s.data.toList) ∧ ∃ k, w' = w.drewN k
theorem tkPost_mk {s : ByteArray} {w : World} {l r : List UInt8} {v x : Nat} {V X : Int} {t : ByteArray} (k : Nat) (hs : s.data.toList = l) (h : tkNum l = (v, r, x)) (hv : V = v) (hr : t = ⟨r.toArray⟩) (hx : X = x) :
 TkPost s w (.returned (.tuple #[.int .u64 V, .string t, .int .i64 X])) (w.drewN k) := by
 subst hs; refine ⟨?_, k, rfl⟩; rw [h, hv, hr, hx]; rfl
theorem getAt {s : ByteArray} {l : List UInt8} (h : s.data.toList = l) (i : Nat) (c : UInt8) (hc : l[i]? = some c) (hi : i < s.size) : s[i] = c := by
 subst h
 have : s.data[i]? = some c := by rw [← Array.getElem?_toList]; exact hc
 have h2 := Array.getElem?_eq_some_iff.1 this
 exact h2.2
theorem sizeOf_toList {s : ByteArray} {l : List UInt8} (h : s.data.toList = l) : s.size = l.length := by subst h; rw [Array.length_toList]; rfl
theorem or_byte (x y : Int) (h0 : 0 ≤ x) (h1 : x < 72057594037927936) (h2 : 0 ≤ y) (h3 : y < 256) : Go.bits BinOp.or IntKind.u64 (x * 256) y = x * 256 + y := by
 obtain ⟨a, rfl⟩ := Int.eq_ofNat_of_zero_le h0
 obtain ⟨b, rfl⟩ := Int.eq_ofNat_of_zero_le h2
 have e : (a : Int) * 256 = ((2 ^ 8 * a : Nat) : Int) := by omega
 rw [e, u64_or_nat _ _ (by omega) (by omega), ← Nat.two_pow_add_eq_or_of_lt (by omega)]
 omega
theorem isEmpty_of {s : ByteArray} {c : UInt8} {r : List UInt8} (h : s.data.toList = c :: r) : s.toList.isEmpty = false ∧ (s.toList == []) = false := by
 rw [ByteArray.toList_eq, h]; exact ⟨rfl, rfl⟩
theorem extract_drop {s : ByteArray} {l : List UInt8} (h : s.data.toList = l) (n : Nat) : s.extract n s.size = ⟨(l.drop n).toArray⟩ := by
 subst h; apply ByteArray.ext
 apply Array.toList_inj.1
 rw [ByteArray.data_extract, Array.toList_extract]
 simp only [List.extract_eq_take_drop]
 exact List.take_of_length_le (by rw [List.length_drop, Array.length_toList]; exact Nat.le_refl _)
theorem tkPost_mk0 {s : ByteArray} {w : World} {l r : List UInt8} {v x : Nat} {V X : Int} {t : ByteArray} (hs : s.data.toList = l) (h : tkNum l = (v, r, x)) (hv : V = v) (hr : t = ⟨r.toArray⟩) (hx : X = x) :
 TkPost s w (.returned (.tuple #[.int .u64 V, .string t, .int .i64 X])) w := tkPost_mk 0 hs h hv hr hx
theorem tkNum_ok {c : UInt8} {bs r : List UInt8} {n : Nat} (hn : tkLen c = n) (hb : bs.length + 1 = n) (hz : szOf (tkVal (c.toNat % 64) bs) = n) : tkNum (c :: (bs ++ r)) = (tkVal (c.toNat % 64) bs, r, 0) := by
 have ht : (bs ++ r).take (n - 1) = bs := by rw [show n - 1 = bs.length by omega]; simp
 have hd : (bs ++ r).drop (n - 1) = r := by rw [show n - 1 = bs.length by omega]; simp
 simp only [tkNum]
 rw [hn, if_neg (by simp; omega), ht, hd, if_pos hz]
theorem tkNum_bad {c : UInt8} {bs r : List UInt8} {n : Nat} (hn : tkLen c = n) (hb : bs.length + 1 = n) (hz : szOf (tkVal (c.toNat % 64) bs) ≠ n) : tkNum (c :: (bs ++ r)) = (0, [], 3) := by
 have ht : (bs ++ r).take (n - 1) = bs := by rw [show n - 1 = bs.length by omega]; simp
 simp only [tkNum]
 rw [hn, if_neg (by simp; omega), ht, if_neg hz]
theorem tkNum_short {c : UInt8} {r : List UInt8} {n : Nat} (hn : tkLen c = n) (hb : r.length + 1 < n) : tkNum (c :: r) = (0, [], 2) := by
 simp only [tkNum]
 rw [hn, if_pos hb]
theorem tkLen_of {c : UInt8} {t n : Nat} (h : c.toNat / 64 = t) (hn : 2 ^ t = n) : Hid (tkLen c = n) := by
 show 2 ^ (c.toNat / 64) = n; rw [h, hn]
theorem size_mk (l : List UInt8) : (ByteArray.mk ⟨l⟩).size = l.length := rfl

theorem numB_le (n : Nat) : (numB n).length ≤ 8 := by
 unfold numB
 split; rw [length_beB]; omega
 split; rw [length_beB]; omega
 split; rw [length_beB]; omega
 rw [length_beB]; omega
theorem size_arr (l : List UInt8) : (ByteArray.mk l.toArray).size = l.length := List.size_toArray
theorem retStrI {s t : ByteArray} {k : IntKind} {e : Int} (h : s = t) : Ending.returned (.tuple #[.string s, .int k e]) = .returned (.tuple #[.string t, .int k e]) := by rw [h]
theorem u8_of {x : Int} {n : Nat} (h : x = ((n % 256 : Nat) : Int)) : UInt8.ofNat x.toNat = UInt8.ofNat n := by rw [h, Int.toNat_natCast]; exact UInt8.toNat_inj.1 (by simp)


theorem one_byte (w : World) (c : Int) : (convert 174 9 (.slice (some ⟨w.heap.size, 0, none⟩) 1 1)).run Tryz.prog (w.alloc (.cells #[.int .u8 c] 5)) = .ok (.string ⟨[UInt8.ofNat c.toNat].toArray⟩) (w.alloc (.cells #[.int .u8 c] 5)) := by
 rw [run_convert_bytes_string _ 174 9 5 _ _ _ Tryz.underlying174 Tryz.underlying5 Tryz.underlying9]
 have hl := run_loadCells_list (P := Tryz.prog) (w.alloc (.cells #[.int .u8 c] 5)) ⟨w.heap.size, 0, none⟩ [Value.int .u8 c] (fun j x hj => by
  rw [addHead]; exact (World.cell?_alloc_new _ _ _ _).trans (by simpa using hj))
 rw [run_bytesToString _ _ 1 1 [c] hl]
 rfl
theorem one_byte_at (w : World) (n : Nat) (c : Int) (hn : n = w.heap.size) : (convert 174 9 (.slice (some ⟨n, 0, none⟩) 1 1)).run Tryz.prog (w.alloc (.cells #[.int .u8 c] 5)) = .ok (.string ⟨[UInt8.ofNat c.toNat].toArray⟩) (w.alloc (.cells #[.int .u8 c] 5)) := by
 subst hn; exact one_byte w c
theorem mkApp1 (a : UInt8) (l : List UInt8) : (ByteArray.mk #[a]) ++ ByteArray.mk l.toArray = ByteArray.mk (a :: l).toArray := ByteArray.mk_append_mk [a] l
theorem retStr {s t : ByteArray} {k : IntKind} {e : Int} (h : s = t) : Ending.returned (.tuple #[.string s, .int k e]) = .returned (.tuple #[.string t, .int k e]) := by rw [h]
theorem str_1 (v : Int) (h0 : 0 ≤ v) (h1 : v < 64) : (ByteArray.mk #[UInt8.ofNat ((v) % 256).toNat] ++ { data := #[] }) = ByteArray.mk (numB v.toNat).toArray := by
 obtain ⟨n, rfl⟩ := Int.eq_ofNat_of_zero_le (show 0 ≤ v by omega)
 simp only [mkApp1]
 refine congrArg (fun l : List UInt8 => ByteArray.mk l.toArray) ?_
 rw [Int.toNat_natCast, numB_1 (by omega)]
 simp only [beB, List.range_succ, List.range_zero, List.nil_append, List.map_cons, List.map_nil, Nat.reduceSub, Nat.reducePow, Nat.div_one]
 congr 1; exact u8_of (by omega)
theorem str_2 (v : Int) (h0 : 64 ≤ v) (h1 : v < 16384) : (ByteArray.mk #[UInt8.ofNat (((v + 16384) / 256) % 256).toNat] ++ (ByteArray.mk #[UInt8.ofNat (((v + 16384)) % 256).toNat] ++ { data := #[] })) = ByteArray.mk (numB v.toNat).toArray := by
 obtain ⟨n, rfl⟩ := Int.eq_ofNat_of_zero_le (show 0 ≤ v by omega)
 simp only [mkApp1]
 refine congrArg (fun l : List UInt8 => ByteArray.mk l.toArray) ?_
 rw [Int.toNat_natCast, numB_2 (by omega) (by omega)]
 simp only [beB, List.range_succ, List.range_zero, List.nil_append, List.cons_append, List.map_cons, List.map_nil, Nat.reduceSub, Nat.reducePow, Nat.div_one]
 congr 1; exact u8_of (by omega)
 congr 1; exact u8_of (by omega)
theorem str_4 (v : Int) (h0 : 16384 ≤ v) (h1 : v < 1073741824) : (ByteArray.mk #[UInt8.ofNat (((v + 2147483648) / 256 / 256 / 256) % 256).toNat] ++ (ByteArray.mk #[UInt8.ofNat (((v + 2147483648) / 256 / 256) % 256).toNat] ++ (ByteArray.mk #[UInt8.ofNat (((v + 2147483648) / 256) % 256).toNat] ++ (ByteArray.mk #[UInt8.ofNat (((v + 2147483648)) % 256).toNat] ++ { data := #[] })))) = ByteArray.mk (numB v.toNat).toArray := by
 obtain ⟨n, rfl⟩ := Int.eq_ofNat_of_zero_le (show 0 ≤ v by omega)
 simp only [mkApp1]
 refine congrArg (fun l : List UInt8 => ByteArray.mk l.toArray) ?_
 rw [Int.toNat_natCast, numB_4 (by omega) (by omega)]
 simp only [beB, List.range_succ, List.range_zero, List.nil_append, List.cons_append, List.map_cons, List.map_nil, Nat.reduceSub, Nat.reducePow, Nat.div_one]
 congr 1; exact u8_of (by omega)
 congr 1; exact u8_of (by omega)
 congr 1; exact u8_of (by omega)
 congr 1; exact u8_of (by omega)
theorem str_8 (v : Int) (h0 : 1073741824 ≤ v) (h1 : v < 4611686018427387904) : (ByteArray.mk #[UInt8.ofNat (((v + 13835058055282163712) / 256 / 256 / 256 / 256 / 256 / 256 / 256) % 256).toNat] ++ (ByteArray.mk #[UInt8.ofNat (((v + 13835058055282163712) / 256 / 256 / 256 / 256 / 256 / 256) % 256).toNat] ++ (ByteArray.mk #[UInt8.ofNat (((v + 13835058055282163712) / 256 / 256 / 256 / 256 / 256) % 256).toNat] ++ (ByteArray.mk #[UInt8.ofNat (((v + 13835058055282163712) / 256 / 256 / 256 / 256) % 256).toNat] ++ (ByteArray.mk #[UInt8.ofNat (((v + 13835058055282163712) / 256 / 256 / 256) % 256).toNat] ++ (ByteArray.mk #[UInt8.ofNat (((v + 13835058055282163712) / 256 / 256) % 256).toNat] ++ (ByteArray.mk #[UInt8.ofNat (((v + 13835058055282163712) / 256) % 256).toNat] ++ (ByteArray.mk #[UInt8.ofNat (((v + 13835058055282163712)) % 256).toNat] ++ { data := #[] })))))))) = ByteArray.mk (numB v.toNat).toArray := by
 obtain ⟨n, rfl⟩ := Int.eq_ofNat_of_zero_le (show 0 ≤ v by omega)
 simp only [mkApp1]
 refine congrArg (fun l : List UInt8 => ByteArray.mk l.toArray) ?_
 rw [Int.toNat_natCast, numB_8 (by omega)]
 simp only [beB, List.range_succ, List.range_zero, List.nil_append, List.cons_append, List.map_cons, List.map_nil, Nat.reduceSub, Nat.reducePow, Nat.div_one]
 congr 1; exact u8_of (by omega)
 congr 1; exact u8_of (by omega)
 congr 1; exact u8_of (by omega)
 congr 1; exact u8_of (by omega)
 congr 1; exact u8_of (by omega)
 congr 1; exact u8_of (by omega)
 congr 1; exact u8_of (by omega)
 congr 1; exact u8_of (by omega)
end Go.Proofs.YtdcpiaoadbbdoaaGreatDoor
