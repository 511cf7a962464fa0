/- The program's leading: the iterator's contract: each note in its order, with where it ends. -/
import Derived.Test.YtjbhnkigbobhiaaDoorRa
import Derived.Test.YtjbhnkigbobhiaaDoorVb
import Derived.Test.YtjbhnkigbobhiaaDoorPtakes
import Derived.Test.YtjbhnkigbobhiaaDoorRf
namespace Go.Proofs.YtjbhnkigbobhiaaDoor
open Go.RowKit Go.Shelf
attribute [local go_sem] Oper.semAt_some

/-- A note, and where it ends. -/
noncomputable def rdE (T : Nat) : Nat → List UInt8 → List (Nt × Int)
  | 0, _ => []
  | f + 1, b => match noteAt b with
    | some (n, r) => (n, (T : Int) - r.length) :: rdE T f r
    | none => []
noncomputable def rdEB (T : Nat) (b : List UInt8) : List (Nt × Int) := rdE T b.length b
theorem rdE_more (T : Nat) : ∀ (f g : Nat) (b : List UInt8), b.length ≤ f → b.length ≤ g → rdE T f b = rdE T g b
  | 0, 0, _, _, _ => rfl
  | 0, g + 1, b, h, _ => by
    have hb : b = [] := List.length_eq_zero_iff.1 (by omega)
    subst hb
    unfold rdE
    split
    · rename_i n r hn; exact absurd (noteAt_less hn) (by simp)
    · rfl
  | f + 1, 0, b, _, h => by
    have hb : b = [] := List.length_eq_zero_iff.1 (by omega)
    subst hb
    unfold rdE
    split
    · rename_i n r hn; exact absurd (noteAt_less hn) (by simp)
    · rfl
  | f + 1, g + 1, b, hf, hg => by
    unfold rdE
    split
    · rename_i n r hn
      have := noteAt_less hn
      rw [rdE_more T f g r (by omega) (by omega)]
    · rfl
theorem rdE_some {T : Nat} {b : List UInt8} {n : Nt} {r : List UInt8} (h : noteAt b = some (n, r)) : rdEB T b = (n, (T : Int) - r.length) :: rdEB T r := by
  have hl := noteAt_less h
  unfold rdEB
  rw [rdE_more T b.length (b.length + 1) b (Nat.le_refl _) (by omega)]
  conv => lhs; unfold rdE
  rw [h]
  simp only
  rw [rdE_more T b.length r.length r (by omega) (Nat.le_refl _)]
theorem rdE_none {T : Nat} {b : List UInt8} (h : noteAt b = none) : rdEB T b = [] := by
  unfold rdEB
  cases hl : b.length with
  | zero => rfl
  | succ f => unfold rdE; rw [h]
theorem noteAt_bad {b t r : List UInt8} {x : Nat} (hk : tkSeal b = (t, r, x)) (hx : x ≠ 0) : noteAt b = none := by
  unfold noteAt; rw [hk]
  match x, hx with
  | 0, h => exact absurd rfl h
  | _ + 1, _ => rfl
theorem noteAt_of {b t r : List UInt8} (hk : tkSeal b = (t, r, 0)) : noteAt b = (oneL t).map fun n => (n, r) := by unfold noteAt; rw [hk]; rfl
set_option maxRecDepth 100000 in
set_option maxHeartbeats 4000000 in
theorem lead1_in (n : Nat) (hn : 1 ≤ n) (l Bn : Nat) (b : List UInt8) (hb : b.length ≤ 140737488351232) (J Jx : List (Nt × Int) → World → Prop)
    (W : World) (hJ : AbidesFrom W.heap.size J)
    (hY : ∀ pre (x : Nt × Int) W, J pre W → pre.length < (rdEB b.length b).length → YieldAt Fence.wide (n - 1) Tryd.prog l #[x.1.val, .int .i64 x.2] W fun e W' =>
      (e = .returned (.bool true) ∧ J (pre ++ [x]) W' ∧ ∀ u, W.cell? ⟨Bn, 0, none⟩ = some u → W'.cell? ⟨Bn, 0, none⟩ = some u) ∨ (e = .returned (.bool false) ∧ Jx (pre ++ [x]) W'))
    (hBn : W.cell? ⟨Bn, 0, none⟩ = some (.string ⟨b.toArray⟩)) (h0 : J [] W) :
    CallsIn Fence.wide n Tryd.prog 57 #[.func (.yield l) #[] #[], .pointer (some ⟨Bn, 0, none⟩)] W fun e W' => (∃ v, e = .returned v) ∧
      ((∃ ys, ys = rdEB b.length b ∧ J ys W') ∨ (∃ pre, pre <+: rdEB b.length b ∧ Jx pre W')) := by
  refine callsIn_of_wp Tryd.func57 rfl trivial ?_ rfl
  simp only [Tryd.ntmps57, List.size_toArray, List.length_cons, List.length_nil, Nat.reduceAdd, Nat.reduceSub, Array.replicate_succ, Array.replicate_zero, List.push_toArray, List.append_toArray, List.nil_append, List.cons_append]
  gi_wp2
  gi_loopw [3] (fun p wr => ∃ (pre : List (Nt × Int)) (r : List UInt8), p = .string ⟨r.toArray⟩ ∧ r.length ≤ b.length ∧ rdEB b.length b = pre ++ rdEB b.length r ∧ J pre wr ∧ wr.cell? ⟨Bn, 0, none⟩ = some (.string ⟨b.toArray⟩))
    (fun p wr => sizeOf' p)
  case atStart =>
    exact ⟨[], b, rfl, Nat.le_refl _, rfl, h0, hBn⟩
  case round =>
    obtain ⟨pre, r, rfl, hr, hx, hJs, hC⟩ := hrel
    have hBl : Bn < wr.heap.size := World.block_lt_of_cell? wr ⟨Bn, 0, none⟩ hC
    obtain ⟨t, q, x, hk⟩ : ∃ t q x, tkSeal r = (t, q, x) := ⟨_, _, _, rfl⟩
    have HK := Lib.hid hk
    have hT := callsIn_wide (n := n - 1) |>.2 (takes_any ⟨r.toArray⟩ (by show r.toArray.size ≤ _; simp; unfold maxLen; omega) wr)
    by_cases hx0 : x = 0
    · subst hx0
      have hless := tkSeal_less hk
      have htl : t.length ≤ 140737488351232 := by have := tkSeal_parts hk; omega
      have hat := noteAt_of hk
      have HAT := Lib.hid hat
      have HX := Lib.hid hx
      clear hk hat hx
      gi_wp2
      refine ⟨trivial, ?_⟩
      refine hT.mono ?_
      rintro e w2 ⟨rfl, hb2⟩
      rw [show (ByteArray.mk r.toArray).data.toList = r from rfl, HK.out]
      have hJ2 := hJ _ _ _ _ hJs (below_grown hb2) (fun _ e => by cases e)
      have hC2 := (hb2.cell (p := ⟨Bn, 0, none⟩) hBl).trans hC
      have hBl2 : Bn < w2.heap.size := Nat.lt_of_lt_of_le hBl hb2.size
      clear hJs hC hb2
      gi_wp2
      refine ⟨trivial, ?_⟩
      refine (callsIn_wide.2 (pParse_any t htl w2)).mono ?_
      rintro e w3 ⟨hb3, h3⟩
      have hJ3 := hJ _ _ _ _ hJ2 (below_grown hb3) (fun _ e => by cases e)
      have hC3 := (hb3.cell (p := ⟨Bn, 0, none⟩) hBl2).trans hC2
      have hBl3 : Bn < w3.heap.size := Nat.lt_of_lt_of_le hBl2 hb3.size
      clear hJ2 hC2 hb3
      cases ho : oneL t with
      | some m =>
        obtain rfl : e = .returned (.tuple #[m.val, .bool true]) := by
          rcases h3 with ⟨n', h4, h5⟩ | ⟨h4, _⟩
          · rw [ho] at h4; cases h4; exact h5
          · rw [ho] at h4; cases h4
        have hx2 : rdEB b.length b = pre ++ ((m, (b.length : Int) - q.length) :: rdEB b.length q) := by
          rw [HX.out, rdE_some (n := m) (r := q) (by rw [HAT.out, ho]; rfl)]
        have hJ4 := hJ _ _ _ _ hJ3 (World.grownBy_alloc w3 (.cells #[.int .i64 m.k, .int .u64 m.i, .int .u64 m.t, .int .u64 m.v, .string m.d] 24) none) (fun _ e => by cases e)
        have hC4 := cell_alloc_l (.cells #[.int .i64 m.k, .int .u64 m.i, .int .u64 m.t, .int .u64 m.v, .string m.d] 24) hC3
        obtain ⟨fn, tmps, assign, body, hy, hR⟩ := hY pre (m, (b.length : Int) - q.length) _ hJ4 (by rw [hx2]; simp)
        have HX2 := Lib.hid hx2
        have hql : q.length ≤ b.length := by omega
        have hsb : (ByteArray.mk b.toArray).size = b.length := size_arr b
        have hsq : (ByteArray.mk q.toArray).size = q.length := size_arr q
        clear h3 ho hx2 hJ3 hC3
        obtain ⟨mk, mi, mt, mv, md⟩ := m
        simp only [Nt.val] at *
        gi_wp2
        refine hR.mono ?_
        rintro e W3 (⟨rfl, hJ5, hCk⟩ | ⟨rfl, hJx⟩)
        · have hC5 := hCk _ hC4
          gi_wp2
          go_roundw
          case rel => exact ⟨pre ++ [(⟨mk, mi, mt, mv, md⟩, (b.length : Int) - q.length)], q, rfl, hql, by rw [HX2.out]; simp, hJ5, hC5⟩
          case measure => simp [sizeOf']; show q.toArray.size < r.toArray.size; simpa using hless
        · gi_wp2
          refine bodyPost_ret (results_none rfl _ _ _) rfl ?_
          exact ⟨⟨_, rfl⟩, .inr ⟨pre ++ [(⟨mk, mi, mt, mv, md⟩, (b.length : Int) - q.length)], ⟨rdEB b.length q, by rw [HX2.out]; simp⟩, hJx⟩⟩
      | none =>
        obtain ⟨m, rfl⟩ : ∃ m : Nt, e = .returned (.tuple #[m.val, .bool false]) := by
          rcases h3 with ⟨n', h4, _⟩ | ⟨_, n', h5⟩
          · rw [ho] at h4; cases h4
          · exact ⟨n', h5⟩
        have hx2 : rdEB b.length b = pre := by rw [HX.out, rdE_none (by rw [HAT.out, ho]; rfl), List.append_nil]
        have hJ4 := hJ _ _ _ _ hJ3 (World.grownBy_alloc w3 (.cells #[.int .i64 m.k, .int .u64 m.i, .int .u64 m.t, .int .u64 m.v, .string m.d] 24) none) (fun _ e => by cases e)
        have HX2 := Lib.hid hx2
        have HJ4 := Lib.hid hJ4
        clear h3 ho hx2 hJ3 hC3 hJ4
        obtain ⟨mk, mi, mt, mv, md⟩ := m
        simp only [Nt.val]
        gi_wp2
        refine ⟨fun _ h => (by cases h), ?_⟩
        gi_wp2
        refine bodyPost_ret (results_none rfl _ _ _) rfl ?_
        exact ⟨⟨_, rfl⟩, .inl ⟨pre, HX2.out.symm, HJ4.out⟩⟩
    · have hat : noteAt r = none := noteAt_bad hk hx0
      have hx2 : rdEB b.length b = pre := by rw [hx, rdE_none hat, List.append_nil]
      have hx3 : (((x : Nat) : Int) == 0) = false := by simpa using hx0
      have HX2 := Lib.hid hx2
      clear hk hat hx hx2 hx0
      gi_wp2
      refine ⟨trivial, ?_⟩
      refine hT.mono ?_
      rintro e w2 ⟨rfl, hb2⟩
      rw [show (ByteArray.mk r.toArray).data.toList = r from rfl, HK.out]
      have hJ2 := hJ _ _ _ _ hJs (below_grown hb2) (fun _ e => by cases e)
      have HJ2 := Lib.hid hJ2
      clear hJs hC hb2 hJ2
      gi_wp2
      refine bodyPost_ret (results_none rfl _ _ _) rfl ?_
      exact ⟨⟨_, rfl⟩, .inl ⟨pre, HX2.out.symm, HJ2.out⟩⟩
/-- What a round keeps of the iterator's own. -/
def Kq (q : Nat) (A B : World) : Prop := ∀ u, A.cell? ⟨q, 0, none⟩ = some u → B.cell? ⟨q, 0, none⟩ = some u
theorem lead_stops (n : Nat) (hn : 1 ≤ n) (Bn : Nat) (b : List UInt8) (hb : b.length ≤ 140737488351232) (w : World) (hlt : Bn < w.heap.size) (hBn : w.cell? ⟨Bn, 0, none⟩ = some (.string ⟨b.toArray⟩)) :
    SeqStopsK Fence.wide n Tryd.prog 57 #[.pointer (some ⟨Bn, 0, none⟩)] (fun x : Nt × Int => #[x.1.val, .int .i64 x.2]) (Kq Bn) (fun ys => ys = rdEB b.length b) (fun pre => pre <+: rdEB b.length b) (rdEB b.length b).length w := fun l J Jx W hW hJ _ hY h0 =>
  lead1_in n hn l Bn b hb J Jx W hJ (fun pre x W1 hj hl => hY pre x W1 hj hl) ((hW.cell (p := ⟨Bn, 0, none⟩) hlt).trans hBn) h0
theorem leading_any (b : ByteArray) (w : World) : Calls Tryd.prog 38 #[.string b] w fun e w' => e = .returned (.func (.func 57) #[] #[.pointer (some ⟨w.heap.size, 0, none⟩)]) ∧ w' = w.alloc (.cells #[.string b] 9) := by
  go_enter Tryd.func38, Tryd.ntmps38
  go_wp2
  go_ret
  exact ⟨rfl, rfl⟩
theorem rdE_fst (T : Nat) : ∀ (f : Nat) (b : List UInt8), (rdE T f b).map (·.1) = (rdF f b).1
  | 0, _ => rfl
  | f + 1, b => by
    unfold rdE rdF
    cases h : noteAt b with
    | none => rfl
    | some q => obtain ⟨n, r⟩ := q; simp [rdE_fst T f r]
/-- Where the last one ends. -/
def endE (z : Int) (l : List (Nt × Int)) : Int := l.foldl (fun _ x => x.2) z
theorem endE_snoc (z : Int) (l : List (Nt × Int)) (x : Nt × Int) : endE z (l ++ [x]) = x.2 := by simp [endE, List.foldl_append]
theorem rdE_end (T : Nat) : ∀ (f : Nat) (b : List UInt8), endE ((T : Int) - b.length) (rdE T f b) = T - (rdF f b).2.length
  | 0, _ => rfl
  | f + 1, b => by
    unfold rdE rdF
    cases h : noteAt b with
    | none => rfl
    | some q => obtain ⟨n, r⟩ := q; exact rdE_end T f r
end Go.Proofs.YtjbhnkigbobhiaaDoor
