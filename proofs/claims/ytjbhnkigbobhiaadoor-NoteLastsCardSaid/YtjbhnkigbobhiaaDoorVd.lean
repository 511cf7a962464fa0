/- The program's leading: the iterator's contract: each note in its order, with where it ends. -/
import Derived.Test.YtjbhnkigbobhiaaDoorRa
import Derived.Test.YtjbhnkigbobhiaaDoorVb
import Derived.Test.YtjbhnkigbobhiaaDoorPtakes
import Derived.Test.YtjbhnkigbobhiaaDoorRf
import Derived.RangeFuncNested
import Derived.RangeFuncBox
namespace Go.Proofs.YtjbhnkigbobhiaaDoor
open Go.RowKit Go.Shelf
attribute [local go_sem] Oper.semAt_some

/-- A note, and where it ends. -/
noncomputable def rdE (T : Nat) : Nat → List UInt8 → List (Nt × Int)
  | 0, _ => []
  | f + 1, b => match noteAt b with
    | some (n, r) => (n, (T : Int) - r.length) :: rdE T f r
    | none => []
noncomputable def rdEB (T : Nat) (b : List UInt8) : List (Nt × Int) := rdE T b.length b
theorem rdE_more (T : Nat) : ∀ (f g : Nat) (b : List UInt8), b.length ≤ f → b.length ≤ g → rdE T f b = rdE T g b
  | 0, 0, _, _, _ => rfl
  | 0, g + 1, b, h, _ => by
    have hb : b = [] := List.length_eq_zero_iff.1 (by omega)
    subst hb
    unfold rdE
    split
    · rename_i n r hn; exact absurd (noteAt_less hn) (by simp)
    · rfl
  | f + 1, 0, b, _, h => by
    have hb : b = [] := List.length_eq_zero_iff.1 (by omega)
    subst hb
    unfold rdE
    split
    · rename_i n r hn; exact absurd (noteAt_less hn) (by simp)
    · rfl
  | f + 1, g + 1, b, hf, hg => by
    unfold rdE
    split
    · rename_i n r hn
      have := noteAt_less hn
      rw [rdE_more T f g r (by omega) (by omega)]
    · rfl
theorem rdE_some {T : Nat} {b : List UInt8} {n : Nt} {r : List UInt8} (h : noteAt b = some (n, r)) : rdEB T b = (n, (T : Int) - r.length) :: rdEB T r := by
  have hl := noteAt_less h
  unfold rdEB
  rw [rdE_more T b.length (b.length + 1) b (Nat.le_refl _) (by omega)]
  conv => lhs; unfold rdE
  rw [h]
  simp only
  rw [rdE_more T b.length r.length r (by omega) (Nat.le_refl _)]
theorem rdE_none {T : Nat} {b : List UInt8} (h : noteAt b = none) : rdEB T b = [] := by
  unfold rdEB
  cases hl : b.length with
  | zero => rfl
  | succ f => unfold rdE; rw [h]
theorem noteAt_bad {b t r : List UInt8} {x : Nat} (hk : tkSeal b = (t, r, x)) (hx : x ≠ 0) : noteAt b = none := by
  unfold noteAt; rw [hk]
  match x, hx with
  | 0, h => exact absurd rfl h
  | _ + 1, _ => rfl
theorem noteAt_of {b t r : List UInt8} (hk : tkSeal b = (t, r, 0)) : noteAt b = (oneL t).map fun n => (n, r) := by unfold noteAt; rw [hk]; rfl
set_option maxRecDepth 100000 in
set_option maxHeartbeats 4000000 in
theorem lead1_in (n : Nat) (hn : 1 ≤ n) (l Bn : Nat) (b : List UInt8) (hb : b.length ≤ 140737488351232) (J Jx : List (Nt × Int) → World → Prop)
    (W : World) (hJ : AbidesFrom W.heap.size J)
    (hY : ∀ pre (x : Nt × Int) W, J pre W → pre.length < (rdEB b.length b).length → YieldAt Fence.wide (n - 1) Tryd.prog l #[x.1.val, .int .i64 x.2] W fun e W' =>
      (e = .returned (.bool true) ∧ J (pre ++ [x]) W' ∧ ∀ u, W.cell? ⟨Bn, 0, none⟩ = some u → W'.cell? ⟨Bn, 0, none⟩ = some u) ∨ (e = .returned (.bool false) ∧ Jx (pre ++ [x]) W'))
    (hBn : W.cell? ⟨Bn, 0, none⟩ = some (.string ⟨b.toArray⟩)) (h0 : J [] W) :
    CallsIn Fence.wide n Tryd.prog 57 #[.func (.yield l) #[] #[], .pointer (some ⟨Bn, 0, none⟩)] W fun e W' => (∃ v, e = .returned v) ∧
      ((∃ ys, ys = rdEB b.length b ∧ J ys W') ∨ (∃ pre, pre <+: rdEB b.length b ∧ Jx pre W')) := by
  refine callsIn_of_wp Tryd.func57 rfl trivial ?_ rfl
  simp only [Tryd.ntmps57, List.size_toArray, List.length_cons, List.length_nil, Nat.reduceAdd, Nat.reduceSub, Array.replicate_succ, Array.replicate_zero, List.push_toArray, List.append_toArray, List.nil_append, List.cons_append]
  gi_wp2
  gi_loopw [3] (fun p wr => ∃ (pre : List (Nt × Int)) (r : List UInt8), p = .string ⟨r.toArray⟩ ∧ r.length ≤ b.length ∧ rdEB b.length b = pre ++ rdEB b.length r ∧ J pre wr ∧ wr.cell? ⟨Bn, 0, none⟩ = some (.string ⟨b.toArray⟩))
    (fun p wr => sizeOf' p)
  case atStart =>
    exact ⟨[], b, rfl, Nat.le_refl _, rfl, h0, hBn⟩
  case round =>
    obtain ⟨pre, r, rfl, hr, hx, hJs, hC⟩ := hrel
    have hBl : Bn < wr.heap.size := World.block_lt_of_cell? wr ⟨Bn, 0, none⟩ hC
    obtain ⟨t, q, x, hk⟩ : ∃ t q x, tkSeal r = (t, q, x) := ⟨_, _, _, rfl⟩
    have HK := Lib.hid hk
    have hT := callsIn_wide (n := n - 1) |>.2 (takes_any ⟨r.toArray⟩ (by show r.toArray.size ≤ _; simp; unfold maxLen; omega) wr)
    by_cases hx0 : x = 0
    · subst hx0
      have hless := tkSeal_less hk
      have htl : t.length ≤ 140737488351232 := by have := tkSeal_parts hk; omega
      have hat := noteAt_of hk
      have HAT := Lib.hid hat
      have HX := Lib.hid hx
      clear hk hat hx
      gi_wp2
      refine ⟨trivial, ?_⟩
      refine hT.mono ?_
      rintro e w2 ⟨rfl, hb2⟩
      rw [show (ByteArray.mk r.toArray).data.toList = r from rfl, HK.out]
      have hJ2 := hJ _ _ _ _ hJs (below_grown hb2) (fun _ e => by cases e)
      have hC2 := (hb2.cell (p := ⟨Bn, 0, none⟩) hBl).trans hC
      have hBl2 : Bn < w2.heap.size := Nat.lt_of_lt_of_le hBl hb2.size
      clear hJs hC hb2
      gi_wp2
      refine ⟨trivial, ?_⟩
      refine (callsIn_wide.2 (pParse_any t htl w2)).mono ?_
      rintro e w3 ⟨hb3, h3⟩
      have hJ3 := hJ _ _ _ _ hJ2 (below_grown hb3) (fun _ e => by cases e)
      have hC3 := (hb3.cell (p := ⟨Bn, 0, none⟩) hBl2).trans hC2
      have hBl3 : Bn < w3.heap.size := Nat.lt_of_lt_of_le hBl2 hb3.size
      clear hJ2 hC2 hb3
      cases ho : oneL t with
      | some m =>
        obtain rfl : e = .returned (.tuple #[m.val, .bool true]) := by
          rcases h3 with ⟨n', h4, h5⟩ | ⟨h4, _⟩
          · rw [ho] at h4; cases h4; exact h5
          · rw [ho] at h4; cases h4
        have hx2 : rdEB b.length b = pre ++ ((m, (b.length : Int) - q.length) :: rdEB b.length q) := by
          rw [HX.out, rdE_some (n := m) (r := q) (by rw [HAT.out, ho]; rfl)]
        have hJ4 := hJ _ _ _ _ hJ3 (World.grownBy_alloc w3 (.cells #[.int .i64 m.k, .int .u64 m.i, .int .u64 m.t, .int .u64 m.v, .string m.d] 24) none) (fun _ e => by cases e)
        have hC4 := cell_alloc_l (.cells #[.int .i64 m.k, .int .u64 m.i, .int .u64 m.t, .int .u64 m.v, .string m.d] 24) hC3
        obtain ⟨fn, tmps, assign, body, hy, hR⟩ := hY pre (m, (b.length : Int) - q.length) _ hJ4 (by rw [hx2]; simp)
        have HX2 := Lib.hid hx2
        have hql : q.length ≤ b.length := by omega
        have hsb : (ByteArray.mk b.toArray).size = b.length := size_arr b
        have hsq : (ByteArray.mk q.toArray).size = q.length := size_arr q
        clear h3 ho hx2 hJ3 hC3
        obtain ⟨mk, mi, mt, mv, md⟩ := m
        simp only [Nt.val] at *
        gi_wp2
        refine hR.mono ?_
        rintro e W3 (⟨rfl, hJ5, hCk⟩ | ⟨rfl, hJx⟩)
        · have hC5 := hCk _ hC4
          gi_wp2
          go_roundw
          case rel => exact ⟨pre ++ [(⟨mk, mi, mt, mv, md⟩, (b.length : Int) - q.length)], q, rfl, hql, by rw [HX2.out]; simp, hJ5, hC5⟩
          case measure => simp [sizeOf']; show q.toArray.size < r.toArray.size; simpa using hless
        · gi_wp2
          refine bodyPost_ret (results_none rfl _ _ _) rfl ?_
          exact ⟨⟨_, rfl⟩, .inr ⟨pre ++ [(⟨mk, mi, mt, mv, md⟩, (b.length : Int) - q.length)], ⟨rdEB b.length q, by rw [HX2.out]; simp⟩, hJx⟩⟩
      | none =>
        obtain ⟨m, rfl⟩ : ∃ m : Nt, e = .returned (.tuple #[m.val, .bool false]) := by
          rcases h3 with ⟨n', h4, _⟩ | ⟨_, n', h5⟩
          · rw [ho] at h4; cases h4
          · exact ⟨n', h5⟩
        have hx2 : rdEB b.length b = pre := by rw [HX.out, rdE_none (by rw [HAT.out, ho]; rfl), List.append_nil]
        have hJ4 := hJ _ _ _ _ hJ3 (World.grownBy_alloc w3 (.cells #[.int .i64 m.k, .int .u64 m.i, .int .u64 m.t, .int .u64 m.v, .string m.d] 24) none) (fun _ e => by cases e)
        have HX2 := Lib.hid hx2
        have HJ4 := Lib.hid hJ4
        clear h3 ho hx2 hJ3 hC3 hJ4
        obtain ⟨mk, mi, mt, mv, md⟩ := m
        simp only [Nt.val]
        gi_wp2
        refine ⟨fun _ h => (by cases h), ?_⟩
        gi_wp2
        refine bodyPost_ret (results_none rfl _ _ _) rfl ?_
        exact ⟨⟨_, rfl⟩, .inl ⟨pre, HX2.out.symm, HJ4.out⟩⟩
    · have hat : noteAt r = none := noteAt_bad hk hx0
      have hx2 : rdEB b.length b = pre := by rw [hx, rdE_none hat, List.append_nil]
      have hx3 : (((x : Nat) : Int) == 0) = false := by simpa using hx0
      have HX2 := Lib.hid hx2
      clear hk hat hx hx2 hx0
      gi_wp2
      refine ⟨trivial, ?_⟩
      refine hT.mono ?_
      rintro e w2 ⟨rfl, hb2⟩
      rw [show (ByteArray.mk r.toArray).data.toList = r from rfl, HK.out]
      have hJ2 := hJ _ _ _ _ hJs (below_grown hb2) (fun _ e => by cases e)
      have HJ2 := Lib.hid hJ2
      clear hJs hC hb2 hJ2
      gi_wp2
      refine bodyPost_ret (results_none rfl _ _ _) rfl ?_
      exact ⟨⟨_, rfl⟩, .inl ⟨pre, HX2.out.symm, HJ2.out⟩⟩
/-- What a round keeps of the iterator's own. -/
def Kq (q : Nat) (A B : World) : Prop := ∀ u, A.cell? ⟨q, 0, none⟩ = some u → B.cell? ⟨q, 0, none⟩ = some u
theorem lead_stops (n : Nat) (hn : 1 ≤ n) (Bn : Nat) (b : List UInt8) (hb : b.length ≤ 140737488351232) (w : World) (hlt : Bn < w.heap.size) (hBn : w.cell? ⟨Bn, 0, none⟩ = some (.string ⟨b.toArray⟩)) :
    SeqStopsK Fence.wide n Tryd.prog 57 #[.pointer (some ⟨Bn, 0, none⟩)] (fun x : Nt × Int => #[x.1.val, .int .i64 x.2]) (Kq Bn) (fun ys => ys = rdEB b.length b) (fun pre => pre <+: rdEB b.length b) (rdEB b.length b).length w := fun l J Jx W hW hJ _ hY h0 =>
  lead1_in n hn l Bn b hb J Jx W hJ (fun pre x W1 hj hl => hY pre x W1 hj hl) ((hW.cell (p := ⟨Bn, 0, none⟩) hlt).trans hBn) h0
theorem leading_any (b : ByteArray) (w : World) : Calls Tryd.prog 38 #[.string b] w fun e w' => e = .returned (.func (.func 57) #[] #[.pointer (some ⟨w.heap.size, 0, none⟩)]) ∧ w' = w.alloc (.cells #[.string b] 9) := by
  go_enter Tryd.func38, Tryd.ntmps38
  go_wp2
  go_ret
  exact ⟨rfl, rfl⟩
theorem rdE_fst (T : Nat) : ∀ (f : Nat) (b : List UInt8), (rdE T f b).map (·.1) = (rdF f b).1
  | 0, _ => rfl
  | f + 1, b => by
    unfold rdE rdF
    cases h : noteAt b with
    | none => rfl
    | some q => obtain ⟨n, r⟩ := q; simp [rdE_fst T f r]
/-- Where the last one ends. -/
def endE (z : Int) (l : List (Nt × Int)) : Int := l.foldl (fun _ x => x.2) z
theorem endE_snoc (z : Int) (l : List (Nt × Int)) (x : Nt × Int) : endE z (l ++ [x]) = x.2 := by simp [endE, List.foldl_append]
theorem rdE_end (T : Nat) : ∀ (f : Nat) (b : List UInt8), endE ((T : Int) - b.length) (rdE T f b) = T - (rdF f b).2.length
  | 0, _ => rfl
  | f + 1, b => by
    unfold rdE rdF
    cases h : noteAt b with
    | none => rfl
    | some q => obtain ⟨n, r⟩ := q; exact rdE_end T f r
end Go.Proofs.YtjbhnkigbobhiaaDoor
/- The program's Read: the notes of bytes. -/
namespace Go.Proofs.YtjbhnkigbobhiaaDoor
open Go.RowKit Go.Shelf
attribute [local go_sem] Oper.semAt_some

/-- What the caller's boxes hold when pre has come. -/
def RdI (w : World) (pre : List (Nt × Int)) (W : World) : Prop :=
  (∃ v, Boxed W w.heap.size 38 v ∧ W.ownsRow (w.heap.size + 3) 24 5 v pre.length (ntsCells (pre.map (·.1))) ∧ True) ∧ Boxed W (w.heap.size + 1) 3 (.int .i64 (endE 0 pre)) ∧ Below w.heap.size w W ∧ w.heap.size + 2 < W.heap.size
/-- The loop's variables behind the assignment. -/
def RdA (w : World) (b : List UInt8) (x : Nt × Int) (a : Act) (W : World) : Prop :=
  ∃ Bx, w.heap.size + 2 < Bx ∧ W.heap[Bx]? = some (.cells #[.int .i64 x.1.k, .int .u64 x.1.i, .int .u64 x.1.t, .int .u64 x.1.v, .string x.1.d] 24 (0, 0)) ∧
    a = { tmps := #[.string ⟨b.toArray⟩, undef, .slice none 0 0, .int .i64 0, .pointer (some ⟨w.heap.size, 0, none⟩), .pointer (some ⟨w.heap.size + 1, 0, none⟩), .pointer (some ⟨Bx, 0, none⟩), .int .i64 x.2, .string ⟨b.toArray⟩, .func (.func 57) #[] #[.pointer (some ⟨w.heap.size + 1 + 1, 0, none⟩)], x.1.val, .int .i64 x.2, undef, undef, undef, undef, undef, undef, undef], defers := [] }
theorem rdI_own (w : World) (B : Nat) (hB : w.heap.size ≤ B) : OwnFrom B (RdI w) :=
  OwnFrom.and (Own.from (holdsRow_own (w.heap.size + 3) w.heap.size 38 24 5 (fun pre : List (Nt × Int) => pre.length) (fun pre => ntsCells (pre.map (·.1))) (fun _ _ => True)) _)
    (OwnFrom.and (Own.from (boxed_own (w.heap.size + 1) 3 (fun pre : List (Nt × Int) => .int .i64 (endE 0 pre))) _) (OwnFrom.and (ownFrom_below (Nat.le_refl _) hB) (fun _ _ _ _ hs hg _ => Nat.lt_of_lt_of_le hs hg.size)))
theorem rdA_own (w : World) (b : List UInt8) (B : Nat) (x : Nt × Int) (a : Act) : OwnFrom B (fun (_ : Unit) W => RdA w b x a W) := by
  rintro s W W' row ⟨Bx, h1, h2, h3⟩ hg hr
  refine ⟨Bx, h1, (hg.block Bx (lt_of_row h2) (fun e => ?_)).trans h2, h3⟩
  obtain ⟨_, o, ho, hc⟩ := hr Bx e.symm
  rw [h2] at ho; cases ho; cases hc
theorem kq_alloc (q : Nat) (W : World) (o : Obj) : Kq q W (W.alloc o) := fun _ hu => cell_alloc_l o hu
set_option maxRecDepth 100000 in
set_option maxHeartbeats 4000000 in
theorem read_in (n : Nat) (hn : 4 ≤ n) (b : List UInt8) (hb : b.length ≤ 2097152) (w : World) :
    CallsIn Fence.wide n Tryd.prog 18 #[.string ⟨b.toArray⟩] w (ReadP w b) := by
  have h1 : 1 ≤ n := by omega
  obtain ⟨i0, hi, hz0, hz1, hz2⟩ := info_parts infoNote
  refine callsIn_of_wp_marks Tryd.func18 rfl trivial ?_ rfl
  simp only [Tryd.ntmps18, List.size_toArray, List.length_cons, List.length_nil, Nat.reduceAdd, Nat.reduceSub, Array.replicate_succ, Array.replicate_zero, List.push_toArray, List.append_toArray, List.nil_append, List.cons_append]
  gi_wp2_with (refine ⟨trivial, ?_⟩; gi_at_call 38; refine (callsIn_wide (n := n - 1) |>.2 (leading_any _ _)).mono ?_; rintro e w' ⟨rfl, rfl⟩)
  have hs0 := Boxed.new w 38 (.slice none 0 0)
  have hs1 := Boxed.new (w.alloc (.cells #[.slice none 0 0] 38)) 3 (.int .i64 0)
  rw [World.size_alloc] at hs1
  have hq0 := cell_new_l ((w.alloc (.cells #[.slice none 0 0] 38)).alloc (.cells #[.int .i64 0] 3)) (.string ⟨b.toArray⟩) 9
  rw [World.size_alloc, World.size_alloc] at hq0
  have hB0 : Below w.heap.size w (((w.alloc (.cells #[.slice none 0 0] 38)).alloc (.cells #[.int .i64 0] 3)).alloc (.cells #[.string ⟨b.toArray⟩] 9)) := (((Below.refl _ w).alloc (Nat.le_refl _) _).alloc (by simp) _).alloc (by simp; omega) _
  refine wpIn_rangeFunc_ownH rfl h1 (gf := 57) (lb := #[.pointer (some ⟨w.heap.size + 1 + 1, 0, none⟩)]) rfl trivial (enters_of Tryd.func57 (by kernel_rfl) rfl)
    (lead_stops (n - 1) (by omega) (w.heap.size + 1 + 1) b (by omega) _ (by simp) hq0.1) (fun h k u hu => k u (h u hu)) (fun W l o o' _ ho hc _ u hu => cell_kept hu (grownBy_putObj' W l o') (fun r e => by cases e; exact ⟨o, ho, hc⟩)) (Below.refl _ _) (fun _ => rfl)
    (RdI w) (fun _ _ _ => False) (rdI_own w _ (by simp; omega)) (fun _ _ _ _ _ hs _ _ => hs)
    ⟨⟨_, (hs0.alloc _).alloc _, World.ownsRow_nil _ _ _ _, trivial⟩, hs1.alloc _, hB0, by simp⟩ (RdA w b) (rdA_own w b _) ?assign ?body ?done ?stop
  case assign =>
    rintro l pre ⟨⟨k, i, t, v, d⟩, e⟩ W K hI hK
    gi_wp2
    obtain ⟨⟨u, h1, h2, -⟩, h3, h4, h5⟩ := hI
    exact hK _ _ ((KeepsOthers.alloc _ _).from _) (kq_alloc _ _ _) ⟨⟨u, h1.alloc _, h2.alloc _, trivial⟩, h3.alloc _, h4.alloc (by omega) _, by simp; omega⟩ ⟨W.heap.size, h5, heap_alloc_new W _, rfl⟩
  case body =>
    rintro l pre ⟨⟨k, i, t, v, d⟩, e⟩ a' W hl hr ⟨⟨u, hu, hrow, -⟩, hE, hB, hsz⟩ ⟨Bx, hBx, hbox, rfl⟩ hN
    have hpl : (rdEB b.length b).length ≤ 2097152 := by
      have h := congrArg List.length (rdE_fst b.length b.length b)
      rw [List.length_map] at h
      have := rd_less b b.length
      unfold rdEB; omega
    have c0 : W.cell? ⟨Bx, 0, none⟩ = some (.int .i64 k) := by rw [cell_of_row W Bx 0 _ _ _ hbox]; rfl
    have c1 : W.cell? ⟨Bx, 1, none⟩ = some (.int .u64 i) := by rw [cell_of_row W Bx 1 _ _ _ hbox]; rfl
    have c2 : W.cell? ⟨Bx, 2, none⟩ = some (.int .u64 t) := by rw [cell_of_row W Bx 2 _ _ _ hbox]; rfl
    have c3 : W.cell? ⟨Bx, 3, none⟩ = some (.int .u64 v) := by rw [cell_of_row W Bx 3 _ _ _ hbox]; rfl
    have c4 : W.cell? ⟨Bx, 4, none⟩ = some (.string d) := by rw [cell_of_row W Bx 4 _ _ _ hbox]; rfl
    have hc := hu.cell
    gi_wp2_with (gi_at_builtin; refine wpListIn_append_own _ rfl _ _ 38 rfl (w.heap.size + 3) 24 i0 (.agg #[.int .i64 0, .int .u64 0, .int .u64 0, .int .u64 0, .string ⟨#[]⟩]) 5 48 Tryd.underlying38 hi hz0 hz1 hz2 rfl (by decide) _ _ _ rfl (hrow.alloc _) ⟨W.heap.size, 0, none⟩ 1 1 (ntCells ⟨k, i, t, v, d⟩) rfl rfl ?d1 ?d2 ?d3 ?d4 ?d5 ?_)
    case d1 => intro j u hj; exact hj
    case d2 => intro u hu; simp only [ntCells, List.mem_cons, List.not_mem_nil, or_false] at hu; rcases hu with rfl | rfl | rfl | rfl | rfl <;> rfl
    case d3 => unfold maxLen; omega
    case d4 => omega
    case d5 => omega
    intro v' w1 hown' hgrow _
    obtain ⟨g, cap, rfl⟩ := ownsRow_succ hown'
    have hrow0 := owns_base hrow (show w.heap.size ≤ w.heap.size + 3 by omega)
    have hown0 := owns_base hown' (show w.heap.size ≤ w.heap.size + 3 by omega)
    obtain ⟨bx1, bx2, row2, kp, bel⟩ := hu.appended (by decide) hrow0 (by omega) (Nat.le_refl _) hown0 hgrow
    have e1 : Boxed w1 (w.heap.size + 1) 3 (.int .i64 (endE 0 pre)) := (hE.alloc _).kept hgrow (hE.not_row (by decide) hrow)
    have e2 := e1.other (B' := w.heap.size) (by omega) (.slice (some ⟨g, 0, none⟩) (pre.length + 1) cap)
    have hq : Kq (w.heap.size + 1 + 1) W ((w1.setCell ⟨w.heap.size, 0, none⟩ (.slice (some ⟨g, 0, none⟩) (pre.length + 1) cap)).setCell ⟨w.heap.size + 1, 0, none⟩ (.int .i64 e)) := fun y hy => by
      have k1 := cell_alloc_l (.cells (ntCells ⟨k, i, t, v, d⟩).toArray 24) hy
      have k2 : w1.cell? ⟨w.heap.size + 1 + 1, 0, none⟩ = some y := hgrow.cell k1 (fun e' => by
        have h3 := (hrow.lt (w.heap.size + 1 + 1) e'.symm).1
        omega)
      exact (World.cell?_setCell_far _ ⟨w.heap.size + 1, 0, none⟩ ⟨w.heap.size + 1 + 1, 0, none⟩ _ (by simp)).trans ((World.cell?_setCell_far _ ⟨w.heap.size, 0, none⟩ ⟨w.heap.size + 1 + 1, 0, none⟩ _ (by simp; omega)).trans k2)
    have hrow9 : ((w1.setCell ⟨w.heap.size, 0, none⟩ (.slice (some ⟨g, 0, none⟩) (pre.length + 1) cap)).setCell ⟨w.heap.size + 1, 0, none⟩ (.int .i64 e)).ownsRow (w.heap.size + 3) 24 5 (.slice (some ⟨g, 0, none⟩) (pre.length + 1) cap) (pre ++ [((⟨k, i, t, v, d⟩ : Nt), e)]).length (ntsCells ((pre ++ [((⟨k, i, t, v, d⟩ : Nt), e)]).map (·.1))) := by
      have hg := (hown'.lt g rfl).1
      have h4 : w1.ownsRow (w.heap.size + 3) 24 5 (.slice (some ⟨g, 0, none⟩) (pre.length + 1) cap) (pre ++ [((⟨k, i, t, v, d⟩ : Nt), e)]).length (ntsCells ((pre ++ [((⟨k, i, t, v, d⟩ : Nt), e)]).map (·.1))) := by
        rw [List.length_append, List.map_append]; simp only [List.map_cons, List.map_nil]; rw [ntsCells_snoc]; exact hown'
      exact (h4.kept (grownBy_setCell' w1 w.heap.size _) (.inr (by simp [Value.ownBlock]; omega))).kept (grownBy_setCell' _ (w.heap.size + 1) _) (.inr (by simp [Value.ownBlock]; omega))
    have fin : KeepsFrom ((((w.alloc (.cells #[.slice none 0 0] 38)).alloc (.cells #[.int .i64 0] 3)).alloc (.cells #[.string ⟨b.toArray⟩] 9))).heap.size W ((w1.setCell ⟨w.heap.size, 0, none⟩ (.slice (some ⟨g, 0, none⟩) (pre.length + 1) cap)).setCell ⟨w.heap.size + 1, 0, none⟩ (.int .i64 e)) ∧ Kq (w.heap.size + 1 + 1) W ((w1.setCell ⟨w.heap.size, 0, none⟩ (.slice (some ⟨g, 0, none⟩) (pre.length + 1) cap)).setCell ⟨w.heap.size + 1, 0, none⟩ (.int .i64 e)) ∧
        RdI w (pre ++ [(⟨k, i, t, v, d⟩, e)]) ((w1.setCell ⟨w.heap.size, 0, none⟩ (.slice (some ⟨g, 0, none⟩) (pre.length + 1) cap)).setCell ⟨w.heap.size + 1, 0, none⟩ (.int .i64 e)) := by
      refine ⟨(kp.trans (KeepsOthers.setCell _ _ _)).from _, hq, ⟨_, bx2.other (by omega) _, hrow9, trivial⟩, ?_, (hB.trans bel).setCell (by simp) _, ?_⟩
      · rw [endE_snoc]; exact e2.set _
      · have := hgrow.size; simp at this ⊢; omega
    have FIN := Lib.hid fin
    have s0 := bx1.cell
    have s1 := bx1.frozen
    have t0 := e2.cell
    have t1 := e2.frozen
    clear fin hq hrow9 hown' hgrow hrow hrow0 hown0 bx1 bx2 row2 kp bel e1 e2 hu hE hB hbox hc c0 c1 c2 c3 c4
    gi_wp2
    exact FIN.out
  case done =>
    rintro D ys W hD rfl ⟨⟨u, hu, hrow, -⟩, hE, hB, hsz⟩ hK
    have hlen : (rdEB b.length b).length = (rdB b).1.length := by
      have h := congrArg List.length (rdE_fst b.length b.length b)
      rw [List.length_map] at h; exact h
    have hmap : (rdEB b.length b).map (·.1) = (rdB b).1 := rdE_fst b.length b.length b
    have hend : endE 0 (rdEB b.length b) = (b.length : Int) - (rdB b).2.length := by
      have h := rdE_end b.length b.length b
      rwa [Int.sub_self] at h
    rw [hlen, hmap] at hrow
    rw [hend] at hE
    obtain ⟨z, hz⟩ : ∃ z : Int, (b.length : Int) - (rdB b).2.length = z := ⟨_, rfl⟩
    rw [hz] at hE
    have HZ := Lib.hid hz
    have c0 := hu.cell
    have c1 := hE.cell
    have hrow2 := owns_base hrow (show w.heap.size ≤ w.heap.size + 3 by omega)
    have HR := Lib.hid hrow2
    have HU := Lib.hid hu
    clear hlen hmap hend hz hrow hrow2 hE hu
    have hmx : Tryd.prog.follows .mixedOrders = true := by kernel_rfl
    gi_wp2
    gi_quiet (fail)
    gi_wp2
    refine ⟨by simp, .inl ⟨_, _, rfl, run_takeDeferred hK, ?_⟩⟩
    refine ⟨_, results_tmp2 rfl _ _ _, u, by rw [HZ.out]; rfl, ?_, ?_⟩
    · exact ownsRow_putObj (W := W.drewN _) HR.out _ hK rfl
    · exact (below_drewN hB _).trans (belowK_b (w := w) (Nat.le_refl _) (W.drewN _) D _ _ (by simp at hD; omega) hK rfl rfl)
  case stop =>
    rintro D c pre W _ _ h _
    exact h.elim
theorem pRead_any (b : List UInt8) (hb : b.length ≤ 2097152) (w : World) : Calls Tryd.prog 18 #[.string ⟨b.toArray⟩] w (ReadP w b) :=
  callsIn_wide.1 (read_in 4 (Nat.le_refl _) b hb w)
end Go.Proofs.YtjbhnkigbobhiaaDoor
