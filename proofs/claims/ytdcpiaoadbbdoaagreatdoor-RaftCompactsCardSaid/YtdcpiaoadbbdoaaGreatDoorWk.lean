/- Voices: a clone; whether a node has voted; Say, the program's and the document's; whether two lists are the same. -/
import Derived.Test.YtdcpiaoadbbdoaaGreatDoorRb
import Derived.Test.YtdcpiaoadbbdoaaGreatDoorJd
import Derived.Laws.StructEq
import Derived.DeepKeys4
import Derived.Maps.OwnSet
set_option maxRecDepth 100000
set_option maxHeartbeats 16000000
namespace Go.Proofs.YtdcpiaoadbbdoaaGreatDoor
open Go.RowKit

theorem Rw.vo {w : World} {a : Option Addr} {L : List Vo} {k : Nat} {x : Vo} (h : Vs w a L) (hx : L[k]? = some x) : ∃ b off, a = some ⟨b, off, none⟩ ∧ b < w.heap.size ∧ w.cell? ⟨b, off + k * 2, none⟩ = some (.int .u64 (x.id : Nat)) ∧ w.cell? ⟨b, off + k * 2 + 1, none⟩ = some (.bool x.y) := by
 obtain ⟨b, off, e, hb, hc⟩ := h k x hx
 exact ⟨b, off, e, hb, by simpa using hc 0 _ rfl, hc 1 _ rfl⟩
structure Vb (w : World) (x : Nat) (i : Nat) (y : Bool) : Prop where
 c0 : w.cell? ⟨x, 0, none⟩ = some (.int .u64 i)
 c1 : w.cell? ⟨x, 1, none⟩ = some (.bool y)
 lt : x < w.heap.size
theorem Vb.new {w : World} {x : Nat} (hx : x = w.heap.size) (i : Nat) (y : Bool) (T : TypeId) : Vb (w.alloc (.cells #[.int .u64 i, .bool y] T)) x i y := by
 subst hx
 exact ⟨by simp [go_sem], by simp [go_sem], by simp⟩
theorem Vb.later {w w' : World} {x i : Nat} {y : Bool} (h : Vb w x i y) (hb : Below w.heap.size w w') : Vb w' x i y :=
 ⟨(hb.cell (p := ⟨x, 0, none⟩) h.lt).trans h.c0, (hb.cell (p := ⟨x, 1, none⟩) h.lt).trans h.c1, Nat.lt_of_lt_of_le h.lt hb.size⟩

def vcF (i : Nat) : List Vo → Nat
 | [] => 0
 | x :: r => if x.id = i then (if x.y then 1 else 2) else vcF i r
theorem rVoices_same (n c c2 : Nat) (a a2 : Option Addr) (L : List Vo) (hn : L.length = n) (hl : n ≤ 140737488351232) (w : World) (hE : Vs w a L) (hE2 : Vs w a2 L) :
 Calls Tryz.prog 45 #[.slice a n c, .slice a2 n c2] w fun e w' => e = .returned (.bool true) ∧ Below w.heap.size w w' := by
 have HN := hI_ hn
 have HE := hI_ hE
 have HE2 := hI_ hE2
 clear hn hE hE2
 go_enter Tryz.func45, Tryz.ntmps45
 go_wp2_with fail
 go_loopw [5] (fun u wr => ∃ k : Nat, k ≤ n ∧ u = .int .i64 k ∧ Below w.heap.size w wr) (fun u _ => n - (intOf u).toNat)
 case atStart => exact ⟨0, Nat.zero_le _, rfl, Below.refl _ _⟩
 case round =>
  obtain ⟨k, hk, rfl, hB⟩ := hrel
  have HB := hI_ hB
  by_cases hlt : k < n
  · obtain ⟨x, hx⟩ : ∃ x, L[k]? = some x := ⟨_, List.getElem?_eq_getElem (by rw [HN.out]; exact hlt)⟩
    have i0 : (0 : Int) ≤ (k : Int) := by omega
    have i1 : (k : Int) < (n : Int) := by omega
    obtain ⟨b, off, rfl, hb, p0, p1⟩ := (HE.out.later hB).vo hx
    obtain ⟨b2, off2, rfl, hb2, q0, q1⟩ := (HE2.out.later hB).vo hx
    clear hx hB
    go_wp2_with fail
    go_quiet (fail)
    go_wp2_with fail
    go_roundw
    case rel => exact ⟨k + 1, by omega, by go_num, below_drewN HB.out _⟩
    case measure => simp [intOf]; omega
  · clear hB
    go_wp2_with fail
    go_ret
    exact ⟨by first | rfl | simp, HB.out⟩
end Go.Proofs.YtdcpiaoadbbdoaaGreatDoor
/- A map whose keys are voices: the keys; the first voices; Count's parts. -/
set_option maxRecDepth 100000
set_option maxHeartbeats 16000000
namespace Go.Proofs.YtdcpiaoadbbdoaaGreatDoor
open Go.RowKit Go.Maps

theorem laidOut7 : laidOutB Tryz.prog = true := by kernel_rfl
theorem keyedVo : Keyed Tryz.prog 144 :=
 Keyed.of_law (deep_law_laid laidOut7 (m := 2) (by omega) (of_decide_eq_true (by kernel_rfl)) (by kernel_rfl) (by rw [Tryz.underlying144]))
theorem keyType7 : Tryz.prog.keyType 144 = true := by kernel_rfl
theorem formed7 {c0 c1 : Value} : (Value.agg #[c0, c1]).formed Tryz.prog 144 = true := by simp [Value.formed, Tryz.underlying144, cellsVoice]
theorem keyVo_some (i : Nat) (y : Bool) (h : i < 18446744073709551616) : (keyOf Tryz.prog 144 (.agg #[.int .u64 (i : Nat), .bool y])).isSome = true := by
 have wf : (Lit.int .u64 (i : Nat)).wf = true := by simp [Lit.wf, IntKind.min, IntKind.max, IntKind.signed, IntKind.bits]; omega
 obtain ⟨m, hm⟩ : ∃ m, Tryz.prog.types.size = m + 1 := ⟨Tryz.prog.types.size - 1, by have : 0 < Tryz.prog.types.size := of_decide_eq_true (by kernel_rfl); omega⟩
 unfold keyOf
 rw [Tryz.underlying144]
 simp only [keyType7, formed7, Bool.and_self, ↓reduceIte, Option.isSome_map]
 unfold Program.keyLits
 rw [Tryz.underlying144, hm]
 simp [Program.keyLits, Tryz.underlying22, Tryz.underlying4, cellsVoice, cellsU64, cellsBool, Value.cells, wf]
noncomputable def kvo (i : Nat) (y : Bool) : Lit := (keyOf Tryz.prog 144 (.agg #[.int .u64 (i : Nat), .bool y])).getD (.bool false)
theorem keyVo (i : Nat) (y : Bool) (h : i < 18446744073709551616) : keyOf Tryz.prog 144 (.agg #[.int .u64 (i : Nat), .bool y]) = some (kvo i y) := by
 have := keyVo_some i y h
 unfold kvo
 cases hk : keyOf Tryz.prog 144 (.agg #[.int .u64 (i : Nat), .bool y])
 · rw [hk] at this; cases this
 · rfl
theorem kvo_lit (i : Nat) (y : Bool) (h : i < 18446744073709551616) : WideAt.IsKeyLit (kvo i y) := keyedVo.key (keyVo i y h)
theorem kvo_ne {i j : Nat} {y z : Bool} (h : i < 18446744073709551616) (h2 : j < 18446744073709551616) (hne : ¬ (i = j ∧ y = z)) : kvo i y ≠ kvo j z := fun e => by
 have h3 := keyVo j z h2
 rw [← e] at h3
 have := keyedVo.inj (keyVo i y h) h3
 injection this with this
 simp at this
 exact hne ⟨by omega, this.2⟩
abbrev VM (w : World) (b n : Nat) (D : DataW Unit) : Prop := w.ownsMap Tryz.prog 144 (unitElem (H := Unit)) b n D
theorem vm_under {w w' : World} {b n B : Nat} {D : DataW Unit} (h : VM w b n D) (hb : Below B w w') (hlt : b < B) : VM w' b n D := by
 obtain ⟨es, clock, h1, r⟩ := h
 exact ⟨es, clock, by rw [hb.block b hlt]; exact h1, r⟩
theorem vm_later {w w' : World} {b n : Nat} {D : DataW Unit} (h : VM w b n D) (hb : Below w.heap.size w w') : VM w' b n D := vm_under h hb h.lt
def FvP (D : DataW Unit) (L : List Vo) : Prop := ∀ (i : Nat) (y : Bool), i < 18446744073709551616 → Maps.has D (kvo i y) = decide (vcF i L = if y then 1 else 2)
theorem vcF_le (i : Nat) (L : List Vo) : vcF i L ≤ 2 := by
 induction L with
 | nil => simp [vcF]
 | cons x r ih =>
  unfold vcF
  split
  · split <;> omega
  · exact ih
theorem voted_any (q b n i : Nat) (D : DataW Unit) (L : List Vo) (hi : i < 18446744073709551616) (w : World) (hown : VM w b n D) (hq : w.cell? ⟨q, 0, none⟩ = some (.map (some b))) (hql : q < w.heap.size) (hD : FvP D L) :
 Calls Tryz.prog 205 #[.int .u64 i, .pointer (some ⟨q, 0, none⟩)] w fun e w' => e = .returned (.bool (decide (vcF i L ≠ 0))) ∧ Below w.heap.size w w' := by
 have h1 := hD i true hi
 have h2 := hD i false hi
 simp only [↓reduceIte, Bool.false_eq_true] at h1 h2
 have k1 := keyVo i true hi
 have k2 := keyVo i false hi
 have hle := vcF_le i L
 obtain ⟨c, hc⟩ : ∃ c, vcF i L = c := ⟨_, rfl⟩
 rw [hc] at h1 h2 hle ⊢
 have hq2 := (show Below w.heap.size w (w.alloc (.cells #[] 224)) by go_grown).cell (p := ⟨q, 0, none⟩) hql
 rw [hq] at hq2
 have HW := hI_ hown
 clear hD hc
 have h3 : c = 0 ∨ c = 1 ∨ c = 2 := by omega
 rcases h3 with rfl | rfl | rfl
 all_goals
  simp at h1 h2
  have HH1 := hI_ h1
  have HH2 := hI_ h2
  clear h1 h2
  go_enter Tryz.func205, Tryz.ntmps205
  go_wp2_with (first
   | (at_lookup; refine wpList_lookup_own_unit _ rfl _ _ 222 rfl 144 224 keyedVo Tryz.underlying222 (zeroUnit _) b n _ rfl HW.out _ _ rfl k1 ?_; rw [HH1.out])
   | (at_lookup; refine wpList_lookup_own_unit _ rfl _ _ 222 rfl 144 224 keyedVo Tryz.underlying222 (zeroUnit _) b n _ rfl (HW.out.alloc _) _ _ rfl k2 ?_; rw [HH2.out])
   | go_in)
  go_ret
  exact ⟨by first | rfl | simp, by go_grown⟩
end Go.Proofs.YtdcpiaoadbbdoaaGreatDoor
/- first: the first voices, as a map. -/
set_option maxRecDepth 100000
set_option maxHeartbeats 16000000
namespace Go.Proofs.YtdcpiaoadbbdoaaGreatDoor
open Go.RowKit Go.Maps

theorem vcF_snoc (i : Nat) (L : List Vo) (x : Vo) : vcF i (L ++ [x]) = if vcF i L = 0 then (if x.id = i then (if x.y then 1 else 2) else 0) else vcF i L := by
 induction L with
 | nil => simp [vcF]
 | cons z r ih =>
  simp only [List.cons_append, vcF, ih]
  by_cases h : z.id = i
  · simp only [h, ↓reduceIte]; split <;> simp
  · simp [h]
theorem take_snoc' {L : List Vo} {k : Nat} {x : Vo} (h : L[k]? = some x) : L.take (k + 1) = L.take k ++ [x] := by rw [List.take_add_one, h]; rfl
theorem fv_skip {D : DataW Unit} {L : List Vo} {x : Vo} (hD : FvP D L) (h : vcF x.id L ≠ 0) : FvP D (L ++ [x]) := fun i y hi => by
 rw [hD i y hi, vcF_snoc]
 by_cases h0 : vcF i L = 0
 · have : x.id ≠ i := by rintro rfl; exact h h0
   simp [h0, this]
 · simp [h0]
theorem fv_put {D : DataW Unit} {L : List Vo} {x : Vo} (hD : FvP D L) (hI : IsMap D) (hx : x.id < 18446744073709551616) (h : vcF x.id L = 0) : FvP (D.put (kvo x.id x.y) (.agg [])) (L ++ [x]) := fun i y hi => by
 rw [vcF_snoc]
 by_cases he : x.id = i ∧ x.y = y
 · obtain ⟨rfl, rfl⟩ := he
   rw [has_put_same hI (kvo_lit _ _ hx)]
   simp [h]
 · rw [has_put_other (kvo_ne hi hx (fun e => he ⟨e.1.symm, e.2.symm⟩)), hD i y hi]
   by_cases hid : x.id = i
   · subst hid
     have hy : x.y ≠ y := fun e => he ⟨rfl, e⟩
     rw [h]
     revert hy
     cases x.y <;> cases y <;> simp
   · by_cases h0 : vcF i L = 0 <;> simp [h0, hid]
def FiP (w : World) (L : List Vo) (e : Ending) (w' : World) : Prop := ∃ b n D, e = .returned (.map (some b)) ∧ VM w' b n D ∧ FvP D L ∧ n ≤ L.length ∧ w.heap.size ≤ b ∧ Below w.heap.size w w'
theorem pFirst_any (n c : Nat) (a : Option Addr) (L : List Vo) (hn : L.length = n) (hl : n ≤ 140737488351232) (hb : ∀ x ∈ L, x.id < 18446744073709551616) (w : World) (hE : Vs w a L) :
 Calls Tryz.prog 182 #[.slice a n c] w (FiP w L) := by
 have hmm := @run_makeMap Tryz.prog
 have HN := hI_ hn
 have HE := hI_ hE
 have HB := hI_ hb
 clear hn hE hb
 have HM0 := hI_ (show VM ((w.alloc (.map #[] 0)).alloc (.cells #[.map (some w.heap.size)] 222)) w.heap.size 0 (.map []) from (World.ownsMap_made (H := Unit) w Tryz.prog 144 unitElem).alloc _)
 have HW0 := hI_ (show Below w.heap.size w ((w.alloc (.map #[] 0)).alloc (.cells #[.map (some w.heap.size)] 222)) by go_grown)
 have HQ0 := hI_ (show ((w.alloc (.map #[] 0)).alloc (.cells #[.map (some w.heap.size)] 222)).cell? ⟨w.heap.size + 1, 0, none⟩ = some (.map (some w.heap.size)) ∧ w.heap.size + 1 < ((w.alloc (.map #[] 0)).alloc (.cells #[.map (some w.heap.size)] 222)).heap.size by simp [go_sem])
 go_enter Tryz.func182, Tryz.ntmps182
 go_wp2_with fail
 generalize (w.alloc (.map #[] 0)).alloc (.cells #[.map (some w.heap.size)] 222) = W at *
 go_loopw [11] (fun i wr => ∃ (k m : Nat) (D : DataW Unit), k ≤ n ∧ i = .int .i64 k ∧ VM wr w.heap.size m D ∧ m ≤ k ∧ FvP D (L.take k) ∧ wr.cell? ⟨w.heap.size + 1, 0, none⟩ = some (.map (some w.heap.size)) ∧ w.heap.size + 1 < wr.heap.size ∧ Below w.heap.size w wr) (fun i _ => n - (intOf i).toNat)
 case atStart => exact ⟨0, 0, _, Nat.zero_le _, rfl, HM0.out, Nat.le_refl _, fun i y _ => by cases y <;> simp [vcF, Maps.has], HQ0.out.1, HQ0.out.2, HW0.out⟩
 case round =>
  obtain ⟨k, m, D, hk, rfl, hown, hmk, hD, hq, hql, hB⟩ := hrel
  have HD := hI_ hD
  have HO := hI_ hown
  have HW := hI_ hB
  clear hD hown hB
  by_cases hlt : k < n
  · obtain ⟨x, hx⟩ : ∃ x, L[k]? = some x := ⟨_, List.getElem?_eq_getElem (by rw [HN.out]; exact hlt)⟩
    have i0 : (0 : Int) ≤ (k : Int) := by omega
    have i1 : (k : Int) < (n : Int) := by omega
    have hxb := HB.out x (List.mem_of_getElem? hx)
    have HTK := hI_ (take_snoc' hx)
    obtain ⟨b, off, rfl, hb, p0, p1⟩ := (HE.out.later HW.out).vo hx
    obtain ⟨xi, xy⟩ := x
    simp only at p0 p1 hxb
    clear hx
    have B1 : Below wr.heap.size wr (wr.alloc (.cells #[.int .u64 xi, .bool xy] 144)) := (Below.refl _ _).alloc (Nat.le_refl _) _
    have HV1 := hI_ (Vb.new (w := wr) rfl xi xy 144)
    have HB1 := hI_ B1
    clear B1
    go_wp2_with fail
    generalize wr.alloc (.cells #[.int .u64 xi, .bool xy] 144) = W1 at *
    refine (voted_any (w.heap.size + 1) w.heap.size m xi D (L.take k) hxb _ (vm_later HO.out HB1.out) ((HB1.out.cell (p := ⟨w.heap.size + 1, 0, none⟩) hql).trans hq) (Nat.lt_of_lt_of_le hql HB1.out.size) HD.out).mono ?_
    rintro e w2 ⟨rfl, hb2⟩
    have HO2 := hI_ (vm_later (vm_later HO.out HB1.out) hb2)
    have q2 := (hb2.cell (p := ⟨w.heap.size + 1, 0, none⟩) (Nat.lt_of_lt_of_le hql HB1.out.size)).trans ((HB1.out.cell (p := ⟨w.heap.size + 1, 0, none⟩) hql).trans hq)
    obtain ⟨v0, v1, vl⟩ := HV1.out.later hb2
    have HWR := HB1.out.trans (hb2.mono HB1.out.size)
    have q2l : w.heap.size + 1 < w2.heap.size := Nat.lt_of_lt_of_le hql HWR.size
    have HW2 := hI_ (HW.out.trans (HWR.mono HW.out.size))
    clear hb2 p0 p1 hq HO HW HB1 HV1 HWR
    by_cases hz : vcF xi (L.take k) = 0
    · rw [show decide (vcF xi (L.take k) ≠ 0) = false by simp [hz]]
      have hkey := keyVo xi xy hxb
      have HT := hI_ (show FvP (D.put (kvo xi xy) (.agg [])) (L.take (k + 1)) by rw [HTK.out]; exact fv_put (x := ⟨xi, xy⟩) HD.out HO2.out.isMap hxb hz)
      have hown := HO2.out
      clear hz
      go_wp2_with (first
       | (at_mapUpdate; refine wpList_mapUpdate_own _ rfl _ _ _ 222 rfl 144 224 keyedVo Tryz.underlying222 (unitElem (H := Unit)) w.heap.size m _ rfl hown (by unfold maxLen; omega) _ _ _ rfl rfl hkey _ [] unitElem_mk ?_; intro w3 hown3 hgrow3)
       | go_in)
      have hB3 : Below w.heap.size w w3 := HW2.out.grown hgrow3 HW2.out.size (fun j hj => by cases hj; omega)
      have q3 := hgrow3.cell q2 (by simp)
      have HO3 := hI_ (And.intro hown3 (And.intro q3 (And.intro (Nat.lt_of_lt_of_le q2l hgrow3.size) hB3)))
      clear hown hown3 hgrow3 hB3 q3 hkey q2 v0 v1
      go_roundw
      case rel => exact ⟨k + 1, m + 1, _, by omega, by go_num, HO3.out.1, by omega, HT.out, HO3.out.2.1, HO3.out.2.2.1, HO3.out.2.2.2⟩
      case measure => simp [intOf]; omega
    · rw [show decide (vcF xi (L.take k) ≠ 0) = true by simp [hz]]
      have HT := hI_ (show FvP D (L.take (k + 1)) by rw [HTK.out]; exact fv_skip (x := ⟨xi, xy⟩) HD.out hz)
      clear hz
      go_wp2_with fail
      go_roundw
      case rel => exact ⟨k + 1, m, D, by omega, by go_num, HO2.out, by omega, HT.out, q2, q2l, HW2.out⟩
      case measure => simp [intOf]; omega
  · have hkn : k = n := by omega
    subst hkn
    have HT := hI_ (show FvP D L by have := HD.out; rw [List.take_of_length_le (by rw [HN.out]; exact Nat.le_refl _)] at this; exact this)
    go_wp2_with fail
    go_ret
    exact ⟨w.heap.size, m, D, rfl, HO.out, HT.out, by rw [HN.out]; exact hmk, Nat.le_refl _, HW.out⟩
end Go.Proofs.YtdcpiaoadbbdoaaGreatDoor
/- Count: what voices come to. -/
set_option maxRecDepth 100000
set_option maxHeartbeats 16000000
namespace Go.Proofs.YtdcpiaoadbbdoaaGreatDoor
open Go.RowKit Go.Maps

theorem usT : RowT (α := Nat) 23 22 1 8 (.int .u64 0) u64C :=
 ⟨Tryz.underlying23, by kernel_rfl, rfl, by decide, by decide, fun _ => rfl, fun x u hu => by
  simp only [u64C, List.mem_cons, List.not_mem_nil, or_false] at hu
  subst hu; rfl⟩
theorem Rw.us {w : World} {a : Option Addr} {L : List Nat} (h : Rw 1 u64C w a L) : Us w a L := fun j x hx => by
 obtain ⟨b, off, e, hb, hc⟩ := h j x hx
 exact ⟨b, off, e, hb, by simpa using hc 0 _ rfl⟩
def grN (V : List Nat) (L : List Vo) : List Nat := V.filter fun i => decide (vcF i L = 1)
def otN (V : List Nat) (L : List Vo) : Nat := (V.filter fun i => decide (vcF i L ≠ 2)).length
theorem grN_le (V : List Nat) (L : List Vo) : (grN V L).length ≤ V.length := List.length_filter_le _ _
theorem otN_le (V : List Nat) (L : List Vo) : otN V L ≤ V.length := List.length_filter_le _ _
theorem grN_sub (V : List Nat) (L : List Vo) : ∀ x ∈ grN V L, x ∈ V := fun _ hx => (List.mem_filter.1 hx).1
theorem grN_snoc {V : List Nat} {L : List Vo} {k x : Nat} (h : V[k]? = some x) : grN (V.take (k + 1)) L = if vcF x L = 1 then grN (V.take k) L ++ [x] else grN (V.take k) L := by
 unfold grN; rw [List.take_add_one, h]
 by_cases h1 : vcF x L = 1 <;> simp [List.filter_append, h1]
theorem otN_snoc {V : List Nat} {L : List Vo} {k x : Nat} (h : V[k]? = some x) : otN (V.take (k + 1)) L = otN (V.take k) L + if vcF x L = 2 then 0 else 1 := by
 unfold otN; rw [List.take_add_one, h]
 by_cases h1 : vcF x L = 2 <;> simp [List.filter_append, h1]
def cntV (V : List Nat) (L : List Vo) : Nat := if mostB V (grN V L) then 1 else if otN V L < V.length / 2 + 1 then 2 else 0
theorem pCount_any (n c n2 c2 m d : Nat) (a a2 a3 : Option Addr) (V : List Nat) (L : List Vo) (hn : V.length = n) (hl : n * 8 ≤ 140737488351232) (hm : L.length = m) (hl2 : m ≤ 140737488351232) (hb1 : ∀ x ∈ V, x < 18446744073709551616) (hb2 : ∀ x ∈ L, x.id < 18446744073709551616) (w : World) (hV : Us w a V) (hE : Vs w a3 L) :
 Calls Tryz.prog 153 #[.agg #[.slice a n c, .slice a2 n2 c2], .slice a3 m d] w fun e w' => e = .returned (.int .i64 (cntV V L : Nat)) ∧ Below w.heap.size w w' := by
 have HW0 := hI_ (show Below w.heap.size w (w.alloc (.cells #[.slice a n c, .slice a2 n2 c2] 25)) by go_grown)
 have HC0 := hI_ (Cb.new (w := w) rfl (.slice a n c) (.slice a2 n2 c2) 25)
 have HV := hI_ hV
 have HE := hI_ hE
 have HN := hI_ hn
 have HM := hI_ hm
 have HB1 := hI_ hb1
 have HB2 := hI_ hb2
 clear hV hE hn hm hb1 hb2
 go_enter Tryz.func153, Tryz.ntmps153
 go_wp2_with fail
 generalize w.alloc (.cells #[.slice a n c, .slice a2 n2 c2] 25) = W at *
 refine (pFirst_any m d a3 L HM.out hl2 HB2.out _ (HE.out.later HW0.out)).mono ?_
 rintro e w3 ⟨b, q, D, rfl, hown, hD, hq, hbW, hb3⟩
 have HO := hI_ hown
 have HD := hI_ hD
 have HC3 := hI_ (HC0.out.later hb3)
 have HW3 := hI_ (HW0.out.trans (hb3.mono HW0.out.size))
 clear hown hD hb3 hbW hq HW0 HC0
 obtain ⟨c0, c1, cz, cl⟩ := HC3.out
 go_wp2_with fail
 go_loopw [6, 7, 19] (fun ov gv i wr => ∃ (k : Nat), k ≤ n ∧ i = .int .i64 k ∧ ov = .int .i64 (otN (V.take k) L : Nat) ∧ Cq 22 1 u64C w3.heap.size wr gv (grN (V.take k) L) ∧ Below w3.heap.size w3 wr) (fun _ _ i _ => n - (intOf i).toNat)
 case atStart => exact ⟨0, Nat.zero_le _, rfl, rfl, Cq.nil _ _ none, Below.refl _ _⟩
 case round =>
  obtain ⟨k, hk, rfl, rfl, hG, hB⟩ := hrel
  have HG := hI_ hG
  have HB := hI_ hB
  clear hG hB
  by_cases hlt : k < n
  · obtain ⟨x, hx⟩ : ∃ x, V[k]? = some x := ⟨_, List.getElem?_eq_getElem (by rw [HN.out]; exact hlt)⟩
    have i0 : (0 : Int) ≤ (k : Int) := by omega
    have i1 : (k : Int) < (n : Int) := by omega
    have hxb := HB1.out x (List.mem_of_getElem? hx)
    have hgs := grN_snoc (L := L) hx
    have hos := otN_snoc (L := L) hx
    have hol := otN_le (V.take k) L
    rw [List.length_take] at hol
    have hgl := grN_le (V.take k) L
    rw [List.length_take] at hgl
    obtain ⟨b0, off, rfl, hb0, p0⟩ := HV.out.later (HW3.out.trans (HB.out.mono HW3.out.size)) k x hx
    have k1 := keyVo x true hxb
    have k2 := keyVo x false hxb
    have h1 := HD.out x true hxb
    have h2 := HD.out x false hxb
    simp only [↓reduceIte, Bool.false_eq_true] at h1 h2
    have hle := vcF_le x L
    obtain ⟨cx, hcx⟩ : ∃ c, vcF x L = c := ⟨_, rfl⟩
    rw [hcx] at h1 h2 hle hgs hos
    clear hx hcx
    have h3 : cx = 0 ∨ cx = 1 ∨ cx = 2 := by omega
    have HO1 := hI_ (vm_later HO.out HB.out)
    have HB5 := hI_ (show Below w3.heap.size w3 (wr.alloc (.cells #[] 224)) from HB.out.alloc HB.out.size _)
    rcases h3 with rfl | rfl | rfl
    · simp at h1 h2 hgs hos
      have HH1 := hI_ h1
      have HH2 := hI_ h2
      have HGS := hI_ hgs
      have HOS := hI_ hos
      clear h1 h2 hgs hos
      go_wp2_with (first
       | (at_lookup; refine wpList_lookup_own_unit _ rfl _ _ 222 rfl 144 224 keyedVo Tryz.underlying222 (zeroUnit _) b q _ rfl HO1.out _ _ rfl k1 ?_; rw [HH1.out])
       | (at_lookup; refine wpList_lookup_own_unit _ rfl _ _ 222 rfl 144 224 keyedVo Tryz.underlying222 (zeroUnit _) b q _ rfl (HO1.out.alloc _) _ _ rfl k2 ?_; rw [HH2.out])
       | go_in)
      have HF := hI_ (And.intro (HG.out.later (show Below wr.heap.size wr ((wr.alloc (.cells #[] 224)).alloc (.cells #[] 224)) by go_grown)) (HB5.out.alloc HB5.out.size (.cells #[] 224)))
      clear k1 k2
      go_roundw
      case rel => exact ⟨k + 1, by omega, by go_num, by rw [HOS.out]; go_num, by rw [HGS.out]; exact HF.out.1, HF.out.2⟩
      case measure => simp [intOf]; omega
    · simp at h1 h2 hgs hos
      have HH1 := hI_ h1
      have HH2 := hI_ h2
      have HGS := hI_ hgs
      have HOS := hI_ hos
      have BA : Below wr.heap.size wr ((wr.alloc (.cells #[] 224)).alloc (.cells #[.int .u64 x] 22)) := by go_grown
      obtain ⟨gv2, w5, hr, hc5, hb5⟩ := app_rw usT w3.heap.size _ 23 u7 (grN (V.take k) L) (HG.out.later BA) (some ⟨wr.heap.size + 1, 0, none⟩) 1 1 [x] rfl (rw_one (f := u64C) (wr.alloc (.cells #[] 224)) (by simp) x rfl 22) (by omega) (Nat.le_trans HB.out.size BA.size)
      have HR := hI_ hr
      have HB6 := hI_ ((HB.out.trans (BA.mono HB.out.size)).trans hb5)
      have HO5 := hI_ (vm_later HO.out HB6.out)
      have HF := hI_ (And.intro (hc5.later (show Below w5.heap.size w5 (w5.alloc (.cells #[] 224)) by go_grown)) (HB6.out.alloc HB6.out.size (.cells #[] 224)))
      clear h1 h2 hgs hos hr hc5 hb5 BA
      go_wp2_with (first
       | (at_lookup; refine wpList_lookup_own_unit _ rfl _ _ 222 rfl 144 224 keyedVo Tryz.underlying222 (zeroUnit _) b q _ rfl HO1.out _ _ rfl k1 ?_; rw [HH1.out])
       | (at_lookup; refine wpList_lookup_own_unit _ rfl _ _ 222 rfl 144 224 keyedVo Tryz.underlying222 (zeroUnit _) b q _ rfl HO5.out _ _ rfl k2 ?_; rw [HH2.out])
       | (at_builtin; refine Lib.wpList_append_run _ rfl _ _ 23 23 rfl u7 (.slice (some ⟨wr.heap.size + 1, 0, none⟩) 1 1) rfl rfl _ _ HR.out ?_)
       | go_in)
      clear k1 k2 HR
      go_roundw
      case rel => exact ⟨k + 1, by omega, by go_num, by rw [HOS.out]; go_num, by rw [HGS.out]; exact HF.out.1, HF.out.2⟩
      case measure => simp [intOf]; omega
    · simp at h1 h2 hgs hos
      have HH1 := hI_ h1
      have HH2 := hI_ h2
      have HGS := hI_ hgs
      have HOS := hI_ hos
      clear h1 h2 hgs hos
      go_wp2_with (first
       | (at_lookup; refine wpList_lookup_own_unit _ rfl _ _ 222 rfl 144 224 keyedVo Tryz.underlying222 (zeroUnit _) b q _ rfl HO1.out _ _ rfl k1 ?_; rw [HH1.out])
       | (at_lookup; refine wpList_lookup_own_unit _ rfl _ _ 222 rfl 144 224 keyedVo Tryz.underlying222 (zeroUnit _) b q _ rfl (HO1.out.alloc _) _ _ rfl k2 ?_; rw [HH2.out])
       | go_in)
      have HF := hI_ (And.intro (HG.out.later (show Below wr.heap.size wr ((wr.alloc (.cells #[] 224)).alloc (.cells #[] 224)) by go_grown)) (HB5.out.alloc HB5.out.size (.cells #[] 224)))
      clear k1 k2
      go_roundw
      case rel => exact ⟨k + 1, by omega, by go_num, by rw [HOS.out], by rw [HGS.out]; exact HF.out.1, HF.out.2⟩
      case measure => simp [intOf]; omega
  · have hkn : k = n := by omega
    subst hkn
    have htk : V.take k = V := List.take_of_length_le (by rw [HN.out]; exact Nat.le_refl _)
    have hG := HG.out
    rw [htk] at hG
    obtain ⟨ga, gc, rfl, hgu, _, _, _⟩ := hG.form usT
    obtain ⟨gm, hgm⟩ : ∃ m, (grN V L).length = m := ⟨_, rfl⟩
    have hgl := grN_le V L
    have HGM := hI_ hgm
    have HGU := hI_ hgu
    rw [hgm] at hgl
    have hol := otN_le V L
    have HTK := hI_ htk
    rw [hgm]
    have HGB := hI_ (show ∀ x ∈ grN V L, x < 18446744073709551616 from fun x hx => HB1.out x (grN_sub V L x hx))
    have HC4 := hI_ (HC3.out.later HB.out)
    have HW4 := hI_ (HW3.out.trans (HB.out.mono HW3.out.size))
    have HOT := hI_ (show otN (V.take k) L = otN V L by rw [htk])
    clear c0 c1 cz cl hG htk hgm hgu
    obtain ⟨c0, c1, cz, cl⟩ := HC4.out
    go_wp2_with fail
    refine (pMost_any k c n2 c2 gm gc a a2 ga V (grN V L) HN.out (by omega) HGM.out (by have := HN.out; omega) HB1.out HGB.out _ (HV.out.later HW4.out) (Rw.us HGU.out)).mono ?_
    rintro e w5 ⟨rfl, hb5⟩
    have HC5 := hI_ (HC4.out.later hb5)
    have HW5 := hI_ (HW4.out.trans (hb5.mono HW4.out.size))
    clear c0 c1 cz cl hb5
    obtain ⟨c0, c1, cz, cl⟩ := HC5.out
    obtain ⟨mb, hmb⟩ : ∃ b, mostB V (grN V L) = b := ⟨_, rfl⟩
    rw [hmb]
    have HMB := hI_ hmb
    clear hmb
    rw [HOT.out]
    cases mb
    · go_wp2_with fail
      refine (pNeed_any k c n2 c2 a a2 (by omega) _).mono ?_
      rintro e w6 ⟨rfl, hb6⟩
      have HW6 := hI_ (HW5.out.trans (hb6.mono HW5.out.size))
      clear hb6 c0 c1
      by_cases hlo : otN V L < k / 2 + 1
      · have g : ((otN V L : Nat) : Int) < ((k / 2 + 1 : Nat) : Int) := by omega
        have HT := hI_ (show cntV V L = 2 by unfold cntV; rw [HMB.out, HN.out, if_pos hlo]; rfl)
        go_wp2_with fail
        go_ret
        exact ⟨by rw [HT.out]; first | rfl | simp, HW6.out⟩
      · have g : ¬ ((otN V L : Nat) : Int) < ((k / 2 + 1 : Nat) : Int) := by omega
        have HT := hI_ (show cntV V L = 0 by unfold cntV; rw [HMB.out, HN.out, if_neg hlo]; rfl)
        go_wp2_with fail
        go_ret
        exact ⟨by rw [HT.out]; first | rfl | simp, HW6.out⟩
    · have HT := hI_ (show cntV V L = 1 by unfold cntV; rw [HMB.out]; rfl)
      go_wp2_with fail
      go_ret
      exact ⟨by rw [HT.out]; first | rfl | simp, HW5.out⟩
end Go.Proofs.YtdcpiaoadbbdoaaGreatDoor
