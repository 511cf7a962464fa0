/- Layer 4 in plain words: a note's bytes are taken as the note; the notes of a state fold to the state. -/
import Derived.Test.YtjbhnkigbobhiaaDoorRa
import Derived.Test.YtjbhnkigbobhiaaDoorNb
import Derived.Test.YtjbhnkigbobhiaaDoorSe
import Derived.Test.YtjbhnkigbobhiaaDoorMy
namespace Go.Proofs.YtjbhnkigbobhiaaDoor
open Go.RowKit

theorem len8_of (n : Nat) (h : n < 4611686018427387904) : tkLen (UInt8.ofNat ((n + 13835058055282163712) / 72057594037927936)) = 8 := by
  unfold tkLen; rw [toNat_of, show (n + 13835058055282163712) / 72057594037927936 % 256 / 64 = 3 by omega]
theorem st8 (n c k : Nat) (hk : 0 < k) : n / (k * 256) * 256 + (n + c * 256 * k) / k % 256 = n / k := by
  rw [Nat.add_mul_div_right _ _ hk, ← Nat.div_div_eq_div_mul]; omega
theorem val8_of (n : Nat) (h : n < 4611686018427387904) :
    (((((((n + 13835058055282163712) / 72057594037927936 % 256 % 64) * 256 + (n + 13835058055282163712) / 281474976710656 % 256) * 256 + (n + 13835058055282163712) / 1099511627776 % 256) * 256 + (n + 13835058055282163712) / 4294967296 % 256) * 256 + (n + 13835058055282163712) / 16777216 % 256) * 256 + (n + 13835058055282163712) / 65536 % 256) * 256 + (n + 13835058055282163712) / 256 % 256 = n / 256 := by
  have e7 : (n + 13835058055282163712) / 72057594037927936 % 256 % 64 = n / 72057594037927936 := by omega
  have e6 : n / 72057594037927936 * 256 + (n + 13835058055282163712) / 281474976710656 % 256 = n / 281474976710656 := by simpa only [Nat.reduceMul] using st8 n 192 281474976710656 (by decide)
  have e5 : n / 281474976710656 * 256 + (n + 13835058055282163712) / 1099511627776 % 256 = n / 1099511627776 := by simpa only [Nat.reduceMul] using st8 n 49152 1099511627776 (by decide)
  have e4 : n / 1099511627776 * 256 + (n + 13835058055282163712) / 4294967296 % 256 = n / 4294967296 := by simpa only [Nat.reduceMul] using st8 n 12582912 4294967296 (by decide)
  have e3 : n / 4294967296 * 256 + (n + 13835058055282163712) / 16777216 % 256 = n / 16777216 := by simpa only [Nat.reduceMul] using st8 n 3221225472 16777216 (by decide)
  have e2 : n / 16777216 * 256 + (n + 13835058055282163712) / 65536 % 256 = n / 65536 := by simpa only [Nat.reduceMul] using st8 n 824633720832 65536 (by decide)
  have e1 : n / 65536 * 256 + (n + 13835058055282163712) / 256 % 256 = n / 256 := by simpa only [Nat.reduceMul] using st8 n 211106232532992 256 (by decide)
  rw [e7, e6, e5, e4, e3, e2, e1]
theorem bytes8_of (n : Nat) (b : 1073741824 ≤ n) : numB n = UInt8.ofNat ((n + 13835058055282163712) / 72057594037927936) :: [UInt8.ofNat ((n + 13835058055282163712) / 281474976710656), UInt8.ofNat ((n + 13835058055282163712) / 1099511627776), UInt8.ofNat ((n + 13835058055282163712) / 4294967296), UInt8.ofNat ((n + 13835058055282163712) / 16777216), UInt8.ofNat ((n + 13835058055282163712) / 65536), UInt8.ofNat ((n + 13835058055282163712) / 256), UInt8.ofNat (n + 13835058055282163712)] := by
  rw [numB_8 b]
  simp only [beB, List.range_succ, List.range_zero, List.nil_append, List.cons_append, List.map_cons, List.map_nil, Nat.reduceSub, Nat.reducePow, Nat.div_one]
theorem tkVal7 (a : Nat) (x1 x2 x3 x4 x5 x6 x7 : UInt8) : tkVal a [x1, x2, x3, x4, x5, x6, x7] = ((((((a * 256 + x1.toNat) * 256 + x2.toNat) * 256 + x3.toNat) * 256 + x4.toNat) * 256 + x5.toNat) * 256 + x6.toNat) * 256 + x7.toNat := rfl
theorem len7 (x1 x2 x3 x4 x5 x6 x7 : UInt8) : [x1, x2, x3, x4, x5, x6, x7].length + 1 = 8 := rfl
theorem numB_shape8 (n : Nat) (h : n < 4611686018427387904) : ∃ c bs, numB n = c :: bs ∧ tkLen c = bs.length + 1 ∧ tkVal (c.toNat % 64) bs = n ∧ szOf n = ((bs.length + 1 : Nat) : Int) := by
  by_cases a : n < 1073741824
  · exact numB_shape n a
  · refine shape_mk n (bytes8_of n (by omega)) ?_ ?_ ?_
    · rw [len8_of n h, len7]
    · rw [tkVal7, toNat_of, toNat_of, toNat_of, toNat_of, toNat_of, toNat_of, toNat_of, toNat_of, val8_of n h]; omega
    · rw [szOf8 (by omega) (by omega), len7]; rfl
theorem tkNum_numB8 (n : Nat) (h : n < 4611686018427387904) (r : List UInt8) : tkNum (numB n ++ r) = (n, r, 0) := by
  obtain ⟨c, bs, e, hl, hv, hz⟩ := numB_shape8 n h
  rw [e, List.cons_append, tkNum_ok (n := bs.length + 1) hl rfl (by rw [hv, hz]), hv]
theorem tkNums_numsB (i t v : Nat) (hi : i < 4611686018427387904) (ht : t < 4611686018427387904) (hv : v < 4611686018427387904) (r : List UInt8) : tkNums 3 (numsB [i, t, v] ++ r) = ([i, t, v], r, 0) := by
  have e : numsB [i, t, v] ++ r = numB 3 ++ (numB i ++ (numB t ++ (numB v ++ r))) := by unfold numsB; simp
  rw [e]
  have e3 := tkNum_numB8 3 (by omega) (numB i ++ (numB t ++ (numB v ++ r)))
  have e2 := tkNum_numB8 i hi (numB t ++ (numB v ++ r))
  have e1 := tkNum_numB8 t ht (numB v ++ r)
  have e0 := tkNum_numB8 v hv r
  unfold tkNums
  rw [e3]
  have x0 : tkEach 1 (numB v ++ r) = ([v], r, 0) := by unfold tkEach; rw [e0]; simp [tkEach]
  have x1 : tkEach 2 (numB t ++ (numB v ++ r)) = ([t, v], r, 0) := by unfold tkEach; rw [e1]; simp [x0]
  have x2 : tkEach 3 (numB i ++ (numB t ++ (numB v ++ r))) = ([i, t, v], r, 0) := by unfold tkEach; rw [e2]; simp [x1]
  simp [x2]
theorem kind_byte {k : Int} (h1 : 1 ≤ k) (h4 : k ≤ 4) : ((UInt8.ofNat k.toNat).toNat : Int) = k := by
  rw [toNat_of]; omega
theorem one_body (n : Nt) (h : n.ok) : oneL (bodyB n) = some n := by
  obtain ⟨k, i, t, v, d⟩ := n
  have hk := ok_k h
  have hb := (okB_ok _).2 h
  have hkb := kind_byte hk.1 hk.2
  have hn := tkNums_numsB i t v h.1 h.2.1 h.2.2.1 d.data.toList
  simp only at hkb hb hn
  unfold bodyB oneL
  simp only
  rw [hn]
  simp only
  rw [hkb, Array.toArray_toList, if_pos hb]
theorem note_at (n : Nt) (h : n.ok) (r : List UInt8) : noteAt (noteB n ++ r) = some (n, r) := by
  unfold noteAt noteB
  rw [tkSeal_putB _ _ (by have := body_len h; omega)]
  simp only
  rw [one_body n h]; rfl
/-- Notes' bytes, one behind the other. -/
def catB (N : List Nt) : List UInt8 := N.flatMap noteB
theorem catB_succ (N : List Nt) (k : Nat) (x : Nt) (h : N[k]? = some x) : catB (N.take (k + 1)) = catB (N.take k) ++ noteB x := by
  unfold catB; rw [List.take_add_one, h, List.flatMap_append]; simp
theorem noteB_len (n : Nt) (h : n.ok) : (noteB n).length ≤ 4141 := by
  have h1 := body_len h
  have h2 := numB_le (bodyB n).length
  unfold noteB; rw [len_put]; omega
theorem noteB_pos (n : Nt) : (noteB n).length ≠ 0 := by unfold noteB; rw [len_put]; omega
theorem catB_len (N : List Nt) (h : ∀ n ∈ N, n.ok) : (catB N).length ≤ 4141 * N.length := by
  induction N with
  | nil => simp [catB]
  | cons x N ih =>
    have h1 := noteB_len x (h x (by simp))
    have h2 := ih (fun n hn => h n (by simp [hn]))
    have e : catB (x :: N) = noteB x ++ catB N := by simp [catB]
    rw [e, List.length_append, List.length_cons]; omega
theorem rd_nil : rdB [] = ([], []) := rd_none (by
  have e : tkSeal [] = ([], [], 2) := by decide
  unfold noteAt; rw [e]; rfl)
theorem rd_cat (N : List Nt) (h : ∀ n ∈ N, n.ok) (r : List UInt8) : rdB (catB N ++ r) = (N ++ (rdB r).1, (rdB r).2) := by
  induction N with
  | nil => simp [catB]
  | cons x N ih =>
    have e : catB (x :: N) ++ r = noteB x ++ (catB N ++ r) := by simp [catB]
    rw [e, rd_some (note_at x (h x (by simp)) _), ih (fun n hn => h n (by simp [hn]))]; rfl
theorem rd_cat0 (N : List Nt) (h : ∀ n ∈ N, n.ok) : rdB (catB N) = (N, []) := by
  have := rd_cat N h []
  rw [rd_nil] at this; simpa using this
theorem entL_ok (term vote base bt : Nat) (snap : ByteArray) (L : List En) (h : stOk term vote base bt snap L) (k : Nat) (hk : k ≤ L.length) : ∀ n ∈ entL base L k, n.ok := by
  induction k with
  | zero => intro n hn; simp [entL] at hn
  | succ k ih =>
    have hkl : k < L.length := by omega
    have hx : L[k]? = some L[k] := List.getElem?_eq_getElem hkl
    rw [entL_succ base L k _ hx]
    obtain ⟨h1, h2, h3, h4, h5, h6, h7, h8, h9⟩ := h
    obtain ⟨g1, -, -, g4⟩ := h9 k _ hx
    intro n hn
    rw [List.mem_append] at hn
    rcases hn with hn | hn
    · exact ih (by omega) n hn
    · rw [List.mem_singleton] at hn
      subst hn
      exact ⟨by show base + k + 1 < _; omega, by show L[k].t < _; omega, by show (0 : Nat) < _; omega, g4, .inr (.inl ⟨.inl rfl, rfl⟩)⟩
theorem least_ok (term vote base bt : Nat) (snap : ByteArray) (L : List En) (h : stOk term vote base bt snap L) : ∀ n ∈ leastL term vote base bt snap L, n.ok := by
  have hE := entL_ok term vote base bt snap L h L.length (Nat.le_refl _)
  obtain ⟨h1, h2, h3, h4, h5, h6, h7, h8, h9⟩ := h
  have o1 : (⟨1, 0, term, vote, ⟨#[]⟩⟩ : Nt).ok := ⟨by show (0 : Nat) < _; omega, by show term < _; omega, by show vote < _; omega, by show (0 : Nat) ≤ _; omega, .inl ⟨rfl, rfl, rfl⟩⟩
  have o4 : (⟨4, base, bt, 0, snap⟩ : Nt).ok := ⟨by show base < _; omega, by show bt < _; omega, by show (0 : Nat) < _; omega, h6, .inr (.inl ⟨.inr rfl, rfl⟩)⟩
  intro n hn
  unfold leastL at hn
  rw [List.mem_append] at hn
  rcases hn with hn | hn
  · unfold headL at hn
    rw [List.mem_cons] at hn
    rcases hn with rfl | hn
    · exact o1
    · split at hn
      · rw [List.mem_singleton] at hn; subst hn; exact o4
      · simp at hn
  · exact hE n hn
theorem least_len (term vote base bt : Nat) (snap : ByteArray) (L : List En) : (leastL term vote base bt snap L).length ≤ L.length + 2 := by
  have := headL_len term vote base bt snap
  unfold leastL; rw [List.length_append, entL_len _ _ _ (Nat.le_refl _)]; omega
theorem fold_ents (s0 : Sg) (L : List En) (h0 : s0.L = []) (hl : L.length ≤ 1024) (hb : s0.base + L.length ≤ 1099511627776) : ∀ k, k ≤ L.length → (entL s0.base L k).foldl Sg.step s0 = { s0 with L := L.take k } := by
  intro k
  induction k with
  | zero => intro _; simp only [entL, List.take_zero, List.mapIdx_nil, List.foldl_nil]; rw [← h0]
  | succ k ih =>
    intro hk
    have hkl : k < L.length := by omega
    have hx : L[k]? = some L[k] := List.getElem?_eq_getElem hkl
    rw [entL_succ s0.base L k _ hx, List.foldl_append, ih (by omega)]
    have e : (L.take k).length = k := by rw [List.length_take]; omega
    have e2 : L.take (k + 1) = L.take k ++ [⟨L[k].t, L[k].d⟩] := by rw [List.take_add_one, hx]; rfl
    have c : s0.base + k + 1 = s0.base + (L.take k).length + 1 ∧ (L.take k).length < 1024 ∧ s0.base + k + 1 ≤ 1099511627776 := ⟨by omega, by omega, by omega⟩
    rw [List.foldl_cons, List.foldl_nil]
    unfold Sg.step
    rw [if_neg (show ¬ (2 : Int) = 1 by decide), if_pos rfl, if_pos c, e2]
theorem fold_least (term vote base bt : Nat) (snap : ByteArray) (L : List En) (h : stOk term vote base bt snap L) : Sg.fold (leastL term vote base bt snap L) = ⟨term, vote, base, bt, snap, L⟩ := by
  obtain ⟨h1, h2, h3, h4, h5, h6, h7, h8, h9⟩ := h
  have hh : (headL term vote base bt snap).foldl Sg.step Sg.zero = ⟨term, vote, base, bt, snap, []⟩ := by
    have s1 : Sg.step Sg.zero ⟨1, 0, term, vote, ⟨#[]⟩⟩ = ⟨term, vote, 0, 0, ⟨#[]⟩, []⟩ := rfl
    unfold headL
    by_cases hb : 0 < base
    · rw [if_pos hb, List.foldl_cons, s1, List.foldl_cons, List.foldl_nil]
      unfold Sg.step
      rw [if_neg (show ¬ (4 : Int) = 1 by decide), if_neg (show ¬ (4 : Int) = 2 by decide), if_neg (show ¬ (4 : Int) = 3 by decide), if_pos rfl, if_neg (by simp only; omega)]
      rfl
    · rw [if_neg hb, List.foldl_cons, s1, List.foldl_nil]
      obtain rfl : base = 0 := by omega
      obtain ⟨e1, e2⟩ := h8 rfl
      rw [e1, empty_of e2]
  have := fold_ents ⟨term, vote, base, bt, snap, []⟩ L rfl h4 h5 L.length (Nat.le_refl _)
  unfold Sg.fold leastL
  rw [List.foldl_append, hh]
  simp only at this
  rw [this, List.take_of_length_le (Nat.le_refl _)]
end Go.Proofs.YtjbhnkigbobhiaaDoor
