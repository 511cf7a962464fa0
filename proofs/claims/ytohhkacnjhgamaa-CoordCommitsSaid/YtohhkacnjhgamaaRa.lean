/- Rows that a call lays, of elements of any one shape: append; what they hold; a clone. -/
import Derived.Test.YtohhkacnjhgamaaRd
import Derived.Deep.Upon
import Derived.Deep.AppendLies
import Derived.Lib.AppendZeros
import Derived.Lib.SliceRun
import Derived.ArgAppend
namespace Go.Proofs.Ytohhkacnjhgamaa
open Go.RowKit

/-- What a slice's element type is known for. -/
structure RowT {α : Type} (T E : TypeId) (k bs : Nat) (z : Value) (f : α → List Value) : Prop where
  und : Try.prog.underlying T = some (.slice E)
  info : (Try.prog.info? E).map (fun i => (i.zero, i.size, i.bytes)) = some (some z, k, bs)
  zs : z.cells.size = k
  kp : 0 < k
  bp : 2 ≤ bs
  len : ∀ x, (f x).length = k
  one : ∀ x, ∀ u ∈ f x, u.oneCell' = true
theorem owns_less {w : World} {B B' : Nat} {e : TypeId} {size : Nat} {v : Value} {n : Nat} {xs : List Value} (h : w.ownsRow B e size v n xs) (hB : B' ≤ B) : w.ownsRow B' e size v n xs := by
  refine ⟨h.1, ?_⟩
  rcases h.2 with h2 | ⟨g, cap, cur, e1, e2, rest⟩
  · exact .inl h2
  · exact .inr ⟨g, cap, cur, e1, Nat.le_trans hB e2, rest⟩
/-- A row that is being laid: nothing in it (nil, or just begun), or what the call itself has laid. -/
def Cq {α : Type} (E : TypeId) (k : Nat) (f : α → List Value) (B : Nat) (w : World) (v : Value) (L : List α) : Prop :=
  (L = [] ∧ ∃ ao, v = .slice ao 0 0) ∨ w.ownsRow B E k v L.length (rwC f L)
section
variable {α : Type} {T E : TypeId} {k bs : Nat} {z : Value} {f : α → List Value} {B : Nat} {w : World} {v : Value} {L : List α}
theorem Cq.later {w' : World} (h : Cq E k f B w v L) (hb : Below w.heap.size w w') : Cq E k f B w' v L := by
  rcases h with h | h
  · exact .inl h
  · refine .inr (h.kept ⟨hb.os, hb.tape, hb.output, hb.size, fun k hk _ => hb.block k hk⟩ (row := none) ?_)
    rcases h1 : v.ownBlock with _ | g
    · exact .inl rfl
    · exact .inr (by simp)
theorem Cq.nil (B : Nat) (w : World) (ao : Option Addr) : Cq E k f B w (.slice ao 0 0) [] := .inl ⟨rfl, ao, rfl⟩
theorem Cq.mono {B' : Nat} (h : Cq E k f B w v L) (hB : B' ≤ B) : Cq E k f B' w v L := h.imp id fun h => owns_less h hB
/-- Its form: a slice; what it holds is there; its block is the call's own, or there is none in it. -/
theorem Cq.form (R : RowT T E k bs z f) (h : Cq E k f B w v L) : ∃ a c, v = .slice a L.length c ∧ Rw k f w a L ∧ (0 < L.length → ∀ q, a = some q → B ≤ q.block) ∧ L.length ≤ c ∧ c ≤ maxLen := by
  rcases h with ⟨rfl, ao, rfl⟩ | h
  · exact ⟨ao, 0, rfl, fun j x hx => by simp at hx, fun h => by simp at h, Nat.le_refl _, by decide⟩
  · obtain ⟨a, c, e, _, hE, hf⟩ := rw_of_owns R.len R.kp h
    refine ⟨a, c, e, hE, fun _ => hf, ?_⟩
    rcases h.2 with ⟨e2, h0⟩ | ⟨g, cap, cur, e2, _, _, hn, hm, _⟩
    · injection e2.symm.trans e with _ _ h3
      subst h3; exact ⟨by omega, by decide⟩
    · injection e2.symm.trans e with _ _ h3
      subst h3; exact ⟨hn, hm⟩
theorem addAny' (b off j : Nat) : (⟨b, off, none⟩ : Addr).add j = ⟨b, off + j, none⟩ := Addr.add_lit ..
theorem maxLen_of {n bs : Nat} (hb : 2 ≤ bs) (h : n * bs ≤ 140737488355328) : n ≤ maxLen := by
  have := Nat.mul_le_mul_left n hb
  unfold maxLen; omega
theorem oneRw (R : RowT T E k bs z f) (L : List α) : ∀ u ∈ rwC f L, u.oneCell' = true := by
  intro u hu
  obtain ⟨x, _, hx⟩ := List.mem_flatMap.1 hu
  exact R.one x u hx
/-- append(row, list...). -/
theorem app_rw (R : RowT T E k bs z f) (B : Nat) (w : World) (ty : TypeId) (v : Value) (L : List α) (h : Cq E k f B w v L) (a : Option Addr) (m c : Nat) (M : List α) (hm : M.length = m) (hM : Rw k f w a M) (hl : (L.length + m) * bs ≤ 140737488355328) (hB : B ≤ w.heap.size) :
    ∃ v' w', (Builtin.append_ #[T, T] ty #[v, .slice a m c]).run Try.prog w = .ok v' w' ∧ (Cq E k f B w' v' (L ++ M) ∧ Below B w w') := by
  obtain ⟨i0, hi, hz0, hz1', hz2'⟩ := info_parts R.info
  rcases Nat.eq_zero_or_pos m with h0 | h0
  · subst h0
    have hM0 : M = [] := List.length_eq_zero_iff.1 hm
    subst hM0
    rw [List.append_nil]
    have hs : Src Try.prog i0.size T (.slice a 0 c) 0 [] w := by
      cases a with
      | none => exact Src.ofNil w R.und c
      | some p => exact Src.ofSlice w R.und p 0 c [] (by simp) (by simp) (by simp)
    have hv : ∃ ao n cap, v = .slice ao n cap ∧ n ≤ cap := by
      rcases h with ⟨_, ao, rfl⟩ | h
      · exact ⟨ao, 0, 0, rfl, Nat.le_refl _⟩
      · rcases h.2 with ⟨rfl, h0⟩ | ⟨g, cap, cur, rfl, _, _, hn, _⟩
        · exact ⟨none, 0, 0, rfl, Nat.le_refl _⟩
        · exact ⟨_, _, cap, rfl, hn⟩
    obtain ⟨ao, n, cap, rfl, hle⟩ := hv
    exact ⟨_, _, run_append_nothing w _ _ ty _ i0 R.und hi ao n cap hle _ hs, h, Below.refl _ _⟩
  · obtain ⟨b1, off, rfl, hb1⟩ := hM.addr (by omega)
    have hrow := rw_row R.len R.kp hM
    have hnews : ∀ j u, (rwC f M)[j]? = some u → w.cell? ((⟨b1, off, none⟩ : Addr).add j) = some u := fun j u hj => by rw [addAny']; exact hrow j u hj
    have hlen : (rwC f M).length = m * k := by rw [rwC_len R.len, hm]
    have hmx := maxLen_of R.bp hl
    rcases h with ⟨rfl, ao, rfl⟩ | h
    · simp only [List.length_nil, Nat.zero_add] at hl hmx
      cases ao with
      | none =>
        obtain ⟨v', w', hr, hown, hg, _⟩ := run_append_own (P := Try.prog) w B T ty E i0 _ k bs R.und hi hz0 hz1' hz2' R.zs R.kp (.slice none 0 0) 0 [] (World.ownsRow_nil w B _ k) ⟨b1, off, none⟩ m c (rwC f M) hlen hnews (oneRw R M) (by simpa using hmx) (by simpa using hl) hB
        refine ⟨v', w', hr, .inr ?_, (Below.refl _ _).grown hg hB (by simp [Value.ownBlock])⟩
        simpa [hm] using hown
      | some b =>
        obtain ⟨v', w', hr, hown, hg⟩ := run_append_arg_grows (P := Try.prog) w T ty E i0 _ k bs R.und hi hz0 hz1' hz2' R.zs R.kp b 0 0 [] (by simp) (by simp)
          ⟨b1, off, none⟩ m c (rwC f M) hlen hnews (by omega) (by simpa using hmx) (by simpa using hl)
        refine ⟨v', w', hr, .inr ?_, (Below.refl _ _).grown hg hB (by simp)⟩
        have hown' := owns_less hown hB
        simpa [hm] using hown'
    · obtain ⟨v', w', hr, hown, hg, _⟩ := run_append_own (P := Try.prog) w B T ty E i0 _ k bs R.und hi hz0 hz1' hz2' R.zs R.kp v L.length (rwC f L) h ⟨b1, off, none⟩ m c (rwC f M) hlen hnews (oneRw R M) hmx hl hB
      refine ⟨v', w', hr, .inr ?_, (Below.refl _ _).grown hg hB (fun k e => (h.lt k e).1)⟩
      rw [List.length_append, rwC_app, hm]
      exact hown
/-- One element, as append's last argument lays it. -/
theorem rw_one (w : World) {b : Nat} (hb : b = w.heap.size) (x : α) {os : Array Value} (hf : f x = os.toList) (T : TypeId) : Rw k f (w.alloc (.cells os T)) (some ⟨b, 0, none⟩) [x] := fun j y hy => by
  have hj := (List.getElem?_eq_some_iff.1 hy).1
  simp at hj
  subst hj
  obtain rfl : x = y := by simpa using hy
  refine ⟨b, 0, rfl, by subst hb; simp, fun i u hu => ?_⟩
  subst hb
  rw [hf] at hu
  simp only [Nat.zero_mul, Nat.zero_add]
  rw [show (w.alloc (.cells os T)).cell? ⟨w.heap.size, i, none⟩ = os[i]? by simp [go_sem]]
  simpa using hu
end
/-- What slices.Clone answers. -/
def ClP {α : Type} (E : TypeId) (k : Nat) (f : α → List Value) (w : World) (L : List α) (e : Ending) (w' : World) : Prop := ∃ v', e = .returned v' ∧ Cq E k f w.heap.size w' v' L ∧ Below w.heap.size w w'
end Go.Proofs.Ytohhkacnjhgamaa
