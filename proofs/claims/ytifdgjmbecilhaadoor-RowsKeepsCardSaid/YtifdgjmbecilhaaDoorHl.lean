/- Rows as bytes: the program's Text and Bytes. -/
import Derived.Test.YtifdgjmbecilhaaDoorHb
import Derived.Test.YtifdgjmbecilhaaDoorHd
import Derived.Test.YtifdgjmbecilhaaDoorUj
import Derived.Test.YtifdgjmbecilhaaDoorBd
import Derived.Test.YtifdgjmbecilhaaDoorPnum
namespace Go.Proofs.YtifdgjmbecilhaaDoor
open Go.RowKit

theorem bld_later {B b : Nat} {p : Value} {bs : List Value} {w w' : World} (h : Lib.BuilderAt 71 5 B b p bs w) (hb : Below w.heap.size w w') : Lib.BuilderAt 71 5 B b p bs w' := by
  have hlt := h.lt
  obtain ⟨hB, v, hk, hown, hne⟩ := h
  exact ⟨hB, v, (hb.block b hlt).trans hk, hown.kept (row := none) ⟨hb.os, hb.tape, hb.output, hb.size, fun j hj _ => hb.block j hj⟩ (by cases hv : v.ownBlock <;> simp), hne⟩
theorem isb_later {B b : Nat} {bs : List Value} {w w' : World} (h : Lib.IsBuilder 71 5 B b bs w) (hb : Below w.heap.size w w') : Lib.IsBuilder 71 5 B b bs w' := by
  rcases h with h | h
  · exact .inl (bld_later h hb)
  · exact .inr (bld_later h hb)
theorem numB_pos (n : Nat) : 0 < (numB n).length := by
  unfold numB
  split
  · rw [length_beB]; omega
  split
  · rw [length_beB]; omega
  split
  · rw [length_beB]; omega
  · rw [length_beB]; omega
theorem strCells_mk (l : List UInt8) : Lib.strCells ⟨l.toArray⟩ = Lib.byteCells l := by simp [Lib.strCells, Lib.byteCells]
theorem byteCells_app (a b : List UInt8) : Lib.byteCells (a ++ b) = Lib.byteCells a ++ Lib.byteCells b := by simp [Lib.byteCells]
set_option maxRecDepth 100000 in
set_option maxHeartbeats 1000000 in
theorem pText_any (s : ByteArray) (hL : s.size ≤ 4096) (w : World) (hT : Tz w) :
    Calls Tryd.prog 37 #[.string s] w fun e w' => e = .returned (.tuple #[.string ⟨(txB s).toArray⟩, .int .i64 0]) ∧ Below w.heap.size w w' := by
  have hN := numB_le s.size
  have hsn := sz_arr (numB s.size)
  have g1 : ¬ (4096 : Int) < (s.size : Int) := by omega
  have w1 : IntKind.u64.wrap (s.size : Int) = (s.size : Int) := IntWalk.u64_in _ (by omega)
  have HNU := Lib.hid (show ∀ w1, Tz w1 → Calls Tryd.prog 35 #[.int .u64 (s.size : Int)] w1 fun e w' => e = .returned (.tuple #[.string ⟨(numB s.size).toArray⟩, .int .i64 0]) ∧ Below w1.heap.size w1 w' from fun w1 h1 => by
    have h := num_any (s.size : Int) w1 (by omega) (by omega) h1
    rw [Int.toNat_natCast] at h; exact h)
  have HE := Lib.hid (show (⟨(numB s.size).toArray⟩ : ByteArray) ++ s = ⟨(txB s).toArray⟩ by conv => lhs; rw [← ba_eta s]
                                                                                             rw [mk_app]; rfl)
  obtain ⟨nb, hnb⟩ : ∃ nb, (⟨(numB s.size).toArray⟩ : ByteArray) = nb := ⟨_, rfl⟩
  rw [hnb] at HNU hsn HE
  have hcc : ¬ 9223372036854775807 < nb.size + s.size := by omega
  clear hsn hN hnb
  go_enter Tryd.func37, Tryd.ntmps37
  go_wp2_with fail
  refine (HNU.out _ hT).mono ?_
  rintro e w1 ⟨rfl, hb1⟩
  go_wp2_with fail
  go_ret2
  exact ⟨retStrI HE.out, hb1⟩
set_option maxRecDepth 100000 in
set_option maxHeartbeats 4000000 in
theorem pBytes_any (n c : Nat) (a : Option Addr) (L : List Ro) (hn : L.length = n) (hl : n ≤ 140737488351232) (hs : smallR L) (w : World) (hT : Tz w) (hM : Ros w a L) :
    Calls Tryd.prog 22 #[.slice a n c] w fun e w' => e = .returned (.tuple #[.string ⟨(byR L).toArray⟩, .int .i64 (erR L : Nat)]) ∧ Below w.heap.size w w' := by
  have HN := Lib.hid hn
  have HM := Lib.hid hM
  have HS := Lib.hid hs
  obtain ⟨r, hr⟩ : ∃ r, rightB L = r := ⟨_, rfl⟩
  have HR := Lib.hid hr
  cases r
  case false =>
    have HB := Lib.hid (show byR L = [] by unfold byR; rw [hr]; rfl)
    have HE := Lib.hid (show erR L = 1 by unfold erR; rw [hr]; rfl)
    rw [HB.out, HE.out]
    clear hn hM hs hr
    go_enter Tryd.func22, Tryd.ntmps22
    go_wp2_with fail
    refine (pRight_any n c a L HN.out hl HS.out _ HM.out).mono ?_
    rintro e w1 ⟨rfl, hb1⟩
    rw [HR.out]
    go_wp2_with fail
    go_ret2
    exact ⟨rfl, hb1⟩
  have hri := (rightB_iff L).1 hr
  have HB := Lib.hid (show byR L = rowsB L by unfold byR; rw [hr]; rfl)
  have HE := Lib.hid (show erR L = 0 by unfold erR; rw [hr]; rfl)
  have hn32 : n ≤ 32 := by rw [← hn]; exact hri.1
  have HOK := Lib.hid hri.2.1
  have HLE := Lib.hid (show ∀ k, (numB n ++ rosB (L.take k)).length ≤ 2400 from fun k => by
    have h1 := rosB_len (L := L.take k) fun x hx => hri.2.1 x (List.mem_of_mem_take hx)
    have h2 := numB_le n
    rw [List.length_take] at h1
    rw [List.length_append]; omega)
  have HP0 := Lib.hid (show numB n ++ rosB (L.take 0) = numB n by simp [rosB])
  have HTZ := Lib.hid hT
  rw [HB.out, HE.out]
  clear hn hM hs hr hri hT
  have w0 : IntKind.u64.wrap (n : Int) = (n : Int) := IntWalk.u64_in _ (by omega)
  go_enter Tryd.func22, Tryd.ntmps22
  go_wp2_with fail
  refine (pRight_any n c a L HN.out hl HS.out _ HM.out).mono ?_
  rintro e w1 ⟨rfl, hb1⟩
  rw [HR.out]
  obtain ⟨y, hy⟩ : ∃ y, w1.heap.size = y := ⟨_, rfl⟩
  obtain ⟨W2, hW2⟩ : ∃ W2, w1.alloc (.cells #[.pointer none, .slice none 0 0] 71) = W2 := ⟨_, rfl⟩
  have B2 : Below y w1 W2 := by rw [← hW2, ← hy]; exact (Below.refl _ _).alloc (Nat.le_refl _) _
  have hbl : Lib.IsBuilder 71 5 y y [] W2 := by rw [← hW2, ← hy]; exact Lib.fresh_isBuilder 71 5 w1
  have hwy : w.heap.size ≤ y := by rw [← hy]; exact hb1.size
  have HBL := Lib.hid hbl
  have HM1 := Lib.hid (show ∀ w', Below y w1 w' → Ros w' a L from fun w' h => HM.out.later (hb1.trans (h.mono hwy)))
  have HT1 := Lib.hid (show ∀ w', Below y w1 w' → Tz w' from fun w' h => HTZ.out.below ((hb1.trans (h.mono hwy)).mono HTZ.out.n))
  have HF1 := Lib.hid (show ∀ w', Below y w1 w' → Below w.heap.size w w' from fun w' h => hb1.trans (h.mono hwy))
  have HB2 := Lib.hid B2
  have HY2 := Lib.hid (show y ≤ W2.heap.size from by rw [← hy]; exact B2.size)
  have HNU := Lib.hid (fun w' (h : Tz w') => num_any (n : Int) w' (by omega) (by omega) h)
  simp only [Int.toNat_natCast] at HNU
  clear hb1 B2 hbl
  go_wp2_with fail
  refine (HNU.out _ (HT1.out _ HB2.out)).mono ?_
  rintro e w3 ⟨rfl, hb3⟩
  have HB3 := Lib.hid (HB2.out.trans (hb3.mono HY2.out))
  have HBD3 := Lib.hid (isb_later HBL.out hb3)
  have HY3 := Lib.hid (Nat.le_trans HY2.out hb3.size)
  clear hb3
  go_wp2_with fail
  refine (writeString_any y y _ _ _ HBD3.out (by rw [sz_arr]; have := numB_le n; simp; omega) HY3.out).mono ?_
  rintro e w4 ⟨rfl, hd4, hb4⟩
  rw [strCells_mk, List.nil_append, ← HP0.out] at hd4
  have HB4 := Lib.hid (HB3.out.trans hb4)
  have HBD4 := Lib.hid hd4
  have HY4 := Lib.hid (Nat.le_trans HY3.out hb4.size)
  clear hd4 hb4
  go_wp2_with fail
  go_loopw [29] (fun i wr => ∃ k : Nat, k ≤ n ∧ i = .int .i64 k ∧ Lib.IsBuilder 71 5 y y (Lib.byteCells (numB n ++ rosB (L.take k))) wr ∧ Below y w1 wr ∧ y ≤ wr.heap.size) (fun i _ => n - (intOf i).toNat)
  case atStart => exact ⟨0, Nat.zero_le _, rfl, .inr HBD4.out, HB4.out, HY4.out⟩
  case round =>
    clear HBL HB2 HY2 HB3 HBD3 HY3 HB4 HBD4 HY4 hW2
    obtain ⟨k, hk, rfl, hbd, hB, hY⟩ := hrel
    have HBD := Lib.hid hbd
    have HB0 := Lib.hid hB
    have HY0 := Lib.hid hY
    clear hbd hB hY
    by_cases hlt : k < n
    · obtain ⟨x, hx⟩ : ∃ x, L[k]? = some x := ⟨_, List.getElem?_eq_getElem (by rw [HN.out]; exact hlt)⟩
      have i0 : (0 : Int) ≤ (k : Int) := by omega
      have i1 : (k : Int) < (n : Int) := by omega
      have hpk := HLE.out k
      have hpk2 := HLE.out (k + 1)
      have hps : numB n ++ rosB (L.take (k + 1)) = numB n ++ rosB (L.take k) ++ roB x := by rw [rosB_snoc hx, List.append_assoc]
      have HPS := Lib.hid hps
      have HLS := Lib.hid (show (numB n ++ rosB (L.take k)).length + (roB x).length ≤ 2400 by rw [← List.length_append, ← hps]; exact hpk2)
      have hok := HOK.out x (List.mem_of_getElem? hx)
      simp only [rowOk, Bool.and_eq_true, decide_eq_true_eq] at hok
      obtain ⟨_, k2, k3, k4⟩ := hok
      obtain ⟨b, off, rfl, _, p0, p1, p2⟩ := Ros.cells (HM1.out _ HB0.out) hx
      obtain ⟨xk, xv, xn⟩ := x
      simp only at k2 k3 k4 p0 p1 p2
      obtain ⟨W5, hW5⟩ : ∃ W5, wr.alloc (.cells #[.string xk, .string xv, .int .u64 (xn : Nat)] 26) = W5 := ⟨_, rfl⟩
      obtain ⟨x8, hx8⟩ : ∃ x8, wr.heap.size = x8 := ⟨_, rfl⟩
      have B5 : Below wr.heap.size wr W5 := hW5 ▸ (Below.refl _ _).alloc (Nat.le_refl _) _
      have HV := Lib.hid (show B3 W5 x8 (.string xk) (.string xv) (.int .u64 (xn : Nat)) from hW5 ▸ B3.new hx8.symm _ _ _ _)
      obtain ⟨v0, v1, v2, _⟩ := HV.out
      have HB5 := Lib.hid (HB0.out.trans (B5.mono HY0.out))
      have HBD5 := Lib.hid (isb_later HBD.out B5)
      have HY5 := Lib.hid (Nat.le_trans HY0.out B5.size)
      have t1 := txB_len xk
      have t2 := txB_len xv
      have t3 := numB_le xn
      have s1 := sz_arr (txB xk)
      have s2 := sz_arr (txB xv)
      have s3 := sz_arr (numB xn)
      obtain ⟨kb, hkb⟩ : ∃ kb, (⟨(txB xk).toArray⟩ : ByteArray) = kb := ⟨_, rfl⟩
      obtain ⟨vb, hvb⟩ : ∃ kb, (⟨(txB xv).toArray⟩ : ByteArray) = kb := ⟨_, rfl⟩
      obtain ⟨nb, hnb⟩ : ∃ kb, (⟨(numB xn).toArray⟩ : ByteArray) = kb := ⟨_, rfl⟩
      rw [hkb] at s1
      rw [hvb] at s2
      rw [hnb] at s3
      have HTK := Lib.hid (fun w' h => pText_any xk (by omega) w' h)
      have HTV := Lib.hid (fun w' h => pText_any xv (by omega) w' h)
      have HTN := Lib.hid (fun w' (h : Tz w') => num_any (xn : Int) w' (by omega) (by omega) h)
      rw [hkb] at HTK
      rw [hvb] at HTV
      rw [Int.toNat_natCast, hnb] at HTN
      have HSUM := Lib.hid (show (kb ++ vb ++ nb) = ⟨(roB ⟨xk, xv, xn⟩).toArray⟩ by
        rw [← hkb, ← hvb, ← hnb, mk_app, mk_app]; rfl)
      have c1 : ¬ 9223372036854775807 < kb.size + vb.size := by omega
      have c2 : ¬ 9223372036854775807 < kb.size + vb.size + nb.size := by omega
      clear hx hkb hvb hnb t1 t2 t3 s1 s2 s3 B5 hps hpk hpk2
      go_wp2_with fail
      refine (HTK.out _ (HT1.out _ HB5.out)).mono ?_
      rintro e w6 ⟨rfl, hb6⟩
      have HV6 := Lib.hid (HV.out.later hb6)
      have HB6 := Lib.hid (HB5.out.trans (hb6.mono HY5.out))
      have HBD6 := Lib.hid (isb_later HBD5.out hb6)
      have HY6 := Lib.hid (Nat.le_trans HY5.out hb6.size)
      clear hb6 v0 v1 v2 HV p0 p1 p2
      obtain ⟨v0, v1, v2, _⟩ := HV6.out
      go_wp2_with fail
      refine (HTV.out _ (HT1.out _ HB6.out)).mono ?_
      rintro e w7 ⟨rfl, hb7⟩
      have HV7 := Lib.hid (HV6.out.later hb7)
      have HB7 := Lib.hid (HB6.out.trans (hb7.mono HY6.out))
      have HBD7 := Lib.hid (isb_later HBD6.out hb7)
      have HY7 := Lib.hid (Nat.le_trans HY6.out hb7.size)
      clear hb7 v0 v1 v2 HV6
      obtain ⟨v0, v1, v2, _⟩ := HV7.out
      go_wp2_with fail
      refine (HTN.out _ (HT1.out _ HB7.out)).mono ?_
      rintro e w8 ⟨rfl, hb8⟩
      have HB8 := Lib.hid (HB7.out.trans (hb8.mono HY7.out))
      have HBD8 := Lib.hid (isb_later HBD7.out hb8)
      have HY8 := Lib.hid (Nat.le_trans HY7.out hb8.size)
      clear hb8 v0 v1 v2 HV7
      go_wp2_with fail
      rw [HSUM.out]
      refine (writeString_any y y _ _ _ HBD8.out (by rw [Lib.byteCells_length, sz_arr]; have := HLS.out; omega) HY8.out).mono ?_
      rintro e w9 ⟨rfl, hd9, hb9⟩
      rw [strCells_mk, ← byteCells_app, ← HPS.out] at hd9
      have HB9 := Lib.hid (HB8.out.trans hb9)
      have HBD9 := Lib.hid hd9
      have HY9 := Lib.hid (Nat.le_trans HY8.out hb9.size)
      clear hd9 hb9
      go_wp2_with fail
      go_roundw
      case rel => exact ⟨k + 1, by omega, by go_num, .inr HBD9.out, HB9.out, HY9.out⟩
      case measure => simp [intOf]; omega
    · have i1 : ¬ (k : Int) < (n : Int) := by omega
      have hall : numB n ++ rosB (L.take k) = rowsB L := by rw [List.take_of_length_le (by rw [HN.out]; omega), rowsB, HN.out]
      have hbd := HBD.out
      rw [hall] at hbd
      have HD := Lib.hid hbd
      have HNE := Lib.hid (show rowsB L ≠ [] from fun h => by
        have h1 : (numB L.length).length = 0 := by
          have := congrArg List.length h
          unfold rowsB at this
          rw [List.length_append, List.length_nil] at this; omega
        have h2 := numB_pos L.length
        omega)
      clear hall hbd
      go_wp2_with fail
      refine (builderString_any y y (rowsB L) _ HD.out HNE.out).mono ?_
      rintro e w5 ⟨rfl, hb5⟩
      have HB5 := Lib.hid (HB0.out.trans hb5)
      clear hb5
      go_wp2_with fail
      go_ret2
      exact ⟨rfl, HF1.out _ HB5.out⟩
end Go.Proofs.YtifdgjmbecilhaaDoor
