/- Rows as bytes: the document's Bytes. -/
import Derived.Test.YtifdgjmbecilhaaDoorUi
namespace Go.Proofs.YtifdgjmbecilhaaDoor
open Go.RowKit

/-- string(b) of a buffer. -/
theorem buf_string {w : World} {B : Nat} {v : Value} {l : List UInt8} (h : Buf w B v l) : (convert 69 9 v).run Tryd.prog w = .ok (.string ⟨l.toArray⟩) w := by
  obtain ⟨g, cap, rfl, _, _, _, h1, _⟩ := h
  exact run_convert_bytes_back (P := Tryd.prog) w 69 9 5 ⟨g, 0, none⟩ cap l Tryd.underlying69 Tryd.underlying5 Tryd.underlying9 (fun i hi => by
    rw [addHead]; exact h1 i _ (List.getElem?_eq_getElem hi))
theorem txB_len (s : ByteArray) : (txB s).length ≤ 8 + s.size := by
  unfold txB; rw [List.length_append]; have := numB_le s.size
  have h : s.data.toList.length = s.size := by simp
  omega
theorem roB_len {x : Ro} (h : rowOk x = true) : (roB x).length ≤ 72 := by
  simp only [rowOk, Bool.and_eq_true, decide_eq_true_eq] at h
  have h1 := txB_len x.key
  have h2 := txB_len x.val
  have h3 := numB_le x.ver
  unfold roB
  rw [List.length_append, List.length_append]; omega
theorem rosB_len : ∀ {L : List Ro}, (∀ x ∈ L, rowOk x = true) → (rosB L).length ≤ 72 * L.length
  | [], _ => by simp [rosB]
  | x :: r, h => by
    have h1 := roB_len (h x (by simp))
    have h2 := rosB_len (L := r) fun y hy => h y (by simp [hy])
    simp only [rosB, List.flatMap_cons, List.length_append, List.length_cons] at h2 ⊢
    omega
theorem rosB_snoc {L : List Ro} {k : Nat} {x : Ro} (hx : L[k]? = some x) : rosB (L.take (k + 1)) = rosB (L.take k) ++ roB x := by
  obtain ⟨h1, rfl⟩ := List.getElem?_eq_some_iff.1 hx
  rw [List.take_succ_eq_append_getElem h1]
  unfold rosB
  rw [List.flatMap_append]; simp
/-- What Bytes answers. -/
def byR (L : List Ro) : List UInt8 := if rightB L then rowsB L else []
def erR (L : List Ro) : Nat := if rightB L then 0 else 1
set_option maxRecDepth 100000 in
set_option maxHeartbeats 4000000 in
theorem rBytes_any (n c : Nat) (a : Option Addr) (L : List Ro) (hn : L.length = n) (hl : n ≤ 140737488351232) (hs : smallR L) (w : World) (hM : Ros w a L) :
    Calls Tryd.prog 23 #[.slice a n c] w fun e w' => e = .returned (.tuple #[.string ⟨(byR L).toArray⟩, .int .i64 (erR L : Nat)]) ∧ Below w.heap.size w w' := by
  have HN := Lib.hid hn
  have HM := Lib.hid hM
  have HS := Lib.hid hs
  obtain ⟨r, hr⟩ : ∃ r, rightB L = r := ⟨_, rfl⟩
  have HR := Lib.hid hr
  cases r
  case false =>
    have HB := Lib.hid (show byR L = [] by unfold byR; rw [hr]; rfl)
    have HE := Lib.hid (show erR L = 1 by unfold erR; rw [hr]; rfl)
    rw [HB.out, HE.out]
    clear hn hM hs hr
    go_enter Tryd.func23, Tryd.ntmps23
    go_wp2_with fail
    refine (rRight_any n c a L HN.out hl HS.out _ HM.out).mono ?_
    rintro e w1 ⟨rfl, hb1⟩
    rw [HR.out]
    go_wp2_with fail
    go_ret2
    exact ⟨rfl, hb1⟩
  have hri := (rightB_iff L).1 hr
  have HB := Lib.hid (show byR L = rowsB L by unfold byR; rw [hr]; rfl)
  have HE := Lib.hid (show erR L = 0 by unfold erR; rw [hr]; rfl)
  have hn32 : n ≤ 32 := by rw [← hn]; exact hri.1
  have HOK := Lib.hid hri.2.1
  have HLE := Lib.hid (show ∀ k, (numB n ++ rosB (L.take k)).length ≤ 2400 from fun k => by
    have h1 := rosB_len (L := L.take k) fun x hx => hri.2.1 x (List.mem_of_mem_take hx)
    have h2 := numB_le n
    rw [List.length_take] at h1
    rw [List.length_append]; omega)
  have HP0 := Lib.hid (show numB n ++ rosB (L.take 0) = numB n by simp [rosB])
  rw [HB.out, HE.out]
  clear hn hM hs hr hri
  have w0 : IntKind.u64.wrap (n : Int) = (n : Int) := IntWalk.u64_in _ (by omega)
  go_enter Tryd.func23, Tryd.ntmps23
  go_wp2_with fail
  refine (rRight_any n c a L HN.out hl HS.out _ HM.out).mono ?_
  rintro e w1 ⟨rfl, hb1⟩
  rw [HR.out]
  go_wp2_with fail
  refine (refNum_any _ _ (by omega) (by omega)).mono ?_
  rintro e w2 ⟨rfl, hb2⟩
  rw [Int.toNat_natCast]
  have B1 := hb1.trans (hb2.mono hb1.size)
  obtain ⟨v, w3, hcv, hbuf, hb3⟩ := buf_conv w2 w.heap.size B1.size (numB n)
  have B2 := B1.trans (hb3.mono B1.size)
  rw [← HP0.out] at hbuf
  clear hb1 hb2 hb3 B1
  go_wp2_with fail
  clear hcv
  go_loopw [7, 8] (fun b i wr => ∃ k : Nat, k ≤ n ∧ i = .int .i64 k ∧ Buf wr w.heap.size b (numB n ++ rosB (L.take k)) ∧ Below w.heap.size w wr) (fun _ i _ => n - (intOf i).toNat)
  case atStart => exact ⟨0, Nat.zero_le _, rfl, hbuf, B2⟩
  case round =>
    clear hbuf B2
    obtain ⟨k, hk, rfl, hbuf, B⟩ := hrel
    by_cases hlt : k < n
    · obtain ⟨x, hx⟩ : ∃ x, L[k]? = some x := ⟨_, List.getElem?_eq_getElem (by rw [HN.out]; exact hlt)⟩
      have i0 : (0 : Int) ≤ (k : Int) := by omega
      have i1 : (k : Int) < (n : Int) := by omega
      have hpk := HLE.out k
      have HPS := Lib.hid (show numB n ++ rosB (L.take (k + 1)) = numB n ++ (rosB (L.take k) ++ roB x) by rw [rosB_snoc hx])
      have HC := Lib.hid (show ∀ w', Below w.heap.size w w' → ∃ b off, a = some ⟨b, off, none⟩ ∧ b < w'.heap.size ∧ w'.cell? ⟨b, off + k * 3, none⟩ = some (.string x.key) ∧ w'.cell? ⟨b, off + k * 3 + 1, none⟩ = some (.string x.val) ∧ w'.cell? ⟨b, off + k * 3 + 2, none⟩ = some (.int .u64 (x.ver : Nat)) from fun w' h => Ros.cells (HM.out.later h) hx)
      have hok := HOK.out x (List.mem_of_getElem? hx)
      simp only [rowOk, Bool.and_eq_true, decide_eq_true_eq] at hok
      obtain ⟨_, k2, k3, k4⟩ := hok
      obtain ⟨xk, xv, xn⟩ := x
      simp only at k2 k3 k4 HC
      have t1 := txB_len xk
      have t2 := txB_len xv
      have t3 := numB_le xn
      have s1 := sz_arr (txB xk)
      have s2 := sz_arr (txB xv)
      have s3 := sz_arr (numB xn)
      obtain ⟨kb, hkb⟩ : ∃ kb, (⟨(txB xk).toArray⟩ : ByteArray) = kb := ⟨_, rfl⟩
      obtain ⟨vb, hvb⟩ : ∃ kb, (⟨(txB xv).toArray⟩ : ByteArray) = kb := ⟨_, rfl⟩
      obtain ⟨nb, hnb⟩ : ∃ kb, (⟨(numB xn).toArray⟩ : ByteArray) = kb := ⟨_, rfl⟩
      rw [hkb] at s1
      rw [hvb] at s2
      rw [hnb] at s3
      have HTK := Lib.hid (fun w' => rText_any xk (by omega) w')
      have HTV := Lib.hid (fun w' => rText_any xv (by omega) w')
      have HTN := Lib.hid (fun w' => refNum_any (xn : Int) w' (by omega) (by omega))
      rw [hkb] at HTK
      rw [hvb] at HTV
      rw [Int.toNat_natCast, hnb] at HTN
      have HSUM := Lib.hid (show kb.data.toList ++ (vb.data.toList ++ nb.data.toList) = roB ⟨xk, xv, xn⟩ by
        rw [← hkb, ← hvb, ← hnb]; unfold roB; rw [List.append_assoc])
      have hsz : (kb ++ vb ++ nb).size ≤ 2000 := by
        have : (kb ++ vb ++ nb).size = kb.size + vb.size + nb.size := by simp [ByteArray.size_append]
        omega
      have c1 : ¬ 9223372036854775807 < kb.size + vb.size := by omega
      have c2 : ¬ 9223372036854775807 < kb.size + vb.size + nb.size := by omega
      obtain ⟨b, off, rfl, _, p0, p1, p2⟩ := HC.out _ B
      clear hx hkb hvb hnb t1 t2 t3 s1 s2 s3
      go_wp2_with fail
      refine (HTK.out _).mono ?_
      rintro e w4 ⟨rfl, hb4⟩
      have B4 := B.trans (hb4.mono B.size)
      have hbuf4 := hbuf.later hb4
      clear p0 p1 p2 hbuf hb4 B
      obtain ⟨_, _, e', _, p0, p1, p2⟩ := HC.out _ B4
      cases e'
      go_wp2_with fail
      refine (HTV.out _).mono ?_
      rintro e w5 ⟨rfl, hb5⟩
      have B5 := B4.trans (hb5.mono B4.size)
      have hbuf5 := hbuf4.later hb5
      clear p0 p1 p2 hbuf4 hb5 B4
      obtain ⟨_, _, e', _, p0, p1, p2⟩ := HC.out _ B5
      cases e'
      go_wp2_with fail
      refine (HTN.out _).mono ?_
      rintro e w6 ⟨rfl, hb6⟩
      have B6 := B5.trans (hb6.mono B5.size)
      have hbuf6 := hbuf5.later hb6
      clear p0 p1 p2 hbuf5 hb6 B5
      go_wp2_with (at_builtin; refine wpList_buf_app rfl _ _ rfl w.heap.size B6.size _ (numB n ++ rosB (L.take k)) (kb ++ vb ++ nb) rfl rfl hbuf6 ?c1 ?_)
      case c1 => omega
      intro v' w7 hbuf7 hB7
      have B7 := hB7 _ B6
      rw [HSUM.out, ← HPS.out] at hbuf7
      have HB7 := Lib.hid hbuf7
      clear hB7 hbuf7 hbuf6
      go_wp2_with fail
      go_roundw
      case rel => exact ⟨k + 1, by omega, by go_num, HB7.out, B7⟩
      case measure => simp [intOf]; omega
    · have i1 : ¬ (k : Int) < (n : Int) := by omega
      have hall : numB n ++ rosB (L.take k) = rowsB L := by rw [List.take_of_length_le (by rw [HN.out]; omega), rowsB, HN.out]
      rw [hall] at hbuf
      have hstr := buf_string hbuf
      clear hall hbuf
      go_wp2_with fail
      go_ret2
      exact ⟨rfl, B⟩
end Go.Proofs.YtifdgjmbecilhaaDoor
