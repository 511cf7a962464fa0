/- The law LockRight. -/
import Derived.Test.YtfidgnhinllhlaaVi
namespace Go.Proofs.Ytfidgnhinllhlaa
open Go.RowKit

theorem ask_small {L : List Ho} {t : Tx} {key : ByteArray} {wr : Bool} {firm : List Tx} (h : smallH L) (hk : okA key t) : smallH (askH L t key wr firm).1 := by
  rcases ask_cases L t key wr firm with ⟨e, _, e1⟩ | ⟨e1, _⟩ | ⟨out, _, ⟨_, _, e1⟩ | ⟨_, e1⟩⟩
  · rw [e1]; exact h
  · rw [e1]; exact h
  · rw [e1]
    intro x hx
    obtain ⟨z, h1, h2, h3⟩ := mem_raise hx
    rw [← h2]; first | (rw [← h3.1]; exact h z (mem_rest.1 h1).1) | (rw [← h3]; exact h z (mem_rest.1 h1).1)
  · rw [e1]
    intro x hx
    rcases List.mem_append.1 hx with h1 | h1
    · exact h x (mem_rest.1 h1).1
    · obtain rfl : x = ⟨key, t, wr⟩ := by simpa using h1
      exact hk
theorem drop_small {L : List Ho} {t : Tx} (h : smallH L) : smallH (dropH t L) := fun x hx => h x (List.mem_filter.1 hx).1
theorem Ass.cells {w : World} {a : Option Addr} {L : List As} (h : Ass w a L) {k : Nat} {x : As} (hx : L[k]? = some x) : ∃ b off, a = some ⟨b, off, none⟩ ∧ b < w.heap.size ∧ w.cell? ⟨b, off + k * 4, none⟩ = some (.int .u64 (x.t.age : Nat)) ∧ w.cell? ⟨b, off + k * 4 + 1, none⟩ = some (.int .u64 (x.t.id : Nat)) ∧ w.cell? ⟨b, off + k * 4 + 2, none⟩ = some (.string x.key) ∧ w.cell? ⟨b, off + k * 4 + 3, none⟩ = some (.bool x.wr) := by
  obtain ⟨b, off, e, hb, c⟩ := h k x hx
  exact ⟨b, off, e, hb, c 0 _ rfl, c 1 _ rfl, c 2 _ rfl, c 3 _ rfl⟩
theorem good_at {H : List Ho} (h : goodH H) {i j : Nat} {x y : Ho} (hij : j < i) (hx : H[i]? = some x) (hy : H[j]? = some y) (he : x.key = y.key) : x.t ≠ y.t ∧ x.wr = false ∧ y.wr = false := by
  obtain ⟨h1, rfl⟩ := List.getElem?_eq_some_iff.1 hx
  obtain ⟨h2, rfl⟩ := List.getElem?_eq_some_iff.1 hy
  have := List.pairwise_iff_getElem.1 h j i h2 h1 hij he.symm
  exact ⟨fun e => this.1 e.symm, this.2.2, this.2.1⟩
set_option maxRecDepth 100000 in
set_option maxHeartbeats 8000000 in
theorem law_LockRight {TT : World → Prop} (P : PLocks TT) (n c m d : Nat) (a b : Option Addr) (A : List As) (F : List Tx) (w : World) (I : AsIn w a n c A) (J : TxIn w b m d F) (hT : TT w) :
    Calls Try.prog 5 #[.slice a n c, .slice b m d] w fun e w' => e = .returned (.bool true) ∧ Below w.heap.size w w' := by
  have HS := Lib.hid (shown_any P w hT)
  have HAK := Lib.hid (fun (n c : Nat) (a : Option Addr) (L : List Ho) (t : Tx) (key : ByteArray) (wb : Bool) (h1 : L.length = n) (h2 : n ≤ c) (h3 : c ≤ maxLen) (h4 : n * 40 ≤ 140737488351232) (h5 : smallH L) (h6 : okA key t) w' (hb : Below w.heap.size w w') (hm : Hos w' a L) => P.ask n c m d a b L t key wb F h1 h2 h3 h4 h5 h6 J.hlen J.room J.ok w' (P.below hT hb) hm (J.mem.later hb))
  have HDR := Lib.hid (fun (n c : Nat) (a : Option Addr) (L : List Ho) (t : Tx) (h1 : L.length = n) (h2 : n ≤ c) (h3 : c ≤ maxLen) (h4 : n * 40 ≤ 140737488351232) (h5 : smallH L) (h6 : okX t) w' (hb : Below w.heap.size w w') (hm : Hos w' a L) => P.drop n c a L t h1 h2 h3 h4 h5 h6 w' (P.below hT hb) hm)
  have HI := Lib.hid I.mem
  have HN := Lib.hid I.hlen
  have HSM := Lib.hid I.small
  have hroom := I.room
  clear P I J hT
  go_enter Try.func5, Try.ntmps5
  go_wp2_with fail
  refine HS.out.mono ?_
  rintro e w1 ⟨rfl, hb1⟩
  have HB1 := Lib.hid hb1
  clear hb1
  go_wp2_with fail
  go_loopw [6, 7] (fun hv iv wx => ∃ (k : Nat) (H : List Ho) (a' : Option Addr) (c' : Nat), k ≤ n ∧ iv = .int .i64 k ∧ hv = .slice a' H.length c' ∧ H.length ≤ k ∧ H.length ≤ c' ∧ c' ≤ maxLen ∧ smallH H ∧ goodH H ∧ Hos wx a' H ∧ Below w.heap.size w wx) (fun _ iv _ => n - (intOf iv).toNat)
  case atStart => exact ⟨0, [], none, 0, Nat.zero_le _, rfl, rfl, Nat.le_refl _, Nat.le_refl _, by decide, (fun x hx => by simp at hx), good_nil, Rw.nil _, HB1.out⟩
  case round =>
    obtain ⟨k, H, a', c', hk, rfl, rfl, hHk, hHc, hcm, hsm, hgd, hmem, hB⟩ := hrel
    by_cases hlt : k < n
    case neg =>
      have i1 : ¬ (k : Int) < (n : Int) := by omega
      have HB := Lib.hid hB
      clear hmem hgd hsm hB
      go_wp2_with fail
      go_ret
      exact ⟨by first | rfl | simp, HB.out⟩
    have HLT := Lib.hid hlt
    obtain ⟨x, hx⟩ : ∃ x, A[k]? = some x := ⟨_, List.getElem?_eq_getElem (by rw [HN.out]; exact hlt)⟩
    have i0 : (0 : Int) ≤ (k : Int) := by omega
    have i1 : (k : Int) < (n : Int) := by omega
    obtain ⟨b', off, rfl, hb, p0, p1, p2, p3⟩ := Ass.cells (HI.out.later hB) hx
    have hks := HSM.out x (List.mem_of_getElem? hx)
    obtain ⟨⟨xa, xi⟩, xk, xw⟩ := x
    simp only at p0 p1 p2 p3 hks
    obtain ⟨W5, hW5⟩ : ∃ W5, wr.alloc (.cells #[.int .u64 (xa : Nat), .int .u64 (xi : Nat), .string xk, .bool xw] 27) = W5 := ⟨_, rfl⟩
    obtain ⟨x8, hx8⟩ : ∃ x8, wr.heap.size = x8 := ⟨_, rfl⟩
    obtain ⟨hb5, hX5⟩ := asbox hW5
    rw [hx8] at hX5
    have HB5 := Lib.hid (hB.trans (hb5.mono hB.size))
    have HM5 := Lib.hid (hmem.later hb5)
    have HGD := Lib.hid hgd
    have HSH := Lib.hid hsm
    obtain ⟨_, q0, q1, q2, q3⟩ := hX5
    simp only at q0 q1 q2 q3
    clear hx hB hmem hgd hsm hb5
    by_cases he : xk = ⟨#[]⟩
    · subst he
      have CD := Lib.hid (HDR.out H.length c' a' H ⟨xa, xi⟩ rfl hHc hcm (by omega) HSH.out hks.2 W5 HB5.out HM5.out)
      have HD1 := Lib.hid (good_drop (t := ⟨xa, xi⟩) HGD.out)
      have HD2 := Lib.hid (drop_small (t := ⟨xa, xi⟩) HSH.out)
      have hdl := dropH_len ⟨xa, xi⟩ H
      go_wp2_with fail
      refine CD.out.mono ?_
      rintro e w6 ⟨a6, c6, rfl, m6, h61, h62, hb6⟩
      have HB6 := Lib.hid (HB5.out.trans (hb6.mono HB5.out.size))
      have M6 := Lib.hid m6
      clear hb6 m6
      go_wp2_with fail
      go_roundw
      case rel => exact ⟨k + 1, _, a6, c6, HLT.out, by go_num, rfl, by omega, h61, h62, HD2.out, HD1.out, M6.out, HB6.out⟩
      case measure => have := HLT.out; simp [intOf]; omega
    have g1 := ba_ne he
    have g2 := ba_ne' he
    have g3 : ¬ xk.toList = [] := fun h => by
      apply he
      rw [ByteArray.toList_eq] at h
      exact ByteArray.ext (by simpa using h)
    have g4 : xk.toList.isEmpty = false := by
      cases hq : xk.toList with
      | nil => exact absurd hq g3
      | cons y r => rfl
    have CA := Lib.hid (HAK.out H.length c' a' H ⟨xa, xi⟩ xk xw rfl hHc hcm (by omega) HSH.out hks W5 HB5.out HM5.out)
    have HA1 := Lib.hid (ask_good ⟨xa, xi⟩ xk xw F HGD.out)
    have HA2 := Lib.hid (ask_small (t := ⟨xa, xi⟩) (wr := xw) (firm := F) HSH.out hks)
    have hal := ask_len H ⟨xa, xi⟩ xk xw F
    obtain ⟨⟨M, O, kk⟩, hM⟩ : ∃ r, askH H ⟨xa, xi⟩ xk xw F = r := ⟨_, rfl⟩
    rw [hM] at CA HA1 HA2 hal
    simp only at HA1 HA2 hal
    clear hM he
    go_wp2_with fail
    refine CA.out.mono ?_
    rintro e w6 ⟨a6, c6, a7, c7, rfl, m6, h61, h62, _, hb6⟩
    simp only at h61
    have HB6 := Lib.hid (HB5.out.trans (hb6.mono HB5.out.size))
    have M6 := Lib.hid m6
    have hMl : M.length ≤ 140737488351232 := by omega
    clear hb6 m6 CA q0 q1 q2 q3 p0 p1 p2 p3 g1 g2 g3 g4
    obtain ⟨wp, rfl⟩ : ∃ x, x = w6 := ⟨_, rfl⟩
    go_wp2_with fail
    go_loopw [12] (fun xv wx => ∃ i : Nat, i ≤ M.length ∧ xv = .int .i64 i ∧ Below wp.heap.size wp wx) (fun xv _ => M.length - (intOf xv).toNat)
    case atStart => exact ⟨0, Nat.zero_le _, rfl, Below.refl _ _⟩
    case round =>
      obtain ⟨i, hi, rfl, hBi⟩ := hrel
      by_cases hil : i < M.length
      case neg =>
        have j1 : ¬ (i : Int) < (M.length : Int) := by omega
        have HBi := Lib.hid hBi
        clear hBi
        have HBc := Lib.hid (HB6.out.trans (HBi.out.mono HB6.out.size))
        have M7 := Lib.hid (M6.out.later HBi.out)
        go_wp2_with fail
        go_roundw
        case rel => exact ⟨k + 1, M, a6, c6, HLT.out, by go_num, rfl, by omega, h61, h62, HA2.out, HA1.out, M7.out, HBc.out⟩
        case measure => have := HLT.out; simp [intOf]; omega
      have HIL := Lib.hid hil
      have j0 : (0 : Int) ≤ (i : Int) := by omega
      have j1 : (i : Int) < (M.length : Int) := by omega
      obtain ⟨y, hy⟩ : ∃ y, M[i]? = some y := ⟨_, List.getElem?_eq_getElem hil⟩
      have HBi := Lib.hid hBi
      have HY := Lib.hid hy
      clear hBi hy
      go_wp2_with fail
      go_loopw [13] (fun yv wx => ∃ j : Nat, j ≤ i ∧ yv = .int .i64 j ∧ Below wp.heap.size wp wx) (fun yv _ => i - (intOf yv).toNat)
      case atStart => exact ⟨0, Nat.zero_le _, rfl, HBi.out⟩
      case round =>
        obtain ⟨j, hj, rfl, hBj⟩ := hrel
        by_cases hjl : j < i
        case neg =>
          have l1 : ¬ (j : Int) < (i : Int) := by omega
          have HBj := Lib.hid hBj
          clear hBj
          go_wp2_with fail
          go_roundw
          case rel => exact ⟨i + 1, HIL.out, by go_num, HBj.out⟩
          case measure => have := HIL.out; simp [intOf]; omega
        have l0 : (0 : Int) ≤ (j : Int) := by omega
        have l1 : (j : Int) < (i : Int) := by omega
        have l2 : (j : Int) < (M.length : Int) := by omega
        obtain ⟨z, hz⟩ : ∃ z, M[j]? = some z := ⟨_, List.getElem?_eq_getElem (by omega)⟩
        have HGA := Lib.hid (good_at HA1.out hjl HY.out hz)
        obtain ⟨b3, off3, e3, _, r0, r1, r2, r3⟩ := Hos.cells (M6.out.later hBj) HY.out
        obtain ⟨b4, off4, e4, _, s0, s1, s2, s3⟩ := Hos.cells (M6.out.later hBj) hz
        rw [e3] at e4
        cases e4
        subst e3
        obtain ⟨yk, ⟨ya, yi⟩, yw⟩ := y
        obtain ⟨zk, ⟨za, zi⟩, zw⟩ := z
        simp only at r0 r1 r2 r3 s0 s1 s2 s3 HGA
        have HBj := Lib.hid hBj
        clear hz hBj
        by_cases hkk : yk = zk
        · obtain ⟨h1, rfl, rfl⟩ := HGA.out hkk
          subst hkk
          rcases tx_ne h1 with g | ⟨rfl, g⟩
          · clear h1 HGA
            go_wp2_with fail
            go_quiet (fail)
            go_wp2_with fail
            go_roundw
            case rel => exact ⟨j + 1, by omega, by go_num, below_drewN HBj.out _⟩
            case measure => simp [intOf]; omega
          · clear h1 HGA
            go_wp2_with fail
            go_quiet (fail)
            go_wp2_with fail
            go_roundw
            case rel => exact ⟨j + 1, by omega, by go_num, below_drewN HBj.out _⟩
            case measure => simp [intOf]; omega
        · have g1 := ba_ne hkk
          have g2 := ba_ne' hkk
          clear HGA
          go_wp2_with fail
          go_quiet (fail)
          go_wp2_with fail
          go_roundw
          case rel => exact ⟨j + 1, by omega, by go_num, below_drewN HBj.out _⟩
          case measure => simp [intOf]; omega
end Go.Proofs.Ytfidgnhinllhlaa
