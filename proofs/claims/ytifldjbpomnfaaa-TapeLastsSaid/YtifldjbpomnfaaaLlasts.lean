/- TapeLasts: whatever is done, what was synced or installed last is there behind it, whatever crashes come; and a beginning of what was written since. -/
import Derived.Test.YtifldjbpomnfaaaTs
namespace Go.Proofs.Ytifldjbpomnfaaa
open Go.RowKit

/-- One act as the law's argument has it. -/
structure Ac where
  k : Int
  s : ByteArray
  n : Int
/-- The acts in memory. -/
def AcRow (W : World) (a : Option Addr) (len : Nat) (L : List Ac) : Prop :=
  L.length = len ∧ len ≤ 140737488351232 ∧ ∀ i x, L[i]? = some x → x.s.size ≤ 140737488351232 ∧ x.n ≤ 9223372036854775807 ∧ ∃ b off, a = some ⟨b, off, none⟩ ∧ b < W.heap.size ∧
    W.cell? ⟨b, off + i * 3, none⟩ = some (.int .i64 x.k) ∧ W.cell? ⟨b, off + i * 3 + 1, none⟩ = some (.string x.s) ∧ W.cell? ⟨b, off + i * 3 + 2, none⟩ = some (.int .i64 x.n)
def top : Int := 9223372036854775807
theorem left_le {p : Int} (h : p ≤ top) : left p ≤ top := by unfold left; split <;> omega
theorem w_cases (a b s : ByteArray) (p : Int) (o : Bool) (h : p ≤ top) :
    (∃ P, P ≤ top ∧ a.size + b.size + s.size ≤ 262144 ∧ tWrite ⟨a, b, p, o⟩ s = (⟨a, b ++ s, P, false⟩, 0)) ∨ ∃ P O E, P ≤ top ∧ E ≠ 0 ∧ tWrite ⟨a, b, p, o⟩ s = (⟨a, b, P, O⟩, E) := by
  unfold tWrite
  cases o with
  | true => exact .inr ⟨p, true, 6, h, by decide, rfl⟩
  | false =>
    by_cases h1 : 262144 < a.size + b.size + s.size
    · exact .inr ⟨p, false, 5, h, by decide, by simp only [if_pos h1]; rfl⟩
    · by_cases h2 : p = 0
      · exact .inr ⟨p, true, 6, h, by decide, by simp only [if_neg h1, if_pos h2]; rfl⟩
      · exact .inl ⟨left p, left_le h, by omega, by simp only [if_neg h1, if_neg h2]; rfl⟩
theorem s_cases (a b : ByteArray) (p : Int) (o : Bool) (h : p ≤ top) :
    (∃ P, P ≤ top ∧ tSync ⟨a, b, p, o⟩ = (⟨a ++ b, ByteArray.empty, P, false⟩, 0)) ∨ ∃ P O E, P ≤ top ∧ E ≠ 0 ∧ tSync ⟨a, b, p, o⟩ = (⟨a, b, P, O⟩, E) := by
  unfold tSync
  cases o with
  | true => exact .inr ⟨p, true, 6, h, by decide, rfl⟩
  | false =>
    by_cases h2 : p = 0
    · exact .inr ⟨p, true, 6, h, by decide, by simp only [if_pos h2]; rfl⟩
    · exact .inl ⟨left p, left_le h, by simp only [if_neg h2]; rfl⟩
theorem i_cases (a b s : ByteArray) (p : Int) (o : Bool) (h : p ≤ top) :
    (∃ P, P ≤ top ∧ s.size ≤ 262144 ∧ tInstall ⟨a, b, p, o⟩ s = (⟨s, ByteArray.empty, P, false⟩, 0)) ∨ ∃ P O E, P ≤ top ∧ E ≠ 0 ∧ tInstall ⟨a, b, p, o⟩ s = (⟨a, b, P, O⟩, E) := by
  unfold tInstall
  cases o with
  | true => exact .inr ⟨p, true, 6, h, by decide, rfl⟩
  | false =>
    by_cases h1 : 262144 < s.size
    · exact .inr ⟨p, false, 5, h, by decide, by simp only [if_pos h1]; rfl⟩
    · by_cases h2 : p = 0
      · exact .inr ⟨p, true, 6, h, by decide, by simp only [if_neg h1, if_pos h2]; rfl⟩
      · exact .inl ⟨left p, left_le h, by omega, by simp only [if_neg h1, if_neg h2]; rfl⟩

theorem app_nil (a : ByteArray) : a ++ ByteArray.empty = a := ByteArray.ext (by simp)
theorem ext_app (a b : ByteArray) (m : Nat) : (a ++ b).extract 0 (a.size + m) = a ++ b.extract 0 m := by
  apply ba
  have e : a.size = a.data.toList.length := by simp
  simp only [ByteArray.data_extract, ByteArray.data_append, Array.toList_extract, Array.toList_append, List.extract_eq_take_drop, List.drop_zero, Nat.sub_zero]
  rw [e, List.take_length_add_append]
theorem ext_left (a b : ByteArray) : (a ++ b).extract 0 a.size = a := by
  apply ba
  have e : a.size = a.data.toList.length := by simp
  simp only [ByteArray.data_extract, ByteArray.data_append, Array.toList_extract, Array.toList_append, List.extract_eq_take_drop, List.drop_zero, Nat.sub_zero]
  rw [e, List.take_left]
theorem c_facts (a b : ByteArray) (p n : Int) (o : Bool) (R : ByteArray) (hR : R = (tCrash ⟨a, b, p, o⟩ n).a) : a.size ≤ R.size ∧ R.size ≤ a.size + b.size ∧ (a ++ b).extract 0 R.size = R ∧ R.extract 0 a.size = a := by
  have hR : R = a ++ b.extract 0 (min n.toNat b.size) := hR
  obtain ⟨m, hm⟩ : ∃ m, m = min n.toNat b.size := ⟨_, rfl⟩
  rw [← hm] at hR
  have hmb : m ≤ b.size := by omega
  have hs : R.size = a.size + m := by rw [hR, ByteArray.size_append, ByteArray.size_extract]; omega
  refine ⟨by omega, by omega, ?_, ?_⟩
  · rw [hs, ext_app, hR]
  · rw [hR, ext_left]

/-- What is kept from round to round: what is sure is the tape's safe bytes, what was written is all that is on it. -/
def Lr (w : World) (x : Nat) (S A : Value) (wr : World) : Prop :=
  ∃ (a b : ByteArray) (p : Int) (o : Bool), S = .string a ∧ A = .string (a ++ b) ∧ a.size + b.size ≤ 262144 ∧ p ≤ top ∧ Tb wr x a b p o ∧ Below w.heap.size w wr

set_option maxRecDepth 100000 in
set_option maxHeartbeats 4000000 in
theorem law_TapeLasts (a0 : Option Addr) (len cap : Nat) (L : List Ac) (w : World) (hrow : AcRow w a0 len L) : Calls Try.prog 7 #[.slice a0 len cap] w fun e w' => e = .returned (.bool true) ∧ Below w.heap.size w w' := by
  have hl1 := hrow.2.1
  go_enter Try.func7, Try.ntmps7
  go_wp2_with fail
  refine (shown_any _).mono ?_
  rintro e w1 ⟨rfl, hb1⟩
  go_wp2_with fail
  go_loopw [5, 6, 7] (fun S A i wr => ∃ k : Nat, k ≤ len ∧ i = .int .i64 k ∧ Lr w w1.heap.size S A wr) (fun _ _ i _ => len - (intOf i).toNat)
  case atStart => exact ⟨0, Nat.zero_le _, rfl, ⟨#[]⟩, ⟨#[]⟩, -1, false, rfl, by rw [show (⟨#[]⟩ : ByteArray) ++ ⟨#[]⟩ = ⟨#[]⟩ from rfl], by decide, by decide, Tb.new w1 _ rfl _ _ _ _ _, hb1.alloc hb1.size _⟩
  case round =>
    obtain ⟨k, hk, rfl, a, b, p, o, rfl, rfl, hab, hp, T, B⟩ := hrel
    have hx : w.heap.size ≤ w1.heap.size := hb1.size
    by_cases hlt : k < len
    · have hks : k < L.length := by have := hrow.1; omega
      obtain ⟨x, hxk⟩ : ∃ x, L[k]? = some x := ⟨_, List.getElem?_eq_getElem hks⟩
      obtain ⟨hsz, hn, bb, off, rfl, hbb, g0, g1, g2⟩ := hrow.2.2 k x hxk
      obtain ⟨K, s, n⟩ := x
      have G0 : wr.cell? ⟨bb, off + k * 3, none⟩ = some (.int .i64 K) := (B.cell (p := ⟨bb, off + k * 3, none⟩) hbb).trans g0
      have G1 : wr.cell? ⟨bb, off + k * 3 + 1, none⟩ = some (.string s) := (B.cell (p := ⟨bb, off + k * 3 + 1, none⟩) hbb).trans g1
      have G2 : wr.cell? ⟨bb, off + k * 3 + 2, none⟩ = some (.int .i64 n) := (B.cell (p := ⟨bb, off + k * 3 + 2, none⟩) hbb).trans g2
      clear g0 g1 g2 hks
      have HX := Lib.hid hxk; clear hxk
      have HP : Hid (p ≤ top) := Lib.hid hp
      simp only at hsz hn
      have T0 := T
      obtain ⟨c0, c1, c2, c3, fz, hxr⟩ := T
      have hE0 : ByteArray.empty.size = 0 := rfl
      have hne : wr.heap.size ≠ w1.heap.size := by omega
      by_cases h1 : K = 1
      · subst h1
        go_wp2_with fail
        refine (write_any _ _ _ _ _ _ hp (by omega)).mono ?_
        rintro e w2 ⟨rfl, hb2⟩
        have D1 : w2.cell? ⟨wr.heap.size, 1, none⟩ = some (.string s) := (hb2.cell (p := ⟨wr.heap.size, 1, none⟩) (by simp)).trans (by simp)
        have T2 := (T0.past _).later hb2
        have B2 := (B.alloc B.size _).trans (hb2.mono (by simp; have := B.size; omega))
        clear T0 B hb2 c0 c1 c2 c3 fz hxr G0 G1 G2
        have T3 := T2
        obtain ⟨c0, c1, c2, c3, fz, hxr⟩ := T2
        rcases w_cases a b s p o hp with ⟨P, hPt, hsz2, hr⟩ | ⟨P, O, E, hPt, hE, hr⟩
        · rw [hr]; clear hr
          have hcc : ¬ 9223372036854775807 < a.size + b.size + s.size := by omega
          go_wp2_with fail
          go_roundw
          case rel => exact ⟨k + 1, by omega, by go_num, ⟨a, b ++ s, P, false, rfl, by rw [ByteArray.append_assoc], by rw [ByteArray.size_append]; omega, hPt, T3.set (a) (b ++ s) P false, set4_below B2 hx⟩⟩
          case measure => simp [intOf]; omega
        · rw [hr]; clear hr
          have hE2 : (E == 0) = false := by simpa using hE
          go_wp2_with fail
          go_roundw
          case rel => exact ⟨k + 1, by omega, by go_num, ⟨a, b, P, O, rfl, rfl, hab, hPt, T3.set a b P O, set4_below B2 hx⟩⟩
          case measure => simp [intOf]; omega
      by_cases h2 : K = 2
      · subst h2
        clear h1
        go_wp2_with fail
        refine (sync_any _ _ _ _ _ hp (by omega)).mono ?_
        rintro e w2 ⟨rfl, hb2⟩
        have T2 := (T0.past _).later hb2
        have B2 := (B.alloc B.size _).trans (hb2.mono (by simp; have := B.size; omega))
        clear T0 B hb2 c0 c1 c2 c3 fz hxr G0 G1 G2
        have T3 := T2
        obtain ⟨c0, c1, c2, c3, fz, hxr⟩ := T2
        rcases s_cases a b p o hp with ⟨P, hPt, hr⟩ | ⟨P, O, E, hPt, hE, hr⟩
        · rw [hr]; clear hr
          go_wp2_with fail
          go_roundw
          case rel => exact ⟨k + 1, by omega, by go_num, ⟨a ++ b, ByteArray.empty, P, false, rfl, by rw [app_nil], by rw [ByteArray.size_append]; omega, hPt, T3.set (a ++ b) (ByteArray.empty) P false, set4_below B2 hx⟩⟩
          case measure => simp [intOf]; omega
        · rw [hr]; clear hr
          have hE2 : (E == 0) = false := by simpa using hE
          go_wp2_with fail
          go_roundw
          case rel => exact ⟨k + 1, by omega, by go_num, ⟨a, b, P, O, rfl, rfl, hab, hPt, T3.set a b P O, set4_below B2 hx⟩⟩
          case measure => simp [intOf]; omega
      by_cases h3 : K = 3
      · subst h3
        clear h1 h2
        go_wp2_with fail
        refine (install_any _ _ _ _ _ _ hp (by omega)).mono ?_
        rintro e w2 ⟨rfl, hb2⟩
        have D1 : w2.cell? ⟨wr.heap.size, 1, none⟩ = some (.string s) := (hb2.cell (p := ⟨wr.heap.size, 1, none⟩) (by simp)).trans (by simp)
        have T2 := (T0.past _).later hb2
        have B2 := (B.alloc B.size _).trans (hb2.mono (by simp; have := B.size; omega))
        clear T0 B hb2 c0 c1 c2 c3 fz hxr G0 G1 G2
        have T3 := T2
        obtain ⟨c0, c1, c2, c3, fz, hxr⟩ := T2
        rcases i_cases a b s p o hp with ⟨P, hPt, hsz2, hr⟩ | ⟨P, O, E, hPt, hE, hr⟩
        · rw [hr]; clear hr
          go_wp2_with fail
          go_roundw
          case rel => exact ⟨k + 1, by omega, by go_num, ⟨s, ByteArray.empty, P, false, rfl, by rw [app_nil], by omega, hPt, T3.set (s) (ByteArray.empty) P false, set4_below B2 hx⟩⟩
          case measure => simp [intOf]; omega
        · rw [hr]; clear hr
          have hE2 : (E == 0) = false := by simpa using hE
          go_wp2_with fail
          go_roundw
          case rel => exact ⟨k + 1, by omega, by go_num, ⟨a, b, P, O, rfl, rfl, hab, hPt, T3.set a b P O, set4_below B2 hx⟩⟩
          case measure => simp [intOf]; omega
      by_cases h4 : K = 4
      · subst h4
        clear h1 h2 h3
        go_wp2_with fail
        refine (crash_any _ _ _ _ _ _ (by omega)).mono ?_
        rintro e w2 ⟨rfl, hb2⟩
        have T2 := (T0.past _).later hb2
        have B2 := (B.alloc B.size _).trans (hb2.mono (by simp; have := B.size; omega))
        clear T0 B hb2 c0 c1 c2 c3 fz hxr G0 G1 G2
        obtain ⟨R, hR⟩ : ∃ R, R = (tCrash ⟨a, b, p, o⟩ n).a := ⟨_, rfl⟩
        obtain ⟨k1, k2, k3, k4⟩ := c_facts a b p n o R hR
        rw [← hR]
        clear hR
        have T3 := T2.set R ByteArray.empty (-1) false
        obtain ⟨c0, c1, c2, c3, fz, hxr⟩ := T2
        have H3 := Lib.hid k3
        have H4 := Lib.hid k4
        clear k3 k4
        go_wp2_with fail
        refine (read_any _ _ _ _ _ (by omega)).mono ?_
        rintro e w3 ⟨rfl, hb3⟩
        have B3 := (set4_below B2 hx).trans (hb3.mono (by rw [← set4, set4_size]; exact B2.size))
        have T4 := T3.later hb3
        clear hb3 c0 c1 c2 c3 fz hxr B2 T3
        have er : tRead ⟨R, ByteArray.empty, -1, false⟩ = (R, 0) := by unfold tRead; simp only [Bool.false_eq_true, if_false]; rw [app_nil]
        rw [er]
        clear er
        have e3 := H3.out
        have e4 := H4.out
        have q1 : ((R.size : Int) < (a.size : Int)) = False := by simp; omega
        have hABs : (a ++ b).size = a.size + b.size := ByteArray.size_append
        have q2 : (((a ++ b).size : Int) < (R.size : Int)) = False := by rw [hABs]; simp; omega
        have i1 : (0 : Int) ≤ (R.size : Int) := by omega
        have i2 : (R.size : Int) ≤ ((a ++ b).size : Int) := by rw [hABs]; omega
        have i3 : (0 : Int) ≤ (a.size : Int) := by omega
        have i4 : (a.size : Int) ≤ (R.size : Int) := by omega
        clear hABs
        generalize hAB : a ++ b = AB at *
        clear hAB
        go_wp2_with fail
        go_roundw
        case rel => exact ⟨k + 1, by omega, by go_num, ⟨R, ByteArray.empty, -1, false, rfl, by rw [app_nil], by omega, by decide, T4, B3⟩⟩
        case measure => simp [intOf]; omega
      by_cases h5 : K = 5
      · subst h5
        clear h1 h2 h3 h4
        go_wp2_with fail
        refine (powered_any _ _ _ _ _ _).mono ?_
        rintro e w2 ⟨rfl, hb2⟩
        have T2 := (T0.past _).later hb2
        have B2 := (B.alloc B.size _).trans (hb2.mono (by simp; have := B.size; omega))
        clear T0 B hb2 c0 c1 c2 c3 fz hxr G0 G1 G2
        have hpw : (tPower ⟨a, b, p, o⟩ n).p ≤ top := by show (if n < 0 then (-1 : Int) else n) ≤ top; unfold top; split <;> omega
        generalize (tPower ⟨a, b, p, o⟩ n).p = P at *
        have T3 := T2.set a b P o
        obtain ⟨c0, c1, c2, c3, fz, hxr⟩ := T2
        go_wp2_with fail
        go_roundw
        case rel => exact ⟨k + 1, by omega, by go_num, ⟨a, b, P, o, rfl, rfl, hab, hpw, T3, set4_below B2 hx⟩⟩
        case measure => simp [intOf]; omega
      · have f1 : (K == 1) = false := by simpa using h1
        have f2 : (K == 2) = false := by simpa using h2
        have f3 : (K == 3) = false := by simpa using h3
        have f4 : (K == 4) = false := by simpa using h4
        have f5 : (K == 5) = false := by simpa using h5
        clear h1 h2 h3 h4 h5
        go_wp2_with fail
        go_roundw
        case rel => exact ⟨k + 1, by omega, by go_num, ⟨a, b, p, o, rfl, rfl, hab, hp, T0.past _, B.alloc B.size _⟩⟩
        case measure => simp [intOf]; omega
    · go_wp2_with fail
      go_ret
      exact ⟨rfl, B⟩
end Go.Proofs.Ytifldjbpomnfaaa
