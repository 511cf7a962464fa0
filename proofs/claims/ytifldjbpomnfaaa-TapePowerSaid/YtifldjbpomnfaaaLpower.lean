/- TapePower: with power for so many acts just so many are done; then the tape is off until a crash. -/
import Derived.Test.YtifldjbpomnfaaaTs
namespace Go.Proofs.Ytifldjbpomnfaaa
open Go.RowKit

theorem pow_write (b : ByteArray) (q : Int) (hb : b.size ≤ 100) (hq : 0 < q) : tWrite ⟨⟨#[]⟩, b, q, false⟩ ⟨#[120]⟩ = (⟨⟨#[]⟩, b ++ ⟨#[120]⟩, q - 1, false⟩, 0) := by
  have e1 : (⟨#[]⟩ : ByteArray).size = 0 := rfl
  have e2 : (⟨#[120]⟩ : ByteArray).size = 1 := rfl
  unfold tWrite Tp.spent
  simp only [Bool.false_eq_true, if_false]
  rw [if_neg (by rw [e1, e2]; omega), if_neg (by omega), if_pos hq]
theorem pow_sync (a b : ByteArray) (o : Bool) : tSync ⟨a, b, 0, o⟩ = (⟨a, b, 0, true⟩, 6) := by
  cases o <;> rfl
theorem pow_size (b : ByteArray) : (b ++ (⟨#[120]⟩ : ByteArray)).size = b.size + 1 := by rw [ByteArray.size_append]; rfl

theorem pow_crash (b : ByteArray) (o : Bool) (k : Nat) (h : b.size = k) : (tCrash ⟨⟨#[]⟩, b, 0, o⟩ (k : Int)).a.size = k := by
  show ((⟨#[]⟩ : ByteArray) ++ b.extract 0 (min (k : Int).toNat b.size)).size = k
  rw [ByteArray.size_append, ByteArray.size_extract]
  have e1 : (⟨#[]⟩ : ByteArray).size = 0 := rfl
  rw [e1]; omega

/-- The law's tape in block x. -/
def Pw (w : World) (x : Nat) (q : Int) (n : Nat) (wr : World) : Prop := ∃ (b : ByteArray) (o : Bool), b.size = n ∧ Tb wr x ⟨#[]⟩ b q o ∧ (q ≠ 0 → o = false) ∧ Below w.heap.size w wr

set_option maxHeartbeats 2000000 in
theorem law_TapePower (n m : Int) (w : World) : Calls Try.prog 8 #[.int .i64 n, .int .i64 m] w fun e w' => e = .returned (.bool true) ∧ Below w.heap.size w w' := by
  by_cases hin : 0 ≤ n ∧ n ≤ 100 ∧ 0 ≤ m ∧ m ≤ 100
  · obtain ⟨hn0, hn1, hm0, hm1⟩ := hin
    obtain ⟨N, rfl⟩ := Int.eq_ofNat_of_zero_le hn0
    clear hn0
    go_enter Try.func8, Try.ntmps8
    go_wp2_with fail
    refine (shown_any _).mono ?_
    rintro e w1 ⟨rfl, hb1⟩
    go_wp2_with fail
    refine (powered_any _ _ _ _ _ _).mono ?_
    rintro e w2 ⟨rfl, hb2⟩
    have e1 : (tPower ⟨⟨#[]⟩, ⟨#[]⟩, 0, false⟩ (N : Int)).p = (N : Int) := by show (if (N : Int) < 0 then (-1 : Int) else N) = N; exact if_neg (by omega)
    rw [e1]
    clear e1
    have hx : w.heap.size ≤ w2.heap.size := Nat.le_trans hb1.size hb2.size
    have B2 : Below w.heap.size w w2 := hb1.trans (hb2.mono hb1.size)
    clear hb1 hb2
    go_wp2_with fail
    go_loopw [7] (fun i wr => ∃ k : Nat, k ≤ N ∧ i = .int .i64 k ∧ Pw w w2.heap.size ((N : Int) - k) k wr) (fun i _ => N - (intOf i).toNat)
    case atStart => exact ⟨0, Nat.zero_le _, rfl, ⟨⟨#[]⟩, false, rfl, by simpa using Tb.new w2 _ rfl _ _ _ _ _, fun _ => rfl, B2.alloc hx _⟩⟩
    case round =>
      obtain ⟨k, hk, rfl, hP⟩ := hrel
      obtain ⟨b, o, hb, T, ho, B⟩ := hP
      by_cases hlt : k < N
      · obtain rfl : o = false := ho (by omega)
        have T0 := T
        obtain ⟨c0, c1, c2, c3, fz, hxr⟩ := T
        have HB := Lib.hid hb
        clear ho hb
        go_wp2_with fail
        refine (write_any _ _ _ _ _ _ (by omega) (by have := HB.out; have e1 : (⟨#[]⟩ : ByteArray).size = 0 := rfl; have e2 : (⟨#[120]⟩ : ByteArray).size = 1 := rfl; omega)).mono ?_
        rintro e w3 ⟨rfl, hb3⟩
        rw [pow_write b _ (by have := HB.out; omega) (by omega)]
        have T3 := T0.later hb3
        have B3 := B.trans (hb3.mono B.size)
        clear T0 B hb3 c0 c1 c2 c3 fz hxr
        obtain ⟨c0, c1, c2, c3, fz, hxr⟩ := T3
        have T3 : Tb w3 w2.heap.size ⟨#[]⟩ b ((N : Int) - k) false := ⟨c0, c1, c2, c3, fz, hxr⟩
        go_wp2_with fail
        go_roundw
        case rel =>
          have T4 := (T3.set ⟨#[]⟩ (b ++ ⟨#[120]⟩) ((N : Int) - k - 1) false).past (.cells #[.string ⟨#[]⟩, .string (b ++ ⟨#[120]⟩), .int .i64 ((N : Int) - k - 1), .bool false] 23)
          rw [show (N : Int) - k - 1 = (N : Int) - ((k + 1 : Nat) : Int) by omega] at T4
          refine ⟨k + 1, by omega, by go_num, ⟨b ++ ⟨#[120]⟩, false, by rw [pow_size, HB.out], ?_, fun _ => rfl, ?_⟩⟩
          · rw [show (N : Int) - k - 1 = (N : Int) - ((k + 1 : Nat) : Int) by omega]; exact T4
          · exact (set4_below B3 hx).alloc (by rw [set4_size]; exact B3.size) _
        case measure => simp [intOf]; omega
      · obtain rfl : k = N := by omega
        have T : Tb wr w2.heap.size ⟨#[]⟩ b 0 o := by rw [show (k : Int) - k = 0 by omega] at T; exact T
        clear ho
        have HB := Lib.hid hb
        clear hb
        go_wp2_with fail
        go_loopw [10] (fun i wr => ∃ j : Nat, (j : Int) ≤ m + 1 ∧ i = .int .i64 j ∧ Pw w w2.heap.size 0 k wr) (fun i _ => (m + 1).toNat - (intOf i).toNat)
        case atStart => exact ⟨0, by omega, rfl, ⟨b, o, HB.out, T, fun h => absurd rfl h, B⟩⟩
        case round =>
          clear B T
          clear HB
          obtain ⟨j, hj, rfl, hP⟩ := hrel
          obtain ⟨b, o, hb, T, ho, B⟩ := hP
          have T0 := T
          obtain ⟨c0, c1, c2, c3, fz, hxr⟩ := T
          have HB := Lib.hid hb
          clear ho hb
          by_cases hlt2 : (j : Int) ≤ m
          · go_wp2_with fail
            refine (sync_any _ _ _ _ _ (by omega) (by have := HB.out; have e1 : (⟨#[]⟩ : ByteArray).size = 0 := rfl; omega)).mono ?_
            rintro e w3 ⟨rfl, hb3⟩
            rw [pow_sync]
            have T3 := (T0.later hb3).past (.cells #[.string ⟨#[]⟩, .string b, .int .i64 0, .bool true] 23)
            have B3 := B.trans (hb3.mono B.size)
            clear T0 B hb3 c0 c1 c2 c3 fz hxr
            go_wp2_with fail
            refine (read_any _ _ _ _ _ (by have := HB.out; have e1 : (⟨#[]⟩ : ByteArray).size = 0 := rfl; omega)).mono ?_
            rintro e w4 ⟨rfl, hb4⟩
            have T4 := T3.later hb4
            have U4 := (Tb.new w3 _ rfl _ _ _ _ _).later hb4
            have B4 := (B3.alloc B3.size _).trans (hb4.mono (by simp; have := B3.size; omega))
            clear T3 B3 hb4
            simp only [tRead, if_true]
            obtain ⟨c0, c1, c2, c3, fz, hxr⟩ := T4
            obtain ⟨d0, d1, d2, d3, _, _⟩ := U4
            have T4 : Tb w4 w2.heap.size ⟨#[]⟩ b 0 o := ⟨c0, c1, c2, c3, fz, hxr⟩
            go_wp2_with fail
            go_roundw
            case rel => exact ⟨j + 1, by omega, by go_num, ⟨b, true, HB.out, T4.set ⟨#[]⟩ b 0 true, fun h => absurd rfl h, set4_below B4 hx⟩⟩
            case measure => simp [intOf]; omega
          · clear hj
            go_wp2_with fail
            refine (crash_any _ _ _ _ _ _ (by have := HB.out; have e1 : (⟨#[]⟩ : ByteArray).size = 0 := rfl; omega)).mono ?_
            rintro e w3 ⟨rfl, hb3⟩
            obtain ⟨A, hA⟩ : ∃ A, A = (tCrash ⟨⟨#[]⟩, b, 0, o⟩ (k : Int)).a := ⟨_, rfl⟩
            have hAs : A.size = k := by rw [hA]; exact pow_crash b o k HB.out
            rw [← hA]
            have hA1 : (A ++ ByteArray.empty).size = k := by rw [ByteArray.size_append, hAs]; rfl
            have HA := Lib.hid hAs
            have HA1 := Lib.hid hA1
            have T3 := (T0.later hb3).set A ByteArray.empty (-1) false
            have T2 := T0.later hb3
            have B3 := B.trans (hb3.mono B.size)
            clear hA hAs hA1 T0 B hb3 c0 c1 c2 c3 fz hxr
            obtain ⟨c0, c1, c2, c3, fz, hxr⟩ := T2
            go_wp2_with fail
            refine (read_any _ _ _ _ _ (by have := HA.out; have e1 : ByteArray.empty.size = 0 := rfl; omega)).mono ?_
            rintro e w4 ⟨rfl, hb4⟩
            have B4 := (set4_below B3 hx).trans (hb4.mono (by rw [← set4, set4_size]; exact B3.size))
            clear hb4 c0 c1 c2 c3 fz hxr
            have er : tRead ⟨A, ByteArray.empty, -1, false⟩ = (A ++ ByteArray.empty, 0) := rfl
            rw [er]
            clear er
            generalize A ++ ByteArray.empty = R at *
            have hR : ((R.size : Int) == (k : Int)) = true := by rw [HA1.out]; simp
            go_wp2_with fail
            go_ret
            exact ⟨rfl, B4⟩
  · go_enter Try.func8, Try.ntmps8
    go_wp2_with fail
    refine (shown_any _).mono ?_
    rintro e w1 ⟨rfl, hb1⟩
    go_wp2_with fail
    all_goals first | (go_ret; exact ⟨rfl, hb1⟩) | (exfalso; omega)
end Go.Proofs.Ytifldjbpomnfaaa
