/- pack.Num: a number's bytes, for every number of 64 bits. -/
import Derived.Test.YtdcpiaoadbbdoaaGreatDoorRb
import Derived.Test.YtdcpiaoadbbdoaaGreatDoorPlay
import Derived.Lib.Hide
import Derived.Test.YtdcpiaoadbbdoaaGreatDoorJd
import Derived.Test.YtdcpiaoadbbdoaaGreatDoorQh
import Derived.Test.YtdcpiaoadbbdoaaGreatDoorQz
import Derived.Test.YtdcpiaoadbbdoaaGreatDoorJe
import Derived.Test.YtdcpiaoadbbdoaaGreatDoorRtake
import Derived.Test.YtdcpiaoadbbdoaaGreatDoorLj
import Derived.Test.YtdcpiaoadbbdoaaGreatDoorQmy
set_option maxRecDepth 100000
set_option maxHeartbeats 16000000
namespace Go.Proofs.YtdcpiaoadbbdoaaGreatDoor
open Go.RowKit

theorem num_s (s : Nat) (Z : List Value) (hZ : Hid (Z.length = s)) (hs0 : ((s : Int) == 0) = false)
 (hmk : ∀ w, (Instr.makeSlice 174 (.int .i64 s) (.int .i64 s)).run Tryz.prog w = .ok (.slice (some ⟨w.heap.size, 0, none⟩) s s) (w.alloc (.cells Z.toArray 5)))
 (v : Int) (hs : Hid (szOf v = s)) (w : World) (h0 : 0 ≤ v) (h1 : v < 4611686018427387904) (hT : Tz w) :
 Calls Tryz.prog 142 #[.int .u64 v] w fun e w' => e = .returned (.tuple #[.string ⟨(numB v.toNat).toArray⟩, .int .i64 0]) ∧ Below w.heap.size w w' := by
 have hl : Hid ((numB v.toNat).length = s) := by have := numB_len v h0 h1; have e := hs.out; show _ = _; omega
 go_enter Tryz.func142, Tryz.ntmps142
 go_wp2_with (first | (go_at_call 130; refine (size_any _ _ h0).mono ?_; rintro e w' ⟨rfl, rfl⟩; rw [hs.out]))
 refine (lay_any v _ h0 h1 w.heap.size 0 s s Z (by rw [hl.out]; exact Nat.le_refl _) (by rw [hl.out, hZ.out]; omega) (heap_alloc_new _ _) (hT.below ((Below.refl _ _).alloc hT.n _))).mono ?_
 rintro e w1 ⟨rfl, hg, hb1⟩
 have hf : splice Z 0 ((numB v.toNat).map u8v) = (numB v.toNat).map u8v := by
  unfold splice
  rw [List.take_zero, List.nil_append, List.drop_eq_nil_of_le (by rw [hZ.out, List.length_map, hl.out]; omega), List.append_nil]
 rw [hf] at hb1
 have hconv : (convert 174 9 (.slice (some ⟨w.heap.size, 0, none⟩) s s)).run Tryz.prog w1 = .ok (.string ⟨(numB v.toNat).toArray⟩) w1 := by
  have := run_convert_bytes_back (P := Tryz.prog) w1 174 9 5 ⟨w.heap.size, 0, none⟩ s (numB v.toNat) Tryz.underlying174 Tryz.underlying5 Tryz.underlying9 (fun j hj => by
   rw [addHead, cell_of_row w1 _ j _ _ _ hb1]
   simp [u8v, hj])
  rw [hl.out] at this; exact this
 have HB := hI_ ((Below.refl w.heap.size w).alloc (Nat.le_refl _) (.cells Z.toArray 5) |>.grown hg (by simp) (fun k hk => by cases hk; exact Nat.le_refl _))
 clear hf hb1 hg
 go_wp2_with fail
 go_ret2
 exact ⟨rfl, HB.out⟩
theorem mk1 (w : World) : (Instr.makeSlice 174 (.int .i64 1) (.int .i64 1)).run Tryz.prog w = .ok (.slice (some ⟨w.heap.size, 0, none⟩) 1 1) (w.alloc (.cells [.int .u8 0].toArray 5)) := by kernel_rfl
theorem mk2 (w : World) : (Instr.makeSlice 174 (.int .i64 2) (.int .i64 2)).run Tryz.prog w = .ok (.slice (some ⟨w.heap.size, 0, none⟩) 2 2) (w.alloc (.cells [.int .u8 0, .int .u8 0].toArray 5)) := by kernel_rfl
theorem mk4 (w : World) : (Instr.makeSlice 174 (.int .i64 4) (.int .i64 4)).run Tryz.prog w = .ok (.slice (some ⟨w.heap.size, 0, none⟩) 4 4) (w.alloc (.cells [.int .u8 0, .int .u8 0, .int .u8 0, .int .u8 0].toArray 5)) := by kernel_rfl
theorem mk8 (w : World) : (Instr.makeSlice 174 (.int .i64 8) (.int .i64 8)).run Tryz.prog w = .ok (.slice (some ⟨w.heap.size, 0, none⟩) 8 8) (w.alloc (.cells [.int .u8 0, .int .u8 0, .int .u8 0, .int .u8 0, .int .u8 0, .int .u8 0, .int .u8 0, .int .u8 0].toArray 5)) := by kernel_rfl
theorem num_any (v : Int) (w : World) (h0 : 0 ≤ v) (h1 : v < 4611686018427387904) (hT : Tz w) :
 Calls Tryz.prog 142 #[.int .u64 v] w fun e w' => e = .returned (.tuple #[.string ⟨(numB v.toNat).toArray⟩, .int .i64 0]) ∧ Below w.heap.size w w' := by
 by_cases a : v < 64
 · exact num_s 1 _ (hI_ rfl) rfl mk1 v (hI_ (szOf1 a)) w h0 h1 hT
 by_cases b : v < 16384
 · exact num_s 2 _ (hI_ rfl) rfl mk2 v (hI_ (szOf2 (by omega) b)) w h0 h1 hT
 by_cases c : v < 1073741824
 · exact num_s 4 _ (hI_ rfl) rfl mk4 v (hI_ (szOf4 (by omega) c)) w h0 h1 hT
 · exact num_s 8 _ (hI_ rfl) rfl mk8 v (hI_ (szOf8 (by omega) h1)) w h0 h1 hT

theorem sz_arr (L : List UInt8) : (ByteArray.mk L.toArray).size = L.length := by simp [ByteArray.size]
theorem pText_any (L : List UInt8) (hL : L.length ≤ 4096) (w : World) (hT : Tz w) :
 Calls Tryz.prog 97 #[.string ⟨L.toArray⟩] w fun e w' => e = .returned (.tuple #[.string ⟨(numB L.length ++ L).toArray⟩, .int .i64 0]) ∧ Below w.heap.size w w' := by
 have hsz := sz_arr L
 obtain ⟨s, hs⟩ : ∃ s, (⟨L.toArray⟩ : ByteArray) = s := ⟨_, rfl⟩
 have HS := hI_ hs
 rw [hs] at hsz ⊢
 have hN := numB_le L.length
 have hsn := sz_arr (numB L.length)
 have g1 : ¬ (4096 : Int) < (s.size : Int) := by omega
 have w1 : IntKind.u64.wrap (s.size : Int) = (s.size : Int) := IntWalk.u64_in _ (by omega)
 have hcc : ¬ 9223372036854775807 < (numB L.length).length + s.size := by omega
 have HNU := hI_ (show ∀ w1, Tz w1 → Calls Tryz.prog 142 #[.int .u64 (s.size : Int)] w1 fun e w' => e = .returned (.tuple #[.string ⟨(numB L.length).toArray⟩, .int .i64 0]) ∧ Below w1.heap.size w1 w' from fun w1 h1 => by
  have h := num_any (s.size : Int) w1 (by omega) (by omega) h1
  rw [show ((s.size : Int)).toNat = L.length by omega] at h; exact h)
 clear hs hsz hsn hN
 go_enter Tryz.func97, Tryz.ntmps97
 go_wp2_with fail
 refine (HNU.out _ hT).mono ?_
 rintro e w1 ⟨rfl, hb1⟩
 go_wp2_with fail
 go_ret2
 exact ⟨retStrI (by rw [← HS.out, mk_app]), hb1⟩
theorem pSnapshot_any (c : Cf) (s1 s2 : Sa) (hm : mayB c.V c.L = true) (app : ByteArray) (ha : app.size ≤ 140737488351232) (w : World) (hV : Us w s1.a c.V) (hU : Us w s2.a c.L) (hT : Tz w) :
 Calls Tryz.prog 48 #[.agg #[.slice s1.a c.V.length s1.c, .slice s2.a c.L.length s2.c], .string app] w fun e w' => e = .returned (.string (snapD c app)) ∧ Below w.heap.size w w' := by
 obtain ⟨W, x, hW, hx, B0, HC, Z0⟩ := bk_new w #[.slice s1.a c.V.length s1.c, .slice s2.a c.L.length s2.c] 25
 have HB : Below w.heap.size w W := hx ▸ B0
 have HV := hV.later HB
 have HU := hU.later HB
 have HT := hT.below (HB.mono hT.n)
 have hcl := (may_small hm).1
 have hby : (byG c.V c.L).length ≤ 96 := by
  unfold byG; rw [if_pos hm, List.length_append]
  exact nums_room (may_small hm)
 obtain ⟨S, hS⟩ : ∃ S, byG c.V c.L = S := ⟨_, rfl⟩
 have HBY := hI_ (show ∀ w1, Us w1 s1.a c.V → Us w1 s2.a c.L → Tz w1 → Calls Tryz.prog 27 #[.agg #[.slice s1.a c.V.length s1.c, .slice s2.a c.L.length s2.c]] w1 fun e w' => e = .returned (.tuple #[.string ⟨S.toArray⟩, .int .i64 0]) ∧ Below w1.heap.size w1 w' from fun w1 h1 h2 h3 => by
  have h := pBytes_any c.V.length s1.c c.L.length s2.c s1.a s2.a c.V c.L rfl (by omega) rfl (by omega) w1 h1 h2 h3
  rw [hS, show erG c.V c.L = 0 by unfold erG; rw [if_pos hm]] at h
  exact h)
 have HD := hI_ (show snapD c app = ⟨(numB S.length ++ S).toArray⟩ ++ app by unfold snapD; rw [hS])
 rw [hS] at hby
 have hnb := numB_le S.length
 have hzz := sz_arr (numB S.length ++ S)
 rw [List.length_append] at hzz
 have HTX := hI_ (show ∀ w1, Tz w1 → Calls Tryz.prog 97 #[.string ⟨S.toArray⟩] w1 fun e w' => e = .returned (.tuple #[.string ⟨(numB S.length ++ S).toArray⟩, .int .i64 0]) ∧ Below w1.heap.size w1 w' from fun w1 h1 => pText_any S (by omega) w1 h1)
 obtain ⟨s1', hs1⟩ : ∃ s, (⟨(numB S.length ++ S).toArray⟩ : ByteArray) = s := ⟨_, rfl⟩
 obtain ⟨s0', hs0⟩ : ∃ s, (⟨S.toArray⟩ : ByteArray) = s := ⟨_, rfl⟩
 rw [hs1] at HTX HD hzz
 rw [hs0] at HTX HBY
 have hcc : ¬ 9223372036854775807 < s1'.size + app.size := by omega
 clear hS hm hs1 hs0
 have HTN := hI_ HT.n
 go_enter Tryz.func48, Tryz.ntmps48
 go_wp2_with (first
  | (refine lBk rfl _ rfl rfl confT (by assumption) rfl ?_))
 refine (HBY.out _ HV HU HT).mono ?_
 rintro e w2 ⟨rfl, hb⟩
 replace HB := HB.trans (hb.mono HB.size)
 replace HT := HT.below (hb.mono HT.n)
 clear hb HV HU HC
 go_wp2_with fail
 refine (HTX.out _ HT).mono ?_
 rintro e w3 ⟨rfl, hb⟩
 replace HB := HB.trans (hb.mono HB.size)
 clear hb
 go_wp2_with fail
 go_ret
 exact ⟨by rw [HD.out]; rfl, HB⟩

theorem rTake_any (s : List UInt8) (hs : s.length ≤ 140737488351232) (w : World) : Calls Tryz.prog 87 #[.string ⟨s.toArray⟩] w (NxF w (tkG s)) := by
 obtain ⟨V, q, x1, hx1⟩ : ∃ V q x1, tkNums 7 s = (V, q, x1) := ⟨_, _, _, rfl⟩
 obtain ⟨L, q2, x2, hx2⟩ : ∃ V q1 x1, tkNums 3 q = (V, q1, x1) := ⟨_, _, _, rfl⟩
 obtain ⟨mb, hmb⟩ : ∃ mb, mayB V L = mb := ⟨_, rfl⟩
 obtain ⟨r, hr⟩ : ∃ r, tkG s = r := ⟨_, rfl⟩
 have HR := hI_ (show (if x1 ≠ 0 then (([], []), 3) else if x2 ≠ 0 ∨ q2 ≠ [] ∨ mb = false then (([], []), 3) else ((V, L), 0)) = r by rw [← hr]; unfold tkG; rw [hx1]; simp only; rw [hx2]; simp only; rw [hmb])
 rw [hr]
 have HVL := hI_ (show V.length ≤ 7 by have h := nums_len 7 s; rw [show tkNums ((7 : Nat) : Int) s = (V, q, x1) from hx1] at h; exact h)
 have HLL := hI_ (show L.length ≤ 3 by have h := nums_len 3 q; rw [show tkNums ((3 : Nat) : Int) q = (L, q2, x2) from hx2] at h; exact h)
 have HQL := hI_ (show q.length ≤ 140737488351232 by have h := nums_less 7 s; rw [show tkNums ((7 : Nat) : Int) s = (V, q, x1) from hx1] at h; simp only at h; omega)
 have H1 := hI_ hx1
 have H2 := hI_ hx2
 have HMB := hI_ hmb
 have HB := hI_ ((Below.refl w.heap.size w).alloc (Nat.le_refl _) (.cells #[.slice none 0 0, .slice none 0 0] 25))
 have HD := hI_ (Cb.new (w := w) rfl (.slice none 0 0) (.slice none 0 0) 25)
 clear hx1 hx2 hmb hr
 go_enter Tryz.func87, Tryz.ntmps87
 go_wp2_with fail
 refine (refTakeNums_any 7 s (by omega) hs _).mono ?_
 intro e w1 h1
 obtain ⟨a, n, c, rfl, hn, hV, hf, hb1⟩ := each_use h1 H1.out
 have HN := hI_ hn
 have HB1 := hI_ (HB.out.trans (hb1.mono HB.out.size))
 have HD1 := hI_ (HD.out.later hb1)
 have HV := hI_ hV
 have HF := hI_ (show 0 < n → ∀ q, a = some q → w.heap.size + 1 ≤ q.block from fun h q e => by have := hf h q e; simpa using this)
 clear h1 hn hV hf hb1 HB HD
 obtain ⟨d0, d1, dz, dl⟩ := HD1.out
 by_cases he : x1 = 0
 case neg =>
  have HT := hI_ (show r = (([], []), 3) by rw [← HR.out, if_pos he])
  have g : ((x1 : Int) == 0) = false := by simp; omega
  clear he
  go_wp2_with fail
  refine bodyPost_ret (v := .tuple #[.agg #[.slice none 0 0, .slice none 0 0], .int .i64 3]) (by simp [results, Tryz.results87, go_sem, d0, d1]) rfl ?_
  exact nx_no HT.out (one_below HB1.out _ _)
 subst he
 clear d0 d1 dz dl
 go_wp2_with fail
 refine (refTakeNums_any 3 q (by omega) HQL.out _).mono ?_
 intro e w2 h2
 obtain ⟨a2, n2, c2, rfl, hn2, hU, hf2, hb2⟩ := each_use h2 H2.out
 have HN2 := hI_ hn2
 have HB2 := hI_ (HB1.out.trans (hb2.mono HB1.out.size))
 have HD2 := hI_ (HD1.out.later hb2)
 have HV2 := hI_ (HV.out.later hb2)
 have HU2 := hI_ hU
 have HF2 := hI_ (show 0 < n2 → ∀ q, a2 = some q → w.heap.size + 1 ≤ q.block from fun h q e => by have := hf2 h q e; have := HD1.out.lt; omega)
 clear h2 hn2 hU hf2 hb2 HB1 HD1 HV
 have HC := hI_ (Cb.new (w := w2) rfl (.slice a n c) (.slice a2 n2 c2) 25)
 have HX := hI_ ((Below.refl w2.heap.size w2).alloc (Nat.le_refl _) (.cells #[.slice a n c, .slice a2 n2 c2] 25))
 have HB3 := hI_ (HB2.out.trans (HX.out.mono HB2.out.size))
 go_upto_region 6 with (fail)
 generalize hW : w2.alloc (.cells #[.slice a n c, .slice a2 n2 c2] 25) = W at *
 clear hW
 have HD3 := hI_ (HD2.out.later HX.out)
 have HV3 := hI_ (HV2.out.later HX.out)
 have HU3 := hI_ (HU2.out.later HX.out)
 clear HD2 HV2 HU2 HB2 HX
 obtain ⟨y, hy⟩ : ∃ y, w2.heap.size = y := ⟨_, rfl⟩
 rw [hy] at HC ⊢
 clear hy
 obtain ⟨d0, d1, dz, dl⟩ := HD3.out
 obtain ⟨c0, c1, cz, cl⟩ := HC.out
 go_wp2_with fail
 refine (rMay_any n c n2 c2 a a2 V L HN.out (by have := HN.out; have := HVL.out; omega) HN2.out (by have := HN2.out; have := HLL.out; omega) _ HV3.out HU3.out).mono ?_
 rintro e w3 ⟨rfl, hb3⟩
 rw [HMB.out]
 have HD4 := hI_ (HD3.out.later hb3)
 have HC4 := hI_ (HC.out.later hb3)
 have HV4 := hI_ (HV3.out.later hb3)
 have HU4 := hI_ (HU3.out.later hb3)
 have HB4 := hI_ (HB3.out.trans (hb3.mono HB3.out.size))
 clear hb3 HD3 HC HV3 HU3 HB3 d0 d1 dz dl c0 c1 cz cl
 obtain ⟨d0, d1, dz, dl⟩ := HD4.out
 obtain ⟨c0, c1, cz, cl⟩ := HC4.out
 by_cases he : x2 = 0
 case neg =>
  have HT := hI_ (show r = (([], []), 3) by rw [← HR.out, if_neg (by simp), if_pos (.inl he)])
  have g : ((x2 : Int) == 0) = false := by simp; omega
  go_wp2_with fail
  refine bodyPost_ret (v := .tuple #[.agg #[.slice none 0 0, .slice none 0 0], .int .i64 3]) (by simp [results, Tryz.results87, go_sem, d0, d1]) rfl ?_
  exact nx_no HT.out (one_below HB4.out _ _)
 subst he
 cases q2 with
 | cons b t =>
  have HT := hI_ (show r = (([], []), 3) by rw [← HR.out, if_neg (by simp), if_pos (.inr (.inl (by simp)))])
  have k1 : (0 : Int) < ((ByteArray.mk (b :: t).toArray).size : Nat) := by rw [size_mk]; simp
  go_wp2_with fail
  refine bodyPost_ret (v := .tuple #[.agg #[.slice none 0 0, .slice none 0 0], .int .i64 3]) (by simp [results, Tryz.results87, go_sem, d0, d1]) rfl ?_
  exact nx_no HT.out (one_below HB4.out _ _)
 | nil =>
  cases mb
  · have HT := hI_ (show r = (([], []), 3) by rw [← HR.out, if_neg (by simp), if_pos (.inr (.inr rfl))])
    go_wp2_with fail
    refine bodyPost_ret (v := .tuple #[.agg #[.slice none 0 0, .slice none 0 0], .int .i64 3]) (by simp [results, Tryz.results87, go_sem, d0, d1]) rfl ?_
    exact nx_no HT.out (one_below HB4.out _ _)
  · have HT := hI_ (show r = ((V, L), 0) by rw [← HR.out, if_neg (by simp), if_neg (by simp)])
    go_wp2_with fail
    refine bodyPost_ret (v := .tuple #[.agg #[.slice a n c, .slice a2 n2 c2], .int .i64 0]) (by simp [results, Tryz.results87, go_sem, d0, d1]) rfl ?_
    exact nx_yes HT.out HN.out HN2.out (us_box HV4.out (fun h q e => by have := HF.out (by have := HN.out; omega) q e; omega) _ _) (us_box HU4.out (fun h q e => by have := HF2.out (by have := HN2.out; omega) q e; omega) _ _)
     (fun h q e => by have := HF.out (by have := HN.out; omega) q e; omega) (fun h q e => by have := HF2.out (by have := HN2.out; omega) q e; omega) (one_below HB4.out _ _)

theorem rTakeText_any (s : List UInt8) (hs : s.length ≤ 140737488351232) (w : World) : Calls Tryz.prog 145 #[.string ⟨s.toArray⟩] w (TtP s w) := by
 obtain ⟨v, q, x, hx⟩ : ∃ v q x, tkNum s = (v, q, x) := ⟨_, _, _, rfl⟩
 have HX := hI_ hx
 have hq : q.length ≤ s.length := by have := tk_less s; rw [hx] at this; exact this
 have htx : txG s = if x ≠ 0 ∨ 4096 < v ∨ q.length < v then none else some (q.take v, q.drop v) := by unfold txG; rw [hx]
 have HTX := hI_ htx
 have hsz : (ByteArray.mk q.toArray).size = q.length := size_mk q
 clear hx htx
 go_enter Tryz.func145, Tryz.ntmps145
 go_wp2_with fail
 refine (refTake_any ⟨s.toArray⟩ _).mono ?_
 rintro e w1 ⟨rfl, k, rfl⟩
 unfold tkOut
 rw [show (ByteArray.mk s.toArray).data.toList = s from rfl, HX.out]
 have B1 : Below w.heap.size w (w.drewN k) := below_drewN (Below.refl _ _) _
 by_cases h0 : x = 0
 case neg =>
  have g : ((x : Int) == 0) = false := by simp; omega
  have HF := hI_ (show txG s = none by rw [HTX.out, if_pos (.inl h0)])
  go_wp2_with fail
  go_ret3
  exact ttP_no rfl h0 HF.out B1
 subst h0
 by_cases h1 : 4096 < v
 · have g : (4096 : Int) < (v : Int) := by omega
   have HF := hI_ (show txG s = none by rw [HTX.out, if_pos (.inr (.inl h1))])
   go_wp2_with fail
   go_ret3
   exact ttP_no (k := 4) rfl (by decide) HF.out B1
 have g1 : ¬ (4096 : Int) < (v : Int) := by omega
 by_cases h2 : q.length < v
 · have g : (q.length : Int) < (v : Int) := by omega
   have HF := hI_ (show txG s = none by rw [HTX.out, if_pos (.inr (.inr h2))])
   go_wp2_with fail
   go_ret3
   exact ttP_no (k := 2) rfl (by decide) HF.out B1
 · have g : ¬ (q.length : Int) < (v : Int) := by omega
   have HF := hI_ (show txG s = some (q.take v, q.drop v) by rw [HTX.out, if_neg (by omega)])
   have e1 := extract_head (s := ⟨q.toArray⟩) (l := q) rfl v
   have e2 := extract_drop (s := ⟨q.toArray⟩) (l := q) rfl v
   rw [hsz] at e2
   have i1 : (0 : Int) ≤ (v : Int) := by omega
   have i2 : (v : Int) ≤ (q.length : Int) := by omega
   have E1 := hI_ e1
   have E2 := hI_ e2
   go_wp2_with fail
   go_quiet (fail)
   go_wp2_with fail
   go_ret3
   refine ⟨⟨q.take v, q.drop v, 0, ?_, fun _ => HF.out, fun h => absurd rfl h, by rw [List.length_take]; omega, by rw [List.length_drop]; omega⟩, below_drewN B1 _⟩
   first | rfl | (simp [E1.out, E2.out])
theorem rText_any (L : List UInt8) (hL : L.length ≤ 4096) (w : World) :
 Calls Tryz.prog 53 #[.string ⟨L.toArray⟩] w fun e w' => e = .returned (.tuple #[.string ⟨(numB L.length ++ L).toArray⟩, .int .i64 0]) ∧ Below w.heap.size w w' := by
 have hsz := sz_arr L
 obtain ⟨s, hs⟩ : ∃ s, (⟨L.toArray⟩ : ByteArray) = s := ⟨_, rfl⟩
 have HS := hI_ hs
 rw [hs] at hsz ⊢
 have hN := numB_le L.length
 have hsn := sz_arr (numB L.length)
 have g1 : ¬ (4096 : Int) < (s.size : Int) := by omega
 have w1 : IntKind.u64.wrap (s.size : Int) = (s.size : Int) := IntWalk.u64_in _ (by omega)
 have hcc : ¬ 9223372036854775807 < (numB L.length).length + s.size := by omega
 have HNU := hI_ (show ∀ w1, Calls Tryz.prog 101 #[.int .u64 (s.size : Int)] w1 fun e w' => e = .returned (.tuple #[.string ⟨(numB L.length).toArray⟩, .int .i64 0]) ∧ Below w1.heap.size w1 w' from fun w1 => by
  have h := refNum_any (s.size : Int) w1 (by omega) (by omega)
  rw [show ((s.size : Int)).toNat = L.length by omega] at h; exact h)
 clear hs hsz hsn hN
 go_enter Tryz.func53, Tryz.ntmps53
 go_wp2_with fail
 refine (HNU.out _).mono ?_
 rintro e w1 ⟨rfl, hb1⟩
 go_wp2_with fail
 go_ret2
 exact ⟨retStrI (by rw [← HS.out, mk_app]), hb1⟩


def CxP (K : Nat) (w : World) (x : Int) (q : Pn) (e : Ending) (w' : World) : Prop :=
 if x = 0 then ∃ d, e = .returned (.tuple #[ndV q d, .int .i64 0]) ∧ NdM K w' q d ∧ Below w.heap.size w w'
 else e = .returned (.tuple #[.agg znA, .int .i64 x]) ∧ Below w.heap.size w w'
theorem CxP.no {K : Nat} {w : World} {x : Int} {q : Pn} (h : ¬ x = 0) : ∀ w', Below w.heap.size w w' → CxP K w x q (.returned (.tuple #[.agg znA, .int .i64 x])) w' := fun w' hb => by
 unfold CxP; rw [if_neg h]; exact ⟨rfl, hb⟩
theorem CxP.yes {K : Nat} {w : World} {x : Int} {q : Pn} (h : x = 0) {P : Pn} (hq : q = P) : ∀ w' D, NdM K w' P D → Below w.heap.size w w' → CxP K w x q (.returned (.tuple #[ndV P D, .int .i64 0])) w' := fun w' D h1 h2 => by
 subst hq
 unfold CxP; rw [if_pos h]; exact ⟨D, rfl, h1, h2⟩
def CfL (w : World) (a0 : Option Addr) (L0 : List En) (g : Lg) (e : Ending) (w' : World) : Prop := ∃ a c, e = .returned (.tuple #[.agg #[.int .u64 g.base, .int .u64 g.bt, .string g.snap, .slice a g.L.length c], .int .i64 0]) ∧ g.L.length ≤ c ∧ c ≤ maxLen ∧ Fr w a0 L0 w' a g.L ∧ Below w.heap.size w w'
theorem pCompactF_any (base bt n c i : Nat) (snap sn : ByteArray) (a : Option Addr) (L : List En) (hn : L.length = n) (hl : n ≤ 140737488351232) (hc : n ≤ c) (hcm : c ≤ maxLen) (hb : base < 4611686018427387904) (hi : i < 18446744073709551616) (hs : sn.size ≤ 4096) (w : World) (hE : Ents w a L) (h1 : base < i) (h2 : (tAt base bt L i).2 = true) :
 Calls Tryz.prog 50 #[.agg #[.int .u64 base, .int .u64 bt, .string snap, .slice a n c], .int .u64 i, .string sn] w (CfL w a L (insG ⟨base, bt, snap, L⟩ i (tAt base bt L i).1 sn)) := by
 obtain ⟨W, xl, hW, hxl, B0, HL, Z0⟩ := bk_new w #[.int .u64 base, .int .u64 bt, .string snap, .slice a n c] 28
 obtain ⟨W1, y, hW1, hy, B1, HR, Z1⟩ := bk_new W #[.int .u64 0, .int .u64 0, .string ⟨#[]⟩, .slice none 0 0] 28
 have B0' : Below w.heap.size w W := hxl ▸ B0
 have B1' : Below W.heap.size W W1 := hy ▸ B1
 replace HL := HL.later B1'
 have HB := B0'.trans (B1'.mono B0'.size)
 have hyn := hI_ (show w.heap.size = xl ∧ xl < y by have := Z0.out; omega)
 clear B0 B1 B0' B1'
 have HE := hE.later HB
 obtain ⟨t, b, hp⟩ : ∃ t b, tAt base bt L i = (t, b) := ⟨_, _, rfl⟩
 rw [hp] at h2
 simp only at h2
 subst h2
 obtain ⟨G, hG⟩ : ∃ G, insG ⟨base, bt, snap, L⟩ i t sn = G := ⟨_, rfl⟩
 rw [hp, hG]
 have HTA := hI_ (show ∀ w1, Ents w1 a L → Calls Tryz.prog 69 #[.agg #[.int .u64 base, .int .u64 bt, .string snap, .slice a n c], .int .u64 i] w1 fun e w' => e = .returned (.tuple #[.int .u64 t, .bool true]) ∧ Below w1.heap.size w1 w' from fun w1 h => by
  have h := pTermAt_any base bt n c i snap a L hn hl hb hi w1 h
  rw [hp] at h; exact h)
 have HIN := hI_ (show ∀ w1, Ents w1 a L → Calls Tryz.prog 99 #[.agg #[.int .u64 base, .int .u64 bt, .string snap, .slice a n c], .int .u64 i, .int .u64 t, .string sn] w1 (LoP w1 a L G) from fun w1 h => by
  have h := pInstall_any base bt n c i t snap sn a L hn hl hc hcm hb hi w1 h
  rw [hG] at h; exact h)
 have g1 : ¬ (i : Int) ≤ (base : Int) := by omega
 have g2 : ¬ (4096 : Int) < (sn.size : Int) := by omega
 clear hp hG hE
 go_enter Tryz.func50, Tryz.ntmps50
 go_wp2_with (first
  | (refine lBk rfl _ rfl rfl logT HL rfl ?_)
  | (refine lCc rfl _ rfl rfl (by first | exact ocU | exact ocS | exact ocE) (by assumption) rfl ?_))
 refine (HTA.out _ HE).mono ?_
 rintro e w2 ⟨rfl, hb2⟩
 replace HB := HB.trans (hb2.mono HB.size)
 replace HL := HL.later hb2
 replace HR := HR.later hb2
 replace HE := HE.later hb2
 clear hb2
 have l0 := HL.bx.c 0 _ rfl
 go_wp2_with (first
  | (refine lBk rfl _ rfl rfl logT HL rfl ?_)
  | (refine lCc rfl _ rfl rfl (by first | exact ocU | exact ocS | exact ocE) (by assumption) rfl ?_))
 have HSZ := hI_ HB.size
 have hyz := HR.lt
 refine (HIN.out _ HE).mono ?_
 rintro e w3 ⟨a', c', rfl, h1, h2, h3, hb2⟩
 replace HB := HB.trans (hb2.mono HB.size)
 replace HR := HR.later hb2
 have HFR := hI_ h3
 have HYZ := hI_ hyz
 clear hb2 HL HE h3 l0 hyz
 obtain ⟨m', hm'⟩ : ∃ m', G.L.length = m' := ⟨_, rfl⟩
 have HM := hI_ hm'
 rw [hm'] at h1 ⊢
 clear hm'
 go_wp2_with (first
  | (refine sBk rfl _ _ rfl rfl rfl logT HR rfl rfl rfl ?_; intro w' hk hg; replace HB := bGr HB hg HB.size (by have := hyn.out; omega); have HGR := hI_ hg; replace HR := hk; clear hk hg))
 refine bodyPost_ret (v := .tuple #[.agg #[.int .u64 G.base, .int .u64 G.bt, .string G.snap, .slice a' m' c'], .int .i64 0]) (by rw [rBt Tryz.results50 _ rfl logT HR rfl]; rfl) rfl ?_
 refine ⟨a', c', by rw [HM.out], by rw [HM.out]; exact h1, h2, ?_, HB⟩
 rcases HFR.out with h | ⟨h, k⟩
 · exact .inl h
 · refine .inr ⟨h.grown HGR.out (fun h0 q e => by have := (k q e).1; have := HYZ.out; omega), fun q e => ⟨Nat.le_trans HSZ.out (k q e).1, ?_⟩⟩
   obtain ⟨cur, hcur⟩ := (k q e).2
   have hne := (k q e).1
   have hlt := (k q e).2.lt
   exact ⟨cur, (HGR.out.block _ hlt (by simp; have := HYZ.out; omega)).trans hcur⟩

theorem rCompactF_any (base bt n c i : Nat) (snap sn : ByteArray) (a : Option Addr) (L : List En) (hn : L.length = n) (hl : n * 24 ≤ 140737488351232) (hc : n ≤ c) (hcm : c ≤ maxLen) (hb : base < 4611686018427387904) (hi : i < 18446744073709551616) (hs : sn.size ≤ 4096) (w : World) (hE : Ents w a L) (h1 : base < i) (h2 : (tAt base bt L i).2 = true) :
 Calls Tryz.prog 54 #[.agg #[.int .u64 base, .int .u64 bt, .string snap, .slice a n c], .int .u64 i, .string sn] w (CfL w a L (insG ⟨base, bt, snap, L⟩ i (tAt base bt L i).1 sn)) := by
 obtain ⟨W, xl, hW, hxl, B0, HL, Z0⟩ := bk_new w #[.int .u64 base, .int .u64 bt, .string snap, .slice a n c] 28
 obtain ⟨W1, y, hW1, hy, B1, HR, Z1⟩ := bk_new W #[.int .u64 0, .int .u64 0, .string ⟨#[]⟩, .slice none 0 0] 28
 have B0' : Below w.heap.size w W := hxl ▸ B0
 have B1' : Below W.heap.size W W1 := hy ▸ B1
 replace HL := HL.later B1'
 have HB := B0'.trans (B1'.mono B0'.size)
 have hyn := hI_ (show w.heap.size = xl ∧ xl < y by have := Z0.out; omega)
 clear B0 B1 B0' B1'
 have HE := hE.later HB
 obtain ⟨t, b, hp⟩ : ∃ t b, tAt base bt L i = (t, b) := ⟨_, _, rfl⟩
 rw [hp] at h2
 simp only at h2
 subst h2
 obtain ⟨G, hG⟩ : ∃ G, insG ⟨base, bt, snap, L⟩ i t sn = G := ⟨_, rfl⟩
 rw [hp, hG]
 have HTA := hI_ (show ∀ w1, Ents w1 a L → Calls Tryz.prog 18 #[.agg #[.int .u64 base, .int .u64 bt, .string snap, .slice a n c], .int .u64 i] w1 fun e w' => e = .returned (.tuple #[.int .u64 t, .bool true]) ∧ Below w1.heap.size w1 w' from fun w1 h => by
  have h := rTermAt_any base bt n c i snap a L hn (by omega) hb hi w1 h
  rw [hp] at h; exact h)
 have HIN := hI_ (show ∀ w1, Ents w1 a L → Calls Tryz.prog 102 #[.agg #[.int .u64 base, .int .u64 bt, .string snap, .slice a n c], .int .u64 i, .int .u64 t, .string sn] w1 (LoP w1 a L G) from fun w1 h => by
  have h := rInstall_any base bt n c i t snap sn a L hn hl hc hcm hb hi w1 h
  rw [hG] at h; exact h)
 have g0 : ((i : Int) == (base : Int)) = false := by simp; omega
 have g1 : ¬ (i : Int) ≤ (base : Int) := by omega
 have g2 : ¬ (4096 : Int) < (sn.size : Int) := by omega
 clear hp hG hE
 go_enter Tryz.func54, Tryz.ntmps54
 go_wp2_with (first
  | (refine lBk rfl _ rfl rfl logT HL rfl ?_)
  | (refine lCc rfl _ rfl rfl (by first | exact ocU | exact ocS | exact ocE) (by assumption) rfl ?_))
 refine (HTA.out _ HE).mono ?_
 rintro e w2 ⟨rfl, hb2⟩
 replace HB := HB.trans (hb2.mono HB.size)
 replace HL := HL.later hb2
 replace HR := HR.later hb2
 replace HE := HE.later hb2
 clear hb2
 have l0 := HL.bx.c 0 _ rfl
 go_wp2_with (first
  | (refine lBk rfl _ rfl rfl logT HL rfl ?_)
  | (refine lCc rfl _ rfl rfl (by first | exact ocU | exact ocS | exact ocE) (by assumption) rfl ?_))
 have HSZ := hI_ HB.size
 have hyz := HR.lt
 refine (HIN.out _ HE).mono ?_
 rintro e w3 ⟨a', c', rfl, h1, h2, h3, hb2⟩
 replace HB := HB.trans (hb2.mono HB.size)
 replace HR := HR.later hb2
 have HFR := hI_ h3
 have HYZ := hI_ hyz
 clear hb2 HL HE h3 l0 hyz
 obtain ⟨m', hm'⟩ : ∃ m', G.L.length = m' := ⟨_, rfl⟩
 have HM := hI_ hm'
 rw [hm'] at h1 ⊢
 clear hm'
 go_wp2_with (first
  | (refine sBk rfl _ _ rfl rfl rfl logT HR rfl rfl rfl ?_; intro w' hk hg; replace HB := bGr HB hg HB.size (by have := hyn.out; omega); have HGR := hI_ hg; replace HR := hk; clear hk hg))
 refine bodyPost_ret (v := .tuple #[.agg #[.int .u64 G.base, .int .u64 G.bt, .string G.snap, .slice a' m' c'], .int .i64 0]) (by rw [rBt Tryz.results54 _ rfl logT HR rfl]; rfl) rfl ?_
 refine ⟨a', c', by rw [HM.out], by rw [HM.out]; exact h1, h2, ?_, HB⟩
 rcases HFR.out with h | ⟨h, k⟩
 · exact .inl h
 · refine .inr ⟨h.grown HGR.out (fun h0 q e => by have := (k q e).1; have := HYZ.out; omega), fun q e => ⟨Nat.le_trans HSZ.out (k q e).1, ?_⟩⟩
   obtain ⟨cur, hcur⟩ := (k q e).2
   have hne := (k q e).1
   have hlt := (k q e).2.lt
   exact ⟨cur, (HGR.out.block _ hlt (by simp; have := HYZ.out; omega)).trans hcur⟩
end Go.Proofs.YtdcpiaoadbbdoaaGreatDoor
