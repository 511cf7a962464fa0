/- Install and Compact: the document's. -/
import Derived.Test.YtdcpiaoadbbdoaaGreatDoorRb
import Derived.Test.YtdcpiaoadbbdoaaGreatDoorLi
set_option maxRecDepth 100000
set_option maxHeartbeats 16000000
namespace Go.Proofs.YtdcpiaoadbbdoaaGreatDoor
open Go.RowKit

theorem CqE.ty {B : Nat} {w : World} {v : Value} {L : List En} (h : CqE B w v L) {a : Option Addr} {n c : Nat} (hv : v = .slice a n c) : 0 < L.length → ∀ q, a = some q → TyE w q.block := fun h0 q e => by
 rcases h with ⟨rfl, _⟩ | h
 · simp at h0
 · rcases h.2 with ⟨_, h1⟩ | ⟨g, cap, cur, e2, _, hh, _⟩
   · omega
   · rw [hv] at e2
     injection e2 with e3
     rw [e] at e3
     injection e3 with e3
     subst e3
     exact ⟨cur, hh⟩
theorem hasB_le {base bt i term : Nat} {L : List En} (h : hasB base bt L i term = true) (hb : base < i) : i ≤ base + L.length := by
 unfold hasB tAt at h
 rw [if_neg (by omega), if_neg (by omega)] at h
 by_cases h2 : i - base - 1 < L.length
 · omega
 · rw [List.getElem?_eq_none (by omega)] at h; simp at h
theorem rInstall_any (base bt n c i term : Nat) (snap sn : ByteArray) (a : Option Addr) (L : List En) (hn : L.length = n) (hl : n * 24 ≤ 140737488351232) (hc : n ≤ c) (hcm : c ≤ maxLen) (hb : base < 4611686018427387904) (hi : i < 18446744073709551616) (w : World) (hE : Ents w a L) :
 Calls Tryz.prog 102 #[.agg #[.int .u64 base, .int .u64 bt, .string snap, .slice a n c], .int .u64 i, .int .u64 term, .string sn] w (LoP w a L (insG ⟨base, bt, snap, L⟩ i term sn)) := by
 have B0 : Below w.heap.size w ((w.alloc (.cells #[.int .u64 base, .int .u64 bt, .string snap, .slice a n c] 28)).alloc (.cells #[.int .u64 0, .int .u64 0, .string ⟨#[]⟩, .slice none 0 0] 28)) := by go_grown
 have L0 := (Lb.new (w := w) rfl base bt snap (.slice a n c) 28).past (.cells #[.int .u64 0, .int .u64 0, .string ⟨#[]⟩, .slice none 0 0] 28)
 have R0 := Lb.zero (w := (w.alloc (.cells #[.int .u64 base, .int .u64 bt, .string snap, .slice a n c] 28))) (x := w.heap.size + 1) (by simp) 28
 have hE0 := hE.later B0
 have HE := hI_ hE
 have HN := hI_ hn
 by_cases h1 : i ≤ base
 · have g1 : (i : Int) ≤ (base : Int) := by omega
   have hf : ∀ w', Below w.heap.size w w' → LoP w a L (insG ⟨base, bt, snap, L⟩ i term sn) (.returned (.agg #[.int .u64 base, .int .u64 bt, .string snap, .slice a n c])) w' := fun w' hB => by
    unfold insG; rw [if_pos h1]; exact ⟨a, c, by rw [← hn], by rw [hn]; exact hc, hcm, Fr.same _ _ _ _, hB⟩
   have HF := hI_ hf
   clear hf hn hE hE0
   go_enter Tryz.func102, Tryz.ntmps102
   go_wp2_with fail
   refine bodyPost_ret (v := .agg #[.int .u64 base, .int .u64 bt, .string snap, .slice a n c]) (by simp [results, Tryz.results102, go_sem]) rfl ?_
   exact HF.out _ (by go_grown)
 have g1 : ¬ (i : Int) ≤ (base : Int) := by omega
 obtain ⟨M, hM⟩ : ∃ M, L.drop (i - base) = M := ⟨_, rfl⟩
 obtain ⟨p, hp⟩ : ∃ p, tAt base bt L i = p := ⟨_, rfl⟩
 obtain ⟨t, b⟩ := p
 have hhb : hasB base bt L i term = (b && decide (t = term)) := by unfold hasB; rw [hp]
 have hf0 : (b && decide (t = term)) = false → ∀ w', Below w.heap.size w w' → LoP w a L (insG ⟨base, bt, snap, L⟩ i term sn) (.returned (.agg #[.int .u64 i, .int .u64 term, .string sn, .slice none 0 0])) w' := fun h w' hB => by
  unfold insG; rw [if_neg h1, hhb, h]; exact ⟨none, 0, rfl, Nat.le_refl _, by decide, Fr.nil _ _ _ _ _, hB⟩
 have hf1 : (b && decide (t = term)) = true → ∀ w' a' m c', M.length = m → m ≤ c' → c' ≤ maxLen → Fr w a L w' a' M → Below w.heap.size w w' → LoP w a L (insG ⟨base, bt, snap, L⟩ i term sn) (.returned (.agg #[.int .u64 i, .int .u64 term, .string sn, .slice a' m c'])) w' := fun h w' a' m c' h1' h2 h3 hE' hB => by
  unfold insG; rw [if_neg h1, hhb, h]; simp only [if_true]; rw [hM]
  exact ⟨a', c', by rw [h1'], by rw [h1']; exact h2, h3, hE', hB⟩
 have hle : (b && decide (t = term)) = true → i ≤ base + n := fun h => by rw [← hn]; exact hasB_le (term := term) (by rw [hhb, h]) (by omega)
 have HF0 := hI_ hf0
 have HF1 := hI_ hf1
 have HM := hI_ hM
 have HP := hI_ hp
 have HLE := hI_ hle
 have hbi : base < i := by omega
 have hz : ((w.alloc (.cells #[.int .u64 base, .int .u64 bt, .string snap, .slice a n c] 28)).alloc (.cells #[.int .u64 0, .int .u64 0, .string ⟨#[]⟩, .slice none 0 0] 28)).heap.size = w.heap.size + 1 + 1 := by simp
 have hu0 : w.heap.size ≤ w.heap.size + 1 := by omega
 clear hf0 hf1 hM hp hhb hle hE hn h1
 go_enter Tryz.func102, Tryz.ntmps102
 go_wp2_with fail
 have B1 := B0.alloc B0.size (.cells #[.int .u64 i, .int .u64 term, .string sn, .slice none 0 0] 28)
 have L1 := L0.past (.cells #[.int .u64 i, .int .u64 term, .string sn, .slice none 0 0] 28)
 have R1 := R0.past (.cells #[.int .u64 i, .int .u64 term, .string sn, .slice none 0 0] 28)
 have N1 := Lb.new (w := ((w.alloc (.cells #[.int .u64 base, .int .u64 bt, .string snap, .slice a n c] 28)).alloc (.cells #[.int .u64 0, .int .u64 0, .string ⟨#[]⟩, .slice none 0 0] 28))) (x := w.heap.size + 1 + 1) hz.symm i term sn (.slice none 0 0) 28
 have hE1 := HE.out.later B1
 generalize ((w.alloc (.cells #[.int .u64 base, .int .u64 bt, .string snap, .slice a n c] 28)).alloc (.cells #[.int .u64 0, .int .u64 0, .string ⟨#[]⟩, .slice none 0 0] 28)).alloc (.cells #[.int .u64 i, .int .u64 term, .string sn, .slice none 0 0] 28) = W at *
 refine (rTermAt_any base bt n c i snap a L HN.out (by omega) hb hi _ hE1).mono ?_
 rintro e w1 ⟨rfl, hb1⟩
 rw [HP.out]
 have L2 := L1.later hb1
 have R2 := R1.later hb1
 have N2 := N1.later hb1
 have B2 := B1.trans (hb1.mono B1.size)
 have hE2 := HE.out.later B2
 clear hb1 B1 L1 R1 N1 hE1 L0 R0 B0 hE0
 have HN2 := hI_ N2
 have HR2 := hI_ R2
 obtain ⟨l0, l1, l2, l3, lz, ll⟩ := L2
 obtain ⟨r0, r1, r2, r3, rz, rl⟩ := R2
 obtain ⟨n0, n1, n2, n3, nz, nl⟩ := N2
 cases b
 · go_wp2_with fail
   refine bodyPost_ret (v := .agg #[.int .u64 i, .int .u64 term, .string sn, .slice none 0 0]) (by simp [results, Tryz.results102, go_sem, r0, r1, r2, r3]) rfl ?_
   exact HF0.out (by simp) _ ((((B2.setCell hu0 _).setCell hu0 _).setCell hu0 _).setCell hu0 _)
 by_cases ht : t = term
 case neg =>
  have g2 : ((t : Int) == (term : Int)) = false := by simp; omega
  have HH := hI_ (show (true && decide (t = term)) = false by simpa using ht)
  clear ht
  go_wp2_with fail
  refine bodyPost_ret (v := .agg #[.int .u64 i, .int .u64 term, .string sn, .slice none 0 0]) (by simp [results, Tryz.results102, go_sem, r0, r1, r2, r3]) rfl ?_
  exact HF0.out HH.out _ ((((B2.setCell hu0 _).setCell hu0 _).setCell hu0 _).setCell hu0 _)
 subst ht
 have hin := HLE.out (by simp)
 obtain ⟨k, hk⟩ : ∃ k, i - base = k := ⟨_, rfl⟩
 have hkn : k ≤ n := by omega
 have hk0 : 0 < k := by omega
 have e1 : IntKind.u64.wrap ((i : Int) - (base : Int)) = (k : Int) := by rw [IntWalk.u64_in _ (by omega)]; omega
 have e2 : (i : Int) - (base : Int) = (k : Int) := by omega
 have i0 : (0 : Int) ≤ (k : Int) := by omega
 have i1 : (k : Int) ≤ (n : Int) := by omega
 have i2 : (k : Int) ≤ (c : Int) := by omega
 obtain ⟨b, off, rfl, hlt⟩ := hE2.addr (by have := HN.out; omega)
 rw [hk] at HM
 have hml : M.length = n - k := by rw [← HM.out, List.length_drop, HN.out]
 have hE3 : ∀ off', (k < c → off' = off + k * 2) → Ents w (some ⟨b, off', none⟩) M := fun off' ho => by
  have := HE.out.drop k (off' := off') (fun h => ho (by have := HN.out; omega))
  rw [HM.out] at this; exact this
 have HML := hI_ hml
 have HE3 := hI_ hE3
 have hbn : (([] : List En).length + (n - k)) * 24 ≤ 140737488355328 := by simp; omega
 clear hin hk hml hE3 hE2
 have hu1 : w.heap.size ≤ w.heap.size + 1 + 1 := by omega
 have e3 : IntKind.u64.wrap (k : Int) = (k : Int) := IntWalk.u64_in _ (by omega)
 by_cases hkc : k < c
 case pos =>
  have hEE := HE3.out _ (fun _ => rfl)
  have HEE := hI_ hEE
  have j2 : ¬ c = k := by omega
  clear hEE
  go_upto_region 6 with fail
  go_cut [0] (fun _ wx => ∃ a' m' cap, m' = n - k ∧ m' ≤ cap ∧ cap ≤ maxLen ∧ Fr w1 (some ⟨b, off, none⟩) L wx a' M ∧ Lb wx (w.heap.size + 1 + 1) i t sn (.slice a' m' cap) ∧ Lb wx (w.heap.size + 1) 0 0 ⟨#[]⟩ (.slice none 0 0) ∧ Below w.heap.size w wx)
  case first =>
   go_region_law (refine step_appE (by rfl) _ _ _ (by rfl) _ _ (by rfl) (by rfl) _ (app_row w1.heap.size _ _ _ [] (CqE.nil _ _ _) (some ⟨b, off + k * 2, none⟩) (n - k) (c - k) M HML.out (HEE.out.later (B2.drew)) hbn (Nat.le_refl _)) ?_; intro u1 wn hp; obtain ⟨hp1, hp2⟩ := hp; obtain ⟨a', cap, hv, hE4, hfar, hcc, hcm2⟩ := hp1.form; have hty := hp1.ty hv; rw [List.nil_append] at hv hE4 hfar hcc hty; rw [HML.out] at hv hcc; subst hv; have hb3 : Below w1.heap.size w1 wn := Below.trans (by go_grown) hp2; obtain ⟨p0, p1, p2, p3, pz, pl⟩ := HN2.out.later hb3; have HE4 := hI_ hE4; have HFR := hI_ (fun (h : 0 < M.length) (q : Addr) (e : a' = some q) => And.intro (hfar h q e) (hty h q e)); clear hE4 hfar hp2 hp1)
   all_goals
    go_wp2_with fail
    go_meet
    have hfr : Fr w1 (some ⟨b, off, none⟩) L wn a' M := by
     by_cases h0 : 0 < M.length
     · exact .inr ⟨HE4.out, HFR.out h0⟩
     · obtain rfl : M = [] := List.length_eq_zero_iff.1 (by omega)
       exact Fr.nil _ _ _ _ _
    exact ⟨a', n - k, cap, rfl, hcc, hcm2, hfr.set nl _ _, (HN2.out.later hb3).put3 _, (HR2.out.later hb3).far (by omega) _ _, (B2.trans (hb3.mono B2.size)).setCell hu1 _⟩
  case rest =>
   obtain ⟨a', m', cap, hm, hmc, hcm2, hfr, hL3, hR3, B3⟩ := hcut
   obtain ⟨p0, p1, p2, p3, pz, pl⟩ := hL3
   obtain ⟨s0, s1, s2, s3, sz, sl⟩ := hR3
   have HM2 := hI_ hm
   have HFR := hI_ hfr
   clear hm hfr l0 l1 l2 l3 lz r0 r1 r2 r3 rz n0 n1 n2 n3 nz
   go_wp2_with fail
   refine bodyPost_ret (v := .agg #[.int .u64 i, .int .u64 t, .string sn, .slice a' m' cap]) (by simp [results, Tryz.results102, go_sem, s0, s1, s2, s3]) rfl ?_
   refine HF1.out (by simp) _ _ _ _ (by rw [HML.out, HM2.out]) hmc hcm2 (((((HFR.out.set rl _ _).set rl _ _).set rl _ _).set rl _ _).mono B2.size) ?_
   exact (((B3.setCell hu0 _).setCell hu0 _).setCell hu0 _).setCell hu0 _
 case neg =>
  have hEE := HE3.out off (fun h => absurd h hkc)
  have HEE := hI_ hEE
  have j2 : c = k := by omega
  clear hEE
  go_upto_region 6 with fail
  go_cut [0] (fun _ wx => ∃ a' m' cap, m' = n - k ∧ m' ≤ cap ∧ cap ≤ maxLen ∧ Fr w1 (some ⟨b, off, none⟩) L wx a' M ∧ Lb wx (w.heap.size + 1 + 1) i t sn (.slice a' m' cap) ∧ Lb wx (w.heap.size + 1) 0 0 ⟨#[]⟩ (.slice none 0 0) ∧ Below w.heap.size w wx)
  case first =>
   go_region_law (refine step_appE (by rfl) _ _ _ (by rfl) _ _ (by rfl) (by rfl) _ (app_row w1.heap.size _ _ _ [] (CqE.nil _ _ _) (some ⟨b, off, none⟩) (n - k) 0 M HML.out (HEE.out.later (B2.drew)) hbn (Nat.le_refl _)) ?_; intro u1 wn hp; obtain ⟨hp1, hp2⟩ := hp; obtain ⟨a', cap, hv, hE4, hfar, hcc, hcm2⟩ := hp1.form; have hty := hp1.ty hv; rw [List.nil_append] at hv hE4 hfar hcc hty; rw [HML.out] at hv hcc; subst hv; have hb3 : Below w1.heap.size w1 wn := Below.trans (by go_grown) hp2; obtain ⟨p0, p1, p2, p3, pz, pl⟩ := HN2.out.later hb3; have HE4 := hI_ hE4; have HFR := hI_ (fun (h : 0 < M.length) (q : Addr) (e : a' = some q) => And.intro (hfar h q e) (hty h q e)); clear hE4 hfar hp2 hp1)
   all_goals
    go_wp2_with fail
    go_meet
    have hfr : Fr w1 (some ⟨b, off, none⟩) L wn a' M := by
     by_cases h0 : 0 < M.length
     · exact .inr ⟨HE4.out, HFR.out h0⟩
     · obtain rfl : M = [] := List.length_eq_zero_iff.1 (by omega)
       exact Fr.nil _ _ _ _ _
    exact ⟨a', n - k, cap, rfl, hcc, hcm2, hfr.set nl _ _, (HN2.out.later hb3).put3 _, (HR2.out.later hb3).far (by omega) _ _, (B2.trans (hb3.mono B2.size)).setCell hu1 _⟩
  case rest =>
   obtain ⟨a', m', cap, hm, hmc, hcm2, hfr, hL3, hR3, B3⟩ := hcut
   obtain ⟨p0, p1, p2, p3, pz, pl⟩ := hL3
   obtain ⟨s0, s1, s2, s3, sz, sl⟩ := hR3
   have HM2 := hI_ hm
   have HFR := hI_ hfr
   clear hm hfr l0 l1 l2 l3 lz r0 r1 r2 r3 rz n0 n1 n2 n3 nz
   go_wp2_with fail
   refine bodyPost_ret (v := .agg #[.int .u64 i, .int .u64 t, .string sn, .slice a' m' cap]) (by simp [results, Tryz.results102, go_sem, s0, s1, s2, s3]) rfl ?_
   refine HF1.out (by simp) _ _ _ _ (by rw [HML.out, HM2.out]) hmc hcm2 (((((HFR.out.set rl _ _).set rl _ _).set rl _ _).set rl _ _).mono B2.size) ?_
   exact (((B3.setCell hu0 _).setCell hu0 _).setCell hu0 _).setCell hu0 _
end Go.Proofs.YtdcpiaoadbbdoaaGreatDoor
