/- A change of the group is offered: done. -/
import Derived.Test.YtdcpiaoadbbdoaaGreatDoorRtake
import Derived.Test.YtdcpiaoadbbdoaaGreatDoorQch1
set_option maxRecDepth 100000
set_option maxHeartbeats 16000000
namespace Go.Proofs.YtdcpiaoadbbdoaaGreatDoor
open Go.RowKit

theorem pChange_6 (p : Pn) (d : Ad) (hBd : Bd p) (hnx : p.next.length * 16 ≤ 140737488351232) (hmt : p.mat.length * 16 ≤ 140737488351232) (k : Int) (i : Nat) (_ : i < 18446744073709551616) (K : Nat) (w : World) (hK : K ≤ w.heap.size) (hT : Tz w) (hM : NdM K w p d) (h1 : p.role = 3) (h2 : ¬ (k = 3 ∧ i = p.id)) (h3 : ¬ busyB p = true) (h4 : (nxC p k i).2 = 0) (h0 : addX p (chgD p k i) = 0) :
 Calls Tryz.prog 10 #[ndV p d, .agg #[.int .i64 k, .int .u64 i]] w (OcP K w (chgX p k i) (chgP p k i)) := by
 obtain ⟨W, hW, B0, N0, Z0⟩ := nk_new w p d
 obtain ⟨Wm, xc, hWm, hxc, Bm, HG, Zm⟩ := bk_new W #[.int .i64 k, .int .u64 i] 36
 obtain ⟨W1, y, hW1, hy, B1, HR, Z1⟩ := bk_new Wm znA 34
 have Bm' : Below W.heap.size W Wm := hxc ▸ Bm
 have B1' : Below Wm.heap.size Wm W1 := hy ▸ B1
 have HB1 := B0.trans (Bm'.mono B0.size)
 have HN := (N0.later Bm').later B1'
 replace HG := HG.later B1'
 have HB := HB1.trans (B1'.mono HB1.size)
 have hyn := hI_ (show w.heap.size < y ∧ w.heap.size < xc ∧ xc < y by have := Z0.out; have := Zm.out; omega)
 clear B0 N0 B1 Bm Bm' B1' HB1
 unfold ndA at hW
 unfold znA at hW1
 have HM := hM.later HB
 have HTZ := hI_ (show ∀ w1, Below w.heap.size w w1 → Tz w1 from fun w1 h => hT.below (h.mono hT.n))
 clear hM
 have gr1 : (p.role == 3) = true := by simp [h1]
 have gr2 : (p.role != 3) = false := by simp [h1]
 have HNE := hI_ h2
 obtain ⟨V1, L1, xe, hnxc⟩ : ∃ V1 L1 xe, nxC p k i = ((V1, L1), xe) := ⟨_, _, _, rfl⟩
 have hcl := (may_small (conf_may hBd.may)).1
 have HNX := hI_ (show ∀ w1 s1 s2, Us w1 (Sa.a s1) p.conf.V → Us w1 (Sa.a s2) p.conf.L → Calls Tryz.prog 25 #[.agg #[.slice s1.a p.conf.V.length s1.c, .slice s2.a p.conf.L.length s2.c], .agg #[.int .i64 k, .int .u64 i]] w1 (NxF w1 ((V1, L1), xe)) from fun w1 s1 s2 h h' => by
  rw [← hnxc]; exact pNext_any i _ _ _ _ k _ _ p.conf.V p.conf.L rfl (by omega) rfl (by omega) w1 h h')
 obtain ⟨S, hS⟩ : ∃ S, byG V1 L1 = S := ⟨_, rfl⟩
 obtain ⟨E, hE⟩ : ∃ E : Nat, erG V1 L1 = E := ⟨_, rfl⟩
 obtain ⟨s, hs⟩ : ∃ s, (⟨S.toArray⟩ : ByteArray) = s := ⟨_, rfl⟩
 have hdd : chgD p k i = pre 99 s := by unfold chgD; rw [hnxc, hS, hs]
 have hnl : V1.length ≤ p.conf.V.length + 1 ∧ L1.length ≤ p.conf.L.length + 1 := by
  have h5 := nxt_small p.conf.V p.conf.L k i
  have h6 : nxtF p.conf.V p.conf.L k i = ((V1, L1), xe) := hnxc
  rw [h6] at h5; exact h5 (by rw [hnxc] at h4; exact h4)
 have hsz : s.size ≤ 96 := by rw [← hs, sz_arr, ← hS]; exact byG_len V1 L1
 have HBY := hI_ (show ∀ w1 a1 c1 a2 c2, Us w1 a1 V1 → Us w1 a2 L1 → Tz w1 → Calls Tryz.prog 27 #[.agg #[.slice a1 V1.length c1, .slice a2 L1.length c2]] w1 fun e w' => e = .returned (.tuple #[.string s, .int .i64 E]) ∧ Below w1.heap.size w1 w' from fun w1 a1 c1 a2 c2 h h' h'' => by
  have h5 := pBytes_any V1.length c1 L1.length c2 a1 a2 V1 L1 rfl (by omega) rfl (by omega) w1 h h' h''
  rw [hS, hE, hs] at h5; exact h5)
 have hz1 : (⟨#[99]⟩ : ByteArray).size = 1 := rfl
 have hps0 : (pre 99 s).size = (⟨#[99]⟩ : ByteArray).size + s.size := by unfold pre; rw [ByteArray.size_append]
 have hps : (pre 99 s).size ≤ 140737488351232 := by omega
 have HAD := hI_ (show ∀ w1, K ≤ w1.heap.size → NdM K w1 p d → Calls Tryz.prog 28 #[ndV p d, .string (⟨#[99]⟩ ++ s)] w1 (AdP K w1 p (pre 99 s)) from fun w1 h2 h3 => pAdd8_any p d hBd (pre 99 s) hps K w1 h2 h3)
 have hcc : ¬ (9223372036854775807 : Nat) < (⟨#[99]⟩ : ByteArray).size + s.size := by omega
 clear hps0 hz1
 have gx : (xe == 0) = true := by rw [hnxc] at h4; simpa using h4
 have gx' : (xe != 0) = false := by rw [hnxc] at h4; simpa using h4
 have e0 : chgX p k i = 0 := by unfold chgX; rw [if_neg (fun h => h h1), if_neg h2, if_neg h3, if_neg (by omega)]; exact h0
 rw [e0]
 rw [hdd] at h0
 have hb1 := bd_addP hBd hps h0 (by omega)
 have hml : (addP p (pre 99 s)).mat.length ≤ p.mat.length + 1 := setN_len _ _ _
 obtain ⟨P1, hP1⟩ : ∃ P1, addP p (pre 99 s) = P1 := ⟨_, rfl⟩
 have hnl1 : P1.next.length = p.next.length := by rw [← hP1]; rfl
 rw [hP1] at hb1 hml
 obtain ⟨P2, hP2⟩ : ∃ P2, remarkP P1 = P2 := ⟨_, rfl⟩
 have hb2 : Bd P2 := by rw [← hP2]; exact bd_remark hb1 (by omega) (by omega)
 clear hnl1 hml
 obtain ⟨P3, M3, h3'⟩ : ∃ P3 M3, spreadP P2 = (P3, M3) := ⟨_, _, rfl⟩
 have hb3 : Bd P3 := by have := bd_commit hb2; rw [show commitP P2 = P3 from congrArg Prod.fst h3'] at this; exact this
 have HF := hI_ (OcP.yes (K := K) (w := w) (x := 0) (r := chgP p k i) rfl (P := P3) (M := M3) (by unfold chgP; rw [hdd, hP1, hP2, h3']))
 have HSP := hI_ h3'
 have HP1 := hI_ hP1
 have HP2 := hI_ hP2
 have h3 : busyB p = false := by simpa using h3
 clear e0 hnxc hS hE hs hdd h4 hP1 hP2 h3'
 go_enter Tryz.func10, Tryz.ntmps10
 go_wp2_with (first
  | (refine wpList_val rfl (v := .bool false) (exec_cmp _ _ rfl rfl rfl HNE.out) ?_)
  | (refine lCc rfl _ rfl rfl (ocA rfl) (by assumption) rfl ?_)
  | (refine lBk rfl _ rfl rfl chgT HG rfl ?_)
  | (refine lBk rfl _ rfl rfl nodeT HN rfl ?_))
 refine (pBusy_any p d hBd K _ HM).mono ?_
 rintro e w2 ⟨rfl, hb⟩
 rw [h3]
 replace HB := HB.trans (hb.mono HB.size)
 replace HR := HR.later hb
 replace HN := HN.later hb
 replace HG := HG.later hb
 replace HM := HM.later hb
 clear hb
 go_upto_region 7 with (first
  | (refine lCc rfl _ rfl rfl (ocA rfl) (by assumption) rfl ?_)
  | (refine lBk rfl _ rfl rfl chgT HG rfl ?_)
  | (refine lBk rfl _ rfl rfl nodeT HN rfl ?_))
 go_cut [8, 9] (fun cv ev wx => ∃ (xa : Nat) (a1 : Option Addr) (c1 : Nat) (a2 : Option Addr) (c2 : Nat), cv = .pointer (some ⟨xa, 0, none⟩) ∧ ev = .int .i64 xe ∧ w.heap.size < xa ∧ y < xa ∧ Bk wx xa 25 [.slice a1 V1.length c1, .slice a2 L1.length c2] ∧ Us wx a1 V1 ∧ Us wx a2 L1 ∧ Bk wx w.heap.size 34 (ndL p d) ∧ Bk wx y 34 znA.toList ∧ NdM K wx p d ∧ Below w.heap.size w wx)
 case first =>
  refine wp_region_held_drew (S := fun w' => Bk w' w.heap.size 34 (ndL p d) ∧ Bk w' xc 36 [.int .i64 k, .int .u64 i] ∧ Bk w' y 34 znA.toList ∧ NdM K w' p d ∧ Below w.heap.size w w') (by kernel_rfl) (⟨HN.later ((Below.refl _ _).drew), HG.later ((Below.refl _ _).drew), HR.later ((Below.refl _ _).drew), HM.later ((Below.refl _ _).drew), HB.drew⟩) (fun HS => ?_)
  refine tkh (i := 0) (v := (.agg (ndL p d).toArray)) rfl ⟨by rfl, fun _ hSw => eLb _ rfl rfl nodeT hSw.1 rfl⟩ HS ?_
  refine tkh (i := 2) (v := (.agg #[.int .i64 k, .int .u64 i])) rfl ⟨by rfl, fun _ hSw => eLb _ rfl rfl chgT hSw.2.1 rfl⟩ HS ?_
  try simp only [ly, Act.put]
  refine wpAnyH_ready (rs := [1, 7]) (by kernel_rfl) (by simp) ?_
  refine AllReadyH.cons rfl (fun KK hK => ?_) (AllReadyH.cons rfl (fun KK hK => ?_) AllReadyH.nil)
  · go_simp
    refine (pConf_any p d hBd K _ HS.2.2.2.1).mono ?_
    rintro e w2 ⟨s1, s2, rfl, hU1, hU2, hb⟩
    go_wp2_with fail
    (try replace HCX := HCX.later hb)
    refine hK.out _ _ ⟨HS.1.later hb, HS.2.1.later hb, HS.2.2.1.later hb, HS.2.2.2.1.later hb, HS.2.2.2.2.trans (hb.mono HS.2.2.2.2.size)⟩ (fun HS => ?_)
    clear hK
    try simp only [ly, Act.put]
    refine wpAnyH_ready (rs := [3, 7]) (by kernel_rfl) (by simp) ?_
    refine AllReadyH.cons rfl (fun KK hK => ?_) (AllReadyH.cons rfl (fun KK hK => ?_) AllReadyH.nil)
    · go_simp
      have hsz := hI_ HS.2.2.2.2.size
      have hxl : Hid (True) := hI_ trivial
      (try have hxl := hI_ HCX.lt)
      refine (HNX.out _ _ _ hU1 hU2).mono ?_
      rintro e w3 ⟨a1, c1, a2, c2, rfl, hV1, hV2, hl1, hl2, hb⟩
      go_wp2_with fail
      (try replace HCX := HCX.later hb)
      (try simp only at hV1 hV2 hl1 hl2)
      have HL1 := hI_ hl1
      have HL2 := hI_ hl2
      clear hl1 hl2
      refine hK.out _ _ ⟨HS.1.later hb, HS.2.1.later hb, HS.2.2.1.later hb, HS.2.2.2.1.later hb, HS.2.2.2.2.trans (hb.mono HS.2.2.2.2.size)⟩ (fun HS => ?_)
      clear hK
      try simp only [ly, Act.put]
      refine tkp (i := 4) rfl HS ?_
      try simp only [ly, Act.put]
      refine tkp (i := 5) rfl HS ?_
      try simp only [ly, Act.put]
      refine tkp (i := 6) rfl HS ?_
      try simp only [ly, Act.put]
      refine onh (r := 7) (by kernel_rfl) rfl (fun KK hK => ?_)
      obtain ⟨wa, xa, hwa, hxa, BA, HCX, ZA⟩ := bk_at HS.2.2.2.2 #[.slice none 0 0, .slice none 0 0] 25
      have hxy := hI_ (show w.heap.size < xa ∧ xc < xa ∧ y < xa from ⟨hxa ▸ HS.1.lt, hxa ▸ HS.2.1.lt, hxa ▸ HS.2.2.1.lt⟩)
      (try have HNE1 := hI_ (us_elder hV1 (x := xa) (Nat.le_of_eq hxa)))
      (try have HNE2 := hI_ (us_elder hV2 (x := xa) (Nat.le_of_eq hxa)))
      (try replace hU1 := hU1.later BA)
      (try replace hU2 := hU2.later BA)
      (try replace hV1 := hV1.later BA)
      (try replace hV2 := hV2.later BA)
      go_simp
      clear hwa hxa
      refine hK.out _ _ ⟨HS.1.later BA, HS.2.1.later BA, HS.2.2.1.later BA, HS.2.2.2.1.later BA, HS.2.2.2.2.trans (BA.mono HS.2.2.2.2.size)⟩ (fun HS => ?_)
      clear hK
      try simp only [ly, Act.put]
      refine onh (r := 8) (by kernel_rfl) rfl (fun KK hK => ?_)
      rw [if_pos (by rfl)]
      have hn1 : 0 < V1.length → ∀ q, a1 = some q → q.block ≠ xa := by first | exact HNE1.out | (intro h q e; have := HL1.out h q e; have := hxl.out; omega)
      have hn2 : 0 < L1.length → ∀ q, a2 = some q → q.block ≠ xa := by first | exact HNE2.out | (intro h q e; have := HL2.out h q e; have := hxl.out; omega)
      refine wSb _ _ rfl rfl (M := [.slice a1 V1.length c1, .slice a2 L1.length c2]) rfl confT HCX rfl rfl rfl ?_
      intro w' hk hg
      have HS9 := And.intro (HS.1.grown hg (by have := hxy.out; omega)) (And.intro (HS.2.1.grown hg (by have := hxy.out; omega)) (And.intro (HS.2.2.1.grown hg (by have := hxy.out; omega)) (And.intro (HS.2.2.2.1.grown hg (by have := hxy.out; omega) HCX.bx.ty boxConf) (bGr HS.2.2.2.2 hg HS.2.2.2.2.size (by have := hxy.out; omega)))))
      replace hV1 := hV1.grown hg hn1
      replace hV2 := hV2.grown hg hn2
      replace HCX := hk
      clear hk hg hn1 hn2
      refine hK.out _ _ HS9 (fun HS => ?_)
      clear HS9
      clear hK
      try simp only [ly, Act.put]
      refine tkp (i := 9) rfl HS ?_
      try simp only [ly, Act.put]
      refine wpAnyH_done (by kernel_rfl) ?_ _
      go_wp2_with fail
      go_meet
      exact ⟨xa, a1, c1, a2, c2, rfl, rfl, hxy.out.1, hxy.out.2.2, HCX, hV1, hV2, HS.1, HS.2.2.1, HS.2.2.2.1, HS.2.2.2.2⟩
    · obtain ⟨wa, xa, hwa, hxa, BA, HCX, ZA⟩ := bk_at HS.2.2.2.2 #[.slice none 0 0, .slice none 0 0] 25
      have hxy := hI_ (show w.heap.size < xa ∧ xc < xa ∧ y < xa from ⟨hxa ▸ HS.1.lt, hxa ▸ HS.2.1.lt, hxa ▸ HS.2.2.1.lt⟩)
      (try have HNE1 := hI_ (us_elder hV1 (x := xa) (Nat.le_of_eq hxa)))
      (try have HNE2 := hI_ (us_elder hV2 (x := xa) (Nat.le_of_eq hxa)))
      (try replace hU1 := hU1.later BA)
      (try replace hU2 := hU2.later BA)
      (try replace hV1 := hV1.later BA)
      (try replace hV2 := hV2.later BA)
      go_simp
      clear hwa hxa
      refine hK.out _ _ ⟨HS.1.later BA, HS.2.1.later BA, HS.2.2.1.later BA, HS.2.2.2.1.later BA, HS.2.2.2.2.trans (BA.mono HS.2.2.2.2.size)⟩ (fun HS => ?_)
      clear hK
      try simp only [ly, Act.put]
      refine onh (r := 3) (by kernel_rfl) rfl (fun KK hK => ?_)
      go_simp
      have hsz := hI_ HS.2.2.2.2.size
      have hxl : Hid (True) := hI_ trivial
      (try have hxl := hI_ HCX.lt)
      refine (HNX.out _ _ _ hU1 hU2).mono ?_
      rintro e w3 ⟨a1, c1, a2, c2, rfl, hV1, hV2, hl1, hl2, hb⟩
      go_wp2_with fail
      (try replace HCX := HCX.later hb)
      (try simp only at hV1 hV2 hl1 hl2)
      have HL1 := hI_ hl1
      have HL2 := hI_ hl2
      clear hl1 hl2
      refine hK.out _ _ ⟨HS.1.later hb, HS.2.1.later hb, HS.2.2.1.later hb, HS.2.2.2.1.later hb, HS.2.2.2.2.trans (hb.mono HS.2.2.2.2.size)⟩ (fun HS => ?_)
      clear hK
      try simp only [ly, Act.put]
      refine tkp (i := 4) rfl HS ?_
      try simp only [ly, Act.put]
      refine tkp (i := 5) rfl HS ?_
      try simp only [ly, Act.put]
      refine tkp (i := 6) rfl HS ?_
      try simp only [ly, Act.put]
      refine onh (r := 8) (by kernel_rfl) rfl (fun KK hK => ?_)
      rw [if_pos (by rfl)]
      have hn1 : 0 < V1.length → ∀ q, a1 = some q → q.block ≠ xa := by first | exact HNE1.out | (intro h q e; have := HL1.out h q e; have := hxl.out; omega)
      have hn2 : 0 < L1.length → ∀ q, a2 = some q → q.block ≠ xa := by first | exact HNE2.out | (intro h q e; have := HL2.out h q e; have := hxl.out; omega)
      refine wSb _ _ rfl rfl (M := [.slice a1 V1.length c1, .slice a2 L1.length c2]) rfl confT HCX rfl rfl rfl ?_
      intro w' hk hg
      have HS9 := And.intro (HS.1.grown hg (by have := hxy.out; omega)) (And.intro (HS.2.1.grown hg (by have := hxy.out; omega)) (And.intro (HS.2.2.1.grown hg (by have := hxy.out; omega)) (And.intro (HS.2.2.2.1.grown hg (by have := hxy.out; omega) HCX.bx.ty boxConf) (bGr HS.2.2.2.2 hg HS.2.2.2.2.size (by have := hxy.out; omega)))))
      replace hV1 := hV1.grown hg hn1
      replace hV2 := hV2.grown hg hn2
      replace HCX := hk
      clear hk hg hn1 hn2
      refine hK.out _ _ HS9 (fun HS => ?_)
      clear HS9
      clear hK
      try simp only [ly, Act.put]
      refine tkp (i := 9) rfl HS ?_
      try simp only [ly, Act.put]
      refine wpAnyH_done (by kernel_rfl) ?_ _
      go_wp2_with fail
      go_meet
      exact ⟨xa, a1, c1, a2, c2, rfl, rfl, hxy.out.1, hxy.out.2.2, HCX, hV1, hV2, HS.1, HS.2.2.1, HS.2.2.2.1, HS.2.2.2.2⟩
  · obtain ⟨wa, xa, hwa, hxa, BA, HCX, ZA⟩ := bk_at HS.2.2.2.2 #[.slice none 0 0, .slice none 0 0] 25
    have hxy := hI_ (show w.heap.size < xa ∧ xc < xa ∧ y < xa from ⟨hxa ▸ HS.1.lt, hxa ▸ HS.2.1.lt, hxa ▸ HS.2.2.1.lt⟩)
    (try have HNE1 := hI_ (us_elder hV1 (x := xa) (Nat.le_of_eq hxa)))
    (try have HNE2 := hI_ (us_elder hV2 (x := xa) (Nat.le_of_eq hxa)))
    (try replace hU1 := hU1.later BA)
    (try replace hU2 := hU2.later BA)
    (try replace hV1 := hV1.later BA)
    (try replace hV2 := hV2.later BA)
    go_simp
    clear hwa hxa
    refine hK.out _ _ ⟨HS.1.later BA, HS.2.1.later BA, HS.2.2.1.later BA, HS.2.2.2.1.later BA, HS.2.2.2.2.trans (BA.mono HS.2.2.2.2.size)⟩ (fun HS => ?_)
    clear hK
    try simp only [ly, Act.put]
    refine onh (r := 1) (by kernel_rfl) rfl (fun KK hK => ?_)
    go_simp
    refine (pConf_any p d hBd K _ HS.2.2.2.1).mono ?_
    rintro e w2 ⟨s1, s2, rfl, hU1, hU2, hb⟩
    go_wp2_with fail
    (try replace HCX := HCX.later hb)
    refine hK.out _ _ ⟨HS.1.later hb, HS.2.1.later hb, HS.2.2.1.later hb, HS.2.2.2.1.later hb, HS.2.2.2.2.trans (hb.mono HS.2.2.2.2.size)⟩ (fun HS => ?_)
    clear hK
    try simp only [ly, Act.put]
    refine onh (r := 3) (by kernel_rfl) rfl (fun KK hK => ?_)
    go_simp
    have hsz := hI_ HS.2.2.2.2.size
    have hxl : Hid (True) := hI_ trivial
    (try have hxl := hI_ HCX.lt)
    refine (HNX.out _ _ _ hU1 hU2).mono ?_
    rintro e w3 ⟨a1, c1, a2, c2, rfl, hV1, hV2, hl1, hl2, hb⟩
    go_wp2_with fail
    (try replace HCX := HCX.later hb)
    (try simp only at hV1 hV2 hl1 hl2)
    have HL1 := hI_ hl1
    have HL2 := hI_ hl2
    clear hl1 hl2
    refine hK.out _ _ ⟨HS.1.later hb, HS.2.1.later hb, HS.2.2.1.later hb, HS.2.2.2.1.later hb, HS.2.2.2.2.trans (hb.mono HS.2.2.2.2.size)⟩ (fun HS => ?_)
    clear hK
    try simp only [ly, Act.put]
    refine tkp (i := 4) rfl HS ?_
    try simp only [ly, Act.put]
    refine tkp (i := 5) rfl HS ?_
    try simp only [ly, Act.put]
    refine tkp (i := 6) rfl HS ?_
    try simp only [ly, Act.put]
    refine onh (r := 8) (by kernel_rfl) rfl (fun KK hK => ?_)
    rw [if_pos (by rfl)]
    have hn1 : 0 < V1.length → ∀ q, a1 = some q → q.block ≠ xa := by first | exact HNE1.out | (intro h q e; have := HL1.out h q e; have := hxl.out; omega)
    have hn2 : 0 < L1.length → ∀ q, a2 = some q → q.block ≠ xa := by first | exact HNE2.out | (intro h q e; have := HL2.out h q e; have := hxl.out; omega)
    refine wSb _ _ rfl rfl (M := [.slice a1 V1.length c1, .slice a2 L1.length c2]) rfl confT HCX rfl rfl rfl ?_
    intro w' hk hg
    have HS9 := And.intro (HS.1.grown hg (by have := hxy.out; omega)) (And.intro (HS.2.1.grown hg (by have := hxy.out; omega)) (And.intro (HS.2.2.1.grown hg (by have := hxy.out; omega)) (And.intro (HS.2.2.2.1.grown hg (by have := hxy.out; omega) HCX.bx.ty boxConf) (bGr HS.2.2.2.2 hg HS.2.2.2.2.size (by have := hxy.out; omega)))))
    replace hV1 := hV1.grown hg hn1
    replace hV2 := hV2.grown hg hn2
    replace HCX := hk
    clear hk hg hn1 hn2
    refine hK.out _ _ HS9 (fun HS => ?_)
    clear HS9
    clear hK
    try simp only [ly, Act.put]
    refine tkp (i := 9) rfl HS ?_
    try simp only [ly, Act.put]
    refine wpAnyH_done (by kernel_rfl) ?_ _
    go_wp2_with fail
    go_meet
    exact ⟨xa, a1, c1, a2, c2, rfl, rfl, hxy.out.1, hxy.out.2.2, HCX, hV1, hV2, HS.1, HS.2.2.1, HS.2.2.2.1, HS.2.2.2.2⟩
 obtain ⟨xa, a1, c1, a2, c2, rfl, rfl, hx1, hx2, HCX, hV1, hV2, HN, HR, HM, HB⟩ := hcut
 clear HG
 go_wp2_with (first
  | (refine lBk rfl _ rfl rfl confT HCX rfl ?_))
 refine (HBY.out _ _ _ _ _ hV1 hV2 (HTZ.out _ HB)).mono ?_
 rintro e w3 ⟨rfl, hb⟩
 replace HB := HB.trans (hb.mono HB.size)
 replace HR := HR.later hb
 replace HN := HN.later hb
 replace HM := HM.later hb
 clear hb hV1 hV2 HCX
 go_wp2_with (first
  | (refine lBk rfl _ rfl rfl nodeT HN rfl ?_))
 refine (HAD.out _ (Nat.le_trans hK HB.size) HM).mono ?_
 rintro e w4 hA
 unfold AdP at hA
 rw [if_pos h0, HP1.out] at hA
 obtain ⟨D1, rfl, hm1, hb⟩ := hA
 replace HB := HB.trans (hb.mono HB.size)
 replace HR := HR.later hb
 replace HN := HN.later hb
 replace HM := hm1
 clear hb hm1
 go_wp2_with (first
  | (refine sBk rfl _ _ rfl rfl rfl nodeT HN rfl rfl rfl ?_; intro w' hk hg; replace HR := HR.grown hg (by have := hyn.out; omega); replace HM := HM.grown hg hK HN.bx.ty bNd; replace HB := bGr HB hg HB.size (Nat.le_refl _); replace HN := hk; clear hk hg)
  | (refine lBk rfl _ rfl rfl nodeT HN rfl ?_))
 refine (rmOk P1 D1 hb1 K _ (Nat.le_trans hK HB.size) HM).mono ?_
 rw [HP2.out]
 rintro e w5 ⟨D2, rfl, hm2, hb⟩
 replace HB := HB.trans (hb.mono HB.size)
 replace HR := HR.later hb
 replace HN := HN.later hb
 replace HM := hm2
 clear hb hm2
 go_wp2_with fail
 have HSZ := hI_ HB.size
 refine (pSpread_any P2 D2 hb2 K _ (Nat.le_trans hK HB.size) HM).mono ?_
 rw [HSP.out]
 rintro e w6 ⟨D3, v, O, rfl, hm3, hC, hO, hb⟩
 replace HB := HB.trans (hb.mono HB.size)
 replace HR := HR.later hb
 replace HN := HN.later hb
 replace HM := hm3
 replace hC := hC.mono HSZ.out
 simp only at hO HM
 have HO := hI_ hO
 clear hb hm3 hO
 go_wp2_with (first
  | (refine sBk rfl _ _ rfl rfl rfl nodeT HN rfl rfl rfl ?_; intro w' hk hg; replace HR := HR.grown hg (by have := hyn.out; omega); replace HM := HM.grown hg hK HN.bx.ty bNd; replace hC := hC.box hg HN.bx.ty boxNm; replace HB := bGr HB hg HB.size (Nat.le_refl _); replace HN := hk; clear hk hg))
 replace HR := HR.later ((Below.refl _ _).drew)
 replace hC := hC.later ((Below.refl _ _).drew)
 refine wp_region_held_drew (S := fun w' => Bk w' w.heap.size 34 (ndL P3 D3) ∧ NdM K w' P3 D3 ∧ Below w.heap.size w w') (by kernel_rfl) (⟨HN.later ((Below.refl _ _).drew), HM.later ((Below.refl _ _).drew), HB.drew⟩) (fun HS => ?_)
 refine tkh (i := 0) (v := (.agg (ndL P3 D3).toArray)) rfl ⟨by rfl, fun _ hSw => eLb _ rfl rfl nodeT hSw.1 rfl⟩ HS ?_
 refine tkh (i := 1) (v := (.agg (ndL P3 D3).toArray)) rfl ⟨by rfl, fun _ hSw => eLb _ rfl rfl nodeT hSw.1 rfl⟩ HS ?_
 try simp only [ly, Act.put]
 refine tkp (i := 3) rfl HS ?_
 try simp only [ly, Act.put]
 refine onh (r := 2) (by kernel_rfl) rfl (fun KK hK => ?_)
 go_simp
 refine (pEndW_any P3 D3 hb3.base hb3.ents K _ HS.2.1).mono ?_
 rintro e w7 ⟨rfl, hb⟩
 replace HR := HR.later hb
 replace hC := hC.later hb
 go_wp2_with fail
 refine hK.out _ _ ⟨HS.1.later hb, HS.2.1.later hb, HS.2.2.trans (hb.mono HS.2.2.size)⟩ (fun HS => ?_)
 clear hK
 try simp only [ly, Act.put]
 refine onh (r := 4) (by kernel_rfl) rfl (fun KK hK => ?_)
 rw [if_pos (by rfl)]
 refine wSb _ _ rfl rfl (M := ndL P3 D3) rfl nodeT HR rfl rfl rfl ?_
 intro w' hk hg
 have HS9 := And.intro (HS.1.grown hg (by have := hyn.out; omega)) (And.intro (HS.2.1.grown hg (by have := hyn.out; omega) HR.bx.ty bNd) (bGr HS.2.2 hg HS.2.2.size (by have := hyn.out; omega)))
 replace hC := hC.box hg HR.bx.ty boxNm
 replace HR := hk
 clear hk hg
 refine hK.out _ _ HS9 (fun HS => ?_)
 clear HS9
 clear hK
 try simp only [ly, Act.put]
 refine tkp (i := 5) rfl HS ?_
 try simp only [ly, Act.put]
 refine tkp (i := 6) rfl HS ?_
 try simp only [ly, Act.put]
 refine tkp (i := 7) rfl HS ?_
 try simp only [ly, Act.put]
 refine wpAnyH_done (by kernel_rfl) ?_ _
 go_wp2_with fail
 refine bodyPost_ret (v := .tuple #[ndV P3 D3, .int .u64 P3.endI, v, .int .i64 0]) (by rw [results_bk_tmp3 Tryz.results10 _ rfl nodeT HR rfl]; rfl) rfl ?_
 exact HF.out _ _ _ _ HS.2.1 hC HO.out HS.2.2
end Go.Proofs.YtdcpiaoadbbdoaaGreatDoor
