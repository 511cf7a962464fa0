/- The document's example, at the head of all laws of layer 5. -/
import Derived.Test.YtkifgjgjhjhknaaLn
namespace Go.Proofs.Ytkifgjgjhjhknaa
open Go.RowKit

def zE : ByteArray := ⟨#[]⟩
def exL : List En := [⟨1, ⟨#[]⟩⟩, ⟨1, ⟨#[]⟩⟩, ⟨2, ⟨#[]⟩⟩]
def exM : List En := [⟨1, ⟨#[]⟩⟩, ⟨3, ⟨#[]⟩⟩]
def exN : List En := [⟨1, ⟨#[]⟩⟩, ⟨1, ⟨#[]⟩⟩, ⟨3, ⟨#[]⟩⟩]
theorem ex_join : joinG ⟨0, 0, ⟨#[]⟩, exL⟩ 1 1 exM = (⟨0, 0, ⟨#[]⟩, exN⟩, 3, true) := by rfl
theorem ex_no : joinG ⟨0, 0, ⟨#[]⟩, exL⟩ 2 2 [] = (⟨0, 0, ⟨#[]⟩, exL⟩, 0, false) := by rfl
theorem ents_lit (w : World) (m : Nat) (hm : m = w.heap.size) (L : List En) (T : TypeId) : Ents (w.alloc (.cells (esCells L).toArray T)) (some ⟨m, 0, none⟩) L := fun j x hx => by
  subst hm
  have hj := (List.getElem?_eq_some_iff.1 hx).1
  have h : ∀ i (hi : i < 2), (w.alloc (.cells (esCells L).toArray T)).cell? ⟨w.heap.size, j * 2 + i, none⟩ = some ((enCells x)[i]'hi) := fun i hi => by
    refine (World.cell?_alloc_new _ _ _ _).trans ?_
    rw [List.getElem?_toArray]; exact esCells_at L j x hx i hi
  exact ⟨_, 0, rfl, by simp, by simpa [enCells] using h 0 (by omega), by simpa [enCells] using h 1 (by omega)⟩
set_option maxHeartbeats 2000000 in
theorem shown_any (w : World) : Calls Try.prog 9 #[] w fun e w' => e = .returned (.bool true) ∧ Below w.heap.size w w' := by
  have E0 := ents_lit w w.heap.size rfl exL 39
  have HEL := Lib.hid E0
  have HEM := Lib.hid (fun (w : World) => ents_lit w w.heap.size rfl exM 39)
  clear E0
  go_enter Try.func9, Try.ntmps9
  go_wp2_with fail
  have HE1 := Lib.hid (HEL.out.later ((Below.refl _ _).alloc (Nat.le_refl _) (.cells #[.int .u64 0, .int .u64 0, .string ⟨#[]⟩, .slice (some ⟨w.heap.size, 0, none⟩) 3 3] 25)))
  have HL1 := Lib.hid (Lb.new (w := w.alloc (.cells (esCells exL).toArray 39)) (x := w.heap.size + 1) (by simp) 0 0 ⟨#[]⟩ (.slice (some ⟨w.heap.size, 0, none⟩) 3 3) 25)
  have B1 : Below w.heap.size w ((w.alloc (.cells (esCells exL).toArray 39)).alloc (.cells #[.int .u64 0, .int .u64 0, .string ⟨#[]⟩, .slice (some ⟨w.heap.size, 0, none⟩) 3 3] 25)) := by go_grown
  have hcells : (#[Value.int .u64 1, .string ⟨#[]⟩, .int .u64 1, .string ⟨#[]⟩, .int .u64 2, .string ⟨#[]⟩] : Array Value) = (esCells exL).toArray := rfl
  rw [hcells]
  clear hcells HEL
  refine (pLast_any 0 0 3 3 ⟨#[]⟩ (some ⟨w.heap.size, 0, none⟩) exL rfl (by omega) (by omega) _ HE1.out).mono ?_
  generalize ((w.alloc (.cells (esCells exL).toArray 39)).alloc (.cells #[.int .u64 0, .int .u64 0, .string ⟨#[]⟩, .slice (some ⟨w.heap.size, 0, none⟩) 3 3] 25)) = W at *
  rintro e w1 ⟨rfl, hb1⟩
  have hlast : lastT 0 exL = 2 := rfl
  rw [hlast]
  have HE2 := Lib.hid (HE1.out.later hb1)
  have HL2 := Lib.hid (HL1.out.later hb1)
  have B2 := B1.trans (hb1.mono B1.size)
  obtain ⟨l0, l1, l2, l3, lz, ll⟩ := HL2.out
  clear hb1 hlast B1 HE1 HL1
  go_wp2_with fail
  have hcells : (#[Value.int .u64 1, .string ⟨#[]⟩, .int .u64 3, .string ⟨#[]⟩] : Array Value) = (esCells exM).toArray := rfl
  rw [hcells]
  clear hcells
  have B3 : Below w1.heap.size w1 (w1.alloc (.cells (esCells exM).toArray 39)) := (Below.refl _ _).alloc (Nat.le_refl _) _
  refine (pJoin_any 0 0 3 3 1 1 2 2 ⟨#[]⟩ (some ⟨w.heap.size, 0, none⟩) (some ⟨w1.heap.size, 0, none⟩) exL exM rfl (by omega) (by omega) (by decide) (by omega) rfl (by omega) (by omega) (by decide) (by omega) _ (HE2.out.later B3) (HEM.out w1)).mono ?_
  rintro e w2 ⟨a2, c2, rfl, hc2, hcm2, hE2, hb2⟩
  rw [ex_join] at hc2 hE2 ⊢
  have hlen : exN.length = 3 := rfl
  simp only [hlen] at hc2 ⊢
  have HE3 := Lib.hid (HE2.out.later (B3.trans (hb2.mono B3.size)))
  have HL3 := Lib.hid (HL2.out.later (B3.trans (hb2.mono B3.size)))
  have B4 := B2.trans ((B3.trans (hb2.mono B3.size)).mono B2.size)
  obtain ⟨b2, o2, rfl, hb2lt, q0, q1⟩ := hE2 2 ⟨3, ⟨#[]⟩⟩ rfl
  have Q0 := (((Below.refl w2.heap.size w2).alloc (Nat.le_refl _) (.cells #[.int .u64 0, .int .u64 0, .string ⟨#[]⟩, .slice (some ⟨b2, o2, none⟩) 3 c2] 25)).cell (p := ⟨b2, o2 + 2 * 2, none⟩) hb2lt).trans q0
  have HX2 := Lib.hid (Lb.new (w := w2) rfl 0 0 ⟨#[]⟩ (.slice (some ⟨b2, o2, none⟩) 3 c2) 25)
  have HL4 := Lib.hid (HL3.out.past (.cells #[.int .u64 0, .int .u64 0, .string ⟨#[]⟩, .slice (some ⟨b2, o2, none⟩) 3 c2] 25))
  have HE4 := Lib.hid (HE3.out.later ((Below.refl _ _).alloc (Nat.le_refl _) (.cells #[.int .u64 0, .int .u64 0, .string ⟨#[]⟩, .slice (some ⟨b2, o2, none⟩) 3 c2] 25)))
  have B5 := B4.alloc B4.size (.cells #[.int .u64 0, .int .u64 0, .string ⟨#[]⟩, .slice (some ⟨b2, o2, none⟩) 3 c2] 25)
  obtain ⟨m0, m1, m2, m3, mz, ml⟩ := HL4.out
  have h2lt : b2 < (w2.alloc (.cells #[.int .u64 0, .int .u64 0, .string ⟨#[]⟩, .slice (some ⟨b2, o2, none⟩) 3 c2] 25)).heap.size := by simp; omega
  clear hb2 l0 l1 l2 l3 lz q0 q1 hlen hE2
  go_wp2_with fail
  generalize (w2.alloc (.cells #[.int .u64 0, .int .u64 0, .string ⟨#[]⟩, .slice (some ⟨b2, o2, none⟩) 3 c2] 25)) = W2 at *
  refine (pJoin_any 0 0 3 3 2 2 0 0 ⟨#[]⟩ (some ⟨w.heap.size, 0, none⟩) none exL [] rfl (by omega) (by omega) (by decide) (by omega) rfl (by omega) (by omega) (by decide) (by omega) _ HE4.out (Ents.nil _ _)).mono ?_
  rintro e w3 ⟨a3, c3, rfl, hc3, hcm3, hE3, hb3⟩
  rw [ex_no] at hc3 hE3 ⊢
  have hlen : exL.length = 3 := rfl
  simp only [hlen] at hc3 ⊢
  have QQ := (hb3.cell (p := ⟨b2, o2 + 2 * 2, none⟩) h2lt).trans Q0
  obtain ⟨t0, t1, t2, t3, tz, tl⟩ := HX2.out.later hb3
  have B6 := B5.trans (hb3.mono B5.size)
  have h3lt : b2 < w3.heap.size := Nat.lt_of_lt_of_le h2lt hb3.size
  have Q5 : (w3.alloc (.cells #[.int .u64 0, .int .u64 0, .string ⟨#[]⟩, .slice a3 3 c3] 25)).cell? ⟨b2, o2 + 4, none⟩ = some (.int .u64 3) := (((Below.refl w3.heap.size w3).alloc (Nat.le_refl _) _).cell (p := ⟨b2, o2 + 4, none⟩) h3lt).trans QQ
  clear m0 m1 m2 m3 mz Q0 hb3 QQ
  go_wp2_with fail
  go_ret
  exact ⟨rfl, B6.alloc B6.size _⟩
end Go.Proofs.Ytkifgjgjhjhknaa
