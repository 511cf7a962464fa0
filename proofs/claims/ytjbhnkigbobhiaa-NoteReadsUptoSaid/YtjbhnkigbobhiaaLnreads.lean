/- NoteReads: whatever bytes there are, the notes in them, and how many bytes they have, are as the document says. -/
import Derived.Test.YtjbhnkigbobhiaaKs
import Derived.Test.YtjbhnkigbobhiaaVd
import Derived.Test.YtjbhnkigbobhiaaRr
namespace Go.Proofs.Ytjbhnkigbobhiaa
open Go.RowKit

set_option maxHeartbeats 2000000 in
theorem law_NoteReads (b : ByteArray) (hb : b.size ≤ 1048576) (w : World) :
    Calls Try.prog 3 #[.string b] w fun e w' => e = .returned (.bool true) ∧ Below w.heap.size w w' := by
  obtain ⟨⟨l⟩⟩ := b
  have hl : l.length ≤ 2097152 := by have h : l.toArray.size ≤ 1048576 := hb; simp at h; omega
  have hlen : (rdB l).1.length ≤ 140737488351232 := by have := rd_less l l.length; unfold rdB; omega
  obtain ⟨L, hL⟩ : ∃ L, (rdB l).1 = L := ⟨_, rfl⟩
  obtain ⟨z, hz⟩ : ∃ z : Int, (l.length : Int) - (rdB l).2.length = z := ⟨_, rfl⟩
  rw [hL] at hlen
  have HL := Lib.hid hL
  have HZ := Lib.hid hz
  clear hL hz
  go_enter Try.func3, Try.ntmps3
  go_wp2_with fail
  refine (shown_any _).mono ?_
  rintro e w1 ⟨rfl, hb1⟩
  have B1 : Below w.heap.size w w1 := hb1
  clear hb1
  go_wp2_with fail
  refine (pRead_any l hl _).mono ?_
  rintro e w2 ⟨v2, rfl, hown2, hb2⟩
  rw [HZ.out]
  rw [HL.out] at hown2
  obtain ⟨a2, c2, rfl, hN2⟩ := nts_of_owns hown2
  have B2 := B1.trans (hb2.mono B1.size)
  clear hb2 hown2 B1
  go_wp2_with fail
  refine (refRead_any l hl _).mono ?_
  rintro e w3 ⟨v3, rfl, hown3, hb3⟩
  rw [HZ.out]
  rw [HL.out] at hown3
  obtain ⟨a3, c3, rfl, hN3⟩ := nts_of_owns hown3
  have hN2' := hN2.later hb3
  have B3 := B2.trans (hb3.mono B2.size)
  clear hb3 hown3 hN2 B2
  go_wp2_with fail
  refine (refNotes_eq a2 a3 _ c2 c3 L rfl hlen _ hN2' hN3).mono ?_
  rintro e w4 ⟨rfl, hb4⟩
  have B4 := B3.trans (hb4.mono B3.size)
  clear hb4 hN2' hN3 B3
  go_wp2_with fail
  go_ret
  exact ⟨by simp, B4⟩
end Go.Proofs.Ytjbhnkigbobhiaa
