/-
  The law's 'same': two disks that are one plain disk look the same.
-/
import Derived.Test.YtbknpfngboioeaaDrE
import Derived.Test.YtbknpfngboioeaaDkE
import Derived.Test.YtbknpfngboioeaaDkK
namespace Go.Proofs.Ytbknpfngboioeaa
open Go.RowKit

theorem eqL_same (l : List UInt8) : eqL l l = true := by simp [eqL]
set_option maxRecDepth 20000 in
set_option maxHeartbeats 3200000 in
theorem same_any {w : World} {F1 F2 : Nat → Prop} {a1 a2 n : Nat} {S : Dsk} (h1 : PD w F1 a1 n S) (h2 : RD w F2 a2 n S) :
    Calls Try.prog 25 #[.pointer (some ⟨a1, 0, none⟩), .pointer (some ⟨a2, 0, none⟩)] w (Yes w) := by
  have H1 := Lib.hid h1
  have H2 := Lib.hid h2
  have c1 := sectors_any h1
  have c2 := rsectors_any h2
  have c3 := off_any h1
  have c4 := roff_any h2
  have q1 : ((n : Int) == (n : Int)) = true := by simp
  have q2 : (S.off == S.off) = true := by simp
  obtain ⟨L, hL⟩ : ∃ L, L = 64 * n := ⟨_, rfl⟩
  have HL := Lib.hid hL
  have Hdl : Hid ((dirtyZ n S.ca).length ≤ 1000000) := by show _ ≤ _; have := dirtyZ_len n S.ca; have := h1.ok.n4; omega
  clear h1 h2 hL
  go_enter Try.func25, Try.ntmps25
  go_wp2_with fail
  refine c1.mono ?_
  rintro e w' ⟨rfl, rfl⟩
  go_wp2_with fail
  refine c2.mono ?_
  rintro e w' ⟨rfl, rfl⟩
  go_wp2_with fail
  refine c3.mono ?_
  rintro e w' ⟨rfl, rfl⟩
  go_wp2_with fail
  refine c4.mono ?_
  rintro e w' ⟨rfl, rfl⟩
  generalize S.off = so at q2
  go_wp2_with fail
  refine (dirty_any H1.out).mono ?_
  rintro e w1 ⟨v1, rfl, ho1, hb1⟩
  obtain ⟨A1, k1, rfl, hd1, _⟩ := Has.of_own ho1
  have HB1 := Lib.hid hb1
  have HD1 := Lib.hid hd1
  clear ho1 hb1 hd1
  go_wp2_with fail
  refine (rdirty_any (H2.out.below HB1.out)).mono ?_
  rintro e w2 ⟨v2, rfl, ho2, hb2⟩
  obtain ⟨A2, k2, rfl, hd2, _⟩ := Has.of_own ho2
  have HB2 := Lib.hid (HB1.out.trans (hb2.mono HB1.out.size))
  have HD1' := Lib.hid ((HD1.out.below hb2).more hb2.size)
  have HD2 := Lib.hid hd2
  clear ho2 hb2 hd2
  go_wp2_with fail
  refine (ints_any A1 A2 _ k1 _ k2 w2.heap.size (dirtyZ n S.ca) w2 HD1'.out HD2.out Hdl.out (Nat.le_refl _)).mono ?_
  rintro e w3 ⟨rfl, hb3⟩
  have HB3 := Lib.hid (HB2.out.trans (hb3.mono HB2.out.size))
  clear hb3
  go_wp2_with fail
  refine (image_L (H1.out.below HB3.out) HL.out).mono ?_
  rintro e w4 ⟨g, rfl, hg, hrow, hb4⟩
  have HI1 := Lib.hid (has_of_row hrow (by rw [flat_length H1.out.ok.st, ← HL.out]))
  have HB4 := Lib.hid (HB3.out.trans (hb4.mono HB3.out.size))
  clear hg hrow hb4
  go_wp2_with fail
  refine (rimage_any (H2.out.below HB4.out)).mono ?_
  rintro e w5 ⟨v5, L5, rfl, hL5, ho5, hb5⟩
  obtain ⟨A5, k5, rfl, hd5, _⟩ := Has.of_own ho5
  have HB5 := Lib.hid (HB4.out.trans (hb5.mono HB4.out.size))
  have HI1' := Lib.hid ((HI1.out.below hb5).more hb5.size)
  have HI5 := Lib.hid hd5
  clear ho5 hb5 hd5 hL5
  go_wp2_with fail
  refine (bytes_any _ A5 L L L5 k5 w5.heap.size _ _ w5 HI1'.out HI5.out).mono ?_
  rintro e w6 ⟨rfl, rfl⟩
  rw [eqL_same]
  go_wp2
  go_ret
  exact ⟨ret_bool (by simp), HB5.out⟩

end Go.Proofs.Ytbknpfngboioeaa
