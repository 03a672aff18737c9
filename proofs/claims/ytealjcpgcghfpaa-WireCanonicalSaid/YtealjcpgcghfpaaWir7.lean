/-
  The fixed examples of the statements of layer 3 (awake) hold.
-/
import Derived.Test.YtealjcpgcghfpaaSaid
import Derived.Test.YtealjcpgcghfpaaWir2
import Derived.Test.YtealjcpgcghfpaaWir6
namespace Go.Proofs.Ytealjcpgcghfpaa
open Go.RowKit

theorem ex_uint : enc (Int.toNat 300) = [172, 2] := by decide +kernel
theorem ex_text : encT (ls ⟨#[97, 98]⟩) = [2, 97, 98] := by decide +kernel
theorem ex_dec : dec [172, 2, 2, 97, 98] = (300, 2, 0) := by decide +kernel
theorem ex_form : dec [128, 0] = (0, 0, 6) := by decide +kernel

set_option maxHeartbeats 2000000 in
theorem awake3_any (w : World) : Calls Try.prog 8 #[] w (Yes w) := by
  have E1 := Lib.hid (d_of ex_dec)
  have E2 := Lib.hid (d_of ex_form)
  go_enter Try.func8, Try.ntmps8
  go_wp2_with fail
  refine (appUint_any none 0 0 0 [] 300 w (Has.nil _ _ _) (fun _ => rfl) (by omega) (Nat.zero_le _) (by omega) (by omega)).mono ?_
  rintro e w1 ⟨⟨v, rfl, hown⟩, hb⟩
  rw [ex_uint] at hown
  have hown1 : w1.ownsRow w.heap.size 5 1 v 2 (([172, 2] : List UInt8).map bv) := hown
  clear hown
  obtain ⟨A1, c1, rfl, h1, hc1⟩ := Has.of_own hown1
  have m1 := of_own_none hown1
  clear hown1
  go_wp2_with fail
  refine (appText_any A1 2 c1 _ [172, 2] ⟨#[97, 98]⟩ w1 h1 m1 (by omega) (Nat.le_refl _) (by decide)).mono ?_
  rintro e w2 ⟨⟨v2, rfl, hown⟩, hb2⟩
  rw [ex_text] at hown
  have hown2 : w2.ownsRow w1.heap.size 5 1 v2 5 (([172, 2, 2, 97, 98] : List UInt8).map bv) := hown
  clear hown h1 m1 hc1
  obtain ⟨A2, c2, rfl, h2, hc2⟩ := Has.of_own hown2
  clear hown2
  replace hb := hb.trans (hb2.mono hb.size)
  clear hb2
  go_wp2_with fail
  refine (uint_any A2 5 c2 _ [172, 2, 2, 97, 98] w2 h2 hc2 (by omega)).mono ?_
  rintro e w' ⟨rfl, rfl⟩
  rw [E1.out.1, E1.out.2.1, E1.out.2.2]
  clear h2
  go_wp2_with fail
  refine (uint_any _ 2 2 _ [128, 0] _ (Has.laid w2 _ _ _ 2 _ (by rfl) rfl) (by omega) (by omega)).mono ?_
  rintro e w3 ⟨rfl, rfl⟩
  rw [E2.out.1, E2.out.2.1, E2.out.2.2]
  go_wp2
  go_ret
  exact ⟨rfl, hb.alloc hb.size _⟩

end Go.Proofs.Ytealjcpgcghfpaa
