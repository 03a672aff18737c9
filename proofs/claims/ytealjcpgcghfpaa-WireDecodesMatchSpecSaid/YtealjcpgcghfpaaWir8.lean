/-
  The walks of WireDecodesMatchSpec and WireRoundTrip: each returns true.
-/
import Derived.Test.YtealjcpgcghfpaaWir7
namespace Go.Proofs.Ytealjcpgcghfpaa
open Go.RowKit

set_option maxHeartbeats 2000000 in
theorem wireDecodes_walk (A : Option Addr) (len cap : Nat) (zs : List Int) (w : World) (h : In8 w A len cap zs) :
    Calls Try.prog 4 #[.slice A len cap] w (Yes w) := by
  obtain ⟨l, hl⟩ := arg8_of h
  have HA := Lib.hid hl
  clear hl h
  by_cases hlen : len ≤ 6000
  · have hlen' : ¬ 6000 < (len : Int) := by omega
    go_enter Try.func4, Try.ntmps4
    go_wp2_with fail
    refine (uint_any A len cap _ l w HA.out.1 HA.out.2.1 (by omega)).mono ?_
    rintro e w' ⟨rfl, rfl⟩
    go_wp2_with fail
    refine (refDecUint_any A len cap _ l w HA.out.1 (by omega)).mono ?_
    rintro e w' ⟨rfl, rfl⟩
    go_wp2_with fail
    refine (text_any A len cap _ l w HA.out.1 HA.out.2.1 HA.out.2.2.1 (by omega)).mono ?_
    rintro e w' ⟨rfl, rfl⟩
    go_wp2_with fail
    refine (refDecText_any A len cap _ l w HA.out.1 HA.out.2.1 HA.out.2.2.1 (by omega)).mono ?_
    rintro e w' ⟨rfl, rfl⟩
    go_wp2_with fail
    refine (fixed_any A len cap _ l w HA.out.1 (by omega)).mono ?_
    rintro e w1 ⟨rfl, hb⟩
    have h1 := HA.out.1.below hb
    go_wp2_with fail
    refine (refDecFixed_any A len cap _ l w1 h1 (by omega)).mono ?_
    rintro e w2 ⟨rfl, hb2⟩
    replace hb := hb.trans (hb2.mono hb.size)
    go_wp2_with fail
    refine (awake3_any _).mono ?_
    rintro e w3 ⟨rfl, hb3⟩
    go_wp2
    go_ret
    exact ⟨rfl, hb.trans (hb3.mono hb.size)⟩
  · have hlen' : 6000 < (len : Int) := by omega
    go_enter Try.func4, Try.ntmps4
    go_wp2_with fail
    refine (awake3_any _).mono ?_
    rintro e w2 ⟨rfl, hb2⟩
    go_wp2
    go_ret
    exact ⟨rfl, hb2⟩

end Go.Proofs.Ytealjcpgcghfpaa
