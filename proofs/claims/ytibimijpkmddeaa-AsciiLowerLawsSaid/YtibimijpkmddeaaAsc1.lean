/-
  Contracts of the byte predicates of package ascii and of its reference.
-/
import Derived.Test.YtibimijpkmddeaaRows
import Derived.Test.YtibimijpkmddeaaAscP
namespace Go.Proofs.Ytibimijpkmddeaa
open Go.RowKit

set_option maxHeartbeats 400000 in
theorem isBlank_any (b : Int) (w : World) : Calls Try.prog 9 #[.int .u8 b] w fun e w' => e = .returned (.bool (blankB b)) ∧ w = w' := by
  go_enter Try.func9, Try.ntmps9
  go_wp2
  all_goals
    go_ret
    exact ⟨ret_bool (by first | (simp [blankB, *]; done) | (simp [blankB, *]; omega)), rfl⟩

set_option maxHeartbeats 400000 in
theorem refIsBlank_any (b : Int) (w : World) : Calls Try.prog 10 #[.int .u8 b] w fun e w' => e = .returned (.bool (blankB b)) ∧ w = w' := by
  go_enter Try.func10, Try.ntmps10
  go_wp2
  all_goals
    go_ret
    exact ⟨ret_bool (by first | (simp [blankB, *]; done) | (simp [blankB, *]; omega)), rfl⟩

set_option maxHeartbeats 400000 in
theorem isSpace_any (b : Int) (w : World) : Calls Try.prog 11 #[.int .u8 b] w fun e w' => e = .returned (.bool (spaceB b)) ∧ w = w' := by
  go_enter Try.func11, Try.ntmps11
  go_wp2
  all_goals
    go_ret
    exact ⟨ret_bool (by simp [spaceB, blankB, *]), rfl⟩

set_option maxHeartbeats 400000 in
theorem isUpper_any (b : Int) (w : World) : Calls Try.prog 26 #[.int .u8 b] w fun e w' => e = .returned (.bool (upperB b)) ∧ w = w' := by
  go_enter Try.func26, Try.ntmps26
  go_wp2
  all_goals
    go_ret
    exact ⟨ret_bool (by first | (simp [upperB, *]; done) | (simp [upperB, *]; omega)), rfl⟩

set_option maxHeartbeats 400000 in
theorem isDigit_any (b : Int) (w : World) : Calls Try.prog 27 #[.int .u8 b] w fun e w' => e = .returned (.bool (digitB b)) ∧ w = w' := by
  go_enter Try.func27, Try.ntmps27
  go_wp2
  all_goals
    go_ret
    exact ⟨ret_bool (by first | (simp [digitB, *]; done) | (simp [digitB, *]; omega)), rfl⟩

set_option maxHeartbeats 400000 in
theorem refIsSpace_any (b : Int) (w : World) : Calls Try.prog 12 #[.int .u8 b] w fun e w' => e = .returned (.bool (spaceB b)) ∧ w = w' := by
  go_enter Try.func12, Try.ntmps12
  go_wp2_with (go_at_call 10; refine (refIsBlank_any _ _).mono ?_; rintro e w' ⟨rfl, rfl⟩)
  all_goals
    go_ret
    exact ⟨ret_bool (by simp [spaceB, *]), rfl⟩

set_option maxHeartbeats 400000 in
theorem lowerByte_any (b : Int) (h0 : 0 ≤ b) (h1 : b ≤ 255) (w : World) : Calls Try.prog 28 #[.int .u8 b] w fun e w' => e = .returned (.int .u8 (lowI b)) ∧ w = w' := by
  by_cases hu : upperB b = true
  · have hb : b ≤ 90 := by simp [upperB] at hu; omega
    go_enter Try.func28, Try.ntmps28
    go_wp2_with (go_at_call 26; refine (isUpper_any _ _).mono ?_; rintro e w' ⟨rfl, rfl⟩)
    go_ret
    exact ⟨ret_int (by simp [lowI, hu]), rfl⟩
  · have hu' : upperB b = false := by simpa using hu
    clear hu
    go_enter Try.func28, Try.ntmps28
    go_wp2_with (go_at_call 26; refine (isUpper_any _ _).mono ?_; rintro e w' ⟨rfl, rfl⟩)
    go_ret
    exact ⟨ret_int (by simp [lowI, hu']), rfl⟩

theorem lowerByte_u8 (c : UInt8) (w : World) : Calls Try.prog 28 #[.int .u8 (c.toNat : Int)] w fun e w' => e = .returned (.int .u8 ((lowU c).toNat : Int)) ∧ w = w' := by
  have := byte_lt c
  rw [lowU_toNat]
  exact lowerByte_any _ (by omega) (by omega) w

set_option maxHeartbeats 400000 in
theorem isToken_any (b : Int) (w : World) : Calls Try.prog 7 #[.int .u8 b] w fun e w' => e = .returned (.bool (tokenB b)) ∧ w = w' := by
  go_enter Try.func7, Try.ntmps7
  go_wp2_with (first | (go_at_call 26; refine (isUpper_any _ _).mono ?_; rintro e w' ⟨rfl, rfl⟩) | (go_at_call 27; refine (isDigit_any _ _).mono ?_; rintro e w' ⟨rfl, rfl⟩))
  all_goals
    go_ret
    exact ⟨ret_bool (by first | (simp [tokenB, markB, *]; done) | (exfalso; simp_all; done) | (simp [tokenB, markB, *]; omega)), rfl⟩

end Go.Proofs.Ytibimijpkmddeaa
