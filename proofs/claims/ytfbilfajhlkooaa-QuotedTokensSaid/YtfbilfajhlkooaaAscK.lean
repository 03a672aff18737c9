/-
  Contract of IsToken of package ascii alone, for later layers.
-/
import Derived.Test.YtfbilfajhlkooaaRows
import Derived.Test.YtfbilfajhlkooaaAscP
namespace Go.Proofs.Ytfbilfajhlkooaa
open Go.RowKit

set_option maxHeartbeats 400000 in
theorem isUpper_any (b : Int) (w : World) : Calls Try.prog 26 #[.int .u8 b] w fun e w' => e = .returned (.bool (upperB b)) ∧ w = w' := by
  go_enter Try.func26, Try.ntmps26
  go_wp2
  all_goals
    go_ret
    exact ⟨ret_bool (by first | (simp [upperB, *]; done) | (simp [upperB, *]; omega)), rfl⟩

set_option maxHeartbeats 400000 in
theorem isDigit_any (b : Int) (w : World) : Calls Try.prog 27 #[.int .u8 b] w fun e w' => e = .returned (.bool (digitB b)) ∧ w = w' := by
  go_enter Try.func27, Try.ntmps27
  go_wp2
  all_goals
    go_ret
    exact ⟨ret_bool (by first | (simp [digitB, *]; done) | (simp [digitB, *]; omega)), rfl⟩

set_option maxHeartbeats 400000 in
theorem isToken_any (b : Int) (w : World) : Calls Try.prog 22 #[.int .u8 b] w fun e w' => e = .returned (.bool (tokenB b)) ∧ w = w' := by
  go_enter Try.func22, Try.ntmps22
  go_wp2_with (first | (go_at_call 26; refine (isUpper_any _ _).mono ?_; rintro e w' ⟨rfl, rfl⟩) | (go_at_call 27; refine (isDigit_any _ _).mono ?_; rintro e w' ⟨rfl, rfl⟩))
  all_goals
    go_ret
    exact ⟨ret_bool (by first | (simp [tokenB, markB, *]; done) | (exfalso; simp_all; done) | (simp [tokenB, markB, *]; omega)), rfl⟩

end Go.Proofs.Ytfbilfajhlkooaa
