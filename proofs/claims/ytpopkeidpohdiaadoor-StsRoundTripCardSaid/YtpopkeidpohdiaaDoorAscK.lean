/-
  Contract of IsToken of package ascii alone, for later layers.
-/
import Derived.Test.YtpopkeidpohdiaaDoorAsU
namespace Go.Proofs.YtpopkeidpohdiaaDoor
open Go.RowKit


set_option maxHeartbeats 400000 in
theorem isDigit_any (b : Int) (w : World) : Calls Tryd.prog 45 #[.int .u8 b] w fun e w' => e = .returned (.bool (digitB b)) ∧ w = w' := by
  go_enter Tryd.func45, Tryd.ntmps45
  go_wp2
  all_goals
    go_ret
    exact ⟨ret_bool (by first | (simp [digitB, *]; done) | (simp [digitB, *]; omega)), rfl⟩

set_option maxHeartbeats 400000 in
theorem isToken_any (b : Int) (w : World) : Calls Tryd.prog 34 #[.int .u8 b] w fun e w' => e = .returned (.bool (tokenB b)) ∧ w = w' := by
  go_enter Tryd.func34, Tryd.ntmps34
  go_wp2_with (first | (go_at_call 36; refine (isUpper_any _ _).mono ?_; rintro e w' ⟨rfl, rfl⟩) | (go_at_call 45; refine (isDigit_any _ _).mono ?_; rintro e w' ⟨rfl, rfl⟩))
  all_goals
    go_ret
    exact ⟨ret_bool (by first | (simp [tokenB, markB, *]; done) | (exfalso; simp_all; done) | (simp [tokenB, markB, *]; omega)), rfl⟩

end Go.Proofs.YtpopkeidpohdiaaDoor
