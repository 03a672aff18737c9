/-
  Contract of IsToken of package ascii alone, for later layers.
-/
import Derived.Test.YtmfoegpdjajicaaAsU
namespace Go.Proofs.Ytmfoegpdjajicaa
open Go.RowKit


set_option maxHeartbeats 400000 in
theorem isDigit_any (b : Int) (w : World) : Calls Try.prog 65 #[.int .u8 b] w fun e w' => e = .returned (.bool (digitB b)) ∧ w = w' := by
  go_enter Try.func65, Try.ntmps65
  go_wp2
  all_goals
    go_ret
    exact ⟨ret_bool (by first | (simp [digitB, *]; done) | (simp [digitB, *]; omega)), rfl⟩

set_option maxHeartbeats 400000 in
theorem isToken_any (b : Int) (w : World) : Calls Try.prog 59 #[.int .u8 b] w fun e w' => e = .returned (.bool (tokenB b)) ∧ w = w' := by
  go_enter Try.func59, Try.ntmps59
  go_wp2_with (first | (go_at_call 60; refine (isUpper_any _ _).mono ?_; rintro e w' ⟨rfl, rfl⟩) | (go_at_call 65; refine (isDigit_any _ _).mono ?_; rintro e w' ⟨rfl, rfl⟩))
  all_goals
    go_ret
    exact ⟨ret_bool (by first | (simp [tokenB, markB, *]; done) | (exfalso; simp_all; done) | (simp [tokenB, markB, *]; omega)), rfl⟩

end Go.Proofs.Ytmfoegpdjajicaa
