/-
  Contract of isUpper of package ascii.
-/
import Derived.Test.YtpopkeidpohdiaaDoorTyB
import Derived.Test.YtpopkeidpohdiaaDoorAscP
namespace Go.Proofs.YtpopkeidpohdiaaDoor
open Go.RowKit

set_option maxHeartbeats 400000 in
theorem isUpper_any (b : Int) (w : World) : Calls Tryd.prog 36 #[.int .u8 b] w fun e w' => e = .returned (.bool (upperB b)) ∧ w = w' := by
  go_enter Tryd.func36, Tryd.ntmps36
  go_wp2
  all_goals
    go_ret
    exact ⟨ret_bool (by first | (simp [upperB, *]; done) | (simp [upperB, *]; omega)), rfl⟩

end Go.Proofs.YtpopkeidpohdiaaDoor
