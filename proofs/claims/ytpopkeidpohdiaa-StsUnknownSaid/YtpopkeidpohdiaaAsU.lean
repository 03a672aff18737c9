/-
  Contract of isUpper of package ascii.
-/
import Derived.Test.YtpopkeidpohdiaaTyB
import Derived.Test.YtpopkeidpohdiaaAscP
namespace Go.Proofs.Ytpopkeidpohdiaa
open Go.RowKit

set_option maxHeartbeats 400000 in
theorem isUpper_any (b : Int) (w : World) : Calls Try.prog 46 #[.int .u8 b] w fun e w' => e = .returned (.bool (upperB b)) ∧ w = w' := by
  go_enter Try.func46, Try.ntmps46
  go_wp2
  all_goals
    go_ret
    exact ⟨ret_bool (by first | (simp [upperB, *]; done) | (simp [upperB, *]; omega)), rfl⟩

end Go.Proofs.Ytpopkeidpohdiaa
