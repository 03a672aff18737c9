/-
  Contracts of IsBlank of package ascii and of its reference.
-/
import Derived.Test.YtpopkeidpohdiaaAscP
import Derived.Test.YtpopkeidpohdiaaRows
namespace Go.Proofs.Ytpopkeidpohdiaa
open Go.RowKit

set_option maxHeartbeats 400000 in
theorem isBlank_any (b : Int) (w : World) : Calls Try.prog 33 #[.int .u8 b] w fun e w' => e = .returned (.bool (blankB b)) ∧ w = w' := by
  go_enter Try.func33, Try.ntmps33
  go_wp2
  all_goals
    go_ret
    exact ⟨ret_bool (by first | (simp [blankB, *]; done) | (simp [blankB, *]; omega)), rfl⟩

end Go.Proofs.Ytpopkeidpohdiaa
