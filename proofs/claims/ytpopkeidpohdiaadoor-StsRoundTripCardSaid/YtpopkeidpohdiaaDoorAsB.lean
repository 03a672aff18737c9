/-
  Contracts of IsBlank of package ascii and of its reference.
-/
import Derived.Test.YtpopkeidpohdiaaDoorAscP
import Derived.Test.YtpopkeidpohdiaaDoorRows
namespace Go.Proofs.YtpopkeidpohdiaaDoor
open Go.RowKit

set_option maxHeartbeats 400000 in
theorem isBlank_any (b : Int) (w : World) : Calls Tryd.prog 20 #[.int .u8 b] w fun e w' => e = .returned (.bool (blankB b)) ∧ w = w' := by
  go_enter Tryd.func20, Tryd.ntmps20
  go_wp2
  all_goals
    go_ret
    exact ⟨ret_bool (by first | (simp [blankB, *]; done) | (simp [blankB, *]; omega)), rfl⟩

end Go.Proofs.YtpopkeidpohdiaaDoor
