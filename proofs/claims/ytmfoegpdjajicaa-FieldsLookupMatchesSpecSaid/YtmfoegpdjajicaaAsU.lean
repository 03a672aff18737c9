/-
  Contract of isUpper of package ascii.
-/
import Derived.Test.YtmfoegpdjajicaaTyB
import Derived.Test.YtmfoegpdjajicaaAscP
namespace Go.Proofs.Ytmfoegpdjajicaa
open Go.RowKit

set_option maxHeartbeats 400000 in
theorem isUpper_any (b : Int) (w : World) : Calls Try.prog 60 #[.int .u8 b] w fun e w' => e = .returned (.bool (upperB b)) ∧ w = w' := by
  go_enter Try.func60, Try.ntmps60
  go_wp2
  all_goals
    go_ret
    exact ⟨ret_bool (by first | (simp [upperB, *]; done) | (simp [upperB, *]; omega)), rfl⟩

end Go.Proofs.Ytmfoegpdjajicaa
