/-
  The reference of layer 1: IsBlank.
-/
import Derived.Test.YtmfoegpdjajicaaAscP
import Derived.Test.YtmfoegpdjajicaaRows
namespace Go.Proofs.Ytmfoegpdjajicaa
open Go.RowKit

set_option maxHeartbeats 400000 in
theorem refIsBlank_any (b : Int) (w : World) : Calls Try.prog 46 #[.int .u8 b] w fun e w' => e = .returned (.bool (blankB b)) ∧ w = w' := by
  go_enter Try.func46, Try.ntmps46
  go_wp2
  all_goals
    go_ret
    exact ⟨ret_bool (by first | (simp [blankB, *]; done) | (simp [blankB, *]; omega)), rfl⟩

end Go.Proofs.Ytmfoegpdjajicaa
