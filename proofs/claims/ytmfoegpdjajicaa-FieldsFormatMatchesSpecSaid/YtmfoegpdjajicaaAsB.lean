/-
  Contracts of IsBlank of package ascii and of its reference.
-/
import Derived.Test.YtmfoegpdjajicaaAscP
import Derived.Test.YtmfoegpdjajicaaRows
namespace Go.Proofs.Ytmfoegpdjajicaa
open Go.RowKit

set_option maxHeartbeats 400000 in
theorem isBlank_any (b : Int) (w : World) : Calls Try.prog 55 #[.int .u8 b] w fun e w' => e = .returned (.bool (blankB b)) ∧ w = w' := by
  go_enter Try.func55, Try.ntmps55
  go_wp2
  all_goals
    go_ret
    exact ⟨ret_bool (by first | (simp [blankB, *]; done) | (simp [blankB, *]; omega)), rfl⟩

end Go.Proofs.Ytmfoegpdjajicaa
