/-
  Contracts of IsBlank of package ascii and of its reference.
-/
import Derived.Test.YtbpgkdhdooaigaaAscP
import Derived.Test.YtbpgkdhdooaigaaRows
namespace Go.Proofs.Ytbpgkdhdooaigaa
open Go.RowKit

set_option maxHeartbeats 400000 in
theorem isBlank_any (b : Int) (w : World) : Calls Try.prog 36 #[.int .u8 b] w fun e w' => e = .returned (.bool (blankB b)) ∧ w = w' := by
  go_enter Try.func36, Try.ntmps36
  go_wp2
  all_goals
    go_ret
    exact ⟨ret_bool (by first | (simp [blankB, *]; done) | (simp [blankB, *]; omega)), rfl⟩
set_option maxHeartbeats 400000 in
theorem refIsBlank_any (b : Int) (w : World) : Calls Try.prog 41 #[.int .u8 b] w fun e w' => e = .returned (.bool (blankB b)) ∧ w = w' := by
  go_enter Try.func41, Try.ntmps41
  go_wp2
  all_goals
    go_ret
    exact ⟨ret_bool (by first | (simp [blankB, *]; done) | (simp [blankB, *]; omega)), rfl⟩

end Go.Proofs.Ytbpgkdhdooaigaa
