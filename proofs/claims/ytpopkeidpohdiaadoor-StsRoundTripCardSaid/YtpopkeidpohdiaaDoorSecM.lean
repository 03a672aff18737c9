/-
  Contract of limited of package seconds.
-/
import Derived.Test.YtpopkeidpohdiaaDoorRows
import Derived.Test.YtpopkeidpohdiaaDoorSecP
import Derived.Test.YtpopkeidpohdiaaDoorMin2
namespace Go.Proofs.YtpopkeidpohdiaaDoor
open Go.RowKit

set_option maxHeartbeats 400000 in
theorem limited_any (n g : Int) (hg : 0 ≤ g) (w : World) :
    Calls Tryd.prog 14 #[.int .i64 n, .int .i64 g] w fun e w' => e = .returned (.int .i64 (lim n g)) ∧ w = w' := by
  have h1 : ∀ ts t, (Builtin.max_ ts t #[.int .i64 n, .int .i64 0]).run Tryd.prog w = .ok (.int .i64 (max n 0)) w := fun ts t => max_two w ts t _ _ _ rfl
  have h2 : ∀ ts t, (Builtin.min_ ts t #[.int .i64 (max n 0), .int .i64 g]).run Tryd.prog w = .ok (.int .i64 (lim n g)) w := fun ts t => min_two w ts t _ _ _ (lim_code n g hg)
  go_enter Tryd.func14, Tryd.ntmps14
  go_wp2
  go_ret
  exact ⟨rfl, rfl⟩

end Go.Proofs.YtpopkeidpohdiaaDoor
