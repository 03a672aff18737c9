/-
  The walk of SecondsExpiryLaws: the call returns true.
-/
import Derived.Test.YtmpkkhcplfodlaaDoorSec5
namespace Go.Proofs.YtmpkkhcplfodlaaDoor
open Go.RowKit

set_option maxHeartbeats 4000000 in
theorem expiryLaws_walk (now age later : Int) (w0 : (Lit.int .i64 now).wf = true) (w1 : (Lit.int .i64 age).wf = true) (w2 : (Lit.int .i64 later).wf = true) (w : World) :
    Calls Tryd.prog 6 #[.int .i64 now, .int .i64 age, .int .i64 later] w (Yes w) := by
  clear w0 w1 w2
  have hmin : ∀ ts t, (Builtin.min_ ts t #[.int .i64 now, .int .i64 1099511627776]).run Tryd.prog w = .ok (.int .i64 (min now 1099511627776)) w := fun ts t => min_two w ts t _ _ _ rfl
  have hmax : ∀ ts t, (Builtin.max_ ts t #[.int .i64 0, .int .i64 (min now 1099511627776)]).run Tryd.prog w = .ok (.int .i64 (lim now 1099511627776)) w := fun ts t => max_two w ts t _ _ _ rfl
  have c1 := expiry_any now age w
  have c3 := expiry_any now 0 w
  have c4 := expiry_any now (-1) w
  have c5 := expiry_any later age w
  have c6 := expiry_any now later w
  rw [expV_zero] at c3
  rw [expV_minus] at c4
  have f1 := expV_lower now age
  have f2 := expV_upper now age
  have f3 := expV_mono now age later
  have f4 := expV_mono2 now age later
  generalize expV now age = E at *
  generalize expV later age = F at *
  generalize expV now later = G at *
  generalize lim now 1099511627776 = A at *
  have c2 := expired_any E later w
  obtain ⟨b, hb⟩ : ∃ b, decide (E ≤ later) = b := ⟨_, rfl⟩
  rw [hb] at c2
  have n1 : ¬ E < A := by omega
  have n2 : ¬ 1099511627776 < E := by omega
  clear f1 f2
  by_cases h1 : later < now
  · by_cases h2 : later < age
    · clear f3 f4
      go_enter Tryd.func6, Tryd.ntmps6
      go_wp2_with fail
      refine c1.mono ?_
      rintro e w' ⟨rfl, rfl⟩
      go_wp2_with fail
      refine c2.mono ?_
      rintro e w' ⟨rfl, rfl⟩
      go_wp2_with fail
      refine c3.mono ?_
      rintro e w' ⟨rfl, rfl⟩
      go_wp2_with fail
      refine c4.mono ?_
      rintro e w' ⟨rfl, rfl⟩
      go_wp2_with fail
      refine (awake4_any w).mono ?_
      rintro e w' ⟨rfl, hbw⟩
      go_wp2_with fail
      go_ret
      exact ⟨rfl, hbw⟩
    · have g2 : E ≤ G := f4 (by omega)
      clear f3 f4
      go_enter Tryd.func6, Tryd.ntmps6
      go_wp2_with fail
      refine c1.mono ?_
      rintro e w' ⟨rfl, rfl⟩
      go_wp2_with fail
      refine c2.mono ?_
      rintro e w' ⟨rfl, rfl⟩
      go_wp2_with fail
      refine c3.mono ?_
      rintro e w' ⟨rfl, rfl⟩
      go_wp2_with fail
      refine c4.mono ?_
      rintro e w' ⟨rfl, rfl⟩
      go_wp2_with fail
      refine c6.mono ?_
      rintro e w' ⟨rfl, rfl⟩
      go_wp2_with fail
      refine (awake4_any w).mono ?_
      rintro e w' ⟨rfl, hbw⟩
      go_wp2_with fail
      go_ret
      exact ⟨rfl, hbw⟩
  · have g1 : E ≤ F := f3 (by omega)
    by_cases h2 : later < age
    · clear f3 f4
      go_enter Tryd.func6, Tryd.ntmps6
      go_wp2_with fail
      refine c1.mono ?_
      rintro e w' ⟨rfl, rfl⟩
      go_wp2_with fail
      refine c2.mono ?_
      rintro e w' ⟨rfl, rfl⟩
      go_wp2_with fail
      refine c3.mono ?_
      rintro e w' ⟨rfl, rfl⟩
      go_wp2_with fail
      refine c4.mono ?_
      rintro e w' ⟨rfl, rfl⟩
      go_wp2_with fail
      refine c5.mono ?_
      rintro e w' ⟨rfl, rfl⟩
      go_wp2_with fail
      refine (awake4_any w).mono ?_
      rintro e w' ⟨rfl, hbw⟩
      go_wp2_with fail
      go_ret
      exact ⟨rfl, hbw⟩
    · have g2 : E ≤ G := f4 (by omega)
      clear f3 f4
      go_enter Tryd.func6, Tryd.ntmps6
      go_wp2_with fail
      refine c1.mono ?_
      rintro e w' ⟨rfl, rfl⟩
      go_wp2_with fail
      refine c2.mono ?_
      rintro e w' ⟨rfl, rfl⟩
      go_wp2_with fail
      refine c3.mono ?_
      rintro e w' ⟨rfl, rfl⟩
      go_wp2_with fail
      refine c4.mono ?_
      rintro e w' ⟨rfl, rfl⟩
      go_wp2_with fail
      refine c5.mono ?_
      rintro e w' ⟨rfl, rfl⟩
      go_wp2_with fail
      refine c6.mono ?_
      rintro e w' ⟨rfl, rfl⟩
      go_wp2_with fail
      refine (awake4_any w).mono ?_
      rintro e w' ⟨rfl, hbw⟩
      go_wp2_with fail
      go_ret
      exact ⟨rfl, hbw⟩

end Go.Proofs.YtmpkkhcplfodlaaDoor
