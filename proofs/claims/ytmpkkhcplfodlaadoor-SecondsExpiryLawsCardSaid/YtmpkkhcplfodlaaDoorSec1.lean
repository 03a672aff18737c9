/-
  Contracts of limited, Expiry and Expired of package seconds (layer 4), and of Limit and Expiry of its reference.
-/
import Derived.Test.YtmpkkhcplfodlaaDoorRows
import Derived.Test.YtmpkkhcplfodlaaDoorSecP
import Derived.Test.YtmpkkhcplfodlaaDoorMin2
namespace Go.Proofs.YtmpkkhcplfodlaaDoor
open Go.RowKit

set_option maxHeartbeats 400000 in
theorem limited_any (n g : Int) (hg : 0 ≤ g) (w : World) :
    Calls Tryd.prog 18 #[.int .i64 n, .int .i64 g] w fun e w' => e = .returned (.int .i64 (lim n g)) ∧ w = w' := by
  have h1 : ∀ ts t, (Builtin.max_ ts t #[.int .i64 n, .int .i64 0]).run Tryd.prog w = .ok (.int .i64 (max n 0)) w := fun ts t => max_two w ts t _ _ _ rfl
  have h2 : ∀ ts t, (Builtin.min_ ts t #[.int .i64 (max n 0), .int .i64 g]).run Tryd.prog w = .ok (.int .i64 (lim n g)) w := fun ts t => min_two w ts t _ _ _ (lim_code n g hg)
  go_enter Tryd.func18, Tryd.ntmps18
  go_wp2
  go_ret
  exact ⟨rfl, rfl⟩

set_option maxHeartbeats 400000 in
theorem refLimit_any (n g : Int) (w : World) :
    Calls Tryd.prog 20 #[.int .i64 n, .int .i64 g] w fun e w' => e = .returned (.int .i64 (lim n g)) ∧ w = w' := by
  have h1 : ∀ ts t, (Builtin.min_ ts t #[.int .i64 n, .int .i64 g]).run Tryd.prog w = .ok (.int .i64 (min n g)) w := fun ts t => min_two w ts t _ _ _ rfl
  have h2 : ∀ ts t, (Builtin.max_ ts t #[.int .i64 0, .int .i64 (min n g)]).run Tryd.prog w = .ok (.int .i64 (lim n g)) w := fun ts t => max_two w ts t _ _ _ rfl
  go_enter Tryd.func20, Tryd.ntmps20
  go_wp2
  go_ret
  exact ⟨rfl, rfl⟩

set_option maxHeartbeats 400000 in
theorem expiry_any (now age : Int) (w : World) :
    Calls Tryd.prog 12 #[.int .i64 now, .int .i64 age] w fun e w' => e = .returned (.int .i64 (expV now age)) ∧ w = w' := by
  have hx := lim_range now 1099511627776 (by omega)
  have hy := lim_range age 2147483647 (by omega)
  obtain ⟨x, ex⟩ : ∃ x, lim now 1099511627776 = x := ⟨_, rfl⟩
  obtain ⟨y, ey⟩ : ∃ y, lim age 2147483647 = y := ⟨_, rfl⟩
  rw [ex] at hx
  rw [ey] at hy
  have hx0 := hx.1
  have hx1 := hx.2
  have hy0 := hy.1
  have hy1 := hy.2
  obtain ⟨v, ev⟩ : ∃ v, expV now age = v := ⟨_, rfl⟩
  have hv : min (x + y) 1099511627776 = v := by rw [← ev, ← ex, ← ey]; rfl
  have h2 : ∀ ts t, (Builtin.min_ ts t #[.int .i64 (x + y), .int .i64 1099511627776]).run Tryd.prog w = .ok (.int .i64 v) w := fun ts t => min_two w ts t _ _ _ hv
  rw [ev]
  have c1 := limited_any now 1099511627776 (by omega) w
  have c2 := limited_any age 2147483647 (by omega) w
  rw [ex] at c1
  rw [ey] at c2
  clear ex ey ev hv hx hy
  go_enter Tryd.func12, Tryd.ntmps12
  go_wp2_with fail
  refine c1.mono ?_
  rintro e w' ⟨rfl, rfl⟩
  go_wp2_with fail
  refine c2.mono ?_
  rintro e w' ⟨rfl, rfl⟩
  go_wp2_with fail
  go_ret
  exact ⟨rfl, rfl⟩

set_option maxHeartbeats 400000 in
theorem refExpiry_any (now age : Int) (w : World) :
    Calls Tryd.prog 13 #[.int .i64 now, .int .i64 age] w fun e w' => e = .returned (.int .i64 (expV now age)) ∧ w = w' := by
  have hx := lim_range now 1099511627776 (by omega)
  have hy := lim_range age 2147483647 (by omega)
  obtain ⟨x, ex⟩ : ∃ x, lim now 1099511627776 = x := ⟨_, rfl⟩
  obtain ⟨y, ey⟩ : ∃ y, lim age 2147483647 = y := ⟨_, rfl⟩
  rw [ex] at hx
  rw [ey] at hy
  have hx0 := hx.1
  have hx1 := hx.2
  have hy0 := hy.1
  have hy1 := hy.2
  obtain ⟨v, ev⟩ : ∃ v, expV now age = v := ⟨_, rfl⟩
  have hv : min 1099511627776 (x + y) = v := by rw [← ev, ← ex, ← ey]; unfold expV; omega
  have h2 : ∀ ts t, (Builtin.min_ ts t #[.int .i64 1099511627776, .int .i64 (x + y)]).run Tryd.prog w = .ok (.int .i64 v) w := fun ts t => min_two w ts t _ _ _ hv
  rw [ev]
  have c1 := refLimit_any now 1099511627776 w
  have c2 := refLimit_any age 2147483647 w
  rw [ex] at c1
  rw [ey] at c2
  clear ex ey ev hv hx hy
  go_enter Tryd.func13, Tryd.ntmps13
  go_wp2_with fail
  refine c1.mono ?_
  rintro e w' ⟨rfl, rfl⟩
  go_wp2_with fail
  refine c2.mono ?_
  rintro e w' ⟨rfl, rfl⟩
  go_wp2_with fail
  go_ret
  exact ⟨rfl, rfl⟩

theorem expired_any (a b : Int) (w : World) :
    Calls Tryd.prog 14 #[.int .i64 a, .int .i64 b] w fun e w' => e = .returned (.bool (decide (a ≤ b))) ∧ w = w' := by
  go_enter Tryd.func14, Tryd.ntmps14
  go_wp2
  go_ret
  exact ⟨rfl, rfl⟩

end Go.Proofs.YtmpkkhcplfodlaaDoor
