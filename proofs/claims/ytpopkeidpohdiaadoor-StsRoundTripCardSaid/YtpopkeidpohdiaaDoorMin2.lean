/-
  min and max of two numbers. No program.
-/
import Derived.Test.YtpopkeidpohdiaaDoorBase
namespace Go.Proofs.YtpopkeidpohdiaaDoor
theorem min_two {P : Program} (w : World) (ts : Array TypeId) (t : TypeId) (a b r : Int) (hr : min a b = r) :
    (Builtin.min_ ts t #[.int .i64 a, .int .i64 b]).run P w = .ok (.int .i64 r) w := by
  have e1 : (if b < a then b else a) = min a b := by omega
  simp [Builtin.min_, Builtin.min2, List.foldlM, e1]
  omega
theorem max_two {P : Program} (w : World) (ts : Array TypeId) (t : TypeId) (a b r : Int) (hr : max a b = r) :
    (Builtin.max_ ts t #[.int .i64 a, .int .i64 b]).run P w = .ok (.int .i64 r) w := by
  have e1 : (if a < b then b else a) = max a b := by omega
  simp [Builtin.max_, Builtin.max2, List.foldlM, e1]
  omega
end Go.Proofs.YtpopkeidpohdiaaDoor
