/-
  min of four numbers. No program.
-/
import Derived.Test.YtpbdcljpcchihaaBase
namespace Go.Proofs.Ytpbdcljpcchihaa
theorem run_min4 {P : Program} (w : World) (ts : Array TypeId) (t : TypeId) (a b c d : Int) (r : Int) (hr : min (min (min a b) c) d = r) :
    (Builtin.min_ ts t #[.int .i64 a, .int .i64 b, .int .i64 c, .int .i64 d]).run P w = .ok (.int .i64 r) w := by
  have e1 : (if b < a then b else a) = min a b := by omega
  have e2 : (if c < min a b then c else min a b) = min (min a b) c := by omega
  simp [Builtin.min_, Builtin.min2, List.foldlM, e1, e2]
  omega
end Go.Proofs.Ytpbdcljpcchihaa
