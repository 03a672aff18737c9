/-
  Steps of a region that draws its order, whose operations are guarded: the guard decided by computation. No program.
-/
import Derived.Test.YtealjcpgcghfpaaBase
import Derived.StillTailTactics
namespace Go.Proofs.Ytealjcpgcghfpaa
open Go.RowKit

theorem still_want {P : Program} {ops : Array Oper} {w : World} {Q : Act → Prop} {a : Act} {o : Oper} {rest : List Oper} (hw : Region.wanted o (yielded ops a.tmps) = true)
    (h : ∀ K : Act → Prop, (∀ a, wpStill P ops w Q rest a → K a) → o.still P a w K) : wpStill P ops w Q (o :: rest) a := by
  unfold wpStill
  rw [if_pos hw]
  exact h _ (fun _ h => h)
theorem still_skip {P : Program} {ops : Array Oper} {w : World} {Q : Act → Prop} {a : Act} {o : Oper} {rest : List Oper} (hw : Region.wanted o (yielded ops a.tmps) = false)
    (h : ∀ K : Act → Prop, (∀ a, wpStill P ops w Q rest a → K a) → K (a.put o.dst undef)) : wpStill P ops w Q (o :: rest) a := by
  unfold wpStill
  rw [if_neg (by rw [hw]; decide)]
  exact h _ (fun _ h => h)
/-- The operation's own run, as it is written. -/
theorem still_run {P : Program} {w : World} {o : Oper} {a : Act} {K : Act → Prop} {v : Value} (hr : (execOp a.eval o).run P w = .ok (.value v) w) (h : K (a.put o.dst v)) : o.still P a w K := by
  unfold Oper.still
  rw [hr, Oper.stillUpon_value]
  exact h

end Go.Proofs.Ytealjcpgcghfpaa
