/-
  The powers of ten that Go's own library reads lie in the world; what is made beside them leaves them there.
-/
import Derived.Test.YtpopkeidpohdiaaDoorBase
import Derived.Test.YtpopkeidpohdiaaDoorRows
import Derived.Below
import Derived.Lib.LaidTab
import Derived.Lib.ItoaNum
namespace Go.Proofs.YtpopkeidpohdiaaDoor
open Go.RowKit

/-- The variable's name. -/
def tabN : String := (Rows.stsRoundTripRow.laid.tail.tail.head (List.cons_ne_nil _ _)).1
/-- The variable holds the powers of ten. -/
def Pow (w : World) : Prop := Lib.TabIs Tryd.prog w tabN .u64 Lib.pow10Tab
theorem var_below {P : Program} {w w' : World} {n : String} {cs : Array Value} (h : w.var? P n = some cs) (hb : Below w.heap.size w w') : w'.var? P n = some cs := by
  unfold World.var? at h ⊢
  cases hg : P.globalNamed n with
  | none => rw [hg] at h; exact h
  | some g =>
    rw [hg] at h
    simp only [Option.bind_some] at h ⊢
    by_cases hlt : g < w.heap.size
    · rw [hb.block g hlt]
      exact h
    · rw [Array.getElem?_eq_none (by omega)] at h
      cases h
theorem pow_below {w w' : World} (h : Pow w) (hb : Below w.heap.size w w') : Pow w' := var_below h hb
theorem pow_drew {w : World} (h : Pow w) : Pow w.drew := h
theorem pow_drewN {w : World} (h : Pow w) (k : Nat) : Pow (w.drewN k) := h

end Go.Proofs.YtpopkeidpohdiaaDoor
