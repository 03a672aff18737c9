/-
  What every walk of a statement ends in. No program.
-/
import Derived.Test.YtmfoegpdjajicaaBase
namespace Go.Proofs.Ytmfoegpdjajicaa
open Go.RowKit

def Yes (w : World) (e : Ending) (w' : World) : Prop := e = .returned (.bool true) ∧ Below w.heap.size w w'
theorem yes_of {w w1 w' : World} {e : Ending} (hb : Below w.heap.size w w1) (h : Yes w1 e w') : Yes w e w' := ⟨h.1, hb.trans (h.2.mono hb.size)⟩

end Go.Proofs.Ytmfoegpdjajicaa
