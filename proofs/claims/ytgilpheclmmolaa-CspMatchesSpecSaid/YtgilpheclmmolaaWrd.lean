/-
  What Words answers; no function.
-/
import Derived.Test.YtgilpheclmmolaaTyB
import Derived.Test.YtgilpheclmmolaaTyT
import Derived.Test.YtgilpheclmmolaaAscP
import Derived.Deep.LoopGhost
import Derived.WalkMore
namespace Go.Proofs.Ytgilpheclmmolaa
open Go.RowKit

def WordsPost (s : ByteArray) (w : World) (e : Ending) (w' : World) : Prop :=
  ∃ v n, e = .returned v ∧ w'.ownsRow w.heap.size 9 1 v n (wv (wordsL (ls s))) ∧ Below w.heap.size w w'

end Go.Proofs.Ytgilpheclmmolaa
