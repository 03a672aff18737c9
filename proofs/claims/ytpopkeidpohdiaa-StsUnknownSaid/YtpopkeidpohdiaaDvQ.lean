/-
  What is said of a slice of directives that came in.
-/
import Derived.Test.YtpopkeidpohdiaaDvM
namespace Go.Proofs.Ytpopkeidpohdiaa
open Go.RowKit

/-- A slice of directives that came in. -/
def InDv (w : World) (A : Option Addr) (n c : Nat) (l : List Dv) : Prop := HasDv w w.heap.size A n l ∧ n ≤ c ∧ c ≤ maxLen

end Go.Proofs.Ytpopkeidpohdiaa
