/-
  Contract of strings.Clone.
-/
import Derived.Test.YtpopkeidpohdiaaTyB
import Derived.Test.YtpopkeidpohdiaaShelf
namespace Go.Proofs.Ytpopkeidpohdiaa
open Go.RowKit Go.Shelf

theorem cl_any (s : ByteArray) (w : World) (hs : s.size ≤ 1000000000) :
    Calls Try.prog 41 #[.string s] w fun e w' => e = .returned (.string s) ∧ Below w.heap.size w w' := by
  have c : Calls Try.prog 45 #[.string s] w fun e w' => e = .returned (.string s) ∧ Below w.heap.size w w' := Any.stringslite_Clone Try.laysM316 s w (by omega)
  clear hs
  go_enter Try.func41, Try.ntmps41
  go_wp2_with (go_at_call 45; refine c.mono ?_; rintro e w1 ⟨rfl, hb⟩)
  go_ret
  exact ⟨rfl, hb⟩

end Go.Proofs.Ytpopkeidpohdiaa
