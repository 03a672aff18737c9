/-
  Contract of strings.Clone.
-/
import Derived.Test.YtmfoegpdjajicaaTyB
import Derived.Test.YtmfoegpdjajicaaShelf
namespace Go.Proofs.Ytmfoegpdjajicaa
open Go.RowKit Go.Shelf

theorem cl_any (s : ByteArray) (w : World) (hs : s.size ≤ 1000000000) :
    Calls Try.prog 49 #[.string s] w fun e w' => e = .returned (.string s) ∧ Below w.heap.size w w' := by
  have c : Calls Try.prog 56 #[.string s] w fun e w' => e = .returned (.string s) ∧ Below w.heap.size w w' := Any.stringslite_Clone Try.laysM316 s w (by omega)
  clear hs
  go_enter Try.func49, Try.ntmps49
  go_wp2_with (go_at_call 56; refine c.mono ?_; rintro e w1 ⟨rfl, hb⟩)
  go_ret
  exact ⟨rfl, hb⟩

end Go.Proofs.Ytmfoegpdjajicaa
