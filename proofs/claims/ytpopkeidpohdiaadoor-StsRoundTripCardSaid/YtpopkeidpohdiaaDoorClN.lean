/-
  Contract of strings.Clone.
-/
import Derived.Test.YtpopkeidpohdiaaDoorTyB
import Derived.Test.YtpopkeidpohdiaaDoorShelf
namespace Go.Proofs.YtpopkeidpohdiaaDoor
open Go.RowKit Go.Shelf

theorem cl_any (s : ByteArray) (w : World) (hs : s.size ≤ 1000000000) :
    Calls Tryd.prog 27 #[.string s] w fun e w' => e = .returned (.string s) ∧ Below w.heap.size w w' := by
  have c : Calls Tryd.prog 35 #[.string s] w fun e w' => e = .returned (.string s) ∧ Below w.heap.size w w' := Any.stringslite_Clone Tryd.laysM316 s w (by omega)
  clear hs
  go_enter Tryd.func27, Tryd.ntmps27
  go_wp2_with (go_at_call 35; refine c.mono ?_; rintro e w1 ⟨rfl, hb⟩)
  go_ret
  exact ⟨rfl, hb⟩

end Go.Proofs.YtpopkeidpohdiaaDoor
