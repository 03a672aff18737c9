/-
  The walks of the statements of layer 1: each returns true.
-/
import Derived.Test.YtibimijpkmddeaaAsc6
namespace Go.Proofs.Ytibimijpkmddeaa
open Go.RowKit

theorem yes_of {w w1 w' : World} {e : Ending} (hb : Below w.heap.size w w1) (h : Yes w1 e w') : Yes w e w' := ⟨h.1, hb.trans (h.2.mono hb.size)⟩

set_option maxHeartbeats 2000000 in
theorem asciiBytes_walk (b : Int) (_ : (Lit.int .u8 b).wf = true) (w : World) : Calls Try.prog 3 #[.int .u8 b] w (Yes w) := by
  go_enter Try.func3, Try.ntmps3
  go_wp2_with (first | (go_at_call 7; refine (isToken_any _ _).mono ?_; rintro e w' ⟨rfl, rfl⟩) | (go_at_call 8; refine (refIsToken_any _ _).mono ?_; rintro e w' ⟨rfl, rfl⟩) | (go_at_call 9; refine (isBlank_any _ _).mono ?_; rintro e w' ⟨rfl, rfl⟩) | (go_at_call 10; refine (refIsBlank_any _ _).mono ?_; rintro e w' ⟨rfl, rfl⟩) | (go_at_call 11; refine (isSpace_any _ _).mono ?_; rintro e w' ⟨rfl, rfl⟩) | (go_at_call 12; refine (refIsSpace_any _ _).mono ?_; rintro e w' ⟨rfl, rfl⟩))
  refine (awake1_any _).mono ?_
  rintro e w1 ⟨rfl, hb⟩
  go_wp2
  go_ret
  exact ⟨rfl, hb⟩

/-- The two strings of a call of Short lie in a new block. -/
theorem short2 (n : Int) (a b : ByteArray) (w : World) (t : TypeId) :
    Calls Try.prog 14 #[.int .i64 n, .slice (some ⟨w.heap.size, 0, none⟩) 2 2] (w.alloc (.cells #[.string a, .string b] t)) fun e w' => e = .returned (.bool (shortB n [a, b])) ∧ w.alloc (.cells #[.string a, .string b] t) = w' :=
  short_any n _ 2 2 [a, b] _ _ (Has.two w _ _ t) (by decide)

end Go.Proofs.Ytibimijpkmddeaa
