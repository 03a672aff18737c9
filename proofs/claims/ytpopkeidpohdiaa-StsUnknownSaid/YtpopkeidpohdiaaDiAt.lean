/-
  The contracts of Parse and Format where the answer is known.
-/
import Derived.Test.YtpopkeidpohdiaaDiGp
namespace Go.Proofs.Ytpopkeidpohdiaa
open Go.RowKit

/-- Parse at a string of which the answer is known. -/
theorem dirs_at {f : FuncId} {s : ByteArray} {l : List Dv} {r : Int} (hh : ∀ w, Calls Try.prog f #[.string s] w (DvsPost (dirL (ls s)).1 (dirL (ls s)).2 w)) (h : dirL (ls s) = (l, r)) (w : World) : Calls Try.prog f #[.string s] w (DvsPost l r w) := by
  have := hh w
  rwa [h] at this
theorem fmt_at {f : FuncId} {A : Option Addr} {n c : Nat} {l : List Dv} {t : List UInt8} {r : Int} {w : World} (hh : Calls Try.prog f #[.slice A n c] w (FmtPost l w)) (h : fmtR l = (t, r)) : Calls Try.prog f #[.slice A n c] w fun e w' => e = .returned (.tuple #[.string (bs t), .int .i64 r]) ∧ Below w.heap.size w w' := by
  unfold FmtPost at hh
  rwa [h] at hh

end Go.Proofs.Ytpopkeidpohdiaa
