/-
  Types of lists of strings; no function of the program.
-/
import Derived.Test.YtmfoegpdjajicaaRows
import Derived.Test.YtmfoegpdjajicaaApp
import Derived.Test.YtmfoegpdjajicaaAscP
namespace Go.Proofs.Ytmfoegpdjajicaa
open Go.RowKit

theorem tyStrs : Try.prog.underlying 38 = some (.slice 9) := by kernel_rfl
theorem infoStr : (Try.prog.info? 9).map (fun i => (i.zero, i.size, i.bytes)) = some (some (.string ByteArray.empty), 1, 16) := by kernel_rfl

def wv (acc : List (List UInt8)) : List Value := acc.map fun l => .string (bs l)
theorem wv_snoc (acc : List (List UInt8)) (l : List UInt8) : wv acc ++ [.string (bs l)] = wv (acc ++ [l]) := by simp [wv]
theorem wv_length (acc : List (List UInt8)) : (wv acc).length = acc.length := by simp [wv]
theorem wv_get (acc : List (List UInt8)) (k : Nat) (h : k < acc.length) : (wv acc)[k]'(by rw [wv_length]; exact h) = .string (bs acc[k]) := by simp [wv]

end Go.Proofs.Ytmfoegpdjajicaa
