/-
  Slices of numbers in memory.
-/
import Derived.Test.YtbpgkdhdooaigaaRows
import Derived.Test.YtbpgkdhdooaigaaApp
namespace Go.Proofs.Ytbpgkdhdooaigaa
open Go.RowKit

theorem tyInts : Try.prog.underlying 34 = some (.slice 3) := by kernel_rfl
theorem infoInt : (Try.prog.info? 3).map (fun i => (i.zero, i.size, i.bytes)) = some (some (.int .i64 0), 1, 8) := by kernel_rfl
/-- Numbers that came in, or that the statement holds. -/
structure InZ (w : World) (B : Nat) (A : Option Addr) (len cap : Nat) (Z : List Int) : Prop where
  has : Has w B A len (Z.map (Value.int .i64))
  le : len ≤ cap
  room : cap ≤ maxLen
  nil : A = none → cap = 0
  wf : ∀ z ∈ Z, -9223372036854775808 ≤ z ∧ z ≤ 9223372036854775807
theorem InZ.len {w : World} {B len cap : Nat} {A : Option Addr} {Z : List Int} (h : InZ w B A len cap Z) : len = Z.length := by have := h.has.1; simpa using this.symm
theorem InZ.below {w w' : World} {B B' len cap : Nat} {A : Option Addr} {Z : List Int} (h : InZ w B A len cap Z) (hb : Below B' w w') (hB : B ≤ B') : InZ w' B A len cap Z := ⟨h.has.below' hb hB, h.le, h.room, h.nil, h.wf⟩
theorem InZ.more {w : World} {B B' len cap : Nat} {A : Option Addr} {Z : List Int} (h : InZ w B A len cap Z) (hB : B ≤ B') : InZ w B' A len cap Z := ⟨h.has.more hB, h.le, h.room, h.nil, h.wf⟩

end Go.Proofs.Ytbpgkdhdooaigaa
