/-
  The tables that Go's own library reads to append a number, to the base 10 or 16, lie in the world; what is made beside them leaves them there.
-/
import Derived.Test.YthihfhmclmmadaaDoorPowI
namespace Go.Proofs.YthihfhmclmmadaaDoor
open Go.RowKit

/-- The powers of ten, and the one entry that is read to the base 16. -/
def Pow6 (w : World) : Prop := Pow w ∧ w.cell? ⟨2, 15, none⟩ = some (.int .u8 4)
theorem cell_block {w : World} {b j : Nat} {v : Value} (h : w.cell? ⟨b, j, none⟩ = some v) : b < w.heap.size := by
  by_cases hb : b < w.heap.size
  · exact hb
  · exfalso
    have : w.heap[b]? = none := Array.getElem?_eq_none (by omega)
    simp [World.cell?, this] at h
theorem pow6_below {w w' : World} (h : Pow6 w) (hb : Below w.heap.size w w') : Pow6 w' :=
  ⟨pow_below h.1 hb, (hb.cell (cell_block h.2)).trans h.2⟩
theorem pow6_drew {w : World} (h : Pow6 w) : Pow6 w.drew := h
theorem pow6_drewN {w : World} (h : Pow6 w) (k : Nat) : Pow6 (w.drewN k) := h

end Go.Proofs.YthihfhmclmmadaaDoor
