/-
  What is asked of package label's functions, in plain words; awake of layer 13.
-/
import Derived.Test.YtoieapdfpbcfpaaDoorLabP
import Derived.Test.YtoieapdfpbcfpaaDoorPuB
import Derived.Test.YtoieapdfpbcfpaaDoorU8T
import Derived.Test.YtoieapdfpbcfpaaDoorStill
namespace Go.Proofs.YtoieapdfpbcfpaaDoor
open Go.RowKit

def LbVal (F : FuncId) : Prop := ∀ (s : ByteArray) (w : World), s.size ≤ 1000000000 → Calls Tryd.prog F #[.string s] w fun e w' => e = .returned (.bool (labL (ls s))) ∧ Below w.heap.size w w'
def LbTA (F : FuncId) : Prop := ∀ (s : ByteArray) (w : World), s.size ≤ 1000000000 → U8 w → Calls Tryd.prog F #[.string s] w fun e w' => e = .returned (.tuple #[.string (bs (toA (ls s)).2), .int .i64 ((toA (ls s)).1 : Nat)]) ∧ Below w.heap.size w w'
def LbTU (F : FuncId) : Prop := ∀ (s : ByteArray) (w : World), s.size ≤ 1000000000 → Calls Tryd.prog F #[.string s] w fun e w' => e = .returned (.tuple #[.string (bs (toU (ls s)).2), .int .i64 ((toU (ls s)).1 : Nat)]) ∧ Below w.heap.size w w'

theorem ex_encB : encB [98, 252, 99, 104, 101, 114] = [98, 99, 104, 101, 114, 45, 107, 118, 97] := by
  unfold encB
  rw [ex_ds]
  show [98, 99, 104, 101, 114] ++ ([45] ++ digsOf [745] 72 5 true) = _
  rw [digsOf, ex_gen, digsOf]
  rfl
def exB : List UInt8 := [66, 195, 188, 99, 104, 101, 114]
def exX : List UInt8 := [120, 110, 45, 45, 98, 99, 104, 101, 114, 45, 107, 118, 97]
theorem ex_lab : labL exX = true := by
  have hd : decL [98, 99, 104, 101, 114, 45, 107, 118, 97] = .ok [98, 252, 99, 104, 101, 114] := by kernel_rfl
  have hp : propL [98, 99, 104, 101, 114, 45, 107, 118, 97] = true := by
    unfold propL
    rw [hd]
    simp only []
    rw [ex_encB]
    decide
  unfold labL
  rw [show exX.drop 4 = [98, 99, 104, 101, 114, 45, 107, 118, 97] from rfl, hp, Bool.or_true, Bool.and_true]
  decide +kernel
theorem ex_toA : toA exB = (0, exX) := by
  have h1 : ptsL exB = some [66, 252, 99, 104, 101, 114] := by kernel_rfl
  have h2 : toAOut exB [66, 252, 99, 104, 101, 114] = exX := by
    unfold toAOut
    rw [if_pos (by decide), show [66, 252, 99, 104, 101, 114].map lowP = [98, 252, 99, 104, 101, 114] from by decide, ex_encB]
    rfl
  unfold toA
  rw [h1]
  simp only [h2]
  rw [if_neg (by decide), if_pos ex_lab]
theorem ex_toU : toU exX = (0, [98, 195, 188, 99, 104, 101, 114]) := by
  have hd : decL [98, 99, 104, 101, 114, 45, 107, 118, 97] = .ok [98, 252, 99, 104, 101, 114] := by kernel_rfl
  unfold toU
  rw [if_pos ex_lab]
  unfold toUOut toUOut.decV'
  rw [if_pos (by decide), show exX.drop 4 = [98, 99, 104, 101, 114, 45, 107, 118, 97] from rfl, hd]
  decide +kernel
theorem ex_no : toA [45, 97] = (14, []) := by
  have h1 : ptsL [45, 97] = some [45, 97] := by kernel_rfl
  have h2 : toAOut [45, 97] [45, 97] = [45, 97] := by decide +kernel
  unfold toA
  rw [h1]
  simp only [h2]
  rw [if_neg (by decide), if_neg (by decide +kernel)]
theorem ex_val : labL [97, 95, 49] = true := by decide +kernel

end Go.Proofs.YtoieapdfpbcfpaaDoor
