/-
  No cell of these rows narrows 'for every input' (looked for: loops, veiled, ifaces, maps, wideKeys, modest, calm, conditions, laid).
  DERIVED. THE GIVEN ROWS OF THIS SEAT. 4 by the template 'for every input the law returns true; each argument reads behind the call as it read before'; 0 by the template 'total and deterministic' (their statements: YtbknpfngboioeaaTotals.lean).
  GIVEN WITH THE SEED: the statements are not yours to turn. If you find one false, say at which input.
  Laid BY PROGRAM, IN A SANDBOX (cutbox-rows.mjs): the forced cells as the released guide's own fill.sh prints them over the translation 127fcbb11bcd984d… (all of the seat's roots in one cut). By AI agents, Wed Nov 11 2026. No macro, syntax, notation, axiom, sorry.
-/
import Derived.Test.YtbknpfngboioeaaChecked
import GoSem.Claim
import GoSem.ClaimJoined
import GoSem.ClaimMapViews
import Derived.JoinedTies
import Derived.KernelRfl
namespace Go.Proofs.Ytbknpfngboioeaa
/- THE CELL 'sum', in the pinned program and in every row, IS THE sha256 OF THE DUMP (.gsa) THAT YtbknpfngboioeaaProg.lean LOADS. Nothing in Lean hashes anything: it is a label: what it is worth is what the hold of that sum in a sandbox is worth. -/
noncomputable def Try.pinned : Pinned := { name := "ytbknpfngboioeaa", sum := "127fcbb11bcd984d4a34e7105bfcae5e9f635f13de379771f6a8f1c2c08e9a89", checked := Try.checked }
namespace Rows
def none {H : Type} : Left H := { results := [], args := [] }

/-- 'hstsstorelaw05.SectorMatchesSpec': WHATEVER THE INPUT: true; the input reads as it did. -/
def sectorMatchesSpecSpec : ChangeSpec := { name := "sectorMatchesSpec", fn := fun _ => fun
  | [d1, d2] => { results := [.lit (.bool true)], args := [d1, d2] }
  | _ => none }
def sectorMatchesSpecRow : OpenClaim := { program := "ytbknpfngboioeaa", sum := "127fcbb11bcd984d4a34e7105bfcae5e9f635f13de379771f6a8f1c2c08e9a89", func := "hstsstore/hstsstorelaw05.SectorMatchesSpec", spec := "sectorMatchesSpec", unfollowed := true, recurses := true, apart := false }
def SectorMatchesSpecSaid : Prop := sectorMatchesSpecRow.holds Try.pinned (OpenSpec.ofChange sectorMatchesSpecSpec)

/-- ITS FALSE NEIGHBOUR: 'it returns false'. Refute it at one input. -/
def sectorMatchesSpecWrong : ChangeSpec := { name := "sectorMatchesSpec", fn := fun _ => fun
  | [d1, d2] => { results := [.lit (.bool false)], args := [d1, d2] }
  | _ => none }
def SectorMatchesSpecWrongFalsely : Prop := sectorMatchesSpecRow.holds Try.pinned (OpenSpec.ofChange sectorMatchesSpecWrong)

/-- 'hstsstorelaw06.ExtentMatchesSpec': WHATEVER THE INPUT: true; the input reads as it did. -/
def extentMatchesSpecSpec : ChangeSpec := { name := "extentMatchesSpec", fn := fun _ => fun
  | [d1, d2] => { results := [.lit (.bool true)], args := [d1, d2] }
  | _ => none }
def extentMatchesSpecRow : OpenClaim := { program := "ytbknpfngboioeaa", sum := "127fcbb11bcd984d4a34e7105bfcae5e9f635f13de379771f6a8f1c2c08e9a89", func := "hstsstore/hstsstorelaw06.ExtentMatchesSpec", spec := "extentMatchesSpec", unfollowed := true, recurses := true, apart := false }
def ExtentMatchesSpecSaid : Prop := extentMatchesSpecRow.holds Try.pinned (OpenSpec.ofChange extentMatchesSpecSpec)

/-- ITS FALSE NEIGHBOUR: 'it returns false'. Refute it at one input. -/
def extentMatchesSpecWrong : ChangeSpec := { name := "extentMatchesSpec", fn := fun _ => fun
  | [d1, d2] => { results := [.lit (.bool false)], args := [d1, d2] }
  | _ => none }
def ExtentMatchesSpecWrongFalsely : Prop := extentMatchesSpecRow.holds Try.pinned (OpenSpec.ofChange extentMatchesSpecWrong)

/-- 'hstsstorelaw06.ExtentReadBack': WHATEVER THE INPUT: true; the input reads as it did. -/
def extentReadBackSpec : ChangeSpec := { name := "extentReadBack", fn := fun _ => fun
  | [d1, d2, d3] => { results := [.lit (.bool true)], args := [d1, d2, d3] }
  | _ => none }
def extentReadBackRow : OpenClaim := { program := "ytbknpfngboioeaa", sum := "127fcbb11bcd984d4a34e7105bfcae5e9f635f13de379771f6a8f1c2c08e9a89", func := "hstsstore/hstsstorelaw06.ExtentReadBack", spec := "extentReadBack", unfollowed := true, recurses := true, apart := false }
def ExtentReadBackSaid : Prop := extentReadBackRow.holds Try.pinned (OpenSpec.ofChange extentReadBackSpec)

/-- ITS FALSE NEIGHBOUR: 'it returns false'. Refute it at one input. -/
def extentReadBackWrong : ChangeSpec := { name := "extentReadBack", fn := fun _ => fun
  | [d1, d2, d3] => { results := [.lit (.bool false)], args := [d1, d2, d3] }
  | _ => none }
def ExtentReadBackWrongFalsely : Prop := extentReadBackRow.holds Try.pinned (OpenSpec.ofChange extentReadBackWrong)

/-- 'hstsstorelaw06.ExtentOperations': WHATEVER THE INPUT: true; the input reads as it did. -/
def extentOperationsSpec : ChangeSpec := { name := "extentOperations", fn := fun _ => fun
  | [d1, d2, d3] => { results := [.lit (.bool true)], args := [d1, d2, d3] }
  | _ => none }
def extentOperationsRow : OpenClaim := { program := "ytbknpfngboioeaa", sum := "127fcbb11bcd984d4a34e7105bfcae5e9f635f13de379771f6a8f1c2c08e9a89", func := "hstsstore/hstsstorelaw06.ExtentOperations", spec := "extentOperations", unfollowed := true, recurses := true, apart := false }
def ExtentOperationsSaid : Prop := extentOperationsRow.holds Try.pinned (OpenSpec.ofChange extentOperationsSpec)

/-- ITS FALSE NEIGHBOUR: 'it returns false'. Refute it at one input. -/
def extentOperationsWrong : ChangeSpec := { name := "extentOperations", fn := fun _ => fun
  | [d1, d2, d3] => { results := [.lit (.bool false)], args := [d1, d2, d3] }
  | _ => none }
def ExtentOperationsWrongFalsely : Prop := extentOperationsRow.holds Try.pinned (OpenSpec.ofChange extentOperationsWrong)

/- THE SECOND FORM. 'bulk': how many values and letters a reading holds, each counted each time it is reached (what is shared counts as often as it is met; a slice's spare places count too). A statement '..UptoSaid' is the law's where the arguments, and the package variables that the reading takes, are together of bulk at most 1048576: NARROWER than '..Said'. Prove '..Said' where nothing that the law and all that it calls make is longer than what came in: it says more and counts as full. Else prove '..UptoSaid'. A law counts once. -/
mutual
def uptoBulk {H : Type} : DataW H → Nat
  | .lit (.string bytes) => bytes.length + 1
  | .lit _ => 1
  | .nil => 1
  | .ptr d => uptoBulk d + 1
  | .slice elems spare => uptoBulkAll elems + uptoBulkAll spare + 1
  | .agg parts => uptoBulkAll parts + 1
  | .iface _ d => uptoBulk d + 1
  | .map entries => uptoBulkEntries entries + 1
  | .held _ => 1
def uptoBulkAll {H : Type} : List (DataW H) → Nat
  | [] => 0
  | d :: r => uptoBulk d + uptoBulkAll r
def uptoBulkEntries {H : Type} : List (Lit × DataW H) → Nat
  | [] => 0
  | x :: r => uptoBulkEntry x + uptoBulkEntries r
def uptoBulkEntry {H : Type} : Lit × DataW H → Nat
  | (.string bytes, d) => bytes.length + uptoBulk d + 1
  | (_, d) => uptoBulk d + 1
 end
def uptoSmall : (H : Type) → List (DataW H) → Bool := fun _ ds => decide (uptoBulkAll ds ≤ 1048576)
def OpenSpec.upto (s : _root_.Go.ChangeSpec) : _root_.Go.OpenSpec := { _root_.Go.OpenSpec.ofChange s with cond := some uptoSmall }

/-- 'hstsstorelaw05.SectorMatchesSpec', WHERE WHAT IT READS IS OF BULK AT MOST 1048576: true; the input reads as it did. -/
def sectorMatchesSpecUptoRow : OpenClaim := { program := "ytbknpfngboioeaa", sum := "127fcbb11bcd984d4a34e7105bfcae5e9f635f13de379771f6a8f1c2c08e9a89", func := "hstsstore/hstsstorelaw05.SectorMatchesSpec", spec := "sectorMatchesSpec", unfollowed := true, recurses := true, apart := false, narrowed := true }
def SectorMatchesSpecUptoSaid : Prop := sectorMatchesSpecUptoRow.holds Try.pinned (OpenSpec.upto sectorMatchesSpecSpec)

/-- 'hstsstorelaw06.ExtentMatchesSpec', WHERE WHAT IT READS IS OF BULK AT MOST 1048576: true; the input reads as it did. -/
def extentMatchesSpecUptoRow : OpenClaim := { program := "ytbknpfngboioeaa", sum := "127fcbb11bcd984d4a34e7105bfcae5e9f635f13de379771f6a8f1c2c08e9a89", func := "hstsstore/hstsstorelaw06.ExtentMatchesSpec", spec := "extentMatchesSpec", unfollowed := true, recurses := true, apart := false, narrowed := true }
def ExtentMatchesSpecUptoSaid : Prop := extentMatchesSpecUptoRow.holds Try.pinned (OpenSpec.upto extentMatchesSpecSpec)

/-- 'hstsstorelaw06.ExtentReadBack', WHERE WHAT IT READS IS OF BULK AT MOST 1048576: true; the input reads as it did. -/
def extentReadBackUptoRow : OpenClaim := { program := "ytbknpfngboioeaa", sum := "127fcbb11bcd984d4a34e7105bfcae5e9f635f13de379771f6a8f1c2c08e9a89", func := "hstsstore/hstsstorelaw06.ExtentReadBack", spec := "extentReadBack", unfollowed := true, recurses := true, apart := false, narrowed := true }
def ExtentReadBackUptoSaid : Prop := extentReadBackUptoRow.holds Try.pinned (OpenSpec.upto extentReadBackSpec)

/-- 'hstsstorelaw06.ExtentOperations', WHERE WHAT IT READS IS OF BULK AT MOST 1048576: true; the input reads as it did. -/
def extentOperationsUptoRow : OpenClaim := { program := "ytbknpfngboioeaa", sum := "127fcbb11bcd984d4a34e7105bfcae5e9f635f13de379771f6a8f1c2c08e9a89", func := "hstsstore/hstsstorelaw06.ExtentOperations", spec := "extentOperations", unfollowed := true, recurses := true, apart := false, narrowed := true }
def ExtentOperationsUptoSaid : Prop := extentOperationsUptoRow.holds Try.pinned (OpenSpec.upto extentOperationsSpec)

end Rows
end Go.Proofs.Ytbknpfngboioeaa
