/-
  No cell of these rows narrows 'for every input' (looked for: loops, veiled, ifaces, maps, wideKeys, modest, calm, conditions, laid).
  DERIVED. THE GIVEN ROWS OF THIS SEAT. 6 by the template 'for every input the law returns true; each argument reads behind the call as it read before'; 0 by the template 'total and deterministic' (their statements: YtbcfjkfkkklgbaaTotals.lean).
  GIVEN WITH THE SEED: the statements are not yours to turn. If you find one false, say at which input.
  Laid BY PROGRAM, IN A SANDBOX (cutbox-rows.mjs): the forced cells as the released guide's own fill.sh prints them over the translation f288d7cd99723619… (all of the seat's roots in one cut). By AI agents, Wed Nov 11 2026. No macro, syntax, notation, axiom, sorry.
-/
import Derived.Test.YtbcfjkfkkklgbaaChecked
import GoSem.Claim
import GoSem.ClaimJoined
import GoSem.ClaimMapViews
import Derived.JoinedTies
import Derived.KernelRfl
namespace Go.Proofs.Ytbcfjkfkkklgbaa
/- THE CELL 'sum', in the pinned program and in every row, IS THE sha256 OF THE DUMP (.gsa) THAT YtbcfjkfkkklgbaaProg.lean LOADS. Nothing in Lean hashes anything: it is a label: what it is worth is what the hold of that sum in a sandbox is worth. -/
noncomputable def Try.pinned : Pinned := { name := "ytbcfjkfkkklgbaa", sum := "f288d7cd9972361911139e529d67000c719e08764e0dfee2490687f0c9cda7d1", checked := Try.checked }
namespace Rows
def none {H : Type} : Left H := { results := [], args := [] }

/-- 'hstsstorelaw08.WalSpace': WHATEVER THE INPUT: true; the input reads as it did. -/
def walSpaceSpec : ChangeSpec := { name := "walSpace", fn := fun _ => fun
  | [d1, d2] => { results := [.lit (.bool true)], args := [d1, d2] }
  | _ => none }
def walSpaceRow : OpenClaim := { program := "ytbcfjkfkkklgbaa", sum := "f288d7cd9972361911139e529d67000c719e08764e0dfee2490687f0c9cda7d1", func := "hstsstore/hstsstorelaw08.WalSpace", spec := "walSpace", apart := false }
def WalSpaceSaid : Prop := walSpaceRow.holds Try.pinned (OpenSpec.ofChange walSpaceSpec)

/-- ITS FALSE NEIGHBOUR: 'it returns false'. Refute it at one input. -/
def walSpaceWrong : ChangeSpec := { name := "walSpace", fn := fun _ => fun
  | [d1, d2] => { results := [.lit (.bool false)], args := [d1, d2] }
  | _ => none }
def WalSpaceWrongFalsely : Prop := walSpaceRow.holds Try.pinned (OpenSpec.ofChange walSpaceWrong)

/-- 'hstsstorelaw08.WalNone': WHATEVER THE INPUT: true; the input reads as it did. -/
def walNoneSpec : ChangeSpec := { name := "walNone", fn := fun _ => fun
  | [d] => { results := [.lit (.bool true)], args := [d] }
  | _ => none }
def walNoneRow : OpenClaim := { program := "ytbcfjkfkkklgbaa", sum := "f288d7cd9972361911139e529d67000c719e08764e0dfee2490687f0c9cda7d1", func := "hstsstore/hstsstorelaw08.WalNone", spec := "walNone", apart := false }
def WalNoneSaid : Prop := walNoneRow.holds Try.pinned (OpenSpec.ofChange walNoneSpec)

/-- ITS FALSE NEIGHBOUR: 'it returns false'. Refute it at one input. -/
def walNoneWrong : ChangeSpec := { name := "walNone", fn := fun _ => fun
  | [d] => { results := [.lit (.bool false)], args := [d] }
  | _ => none }
def WalNoneWrongFalsely : Prop := walNoneRow.holds Try.pinned (OpenSpec.ofChange walNoneWrong)

/-- 'hstsstorelaw05.SectorMatchesSpec': WHATEVER THE INPUT: true; the input reads as it did. -/
def sectorMatchesSpecSpec : ChangeSpec := { name := "sectorMatchesSpec", fn := fun _ => fun
  | [d1, d2] => { results := [.lit (.bool true)], args := [d1, d2] }
  | _ => none }
def sectorMatchesSpecRow : OpenClaim := { program := "ytbcfjkfkkklgbaa", sum := "f288d7cd9972361911139e529d67000c719e08764e0dfee2490687f0c9cda7d1", func := "hstsstore/hstsstorelaw05.SectorMatchesSpec", spec := "sectorMatchesSpec", unfollowed := true, recurses := true, apart := false }
def SectorMatchesSpecSaid : Prop := sectorMatchesSpecRow.holds Try.pinned (OpenSpec.ofChange sectorMatchesSpecSpec)

/-- ITS FALSE NEIGHBOUR: 'it returns false'. Refute it at one input. -/
def sectorMatchesSpecWrong : ChangeSpec := { name := "sectorMatchesSpec", fn := fun _ => fun
  | [d1, d2] => { results := [.lit (.bool false)], args := [d1, d2] }
  | _ => none }
def SectorMatchesSpecWrongFalsely : Prop := sectorMatchesSpecRow.holds Try.pinned (OpenSpec.ofChange sectorMatchesSpecWrong)

/-- 'hstsstorelaw06.ExtentMatchesSpec': WHATEVER THE INPUT: true; the input reads as it did. -/
def extentMatchesSpecSpec : ChangeSpec := { name := "extentMatchesSpec", fn := fun _ => fun
  | [d1, d2] => { results := [.lit (.bool true)], args := [d1, d2] }
  | _ => none }
def extentMatchesSpecRow : OpenClaim := { program := "ytbcfjkfkkklgbaa", sum := "f288d7cd9972361911139e529d67000c719e08764e0dfee2490687f0c9cda7d1", func := "hstsstore/hstsstorelaw06.ExtentMatchesSpec", spec := "extentMatchesSpec", unfollowed := true, recurses := true, apart := false }
def ExtentMatchesSpecSaid : Prop := extentMatchesSpecRow.holds Try.pinned (OpenSpec.ofChange extentMatchesSpecSpec)

/-- ITS FALSE NEIGHBOUR: 'it returns false'. Refute it at one input. -/
def extentMatchesSpecWrong : ChangeSpec := { name := "extentMatchesSpec", fn := fun _ => fun
  | [d1, d2] => { results := [.lit (.bool false)], args := [d1, d2] }
  | _ => none }
def ExtentMatchesSpecWrongFalsely : Prop := extentMatchesSpecRow.holds Try.pinned (OpenSpec.ofChange extentMatchesSpecWrong)

/-- 'hstsstorelaw07.FrameEncodeMatchesSpec': WHATEVER THE INPUT: true; the input reads as it did. -/
def frameEncodeMatchesSpecSpec : ChangeSpec := { name := "frameEncodeMatchesSpec", fn := fun _ => fun
  | [d1, d2, d3] => { results := [.lit (.bool true)], args := [d1, d2, d3] }
  | _ => none }
def frameEncodeMatchesSpecRow : OpenClaim := { program := "ytbcfjkfkkklgbaa", sum := "f288d7cd9972361911139e529d67000c719e08764e0dfee2490687f0c9cda7d1", func := "hstsstore/hstsstorelaw07.FrameEncodeMatchesSpec", spec := "frameEncodeMatchesSpec", apart := false }
def FrameEncodeMatchesSpecSaid : Prop := frameEncodeMatchesSpecRow.holds Try.pinned (OpenSpec.ofChange frameEncodeMatchesSpecSpec)

/-- ITS FALSE NEIGHBOUR: 'it returns false'. Refute it at one input. -/
def frameEncodeMatchesSpecWrong : ChangeSpec := { name := "frameEncodeMatchesSpec", fn := fun _ => fun
  | [d1, d2, d3] => { results := [.lit (.bool false)], args := [d1, d2, d3] }
  | _ => none }
def FrameEncodeMatchesSpecWrongFalsely : Prop := frameEncodeMatchesSpecRow.holds Try.pinned (OpenSpec.ofChange frameEncodeMatchesSpecWrong)

/-- 'hstsstorelaw07.FrameScanMatchesSpec': WHATEVER THE INPUT: true; the input reads as it did. -/
def frameScanMatchesSpecSpec : ChangeSpec := { name := "frameScanMatchesSpec", fn := fun _ => fun
  | [d1, d2] => { results := [.lit (.bool true)], args := [d1, d2] }
  | _ => none }
def frameScanMatchesSpecRow : OpenClaim := { program := "ytbcfjkfkkklgbaa", sum := "f288d7cd9972361911139e529d67000c719e08764e0dfee2490687f0c9cda7d1", func := "hstsstore/hstsstorelaw07.FrameScanMatchesSpec", spec := "frameScanMatchesSpec", apart := false }
def FrameScanMatchesSpecSaid : Prop := frameScanMatchesSpecRow.holds Try.pinned (OpenSpec.ofChange frameScanMatchesSpecSpec)

/-- ITS FALSE NEIGHBOUR: 'it returns false'. Refute it at one input. -/
def frameScanMatchesSpecWrong : ChangeSpec := { name := "frameScanMatchesSpec", fn := fun _ => fun
  | [d1, d2] => { results := [.lit (.bool false)], args := [d1, d2] }
  | _ => none }
def FrameScanMatchesSpecWrongFalsely : Prop := frameScanMatchesSpecRow.holds Try.pinned (OpenSpec.ofChange frameScanMatchesSpecWrong)

/- THE SECOND FORM. 'bulk': how many values and letters a reading holds, each counted each time it is reached (what is shared counts as often as it is met; a slice's spare places count too). A statement '..UptoSaid' is the law's where the arguments, and the package variables that the reading takes, are together of bulk at most 1048576: NARROWER than '..Said'. Prove '..Said' where nothing that the law and all that it calls make is longer than what came in: it says more and counts as full. Else prove '..UptoSaid'. A law counts once. -/
mutual
def uptoBulk {H : Type} : DataW H → Nat
  | .lit (.string bytes) => bytes.length + 1
  | .lit _ => 1
  | .nil => 1
  | .ptr d => uptoBulk d + 1
  | .slice elems spare => uptoBulkAll elems + uptoBulkAll spare + 1
  | .agg parts => uptoBulkAll parts + 1
  | .iface _ d => uptoBulk d + 1
  | .map entries => uptoBulkEntries entries + 1
  | .held _ => 1
def uptoBulkAll {H : Type} : List (DataW H) → Nat
  | [] => 0
  | d :: r => uptoBulk d + uptoBulkAll r
def uptoBulkEntries {H : Type} : List (Lit × DataW H) → Nat
  | [] => 0
  | x :: r => uptoBulkEntry x + uptoBulkEntries r
def uptoBulkEntry {H : Type} : Lit × DataW H → Nat
  | (.string bytes, d) => bytes.length + uptoBulk d + 1
  | (_, d) => uptoBulk d + 1
 end
def uptoSmall : (H : Type) → List (DataW H) → Bool := fun _ ds => decide (uptoBulkAll ds ≤ 1048576)
def OpenSpec.upto (s : _root_.Go.ChangeSpec) : _root_.Go.OpenSpec := { _root_.Go.OpenSpec.ofChange s with cond := some uptoSmall }

/-- 'hstsstorelaw08.WalSpace', WHERE WHAT IT READS IS OF BULK AT MOST 1048576: true; the input reads as it did. -/
def walSpaceUptoRow : OpenClaim := { program := "ytbcfjkfkkklgbaa", sum := "f288d7cd9972361911139e529d67000c719e08764e0dfee2490687f0c9cda7d1", func := "hstsstore/hstsstorelaw08.WalSpace", spec := "walSpace", apart := false, narrowed := true }
def WalSpaceUptoSaid : Prop := walSpaceUptoRow.holds Try.pinned (OpenSpec.upto walSpaceSpec)

/-- 'hstsstorelaw08.WalNone', WHERE WHAT IT READS IS OF BULK AT MOST 1048576: true; the input reads as it did. -/
def walNoneUptoRow : OpenClaim := { program := "ytbcfjkfkkklgbaa", sum := "f288d7cd9972361911139e529d67000c719e08764e0dfee2490687f0c9cda7d1", func := "hstsstore/hstsstorelaw08.WalNone", spec := "walNone", apart := false, narrowed := true }
def WalNoneUptoSaid : Prop := walNoneUptoRow.holds Try.pinned (OpenSpec.upto walNoneSpec)

/-- 'hstsstorelaw05.SectorMatchesSpec', WHERE WHAT IT READS IS OF BULK AT MOST 1048576: true; the input reads as it did. -/
def sectorMatchesSpecUptoRow : OpenClaim := { program := "ytbcfjkfkkklgbaa", sum := "f288d7cd9972361911139e529d67000c719e08764e0dfee2490687f0c9cda7d1", func := "hstsstore/hstsstorelaw05.SectorMatchesSpec", spec := "sectorMatchesSpec", unfollowed := true, recurses := true, apart := false, narrowed := true }
def SectorMatchesSpecUptoSaid : Prop := sectorMatchesSpecUptoRow.holds Try.pinned (OpenSpec.upto sectorMatchesSpecSpec)

/-- 'hstsstorelaw06.ExtentMatchesSpec', WHERE WHAT IT READS IS OF BULK AT MOST 1048576: true; the input reads as it did. -/
def extentMatchesSpecUptoRow : OpenClaim := { program := "ytbcfjkfkkklgbaa", sum := "f288d7cd9972361911139e529d67000c719e08764e0dfee2490687f0c9cda7d1", func := "hstsstore/hstsstorelaw06.ExtentMatchesSpec", spec := "extentMatchesSpec", unfollowed := true, recurses := true, apart := false, narrowed := true }
def ExtentMatchesSpecUptoSaid : Prop := extentMatchesSpecUptoRow.holds Try.pinned (OpenSpec.upto extentMatchesSpecSpec)

/-- 'hstsstorelaw07.FrameEncodeMatchesSpec', WHERE WHAT IT READS IS OF BULK AT MOST 1048576: true; the input reads as it did. -/
def frameEncodeMatchesSpecUptoRow : OpenClaim := { program := "ytbcfjkfkkklgbaa", sum := "f288d7cd9972361911139e529d67000c719e08764e0dfee2490687f0c9cda7d1", func := "hstsstore/hstsstorelaw07.FrameEncodeMatchesSpec", spec := "frameEncodeMatchesSpec", apart := false, narrowed := true }
def FrameEncodeMatchesSpecUptoSaid : Prop := frameEncodeMatchesSpecUptoRow.holds Try.pinned (OpenSpec.upto frameEncodeMatchesSpecSpec)

/-- 'hstsstorelaw07.FrameScanMatchesSpec', WHERE WHAT IT READS IS OF BULK AT MOST 1048576: true; the input reads as it did. -/
def frameScanMatchesSpecUptoRow : OpenClaim := { program := "ytbcfjkfkkklgbaa", sum := "f288d7cd9972361911139e529d67000c719e08764e0dfee2490687f0c9cda7d1", func := "hstsstore/hstsstorelaw07.FrameScanMatchesSpec", spec := "frameScanMatchesSpec", apart := false, narrowed := true }
def FrameScanMatchesSpecUptoSaid : Prop := frameScanMatchesSpecUptoRow.holds Try.pinned (OpenSpec.upto frameScanMatchesSpecSpec)

end Rows
end Go.Proofs.Ytbcfjkfkkklgbaa
