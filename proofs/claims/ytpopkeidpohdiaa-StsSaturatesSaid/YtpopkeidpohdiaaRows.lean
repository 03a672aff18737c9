/-
  No cell of these rows narrows 'for every input' (looked for: loops, veiled, ifaces, maps, wideKeys, modest, calm, conditions, laid).
  DERIVED. THE GIVEN ROWS OF THIS SEAT. 4 by the template 'for every input the law returns true; each argument reads behind the call as it read before'; 0 by the template 'total and deterministic' (their statements: YtpopkeidpohdiaaTotals.lean).
  GIVEN WITH THE SEED: the statements are not yours to turn. If you find one false, say at which input.
  Laid BY PROGRAM, IN A SANDBOX (cutbox-rows.mjs): the forced cells as the released guide's own fill.sh prints them over the translation b2da4222ca5d61cd… (all of the seat's roots in one cut). By AI agents, Wed Nov 11 2026. No macro, syntax, notation, axiom, sorry.
-/
import Derived.Test.YtpopkeidpohdiaaChecked
import GoSem.Claim
import GoSem.ClaimJoined
import GoSem.ClaimMapViews
import Derived.JoinedTies
import Derived.KernelRfl
namespace Go.Proofs.Ytpopkeidpohdiaa
/- THE CELL 'sum', in the pinned program and in every row, IS THE sha256 OF THE DUMP (.gsa) THAT YtpopkeidpohdiaaProg.lean LOADS. Nothing in Lean hashes anything: it is a label: what it is worth is what the hold of that sum in a sandbox is worth. -/
noncomputable def Try.pinned : Pinned := { name := "ytpopkeidpohdiaa", sum := "b2da4222ca5d61cdd015c330f19caf94f896270d1ead36b3f824cf3c15714fbf", checked := Try.checked }
namespace Rows
def none {H : Type} : Left H := { results := [], args := [] }

/-- 'hstsstorelaw19.StsParseMatchesSpec': WHATEVER THE INPUT: true; the input reads as it did. -/
def stsParseMatchesSpecSpec : ChangeSpec := { name := "stsParseMatchesSpec", fn := fun _ => fun
  | [d] => { results := [.lit (.bool true)], args := [d] }
  | _ => none }
def stsParseMatchesSpecRow : OpenClaim := { program := "ytpopkeidpohdiaa", sum := "b2da4222ca5d61cdd015c330f19caf94f896270d1ead36b3f824cf3c15714fbf", func := "hstsstore/hstsstorelaw19.StsParseMatchesSpec", spec := "stsParseMatchesSpec", inPlace := ["internal/abi.NoEscape"], apart := false }
def StsParseMatchesSpecSaid : Prop := stsParseMatchesSpecRow.holds Try.pinned (OpenSpec.ofChange stsParseMatchesSpecSpec)

/-- ITS FALSE NEIGHBOUR: 'it returns false'. Refute it at one input. -/
def stsParseMatchesSpecWrong : ChangeSpec := { name := "stsParseMatchesSpec", fn := fun _ => fun
  | [d] => { results := [.lit (.bool false)], args := [d] }
  | _ => none }
def StsParseMatchesSpecWrongFalsely : Prop := stsParseMatchesSpecRow.holds Try.pinned (OpenSpec.ofChange stsParseMatchesSpecWrong)

/-- 'hstsstorelaw19.StsOrder': WHATEVER THE INPUT: true; the input reads as it did. -/
def stsOrderSpec : ChangeSpec := { name := "stsOrder", fn := fun _ => fun
  | [d1, d2, d3] => { results := [.lit (.bool true)], args := [d1, d2, d3] }
  | _ => none }
def stsOrderRow : OpenClaim := { program := "ytpopkeidpohdiaa", sum := "b2da4222ca5d61cdd015c330f19caf94f896270d1ead36b3f824cf3c15714fbf", func := "hstsstore/hstsstorelaw19.StsOrder", spec := "stsOrder", inPlace := ["internal/abi.NoEscape"], apart := false }
def StsOrderSaid : Prop := stsOrderRow.holds Try.pinned (OpenSpec.ofChange stsOrderSpec)

/-- ITS FALSE NEIGHBOUR: 'it returns false'. Refute it at one input. -/
def stsOrderWrong : ChangeSpec := { name := "stsOrder", fn := fun _ => fun
  | [d1, d2, d3] => { results := [.lit (.bool false)], args := [d1, d2, d3] }
  | _ => none }
def StsOrderWrongFalsely : Prop := stsOrderRow.holds Try.pinned (OpenSpec.ofChange stsOrderWrong)

/-- 'hstsstorelaw19.StsUnknown': WHATEVER THE INPUT: true; the input reads as it did. -/
def stsUnknownSpec : ChangeSpec := { name := "stsUnknown", fn := fun _ => fun
  | [d1, d2] => { results := [.lit (.bool true)], args := [d1, d2] }
  | _ => none }
def stsUnknownRow : OpenClaim := { program := "ytpopkeidpohdiaa", sum := "b2da4222ca5d61cdd015c330f19caf94f896270d1ead36b3f824cf3c15714fbf", func := "hstsstore/hstsstorelaw19.StsUnknown", spec := "stsUnknown", inPlace := ["internal/abi.NoEscape"], apart := false }
def StsUnknownSaid : Prop := stsUnknownRow.holds Try.pinned (OpenSpec.ofChange stsUnknownSpec)

/-- ITS FALSE NEIGHBOUR: 'it returns false'. Refute it at one input. -/
def stsUnknownWrong : ChangeSpec := { name := "stsUnknown", fn := fun _ => fun
  | [d1, d2] => { results := [.lit (.bool false)], args := [d1, d2] }
  | _ => none }
def StsUnknownWrongFalsely : Prop := stsUnknownRow.holds Try.pinned (OpenSpec.ofChange stsUnknownWrong)

/-- 'hstsstorelaw19.StsSaturates': WHATEVER THE INPUT: true; the input reads as it did. -/
def stsSaturatesSpec : ChangeSpec := { name := "stsSaturates", fn := fun _ => fun
  | [d1, d2, d3] => { results := [.lit (.bool true)], args := [d1, d2, d3] }
  | _ => none }
def stsSaturatesRow : OpenClaim := { program := "ytpopkeidpohdiaa", sum := "b2da4222ca5d61cdd015c330f19caf94f896270d1ead36b3f824cf3c15714fbf", func := "hstsstore/hstsstorelaw19.StsSaturates", spec := "stsSaturates", inPlace := ["internal/abi.NoEscape"], apart := false }
def StsSaturatesSaid : Prop := stsSaturatesRow.holds Try.pinned (OpenSpec.ofChange stsSaturatesSpec)

/-- ITS FALSE NEIGHBOUR: 'it returns false'. Refute it at one input. -/
def stsSaturatesWrong : ChangeSpec := { name := "stsSaturates", fn := fun _ => fun
  | [d1, d2, d3] => { results := [.lit (.bool false)], args := [d1, d2, d3] }
  | _ => none }
def StsSaturatesWrongFalsely : Prop := stsSaturatesRow.holds Try.pinned (OpenSpec.ofChange stsSaturatesWrong)

/- THE SECOND FORM. 'bulk': how many values and letters a reading holds, each counted each time it is reached (what is shared counts as often as it is met; a slice's spare places count too). A statement '..UptoSaid' is the law's where the arguments, and the package variables that the reading takes, are together of bulk at most 1048576: NARROWER than '..Said'. Prove '..Said' where nothing that the law and all that it calls make is longer than what came in: it says more and counts as full. Else prove '..UptoSaid'. A law counts once. -/
mutual
def uptoBulk {H : Type} : DataW H → Nat
  | .lit (.string bytes) => bytes.length + 1
  | .lit _ => 1
  | .nil => 1
  | .ptr d => uptoBulk d + 1
  | .slice elems spare => uptoBulkAll elems + uptoBulkAll spare + 1
  | .agg parts => uptoBulkAll parts + 1
  | .iface _ d => uptoBulk d + 1
  | .map entries => uptoBulkEntries entries + 1
  | .held _ => 1
def uptoBulkAll {H : Type} : List (DataW H) → Nat
  | [] => 0
  | d :: r => uptoBulk d + uptoBulkAll r
def uptoBulkEntries {H : Type} : List (Lit × DataW H) → Nat
  | [] => 0
  | x :: r => uptoBulkEntry x + uptoBulkEntries r
def uptoBulkEntry {H : Type} : Lit × DataW H → Nat
  | (.string bytes, d) => bytes.length + uptoBulk d + 1
  | (_, d) => uptoBulk d + 1
 end
def uptoSmall : (H : Type) → List (DataW H) → Bool := fun _ ds => decide (uptoBulkAll ds ≤ 1048576)
def OpenSpec.upto (s : _root_.Go.ChangeSpec) : _root_.Go.OpenSpec := { _root_.Go.OpenSpec.ofChange s with cond := some uptoSmall }

/-- 'hstsstorelaw19.StsParseMatchesSpec', WHERE WHAT IT READS IS OF BULK AT MOST 1048576: true; the input reads as it did. -/
def stsParseMatchesSpecUptoRow : OpenClaim := { program := "ytpopkeidpohdiaa", sum := "b2da4222ca5d61cdd015c330f19caf94f896270d1ead36b3f824cf3c15714fbf", func := "hstsstore/hstsstorelaw19.StsParseMatchesSpec", spec := "stsParseMatchesSpec", inPlace := ["internal/abi.NoEscape"], apart := false, narrowed := true }
def StsParseMatchesSpecUptoSaid : Prop := stsParseMatchesSpecUptoRow.holds Try.pinned (OpenSpec.upto stsParseMatchesSpecSpec)

/-- 'hstsstorelaw19.StsOrder', WHERE WHAT IT READS IS OF BULK AT MOST 1048576: true; the input reads as it did. -/
def stsOrderUptoRow : OpenClaim := { program := "ytpopkeidpohdiaa", sum := "b2da4222ca5d61cdd015c330f19caf94f896270d1ead36b3f824cf3c15714fbf", func := "hstsstore/hstsstorelaw19.StsOrder", spec := "stsOrder", inPlace := ["internal/abi.NoEscape"], apart := false, narrowed := true }
def StsOrderUptoSaid : Prop := stsOrderUptoRow.holds Try.pinned (OpenSpec.upto stsOrderSpec)

/-- 'hstsstorelaw19.StsUnknown', WHERE WHAT IT READS IS OF BULK AT MOST 1048576: true; the input reads as it did. -/
def stsUnknownUptoRow : OpenClaim := { program := "ytpopkeidpohdiaa", sum := "b2da4222ca5d61cdd015c330f19caf94f896270d1ead36b3f824cf3c15714fbf", func := "hstsstore/hstsstorelaw19.StsUnknown", spec := "stsUnknown", inPlace := ["internal/abi.NoEscape"], apart := false, narrowed := true }
def StsUnknownUptoSaid : Prop := stsUnknownUptoRow.holds Try.pinned (OpenSpec.upto stsUnknownSpec)

/-- 'hstsstorelaw19.StsSaturates', WHERE WHAT IT READS IS OF BULK AT MOST 1048576: true; the input reads as it did. -/
def stsSaturatesUptoRow : OpenClaim := { program := "ytpopkeidpohdiaa", sum := "b2da4222ca5d61cdd015c330f19caf94f896270d1ead36b3f824cf3c15714fbf", func := "hstsstore/hstsstorelaw19.StsSaturates", spec := "stsSaturates", inPlace := ["internal/abi.NoEscape"], apart := false, narrowed := true }
def StsSaturatesUptoSaid : Prop := stsSaturatesUptoRow.holds Try.pinned (OpenSpec.upto stsSaturatesSpec)

end Rows
end Go.Proofs.Ytpopkeidpohdiaa
