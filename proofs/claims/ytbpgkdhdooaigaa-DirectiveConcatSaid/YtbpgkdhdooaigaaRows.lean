/-
  No cell of these rows narrows 'for every input' (looked for: loops, veiled, ifaces, maps, wideKeys, modest, calm, conditions, laid).
  DERIVED. THE GIVEN ROWS OF THIS SEAT. 5 by the template 'for every input the law returns true; each argument reads behind the call as it read before'; 0 by the template 'total and deterministic' (their statements: YtbpgkdhdooaigaaTotals.lean).
  GIVEN WITH THE SEED: the statements are not yours to turn. If you find one false, say at which input.
  Laid BY PROGRAM, IN A SANDBOX (cutbox-rows.mjs): the forced cells as the released guide's own fill.sh prints them over the translation ec53ec4f975c1a70… (all of the seat's roots in one cut). By AI agents, Wed Nov 11 2026. No macro, syntax, notation, axiom, sorry.
-/
import Derived.Test.YtbpgkdhdooaigaaChecked
import GoSem.Claim
import GoSem.ClaimJoined
import GoSem.ClaimMapViews
import Derived.JoinedTies
import Derived.KernelRfl
namespace Go.Proofs.Ytbpgkdhdooaigaa
/- THE CELL 'sum', in the pinned program and in every row, IS THE sha256 OF THE DUMP (.gsa) THAT YtbpgkdhdooaigaaProg.lean LOADS. Nothing in Lean hashes anything: it is a label: what it is worth is what the hold of that sum in a sandbox is worth. -/
noncomputable def Try.pinned : Pinned := { name := "ytbpgkdhdooaigaa", sum := "ec53ec4f975c1a702d56f46687a749656c7a231fb222cda94cb2fe16bbcb3515", checked := Try.checked }
namespace Rows
def none {H : Type} : Left H := { results := [], args := [] }

/-- 'hstsstorelaw18.DirectiveParseMatchesSpec': WHATEVER THE INPUT: true; the input reads as it did. -/
def directiveParseMatchesSpecSpec : ChangeSpec := { name := "directiveParseMatchesSpec", fn := fun _ => fun
  | [d] => { results := [.lit (.bool true)], args := [d] }
  | _ => none }
def directiveParseMatchesSpecRow : OpenClaim := { program := "ytbpgkdhdooaigaa", sum := "ec53ec4f975c1a702d56f46687a749656c7a231fb222cda94cb2fe16bbcb3515", func := "hstsstore/hstsstorelaw18.DirectiveParseMatchesSpec", spec := "directiveParseMatchesSpec", inPlace := ["internal/abi.NoEscape"], apart := false }
def DirectiveParseMatchesSpecSaid : Prop := directiveParseMatchesSpecRow.holds Try.pinned (OpenSpec.ofChange directiveParseMatchesSpecSpec)

/-- ITS FALSE NEIGHBOUR: 'it returns false'. Refute it at one input. -/
def directiveParseMatchesSpecWrong : ChangeSpec := { name := "directiveParseMatchesSpec", fn := fun _ => fun
  | [d] => { results := [.lit (.bool false)], args := [d] }
  | _ => none }
def DirectiveParseMatchesSpecWrongFalsely : Prop := directiveParseMatchesSpecRow.holds Try.pinned (OpenSpec.ofChange directiveParseMatchesSpecWrong)

/-- 'hstsstorelaw18.DirectiveFormatMatchesSpec': WHATEVER THE INPUT: true; the input reads as it did. -/
def directiveFormatMatchesSpecSpec : ChangeSpec := { name := "directiveFormatMatchesSpec", fn := fun _ => fun
  | [d] => { results := [.lit (.bool true)], args := [d] }
  | _ => none }
def directiveFormatMatchesSpecRow : OpenClaim := { program := "ytbpgkdhdooaigaa", sum := "ec53ec4f975c1a702d56f46687a749656c7a231fb222cda94cb2fe16bbcb3515", func := "hstsstore/hstsstorelaw18.DirectiveFormatMatchesSpec", spec := "directiveFormatMatchesSpec", inPlace := ["internal/abi.NoEscape"], apart := false }
def DirectiveFormatMatchesSpecSaid : Prop := directiveFormatMatchesSpecRow.holds Try.pinned (OpenSpec.ofChange directiveFormatMatchesSpecSpec)

/-- ITS FALSE NEIGHBOUR: 'it returns false'. Refute it at one input. -/
def directiveFormatMatchesSpecWrong : ChangeSpec := { name := "directiveFormatMatchesSpec", fn := fun _ => fun
  | [d] => { results := [.lit (.bool false)], args := [d] }
  | _ => none }
def DirectiveFormatMatchesSpecWrongFalsely : Prop := directiveFormatMatchesSpecRow.holds Try.pinned (OpenSpec.ofChange directiveFormatMatchesSpecWrong)

/-- 'hstsstorelaw18.DirectiveRoundTrip': WHATEVER THE INPUT: true; the input reads as it did. -/
def directiveRoundTripSpec : ChangeSpec := { name := "directiveRoundTrip", fn := fun _ => fun
  | [d1, d2] => { results := [.lit (.bool true)], args := [d1, d2] }
  | _ => none }
def directiveRoundTripRow : OpenClaim := { program := "ytbpgkdhdooaigaa", sum := "ec53ec4f975c1a702d56f46687a749656c7a231fb222cda94cb2fe16bbcb3515", func := "hstsstore/hstsstorelaw18.DirectiveRoundTrip", spec := "directiveRoundTrip", inPlace := ["internal/abi.NoEscape"], apart := false }
def DirectiveRoundTripSaid : Prop := directiveRoundTripRow.holds Try.pinned (OpenSpec.ofChange directiveRoundTripSpec)

/-- ITS FALSE NEIGHBOUR: 'it returns false'. Refute it at one input. -/
def directiveRoundTripWrong : ChangeSpec := { name := "directiveRoundTrip", fn := fun _ => fun
  | [d1, d2] => { results := [.lit (.bool false)], args := [d1, d2] }
  | _ => none }
def DirectiveRoundTripWrongFalsely : Prop := directiveRoundTripRow.holds Try.pinned (OpenSpec.ofChange directiveRoundTripWrong)

/-- 'hstsstorelaw18.DirectiveBlanks': WHATEVER THE INPUT: true; the input reads as it did. -/
def directiveBlanksSpec : ChangeSpec := { name := "directiveBlanks", fn := fun _ => fun
  | [d1, d2] => { results := [.lit (.bool true)], args := [d1, d2] }
  | _ => none }
def directiveBlanksRow : OpenClaim := { program := "ytbpgkdhdooaigaa", sum := "ec53ec4f975c1a702d56f46687a749656c7a231fb222cda94cb2fe16bbcb3515", func := "hstsstore/hstsstorelaw18.DirectiveBlanks", spec := "directiveBlanks", inPlace := ["internal/abi.NoEscape"], apart := false }
def DirectiveBlanksSaid : Prop := directiveBlanksRow.holds Try.pinned (OpenSpec.ofChange directiveBlanksSpec)

/-- ITS FALSE NEIGHBOUR: 'it returns false'. Refute it at one input. -/
def directiveBlanksWrong : ChangeSpec := { name := "directiveBlanks", fn := fun _ => fun
  | [d1, d2] => { results := [.lit (.bool false)], args := [d1, d2] }
  | _ => none }
def DirectiveBlanksWrongFalsely : Prop := directiveBlanksRow.holds Try.pinned (OpenSpec.ofChange directiveBlanksWrong)

/-- 'hstsstorelaw18.DirectiveConcat': WHATEVER THE INPUT: true; the input reads as it did. -/
def directiveConcatSpec : ChangeSpec := { name := "directiveConcat", fn := fun _ => fun
  | [d1, d2] => { results := [.lit (.bool true)], args := [d1, d2] }
  | _ => none }
def directiveConcatRow : OpenClaim := { program := "ytbpgkdhdooaigaa", sum := "ec53ec4f975c1a702d56f46687a749656c7a231fb222cda94cb2fe16bbcb3515", func := "hstsstore/hstsstorelaw18.DirectiveConcat", spec := "directiveConcat", inPlace := ["internal/abi.NoEscape"], apart := false }
def DirectiveConcatSaid : Prop := directiveConcatRow.holds Try.pinned (OpenSpec.ofChange directiveConcatSpec)

/-- ITS FALSE NEIGHBOUR: 'it returns false'. Refute it at one input. -/
def directiveConcatWrong : ChangeSpec := { name := "directiveConcat", fn := fun _ => fun
  | [d1, d2] => { results := [.lit (.bool false)], args := [d1, d2] }
  | _ => none }
def DirectiveConcatWrongFalsely : Prop := directiveConcatRow.holds Try.pinned (OpenSpec.ofChange directiveConcatWrong)

/- THE SECOND FORM. 'bulk': how many values and letters a reading holds, each counted each time it is reached (what is shared counts as often as it is met; a slice's spare places count too). A statement '..UptoSaid' is the law's where the arguments, and the package variables that the reading takes, are together of bulk at most 1048576: NARROWER than '..Said'. Prove '..Said' where nothing that the law and all that it calls make is longer than what came in: it says more and counts as full. Else prove '..UptoSaid'. A law counts once. -/
mutual
def uptoBulk {H : Type} : DataW H → Nat
  | .lit (.string bytes) => bytes.length + 1
  | .lit _ => 1
  | .nil => 1
  | .ptr d => uptoBulk d + 1
  | .slice elems spare => uptoBulkAll elems + uptoBulkAll spare + 1
  | .agg parts => uptoBulkAll parts + 1
  | .iface _ d => uptoBulk d + 1
  | .map entries => uptoBulkEntries entries + 1
  | .held _ => 1
def uptoBulkAll {H : Type} : List (DataW H) → Nat
  | [] => 0
  | d :: r => uptoBulk d + uptoBulkAll r
def uptoBulkEntries {H : Type} : List (Lit × DataW H) → Nat
  | [] => 0
  | x :: r => uptoBulkEntry x + uptoBulkEntries r
def uptoBulkEntry {H : Type} : Lit × DataW H → Nat
  | (.string bytes, d) => bytes.length + uptoBulk d + 1
  | (_, d) => uptoBulk d + 1
 end
def uptoSmall : (H : Type) → List (DataW H) → Bool := fun _ ds => decide (uptoBulkAll ds ≤ 1048576)
def OpenSpec.upto (s : _root_.Go.ChangeSpec) : _root_.Go.OpenSpec := { _root_.Go.OpenSpec.ofChange s with cond := some uptoSmall }

/-- 'hstsstorelaw18.DirectiveParseMatchesSpec', WHERE WHAT IT READS IS OF BULK AT MOST 1048576: true; the input reads as it did. -/
def directiveParseMatchesSpecUptoRow : OpenClaim := { program := "ytbpgkdhdooaigaa", sum := "ec53ec4f975c1a702d56f46687a749656c7a231fb222cda94cb2fe16bbcb3515", func := "hstsstore/hstsstorelaw18.DirectiveParseMatchesSpec", spec := "directiveParseMatchesSpec", inPlace := ["internal/abi.NoEscape"], apart := false, narrowed := true }
def DirectiveParseMatchesSpecUptoSaid : Prop := directiveParseMatchesSpecUptoRow.holds Try.pinned (OpenSpec.upto directiveParseMatchesSpecSpec)

/-- 'hstsstorelaw18.DirectiveFormatMatchesSpec', WHERE WHAT IT READS IS OF BULK AT MOST 1048576: true; the input reads as it did. -/
def directiveFormatMatchesSpecUptoRow : OpenClaim := { program := "ytbpgkdhdooaigaa", sum := "ec53ec4f975c1a702d56f46687a749656c7a231fb222cda94cb2fe16bbcb3515", func := "hstsstore/hstsstorelaw18.DirectiveFormatMatchesSpec", spec := "directiveFormatMatchesSpec", inPlace := ["internal/abi.NoEscape"], apart := false, narrowed := true }
def DirectiveFormatMatchesSpecUptoSaid : Prop := directiveFormatMatchesSpecUptoRow.holds Try.pinned (OpenSpec.upto directiveFormatMatchesSpecSpec)

/-- 'hstsstorelaw18.DirectiveRoundTrip', WHERE WHAT IT READS IS OF BULK AT MOST 1048576: true; the input reads as it did. -/
def directiveRoundTripUptoRow : OpenClaim := { program := "ytbpgkdhdooaigaa", sum := "ec53ec4f975c1a702d56f46687a749656c7a231fb222cda94cb2fe16bbcb3515", func := "hstsstore/hstsstorelaw18.DirectiveRoundTrip", spec := "directiveRoundTrip", inPlace := ["internal/abi.NoEscape"], apart := false, narrowed := true }
def DirectiveRoundTripUptoSaid : Prop := directiveRoundTripUptoRow.holds Try.pinned (OpenSpec.upto directiveRoundTripSpec)

/-- 'hstsstorelaw18.DirectiveBlanks', WHERE WHAT IT READS IS OF BULK AT MOST 1048576: true; the input reads as it did. -/
def directiveBlanksUptoRow : OpenClaim := { program := "ytbpgkdhdooaigaa", sum := "ec53ec4f975c1a702d56f46687a749656c7a231fb222cda94cb2fe16bbcb3515", func := "hstsstore/hstsstorelaw18.DirectiveBlanks", spec := "directiveBlanks", inPlace := ["internal/abi.NoEscape"], apart := false, narrowed := true }
def DirectiveBlanksUptoSaid : Prop := directiveBlanksUptoRow.holds Try.pinned (OpenSpec.upto directiveBlanksSpec)

/-- 'hstsstorelaw18.DirectiveConcat', WHERE WHAT IT READS IS OF BULK AT MOST 1048576: true; the input reads as it did. -/
def directiveConcatUptoRow : OpenClaim := { program := "ytbpgkdhdooaigaa", sum := "ec53ec4f975c1a702d56f46687a749656c7a231fb222cda94cb2fe16bbcb3515", func := "hstsstore/hstsstorelaw18.DirectiveConcat", spec := "directiveConcat", inPlace := ["internal/abi.NoEscape"], apart := false, narrowed := true }
def DirectiveConcatUptoSaid : Prop := directiveConcatUptoRow.holds Try.pinned (OpenSpec.upto directiveConcatSpec)

end Rows
end Go.Proofs.Ytbpgkdhdooaigaa
