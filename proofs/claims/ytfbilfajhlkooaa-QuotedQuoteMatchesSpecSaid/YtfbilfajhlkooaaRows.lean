/-
  No cell of these rows narrows 'for every input' (looked for: loops, veiled, ifaces, maps, wideKeys, modest, calm, conditions, laid).
  DERIVED. THE GIVEN ROWS OF THIS SEAT. 4 by the template 'for every input the law returns true; each argument reads behind the call as it read before'; 0 by the template 'total and deterministic' (their statements: YtfbilfajhlkooaaTotals.lean).
  GIVEN WITH THE SEED: the statements are not yours to turn. If you find one false, say at which input.
  Laid BY PROGRAM, IN A SANDBOX (cutbox-rows.mjs): the forced cells as the released guide's own fill.sh prints them over the translation 1e08d80a06ceb5d1… (all of the seat's roots in one cut). By AI agents, Wed Nov 11 2026. No macro, syntax, notation, axiom, sorry.
-/
import Derived.Test.YtfbilfajhlkooaaChecked
import GoSem.Claim
import GoSem.ClaimJoined
import GoSem.ClaimMapViews
import Derived.JoinedTies
import Derived.KernelRfl
namespace Go.Proofs.Ytfbilfajhlkooaa
/- THE CELL 'sum', in the pinned program and in every row, IS THE sha256 OF THE DUMP (.gsa) THAT YtfbilfajhlkooaaProg.lean LOADS. Nothing in Lean hashes anything: it is a label: what it is worth is what the hold of that sum in a sandbox is worth. -/
noncomputable def Try.pinned : Pinned := { name := "ytfbilfajhlkooaa", sum := "1e08d80a06ceb5d1eea8c4d42c4a4160ca0679dca25119c3de13a2f7c8d7bc2c", checked := Try.checked }
namespace Rows
def none {H : Type} : Left H := { results := [], args := [] }

/-- 'hstsstorelaw17.QuotedParseMatchesSpec': WHATEVER THE INPUT: true; the input reads as it did. -/
def quotedParseMatchesSpecSpec : ChangeSpec := { name := "quotedParseMatchesSpec", fn := fun _ => fun
  | [d1, d2] => { results := [.lit (.bool true)], args := [d1, d2] }
  | _ => none }
def quotedParseMatchesSpecRow : OpenClaim := { program := "ytfbilfajhlkooaa", sum := "1e08d80a06ceb5d1eea8c4d42c4a4160ca0679dca25119c3de13a2f7c8d7bc2c", func := "hstsstore/hstsstorelaw17.QuotedParseMatchesSpec", spec := "quotedParseMatchesSpec", inPlace := ["internal/abi.NoEscape"], apart := false }
def QuotedParseMatchesSpecSaid : Prop := quotedParseMatchesSpecRow.holds Try.pinned (OpenSpec.ofChange quotedParseMatchesSpecSpec)

/-- ITS FALSE NEIGHBOUR: 'it returns false'. Refute it at one input. -/
def quotedParseMatchesSpecWrong : ChangeSpec := { name := "quotedParseMatchesSpec", fn := fun _ => fun
  | [d1, d2] => { results := [.lit (.bool false)], args := [d1, d2] }
  | _ => none }
def QuotedParseMatchesSpecWrongFalsely : Prop := quotedParseMatchesSpecRow.holds Try.pinned (OpenSpec.ofChange quotedParseMatchesSpecWrong)

/-- 'hstsstorelaw17.QuotedQuoteMatchesSpec': WHATEVER THE INPUT: true; the input reads as it did. -/
def quotedQuoteMatchesSpecSpec : ChangeSpec := { name := "quotedQuoteMatchesSpec", fn := fun _ => fun
  | [d] => { results := [.lit (.bool true)], args := [d] }
  | _ => none }
def quotedQuoteMatchesSpecRow : OpenClaim := { program := "ytfbilfajhlkooaa", sum := "1e08d80a06ceb5d1eea8c4d42c4a4160ca0679dca25119c3de13a2f7c8d7bc2c", func := "hstsstore/hstsstorelaw17.QuotedQuoteMatchesSpec", spec := "quotedQuoteMatchesSpec", inPlace := ["internal/abi.NoEscape"], apart := false }
def QuotedQuoteMatchesSpecSaid : Prop := quotedQuoteMatchesSpecRow.holds Try.pinned (OpenSpec.ofChange quotedQuoteMatchesSpecSpec)

/-- ITS FALSE NEIGHBOUR: 'it returns false'. Refute it at one input. -/
def quotedQuoteMatchesSpecWrong : ChangeSpec := { name := "quotedQuoteMatchesSpec", fn := fun _ => fun
  | [d] => { results := [.lit (.bool false)], args := [d] }
  | _ => none }
def QuotedQuoteMatchesSpecWrongFalsely : Prop := quotedQuoteMatchesSpecRow.holds Try.pinned (OpenSpec.ofChange quotedQuoteMatchesSpecWrong)

/-- 'hstsstorelaw17.QuotedRoundTrip': WHATEVER THE INPUT: true; the input reads as it did. -/
def quotedRoundTripSpec : ChangeSpec := { name := "quotedRoundTrip", fn := fun _ => fun
  | [d1, d2, d3] => { results := [.lit (.bool true)], args := [d1, d2, d3] }
  | _ => none }
def quotedRoundTripRow : OpenClaim := { program := "ytfbilfajhlkooaa", sum := "1e08d80a06ceb5d1eea8c4d42c4a4160ca0679dca25119c3de13a2f7c8d7bc2c", func := "hstsstore/hstsstorelaw17.QuotedRoundTrip", spec := "quotedRoundTrip", inPlace := ["internal/abi.NoEscape"], apart := false }
def QuotedRoundTripSaid : Prop := quotedRoundTripRow.holds Try.pinned (OpenSpec.ofChange quotedRoundTripSpec)

/-- ITS FALSE NEIGHBOUR: 'it returns false'. Refute it at one input. -/
def quotedRoundTripWrong : ChangeSpec := { name := "quotedRoundTrip", fn := fun _ => fun
  | [d1, d2, d3] => { results := [.lit (.bool false)], args := [d1, d2, d3] }
  | _ => none }
def QuotedRoundTripWrongFalsely : Prop := quotedRoundTripRow.holds Try.pinned (OpenSpec.ofChange quotedRoundTripWrong)

/-- 'hstsstorelaw17.QuotedTokens': WHATEVER THE INPUT: true; the input reads as it did. -/
def quotedTokensSpec : ChangeSpec := { name := "quotedTokens", fn := fun _ => fun
  | [d1, d2] => { results := [.lit (.bool true)], args := [d1, d2] }
  | _ => none }
def quotedTokensRow : OpenClaim := { program := "ytfbilfajhlkooaa", sum := "1e08d80a06ceb5d1eea8c4d42c4a4160ca0679dca25119c3de13a2f7c8d7bc2c", func := "hstsstore/hstsstorelaw17.QuotedTokens", spec := "quotedTokens", inPlace := ["internal/abi.NoEscape"], apart := false }
def QuotedTokensSaid : Prop := quotedTokensRow.holds Try.pinned (OpenSpec.ofChange quotedTokensSpec)

/-- ITS FALSE NEIGHBOUR: 'it returns false'. Refute it at one input. -/
def quotedTokensWrong : ChangeSpec := { name := "quotedTokens", fn := fun _ => fun
  | [d1, d2] => { results := [.lit (.bool false)], args := [d1, d2] }
  | _ => none }
def QuotedTokensWrongFalsely : Prop := quotedTokensRow.holds Try.pinned (OpenSpec.ofChange quotedTokensWrong)

/- THE SECOND FORM. 'bulk': how many values and letters a reading holds, each counted each time it is reached (what is shared counts as often as it is met; a slice's spare places count too). A statement '..UptoSaid' is the law's where the arguments, and the package variables that the reading takes, are together of bulk at most 1048576: NARROWER than '..Said'. Prove '..Said' where nothing that the law and all that it calls make is longer than what came in: it says more and counts as full. Else prove '..UptoSaid'. A law counts once. -/
mutual
def uptoBulk {H : Type} : DataW H → Nat
  | .lit (.string bytes) => bytes.length + 1
  | .lit _ => 1
  | .nil => 1
  | .ptr d => uptoBulk d + 1
  | .slice elems spare => uptoBulkAll elems + uptoBulkAll spare + 1
  | .agg parts => uptoBulkAll parts + 1
  | .iface _ d => uptoBulk d + 1
  | .map entries => uptoBulkEntries entries + 1
  | .held _ => 1
def uptoBulkAll {H : Type} : List (DataW H) → Nat
  | [] => 0
  | d :: r => uptoBulk d + uptoBulkAll r
def uptoBulkEntries {H : Type} : List (Lit × DataW H) → Nat
  | [] => 0
  | x :: r => uptoBulkEntry x + uptoBulkEntries r
def uptoBulkEntry {H : Type} : Lit × DataW H → Nat
  | (.string bytes, d) => bytes.length + uptoBulk d + 1
  | (_, d) => uptoBulk d + 1
 end
def uptoSmall : (H : Type) → List (DataW H) → Bool := fun _ ds => decide (uptoBulkAll ds ≤ 1048576)
def OpenSpec.upto (s : _root_.Go.ChangeSpec) : _root_.Go.OpenSpec := { _root_.Go.OpenSpec.ofChange s with cond := some uptoSmall }

/-- 'hstsstorelaw17.QuotedParseMatchesSpec', WHERE WHAT IT READS IS OF BULK AT MOST 1048576: true; the input reads as it did. -/
def quotedParseMatchesSpecUptoRow : OpenClaim := { program := "ytfbilfajhlkooaa", sum := "1e08d80a06ceb5d1eea8c4d42c4a4160ca0679dca25119c3de13a2f7c8d7bc2c", func := "hstsstore/hstsstorelaw17.QuotedParseMatchesSpec", spec := "quotedParseMatchesSpec", inPlace := ["internal/abi.NoEscape"], apart := false, narrowed := true }
def QuotedParseMatchesSpecUptoSaid : Prop := quotedParseMatchesSpecUptoRow.holds Try.pinned (OpenSpec.upto quotedParseMatchesSpecSpec)

/-- 'hstsstorelaw17.QuotedQuoteMatchesSpec', WHERE WHAT IT READS IS OF BULK AT MOST 1048576: true; the input reads as it did. -/
def quotedQuoteMatchesSpecUptoRow : OpenClaim := { program := "ytfbilfajhlkooaa", sum := "1e08d80a06ceb5d1eea8c4d42c4a4160ca0679dca25119c3de13a2f7c8d7bc2c", func := "hstsstore/hstsstorelaw17.QuotedQuoteMatchesSpec", spec := "quotedQuoteMatchesSpec", inPlace := ["internal/abi.NoEscape"], apart := false, narrowed := true }
def QuotedQuoteMatchesSpecUptoSaid : Prop := quotedQuoteMatchesSpecUptoRow.holds Try.pinned (OpenSpec.upto quotedQuoteMatchesSpecSpec)

/-- 'hstsstorelaw17.QuotedRoundTrip', WHERE WHAT IT READS IS OF BULK AT MOST 1048576: true; the input reads as it did. -/
def quotedRoundTripUptoRow : OpenClaim := { program := "ytfbilfajhlkooaa", sum := "1e08d80a06ceb5d1eea8c4d42c4a4160ca0679dca25119c3de13a2f7c8d7bc2c", func := "hstsstore/hstsstorelaw17.QuotedRoundTrip", spec := "quotedRoundTrip", inPlace := ["internal/abi.NoEscape"], apart := false, narrowed := true }
def QuotedRoundTripUptoSaid : Prop := quotedRoundTripUptoRow.holds Try.pinned (OpenSpec.upto quotedRoundTripSpec)

/-- 'hstsstorelaw17.QuotedTokens', WHERE WHAT IT READS IS OF BULK AT MOST 1048576: true; the input reads as it did. -/
def quotedTokensUptoRow : OpenClaim := { program := "ytfbilfajhlkooaa", sum := "1e08d80a06ceb5d1eea8c4d42c4a4160ca0679dca25119c3de13a2f7c8d7bc2c", func := "hstsstore/hstsstorelaw17.QuotedTokens", spec := "quotedTokens", inPlace := ["internal/abi.NoEscape"], apart := false, narrowed := true }
def QuotedTokensUptoSaid : Prop := quotedTokensUptoRow.holds Try.pinned (OpenSpec.upto quotedTokensSpec)

end Rows
end Go.Proofs.Ytfbilfajhlkooaa
