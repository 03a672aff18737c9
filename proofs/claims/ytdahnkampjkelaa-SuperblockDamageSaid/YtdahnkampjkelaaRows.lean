/-
  No cell of these rows narrows 'for every input' (looked for: loops, veiled, ifaces, maps, wideKeys, modest, calm, conditions, laid).
  DERIVED. THE GIVEN ROWS OF THIS SEAT. 5 by the template 'for every input the law returns true; each argument reads behind the call as it read before'; 0 by the template 'total and deterministic' (their statements: YtdahnkampjkelaaTotals.lean).
  GIVEN WITH THE SEED: the statements are not yours to turn. If you find one false, say at which input.
  Laid BY PROGRAM, IN A SANDBOX (cutbox-rows.mjs): the forced cells as the released guide's own fill.sh prints them over the translation 7a10e45ee2392c8b… (all of the seat's roots in one cut). By AI agents, Wed Nov 11 2026. No macro, syntax, notation, axiom, sorry.
-/
import Derived.Test.YtdahnkampjkelaaChecked
import GoSem.Claim
import GoSem.ClaimJoined
import GoSem.ClaimMapViews
import Derived.JoinedTies
import Derived.KernelRfl
namespace Go.Proofs.Ytdahnkampjkelaa
/- THE CELL 'sum', in the pinned program and in every row, IS THE sha256 OF THE DUMP (.gsa) THAT YtdahnkampjkelaaProg.lean LOADS. Nothing in Lean hashes anything: it is a label: what it is worth is what the hold of that sum in a sandbox is worth. -/
noncomputable def Try.pinned : Pinned := { name := "ytdahnkampjkelaa", sum := "7a10e45ee2392c8b47acf0073c69c53a87cc3702ea76fabab8482b391fde268a", checked := Try.checked }
namespace Rows
def none {H : Type} : Left H := { results := [], args := [] }

/-- 'hstsstorelaw09.SuperblockMatchesSpec': WHATEVER THE INPUT: true; the input reads as it did. -/
def superblockMatchesSpecSpec : ChangeSpec := { name := "superblockMatchesSpec", fn := fun _ => fun
  | [d1, d2] => { results := [.lit (.bool true)], args := [d1, d2] }
  | _ => none }
def superblockMatchesSpecRow : OpenClaim := { program := "ytdahnkampjkelaa", sum := "7a10e45ee2392c8b47acf0073c69c53a87cc3702ea76fabab8482b391fde268a", func := "hstsstore/hstsstorelaw09.SuperblockMatchesSpec", spec := "superblockMatchesSpec", apart := false }
def SuperblockMatchesSpecSaid : Prop := superblockMatchesSpecRow.holds Try.pinned (OpenSpec.ofChange superblockMatchesSpecSpec)

/-- ITS FALSE NEIGHBOUR: 'it returns false'. Refute it at one input. -/
def superblockMatchesSpecWrong : ChangeSpec := { name := "superblockMatchesSpec", fn := fun _ => fun
  | [d1, d2] => { results := [.lit (.bool false)], args := [d1, d2] }
  | _ => none }
def SuperblockMatchesSpecWrongFalsely : Prop := superblockMatchesSpecRow.holds Try.pinned (OpenSpec.ofChange superblockMatchesSpecWrong)

/-- 'hstsstorelaw09.SuperblockCorrected': WHATEVER THE INPUT: true; the input reads as it did. -/
def superblockCorrectedSpec : ChangeSpec := { name := "superblockCorrected", fn := fun _ => fun
  | [d] => { results := [.lit (.bool true)], args := [d] }
  | _ => none }
def superblockCorrectedRow : OpenClaim := { program := "ytdahnkampjkelaa", sum := "7a10e45ee2392c8b47acf0073c69c53a87cc3702ea76fabab8482b391fde268a", func := "hstsstore/hstsstorelaw09.SuperblockCorrected", spec := "superblockCorrected", apart := false }
def SuperblockCorrectedSaid : Prop := superblockCorrectedRow.holds Try.pinned (OpenSpec.ofChange superblockCorrectedSpec)

/-- ITS FALSE NEIGHBOUR: 'it returns false'. Refute it at one input. -/
def superblockCorrectedWrong : ChangeSpec := { name := "superblockCorrected", fn := fun _ => fun
  | [d] => { results := [.lit (.bool false)], args := [d] }
  | _ => none }
def SuperblockCorrectedWrongFalsely : Prop := superblockCorrectedRow.holds Try.pinned (OpenSpec.ofChange superblockCorrectedWrong)

/-- 'hstsstorelaw09.SuperblockRoundTrip': WHATEVER THE INPUT: true; the input reads as it did. -/
def superblockRoundTripSpec : ChangeSpec := { name := "superblockRoundTrip", fn := fun _ => fun
  | [d] => { results := [.lit (.bool true)], args := [d] }
  | _ => none }
def superblockRoundTripRow : OpenClaim := { program := "ytdahnkampjkelaa", sum := "7a10e45ee2392c8b47acf0073c69c53a87cc3702ea76fabab8482b391fde268a", func := "hstsstore/hstsstorelaw09.SuperblockRoundTrip", spec := "superblockRoundTrip", apart := false }
def SuperblockRoundTripSaid : Prop := superblockRoundTripRow.holds Try.pinned (OpenSpec.ofChange superblockRoundTripSpec)

/-- ITS FALSE NEIGHBOUR: 'it returns false'. Refute it at one input. -/
def superblockRoundTripWrong : ChangeSpec := { name := "superblockRoundTrip", fn := fun _ => fun
  | [d] => { results := [.lit (.bool false)], args := [d] }
  | _ => none }
def SuperblockRoundTripWrongFalsely : Prop := superblockRoundTripRow.holds Try.pinned (OpenSpec.ofChange superblockRoundTripWrong)

/-- 'hstsstorelaw09.SuperblockChooseMatchesSpec': WHATEVER THE INPUT: true; the input reads as it did. -/
def superblockChooseMatchesSpecSpec : ChangeSpec := { name := "superblockChooseMatchesSpec", fn := fun _ => fun
  | [d1, d2] => { results := [.lit (.bool true)], args := [d1, d2] }
  | _ => none }
def superblockChooseMatchesSpecRow : OpenClaim := { program := "ytdahnkampjkelaa", sum := "7a10e45ee2392c8b47acf0073c69c53a87cc3702ea76fabab8482b391fde268a", func := "hstsstore/hstsstorelaw09.SuperblockChooseMatchesSpec", spec := "superblockChooseMatchesSpec", apart := false }
def SuperblockChooseMatchesSpecSaid : Prop := superblockChooseMatchesSpecRow.holds Try.pinned (OpenSpec.ofChange superblockChooseMatchesSpecSpec)

/-- ITS FALSE NEIGHBOUR: 'it returns false'. Refute it at one input. -/
def superblockChooseMatchesSpecWrong : ChangeSpec := { name := "superblockChooseMatchesSpec", fn := fun _ => fun
  | [d1, d2] => { results := [.lit (.bool false)], args := [d1, d2] }
  | _ => none }
def SuperblockChooseMatchesSpecWrongFalsely : Prop := superblockChooseMatchesSpecRow.holds Try.pinned (OpenSpec.ofChange superblockChooseMatchesSpecWrong)

/-- 'hstsstorelaw09.SuperblockDamage': WHATEVER THE INPUT: true; the input reads as it did. -/
def superblockDamageSpec : ChangeSpec := { name := "superblockDamage", fn := fun _ => fun
  | [d1, d2, d3] => { results := [.lit (.bool true)], args := [d1, d2, d3] }
  | _ => none }
def superblockDamageRow : OpenClaim := { program := "ytdahnkampjkelaa", sum := "7a10e45ee2392c8b47acf0073c69c53a87cc3702ea76fabab8482b391fde268a", func := "hstsstore/hstsstorelaw09.SuperblockDamage", spec := "superblockDamage", apart := false }
def SuperblockDamageSaid : Prop := superblockDamageRow.holds Try.pinned (OpenSpec.ofChange superblockDamageSpec)

/-- ITS FALSE NEIGHBOUR: 'it returns false'. Refute it at one input. -/
def superblockDamageWrong : ChangeSpec := { name := "superblockDamage", fn := fun _ => fun
  | [d1, d2, d3] => { results := [.lit (.bool false)], args := [d1, d2, d3] }
  | _ => none }
def SuperblockDamageWrongFalsely : Prop := superblockDamageRow.holds Try.pinned (OpenSpec.ofChange superblockDamageWrong)

/- THE SECOND FORM. 'bulk': how many values and letters a reading holds, each counted each time it is reached (what is shared counts as often as it is met; a slice's spare places count too). A statement '..UptoSaid' is the law's where the arguments, and the package variables that the reading takes, are together of bulk at most 1048576: NARROWER than '..Said'. Prove '..Said' where nothing that the law and all that it calls make is longer than what came in: it says more and counts as full. Else prove '..UptoSaid'. A law counts once. -/
mutual
def uptoBulk {H : Type} : DataW H → Nat
  | .lit (.string bytes) => bytes.length + 1
  | .lit _ => 1
  | .nil => 1
  | .ptr d => uptoBulk d + 1
  | .slice elems spare => uptoBulkAll elems + uptoBulkAll spare + 1
  | .agg parts => uptoBulkAll parts + 1
  | .iface _ d => uptoBulk d + 1
  | .map entries => uptoBulkEntries entries + 1
  | .held _ => 1
def uptoBulkAll {H : Type} : List (DataW H) → Nat
  | [] => 0
  | d :: r => uptoBulk d + uptoBulkAll r
def uptoBulkEntries {H : Type} : List (Lit × DataW H) → Nat
  | [] => 0
  | x :: r => uptoBulkEntry x + uptoBulkEntries r
def uptoBulkEntry {H : Type} : Lit × DataW H → Nat
  | (.string bytes, d) => bytes.length + uptoBulk d + 1
  | (_, d) => uptoBulk d + 1
 end
def uptoSmall : (H : Type) → List (DataW H) → Bool := fun _ ds => decide (uptoBulkAll ds ≤ 1048576)
def OpenSpec.upto (s : _root_.Go.ChangeSpec) : _root_.Go.OpenSpec := { _root_.Go.OpenSpec.ofChange s with cond := some uptoSmall }

/-- 'hstsstorelaw09.SuperblockMatchesSpec', WHERE WHAT IT READS IS OF BULK AT MOST 1048576: true; the input reads as it did. -/
def superblockMatchesSpecUptoRow : OpenClaim := { program := "ytdahnkampjkelaa", sum := "7a10e45ee2392c8b47acf0073c69c53a87cc3702ea76fabab8482b391fde268a", func := "hstsstore/hstsstorelaw09.SuperblockMatchesSpec", spec := "superblockMatchesSpec", apart := false, narrowed := true }
def SuperblockMatchesSpecUptoSaid : Prop := superblockMatchesSpecUptoRow.holds Try.pinned (OpenSpec.upto superblockMatchesSpecSpec)

/-- 'hstsstorelaw09.SuperblockCorrected', WHERE WHAT IT READS IS OF BULK AT MOST 1048576: true; the input reads as it did. -/
def superblockCorrectedUptoRow : OpenClaim := { program := "ytdahnkampjkelaa", sum := "7a10e45ee2392c8b47acf0073c69c53a87cc3702ea76fabab8482b391fde268a", func := "hstsstore/hstsstorelaw09.SuperblockCorrected", spec := "superblockCorrected", apart := false, narrowed := true }
def SuperblockCorrectedUptoSaid : Prop := superblockCorrectedUptoRow.holds Try.pinned (OpenSpec.upto superblockCorrectedSpec)

/-- 'hstsstorelaw09.SuperblockRoundTrip', WHERE WHAT IT READS IS OF BULK AT MOST 1048576: true; the input reads as it did. -/
def superblockRoundTripUptoRow : OpenClaim := { program := "ytdahnkampjkelaa", sum := "7a10e45ee2392c8b47acf0073c69c53a87cc3702ea76fabab8482b391fde268a", func := "hstsstore/hstsstorelaw09.SuperblockRoundTrip", spec := "superblockRoundTrip", apart := false, narrowed := true }
def SuperblockRoundTripUptoSaid : Prop := superblockRoundTripUptoRow.holds Try.pinned (OpenSpec.upto superblockRoundTripSpec)

/-- 'hstsstorelaw09.SuperblockChooseMatchesSpec', WHERE WHAT IT READS IS OF BULK AT MOST 1048576: true; the input reads as it did. -/
def superblockChooseMatchesSpecUptoRow : OpenClaim := { program := "ytdahnkampjkelaa", sum := "7a10e45ee2392c8b47acf0073c69c53a87cc3702ea76fabab8482b391fde268a", func := "hstsstore/hstsstorelaw09.SuperblockChooseMatchesSpec", spec := "superblockChooseMatchesSpec", apart := false, narrowed := true }
def SuperblockChooseMatchesSpecUptoSaid : Prop := superblockChooseMatchesSpecUptoRow.holds Try.pinned (OpenSpec.upto superblockChooseMatchesSpecSpec)

/-- 'hstsstorelaw09.SuperblockDamage', WHERE WHAT IT READS IS OF BULK AT MOST 1048576: true; the input reads as it did. -/
def superblockDamageUptoRow : OpenClaim := { program := "ytdahnkampjkelaa", sum := "7a10e45ee2392c8b47acf0073c69c53a87cc3702ea76fabab8482b391fde268a", func := "hstsstore/hstsstorelaw09.SuperblockDamage", spec := "superblockDamage", apart := false, narrowed := true }
def SuperblockDamageUptoSaid : Prop := superblockDamageUptoRow.holds Try.pinned (OpenSpec.upto superblockDamageSpec)

end Rows
end Go.Proofs.Ytdahnkampjkelaa
