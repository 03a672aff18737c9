/-
  No cell of these rows narrows 'for every input' (looked for: loops, veiled, ifaces, maps, wideKeys, modest, calm, conditions, laid).
  DERIVED. THE GIVEN ROWS OF THIS SEAT. 5 by the template 'for every input the law returns true; each argument reads behind the call as it read before'; 0 by the template 'total and deterministic' (their statements: YtbeapaliadahnaaTotals.lean).
  GIVEN WITH THE SEED: the statements are not yours to turn. If you find one false, say at which input.
  Laid BY PROGRAM, IN A SANDBOX (cutbox-rows.mjs): the forced cells as the released guide's own fill.sh prints them over the translation 2e5bf21f6ef74a2c… (all of the seat's roots in one cut). By AI agents, Wed Nov 11 2026. No macro, syntax, notation, axiom, sorry.
-/
import Derived.Test.YtbeapaliadahnaaChecked
import GoSem.Claim
import GoSem.ClaimJoined
import GoSem.ClaimMapViews
import Derived.JoinedTies
import Derived.KernelRfl
namespace Go.Proofs.Ytbeapaliadahnaa
/- THE CELL 'sum', in the pinned program and in every row, IS THE sha256 OF THE DUMP (.gsa) THAT YtbeapaliadahnaaProg.lean LOADS. Nothing in Lean hashes anything: it is a label: what it is worth is what the hold of that sum in a sandbox is worth. -/
noncomputable def Try.pinned : Pinned := { name := "ytbeapaliadahnaa", sum := "2e5bf21f6ef74a2cd43727903688e23ceed558aec597434fe38f5c18acc32c9c", checked := Try.checked }
namespace Rows
def none {H : Type} : Left H := { results := [], args := [] }

/-- 'hstsstorelaw05.SectorMatchesSpec': WHATEVER THE INPUT: true; the input reads as it did. -/
def sectorMatchesSpecSpec : ChangeSpec := { name := "sectorMatchesSpec", fn := fun _ => fun
  | [d1, d2] => { results := [.lit (.bool true)], args := [d1, d2] }
  | _ => none }
def sectorMatchesSpecRow : OpenClaim := { program := "ytbeapaliadahnaa", sum := "2e5bf21f6ef74a2cd43727903688e23ceed558aec597434fe38f5c18acc32c9c", func := "hstsstore/hstsstorelaw05.SectorMatchesSpec", spec := "sectorMatchesSpec", unfollowed := true, recurses := true, apart := false }
def SectorMatchesSpecSaid : Prop := sectorMatchesSpecRow.holds Try.pinned (OpenSpec.ofChange sectorMatchesSpecSpec)

/-- ITS FALSE NEIGHBOUR: 'it returns false'. Refute it at one input. -/
def sectorMatchesSpecWrong : ChangeSpec := { name := "sectorMatchesSpec", fn := fun _ => fun
  | [d1, d2] => { results := [.lit (.bool false)], args := [d1, d2] }
  | _ => none }
def SectorMatchesSpecWrongFalsely : Prop := sectorMatchesSpecRow.holds Try.pinned (OpenSpec.ofChange sectorMatchesSpecWrong)

/-- 'hstsstorelaw05.SectorLoadMatchesSpec': WHATEVER THE INPUT: true; the input reads as it did. -/
def sectorLoadMatchesSpecSpec : ChangeSpec := { name := "sectorLoadMatchesSpec", fn := fun _ => fun
  | [d1, d2] => { results := [.lit (.bool true)], args := [d1, d2] }
  | _ => none }
def sectorLoadMatchesSpecRow : OpenClaim := { program := "ytbeapaliadahnaa", sum := "2e5bf21f6ef74a2cd43727903688e23ceed558aec597434fe38f5c18acc32c9c", func := "hstsstore/hstsstorelaw05.SectorLoadMatchesSpec", spec := "sectorLoadMatchesSpec", unfollowed := true, recurses := true, apart := false }
def SectorLoadMatchesSpecSaid : Prop := sectorLoadMatchesSpecRow.holds Try.pinned (OpenSpec.ofChange sectorLoadMatchesSpecSpec)

/-- ITS FALSE NEIGHBOUR: 'it returns false'. Refute it at one input. -/
def sectorLoadMatchesSpecWrong : ChangeSpec := { name := "sectorLoadMatchesSpec", fn := fun _ => fun
  | [d1, d2] => { results := [.lit (.bool false)], args := [d1, d2] }
  | _ => none }
def SectorLoadMatchesSpecWrongFalsely : Prop := sectorLoadMatchesSpecRow.holds Try.pinned (OpenSpec.ofChange sectorLoadMatchesSpecWrong)

/-- 'hstsstorelaw05.SectorTearing': WHATEVER THE INPUT: true; the input reads as it did. -/
def sectorTearingSpec : ChangeSpec := { name := "sectorTearing", fn := fun _ => fun
  | [d1, d2, d3] => { results := [.lit (.bool true)], args := [d1, d2, d3] }
  | _ => none }
def sectorTearingRow : OpenClaim := { program := "ytbeapaliadahnaa", sum := "2e5bf21f6ef74a2cd43727903688e23ceed558aec597434fe38f5c18acc32c9c", func := "hstsstore/hstsstorelaw05.SectorTearing", spec := "sectorTearing", unfollowed := true, recurses := true, apart := false }
def SectorTearingSaid : Prop := sectorTearingRow.holds Try.pinned (OpenSpec.ofChange sectorTearingSpec)

/-- ITS FALSE NEIGHBOUR: 'it returns false'. Refute it at one input. -/
def sectorTearingWrong : ChangeSpec := { name := "sectorTearing", fn := fun _ => fun
  | [d1, d2, d3] => { results := [.lit (.bool false)], args := [d1, d2, d3] }
  | _ => none }
def SectorTearingWrongFalsely : Prop := sectorTearingRow.holds Try.pinned (OpenSpec.ofChange sectorTearingWrong)

/-- 'hstsstorelaw05.SectorCopies': WHATEVER THE INPUT: true; the input reads as it did. -/
def sectorCopiesSpec : ChangeSpec := { name := "sectorCopies", fn := fun _ => fun
  | [d1, d2, d3] => { results := [.lit (.bool true)], args := [d1, d2, d3] }
  | _ => none }
def sectorCopiesRow : OpenClaim := { program := "ytbeapaliadahnaa", sum := "2e5bf21f6ef74a2cd43727903688e23ceed558aec597434fe38f5c18acc32c9c", func := "hstsstore/hstsstorelaw05.SectorCopies", spec := "sectorCopies", unfollowed := true, recurses := true, apart := false }
def SectorCopiesSaid : Prop := sectorCopiesRow.holds Try.pinned (OpenSpec.ofChange sectorCopiesSpec)

/-- ITS FALSE NEIGHBOUR: 'it returns false'. Refute it at one input. -/
def sectorCopiesWrong : ChangeSpec := { name := "sectorCopies", fn := fun _ => fun
  | [d1, d2, d3] => { results := [.lit (.bool false)], args := [d1, d2, d3] }
  | _ => none }
def SectorCopiesWrongFalsely : Prop := sectorCopiesRow.holds Try.pinned (OpenSpec.ofChange sectorCopiesWrong)

/-- 'hstsstorelaw05.SectorNone': WHATEVER THE INPUT: true; the input reads as it did. -/
def sectorNoneSpec : ChangeSpec := { name := "sectorNone", fn := fun _ => fun
  | [d1, d2, d3] => { results := [.lit (.bool true)], args := [d1, d2, d3] }
  | _ => none }
def sectorNoneRow : OpenClaim := { program := "ytbeapaliadahnaa", sum := "2e5bf21f6ef74a2cd43727903688e23ceed558aec597434fe38f5c18acc32c9c", func := "hstsstore/hstsstorelaw05.SectorNone", spec := "sectorNone", unfollowed := true, recurses := true, apart := false }
def SectorNoneSaid : Prop := sectorNoneRow.holds Try.pinned (OpenSpec.ofChange sectorNoneSpec)

/-- ITS FALSE NEIGHBOUR: 'it returns false'. Refute it at one input. -/
def sectorNoneWrong : ChangeSpec := { name := "sectorNone", fn := fun _ => fun
  | [d1, d2, d3] => { results := [.lit (.bool false)], args := [d1, d2, d3] }
  | _ => none }
def SectorNoneWrongFalsely : Prop := sectorNoneRow.holds Try.pinned (OpenSpec.ofChange sectorNoneWrong)

/- THE SECOND FORM. 'bulk': how many values and letters a reading holds, each counted each time it is reached (what is shared counts as often as it is met; a slice's spare places count too). A statement '..UptoSaid' is the law's where the arguments, and the package variables that the reading takes, are together of bulk at most 1048576: NARROWER than '..Said'. Prove '..Said' where nothing that the law and all that it calls make is longer than what came in: it says more and counts as full. Else prove '..UptoSaid'. A law counts once. -/
mutual
def uptoBulk {H : Type} : DataW H → Nat
  | .lit (.string bytes) => bytes.length + 1
  | .lit _ => 1
  | .nil => 1
  | .ptr d => uptoBulk d + 1
  | .slice elems spare => uptoBulkAll elems + uptoBulkAll spare + 1
  | .agg parts => uptoBulkAll parts + 1
  | .iface _ d => uptoBulk d + 1
  | .map entries => uptoBulkEntries entries + 1
  | .held _ => 1
def uptoBulkAll {H : Type} : List (DataW H) → Nat
  | [] => 0
  | d :: r => uptoBulk d + uptoBulkAll r
def uptoBulkEntries {H : Type} : List (Lit × DataW H) → Nat
  | [] => 0
  | x :: r => uptoBulkEntry x + uptoBulkEntries r
def uptoBulkEntry {H : Type} : Lit × DataW H → Nat
  | (.string bytes, d) => bytes.length + uptoBulk d + 1
  | (_, d) => uptoBulk d + 1
 end
def uptoSmall : (H : Type) → List (DataW H) → Bool := fun _ ds => decide (uptoBulkAll ds ≤ 1048576)
def OpenSpec.upto (s : _root_.Go.ChangeSpec) : _root_.Go.OpenSpec := { _root_.Go.OpenSpec.ofChange s with cond := some uptoSmall }

/-- 'hstsstorelaw05.SectorMatchesSpec', WHERE WHAT IT READS IS OF BULK AT MOST 1048576: true; the input reads as it did. -/
def sectorMatchesSpecUptoRow : OpenClaim := { program := "ytbeapaliadahnaa", sum := "2e5bf21f6ef74a2cd43727903688e23ceed558aec597434fe38f5c18acc32c9c", func := "hstsstore/hstsstorelaw05.SectorMatchesSpec", spec := "sectorMatchesSpec", unfollowed := true, recurses := true, apart := false, narrowed := true }
def SectorMatchesSpecUptoSaid : Prop := sectorMatchesSpecUptoRow.holds Try.pinned (OpenSpec.upto sectorMatchesSpecSpec)

/-- 'hstsstorelaw05.SectorLoadMatchesSpec', WHERE WHAT IT READS IS OF BULK AT MOST 1048576: true; the input reads as it did. -/
def sectorLoadMatchesSpecUptoRow : OpenClaim := { program := "ytbeapaliadahnaa", sum := "2e5bf21f6ef74a2cd43727903688e23ceed558aec597434fe38f5c18acc32c9c", func := "hstsstore/hstsstorelaw05.SectorLoadMatchesSpec", spec := "sectorLoadMatchesSpec", unfollowed := true, recurses := true, apart := false, narrowed := true }
def SectorLoadMatchesSpecUptoSaid : Prop := sectorLoadMatchesSpecUptoRow.holds Try.pinned (OpenSpec.upto sectorLoadMatchesSpecSpec)

/-- 'hstsstorelaw05.SectorTearing', WHERE WHAT IT READS IS OF BULK AT MOST 1048576: true; the input reads as it did. -/
def sectorTearingUptoRow : OpenClaim := { program := "ytbeapaliadahnaa", sum := "2e5bf21f6ef74a2cd43727903688e23ceed558aec597434fe38f5c18acc32c9c", func := "hstsstore/hstsstorelaw05.SectorTearing", spec := "sectorTearing", unfollowed := true, recurses := true, apart := false, narrowed := true }
def SectorTearingUptoSaid : Prop := sectorTearingUptoRow.holds Try.pinned (OpenSpec.upto sectorTearingSpec)

/-- 'hstsstorelaw05.SectorCopies', WHERE WHAT IT READS IS OF BULK AT MOST 1048576: true; the input reads as it did. -/
def sectorCopiesUptoRow : OpenClaim := { program := "ytbeapaliadahnaa", sum := "2e5bf21f6ef74a2cd43727903688e23ceed558aec597434fe38f5c18acc32c9c", func := "hstsstore/hstsstorelaw05.SectorCopies", spec := "sectorCopies", unfollowed := true, recurses := true, apart := false, narrowed := true }
def SectorCopiesUptoSaid : Prop := sectorCopiesUptoRow.holds Try.pinned (OpenSpec.upto sectorCopiesSpec)

/-- 'hstsstorelaw05.SectorNone', WHERE WHAT IT READS IS OF BULK AT MOST 1048576: true; the input reads as it did. -/
def sectorNoneUptoRow : OpenClaim := { program := "ytbeapaliadahnaa", sum := "2e5bf21f6ef74a2cd43727903688e23ceed558aec597434fe38f5c18acc32c9c", func := "hstsstore/hstsstorelaw05.SectorNone", spec := "sectorNone", unfollowed := true, recurses := true, apart := false, narrowed := true }
def SectorNoneUptoSaid : Prop := sectorNoneUptoRow.holds Try.pinned (OpenSpec.upto sectorNoneSpec)

end Rows
end Go.Proofs.Ytbeapaliadahnaa
