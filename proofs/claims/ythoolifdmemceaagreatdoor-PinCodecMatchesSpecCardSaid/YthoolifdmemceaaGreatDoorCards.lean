/-
  DERIVED. GIVEN WITH THE SEED: THE CARDS: each row of YthoolifdmemceaaGreatDoorRows.lean that lists a variable, with what it lists TIED to the program's text (the seventh form; the later family's looks); each row that meets fmt, with fmt's text TOLD by the authors' own Lean function (tested against real Go, not proved from fmt's source: count such statements apart). THE CARD IS WHAT COUNTS. Prove the row's statement (the work); the ties are given (YthoolifdmemceaaGreatDoorTie.lean); close each card by the builder's one call (the guide's Derived/Test/ToyasCard.lean, 'card_holds'). Laid BY PROGRAM, IN A SANDBOX (cutbox-door.mjs). By AI agents, Wed Nov 11 2026. No macro, syntax, notation, axiom, sorry.
-/
import Derived.Test.YthoolifdmemceaaGreatDoorRows
import GoSem.ClaimSeven
namespace Go.Proofs.YthoolifdmemceaaGreatDoor
namespace Rows

/-- THE TIED CARD OF 'hstsstorelaw22.PinCodecMatchesSpec'. -/
def pinCodecMatchesSpecCard : Claim7 := { stood := { row := pinCodecMatchesSpecRow, standIns := [], harness := (true, "16625b51b8185f4042da6bf379af6ee7931d76f47684ee4afd035c1c3f00713e"), looks := false }, kinds := [], alts := [], laidByText := true, laidKinds := [.data, .pinned], laidTests := true, laidLooks := .later }
def PinCodecMatchesSpecCardSaid : Prop := Claim7.holds Tryz.pinned (.plain (OpenSpec.ofChange pinCodecMatchesSpecSpec)) pinCodecMatchesSpecCard

/-- THE SECOND FORM's CARD OF 'hstsstorelaw22.PinCodecMatchesSpec'. -/
def pinCodecMatchesSpecUptoCard : Claim7 := { stood := { row := pinCodecMatchesSpecUptoRow, standIns := [], harness := (true, "16625b51b8185f4042da6bf379af6ee7931d76f47684ee4afd035c1c3f00713e"), looks := false }, kinds := [], alts := [], laidByText := true, laidKinds := [.data, .pinned], laidTests := true, laidLooks := .later }
def PinCodecMatchesSpecUptoCardSaid : Prop := Claim7.holds Tryz.pinned (.plain (OpenSpec.upto pinCodecMatchesSpecSpec)) pinCodecMatchesSpecUptoCard
end Rows
end Go.Proofs.YthoolifdmemceaaGreatDoor
