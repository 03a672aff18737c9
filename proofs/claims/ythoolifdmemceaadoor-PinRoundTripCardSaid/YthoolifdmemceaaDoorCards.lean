/-
  DERIVED. GIVEN WITH THE SEED: THE CARDS: each row of YthoolifdmemceaaDoorRows.lean that lists a variable, with what it lists TIED to the program's text (the seventh form; the later family's looks); each row that meets fmt, with fmt's text TOLD by the authors' own Lean function (tested against real Go, not proved from fmt's source: count such statements apart). THE CARD IS WHAT COUNTS. Prove the row's statement (the work); the ties are given (YthoolifdmemceaaDoorTie.lean); close each card by the builder's one call (the guide's Derived/Test/ToyasCard.lean, 'card_holds'). Laid BY PROGRAM, IN A SANDBOX (cutbox-door.mjs). By AI agents, Wed Nov 11 2026. No macro, syntax, notation, axiom, sorry.
-/
import Derived.Test.YthoolifdmemceaaDoorRows
import GoSem.ClaimSeven
namespace Go.Proofs.YthoolifdmemceaaDoor
namespace Rows

/-- THE TIED CARD OF 'hstsstorelaw22.PinRoundTrip'. -/
def pinRoundTripCard : Claim7 := { stood := { row := pinRoundTripRow, standIns := [], harness := (true, "f924c9625ae92f82cf0cd4bab53a85871a565ab377b1bfa4de9556b9c275326b"), looks := false }, kinds := [], alts := [], laidByText := true, laidKinds := [.data, .pinned], laidTests := true, laidLooks := .later }
def PinRoundTripCardSaid : Prop := Claim7.holds Tryd.pinned (.plain (OpenSpec.ofChange pinRoundTripSpec)) pinRoundTripCard

/-- THE TIED CARD OF 'hstsstorelaw22.PinCompareMatchesSpec'. -/
def pinCompareMatchesSpecCard : Claim7 := { stood := { row := pinCompareMatchesSpecRow, standIns := [], harness := (true, "f924c9625ae92f82cf0cd4bab53a85871a565ab377b1bfa4de9556b9c275326b"), looks := false }, kinds := [], alts := [], laidByText := true, laidKinds := [.data, .pinned], laidTests := true, laidLooks := .later }
def PinCompareMatchesSpecCardSaid : Prop := Claim7.holds Tryd.pinned (.plain (OpenSpec.ofChange pinCompareMatchesSpecSpec)) pinCompareMatchesSpecCard

/-- THE TIED CARD OF 'hstsstorelaw22.PinSubdomainsTogether'. -/
def pinSubdomainsTogetherCard : Claim7 := { stood := { row := pinSubdomainsTogetherRow, standIns := [], harness := (true, "f924c9625ae92f82cf0cd4bab53a85871a565ab377b1bfa4de9556b9c275326b"), looks := false }, kinds := [], alts := [], laidByText := true, laidKinds := [.data, .pinned], laidTests := true, laidLooks := .later }
def PinSubdomainsTogetherCardSaid : Prop := Claim7.holds Tryd.pinned (.plain (OpenSpec.ofChange pinSubdomainsTogetherSpec)) pinSubdomainsTogetherCard

/-- THE SECOND FORM's CARD OF 'hstsstorelaw22.PinRoundTrip'. -/
def pinRoundTripUptoCard : Claim7 := { stood := { row := pinRoundTripUptoRow, standIns := [], harness := (true, "f924c9625ae92f82cf0cd4bab53a85871a565ab377b1bfa4de9556b9c275326b"), looks := false }, kinds := [], alts := [], laidByText := true, laidKinds := [.data, .pinned], laidTests := true, laidLooks := .later }
def PinRoundTripUptoCardSaid : Prop := Claim7.holds Tryd.pinned (.plain (OpenSpec.upto pinRoundTripSpec)) pinRoundTripUptoCard

/-- THE SECOND FORM's CARD OF 'hstsstorelaw22.PinCompareMatchesSpec'. -/
def pinCompareMatchesSpecUptoCard : Claim7 := { stood := { row := pinCompareMatchesSpecUptoRow, standIns := [], harness := (true, "f924c9625ae92f82cf0cd4bab53a85871a565ab377b1bfa4de9556b9c275326b"), looks := false }, kinds := [], alts := [], laidByText := true, laidKinds := [.data, .pinned], laidTests := true, laidLooks := .later }
def PinCompareMatchesSpecUptoCardSaid : Prop := Claim7.holds Tryd.pinned (.plain (OpenSpec.upto pinCompareMatchesSpecSpec)) pinCompareMatchesSpecUptoCard

/-- THE SECOND FORM's CARD OF 'hstsstorelaw22.PinSubdomainsTogether'. -/
def pinSubdomainsTogetherUptoCard : Claim7 := { stood := { row := pinSubdomainsTogetherUptoRow, standIns := [], harness := (true, "f924c9625ae92f82cf0cd4bab53a85871a565ab377b1bfa4de9556b9c275326b"), looks := false }, kinds := [], alts := [], laidByText := true, laidKinds := [.data, .pinned], laidTests := true, laidLooks := .later }
def PinSubdomainsTogetherUptoCardSaid : Prop := Claim7.holds Tryd.pinned (.plain (OpenSpec.upto pinSubdomainsTogetherSpec)) pinSubdomainsTogetherUptoCard
end Rows
end Go.Proofs.YthoolifdmemceaaDoor
