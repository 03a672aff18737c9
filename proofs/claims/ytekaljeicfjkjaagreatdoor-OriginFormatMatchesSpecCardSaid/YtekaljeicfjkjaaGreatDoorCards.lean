/-
  DERIVED. GIVEN WITH THE SEED: THE CARDS: each row of YtekaljeicfjkjaaGreatDoorRows.lean that lists a variable, with what it lists TIED to the program's text (the seventh form; the later family's looks); each row that meets fmt, with fmt's text TOLD by the authors' own Lean function (tested against real Go, not proved from fmt's source: count such statements apart). THE CARD IS WHAT COUNTS. Prove the row's statement (the work); the ties are given (YtekaljeicfjkjaaGreatDoorTie.lean); close each card by the builder's one call (the guide's Derived/Test/ToyasCard.lean, 'card_holds'). Laid BY PROGRAM, IN A SANDBOX (cutbox-door.mjs). By AI agents, Wed Nov 11 2026. No macro, syntax, notation, axiom, sorry.
-/
import Derived.Test.YtekaljeicfjkjaaGreatDoorRows
import GoSem.ClaimSeven
namespace Go.Proofs.YtekaljeicfjkjaaGreatDoor
namespace Rows

/-- THE TIED CARD OF 'hstsstorelaw15.UrlFunctionsMatchSpec'. -/
def urlFunctionsMatchSpecCard : Claim7 := { stood := { row := urlFunctionsMatchSpecRow, standIns := [], harness := (true, "e2e45eec717fb68339e1c3b4987c66f802a4cc9925ddc19300b0f94d69ae522d"), looks := true }, kinds := [], alts := [], laidByText := true, laidKinds := [.data, .data, .data, .data, .sentinel, .sentinel, .pinned], laidTests := true, laidLooks := .later }
def UrlFunctionsMatchSpecCardSaid : Prop := Claim7.holds Tryz.pinned (.plain (OpenSpec.ofChange urlFunctionsMatchSpecSpec)) urlFunctionsMatchSpecCard

/-- THE TIED CARD OF 'hstsstorelaw16.OriginMatchesSpec'. -/
def originMatchesSpecCard : Claim7 := { stood := { row := originMatchesSpecRow, standIns := [], harness := (true, "e2e45eec717fb68339e1c3b4987c66f802a4cc9925ddc19300b0f94d69ae522d"), looks := true }, kinds := [], alts := [], laidByText := true, laidKinds := [.data, .data, .data, .data, .sentinel, .sentinel, .pinned], laidTests := true, laidLooks := .later }
def OriginMatchesSpecCardSaid : Prop := Claim7.holds Tryz.pinned (.plain (OpenSpec.ofChange originMatchesSpecSpec)) originMatchesSpecCard

/-- THE TIED CARD OF 'hstsstorelaw16.OriginFormatMatchesSpec'. -/
def originFormatMatchesSpecCard : Claim7 := { stood := { row := originFormatMatchesSpecRow, standIns := [], harness := (true, "e2e45eec717fb68339e1c3b4987c66f802a4cc9925ddc19300b0f94d69ae522d"), looks := true }, kinds := [], alts := [], laidByText := true, laidKinds := [.data, .data, .data, .data, .sentinel, .sentinel, .pinned], laidTests := true, laidLooks := .later }
def OriginFormatMatchesSpecCardSaid : Prop := Claim7.holds Tryz.pinned (.plain (OpenSpec.ofChange originFormatMatchesSpecSpec)) originFormatMatchesSpecCard

/-- THE TIED CARD OF 'hstsstorelaw16.OriginSame'. -/
def originSameCard : Claim7 := { stood := { row := originSameRow, standIns := [], harness := (true, "e2e45eec717fb68339e1c3b4987c66f802a4cc9925ddc19300b0f94d69ae522d"), looks := true }, kinds := [], alts := [], laidByText := true, laidKinds := [.data, .data, .data, .data, .sentinel, .sentinel, .pinned], laidTests := true, laidLooks := .later }
def OriginSameCardSaid : Prop := Claim7.holds Tryz.pinned (.plain (OpenSpec.ofChange originSameSpec)) originSameCard

/-- THE TIED CARD OF 'hstsstorelaw16.OriginUpgradeTrustworthy'. -/
def originUpgradeTrustworthyCard : Claim7 := { stood := { row := originUpgradeTrustworthyRow, standIns := [], harness := (true, "e2e45eec717fb68339e1c3b4987c66f802a4cc9925ddc19300b0f94d69ae522d"), looks := true }, kinds := [], alts := [], laidByText := true, laidKinds := [.data, .data, .data, .data, .sentinel, .sentinel, .pinned], laidTests := true, laidLooks := .later }
def OriginUpgradeTrustworthyCardSaid : Prop := Claim7.holds Tryz.pinned (.plain (OpenSpec.ofChange originUpgradeTrustworthySpec)) originUpgradeTrustworthyCard

/-- THE SECOND FORM's CARD OF 'hstsstorelaw15.UrlFunctionsMatchSpec'. -/
def urlFunctionsMatchSpecUptoCard : Claim7 := { stood := { row := urlFunctionsMatchSpecUptoRow, standIns := [], harness := (true, "e2e45eec717fb68339e1c3b4987c66f802a4cc9925ddc19300b0f94d69ae522d"), looks := true }, kinds := [], alts := [], laidByText := true, laidKinds := [.data, .data, .data, .data, .sentinel, .sentinel, .pinned], laidTests := true, laidLooks := .later }
def UrlFunctionsMatchSpecUptoCardSaid : Prop := Claim7.holds Tryz.pinned (.plain (OpenSpec.upto urlFunctionsMatchSpecSpec)) urlFunctionsMatchSpecUptoCard

/-- THE SECOND FORM's CARD OF 'hstsstorelaw16.OriginMatchesSpec'. -/
def originMatchesSpecUptoCard : Claim7 := { stood := { row := originMatchesSpecUptoRow, standIns := [], harness := (true, "e2e45eec717fb68339e1c3b4987c66f802a4cc9925ddc19300b0f94d69ae522d"), looks := true }, kinds := [], alts := [], laidByText := true, laidKinds := [.data, .data, .data, .data, .sentinel, .sentinel, .pinned], laidTests := true, laidLooks := .later }
def OriginMatchesSpecUptoCardSaid : Prop := Claim7.holds Tryz.pinned (.plain (OpenSpec.upto originMatchesSpecSpec)) originMatchesSpecUptoCard

/-- THE SECOND FORM's CARD OF 'hstsstorelaw16.OriginFormatMatchesSpec'. -/
def originFormatMatchesSpecUptoCard : Claim7 := { stood := { row := originFormatMatchesSpecUptoRow, standIns := [], harness := (true, "e2e45eec717fb68339e1c3b4987c66f802a4cc9925ddc19300b0f94d69ae522d"), looks := true }, kinds := [], alts := [], laidByText := true, laidKinds := [.data, .data, .data, .data, .sentinel, .sentinel, .pinned], laidTests := true, laidLooks := .later }
def OriginFormatMatchesSpecUptoCardSaid : Prop := Claim7.holds Tryz.pinned (.plain (OpenSpec.upto originFormatMatchesSpecSpec)) originFormatMatchesSpecUptoCard

/-- THE SECOND FORM's CARD OF 'hstsstorelaw16.OriginSame'. -/
def originSameUptoCard : Claim7 := { stood := { row := originSameUptoRow, standIns := [], harness := (true, "e2e45eec717fb68339e1c3b4987c66f802a4cc9925ddc19300b0f94d69ae522d"), looks := true }, kinds := [], alts := [], laidByText := true, laidKinds := [.data, .data, .data, .data, .sentinel, .sentinel, .pinned], laidTests := true, laidLooks := .later }
def OriginSameUptoCardSaid : Prop := Claim7.holds Tryz.pinned (.plain (OpenSpec.upto originSameSpec)) originSameUptoCard

/-- THE SECOND FORM's CARD OF 'hstsstorelaw16.OriginUpgradeTrustworthy'. -/
def originUpgradeTrustworthyUptoCard : Claim7 := { stood := { row := originUpgradeTrustworthyUptoRow, standIns := [], harness := (true, "e2e45eec717fb68339e1c3b4987c66f802a4cc9925ddc19300b0f94d69ae522d"), looks := true }, kinds := [], alts := [], laidByText := true, laidKinds := [.data, .data, .data, .data, .sentinel, .sentinel, .pinned], laidTests := true, laidLooks := .later }
def OriginUpgradeTrustworthyUptoCardSaid : Prop := Claim7.holds Tryz.pinned (.plain (OpenSpec.upto originUpgradeTrustworthySpec)) originUpgradeTrustworthyUptoCard
end Rows
end Go.Proofs.YtekaljeicfjkjaaGreatDoor
