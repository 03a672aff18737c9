/-
  DERIVED. GIVEN WITH THE SEED: THE CARDS: each row of YtmgmepikgccmcaaDoorRows.lean that lists a variable, with what it lists TIED to the program's text (the seventh form; the later family's looks); each row that meets fmt, with fmt's text TOLD by the authors' own Lean function (tested against real Go, not proved from fmt's source: count such statements apart). THE CARD IS WHAT COUNTS. Prove the row's statement (the work); the ties are given (YtmgmepikgccmcaaDoorTie.lean); close each card by the builder's one call (the guide's Derived/Test/ToyasCard.lean, 'card_holds'). Laid BY PROGRAM, IN A SANDBOX (cutbox-door.mjs). By AI agents, Wed Nov 11 2026. No macro, syntax, notation, axiom, sorry.
-/
import Derived.Test.YtmgmepikgccmcaaDoorRows
import GoSem.ClaimSeven
namespace Go.Proofs.YtmgmepikgccmcaaDoor
namespace Rows

/-- THE TIED CARD OF 'hstsstorelaw10.Ipv4MatchesSpec'. -/
def ipv4MatchesSpecCard : Claim7 := { stood := { row := ipv4MatchesSpecRow, standIns := [], harness := (true, "644f7e11797d21e40fe147f144af31b13aa2113568f9e586f7391b1a4b042668"), looks := false }, kinds := [], alts := [], laidByText := true, laidKinds := [.data, .data, .data], laidTests := true, laidLooks := .later }
def Ipv4MatchesSpecCardSaid : Prop := Claim7.holds Tryd.pinned (.plain (OpenSpec.ofChange ipv4MatchesSpecSpec)) ipv4MatchesSpecCard

/-- THE TIED CARD OF 'hstsstorelaw10.Ipv4RoundTrip'. -/
def ipv4RoundTripCard : Claim7 := { stood := { row := ipv4RoundTripRow, standIns := [], harness := (true, "644f7e11797d21e40fe147f144af31b13aa2113568f9e586f7391b1a4b042668"), looks := false }, kinds := [], alts := [], laidByText := true, laidKinds := [.data, .data, .data], laidTests := true, laidLooks := .later }
def Ipv4RoundTripCardSaid : Prop := Claim7.holds Tryd.pinned (.plain (OpenSpec.ofChange ipv4RoundTripSpec)) ipv4RoundTripCard

/-- THE TIED CARD OF 'hstsstorelaw10.Ipv4Spellings'. -/
def ipv4SpellingsCard : Claim7 := { stood := { row := ipv4SpellingsRow, standIns := [], harness := (true, "644f7e11797d21e40fe147f144af31b13aa2113568f9e586f7391b1a4b042668"), looks := false }, kinds := [], alts := [], laidByText := true, laidKinds := [.data, .data, .data], laidTests := true, laidLooks := .later }
def Ipv4SpellingsCardSaid : Prop := Claim7.holds Tryd.pinned (.plain (OpenSpec.ofChange ipv4SpellingsSpec)) ipv4SpellingsCard

/-- THE TIED CARD OF 'hstsstorelaw10.Ipv4TooLarge'. -/
def ipv4TooLargeCard : Claim7 := { stood := { row := ipv4TooLargeRow, standIns := [], harness := (true, "644f7e11797d21e40fe147f144af31b13aa2113568f9e586f7391b1a4b042668"), looks := false }, kinds := [], alts := [], laidByText := true, laidKinds := [.data, .data, .data], laidTests := true, laidLooks := .later }
def Ipv4TooLargeCardSaid : Prop := Claim7.holds Tryd.pinned (.plain (OpenSpec.ofChange ipv4TooLargeSpec)) ipv4TooLargeCard

/-- THE SECOND FORM's CARD OF 'hstsstorelaw10.Ipv4MatchesSpec'. -/
def ipv4MatchesSpecUptoCard : Claim7 := { stood := { row := ipv4MatchesSpecUptoRow, standIns := [], harness := (true, "644f7e11797d21e40fe147f144af31b13aa2113568f9e586f7391b1a4b042668"), looks := false }, kinds := [], alts := [], laidByText := true, laidKinds := [.data, .data, .data], laidTests := true, laidLooks := .later }
def Ipv4MatchesSpecUptoCardSaid : Prop := Claim7.holds Tryd.pinned (.plain (OpenSpec.upto ipv4MatchesSpecSpec)) ipv4MatchesSpecUptoCard

/-- THE SECOND FORM's CARD OF 'hstsstorelaw10.Ipv4RoundTrip'. -/
def ipv4RoundTripUptoCard : Claim7 := { stood := { row := ipv4RoundTripUptoRow, standIns := [], harness := (true, "644f7e11797d21e40fe147f144af31b13aa2113568f9e586f7391b1a4b042668"), looks := false }, kinds := [], alts := [], laidByText := true, laidKinds := [.data, .data, .data], laidTests := true, laidLooks := .later }
def Ipv4RoundTripUptoCardSaid : Prop := Claim7.holds Tryd.pinned (.plain (OpenSpec.upto ipv4RoundTripSpec)) ipv4RoundTripUptoCard

/-- THE SECOND FORM's CARD OF 'hstsstorelaw10.Ipv4Spellings'. -/
def ipv4SpellingsUptoCard : Claim7 := { stood := { row := ipv4SpellingsUptoRow, standIns := [], harness := (true, "644f7e11797d21e40fe147f144af31b13aa2113568f9e586f7391b1a4b042668"), looks := false }, kinds := [], alts := [], laidByText := true, laidKinds := [.data, .data, .data], laidTests := true, laidLooks := .later }
def Ipv4SpellingsUptoCardSaid : Prop := Claim7.holds Tryd.pinned (.plain (OpenSpec.upto ipv4SpellingsSpec)) ipv4SpellingsUptoCard

/-- THE SECOND FORM's CARD OF 'hstsstorelaw10.Ipv4TooLarge'. -/
def ipv4TooLargeUptoCard : Claim7 := { stood := { row := ipv4TooLargeUptoRow, standIns := [], harness := (true, "644f7e11797d21e40fe147f144af31b13aa2113568f9e586f7391b1a4b042668"), looks := false }, kinds := [], alts := [], laidByText := true, laidKinds := [.data, .data, .data], laidTests := true, laidLooks := .later }
def Ipv4TooLargeUptoCardSaid : Prop := Claim7.holds Tryd.pinned (.plain (OpenSpec.upto ipv4TooLargeSpec)) ipv4TooLargeUptoCard
end Rows
end Go.Proofs.YtmgmepikgccmcaaDoor
