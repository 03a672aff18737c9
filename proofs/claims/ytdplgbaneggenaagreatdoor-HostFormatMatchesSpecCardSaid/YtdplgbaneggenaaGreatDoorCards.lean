/-
  DERIVED. GIVEN WITH THE SEED: THE CARDS: each row of YtdplgbaneggenaaGreatDoorRows.lean that lists a variable, with what it lists TIED to the program's text (the seventh form; the later family's looks); each row that meets fmt, with fmt's text TOLD by the authors' own Lean function (tested against real Go, not proved from fmt's source: count such statements apart). THE CARD IS WHAT COUNTS. Prove the row's statement (the work); the ties are given (YtdplgbaneggenaaGreatDoorTie.lean); close each card by the builder's one call (the guide's Derived/Test/ToyasCard.lean, 'card_holds'). Laid BY PROGRAM, IN A SANDBOX (cutbox-door.mjs). By AI agents, Wed Nov 11 2026. No macro, syntax, notation, axiom, sorry.
-/
import Derived.Test.YtdplgbaneggenaaGreatDoorRows
import GoSem.ClaimSeven
namespace Go.Proofs.YtdplgbaneggenaaGreatDoor
namespace Rows

/-- THE TIED CARD OF 'hstsstorelaw14.HostParseMatchesSpec'. -/
def hostParseMatchesSpecCard : Claim7 := { stood := { row := hostParseMatchesSpecRow, standIns := [], harness := (true, "76eb97cfdd58deb26c617dddd87dc93d99d4bcdba90878821de8e3c1c3fac046"), looks := true }, kinds := [], alts := [], laidByText := true, laidKinds := [.data, .data, .data, .data, .sentinel, .sentinel, .pinned], laidTests := true, laidLooks := .later }
def HostParseMatchesSpecCardSaid : Prop := Claim7.holds Tryz.pinned (.plain (OpenSpec.ofChange hostParseMatchesSpecSpec)) hostParseMatchesSpecCard

/-- THE TIED CARD OF 'hstsstorelaw14.HostFormatMatchesSpec'. -/
def hostFormatMatchesSpecCard : Claim7 := { stood := { row := hostFormatMatchesSpecRow, standIns := [], harness := (true, "76eb97cfdd58deb26c617dddd87dc93d99d4bcdba90878821de8e3c1c3fac046"), looks := true }, kinds := [], alts := [], laidByText := true, laidKinds := [.data, .data, .data, .data, .sentinel, .sentinel, .pinned], laidTests := true, laidLooks := .later }
def HostFormatMatchesSpecCardSaid : Prop := Claim7.holds Tryz.pinned (.plain (OpenSpec.ofChange hostFormatMatchesSpecSpec)) hostFormatMatchesSpecCard

/-- THE TIED CARD OF 'hstsstorelaw14.HostNamesMatchSpec'. -/
def hostNamesMatchSpecCard : Claim7 := { stood := { row := hostNamesMatchSpecRow, standIns := [], harness := (true, "76eb97cfdd58deb26c617dddd87dc93d99d4bcdba90878821de8e3c1c3fac046"), looks := true }, kinds := [], alts := [], laidByText := true, laidKinds := [.data, .data, .data, .data, .sentinel, .sentinel, .pinned], laidTests := true, laidLooks := .later }
def HostNamesMatchSpecCardSaid : Prop := Claim7.holds Tryz.pinned (.plain (OpenSpec.ofChange hostNamesMatchSpecSpec)) hostNamesMatchSpecCard

/-- THE TIED CARD OF 'hstsstorelaw14.HostRoundTrip'. -/
def hostRoundTripCard : Claim7 := { stood := { row := hostRoundTripRow, standIns := [], harness := (true, "76eb97cfdd58deb26c617dddd87dc93d99d4bcdba90878821de8e3c1c3fac046"), looks := true }, kinds := [], alts := [], laidByText := true, laidKinds := [.data, .data, .data, .data, .sentinel, .sentinel, .pinned], laidTests := true, laidLooks := .later }
def HostRoundTripCardSaid : Prop := Claim7.holds Tryz.pinned (.plain (OpenSpec.ofChange hostRoundTripSpec)) hostRoundTripCard

/-- THE TIED CARD OF 'hstsstorelaw14.HostSpellings'. -/
def hostSpellingsCard : Claim7 := { stood := { row := hostSpellingsRow, standIns := [], harness := (true, "76eb97cfdd58deb26c617dddd87dc93d99d4bcdba90878821de8e3c1c3fac046"), looks := true }, kinds := [], alts := [], laidByText := true, laidKinds := [.data, .data, .data, .data, .sentinel, .sentinel, .pinned], laidTests := true, laidLooks := .later }
def HostSpellingsCardSaid : Prop := Claim7.holds Tryz.pinned (.plain (OpenSpec.ofChange hostSpellingsSpec)) hostSpellingsCard

/-- THE TIED CARD OF 'hstsstorelaw14.HostCoversOrder'. -/
def hostCoversOrderCard : Claim7 := { stood := { row := hostCoversOrderRow, standIns := [], harness := (true, "76eb97cfdd58deb26c617dddd87dc93d99d4bcdba90878821de8e3c1c3fac046"), looks := true }, kinds := [], alts := [], laidByText := true, laidKinds := [.data, .data, .data, .data, .sentinel, .sentinel, .pinned], laidTests := true, laidLooks := .later }
def HostCoversOrderCardSaid : Prop := Claim7.holds Tryz.pinned (.plain (OpenSpec.ofChange hostCoversOrderSpec)) hostCoversOrderCard

/-- THE TIED CARD OF 'hstsstorelaw14.HostSupersCover'. -/
def hostSupersCoverCard : Claim7 := { stood := { row := hostSupersCoverRow, standIns := [], harness := (true, "76eb97cfdd58deb26c617dddd87dc93d99d4bcdba90878821de8e3c1c3fac046"), looks := true }, kinds := [], alts := [], laidByText := true, laidKinds := [.data, .data, .data, .data, .sentinel, .sentinel, .pinned], laidTests := true, laidLooks := .later }
def HostSupersCoverCardSaid : Prop := Claim7.holds Tryz.pinned (.plain (OpenSpec.ofChange hostSupersCoverSpec)) hostSupersCoverCard

/-- THE SECOND FORM's CARD OF 'hstsstorelaw14.HostParseMatchesSpec'. -/
def hostParseMatchesSpecUptoCard : Claim7 := { stood := { row := hostParseMatchesSpecUptoRow, standIns := [], harness := (true, "76eb97cfdd58deb26c617dddd87dc93d99d4bcdba90878821de8e3c1c3fac046"), looks := true }, kinds := [], alts := [], laidByText := true, laidKinds := [.data, .data, .data, .data, .sentinel, .sentinel, .pinned], laidTests := true, laidLooks := .later }
def HostParseMatchesSpecUptoCardSaid : Prop := Claim7.holds Tryz.pinned (.plain (OpenSpec.upto hostParseMatchesSpecSpec)) hostParseMatchesSpecUptoCard

/-- THE SECOND FORM's CARD OF 'hstsstorelaw14.HostFormatMatchesSpec'. -/
def hostFormatMatchesSpecUptoCard : Claim7 := { stood := { row := hostFormatMatchesSpecUptoRow, standIns := [], harness := (true, "76eb97cfdd58deb26c617dddd87dc93d99d4bcdba90878821de8e3c1c3fac046"), looks := true }, kinds := [], alts := [], laidByText := true, laidKinds := [.data, .data, .data, .data, .sentinel, .sentinel, .pinned], laidTests := true, laidLooks := .later }
def HostFormatMatchesSpecUptoCardSaid : Prop := Claim7.holds Tryz.pinned (.plain (OpenSpec.upto hostFormatMatchesSpecSpec)) hostFormatMatchesSpecUptoCard

/-- THE SECOND FORM's CARD OF 'hstsstorelaw14.HostNamesMatchSpec'. -/
def hostNamesMatchSpecUptoCard : Claim7 := { stood := { row := hostNamesMatchSpecUptoRow, standIns := [], harness := (true, "76eb97cfdd58deb26c617dddd87dc93d99d4bcdba90878821de8e3c1c3fac046"), looks := true }, kinds := [], alts := [], laidByText := true, laidKinds := [.data, .data, .data, .data, .sentinel, .sentinel, .pinned], laidTests := true, laidLooks := .later }
def HostNamesMatchSpecUptoCardSaid : Prop := Claim7.holds Tryz.pinned (.plain (OpenSpec.upto hostNamesMatchSpecSpec)) hostNamesMatchSpecUptoCard

/-- THE SECOND FORM's CARD OF 'hstsstorelaw14.HostRoundTrip'. -/
def hostRoundTripUptoCard : Claim7 := { stood := { row := hostRoundTripUptoRow, standIns := [], harness := (true, "76eb97cfdd58deb26c617dddd87dc93d99d4bcdba90878821de8e3c1c3fac046"), looks := true }, kinds := [], alts := [], laidByText := true, laidKinds := [.data, .data, .data, .data, .sentinel, .sentinel, .pinned], laidTests := true, laidLooks := .later }
def HostRoundTripUptoCardSaid : Prop := Claim7.holds Tryz.pinned (.plain (OpenSpec.upto hostRoundTripSpec)) hostRoundTripUptoCard

/-- THE SECOND FORM's CARD OF 'hstsstorelaw14.HostSpellings'. -/
def hostSpellingsUptoCard : Claim7 := { stood := { row := hostSpellingsUptoRow, standIns := [], harness := (true, "76eb97cfdd58deb26c617dddd87dc93d99d4bcdba90878821de8e3c1c3fac046"), looks := true }, kinds := [], alts := [], laidByText := true, laidKinds := [.data, .data, .data, .data, .sentinel, .sentinel, .pinned], laidTests := true, laidLooks := .later }
def HostSpellingsUptoCardSaid : Prop := Claim7.holds Tryz.pinned (.plain (OpenSpec.upto hostSpellingsSpec)) hostSpellingsUptoCard

/-- THE SECOND FORM's CARD OF 'hstsstorelaw14.HostCoversOrder'. -/
def hostCoversOrderUptoCard : Claim7 := { stood := { row := hostCoversOrderUptoRow, standIns := [], harness := (true, "76eb97cfdd58deb26c617dddd87dc93d99d4bcdba90878821de8e3c1c3fac046"), looks := true }, kinds := [], alts := [], laidByText := true, laidKinds := [.data, .data, .data, .data, .sentinel, .sentinel, .pinned], laidTests := true, laidLooks := .later }
def HostCoversOrderUptoCardSaid : Prop := Claim7.holds Tryz.pinned (.plain (OpenSpec.upto hostCoversOrderSpec)) hostCoversOrderUptoCard

/-- THE SECOND FORM's CARD OF 'hstsstorelaw14.HostSupersCover'. -/
def hostSupersCoverUptoCard : Claim7 := { stood := { row := hostSupersCoverUptoRow, standIns := [], harness := (true, "76eb97cfdd58deb26c617dddd87dc93d99d4bcdba90878821de8e3c1c3fac046"), looks := true }, kinds := [], alts := [], laidByText := true, laidKinds := [.data, .data, .data, .data, .sentinel, .sentinel, .pinned], laidTests := true, laidLooks := .later }
def HostSupersCoverUptoCardSaid : Prop := Claim7.holds Tryz.pinned (.plain (OpenSpec.upto hostSupersCoverSpec)) hostSupersCoverUptoCard
end Rows
end Go.Proofs.YtdplgbaneggenaaGreatDoor
