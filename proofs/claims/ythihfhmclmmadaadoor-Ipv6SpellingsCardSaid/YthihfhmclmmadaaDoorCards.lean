/-
  DERIVED. GIVEN WITH THE SEED: THE CARDS: each row of YthihfhmclmmadaaDoorRows.lean that lists a variable, with what it lists TIED to the program's text (the seventh form; the later family's looks); each row that meets fmt, with fmt's text TOLD by the authors' own Lean function (tested against real Go, not proved from fmt's source: count such statements apart). THE CARD IS WHAT COUNTS. Prove the row's statement (the work); the ties are given (YthihfhmclmmadaaDoorTie.lean); close each card by the builder's one call (the guide's Derived/Test/ToyasCard.lean, 'card_holds'). Laid BY PROGRAM, IN A SANDBOX (cutbox-door.mjs). By AI agents, Wed Nov 11 2026. No macro, syntax, notation, axiom, sorry.
-/
import Derived.Test.YthihfhmclmmadaaDoorRows
import GoSem.ClaimSeven
namespace Go.Proofs.YthihfhmclmmadaaDoor
namespace Rows

/-- THE TIED CARD OF 'hstsstorelaw11.Ipv6MatchesSpec'. -/
def ipv6MatchesSpecCard : Claim7 := { stood := { row := ipv6MatchesSpecRow, standIns := [], harness := (true, "115a215c49377a9c315e70cd4422eb105cb5beb8bceaf31fd086ef3c1083f304"), looks := false }, kinds := [], alts := [], laidByText := true, laidKinds := [.data, .data, .data], laidTests := true, laidLooks := .later }
def Ipv6MatchesSpecCardSaid : Prop := Claim7.holds Tryd.pinned (.plain (OpenSpec.ofChange ipv6MatchesSpecSpec)) ipv6MatchesSpecCard

/-- THE TIED CARD OF 'hstsstorelaw11.Ipv6RoundTrip'. -/
def ipv6RoundTripCard : Claim7 := { stood := { row := ipv6RoundTripRow, standIns := [], harness := (true, "115a215c49377a9c315e70cd4422eb105cb5beb8bceaf31fd086ef3c1083f304"), looks := false }, kinds := [], alts := [], laidByText := true, laidKinds := [.data, .data, .data], laidTests := true, laidLooks := .later }
def Ipv6RoundTripCardSaid : Prop := Claim7.holds Tryd.pinned (.plain (OpenSpec.ofChange ipv6RoundTripSpec)) ipv6RoundTripCard

/-- THE TIED CARD OF 'hstsstorelaw11.Ipv6Spellings'. -/
def ipv6SpellingsCard : Claim7 := { stood := { row := ipv6SpellingsRow, standIns := [], harness := (true, "115a215c49377a9c315e70cd4422eb105cb5beb8bceaf31fd086ef3c1083f304"), looks := false }, kinds := [], alts := [], laidByText := true, laidKinds := [.data, .data, .data], laidTests := true, laidLooks := .later }
def Ipv6SpellingsCardSaid : Prop := Claim7.holds Tryd.pinned (.plain (OpenSpec.ofChange ipv6SpellingsSpec)) ipv6SpellingsCard

/-- THE TIED CARD OF 'hstsstorelaw11.Ipv6Canonical'. -/
def ipv6CanonicalCard : Claim7 := { stood := { row := ipv6CanonicalRow, standIns := [], harness := (true, "115a215c49377a9c315e70cd4422eb105cb5beb8bceaf31fd086ef3c1083f304"), looks := false }, kinds := [], alts := [], laidByText := true, laidKinds := [.data, .data, .data], laidTests := true, laidLooks := .later }
def Ipv6CanonicalCardSaid : Prop := Claim7.holds Tryd.pinned (.plain (OpenSpec.ofChange ipv6CanonicalSpec)) ipv6CanonicalCard

/-- THE SECOND FORM's CARD OF 'hstsstorelaw11.Ipv6MatchesSpec'. -/
def ipv6MatchesSpecUptoCard : Claim7 := { stood := { row := ipv6MatchesSpecUptoRow, standIns := [], harness := (true, "115a215c49377a9c315e70cd4422eb105cb5beb8bceaf31fd086ef3c1083f304"), looks := false }, kinds := [], alts := [], laidByText := true, laidKinds := [.data, .data, .data], laidTests := true, laidLooks := .later }
def Ipv6MatchesSpecUptoCardSaid : Prop := Claim7.holds Tryd.pinned (.plain (OpenSpec.upto ipv6MatchesSpecSpec)) ipv6MatchesSpecUptoCard

/-- THE SECOND FORM's CARD OF 'hstsstorelaw11.Ipv6RoundTrip'. -/
def ipv6RoundTripUptoCard : Claim7 := { stood := { row := ipv6RoundTripUptoRow, standIns := [], harness := (true, "115a215c49377a9c315e70cd4422eb105cb5beb8bceaf31fd086ef3c1083f304"), looks := false }, kinds := [], alts := [], laidByText := true, laidKinds := [.data, .data, .data], laidTests := true, laidLooks := .later }
def Ipv6RoundTripUptoCardSaid : Prop := Claim7.holds Tryd.pinned (.plain (OpenSpec.upto ipv6RoundTripSpec)) ipv6RoundTripUptoCard

/-- THE SECOND FORM's CARD OF 'hstsstorelaw11.Ipv6Spellings'. -/
def ipv6SpellingsUptoCard : Claim7 := { stood := { row := ipv6SpellingsUptoRow, standIns := [], harness := (true, "115a215c49377a9c315e70cd4422eb105cb5beb8bceaf31fd086ef3c1083f304"), looks := false }, kinds := [], alts := [], laidByText := true, laidKinds := [.data, .data, .data], laidTests := true, laidLooks := .later }
def Ipv6SpellingsUptoCardSaid : Prop := Claim7.holds Tryd.pinned (.plain (OpenSpec.upto ipv6SpellingsSpec)) ipv6SpellingsUptoCard

/-- THE SECOND FORM's CARD OF 'hstsstorelaw11.Ipv6Canonical'. -/
def ipv6CanonicalUptoCard : Claim7 := { stood := { row := ipv6CanonicalUptoRow, standIns := [], harness := (true, "115a215c49377a9c315e70cd4422eb105cb5beb8bceaf31fd086ef3c1083f304"), looks := false }, kinds := [], alts := [], laidByText := true, laidKinds := [.data, .data, .data], laidTests := true, laidLooks := .later }
def Ipv6CanonicalUptoCardSaid : Prop := Claim7.holds Tryd.pinned (.plain (OpenSpec.upto ipv6CanonicalSpec)) ipv6CanonicalUptoCard
end Rows
end Go.Proofs.YthihfhmclmmadaaDoor
