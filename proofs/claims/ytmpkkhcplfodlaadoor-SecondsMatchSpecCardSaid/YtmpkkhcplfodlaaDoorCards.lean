/-
  DERIVED. GIVEN WITH THE SEED: THE CARDS: each row of YtmpkkhcplfodlaaDoorRows.lean that lists a variable, with what it lists TIED to the program's text (the seventh form; the later family's looks); each row that meets fmt, with fmt's text TOLD by the authors' own Lean function (tested against real Go, not proved from fmt's source: count such statements apart). THE CARD IS WHAT COUNTS. Prove the row's statement (the work); the ties are given (YtmpkkhcplfodlaaDoorTie.lean); close each card by the builder's one call (the guide's Derived/Test/ToyasCard.lean, 'card_holds'). Laid BY PROGRAM, IN A SANDBOX (cutbox-door.mjs). By AI agents, Wed Nov 11 2026. No macro, syntax, notation, axiom, sorry.
-/
import Derived.Test.YtmpkkhcplfodlaaDoorRows
import GoSem.ClaimSeven
namespace Go.Proofs.YtmpkkhcplfodlaaDoor
namespace Rows

/-- THE TIED CARD OF 'hstsstorelaw04.SecondsMatchSpec'. -/
def secondsMatchSpecCard : Claim7 := { stood := { row := secondsMatchSpecRow, standIns := [], harness := (true, "9c860ba48308d242d2d4515bb78e356b08e259c6e4c136d1aeed0268dcf60351"), looks := false }, kinds := [], alts := [], laidByText := true, laidKinds := [.data, .data, .data], laidTests := true, laidLooks := .later }
def SecondsMatchSpecCardSaid : Prop := Claim7.holds Tryd.pinned (.plain (OpenSpec.ofChange secondsMatchSpecSpec)) secondsMatchSpecCard

/-- THE TIED CARD OF 'hstsstorelaw04.SecondsRoundTrip'. -/
def secondsRoundTripCard : Claim7 := { stood := { row := secondsRoundTripRow, standIns := [], harness := (true, "9c860ba48308d242d2d4515bb78e356b08e259c6e4c136d1aeed0268dcf60351"), looks := false }, kinds := [], alts := [], laidByText := true, laidKinds := [.data, .data, .data], laidTests := true, laidLooks := .later }
def SecondsRoundTripCardSaid : Prop := Claim7.holds Tryd.pinned (.plain (OpenSpec.ofChange secondsRoundTripSpec)) secondsRoundTripCard

/-- THE TIED CARD OF 'hstsstorelaw04.SecondsOrder'. -/
def secondsOrderCard : Claim7 := { stood := { row := secondsOrderRow, standIns := [], harness := (true, "9c860ba48308d242d2d4515bb78e356b08e259c6e4c136d1aeed0268dcf60351"), looks := false }, kinds := [], alts := [], laidByText := true, laidKinds := [.data, .data, .data], laidTests := true, laidLooks := .later }
def SecondsOrderCardSaid : Prop := Claim7.holds Tryd.pinned (.plain (OpenSpec.ofChange secondsOrderSpec)) secondsOrderCard

/-- THE TIED CARD OF 'hstsstorelaw04.SecondsExpiryLaws'. -/
def secondsExpiryLawsCard : Claim7 := { stood := { row := secondsExpiryLawsRow, standIns := [], harness := (true, "9c860ba48308d242d2d4515bb78e356b08e259c6e4c136d1aeed0268dcf60351"), looks := false }, kinds := [], alts := [], laidByText := true, laidKinds := [.data, .data, .data], laidTests := true, laidLooks := .later }
def SecondsExpiryLawsCardSaid : Prop := Claim7.holds Tryd.pinned (.plain (OpenSpec.ofChange secondsExpiryLawsSpec)) secondsExpiryLawsCard

/-- THE SECOND FORM's CARD OF 'hstsstorelaw04.SecondsMatchSpec'. -/
def secondsMatchSpecUptoCard : Claim7 := { stood := { row := secondsMatchSpecUptoRow, standIns := [], harness := (true, "9c860ba48308d242d2d4515bb78e356b08e259c6e4c136d1aeed0268dcf60351"), looks := false }, kinds := [], alts := [], laidByText := true, laidKinds := [.data, .data, .data], laidTests := true, laidLooks := .later }
def SecondsMatchSpecUptoCardSaid : Prop := Claim7.holds Tryd.pinned (.plain (OpenSpec.upto secondsMatchSpecSpec)) secondsMatchSpecUptoCard

/-- THE SECOND FORM's CARD OF 'hstsstorelaw04.SecondsRoundTrip'. -/
def secondsRoundTripUptoCard : Claim7 := { stood := { row := secondsRoundTripUptoRow, standIns := [], harness := (true, "9c860ba48308d242d2d4515bb78e356b08e259c6e4c136d1aeed0268dcf60351"), looks := false }, kinds := [], alts := [], laidByText := true, laidKinds := [.data, .data, .data], laidTests := true, laidLooks := .later }
def SecondsRoundTripUptoCardSaid : Prop := Claim7.holds Tryd.pinned (.plain (OpenSpec.upto secondsRoundTripSpec)) secondsRoundTripUptoCard

/-- THE SECOND FORM's CARD OF 'hstsstorelaw04.SecondsOrder'. -/
def secondsOrderUptoCard : Claim7 := { stood := { row := secondsOrderUptoRow, standIns := [], harness := (true, "9c860ba48308d242d2d4515bb78e356b08e259c6e4c136d1aeed0268dcf60351"), looks := false }, kinds := [], alts := [], laidByText := true, laidKinds := [.data, .data, .data], laidTests := true, laidLooks := .later }
def SecondsOrderUptoCardSaid : Prop := Claim7.holds Tryd.pinned (.plain (OpenSpec.upto secondsOrderSpec)) secondsOrderUptoCard

/-- THE SECOND FORM's CARD OF 'hstsstorelaw04.SecondsExpiryLaws'. -/
def secondsExpiryLawsUptoCard : Claim7 := { stood := { row := secondsExpiryLawsUptoRow, standIns := [], harness := (true, "9c860ba48308d242d2d4515bb78e356b08e259c6e4c136d1aeed0268dcf60351"), looks := false }, kinds := [], alts := [], laidByText := true, laidKinds := [.data, .data, .data], laidTests := true, laidLooks := .later }
def SecondsExpiryLawsUptoCardSaid : Prop := Claim7.holds Tryd.pinned (.plain (OpenSpec.upto secondsExpiryLawsSpec)) secondsExpiryLawsUptoCard
end Rows
end Go.Proofs.YtmpkkhcplfodlaaDoor
