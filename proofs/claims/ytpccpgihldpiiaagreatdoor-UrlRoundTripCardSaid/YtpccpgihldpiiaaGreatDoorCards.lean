/-
  DERIVED. GIVEN WITH THE SEED: THE CARDS: each row of YtpccpgihldpiiaaGreatDoorRows.lean that lists a variable, with what it lists TIED to the program's text (the seventh form; the later family's looks); each row that meets fmt, with fmt's text TOLD by the authors' own Lean function (tested against real Go, not proved from fmt's source: count such statements apart). THE CARD IS WHAT COUNTS. Prove the row's statement (the work); the ties are given (YtpccpgihldpiiaaGreatDoorTie.lean); close each card by the builder's one call (the guide's Derived/Test/ToyasCard.lean, 'card_holds'). Laid BY PROGRAM, IN A SANDBOX (cutbox-door.mjs). By AI agents, Wed Nov 11 2026. No macro, syntax, notation, axiom, sorry.
-/
import Derived.Test.YtpccpgihldpiiaaGreatDoorRows
import GoSem.ClaimSeven
namespace Go.Proofs.YtpccpgihldpiiaaGreatDoor
namespace Rows

/-- THE TIED CARD OF 'hstsstorelaw14.HostParseMatchesSpec'. -/
def hostParseMatchesSpecCard : Claim7 := { stood := { row := hostParseMatchesSpecRow, standIns := [], harness := (true, "69971bfb71aa019ecbcc593a3ce63a3ce19c238a97031de77be120f18f1c889e"), looks := true }, kinds := [], alts := [], laidByText := true, laidKinds := [.data, .data, .data, .data, .sentinel, .sentinel, .pinned], laidTests := true, laidLooks := .later }
def HostParseMatchesSpecCardSaid : Prop := Claim7.holds Tryz.pinned (.plain (OpenSpec.ofChange hostParseMatchesSpecSpec)) hostParseMatchesSpecCard

/-- THE TIED CARD OF 'hstsstorelaw14.HostNamesMatchSpec'. -/
def hostNamesMatchSpecCard : Claim7 := { stood := { row := hostNamesMatchSpecRow, standIns := [], harness := (true, "69971bfb71aa019ecbcc593a3ce63a3ce19c238a97031de77be120f18f1c889e"), looks := true }, kinds := [], alts := [], laidByText := true, laidKinds := [.data, .data, .data, .data, .sentinel, .sentinel, .pinned], laidTests := true, laidLooks := .later }
def HostNamesMatchSpecCardSaid : Prop := Claim7.holds Tryz.pinned (.plain (OpenSpec.ofChange hostNamesMatchSpecSpec)) hostNamesMatchSpecCard

/-- THE TIED CARD OF 'hstsstorelaw14.HostSpellings'. -/
def hostSpellingsCard : Claim7 := { stood := { row := hostSpellingsRow, standIns := [], harness := (true, "69971bfb71aa019ecbcc593a3ce63a3ce19c238a97031de77be120f18f1c889e"), looks := true }, kinds := [], alts := [], laidByText := true, laidKinds := [.data, .data, .data, .data, .sentinel, .sentinel, .pinned], laidTests := true, laidLooks := .later }
def HostSpellingsCardSaid : Prop := Claim7.holds Tryz.pinned (.plain (OpenSpec.ofChange hostSpellingsSpec)) hostSpellingsCard

/-- THE TIED CARD OF 'hstsstorelaw14.HostSupersCover'. -/
def hostSupersCoverCard : Claim7 := { stood := { row := hostSupersCoverRow, standIns := [], harness := (true, "69971bfb71aa019ecbcc593a3ce63a3ce19c238a97031de77be120f18f1c889e"), looks := true }, kinds := [], alts := [], laidByText := true, laidKinds := [.data, .data, .data, .data, .sentinel, .sentinel, .pinned], laidTests := true, laidLooks := .later }
def HostSupersCoverCardSaid : Prop := Claim7.holds Tryz.pinned (.plain (OpenSpec.ofChange hostSupersCoverSpec)) hostSupersCoverCard

/-- THE TIED CARD OF 'hstsstorelaw15.UrlParseMatchesSpec'. -/
def urlParseMatchesSpecCard : Claim7 := { stood := { row := urlParseMatchesSpecRow, standIns := [], harness := (true, "69971bfb71aa019ecbcc593a3ce63a3ce19c238a97031de77be120f18f1c889e"), looks := true }, kinds := [], alts := [], laidByText := true, laidKinds := [.data, .data, .data, .data, .sentinel, .sentinel, .pinned], laidTests := true, laidLooks := .later }
def UrlParseMatchesSpecCardSaid : Prop := Claim7.holds Tryz.pinned (.plain (OpenSpec.ofChange urlParseMatchesSpecSpec)) urlParseMatchesSpecCard

/-- THE TIED CARD OF 'hstsstorelaw15.UrlFunctionsMatchSpec'. -/
def urlFunctionsMatchSpecCard : Claim7 := { stood := { row := urlFunctionsMatchSpecRow, standIns := [], harness := (true, "69971bfb71aa019ecbcc593a3ce63a3ce19c238a97031de77be120f18f1c889e"), looks := true }, kinds := [], alts := [], laidByText := true, laidKinds := [.data, .data, .data, .data, .sentinel, .sentinel, .pinned], laidTests := true, laidLooks := .later }
def UrlFunctionsMatchSpecCardSaid : Prop := Claim7.holds Tryz.pinned (.plain (OpenSpec.ofChange urlFunctionsMatchSpecSpec)) urlFunctionsMatchSpecCard

/-- THE TIED CARD OF 'hstsstorelaw15.UrlRoundTrip'. -/
def urlRoundTripCard : Claim7 := { stood := { row := urlRoundTripRow, standIns := [], harness := (true, "69971bfb71aa019ecbcc593a3ce63a3ce19c238a97031de77be120f18f1c889e"), looks := true }, kinds := [], alts := [], laidByText := true, laidKinds := [.data, .data, .data, .data, .sentinel, .sentinel, .pinned], laidTests := true, laidLooks := .later }
def UrlRoundTripCardSaid : Prop := Claim7.holds Tryz.pinned (.plain (OpenSpec.ofChange urlRoundTripSpec)) urlRoundTripCard

/-- THE TIED CARD OF 'hstsstorelaw15.UrlUpgradeLaws'. -/
def urlUpgradeLawsCard : Claim7 := { stood := { row := urlUpgradeLawsRow, standIns := [], harness := (true, "69971bfb71aa019ecbcc593a3ce63a3ce19c238a97031de77be120f18f1c889e"), looks := true }, kinds := [], alts := [], laidByText := true, laidKinds := [.data, .data, .data, .data, .sentinel, .sentinel, .pinned], laidTests := true, laidLooks := .later }
def UrlUpgradeLawsCardSaid : Prop := Claim7.holds Tryz.pinned (.plain (OpenSpec.ofChange urlUpgradeLawsSpec)) urlUpgradeLawsCard

/-- THE TIED CARD OF 'hstsstorelaw15.UrlSchemeCase'. -/
def urlSchemeCaseCard : Claim7 := { stood := { row := urlSchemeCaseRow, standIns := [], harness := (true, "69971bfb71aa019ecbcc593a3ce63a3ce19c238a97031de77be120f18f1c889e"), looks := true }, kinds := [], alts := [], laidByText := true, laidKinds := [.data, .data, .data, .data, .sentinel, .sentinel, .pinned], laidTests := true, laidLooks := .later }
def UrlSchemeCaseCardSaid : Prop := Claim7.holds Tryz.pinned (.plain (OpenSpec.ofChange urlSchemeCaseSpec)) urlSchemeCaseCard

/-- THE SECOND FORM's CARD OF 'hstsstorelaw14.HostParseMatchesSpec'. -/
def hostParseMatchesSpecUptoCard : Claim7 := { stood := { row := hostParseMatchesSpecUptoRow, standIns := [], harness := (true, "69971bfb71aa019ecbcc593a3ce63a3ce19c238a97031de77be120f18f1c889e"), looks := true }, kinds := [], alts := [], laidByText := true, laidKinds := [.data, .data, .data, .data, .sentinel, .sentinel, .pinned], laidTests := true, laidLooks := .later }
def HostParseMatchesSpecUptoCardSaid : Prop := Claim7.holds Tryz.pinned (.plain (OpenSpec.upto hostParseMatchesSpecSpec)) hostParseMatchesSpecUptoCard

/-- THE SECOND FORM's CARD OF 'hstsstorelaw14.HostNamesMatchSpec'. -/
def hostNamesMatchSpecUptoCard : Claim7 := { stood := { row := hostNamesMatchSpecUptoRow, standIns := [], harness := (true, "69971bfb71aa019ecbcc593a3ce63a3ce19c238a97031de77be120f18f1c889e"), looks := true }, kinds := [], alts := [], laidByText := true, laidKinds := [.data, .data, .data, .data, .sentinel, .sentinel, .pinned], laidTests := true, laidLooks := .later }
def HostNamesMatchSpecUptoCardSaid : Prop := Claim7.holds Tryz.pinned (.plain (OpenSpec.upto hostNamesMatchSpecSpec)) hostNamesMatchSpecUptoCard

/-- THE SECOND FORM's CARD OF 'hstsstorelaw14.HostSpellings'. -/
def hostSpellingsUptoCard : Claim7 := { stood := { row := hostSpellingsUptoRow, standIns := [], harness := (true, "69971bfb71aa019ecbcc593a3ce63a3ce19c238a97031de77be120f18f1c889e"), looks := true }, kinds := [], alts := [], laidByText := true, laidKinds := [.data, .data, .data, .data, .sentinel, .sentinel, .pinned], laidTests := true, laidLooks := .later }
def HostSpellingsUptoCardSaid : Prop := Claim7.holds Tryz.pinned (.plain (OpenSpec.upto hostSpellingsSpec)) hostSpellingsUptoCard

/-- THE SECOND FORM's CARD OF 'hstsstorelaw14.HostSupersCover'. -/
def hostSupersCoverUptoCard : Claim7 := { stood := { row := hostSupersCoverUptoRow, standIns := [], harness := (true, "69971bfb71aa019ecbcc593a3ce63a3ce19c238a97031de77be120f18f1c889e"), looks := true }, kinds := [], alts := [], laidByText := true, laidKinds := [.data, .data, .data, .data, .sentinel, .sentinel, .pinned], laidTests := true, laidLooks := .later }
def HostSupersCoverUptoCardSaid : Prop := Claim7.holds Tryz.pinned (.plain (OpenSpec.upto hostSupersCoverSpec)) hostSupersCoverUptoCard

/-- THE SECOND FORM's CARD OF 'hstsstorelaw15.UrlParseMatchesSpec'. -/
def urlParseMatchesSpecUptoCard : Claim7 := { stood := { row := urlParseMatchesSpecUptoRow, standIns := [], harness := (true, "69971bfb71aa019ecbcc593a3ce63a3ce19c238a97031de77be120f18f1c889e"), looks := true }, kinds := [], alts := [], laidByText := true, laidKinds := [.data, .data, .data, .data, .sentinel, .sentinel, .pinned], laidTests := true, laidLooks := .later }
def UrlParseMatchesSpecUptoCardSaid : Prop := Claim7.holds Tryz.pinned (.plain (OpenSpec.upto urlParseMatchesSpecSpec)) urlParseMatchesSpecUptoCard

/-- THE SECOND FORM's CARD OF 'hstsstorelaw15.UrlFunctionsMatchSpec'. -/
def urlFunctionsMatchSpecUptoCard : Claim7 := { stood := { row := urlFunctionsMatchSpecUptoRow, standIns := [], harness := (true, "69971bfb71aa019ecbcc593a3ce63a3ce19c238a97031de77be120f18f1c889e"), looks := true }, kinds := [], alts := [], laidByText := true, laidKinds := [.data, .data, .data, .data, .sentinel, .sentinel, .pinned], laidTests := true, laidLooks := .later }
def UrlFunctionsMatchSpecUptoCardSaid : Prop := Claim7.holds Tryz.pinned (.plain (OpenSpec.upto urlFunctionsMatchSpecSpec)) urlFunctionsMatchSpecUptoCard

/-- THE SECOND FORM's CARD OF 'hstsstorelaw15.UrlRoundTrip'. -/
def urlRoundTripUptoCard : Claim7 := { stood := { row := urlRoundTripUptoRow, standIns := [], harness := (true, "69971bfb71aa019ecbcc593a3ce63a3ce19c238a97031de77be120f18f1c889e"), looks := true }, kinds := [], alts := [], laidByText := true, laidKinds := [.data, .data, .data, .data, .sentinel, .sentinel, .pinned], laidTests := true, laidLooks := .later }
def UrlRoundTripUptoCardSaid : Prop := Claim7.holds Tryz.pinned (.plain (OpenSpec.upto urlRoundTripSpec)) urlRoundTripUptoCard

/-- THE SECOND FORM's CARD OF 'hstsstorelaw15.UrlUpgradeLaws'. -/
def urlUpgradeLawsUptoCard : Claim7 := { stood := { row := urlUpgradeLawsUptoRow, standIns := [], harness := (true, "69971bfb71aa019ecbcc593a3ce63a3ce19c238a97031de77be120f18f1c889e"), looks := true }, kinds := [], alts := [], laidByText := true, laidKinds := [.data, .data, .data, .data, .sentinel, .sentinel, .pinned], laidTests := true, laidLooks := .later }
def UrlUpgradeLawsUptoCardSaid : Prop := Claim7.holds Tryz.pinned (.plain (OpenSpec.upto urlUpgradeLawsSpec)) urlUpgradeLawsUptoCard

/-- THE SECOND FORM's CARD OF 'hstsstorelaw15.UrlSchemeCase'. -/
def urlSchemeCaseUptoCard : Claim7 := { stood := { row := urlSchemeCaseUptoRow, standIns := [], harness := (true, "69971bfb71aa019ecbcc593a3ce63a3ce19c238a97031de77be120f18f1c889e"), looks := true }, kinds := [], alts := [], laidByText := true, laidKinds := [.data, .data, .data, .data, .sentinel, .sentinel, .pinned], laidTests := true, laidLooks := .later }
def UrlSchemeCaseUptoCardSaid : Prop := Claim7.holds Tryz.pinned (.plain (OpenSpec.upto urlSchemeCaseSpec)) urlSchemeCaseUptoCard
end Rows
end Go.Proofs.YtpccpgihldpiiaaGreatDoor
