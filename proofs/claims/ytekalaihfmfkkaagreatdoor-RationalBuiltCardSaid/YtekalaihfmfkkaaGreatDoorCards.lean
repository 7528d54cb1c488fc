/-
  DERIVED. GIVEN WITH THE SEED: THE CARDS: each row of YtekalaihfmfkkaaGreatDoorRows.lean that lists a variable, with what it lists TIED to the program's text (the seventh form; the later family's looks); each row that meets fmt, with fmt's text TOLD by the authors' own Lean function (tested against real Go, not proved from fmt's source: count such statements apart). THE CARD IS WHAT COUNTS. Prove the row's statement (the work); the ties are given (YtekalaihfmfkkaaGreatDoorTie.lean); close each card by the builder's one call (the guide's Derived/Test/ToyasCard.lean, 'card_holds'). Laid BY PROGRAM, IN A SANDBOX (cutbox-door.mjs). By AI agents, Wed Nov 11 2026. No macro, syntax, notation, axiom, sorry.
-/
import Derived.Test.YtekalaihfmfkkaaGreatDoorRows
import GoSem.ClaimSeven
namespace Go.Proofs.YtekalaihfmfkkaaGreatDoor
namespace Rows

/-- THE TIED CARD OF 'exactppllaw02.RationalRaw'. -/
def rationalRawCard : Claim7 := { stood := { row := rationalRawRow, standIns := [], harness := (true, "7a037ee00e01ad3761de22489ed0631752a1d1c2cd9fe654d6218df5c281bc85"), looks := true }, kinds := [], alts := [], laidByText := true, laidKinds := [.data], laidTests := true, laidLooks := .later }
def RationalRawCardSaid : Prop := Claim7.holds Tryz.pinned (.plain (OpenSpec.ofChange rationalRawSpec)) rationalRawCard

/-- THE TIED CARD OF 'exactppllaw02.RationalBuilt'. -/
def rationalBuiltCard : Claim7 := { stood := { row := rationalBuiltRow, standIns := [], harness := (true, "7a037ee00e01ad3761de22489ed0631752a1d1c2cd9fe654d6218df5c281bc85"), looks := true }, kinds := [], alts := [], laidByText := true, laidKinds := [.data], laidTests := true, laidLooks := .later }
def RationalBuiltCardSaid : Prop := Claim7.holds Tryz.pinned (.plain (OpenSpec.ofChange rationalBuiltSpec)) rationalBuiltCard

/-- THE TIED CARD OF 'exactppllaw03.PolynomialRaw'. -/
def polynomialRawCard : Claim7 := { stood := { row := polynomialRawRow, standIns := [], harness := (true, "7a037ee00e01ad3761de22489ed0631752a1d1c2cd9fe654d6218df5c281bc85"), looks := true }, kinds := [], alts := [], laidByText := true, laidKinds := [.data, .data, .data, .data], laidTests := true, laidLooks := .later }
def PolynomialRawCardSaid : Prop := Claim7.holds Tryz.pinned (.plain (OpenSpec.ofChange polynomialRawSpec)) polynomialRawCard

/-- THE TIED CARD OF 'exactppllaw03.PolynomialBuilt'. -/
def polynomialBuiltCard : Claim7 := { stood := { row := polynomialBuiltRow, standIns := [], harness := (true, "7a037ee00e01ad3761de22489ed0631752a1d1c2cd9fe654d6218df5c281bc85"), looks := true }, kinds := [], alts := [], laidByText := true, laidKinds := [.data, .data, .data, .data], laidTests := true, laidLooks := .later }
def PolynomialBuiltCardSaid : Prop := Claim7.holds Tryz.pinned (.plain (OpenSpec.ofChange polynomialBuiltSpec)) polynomialBuiltCard

/-- THE TIED CARD OF 'exactppllaw03.PolynomialRing'. -/
def polynomialRingCard : Claim7 := { stood := { row := polynomialRingRow, standIns := [], harness := (true, "7a037ee00e01ad3761de22489ed0631752a1d1c2cd9fe654d6218df5c281bc85"), looks := true }, kinds := [], alts := [], laidByText := true, laidKinds := [.data, .data, .data, .data], laidTests := true, laidLooks := .later }
def PolynomialRingCardSaid : Prop := Claim7.holds Tryz.pinned (.plain (OpenSpec.ofChange polynomialRingSpec)) polynomialRingCard

/-- THE TIED CARD OF 'exactppllaw03.PolynomialEvaluates'. -/
def polynomialEvaluatesCard : Claim7 := { stood := { row := polynomialEvaluatesRow, standIns := [], harness := (true, "7a037ee00e01ad3761de22489ed0631752a1d1c2cd9fe654d6218df5c281bc85"), looks := true }, kinds := [], alts := [], laidByText := true, laidKinds := [.data, .data, .data, .data], laidTests := true, laidLooks := .later }
def PolynomialEvaluatesCardSaid : Prop := Claim7.holds Tryz.pinned (.plain (OpenSpec.ofChange polynomialEvaluatesSpec)) polynomialEvaluatesCard

/-- THE TIED CARD OF 'exactppllaw03.PolynomialDerives'. -/
def polynomialDerivesCard : Claim7 := { stood := { row := polynomialDerivesRow, standIns := [], harness := (true, "7a037ee00e01ad3761de22489ed0631752a1d1c2cd9fe654d6218df5c281bc85"), looks := true }, kinds := [], alts := [], laidByText := true, laidKinds := [.data, .data, .data, .data], laidTests := true, laidLooks := .later }
def PolynomialDerivesCardSaid : Prop := Claim7.holds Tryz.pinned (.plain (OpenSpec.ofChange polynomialDerivesSpec)) polynomialDerivesCard

/-- THE TIED CARD OF 'exactppllaw03.PolynomialCoefs'. -/
def polynomialCoefsCard : Claim7 := { stood := { row := polynomialCoefsRow, standIns := [], harness := (true, "7a037ee00e01ad3761de22489ed0631752a1d1c2cd9fe654d6218df5c281bc85"), looks := true }, kinds := [], alts := [], laidByText := true, laidKinds := [.data, .data, .data, .data], laidTests := true, laidLooks := .later }
def PolynomialCoefsCardSaid : Prop := Claim7.holds Tryz.pinned (.plain (OpenSpec.ofChange polynomialCoefsSpec)) polynomialCoefsCard

/-- THE TIED CARD OF 'exactppllaw03.PolynomialDivides'. -/
def polynomialDividesCard : Claim7 := { stood := { row := polynomialDividesRow, standIns := [], harness := (true, "7a037ee00e01ad3761de22489ed0631752a1d1c2cd9fe654d6218df5c281bc85"), looks := true }, kinds := [], alts := [], laidByText := true, laidKinds := [.data, .data, .data, .data], laidTests := true, laidLooks := .later }
def PolynomialDividesCardSaid : Prop := Claim7.holds Tryz.pinned (.plain (OpenSpec.ofChange polynomialDividesSpec)) polynomialDividesCard

/-- THE TIED CARD OF 'exactppllaw03.PolynomialLimits'. -/
def polynomialLimitsCard : Claim7 := { stood := { row := polynomialLimitsRow, standIns := [], harness := (true, "7a037ee00e01ad3761de22489ed0631752a1d1c2cd9fe654d6218df5c281bc85"), looks := true }, kinds := [], alts := [], laidByText := true, laidKinds := [.data, .data, .data, .data], laidTests := true, laidLooks := .later }
def PolynomialLimitsCardSaid : Prop := Claim7.holds Tryz.pinned (.plain (OpenSpec.ofChange polynomialLimitsSpec)) polynomialLimitsCard

/-- THE SECOND FORM's CARD OF 'exactppllaw02.RationalRaw'. -/
def rationalRawUptoCard : Claim7 := { stood := { row := rationalRawUptoRow, standIns := [], harness := (true, "7a037ee00e01ad3761de22489ed0631752a1d1c2cd9fe654d6218df5c281bc85"), looks := true }, kinds := [], alts := [], laidByText := true, laidKinds := [.data], laidTests := true, laidLooks := .later }
def RationalRawUptoCardSaid : Prop := Claim7.holds Tryz.pinned (.plain (OpenSpec.upto rationalRawSpec)) rationalRawUptoCard

/-- THE SECOND FORM's CARD OF 'exactppllaw02.RationalBuilt'. -/
def rationalBuiltUptoCard : Claim7 := { stood := { row := rationalBuiltUptoRow, standIns := [], harness := (true, "7a037ee00e01ad3761de22489ed0631752a1d1c2cd9fe654d6218df5c281bc85"), looks := true }, kinds := [], alts := [], laidByText := true, laidKinds := [.data], laidTests := true, laidLooks := .later }
def RationalBuiltUptoCardSaid : Prop := Claim7.holds Tryz.pinned (.plain (OpenSpec.upto rationalBuiltSpec)) rationalBuiltUptoCard

/-- THE SECOND FORM's CARD OF 'exactppllaw03.PolynomialRaw'. -/
def polynomialRawUptoCard : Claim7 := { stood := { row := polynomialRawUptoRow, standIns := [], harness := (true, "7a037ee00e01ad3761de22489ed0631752a1d1c2cd9fe654d6218df5c281bc85"), looks := true }, kinds := [], alts := [], laidByText := true, laidKinds := [.data, .data, .data, .data], laidTests := true, laidLooks := .later }
def PolynomialRawUptoCardSaid : Prop := Claim7.holds Tryz.pinned (.plain (OpenSpec.upto polynomialRawSpec)) polynomialRawUptoCard

/-- THE SECOND FORM's CARD OF 'exactppllaw03.PolynomialBuilt'. -/
def polynomialBuiltUptoCard : Claim7 := { stood := { row := polynomialBuiltUptoRow, standIns := [], harness := (true, "7a037ee00e01ad3761de22489ed0631752a1d1c2cd9fe654d6218df5c281bc85"), looks := true }, kinds := [], alts := [], laidByText := true, laidKinds := [.data, .data, .data, .data], laidTests := true, laidLooks := .later }
def PolynomialBuiltUptoCardSaid : Prop := Claim7.holds Tryz.pinned (.plain (OpenSpec.upto polynomialBuiltSpec)) polynomialBuiltUptoCard

/-- THE SECOND FORM's CARD OF 'exactppllaw03.PolynomialRing'. -/
def polynomialRingUptoCard : Claim7 := { stood := { row := polynomialRingUptoRow, standIns := [], harness := (true, "7a037ee00e01ad3761de22489ed0631752a1d1c2cd9fe654d6218df5c281bc85"), looks := true }, kinds := [], alts := [], laidByText := true, laidKinds := [.data, .data, .data, .data], laidTests := true, laidLooks := .later }
def PolynomialRingUptoCardSaid : Prop := Claim7.holds Tryz.pinned (.plain (OpenSpec.upto polynomialRingSpec)) polynomialRingUptoCard

/-- THE SECOND FORM's CARD OF 'exactppllaw03.PolynomialEvaluates'. -/
def polynomialEvaluatesUptoCard : Claim7 := { stood := { row := polynomialEvaluatesUptoRow, standIns := [], harness := (true, "7a037ee00e01ad3761de22489ed0631752a1d1c2cd9fe654d6218df5c281bc85"), looks := true }, kinds := [], alts := [], laidByText := true, laidKinds := [.data, .data, .data, .data], laidTests := true, laidLooks := .later }
def PolynomialEvaluatesUptoCardSaid : Prop := Claim7.holds Tryz.pinned (.plain (OpenSpec.upto polynomialEvaluatesSpec)) polynomialEvaluatesUptoCard

/-- THE SECOND FORM's CARD OF 'exactppllaw03.PolynomialDerives'. -/
def polynomialDerivesUptoCard : Claim7 := { stood := { row := polynomialDerivesUptoRow, standIns := [], harness := (true, "7a037ee00e01ad3761de22489ed0631752a1d1c2cd9fe654d6218df5c281bc85"), looks := true }, kinds := [], alts := [], laidByText := true, laidKinds := [.data, .data, .data, .data], laidTests := true, laidLooks := .later }
def PolynomialDerivesUptoCardSaid : Prop := Claim7.holds Tryz.pinned (.plain (OpenSpec.upto polynomialDerivesSpec)) polynomialDerivesUptoCard

/-- THE SECOND FORM's CARD OF 'exactppllaw03.PolynomialCoefs'. -/
def polynomialCoefsUptoCard : Claim7 := { stood := { row := polynomialCoefsUptoRow, standIns := [], harness := (true, "7a037ee00e01ad3761de22489ed0631752a1d1c2cd9fe654d6218df5c281bc85"), looks := true }, kinds := [], alts := [], laidByText := true, laidKinds := [.data, .data, .data, .data], laidTests := true, laidLooks := .later }
def PolynomialCoefsUptoCardSaid : Prop := Claim7.holds Tryz.pinned (.plain (OpenSpec.upto polynomialCoefsSpec)) polynomialCoefsUptoCard

/-- THE SECOND FORM's CARD OF 'exactppllaw03.PolynomialDivides'. -/
def polynomialDividesUptoCard : Claim7 := { stood := { row := polynomialDividesUptoRow, standIns := [], harness := (true, "7a037ee00e01ad3761de22489ed0631752a1d1c2cd9fe654d6218df5c281bc85"), looks := true }, kinds := [], alts := [], laidByText := true, laidKinds := [.data, .data, .data, .data], laidTests := true, laidLooks := .later }
def PolynomialDividesUptoCardSaid : Prop := Claim7.holds Tryz.pinned (.plain (OpenSpec.upto polynomialDividesSpec)) polynomialDividesUptoCard

/-- THE SECOND FORM's CARD OF 'exactppllaw03.PolynomialLimits'. -/
def polynomialLimitsUptoCard : Claim7 := { stood := { row := polynomialLimitsUptoRow, standIns := [], harness := (true, "7a037ee00e01ad3761de22489ed0631752a1d1c2cd9fe654d6218df5c281bc85"), looks := true }, kinds := [], alts := [], laidByText := true, laidKinds := [.data, .data, .data, .data], laidTests := true, laidLooks := .later }
def PolynomialLimitsUptoCardSaid : Prop := Claim7.holds Tryz.pinned (.plain (OpenSpec.upto polynomialLimitsSpec)) polynomialLimitsUptoCard
end Rows
end Go.Proofs.YtekalaihfmfkkaaGreatDoor
