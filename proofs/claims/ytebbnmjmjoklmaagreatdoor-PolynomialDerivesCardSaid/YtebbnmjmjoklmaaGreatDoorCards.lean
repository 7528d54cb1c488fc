/-
  DERIVED. GIVEN WITH THE SEED: THE CARDS: each row of YtebbnmjmjoklmaaGreatDoorRows.lean that lists a variable, with what it lists TIED to the program's text (the seventh form; the later family's looks); each row that meets fmt, with fmt's text TOLD by the authors' own Lean function (tested against real Go, not proved from fmt's source: count such statements apart). THE CARD IS WHAT COUNTS. Prove the row's statement (the work); the ties are given (YtebbnmjmjoklmaaGreatDoorTie.lean); close each card by the builder's one call (the guide's Derived/Test/ToyasCard.lean, 'card_holds'). Laid BY PROGRAM, IN A SANDBOX (cutbox-door.mjs). By AI agents, Wed Nov 11 2026. No macro, syntax, notation, axiom, sorry.
-/
import Derived.Test.YtebbnmjmjoklmaaGreatDoorRows
import GoSem.ClaimSeven
namespace Go.Proofs.YtebbnmjmjoklmaaGreatDoor
namespace Rows

/-- THE TIED CARD OF 'exactppllaw03.PolynomialRing'. -/
def polynomialRingCard : Claim7 := { stood := { row := polynomialRingRow, standIns := [], harness := (true, "c7d888fc3497af79adeba85c456ccd4244157de13d655c87e08dca17971238ac"), looks := false }, kinds := [], alts := [], laidByText := true, laidKinds := [.data, .data, .data, .data], laidTests := true, laidLooks := .later }
def PolynomialRingCardSaid : Prop := Claim7.holds Tryz.pinned (.plain (OpenSpec.ofChange polynomialRingSpec)) polynomialRingCard

/-- THE TIED CARD OF 'exactppllaw03.PolynomialDerives'. -/
def polynomialDerivesCard : Claim7 := { stood := { row := polynomialDerivesRow, standIns := [], harness := (true, "c7d888fc3497af79adeba85c456ccd4244157de13d655c87e08dca17971238ac"), looks := false }, kinds := [], alts := [], laidByText := true, laidKinds := [.data, .data, .data, .data], laidTests := true, laidLooks := .later }
def PolynomialDerivesCardSaid : Prop := Claim7.holds Tryz.pinned (.plain (OpenSpec.ofChange polynomialDerivesSpec)) polynomialDerivesCard

/-- THE SECOND FORM's CARD OF 'exactppllaw03.PolynomialRing'. -/
def polynomialRingUptoCard : Claim7 := { stood := { row := polynomialRingUptoRow, standIns := [], harness := (true, "c7d888fc3497af79adeba85c456ccd4244157de13d655c87e08dca17971238ac"), looks := false }, kinds := [], alts := [], laidByText := true, laidKinds := [.data, .data, .data, .data], laidTests := true, laidLooks := .later }
def PolynomialRingUptoCardSaid : Prop := Claim7.holds Tryz.pinned (.plain (OpenSpec.upto polynomialRingSpec)) polynomialRingUptoCard

/-- THE SECOND FORM's CARD OF 'exactppllaw03.PolynomialDerives'. -/
def polynomialDerivesUptoCard : Claim7 := { stood := { row := polynomialDerivesUptoRow, standIns := [], harness := (true, "c7d888fc3497af79adeba85c456ccd4244157de13d655c87e08dca17971238ac"), looks := false }, kinds := [], alts := [], laidByText := true, laidKinds := [.data, .data, .data, .data], laidTests := true, laidLooks := .later }
def PolynomialDerivesUptoCardSaid : Prop := Claim7.holds Tryz.pinned (.plain (OpenSpec.upto polynomialDerivesSpec)) polynomialDerivesUptoCard
end Rows
end Go.Proofs.YtebbnmjmjoklmaaGreatDoor
