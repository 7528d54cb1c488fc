/-
  DERIVED. GIVEN WITH THE SEED: THE CARDS: each row of YtklndjkblfncjaaGreatDoorRows.lean that lists a variable, with what it lists TIED to the program's text (the seventh form; the later family's looks); each row that meets fmt, with fmt's text TOLD by the authors' own Lean function (tested against real Go, not proved from fmt's source: count such statements apart). THE CARD IS WHAT COUNTS. Prove the row's statement (the work); the ties are given (YtklndjkblfncjaaGreatDoorTie.lean); close each card by the builder's one call (the guide's Derived/Test/ToyasCard.lean, 'card_holds'). Laid BY PROGRAM, IN A SANDBOX (cutbox-door.mjs). By AI agents, Wed Nov 11 2026. No macro, syntax, notation, axiom, sorry.
-/
import Derived.Test.YtklndjkblfncjaaGreatDoorRows
import GoSem.ClaimSeven
namespace Go.Proofs.YtklndjkblfncjaaGreatDoor
namespace Rows

/-- THE TIED CARD OF 'exactppllaw07.ValueRaw'. -/
def valueRawCard : Claim7 := { stood := { row := valueRawRow, standIns := [], harness := (true, "710dddd08a65a7a68b863fa1087e13c7bfc9ae844bcd3ab2df2a636f1242de31"), looks := false }, kinds := [], alts := [], laidByText := true, laidKinds := [.data, .data, .data], laidTests := true, laidLooks := .later }
def ValueRawCardSaid : Prop := Claim7.holds Tryz.pinned (.plain (OpenSpec.ofChange valueRawSpec)) valueRawCard

/-- THE TIED CARD OF 'exactppllaw07.ValueBuilt'. -/
def valueBuiltCard : Claim7 := { stood := { row := valueBuiltRow, standIns := [], harness := (true, "710dddd08a65a7a68b863fa1087e13c7bfc9ae844bcd3ab2df2a636f1242de31"), looks := false }, kinds := [], alts := [], laidByText := true, laidKinds := [.data, .data, .data], laidTests := true, laidLooks := .later }
def ValueBuiltCardSaid : Prop := Claim7.holds Tryz.pinned (.plain (OpenSpec.ofChange valueBuiltSpec)) valueBuiltCard

/-- THE SECOND FORM's CARD OF 'exactppllaw07.ValueRaw'. -/
def valueRawUptoCard : Claim7 := { stood := { row := valueRawUptoRow, standIns := [], harness := (true, "710dddd08a65a7a68b863fa1087e13c7bfc9ae844bcd3ab2df2a636f1242de31"), looks := false }, kinds := [], alts := [], laidByText := true, laidKinds := [.data, .data, .data], laidTests := true, laidLooks := .later }
def ValueRawUptoCardSaid : Prop := Claim7.holds Tryz.pinned (.plain (OpenSpec.upto valueRawSpec)) valueRawUptoCard

/-- THE SECOND FORM's CARD OF 'exactppllaw07.ValueBuilt'. -/
def valueBuiltUptoCard : Claim7 := { stood := { row := valueBuiltUptoRow, standIns := [], harness := (true, "710dddd08a65a7a68b863fa1087e13c7bfc9ae844bcd3ab2df2a636f1242de31"), looks := false }, kinds := [], alts := [], laidByText := true, laidKinds := [.data, .data, .data], laidTests := true, laidLooks := .later }
def ValueBuiltUptoCardSaid : Prop := Claim7.holds Tryz.pinned (.plain (OpenSpec.upto valueBuiltSpec)) valueBuiltUptoCard
end Rows
end Go.Proofs.YtklndjkblfncjaaGreatDoor
