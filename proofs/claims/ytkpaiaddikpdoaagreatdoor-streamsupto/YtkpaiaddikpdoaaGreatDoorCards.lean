/-
  DERIVED. GIVEN WITH THE SEED: THE CARDS: each row of YtkpaiaddikpdoaaGreatDoorRows.lean that lists a variable, with what it lists TIED to the program's text (the seventh form; the later family's looks); each row that meets fmt, with fmt's text TOLD by the authors' own Lean function (tested against real Go, not proved from fmt's source: count such statements apart). THE CARD IS WHAT COUNTS. Prove the row's statement (the work); the ties are given (YtkpaiaddikpdoaaGreatDoorTie.lean); close each card by the builder's one call (the guide's Derived/Test/ToyasCard.lean, 'card_holds'). Laid BY PROGRAM, IN A SANDBOX (cutbox-door.mjs). By AI agents, Wed Nov 11 2026. No macro, syntax, notation, axiom, sorry.
-/
import Derived.Test.YtkpaiaddikpdoaaGreatDoorRows
import GoSem.ClaimSeven
namespace Go.Proofs.YtkpaiaddikpdoaaGreatDoor
namespace Rows

/-- THE TIED CARD OF 'annalslaw.Streams'. -/
def streamsCard : Claim7 := { stood := { row := streamsRow, standIns := [], harness := (true, "876c61c9a6aac387ced5e8924255f324dea3fede2d0a414c9990973e7bf1c7a9"), looks := true }, kinds := [], alts := [], laidByText := true, laidKinds := [.handle, .data, .sentinel, .sentinel, .sentinel, .sentinel, .sentinel, .sentinel, .sentinel, .sentinel, .sentinel, .sentinel, .sentinel, .sentinel, .sentinel, .sentinel], laidTests := true, laidLooks := .later }
def StreamsCardSaid : Prop := Claim7.holds Tryz.pinned (.plain (OpenSpec.ofChange streamsSpec)) streamsCard

/-- THE SECOND FORM's CARD OF 'annalslaw.Streams'. -/
def streamsUptoCard : Claim7 := { stood := { row := streamsUptoRow, standIns := [], harness := (true, "876c61c9a6aac387ced5e8924255f324dea3fede2d0a414c9990973e7bf1c7a9"), looks := true }, kinds := [], alts := [], laidByText := true, laidKinds := [.handle, .data, .sentinel, .sentinel, .sentinel, .sentinel, .sentinel, .sentinel, .sentinel, .sentinel, .sentinel, .sentinel, .sentinel, .sentinel, .sentinel, .sentinel], laidTests := true, laidLooks := .later }
def StreamsUptoCardSaid : Prop := Claim7.holds Tryz.pinned (.plain (OpenSpec.upto streamsSpec)) streamsUptoCard
end Rows
end Go.Proofs.YtkpaiaddikpdoaaGreatDoor
