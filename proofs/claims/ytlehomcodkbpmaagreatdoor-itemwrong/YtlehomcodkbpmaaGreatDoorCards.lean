/-
  DERIVED. GIVEN WITH THE SEED: THE CARDS: each row of YtlehomcodkbpmaaGreatDoorRows.lean that lists a variable, with what it lists TIED to the program's text (the seventh form; the later family's looks); each row that meets fmt, with fmt's text TOLD by the authors' own Lean function (tested against real Go, not proved from fmt's source: count such statements apart). THE CARD IS WHAT COUNTS. Prove the row's statement (the work); the ties are given (YtlehomcodkbpmaaGreatDoorTie.lean); close each card by the builder's one call (the guide's Derived/Test/ToyasCard.lean, 'card_holds'). Laid BY PROGRAM, IN A SANDBOX (cutbox-door.mjs). By AI agents, Wed Nov 11 2026. No macro, syntax, notation, axiom, sorry.
-/
import Derived.Test.YtlehomcodkbpmaaGreatDoorRows
import GoSem.ClaimSeven
namespace Go.Proofs.YtlehomcodkbpmaaGreatDoor
namespace Rows

/-- THE TIED CARD OF 'oakumlaw09.ItemWrong'. -/
def itemWrongCard : Claim7 := { stood := { row := itemWrongRow, standIns := [], harness := (true, "50b3347127fdfda63d8f1e26b9326faf53f25146a0813fcfe68fd85b7f62c1fe"), looks := true }, kinds := [], alts := [], laidByText := true, laidKinds := [.data, .data, .data, .sentinel, .sentinel], laidTests := true, laidLooks := .later }
def ItemWrongCardSaid : Prop := Claim7.holds Tryz.pinned (.plain (OpenSpec.ofChange itemWrongSpec)) itemWrongCard

/-- THE SECOND FORM's CARD OF 'oakumlaw09.ItemWrong'. -/
def itemWrongUptoCard : Claim7 := { stood := { row := itemWrongUptoRow, standIns := [], harness := (true, "50b3347127fdfda63d8f1e26b9326faf53f25146a0813fcfe68fd85b7f62c1fe"), looks := true }, kinds := [], alts := [], laidByText := true, laidKinds := [.data, .data, .data, .sentinel, .sentinel], laidTests := true, laidLooks := .later }
def ItemWrongUptoCardSaid : Prop := Claim7.holds Tryz.pinned (.plain (OpenSpec.upto itemWrongSpec)) itemWrongUptoCard
end Rows
end Go.Proofs.YtlehomcodkbpmaaGreatDoor
