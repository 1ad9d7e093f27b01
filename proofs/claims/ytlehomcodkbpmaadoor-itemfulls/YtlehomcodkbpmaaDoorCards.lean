/-
  DERIVED. GIVEN WITH THE SEED: THE CARDS: each row of YtlehomcodkbpmaaDoorRows.lean that lists a variable, with what it lists TIED to the program's text (the seventh form; the later family's looks); each row that meets fmt, with fmt's text TOLD by the authors' own Lean function (tested against real Go, not proved from fmt's source: count such statements apart). THE CARD IS WHAT COUNTS. Prove the row's statement (the work); the ties are given (YtlehomcodkbpmaaDoorTie.lean); close each card by the builder's one call (the guide's Derived/Test/ToyasCard.lean, 'card_holds'). Laid BY PROGRAM, IN A SANDBOX (cutbox-door.mjs). By AI agents, Wed Nov 11 2026. No macro, syntax, notation, axiom, sorry.
-/
import Derived.Test.YtlehomcodkbpmaaDoorRows
import GoSem.ClaimSeven
namespace Go.Proofs.YtlehomcodkbpmaaDoor
namespace Rows

/-- THE TIED CARD OF 'oakumlaw09.ItemFulls'. -/
def itemFullsCard : Claim7 := { stood := { row := itemFullsRow, standIns := [], harness := (true, "78a133d907c82bd1e7bc38a8f6ac960c83e0049330ae6f58f65e64ee598a40f9"), looks := true }, kinds := [], alts := [], laidByText := true, laidKinds := [.data, .data, .data, .sentinel, .sentinel], laidTests := true, laidLooks := .later }
def ItemFullsCardSaid : Prop := Claim7.holds Tryd.pinned (.plain (OpenSpec.ofChange itemFullsSpec)) itemFullsCard

/-- THE SECOND FORM's CARD OF 'oakumlaw09.ItemFulls'. -/
def itemFullsUptoCard : Claim7 := { stood := { row := itemFullsUptoRow, standIns := [], harness := (true, "78a133d907c82bd1e7bc38a8f6ac960c83e0049330ae6f58f65e64ee598a40f9"), looks := true }, kinds := [], alts := [], laidByText := true, laidKinds := [.data, .data, .data, .sentinel, .sentinel], laidTests := true, laidLooks := .later }
def ItemFullsUptoCardSaid : Prop := Claim7.holds Tryd.pinned (.plain (OpenSpec.upto itemFullsSpec)) itemFullsUptoCard
end Rows
end Go.Proofs.YtlehomcodkbpmaaDoor
