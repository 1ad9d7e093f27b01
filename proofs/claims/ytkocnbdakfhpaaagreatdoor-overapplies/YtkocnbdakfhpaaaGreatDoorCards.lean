/-
  DERIVED. GIVEN WITH THE SEED: THE CARDS: each row of YtkocnbdakfhpaaaGreatDoorRows.lean that lists a variable, with what it lists TIED to the program's text (the seventh form; the later family's looks); each row that meets fmt, with fmt's text TOLD by the authors' own Lean function (tested against real Go, not proved from fmt's source: count such statements apart). THE CARD IS WHAT COUNTS. Prove the row's statement (the work); the ties are given (YtkocnbdakfhpaaaGreatDoorTie.lean); close each card by the builder's one call (the guide's Derived/Test/ToyasCard.lean, 'card_holds'). Laid BY PROGRAM, IN A SANDBOX (cutbox-door.mjs). By AI agents, Wed Nov 11 2026. No macro, syntax, notation, axiom, sorry.
-/
import Derived.Test.YtkocnbdakfhpaaaGreatDoorRows
import GoSem.ClaimSeven
namespace Go.Proofs.YtkocnbdakfhpaaaGreatDoor
namespace Rows

/-- THE TIED CARD OF 'oakumlaw07.PaxPairs'. -/
def paxPairsCard : Claim7 := { stood := { row := paxPairsRow, standIns := [], harness := (true, "d96d61aa1c9672c3e6bfc86a12e3e428df23009d0f0930cb4cc7dca931b2727a"), looks := true }, kinds := [], alts := [], laidByText := true, laidKinds := [.data, .data, .data, .sentinel, .sentinel], laidTests := true, laidLooks := .later }
def PaxPairsCardSaid : Prop := Claim7.holds Tryz.pinned (.plain (OpenSpec.ofChange paxPairsSpec)) paxPairsCard

/-- THE TIED CARD OF 'oakumlaw07.PaxPrints'. -/
def paxPrintsCard : Claim7 := { stood := { row := paxPrintsRow, standIns := [], harness := (true, "d96d61aa1c9672c3e6bfc86a12e3e428df23009d0f0930cb4cc7dca931b2727a"), looks := true }, kinds := [], alts := [], laidByText := true, laidKinds := [.data, .data, .data, .sentinel, .sentinel], laidTests := true, laidLooks := .later }
def PaxPrintsCardSaid : Prop := Claim7.holds Tryz.pinned (.plain (OpenSpec.ofChange paxPrintsSpec)) paxPrintsCard

/-- THE TIED CARD OF 'oakumlaw08.OverLays'. -/
def overLaysCard : Claim7 := { stood := { row := overLaysRow, standIns := [], harness := (true, "d96d61aa1c9672c3e6bfc86a12e3e428df23009d0f0930cb4cc7dca931b2727a"), looks := true }, kinds := [], alts := [], laidByText := true, laidKinds := [.data, .data, .data, .sentinel, .sentinel], laidTests := true, laidLooks := .later }
def OverLaysCardSaid : Prop := Claim7.holds Tryz.pinned (.plain (OpenSpec.ofChange overLaysSpec)) overLaysCard

/-- THE TIED CARD OF 'oakumlaw08.OverApplies'. -/
def overAppliesCard : Claim7 := { stood := { row := overAppliesRow, standIns := [], harness := (true, "d96d61aa1c9672c3e6bfc86a12e3e428df23009d0f0930cb4cc7dca931b2727a"), looks := true }, kinds := [], alts := [], laidByText := true, laidKinds := [.data, .data, .data, .sentinel, .sentinel], laidTests := true, laidLooks := .later }
def OverAppliesCardSaid : Prop := Claim7.holds Tryz.pinned (.plain (OpenSpec.ofChange overAppliesSpec)) overAppliesCard

/-- THE SECOND FORM's CARD OF 'oakumlaw07.PaxPairs'. -/
def paxPairsUptoCard : Claim7 := { stood := { row := paxPairsUptoRow, standIns := [], harness := (true, "d96d61aa1c9672c3e6bfc86a12e3e428df23009d0f0930cb4cc7dca931b2727a"), looks := true }, kinds := [], alts := [], laidByText := true, laidKinds := [.data, .data, .data, .sentinel, .sentinel], laidTests := true, laidLooks := .later }
def PaxPairsUptoCardSaid : Prop := Claim7.holds Tryz.pinned (.plain (OpenSpec.upto paxPairsSpec)) paxPairsUptoCard

/-- THE SECOND FORM's CARD OF 'oakumlaw07.PaxPrints'. -/
def paxPrintsUptoCard : Claim7 := { stood := { row := paxPrintsUptoRow, standIns := [], harness := (true, "d96d61aa1c9672c3e6bfc86a12e3e428df23009d0f0930cb4cc7dca931b2727a"), looks := true }, kinds := [], alts := [], laidByText := true, laidKinds := [.data, .data, .data, .sentinel, .sentinel], laidTests := true, laidLooks := .later }
def PaxPrintsUptoCardSaid : Prop := Claim7.holds Tryz.pinned (.plain (OpenSpec.upto paxPrintsSpec)) paxPrintsUptoCard

/-- THE SECOND FORM's CARD OF 'oakumlaw08.OverLays'. -/
def overLaysUptoCard : Claim7 := { stood := { row := overLaysUptoRow, standIns := [], harness := (true, "d96d61aa1c9672c3e6bfc86a12e3e428df23009d0f0930cb4cc7dca931b2727a"), looks := true }, kinds := [], alts := [], laidByText := true, laidKinds := [.data, .data, .data, .sentinel, .sentinel], laidTests := true, laidLooks := .later }
def OverLaysUptoCardSaid : Prop := Claim7.holds Tryz.pinned (.plain (OpenSpec.upto overLaysSpec)) overLaysUptoCard

/-- THE SECOND FORM's CARD OF 'oakumlaw08.OverApplies'. -/
def overAppliesUptoCard : Claim7 := { stood := { row := overAppliesUptoRow, standIns := [], harness := (true, "d96d61aa1c9672c3e6bfc86a12e3e428df23009d0f0930cb4cc7dca931b2727a"), looks := true }, kinds := [], alts := [], laidByText := true, laidKinds := [.data, .data, .data, .sentinel, .sentinel], laidTests := true, laidLooks := .later }
def OverAppliesUptoCardSaid : Prop := Claim7.holds Tryz.pinned (.plain (OpenSpec.upto overAppliesSpec)) overAppliesUptoCard
end Rows
end Go.Proofs.YtkocnbdakfhpaaaGreatDoor
