/-
  DERIVED. GIVEN WITH THE SEED: THE CARDS: each row of YtkocnbdakfhpaaaDoorRows.lean that lists a variable, with what it lists TIED to the program's text (the seventh form; the later family's looks); each row that meets fmt, with fmt's text TOLD by the authors' own Lean function (tested against real Go, not proved from fmt's source: count such statements apart). THE CARD IS WHAT COUNTS. Prove the row's statement (the work); the ties are given (YtkocnbdakfhpaaaDoorTie.lean); close each card by the builder's one call (the guide's Derived/Test/ToyasCard.lean, 'card_holds'). Laid BY PROGRAM, IN A SANDBOX (cutbox-door.mjs). By AI agents, Wed Nov 11 2026. No macro, syntax, notation, axiom, sorry.
-/
import Derived.Test.YtkocnbdakfhpaaaDoorRows
import GoSem.ClaimSeven
namespace Go.Proofs.YtkocnbdakfhpaaaDoor
namespace Rows

/-- THE TIED CARD OF 'oakumlaw07.PaxParses'. -/
def paxParsesCard : Claim7 := { stood := { row := paxParsesRow, standIns := [], harness := (true, "d8285fd2a88fc68c92d1cbe8473cb3e50481faaec6baf78d181a53177a76ad3a"), looks := true }, kinds := [], alts := [], laidByText := true, laidKinds := [.data, .data, .data, .sentinel, .sentinel], laidTests := true, laidLooks := .later }
def PaxParsesCardSaid : Prop := Claim7.holds Tryd.pinned (.plain (OpenSpec.ofChange paxParsesSpec)) paxParsesCard

/-- THE TIED CARD OF 'oakumlaw07.PaxBack'. -/
def paxBackCard : Claim7 := { stood := { row := paxBackRow, standIns := [], harness := (true, "d8285fd2a88fc68c92d1cbe8473cb3e50481faaec6baf78d181a53177a76ad3a"), looks := true }, kinds := [], alts := [], laidByText := true, laidKinds := [.data, .data, .data, .sentinel, .sentinel], laidTests := true, laidLooks := .later }
def PaxBackCardSaid : Prop := Claim7.holds Tryd.pinned (.plain (OpenSpec.ofChange paxBackSpec)) paxBackCard

/-- THE TIED CARD OF 'oakumlaw08.OverAgain'. -/
def overAgainCard : Claim7 := { stood := { row := overAgainRow, standIns := [], harness := (true, "d8285fd2a88fc68c92d1cbe8473cb3e50481faaec6baf78d181a53177a76ad3a"), looks := true }, kinds := [], alts := [], laidByText := true, laidKinds := [.data, .data, .data, .sentinel, .sentinel], laidTests := true, laidLooks := .later }
def OverAgainCardSaid : Prop := Claim7.holds Tryd.pinned (.plain (OpenSpec.ofChange overAgainSpec)) overAgainCard

/-- THE SECOND FORM's CARD OF 'oakumlaw07.PaxParses'. -/
def paxParsesUptoCard : Claim7 := { stood := { row := paxParsesUptoRow, standIns := [], harness := (true, "d8285fd2a88fc68c92d1cbe8473cb3e50481faaec6baf78d181a53177a76ad3a"), looks := true }, kinds := [], alts := [], laidByText := true, laidKinds := [.data, .data, .data, .sentinel, .sentinel], laidTests := true, laidLooks := .later }
def PaxParsesUptoCardSaid : Prop := Claim7.holds Tryd.pinned (.plain (OpenSpec.upto paxParsesSpec)) paxParsesUptoCard

/-- THE SECOND FORM's CARD OF 'oakumlaw07.PaxBack'. -/
def paxBackUptoCard : Claim7 := { stood := { row := paxBackUptoRow, standIns := [], harness := (true, "d8285fd2a88fc68c92d1cbe8473cb3e50481faaec6baf78d181a53177a76ad3a"), looks := true }, kinds := [], alts := [], laidByText := true, laidKinds := [.data, .data, .data, .sentinel, .sentinel], laidTests := true, laidLooks := .later }
def PaxBackUptoCardSaid : Prop := Claim7.holds Tryd.pinned (.plain (OpenSpec.upto paxBackSpec)) paxBackUptoCard

/-- THE SECOND FORM's CARD OF 'oakumlaw08.OverAgain'. -/
def overAgainUptoCard : Claim7 := { stood := { row := overAgainUptoRow, standIns := [], harness := (true, "d8285fd2a88fc68c92d1cbe8473cb3e50481faaec6baf78d181a53177a76ad3a"), looks := true }, kinds := [], alts := [], laidByText := true, laidKinds := [.data, .data, .data, .sentinel, .sentinel], laidTests := true, laidLooks := .later }
def OverAgainUptoCardSaid : Prop := Claim7.holds Tryd.pinned (.plain (OpenSpec.upto overAgainSpec)) overAgainUptoCard
end Rows
end Go.Proofs.YtkocnbdakfhpaaaDoor
