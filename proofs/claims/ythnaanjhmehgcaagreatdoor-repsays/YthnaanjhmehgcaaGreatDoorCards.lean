/-
  DERIVED. GIVEN WITH THE SEED: THE CARDS: each row of YthnaanjhmehgcaaGreatDoorRows.lean that lists a variable, with what it lists TIED to the program's text (the seventh form; the later family's looks); each row that meets fmt, with fmt's text TOLD by the authors' own Lean function (tested against real Go, not proved from fmt's source: count such statements apart). THE CARD IS WHAT COUNTS. Prove the row's statement (the work); the ties are given (YthnaanjhmehgcaaGreatDoorTie.lean); close each card by the builder's one call (the guide's Derived/Test/ToyasCard.lean, 'card_holds'). Laid BY PROGRAM, IN A SANDBOX (cutbox-door.mjs). By AI agents, Wed Nov 11 2026. No macro, syntax, notation, axiom, sorry.
-/
import Derived.Test.YthnaanjhmehgcaaGreatDoorRows
import GoSem.ClaimSeven
namespace Go.Proofs.YthnaanjhmehgcaaGreatDoor
namespace Rows

/-- THE TIED CARD OF 'oakumlaw11.RepFields'. -/
def repFieldsCard : Claim7 := { stood := { row := repFieldsRow, standIns := [], harness := (true, "fd41a390155c24d3b4d7b7fd777db7b57e82d3df774a7c33a7aa6b59699ceaa3"), looks := true }, kinds := [], alts := [], laidByText := true, laidKinds := [.data, .data, .data, .data, .sentinel, .sentinel, .pinned], laidTests := true, laidLooks := .later }
def RepFieldsCardSaid : Prop := Claim7.holds Tryz.pinned (.plain (OpenSpec.ofChange repFieldsSpec)) repFieldsCard

/-- THE TIED CARD OF 'oakumlaw11.RepRecords'. -/
def repRecordsCard : Claim7 := { stood := { row := repRecordsRow, standIns := [], harness := (true, "fd41a390155c24d3b4d7b7fd777db7b57e82d3df774a7c33a7aa6b59699ceaa3"), looks := true }, kinds := [], alts := [], laidByText := true, laidKinds := [.data, .data, .data, .data, .sentinel, .sentinel, .pinned], laidTests := true, laidLooks := .later }
def RepRecordsCardSaid : Prop := Claim7.holds Tryz.pinned (.plain (OpenSpec.ofChange repRecordsSpec)) repRecordsCard

/-- THE TIED CARD OF 'oakumlaw11.RepOrder'. -/
def repOrderCard : Claim7 := { stood := { row := repOrderRow, standIns := [], harness := (true, "fd41a390155c24d3b4d7b7fd777db7b57e82d3df774a7c33a7aa6b59699ceaa3"), looks := true }, kinds := [], alts := [], laidByText := true, laidKinds := [.data, .data, .data, .data, .sentinel, .sentinel, .pinned], laidTests := true, laidLooks := .later }
def RepOrderCardSaid : Prop := Claim7.holds Tryz.pinned (.plain (OpenSpec.ofChange repOrderSpec)) repOrderCard

/-- THE TIED CARD OF 'oakumlaw11.RepSays'. -/
def repSaysCard : Claim7 := { stood := { row := repSaysRow, standIns := [], harness := (true, "fd41a390155c24d3b4d7b7fd777db7b57e82d3df774a7c33a7aa6b59699ceaa3"), looks := true }, kinds := [], alts := [], laidByText := true, laidKinds := [.data, .data, .data, .data, .sentinel, .sentinel, .pinned], laidTests := true, laidLooks := .later }
def RepSaysCardSaid : Prop := Claim7.holds Tryz.pinned (.plain (OpenSpec.ofChange repSaysSpec)) repSaysCard

/-- THE SECOND FORM's CARD OF 'oakumlaw11.RepFields'. -/
def repFieldsUptoCard : Claim7 := { stood := { row := repFieldsUptoRow, standIns := [], harness := (true, "fd41a390155c24d3b4d7b7fd777db7b57e82d3df774a7c33a7aa6b59699ceaa3"), looks := true }, kinds := [], alts := [], laidByText := true, laidKinds := [.data, .data, .data, .data, .sentinel, .sentinel, .pinned], laidTests := true, laidLooks := .later }
def RepFieldsUptoCardSaid : Prop := Claim7.holds Tryz.pinned (.plain (OpenSpec.upto repFieldsSpec)) repFieldsUptoCard

/-- THE SECOND FORM's CARD OF 'oakumlaw11.RepRecords'. -/
def repRecordsUptoCard : Claim7 := { stood := { row := repRecordsUptoRow, standIns := [], harness := (true, "fd41a390155c24d3b4d7b7fd777db7b57e82d3df774a7c33a7aa6b59699ceaa3"), looks := true }, kinds := [], alts := [], laidByText := true, laidKinds := [.data, .data, .data, .data, .sentinel, .sentinel, .pinned], laidTests := true, laidLooks := .later }
def RepRecordsUptoCardSaid : Prop := Claim7.holds Tryz.pinned (.plain (OpenSpec.upto repRecordsSpec)) repRecordsUptoCard

/-- THE SECOND FORM's CARD OF 'oakumlaw11.RepOrder'. -/
def repOrderUptoCard : Claim7 := { stood := { row := repOrderUptoRow, standIns := [], harness := (true, "fd41a390155c24d3b4d7b7fd777db7b57e82d3df774a7c33a7aa6b59699ceaa3"), looks := true }, kinds := [], alts := [], laidByText := true, laidKinds := [.data, .data, .data, .data, .sentinel, .sentinel, .pinned], laidTests := true, laidLooks := .later }
def RepOrderUptoCardSaid : Prop := Claim7.holds Tryz.pinned (.plain (OpenSpec.upto repOrderSpec)) repOrderUptoCard

/-- THE SECOND FORM's CARD OF 'oakumlaw11.RepSays'. -/
def repSaysUptoCard : Claim7 := { stood := { row := repSaysUptoRow, standIns := [], harness := (true, "fd41a390155c24d3b4d7b7fd777db7b57e82d3df774a7c33a7aa6b59699ceaa3"), looks := true }, kinds := [], alts := [], laidByText := true, laidKinds := [.data, .data, .data, .data, .sentinel, .sentinel, .pinned], laidTests := true, laidLooks := .later }
def RepSaysUptoCardSaid : Prop := Claim7.holds Tryz.pinned (.plain (OpenSpec.upto repSaysSpec)) repSaysUptoCard
end Rows
end Go.Proofs.YthnaanjhmehgcaaGreatDoor
