/-
  DERIVED. GIVEN WITH THE SEED: THE CARDS: each row of YtcbiidoebpkifaaGreatDoorRows.lean that lists a variable, with what it lists TIED to the program's text (the seventh form; the later family's looks); each row that meets fmt, with fmt's text TOLD by the authors' own Lean function (tested against real Go, not proved from fmt's source: count such statements apart). THE CARD IS WHAT COUNTS. Prove the row's statement (the work); the ties are given (YtcbiidoebpkifaaGreatDoorTie.lean); close each card by the builder's one call (the guide's Derived/Test/ToyasCard.lean, 'card_holds'). Laid BY PROGRAM, IN A SANDBOX (cutbox-door.mjs). By AI agents, Wed Nov 11 2026. No macro, syntax, notation, axiom, sorry.
-/
import Derived.Test.YtcbiidoebpkifaaGreatDoorRows
import GoSem.ClaimSeven
namespace Go.Proofs.YtcbiidoebpkifaaGreatDoor
namespace Rows

/-- THE TIED CARD OF 'retagkeep.Greedy'. -/
def greedyCard : Claim7 := { stood := { row := greedyRow, standIns := [], harness := (true, "eab6ab8d890aa7261abdf91d1177bcdf307a4379b587c2c9f1979f250018a561"), looks := true }, kinds := [], alts := [], laidByText := true, laidKinds := [.data, .data, .data, .data, .sentinel, .sentinel, .sentinel, .pinned], laidTests := true, laidLooks := .later }
def GreedyCardSaid : Prop := Claim7.holds Tryz.pinned (.plain (OpenSpec.ofChange greedySpec)) greedyCard

/-- THE TIED CARD OF 'retagkeep.Sorted'. -/
def sortedCard : Claim7 := { stood := { row := sortedRow, standIns := [], harness := (true, "eab6ab8d890aa7261abdf91d1177bcdf307a4379b587c2c9f1979f250018a561"), looks := true }, kinds := [], alts := [], laidByText := true, laidKinds := [.data, .data, .data, .data, .sentinel, .sentinel, .sentinel, .data, .pinned], laidTests := true, laidLooks := .later }
def SortedCardSaid : Prop := Claim7.holds Tryz.pinned (.plain (OpenSpec.ofChange sortedSpec)) sortedCard

/-- THE SECOND FORM's CARD OF 'retagkeep.Greedy'. -/
def greedyUptoCard : Claim7 := { stood := { row := greedyUptoRow, standIns := [], harness := (true, "eab6ab8d890aa7261abdf91d1177bcdf307a4379b587c2c9f1979f250018a561"), looks := true }, kinds := [], alts := [], laidByText := true, laidKinds := [.data, .data, .data, .data, .sentinel, .sentinel, .sentinel, .pinned], laidTests := true, laidLooks := .later }
def GreedyUptoCardSaid : Prop := Claim7.holds Tryz.pinned (.plain (OpenSpec.upto greedySpec)) greedyUptoCard

/-- THE SECOND FORM's CARD OF 'retagkeep.Sorted'. -/
def sortedUptoCard : Claim7 := { stood := { row := sortedUptoRow, standIns := [], harness := (true, "eab6ab8d890aa7261abdf91d1177bcdf307a4379b587c2c9f1979f250018a561"), looks := true }, kinds := [], alts := [], laidByText := true, laidKinds := [.data, .data, .data, .data, .sentinel, .sentinel, .sentinel, .data, .pinned], laidTests := true, laidLooks := .later }
def SortedUptoCardSaid : Prop := Claim7.holds Tryz.pinned (.plain (OpenSpec.upto sortedSpec)) sortedUptoCard
end Rows
end Go.Proofs.YtcbiidoebpkifaaGreatDoor
