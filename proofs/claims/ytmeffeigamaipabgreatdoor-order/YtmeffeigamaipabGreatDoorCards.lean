/-
  DERIVED. GIVEN WITH THE SEED: THE CARDS: each row of YtmeffeigamaipabGreatDoorRows.lean that lists a variable, with what it lists TIED to the program's text (the seventh form; the later family's looks); each row that meets fmt, with fmt's text TOLD by the authors' own Lean function (tested against real Go, not proved from fmt's source: count such statements apart). THE CARD IS WHAT COUNTS. Prove the row's statement (the work); the ties are given (YtmeffeigamaipabGreatDoorTie.lean); close each card by the builder's one call (the guide's Derived/Test/ToyasCard.lean, 'card_holds'). Laid BY PROGRAM, IN A SANDBOX (cutbox-door.mjs). By AI agents, Wed Nov 11 2026. No macro, syntax, notation, axiom, sorry.
-/
import Derived.Test.YtmeffeigamaipabGreatDoorRows
import GoSem.ClaimSeven
namespace Go.Proofs.YtmeffeigamaipabGreatDoor
namespace Rows

/-- THE TIED CARD OF 'retagkeep.Order'. -/
def orderCard : Claim7 := { stood := { row := orderRow, standIns := [], harness := (true, "f8a0b26add0936dd8127610157215d5414f123328ca9205a2e60be64f90858ab"), looks := true }, kinds := [], alts := [], laidByText := true, laidKinds := [.data, .data, .data, .data, .sentinel, .sentinel, .sentinel, .data, .pinned], laidTests := true, laidLooks := .later }
def OrderCardSaid : Prop := Claim7.holds Tryz.pinned (.plain (OpenSpec.ofChange orderSpec)) orderCard

/-- THE TIED CARD OF 'retagkeep.Chain'. -/
def chainCard : Claim7 := { stood := { row := chainRow, standIns := [], harness := (true, "f8a0b26add0936dd8127610157215d5414f123328ca9205a2e60be64f90858ab"), looks := true }, kinds := [], alts := [], laidByText := true, laidKinds := [.data, .data, .data, .data, .sentinel, .sentinel, .sentinel, .data, .pinned], laidTests := true, laidLooks := .later }
def ChainCardSaid : Prop := Claim7.holds Tryz.pinned (.plain (OpenSpec.ofChange chainSpec)) chainCard

/-- THE TIED CARD OF 'retagkeep.Opposite'. -/
def oppositeCard : Claim7 := { stood := { row := oppositeRow, standIns := [], harness := (true, "f8a0b26add0936dd8127610157215d5414f123328ca9205a2e60be64f90858ab"), looks := true }, kinds := [], alts := [], laidByText := true, laidKinds := [.data, .data, .data, .data, .sentinel, .sentinel, .sentinel, .data, .pinned], laidTests := true, laidLooks := .later }
def OppositeCardSaid : Prop := Claim7.holds Tryz.pinned (.plain (OpenSpec.ofChange oppositeSpec)) oppositeCard

/-- THE TIED CARD OF 'retagkeep.Sets'. -/
def setsCard : Claim7 := { stood := { row := setsRow, standIns := [], harness := (true, "f8a0b26add0936dd8127610157215d5414f123328ca9205a2e60be64f90858ab"), looks := true }, kinds := [], alts := [], laidByText := true, laidKinds := [.data, .data, .data, .data, .sentinel, .sentinel, .sentinel, .data, .pinned], laidTests := true, laidLooks := .later }
def SetsCardSaid : Prop := Claim7.holds Tryz.pinned (.plain (OpenSpec.ofChange setsSpec)) setsCard

/-- THE TIED CARD OF 'retagkeep.Counts'. -/
def countsCard : Claim7 := { stood := { row := countsRow, standIns := [], harness := (true, "f8a0b26add0936dd8127610157215d5414f123328ca9205a2e60be64f90858ab"), looks := true }, kinds := [], alts := [], laidByText := true, laidKinds := [.data, .data, .data, .data, .sentinel, .sentinel, .sentinel, .data, .pinned], laidTests := true, laidLooks := .later }
def CountsCardSaid : Prop := Claim7.holds Tryz.pinned (.plain (OpenSpec.ofChange countsSpec)) countsCard

/-- THE TIED CARD OF 'retagkeep.Refused'. -/
def refusedCard : Claim7 := { stood := { row := refusedRow, standIns := [], harness := (true, "f8a0b26add0936dd8127610157215d5414f123328ca9205a2e60be64f90858ab"), looks := true }, kinds := [], alts := [], laidByText := true, laidKinds := [.data, .data, .data, .data, .sentinel, .sentinel, .sentinel, .data, .pinned], laidTests := true, laidLooks := .later }
def RefusedCardSaid : Prop := Claim7.holds Tryz.pinned (.plain (OpenSpec.ofChange refusedSpec)) refusedCard

/-- THE SECOND FORM's CARD OF 'retagkeep.Order'. -/
def orderUptoCard : Claim7 := { stood := { row := orderUptoRow, standIns := [], harness := (true, "f8a0b26add0936dd8127610157215d5414f123328ca9205a2e60be64f90858ab"), looks := true }, kinds := [], alts := [], laidByText := true, laidKinds := [.data, .data, .data, .data, .sentinel, .sentinel, .sentinel, .data, .pinned], laidTests := true, laidLooks := .later }
def OrderUptoCardSaid : Prop := Claim7.holds Tryz.pinned (.plain (OpenSpec.upto orderSpec)) orderUptoCard

/-- THE SECOND FORM's CARD OF 'retagkeep.Chain'. -/
def chainUptoCard : Claim7 := { stood := { row := chainUptoRow, standIns := [], harness := (true, "f8a0b26add0936dd8127610157215d5414f123328ca9205a2e60be64f90858ab"), looks := true }, kinds := [], alts := [], laidByText := true, laidKinds := [.data, .data, .data, .data, .sentinel, .sentinel, .sentinel, .data, .pinned], laidTests := true, laidLooks := .later }
def ChainUptoCardSaid : Prop := Claim7.holds Tryz.pinned (.plain (OpenSpec.upto chainSpec)) chainUptoCard

/-- THE SECOND FORM's CARD OF 'retagkeep.Opposite'. -/
def oppositeUptoCard : Claim7 := { stood := { row := oppositeUptoRow, standIns := [], harness := (true, "f8a0b26add0936dd8127610157215d5414f123328ca9205a2e60be64f90858ab"), looks := true }, kinds := [], alts := [], laidByText := true, laidKinds := [.data, .data, .data, .data, .sentinel, .sentinel, .sentinel, .data, .pinned], laidTests := true, laidLooks := .later }
def OppositeUptoCardSaid : Prop := Claim7.holds Tryz.pinned (.plain (OpenSpec.upto oppositeSpec)) oppositeUptoCard

/-- THE SECOND FORM's CARD OF 'retagkeep.Sets'. -/
def setsUptoCard : Claim7 := { stood := { row := setsUptoRow, standIns := [], harness := (true, "f8a0b26add0936dd8127610157215d5414f123328ca9205a2e60be64f90858ab"), looks := true }, kinds := [], alts := [], laidByText := true, laidKinds := [.data, .data, .data, .data, .sentinel, .sentinel, .sentinel, .data, .pinned], laidTests := true, laidLooks := .later }
def SetsUptoCardSaid : Prop := Claim7.holds Tryz.pinned (.plain (OpenSpec.upto setsSpec)) setsUptoCard

/-- THE SECOND FORM's CARD OF 'retagkeep.Counts'. -/
def countsUptoCard : Claim7 := { stood := { row := countsUptoRow, standIns := [], harness := (true, "f8a0b26add0936dd8127610157215d5414f123328ca9205a2e60be64f90858ab"), looks := true }, kinds := [], alts := [], laidByText := true, laidKinds := [.data, .data, .data, .data, .sentinel, .sentinel, .sentinel, .data, .pinned], laidTests := true, laidLooks := .later }
def CountsUptoCardSaid : Prop := Claim7.holds Tryz.pinned (.plain (OpenSpec.upto countsSpec)) countsUptoCard

/-- THE SECOND FORM's CARD OF 'retagkeep.Refused'. -/
def refusedUptoCard : Claim7 := { stood := { row := refusedUptoRow, standIns := [], harness := (true, "f8a0b26add0936dd8127610157215d5414f123328ca9205a2e60be64f90858ab"), looks := true }, kinds := [], alts := [], laidByText := true, laidKinds := [.data, .data, .data, .data, .sentinel, .sentinel, .sentinel, .data, .pinned], laidTests := true, laidLooks := .later }
def RefusedUptoCardSaid : Prop := Claim7.holds Tryz.pinned (.plain (OpenSpec.upto refusedSpec)) refusedUptoCard
end Rows
end Go.Proofs.YtmeffeigamaipabGreatDoor
