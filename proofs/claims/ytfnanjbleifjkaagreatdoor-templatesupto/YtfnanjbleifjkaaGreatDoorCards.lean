/-
  DERIVED. GIVEN WITH THE SEED: THE CARDS: each row of YtfnanjbleifjkaaGreatDoorRows.lean that lists a variable, with what it lists TIED to the program's text (the seventh form; the later family's looks); each row that meets fmt, with fmt's text TOLD by the authors' own Lean function (tested against real Go, not proved from fmt's source: count such statements apart). THE CARD IS WHAT COUNTS. Prove the row's statement (the work); the ties are given (YtfnanjbleifjkaaGreatDoorTie.lean); close each card by the builder's one call (the guide's Derived/Test/ToyasCard.lean, 'card_holds'). Laid BY PROGRAM, IN A SANDBOX (cutbox-door.mjs). By AI agents, Wed Nov 11 2026. No macro, syntax, notation, axiom, sorry.
-/
import Derived.Test.YtfnanjbleifjkaaGreatDoorRows
import GoSem.ClaimSeven
namespace Go.Proofs.YtfnanjbleifjkaaGreatDoor
namespace Rows

/-- THE TIED CARD OF 'retaglaw.Matches'. -/
def matchesCard : Claim7 := { stood := { row := matchesRow, standIns := [], harness := (true, "7bfe5564242db6f026efb14216373fcef16fa9ac5ac40b4b2ae1b0a02e11154f"), looks := true }, kinds := [], alts := [], laidByText := true, laidKinds := [.data, .sentinel, .pinned], laidTests := true, laidLooks := .later }
def MatchesCardSaid : Prop := Claim7.holds Tryz.pinned (.plain (OpenSpec.ofChange matchesSpec)) matchesCard

/-- THE TIED CARD OF 'retaglaw.Templates'. -/
def templatesCard : Claim7 := { stood := { row := templatesRow, standIns := [], harness := (true, "7bfe5564242db6f026efb14216373fcef16fa9ac5ac40b4b2ae1b0a02e11154f"), looks := true }, kinds := [], alts := [], laidByText := true, laidKinds := [.data, .data, .data, .data, .sentinel, .sentinel, .sentinel, .pinned], laidTests := true, laidLooks := .later }
def TemplatesCardSaid : Prop := Claim7.holds Tryz.pinned (.plain (OpenSpec.ofChange templatesSpec)) templatesCard

/-- THE TIED CARD OF 'retaglaw.One'. -/
def oneCard : Claim7 := { stood := { row := oneRow, standIns := [], harness := (true, "7bfe5564242db6f026efb14216373fcef16fa9ac5ac40b4b2ae1b0a02e11154f"), looks := true }, kinds := [], alts := [], laidByText := true, laidKinds := [.data, .data, .data, .data, .sentinel, .sentinel, .sentinel, .data, .pinned], laidTests := true, laidLooks := .later }
def OneCardSaid : Prop := Claim7.holds Tryz.pinned (.plain (OpenSpec.ofChange oneSpec)) oneCard

/-- THE TIED CARD OF 'retaglaw.Remembers'. -/
def remembersCard : Claim7 := { stood := { row := remembersRow, standIns := [], harness := (true, "7bfe5564242db6f026efb14216373fcef16fa9ac5ac40b4b2ae1b0a02e11154f"), looks := true }, kinds := [], alts := [], laidByText := true, laidKinds := [.data, .data, .data, .data, .sentinel, .sentinel, .sentinel, .data, .pinned], laidTests := true, laidLooks := .later }
def RemembersCardSaid : Prop := Claim7.holds Tryz.pinned (.plain (OpenSpec.ofChange remembersSpec)) remembersCard

/-- THE TIED CARD OF 'retaglaw.All'. -/
def allCard : Claim7 := { stood := { row := allRow, standIns := [], harness := (true, "7bfe5564242db6f026efb14216373fcef16fa9ac5ac40b4b2ae1b0a02e11154f"), looks := true }, kinds := [], alts := [], laidByText := true, laidKinds := [.data, .data, .data, .data, .sentinel, .sentinel, .sentinel, .data, .pinned], laidTests := true, laidLooks := .later }
def AllCardSaid : Prop := Claim7.holds Tryz.pinned (.plain (OpenSpec.ofChange allSpec)) allCard

/-- THE SECOND FORM's CARD OF 'retaglaw.Matches'. -/
def matchesUptoCard : Claim7 := { stood := { row := matchesUptoRow, standIns := [], harness := (true, "7bfe5564242db6f026efb14216373fcef16fa9ac5ac40b4b2ae1b0a02e11154f"), looks := true }, kinds := [], alts := [], laidByText := true, laidKinds := [.data, .sentinel, .pinned], laidTests := true, laidLooks := .later }
def MatchesUptoCardSaid : Prop := Claim7.holds Tryz.pinned (.plain (OpenSpec.upto matchesSpec)) matchesUptoCard

/-- THE SECOND FORM's CARD OF 'retaglaw.Templates'. -/
def templatesUptoCard : Claim7 := { stood := { row := templatesUptoRow, standIns := [], harness := (true, "7bfe5564242db6f026efb14216373fcef16fa9ac5ac40b4b2ae1b0a02e11154f"), looks := true }, kinds := [], alts := [], laidByText := true, laidKinds := [.data, .data, .data, .data, .sentinel, .sentinel, .sentinel, .pinned], laidTests := true, laidLooks := .later }
def TemplatesUptoCardSaid : Prop := Claim7.holds Tryz.pinned (.plain (OpenSpec.upto templatesSpec)) templatesUptoCard

/-- THE SECOND FORM's CARD OF 'retaglaw.One'. -/
def oneUptoCard : Claim7 := { stood := { row := oneUptoRow, standIns := [], harness := (true, "7bfe5564242db6f026efb14216373fcef16fa9ac5ac40b4b2ae1b0a02e11154f"), looks := true }, kinds := [], alts := [], laidByText := true, laidKinds := [.data, .data, .data, .data, .sentinel, .sentinel, .sentinel, .data, .pinned], laidTests := true, laidLooks := .later }
def OneUptoCardSaid : Prop := Claim7.holds Tryz.pinned (.plain (OpenSpec.upto oneSpec)) oneUptoCard

/-- THE SECOND FORM's CARD OF 'retaglaw.Remembers'. -/
def remembersUptoCard : Claim7 := { stood := { row := remembersUptoRow, standIns := [], harness := (true, "7bfe5564242db6f026efb14216373fcef16fa9ac5ac40b4b2ae1b0a02e11154f"), looks := true }, kinds := [], alts := [], laidByText := true, laidKinds := [.data, .data, .data, .data, .sentinel, .sentinel, .sentinel, .data, .pinned], laidTests := true, laidLooks := .later }
def RemembersUptoCardSaid : Prop := Claim7.holds Tryz.pinned (.plain (OpenSpec.upto remembersSpec)) remembersUptoCard

/-- THE SECOND FORM's CARD OF 'retaglaw.All'. -/
def allUptoCard : Claim7 := { stood := { row := allUptoRow, standIns := [], harness := (true, "7bfe5564242db6f026efb14216373fcef16fa9ac5ac40b4b2ae1b0a02e11154f"), looks := true }, kinds := [], alts := [], laidByText := true, laidKinds := [.data, .data, .data, .data, .sentinel, .sentinel, .sentinel, .data, .pinned], laidTests := true, laidLooks := .later }
def AllUptoCardSaid : Prop := Claim7.holds Tryz.pinned (.plain (OpenSpec.upto allSpec)) allUptoCard
end Rows
end Go.Proofs.YtfnanjbleifjkaaGreatDoor
