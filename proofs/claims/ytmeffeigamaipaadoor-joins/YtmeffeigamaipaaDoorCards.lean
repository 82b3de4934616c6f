/-
  DERIVED. GIVEN WITH THE SEED: THE CARDS: each row of YtmeffeigamaipaaDoorRows.lean that lists a variable, with what it lists TIED to the program's text (the seventh form; the later family's looks); each row that meets fmt, with fmt's text TOLD by the authors' own Lean function (tested against real Go, not proved from fmt's source: count such statements apart). THE CARD IS WHAT COUNTS. Prove the row's statement (the work); the ties are given (YtmeffeigamaipaaDoorTie.lean); close each card by the builder's one call (the guide's Derived/Test/ToyasCard.lean, 'card_holds'). Laid BY PROGRAM, IN A SANDBOX (cutbox-door.mjs). By AI agents, Wed Nov 11 2026. No macro, syntax, notation, axiom, sorry.
-/
import Derived.Test.YtmeffeigamaipaaDoorRows
import GoSem.ClaimSeven
namespace Go.Proofs.YtmeffeigamaipaaDoor
namespace Rows

/-- THE TIED CARD OF 'retagkeep.Joins'. -/
def joinsCard : Claim7 := { stood := { row := joinsRow, standIns := [], harness := (true, "4f58d883ccaef9d9a4e714c7e194b63490627d882acf818f338cdd71d54e3207"), looks := false }, kinds := [], alts := [], laidByText := true, laidKinds := [.data, .sentinel, .pinned], laidTests := true, laidLooks := .later }
def JoinsCardSaid : Prop := Claim7.holds Tryd.pinned (.plain (OpenSpec.ofChange joinsSpec)) joinsCard

/-- THE TIED CARD OF 'retagkeep.Runes'. -/
def runesCard : Claim7 := { stood := { row := runesRow, standIns := [], harness := (true, "4f58d883ccaef9d9a4e714c7e194b63490627d882acf818f338cdd71d54e3207"), looks := false }, kinds := [], alts := [], laidByText := true, laidKinds := [.data, .sentinel, .pinned], laidTests := true, laidLooks := .later }
def RunesCardSaid : Prop := Claim7.holds Tryd.pinned (.plain (OpenSpec.ofChange runesSpec)) runesCard

/-- THE TIED CARD OF 'retagkeep.Quoted'. -/
def quotedCard : Claim7 := { stood := { row := quotedRow, standIns := [], harness := (true, "4f58d883ccaef9d9a4e714c7e194b63490627d882acf818f338cdd71d54e3207"), looks := false }, kinds := [], alts := [], laidByText := true, laidKinds := [.data, .sentinel, .pinned], laidTests := true, laidLooks := .later }
def QuotedCardSaid : Prop := Claim7.holds Tryd.pinned (.plain (OpenSpec.ofChange quotedSpec)) quotedCard

/-- THE SECOND FORM's CARD OF 'retagkeep.Joins'. -/
def joinsUptoCard : Claim7 := { stood := { row := joinsUptoRow, standIns := [], harness := (true, "4f58d883ccaef9d9a4e714c7e194b63490627d882acf818f338cdd71d54e3207"), looks := false }, kinds := [], alts := [], laidByText := true, laidKinds := [.data, .sentinel, .pinned], laidTests := true, laidLooks := .later }
def JoinsUptoCardSaid : Prop := Claim7.holds Tryd.pinned (.plain (OpenSpec.upto joinsSpec)) joinsUptoCard

/-- THE SECOND FORM's CARD OF 'retagkeep.Runes'. -/
def runesUptoCard : Claim7 := { stood := { row := runesUptoRow, standIns := [], harness := (true, "4f58d883ccaef9d9a4e714c7e194b63490627d882acf818f338cdd71d54e3207"), looks := false }, kinds := [], alts := [], laidByText := true, laidKinds := [.data, .sentinel, .pinned], laidTests := true, laidLooks := .later }
def RunesUptoCardSaid : Prop := Claim7.holds Tryd.pinned (.plain (OpenSpec.upto runesSpec)) runesUptoCard

/-- THE SECOND FORM's CARD OF 'retagkeep.Quoted'. -/
def quotedUptoCard : Claim7 := { stood := { row := quotedUptoRow, standIns := [], harness := (true, "4f58d883ccaef9d9a4e714c7e194b63490627d882acf818f338cdd71d54e3207"), looks := false }, kinds := [], alts := [], laidByText := true, laidKinds := [.data, .sentinel, .pinned], laidTests := true, laidLooks := .later }
def QuotedUptoCardSaid : Prop := Claim7.holds Tryd.pinned (.plain (OpenSpec.upto quotedSpec)) quotedUptoCard
end Rows
end Go.Proofs.YtmeffeigamaipaaDoor
