/-
  NARROWER THAN 'FOR EVERY INPUT', by the rows' own cells (each row's printed sentence says how): Joins: laid · Runes: laid · Quoted: laid.
  DERIVED. THE GIVEN ROWS OF THIS SEAT. 3 by the template 'for every input the law returns true; each argument reads behind the call as it read before'; 0 by the template 'total and deterministic' (their statements: YtmeffeigamaipaaDoorTotals.lean).
  GIVEN WITH THE SEED: the statements are not yours to turn. If you find one false, say at which input.
  Laid BY PROGRAM, IN A SANDBOX (cutbox-rows.mjs): the forced cells as the released guide's own fill.sh prints them over the translation af02bf14b5deab78… (all of the seat's roots in one cut). By AI agents, Wed Nov 11 2026. No macro, syntax, notation, axiom, sorry.
-/
import Derived.Test.YtmeffeigamaipaaDoorChecked
import GoSem.PinnedTables
import GoSem.Claim
import GoSem.ClaimJoined
import GoSem.ClaimMapViews
import Derived.JoinedTies
import Derived.KernelRfl
namespace Go.Proofs.YtmeffeigamaipaaDoor
/- THE CELL 'sum', in the pinned program and in every row, IS THE sha256 OF THE DUMP (.gsa) THAT YtmeffeigamaipaaDoorProg.lean LOADS. Nothing in Lean hashes anything: it is a label: what it is worth is what the hold of that sum in a sandbox is worth. -/
noncomputable def Tryd.pinned : Pinned := { name := "ytmeffeigamaipaadoor", sum := "af02bf14b5deab788fc04a48b8c069433b9f3140f6cacab05943672a288441e6", checked := Tryd.checked }
namespace Rows
def none {H : Type} : Left H := { results := [], args := [] }

/- WHAT THE LISTED PACKAGE-LEVEL VARIABLES READ AS WHEN THE CALL BEGINS. Each datum BY PROGRAM (the guide's laid-datum.mjs) off the statement by which the dump's own 'gosem.cut.vars' lays the variable. In a bare row this is a premise. The card (YtmeffeigamaipaaDoorCards.lean) ties it to the program's text. -/
def laid_unicode_utf8_acceptRanges {H : Type} : DataW H := .agg [.agg [.lit (.int .u8 128), .lit (.int .u8 191)], .agg [.lit (.int .u8 160), .lit (.int .u8 191)], .agg [.lit (.int .u8 128), .lit (.int .u8 159)], .agg [.lit (.int .u8 144), .lit (.int .u8 191)], .agg [.lit (.int .u8 128), .lit (.int .u8 143)], .agg [.lit (.int .u8 0), .lit (.int .u8 0)], .agg [.lit (.int .u8 0), .lit (.int .u8 0)], .agg [.lit (.int .u8 0), .lit (.int .u8 0)], .agg [.lit (.int .u8 0), .lit (.int .u8 0)], .agg [.lit (.int .u8 0), .lit (.int .u8 0)], .agg [.lit (.int .u8 0), .lit (.int .u8 0)], .agg [.lit (.int .u8 0), .lit (.int .u8 0)], .agg [.lit (.int .u8 0), .lit (.int .u8 0)], .agg [.lit (.int .u8 0), .lit (.int .u8 0)], .agg [.lit (.int .u8 0), .lit (.int .u8 0)], .agg [.lit (.int .u8 0), .lit (.int .u8 0)]]
def laid_retag_regex_errForm {H : Type} : DataW H := .iface "*errors.errorString" (.ptr (.agg [.lit (.string [110, 111, 116, 32, 116, 104, 101, 32, 102, 111, 114, 109, 32, 111, 102, 32, 97, 32, 112, 97, 116, 116, 101, 114, 110])]))
/-- One of Go's own tables, pinned by name: the form's constant. -/
def laid_unicode_utf8_first : DataW Unit := Go.Pinned.utf8First

/-- 'retagkeep.Joins': WHATEVER THE INPUT: true; the input reads as it did. -/
def joinsSpec : ChangeSpec := { name := "joins", fn := fun _ => fun
  | [d1, d2, d3] => { results := [.lit (.bool true)], args := [d1, d2, d3] }
  | _ => none }
def joinsRow : OpenClaim := { program := "ytmeffeigamaipaadoor", sum := "af02bf14b5deab788fc04a48b8c069433b9f3140f6cacab05943672a288441e6", func := "retag/retagkeep.Joins", spec := "joins", inPlace := ["internal/bytealg.IndexByteString"], unfollowed := true, recurses := true, named := ["retag/regex.errForm", "unicode/utf8.first", "unicode/utf8.acceptRanges"], plainKeys := false, apart := false, laid := [("unicode/utf8.acceptRanges", laid_unicode_utf8_acceptRanges), ("retag/regex.errForm", laid_retag_regex_errForm), ("unicode/utf8.first", laid_unicode_utf8_first)] }
def JoinsSaid : Prop := joinsRow.holds Tryd.pinned (OpenSpec.ofChange joinsSpec)

/-- ITS FALSE NEIGHBOUR: 'it returns false'. Refute it at one input. -/
def joinsWrong : ChangeSpec := { name := "joins", fn := fun _ => fun
  | [d1, d2, d3] => { results := [.lit (.bool false)], args := [d1, d2, d3] }
  | _ => none }
def JoinsWrongFalsely : Prop := joinsRow.holds Tryd.pinned (OpenSpec.ofChange joinsWrong)

/-- 'retagkeep.Runes': WHATEVER THE INPUT: true; the input reads as it did. -/
def runesSpec : ChangeSpec := { name := "runes", fn := fun _ => fun
  | [d] => { results := [.lit (.bool true)], args := [d] }
  | _ => none }
def runesRow : OpenClaim := { program := "ytmeffeigamaipaadoor", sum := "af02bf14b5deab788fc04a48b8c069433b9f3140f6cacab05943672a288441e6", func := "retag/retagkeep.Runes", spec := "runes", inPlace := ["internal/bytealg.IndexByteString"], unfollowed := true, recurses := true, named := ["retag/regex.errForm", "unicode/utf8.first", "unicode/utf8.acceptRanges"], plainKeys := false, apart := false, laid := [("unicode/utf8.acceptRanges", laid_unicode_utf8_acceptRanges), ("retag/regex.errForm", laid_retag_regex_errForm), ("unicode/utf8.first", laid_unicode_utf8_first)] }
def RunesSaid : Prop := runesRow.holds Tryd.pinned (OpenSpec.ofChange runesSpec)

/-- ITS FALSE NEIGHBOUR: 'it returns false'. Refute it at one input. -/
def runesWrong : ChangeSpec := { name := "runes", fn := fun _ => fun
  | [d] => { results := [.lit (.bool false)], args := [d] }
  | _ => none }
def RunesWrongFalsely : Prop := runesRow.holds Tryd.pinned (OpenSpec.ofChange runesWrong)

/-- 'retagkeep.Quoted': WHATEVER THE INPUT: true; the input reads as it did. -/
def quotedSpec : ChangeSpec := { name := "quoted", fn := fun _ => fun
  | [d1, d2] => { results := [.lit (.bool true)], args := [d1, d2] }
  | _ => none }
def quotedRow : OpenClaim := { program := "ytmeffeigamaipaadoor", sum := "af02bf14b5deab788fc04a48b8c069433b9f3140f6cacab05943672a288441e6", func := "retag/retagkeep.Quoted", spec := "quoted", inPlace := ["internal/bytealg.IndexByteString"], unfollowed := true, recurses := true, named := ["retag/regex.errForm", "unicode/utf8.first", "unicode/utf8.acceptRanges"], plainKeys := false, apart := false, laid := [("unicode/utf8.acceptRanges", laid_unicode_utf8_acceptRanges), ("retag/regex.errForm", laid_retag_regex_errForm), ("unicode/utf8.first", laid_unicode_utf8_first)] }
def QuotedSaid : Prop := quotedRow.holds Tryd.pinned (OpenSpec.ofChange quotedSpec)

/-- ITS FALSE NEIGHBOUR: 'it returns false'. Refute it at one input. -/
def quotedWrong : ChangeSpec := { name := "quoted", fn := fun _ => fun
  | [d1, d2] => { results := [.lit (.bool false)], args := [d1, d2] }
  | _ => none }
def QuotedWrongFalsely : Prop := quotedRow.holds Tryd.pinned (OpenSpec.ofChange quotedWrong)

/- THE SECOND FORM. 'bulk': how many values and letters a reading holds, each counted each time it is reached (what is shared counts as often as it is met; a slice's spare places count too). A statement '..UptoSaid' is the law's where the arguments, and the package variables that the reading takes, are together of bulk at most 1048576: NARROWER than '..Said'. Prove '..Said' where nothing that the law and all that it calls make is longer than what came in: it says more and counts as full. Else prove '..UptoSaid'. A law counts once. -/
mutual
def uptoBulk {H : Type} : DataW H → Nat
  | .lit (.string bytes) => bytes.length + 1
  | .lit _ => 1
  | .nil => 1
  | .ptr d => uptoBulk d + 1
  | .slice elems spare => uptoBulkAll elems + uptoBulkAll spare + 1
  | .agg parts => uptoBulkAll parts + 1
  | .iface _ d => uptoBulk d + 1
  | .map entries => uptoBulkEntries entries + 1
  | .held _ => 1
def uptoBulkAll {H : Type} : List (DataW H) → Nat
  | [] => 0
  | d :: r => uptoBulk d + uptoBulkAll r
def uptoBulkEntries {H : Type} : List (Lit × DataW H) → Nat
  | [] => 0
  | x :: r => uptoBulkEntry x + uptoBulkEntries r
def uptoBulkEntry {H : Type} : Lit × DataW H → Nat
  | (.string bytes, d) => bytes.length + uptoBulk d + 1
  | (_, d) => uptoBulk d + 1
 end
def uptoSmall : (H : Type) → List (DataW H) → Bool := fun _ ds => decide (uptoBulkAll ds ≤ 1048576)
def OpenSpec.upto (s : _root_.Go.ChangeSpec) : _root_.Go.OpenSpec := { _root_.Go.OpenSpec.ofChange s with cond := some uptoSmall }

/-- 'retagkeep.Joins', WHERE WHAT IT READS IS OF BULK AT MOST 1048576: true; the input reads as it did. -/
def joinsUptoRow : OpenClaim := { program := "ytmeffeigamaipaadoor", sum := "af02bf14b5deab788fc04a48b8c069433b9f3140f6cacab05943672a288441e6", func := "retag/retagkeep.Joins", spec := "joins", inPlace := ["internal/bytealg.IndexByteString"], unfollowed := true, recurses := true, named := ["retag/regex.errForm", "unicode/utf8.first", "unicode/utf8.acceptRanges"], plainKeys := false, apart := false, laid := [("unicode/utf8.acceptRanges", laid_unicode_utf8_acceptRanges), ("retag/regex.errForm", laid_retag_regex_errForm), ("unicode/utf8.first", laid_unicode_utf8_first)], narrowed := true }
def JoinsUptoSaid : Prop := joinsUptoRow.holds Tryd.pinned (OpenSpec.upto joinsSpec)

/-- 'retagkeep.Runes', WHERE WHAT IT READS IS OF BULK AT MOST 1048576: true; the input reads as it did. -/
def runesUptoRow : OpenClaim := { program := "ytmeffeigamaipaadoor", sum := "af02bf14b5deab788fc04a48b8c069433b9f3140f6cacab05943672a288441e6", func := "retag/retagkeep.Runes", spec := "runes", inPlace := ["internal/bytealg.IndexByteString"], unfollowed := true, recurses := true, named := ["retag/regex.errForm", "unicode/utf8.first", "unicode/utf8.acceptRanges"], plainKeys := false, apart := false, laid := [("unicode/utf8.acceptRanges", laid_unicode_utf8_acceptRanges), ("retag/regex.errForm", laid_retag_regex_errForm), ("unicode/utf8.first", laid_unicode_utf8_first)], narrowed := true }
def RunesUptoSaid : Prop := runesUptoRow.holds Tryd.pinned (OpenSpec.upto runesSpec)

/-- 'retagkeep.Quoted', WHERE WHAT IT READS IS OF BULK AT MOST 1048576: true; the input reads as it did. -/
def quotedUptoRow : OpenClaim := { program := "ytmeffeigamaipaadoor", sum := "af02bf14b5deab788fc04a48b8c069433b9f3140f6cacab05943672a288441e6", func := "retag/retagkeep.Quoted", spec := "quoted", inPlace := ["internal/bytealg.IndexByteString"], unfollowed := true, recurses := true, named := ["retag/regex.errForm", "unicode/utf8.first", "unicode/utf8.acceptRanges"], plainKeys := false, apart := false, laid := [("unicode/utf8.acceptRanges", laid_unicode_utf8_acceptRanges), ("retag/regex.errForm", laid_retag_regex_errForm), ("unicode/utf8.first", laid_unicode_utf8_first)], narrowed := true }
def QuotedUptoSaid : Prop := quotedUptoRow.holds Tryd.pinned (OpenSpec.upto quotedSpec)

end Rows
end Go.Proofs.YtmeffeigamaipaaDoor
