import Derived.Test.YtfnanjbleifjkaaGreatDoorCards
import Derived.Test.YtfnanjbleifjkaaGreatDoorTie
import Derived.Test.YtfnanjbleifjkaaGreatDoorM50
import Derived.LaidMore
import Derived.Stop.Joined
set_option linter.unusedVariables false
set_option linter.unusedSimpArgs false
set_option maxRecDepth 100000
namespace Go.Proofs.YtfnanjbleifjkaaGreatDoor
open Go.ChangeShapes Go.WideShapes Go.ChangeAt Go.ChangeMaps Go.RowKit
theorem own : ownKnob Tryz.prog.godebug = none := by kernel_rfl
theorem lJ (os : Os) (H : Type) (enc : TypeId × Value -> H) : ∃ w0 : World, w0.os = os /\ (w0.forCall (fun _ _ => 0) ⟨#[], #[.string ⟨#[]⟩, .string ⟨#[]⟩], []⟩).Shaped Tryz.prog /\
  Input.okWideB Tryz.prog (w0.forCall (fun _ _ => 0) ⟨#[], #[.string ⟨#[]⟩, .string ⟨#[]⟩], []⟩) 3 ⟨#[], #[.string ⟨#[]⟩, .string ⟨#[]⟩], []⟩ = true /\
  (∃ places, DataW.whole enc Tryz.prog (w0.forCall (fun _ _ => 0) ⟨#[], #[.string ⟨#[]⟩, .string ⟨#[]⟩], []⟩).memory Tryz.f3.params.toList Rows.matchesSpec.vars false #[Value.string ⟨#[]⟩, .string ⟨#[]⟩].toList 8 = some ([.lit (.string []), .lit (.string [])], [], places)) /\
  Rows.matchesSpec.sizedB enc Tryz.prog Tryz.f3 false (w0.forCall (fun _ _ => 0) ⟨#[], #[.string ⟨#[]⟩, .string ⟨#[]⟩], []⟩).memory #[.string ⟨#[]⟩, .string ⟨#[]⟩] 8 = true /\
  laidMetH Tryz.prog Rows.matchesUptoRow.laid (w0.forCall (fun _ _ => 0) ⟨#[], #[.string ⟨#[]⟩, .string ⟨#[]⟩], []⟩).memory := by
 refine ⟨{ World.doorLaid Tryz.prog 400 os with heap := (World.doorLaid Tryz.prog 400 os).heap.modify 2 fun
   |.cells _ t frozen => .cells ⟨Go.Pinned.utf8FirstZ.map fun (z : Nat) => .int .u8 (z : Int)⟩ t frozen
   |o => o }, rfl, World.shaped_of_RefB (by kernel_rfl) (by kernel_rfl), by kernel_rfl, ⟨[], by kernel_rfl⟩, by kernel_rfl, ?_⟩
 exact laidMetH_of_parts3 (fuel := 8) (laidMet_of_run' 8 (by kernel_rfl) (by kernel_rfl)) (by kernel_rfl) (by kernel_rfl)
theorem oC {W : World} (h : laidMetH Tryz.prog Rows.matchesUptoRow.laid W) : ∃ x : G.EV, W.cell? ⟨0, 0, none⟩ = some (.iface x.1 x.2) /\ Lib.Utf8Tabs 2 3 W := by
 rw [MakeChecks.laidMetH_plain _ _ _ (by kernel_rfl)] at h
 obtain ⟨x, hx⟩ := pC (Lib.laidMet.reads h (n := "retag/regex.errForm") (d := Rows.laid_retag_regex_errForm) (by simp [Rows.matchesUptoRow]))
 exact ⟨x, hx, o8 (Lib.laidMet.reads h (n := "unicode/utf8.first") (d := Rows.laid_unicode_utf8_first) (by simp [Rows.matchesUptoRow])) (Lib.laidMet.reads h (n := "unicode/utf8.acceptRanges") (d := Rows.laid_unicode_utf8_acceptRanges) (by simp [Rows.matchesUptoRow]))⟩
end Go.Proofs.YtfnanjbleifjkaaGreatDoor
