/- A start at which retagkeep.Counts may be called. -/
import Derived.Test.YtmeffeigamaipabGreatDoorCards
import Derived.Test.YtmeffeigamaipabGreatDoorTie
import Derived.Test.YtmeffeigamaipabGreatDoorE6
import Derived.ProofKit
import Derived.LaidMore
import Derived.OpenShut
import Derived.Stop.Joined
set_option linter.unusedVariables false
set_option linter.unusedSimpArgs false
namespace Go.Proofs.YtmeffeigamaipabGreatDoor
open Go.ChangeShapes Go.WideShapes Go.ChangeAt Go.ChangeMaps Go.RowKit

theorem own : ownKnob Tryz.prog.godebug = none := by kernel_rfl

set_option maxRecDepth 100000 in
/-- A start that fits: what the door's run lays, and the pinned table in its place. -/
theorem start_fits (os : Os) (H : Type) (enc : TypeId × Value → H) : ∃ w0 : World, w0.os = os ∧ (w0.forCall (fun _ _ => 0) ⟨#[], #[.int .i64 0, .int .i64 0, .int .i64 0], []⟩).Shaped Tryz.prog ∧
    Input.okWideB Tryz.prog (w0.forCall (fun _ _ => 0) ⟨#[], #[.int .i64 0, .int .i64 0, .int .i64 0], []⟩) 7 ⟨#[], #[.int .i64 0, .int .i64 0, .int .i64 0], []⟩ = true ∧
    Rows.countsSpec.preB enc Tryz.prog Tryz.f7 [] false (w0.forCall (fun _ _ => 0) ⟨#[], #[.int .i64 0, .int .i64 0, .int .i64 0], []⟩).memory #[.int .i64 0, .int .i64 0, .int .i64 0] 8 = true ∧
    Rows.countsSpec.sizedB enc Tryz.prog Tryz.f7 false (w0.forCall (fun _ _ => 0) ⟨#[], #[.int .i64 0, .int .i64 0, .int .i64 0], []⟩).memory #[.int .i64 0, .int .i64 0, .int .i64 0] 8 = true ∧
    laidMetH Tryz.prog Rows.countsRow.laid (w0.forCall (fun _ _ => 0) ⟨#[], #[.int .i64 0, .int .i64 0, .int .i64 0], []⟩).memory := by
  refine ⟨{ World.doorLaid Tryz.prog 400 os with heap := (World.doorLaid Tryz.prog 400 os).heap.modify 2 fun
      | .cells _ t frozen => .cells ⟨Go.Pinned.utf8FirstZ.map fun (z : Nat) => .int .u8 (z : Int)⟩ t frozen
      | o => o }, rfl, World.shaped_of_RefB (by kernel_rfl) (by kernel_rfl), by kernel_rfl, by kernel_rfl, by kernel_rfl, ?_⟩
  exact laidMetH_of_parts3 (fuel := 8) (laidMet_of_run' 8 (by kernel_rfl) (by kernel_rfl)) (by kernel_rfl) (by kernel_rfl)


theorem wf_i64 {a : Int} (h : (Lit.int .i64 a).wf = true) : -9223372036854775808 ≤ a ∧ a ≤ 9223372036854775807 := by
  simp only [Lit.wf, Bool.and_eq_true, decide_eq_true_eq] at h
  exact h
end Go.Proofs.YtmeffeigamaipabGreatDoor
