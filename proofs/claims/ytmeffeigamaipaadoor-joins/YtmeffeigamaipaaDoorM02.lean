/- D1 D2, one behind the other. -/
import Derived.Test.YtmeffeigamaipaaDoorM01
import Derived.Maps.Keyed
import Derived.DeepKeys4
set_option linter.unusedVariables false
set_option linter.unusedSimpArgs false
/- Series as keys of a map. -/
namespace Go.Proofs.YtmeffeigamaipaaDoor
open Go.RowKit

theorem laidOut : laidOutB Tryd.prog = true := by kernel_rfl
theorem cells3 : Tryd.prog.cellsOf 3 = 1 := by kernel_rfl
end Go.Proofs.YtmeffeigamaipaaDoor

/- The map of answers: what is looked up, laid down, taken away. -/
namespace Go.Proofs.YtmeffeigamaipaaDoor
open Go.RowKit

theorem putB_bk {w : World} {b : Nat} {o o' : Obj} (h : BK w b o') : BK (putB w b o) b o := by
  have := h.lt
  simp [BK, putB, this]
end Go.Proofs.YtmeffeigamaipaaDoor
