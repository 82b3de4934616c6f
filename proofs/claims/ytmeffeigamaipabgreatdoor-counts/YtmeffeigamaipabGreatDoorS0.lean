/- The shelf's two contracts, under names of our own. -/
import Derived.Test.YtmeffeigamaipabGreatDoorC2
import Derived.Test.YtmeffeigamaipabGreatDoorShelf
import Derived.Lib.Bytealg
set_option linter.unusedVariables false
namespace Go.Proofs.YtmeffeigamaipabGreatDoor
open Go.RowKit
theorem compare_any (a b : ByteArray) (w : World) :
    Calls Tryz.prog 96 #[.string a, .string b] w fun e w' => e = .returned (.int .i64 (Lib.compareBytes a.data.toList b.data.toList)) ∧ w' = w := Tryz.strings_Compare a b w
theorem cloneIn_any (s : ByteArray) (w : World) (hlim : s.size ≤ 281474976710656) :
    Calls Tryz.prog 65 #[.string s] w fun e w' => e = .returned (.string s) ∧ Below w.heap.size w w' := Tryz.stringslite_Clone s w hlim
end Go.Proofs.YtmeffeigamaipabGreatDoor
