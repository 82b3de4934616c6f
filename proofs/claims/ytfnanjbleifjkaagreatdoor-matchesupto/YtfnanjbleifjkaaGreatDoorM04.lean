import Derived.Test.YtfnanjbleifjkaaGreatDoorM02
import Derived.Maps.Keyed
import Derived.DeepKeys4
set_option linter.unusedVariables false
set_option linter.unusedSimpArgs false
namespace Go.Proofs.YtfnanjbleifjkaaGreatDoor
open Go.RowKit
theorem vR : laidOutB Tryz.prog = true := by kernel_rfl
theorem xG : Tryz.prog.cellsOf 3 = 1 := by kernel_rfl
def xY (S : List Value) : Prop := S.length = 41 /\ (∀ i, i < 40 -> ∃ x : ByteArray, S[i]? = some (.string x) /\ x.size <= maxLen) /\ ∃ n : Nat, n <= 20 /\ S[40]? = some (.int .i64 n)
theorem rA {w : World} {b : Nat} {o o' : Obj} (h : BK w b o') : BK (kG w b o) b o := by
 have := h.lt
 simp [BK, kG, this]
def xr (w : World) (k : Nat) : Prop := ∃ cur fr, BK w k (.cells cur 167 fr)
def ye (R : List Value -> List Lab -> Bool -> Prop) (w : World) (base : Nat) (tv : Value) (e : MapEntry) : Prop :=
 ∃ S sl ls b, e.key = .agg S.toArray /\ e.val = yq sl b /\ SL w sl ls /\ ls.length <= 60 /\ R S ls b /\ ∀ k, sl.ownBlock = some k -> base <= k /\ tv.ownBlock ≠ some k /\ xr w k
structure MM (R : List Value -> List Lab -> Bool -> Prop) (w : World) (m mb base room : Nat) (ts : List (List Value)) (tv : Value) (es : Array MapEntry) (clk : Nat) : Prop where
 blk : BK w m (.cells #[.map (some mb), tv, .int .i64 room] 232 (0, 0))
 map : BK w mb (.map es clk)
 row : w.ownsRow base 170 41 tv ts.length ts.flatten
 keys : (es.toList.map (·.key)).Perm (ts.map fun S => .agg S.toArray)
 ans : ∀ e ∈ es.toList, ye R w base tv e
 ok : ∀ S ∈ ts, xY S
 nodup : ts.Nodup
 len : ts.length <= room
 room1 : 1 <= room
 room50 : room <= 50
 mlt : m < base
 mblt : mb < base
 ne : m ≠ mb
 le : base <= w.heap.size
end Go.Proofs.YtfnanjbleifjkaaGreatDoor
