import Derived.Test.YtfnanjbleifjkaaGreatDoorM03
import Derived.Maps.Keyed
import Derived.DeepKeys4
set_option linter.unusedVariables false
set_option linter.unusedSimpArgs false
namespace Go.Proofs.YtfnanjbleifjkaaGreatDoor
open Go.RowKit
theorem yy:laidOutB Tryz.prog=true:=by kernel_rfl
theorem zo:Tryz.prog.cellsOf 3=1:=by kernel_rfl
def Ad (S:List Value):Prop:=S.length=41/\(∀i,i<40 ->∃x:ByteArray,S[i]? =some (.string x)/\x.size<=maxLen)/\∃n:Nat,n<=20/\S[40]? =some (.int .i64 n)
theorem tV {w:World} {b:Nat} {o o':Obj} (h:BK w b o'):BK (my w b o) b o:=by
 have:=h.lt
 simp[BK,my,this]
def zi (w:World) (k:Nat):Prop:=∃cur fr,BK w k (.cells cur 167 fr)
def z7 (R:List Value ->List Lab ->Bool ->Prop) (w:World) (base:Nat) (tv:Value) (e:MapEntry):Prop:=
 ∃S sl ls b,e.key= .agg S.toArray/\e.val=Ap sl b/\SL w sl ls/\ls.length<=60/\R S ls b/\∀k,sl.ownBlock=some k ->base<=k/\tv.ownBlock≠some k/\zi w k
structure MM (R:List Value ->List Lab ->Bool ->Prop) (w:World) (m mb base room:Nat) (ts:List (List Value)) (tv:Value) (es:Array MapEntry) (clk:Nat):Prop where
 blk:BK w m (.cells #[.map (some mb),tv,.int .i64 room] 232 (0,0))
 map:BK w mb (.map es clk)
 row:w.ownsRow base 170 41 tv ts.length ts.flatten
 keys:(es.toList.map (·.key)).Perm (ts.map fun S=> .agg S.toArray)
 ans:∀e∈es.toList,z7 R w base tv e
 ok:∀S∈ts,Ad S
 nodup:ts.Nodup
 len:ts.length<=room
 room1:1<=room
 room50:room<=50
 mlt:m<base
 mblt:mb<base
 ne:m≠mb
 le:base<=w.heap.size
structure EN (R:List Value ->List Lab ->Bool ->Prop) (w:World) (e m mb base room:Nat) (rv:Value) (ts:List (List Value)) (tv:Value) (es:Array MapEntry) (clk:Nat):Prop where
 blk:BK w e (.cells #[rv,.pointer (some ⟨m,0,none⟩)] 153 (0,0))
 mem:MM R w m mb base room ts tv es clk
 lt:e<base
 nem:e≠m
 nemb:e≠mb
end Go.Proofs.YtfnanjbleifjkaaGreatDoor
