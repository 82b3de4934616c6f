import Derived.WalkKit
import Derived.WalkSpells
import Derived.WalkLawsBesides
import Derived.Deep.QuietTactic
import Derived.BigQuiet
import Derived.ShutString
import Derived.Deep.LoopGhost
import Derived.OrdersHeld
import Derived.StillTail
import Derived.Deep.MidRow
import Derived.MapKept
import Derived.Test.YtfnanjbleifjkaaGreatDoorShelf
import Derived.Lib.Bytealg
import Derived.Laws.OwnMore
import Derived.Laws.CopyRow
import Derived.Laws.AppendOwnNone
import Derived.Deep.AppendLies
import Derived.Deep.RegionLaw
set_option linter.unusedVariables false
set_option linter.unusedSimpArgs false
set_option maxHeartbeats 2000000
set_option maxRecDepth 100000
namespace Go.Proofs.YtfnanjbleifjkaaGreatDoor
variable {l:List Nat} {a w w':World} {B b base g i n size:Nat} {p:Addr} {e:TypeId} {v:Value} {xs:List Value} {o:Obj} {s:ByteArray}
open Go.RowKit
structure Ex (own:List Nat) (w w':World):Prop where
 os:w'.os=w.os
 tape:w'.tape=w.tape
 output:w'.output=w.output
 size:w.heap.size<=w'.heap.size
 block:∀k,k<w.heap.size ->k∉own ->w'.heap[k]? =w.heap[k]?
theorem Ex.refl (l:List Nat) (w:World):Ex l w w:=⟨rfl,rfl,rfl,Nat.le_refl _,fun _ _ _=>rfl⟩
theorem Ex.drewN (h:Ex l a w) (n:Nat):Ex l a (w.drewN n):=⟨h.os,h.tape,h.output,h.size,h.block⟩
theorem Ex.drew (h:Ex l a w):Ex l a w.drew:=⟨h.os,h.tape,h.output,h.size,h.block⟩
theorem Ex.trans {b c:World} (h:Ex l a b) (k:Ex l b c):Ex l a c:=
 ⟨k.os.trans h.os,k.tape.trans h.tape,k.output.trans h.output,Nat.le_trans h.size k.size,fun i hi hn=>(k.block i (Nat.lt_of_lt_of_le hi h.size) hn).trans (h.block i hi hn)⟩
theorem Ex.drop {l':List Nat} {b:World} (h:Ex l a b) (hl:∀x,x∈l ->x<a.heap.size ->x∈l'):Ex l' a b:=
 ⟨h.os,h.tape,h.output,h.size,fun i hi hn=>h.block i hi (fun hm=>hn (hl i hm hi))⟩
theorem Ex.alloc (h:Ex l a w) (o:Obj):Ex l a (w.alloc o):=
 h.trans ⟨rfl,rfl,rfl,by simp,fun k hk _=>Below.heap_alloc _ _ _ hk⟩
theorem Ex.setCell (h:Ex l a w) (hp:p.block∈l\/a.heap.size<=p.block) (u:Value):Ex l a (w.setCell p u):=
 ⟨h.os,h.tape,h.output,by simpa[World.setCell]using h.size,fun k hk hn=>by
  rw[Below.heap_setCell _ _ _ _ (by rintro rfl;rcases hp with hp|hp;(·exact hn hp);·omega)];exact h.block k hk hn⟩
theorem Ex.below (h:Below a.heap.size a w):Ex [] a w:=⟨h.os,h.tape,h.output,h.size,fun k hk _=>h.block k hk⟩
theorem Ex.toBelow (h:Ex [] a w):Below a.heap.size a w:=⟨h.os,h.tape,h.output,h.size,fun k hk=>h.block k hk (by simp)⟩
theorem Ex.cell {W w1:World} (h:Ex l W w1):(∀b o,b<W.heap.size ->b∉l ->w1.cell? ⟨b,o,none⟩=W.cell? ⟨b,o,none⟩)/\(∀b o,b<W.heap.size ->b∉l ->w1.frozen? ⟨b,o,none⟩=W.frozen? ⟨b,o,none⟩):=
 ⟨fun b _ hb hn=>World.cell?_of_block (h.block b hb hn),fun b _ hb hn=>World.frozen?_of_block (h.block b hb hn)⟩
theorem Ex.cell0 {W w1:World} (h:Ex [] W w1):(∀b o,b<W.heap.size ->w1.cell? ⟨b,o,none⟩=W.cell? ⟨b,o,none⟩)/\(∀b o,b<W.heap.size ->w1.frozen? ⟨b,o,none⟩=W.frozen? ⟨b,o,none⟩):=
 ⟨fun b o hb=>h.cell.1 b o hb (by simp),fun b o hb=>h.cell.2 b o hb (by simp)⟩
theorem Ex.grown {row:Option Nat} (h:Ex l a w) (hg:w.grownBy w' row) (hr:∀k,row=some k ->k∈l\/a.heap.size<=k):Ex l a w':=
 ⟨hg.os.trans h.os,hg.tape.trans h.tape,hg.output.trans h.output,Nat.le_trans h.size hg.size,fun k hk hn=>
  (hg.block k (Nat.lt_of_lt_of_le hk h.size) (fun e=>by rcases hr k e.symm with h|h;(·exact hn h);·omega)).trans (h.block k hk hn)⟩
theorem aU (h:w.ownsRow base e size v n xs) (hx:Ex l w w') (hl:∀x,x∈l ->x<base):w'.ownsRow base e size v n xs:=by
 refine⟨h.1,?_⟩
 rcases h.2 with hn|⟨g,cap,cur,rfl,hb,hgg,rest⟩
 ·exact .inl hn
 ·refine .inr ⟨g,cap,cur,rfl,hb,?_,rest⟩
  rw[hx.block g (Array.getElem?_eq_some_iff.1 hgg).1 (fun hm=>by have:=hl g hm;omega)]
  exact hgg
theorem aA (h:w.ownsRow base e size v n xs):∃p c,v= .slice p n c:=by
 rcases h.2 with⟨rfl,rfl⟩|⟨g,cap,cur,rfl,_⟩
 ·exact⟨_,_,rfl⟩
 ·exact⟨_,_,rfl⟩
theorem oF (h:w.ownsRow base e size v n xs) (k:Nat):(w.drewN k).ownsRow base e size v n xs:=h
theorem aG (h:w.ownsRow base e size v n xs):∀k,v.ownBlock=some k ->base<=k:=fun k hk=>(h.lt k hk).1
theorem bK (w:World) (cs:Array Value) (t:TypeId):∀j u,cs.toList[j]? =some u ->(w.alloc (.cells cs t)).cell? ((⟨w.heap.size,0,none⟩:Addr).add j)=some u:=by
 intro j u hj
 have hadd:(⟨w.heap.size,0,none⟩:Addr).add j=⟨w.heap.size,j,none⟩:=by unfold Addr.add;split<;>simp_all
 rw[hadd,cell_of_row (w.alloc (.cells cs t)) w.heap.size j cs t (0,0) (heap_alloc_new w _)]
 simpa using hj
theorem du (h:w.ownsRow base e size v n xs) {a:Addr} (ha:a.block<base) (u:Value):(w.setCell a u).ownsRow base e size v n xs:=ownsRow_setCell_below h ha u
def BK (w:World) (b:Nat) (o:Obj):Prop:=w.heap[b]? =some o
theorem BK.lt (h:BK w b o):b<w.heap.size:=(Array.getElem?_eq_some_iff.1 h).1
theorem BK.new (w:World) (o:Obj):BK (w.alloc o) w.heap.size o:=heap_alloc_new w o
theorem BK.ex (h:BK w b o) (hx:Ex l w w') (hn:b∉l):BK w' b o:=by
 unfold BK;rw[hx.block b h.lt hn];exact h
theorem BK.alloc (h:BK w b o) (o':Obj):BK (w.alloc o') b o:=h.ex ((Ex.refl [] _).alloc o') (by simp)
theorem BK.set (h:BK w b o) (hp:b≠p.block) (u:Value):BK (w.setCell p u) b o:=by
 unfold BK;rw[Below.heap_setCell _ _ _ _ hp];exact h
theorem BK.drewN (h:BK w b o) (n:Nat):BK (w.drewN n) b o:=h
theorem BK.drew (h:BK w b o):BK w.drew b o:=h
theorem BK.grown {row:Option Nat} (h:BK w b o) (hg:w.grownBy w' row) (hn:row≠some b):BK w' b o:=by
 unfold BK;rw[hg.block b h.lt (fun e=>hn e.symm)];exact h
theorem BK.all {cs:Array Value} (h:BK w b (.cells cs e (0,0))):(∀o,w.cell? ⟨b,o,none⟩=cs[o]?)/\(∀o,w.frozen? ⟨b,o,none⟩=false):=
 ⟨fun o=>cell_of_row w b o cs e (0,0) h,fun o=>by unfold BK at h;simp[World.frozen?,h]⟩
theorem aa {p:Prop} (h:p):Hid p:=h
theorem af {p:Prop} (h:Hid p):p:=h
theorem BK.self {cs:Array Value} (h:BK w b (.cells cs e (0,0))) (i:Nat) (u:Value):BK (w.setCell ⟨b,i,none⟩ u) b (.cells (cs.setIfInBounds i u) e (0,0)):=by
 unfold BK at h ⊢
 simp[World.setCell,Array.getElem?_modify,h]
structure EB (B:Nat) (own:List Nat) (w w':World):Prop where
 os:w'.os=w.os
 tape:w'.tape=w.tape
 output:w'.output=w.output
 size:w.heap.size<=w'.heap.size
 block:∀k,k<B ->k∉own ->w'.heap[k]? =w.heap[k]?
theorem EB.refl (B:Nat) (l:List Nat) (w:World):EB B l w w:=⟨rfl,rfl,rfl,Nat.le_refl _,fun _ _ _=>rfl⟩
theorem EB.drewN (h:EB B l a w) (n:Nat):EB B l a (w.drewN n):=⟨h.os,h.tape,h.output,h.size,h.block⟩
theorem EB.drew (h:EB B l a w):EB B l a w.drew:=⟨h.os,h.tape,h.output,h.size,h.block⟩
theorem EB.trans {b c:World} (h:EB B l a b) (k:EB B l b c):EB B l a c:=
 ⟨k.os.trans h.os,k.tape.trans h.tape,k.output.trans h.output,Nat.le_trans h.size k.size,fun i hi hn=>(k.block i hi hn).trans (h.block i hi hn)⟩
theorem EB.mono {B':Nat} {l':List Nat} {b:World} (h:EB B l a b) (hB:B'<=B) (hl:∀x,x∈l ->x<B' ->x∈l'):EB B' l' a b:=
 ⟨h.os,h.tape,h.output,h.size,fun i hi hn=>h.block i (by omega) (fun hm=>hn (hl i hm hi))⟩
theorem EB.alloc (h:EB B l a w) (hB:B<=w.heap.size) (o:Obj):EB B l a (w.alloc o):=
 h.trans ⟨rfl,rfl,rfl,by simp,fun k hk _=>Below.heap_alloc _ _ _ (by omega)⟩
theorem EB.setCell (h:EB B l a w) (hp:p.block∈l\/B<=p.block) (u:Value):EB B l a (w.setCell p u):=
 ⟨h.os,h.tape,h.output,by simpa[World.setCell]using h.size,fun k hk hn=>by
  rw[Below.heap_setCell _ _ _ _ (by rintro rfl;rcases hp with hp|hp;(·exact hn hp);·omega)];exact h.block k hk hn⟩
theorem EB.grown {row:Option Nat} (h:EB B l a w) (hg:w.grownBy w' row) (hB:B<=w.heap.size) (hr:∀k,row=some k ->k∈l\/B<=k):EB B l a w':=
 ⟨hg.os.trans h.os,hg.tape.trans h.tape,hg.output.trans h.output,Nat.le_trans h.size hg.size,fun k hk hn=>
  (hg.block k (by omega) (fun e=>by rcases hr k e.symm with h|h;(·exact hn h);·omega)).trans (h.block k hk hn)⟩
theorem EB.ofEx (h:Ex l a w) (hB:B<=a.heap.size):EB B l a w:=⟨h.os,h.tape,h.output,h.size,fun k hk hn=>h.block k (by omega) hn⟩
theorem EB.toEx (h:EB a.heap.size l a w):Ex l a w:=⟨h.os,h.tape,h.output,h.size,h.block⟩
theorem BK.eb (h:BK w b o) (hx:EB B l w w') (hb:b<B) (hn:b∉l):BK w' b o:=by
 unfold BK;rw[hx.block b hb hn];exact h
def my (w:World) (b:Nat) (o:Obj):World:={w with heap:=w.heap.setIfInBounds b o}
theorem tW (w:World) (b:Nat) (o:Obj):Ex [b] w (my w b o):=
 ⟨rfl,rfl,rfl,by simp[my],fun k hk hn=>by
  simp only[List.mem_singleton]at hn
  simp only[my]
  rw[Array.getElem?_setIfInBounds_ne (Ne.symm hn)]⟩
theorem ij (h:w.ownsRow base e size v n xs) (hn:0<n):
  ∃g c,v= .slice (some ⟨g,0,none⟩) n c/\base<=g/\g<w.heap.size/\n<=c/\(∀j,j<n*size ->w.cell? ⟨g,j,none⟩=xs[j]?)/\∀j,w.frozen? ⟨g,j,none⟩=false:=by
 rcases h.2 with⟨_,h0⟩|⟨g,cap,cur,rfl,hb,hgg,hnc,hcm,hcs,htake⟩
 ·omega
 ·refine⟨g,cap,rfl,hb,(Array.getElem?_eq_some_iff.1 hgg).1,hnc,fun j hj=> ?_,fun j=>by simp[World.frozen?,hgg]⟩
  rw[cell_of_row w g _ cur e (0,0) hgg,<-htake,List.getElem?_take,if_pos hj]
  simp
theorem BK.range {cs:Array Value} (h:BK w b (.cells cs e (0,0))):w.rangeAt b 0 cs.toList:=by
 intro j v hv
 rw[h.all.1,Nat.zero_add]
 simpa using hv
theorem gx (h:w.ownsRow base e size v n xs) (hx:Ex l w w') (hl:∀k,v.ownBlock=some k ->k∉l):w'.ownsRow base e size v n xs:=by
 refine⟨h.1,?_⟩
 rcases h.2 with hn|⟨g,cap,cur,rfl,hb,hgg,rest⟩
 ·exact .inl hn
 ·refine .inr ⟨g,cap,cur,rfl,hb,?_,rest⟩
  rw[hx.block g (Array.getElem?_eq_some_iff.1 hgg).1 (hl g rfl)]
  exact hgg
theorem EB.cell (h:EB B [] w w') {o:Nat} (hb:b<B):w'.cell? ⟨b,o,none⟩=w.cell? ⟨b,o,none⟩:=World.cell?_of_block (h.block b hb (by simp))
theorem BK.selfL {cs:List Value} (h:BK w b (.cells cs.toArray e (0,0))) (i:Nat) (u:Value):BK (w.setCell ⟨b,i,none⟩ u) b (.cells (cs.set i u).toArray e (0,0)):=by
 have:=h.self i u
 simpa using this
theorem BK.rangeL {cs:List Value} (h:BK w b (.cells cs.toArray e (0,0))):w.rangeAt b 0 cs:=by
 have:=h.range
 simpa using this
section
variable {P:Program} {ops:Array Oper} {Q:Exit ->Act ->World ->Prop} {md:Region.Mode} {S:Nat ->World ->Prop} {T:World ->Prop}
def dz (P:Program) (md:Region.Mode) (ops:Array Oper) (Q:Exit ->Act ->World ->Prop) (S:Nat ->World ->Prop):Nat ->Array Bool ->Act ->World ->Prop
 |0,listed,a,w=>Region.ready md ops listed=[]/\Q .normal a w
 |fuel+1,listed,a,w=>
  (Region.ready md ops listed=[] ->Q .normal a w)/\
  ∀i∈Region.ready md ops listed,wpOp P ops Q i (fun a' w'=>S i w'/\dz P md ops Q S fuel (listed.setIfInBounds i true) a' w') a w
theorem aV:∀(fuel:Nat) (listed:Array Bool) (a:Act) (w:World),dz P md ops Q S fuel listed a w ->wpAny P md ops Q fuel listed a w
 |0,_,_,_,h=>h
 |fuel+1,_,_,_,h=>⟨h.1,fun i hi=>wpOp_mono (fun a' w' h'=>aV fuel _ a' w' h'.2) (h.2 i hi)⟩
theorem pT {oi:Oper} (hi:ops[i]? =some oi) (hsel:∀(j:Nat) (o:Oper) cs b,ops[j]? =some o ->o.op≠ .select cs b)
  (hQ:∀c a w,Q (.panic c) (a.put oi.dst v) w ->Q (.panic c) a w) (hTi:∀w,T w ->S i w):
  ∀(fuel:Nat) (listed:Array Bool) (a:Act) (w:World),
   (∀j oj,ops[j]? =some oj ->j≠i ->listed.getD j true=false ->(∀e∈oj.after,Region.binds md e=true ->e.on≠i) ->oi.apart ops oj=true/\∀w,S j w ->T w) ->
   i∈Region.ready md ops listed ->YieldsIf P ops T oi v a ->T w ->
   dz P md ops Q S fuel (listed.setIfInBounds i true) (a.put oi.dst v) w ->dz P md ops Q S (fuel+1) listed a w:=by
 intro fuel
 induction fuel with
 |zero=>
  intro listed a w _ hr hy hS H
  refine⟨fun h=>(by rw[h]at hr;cases hr),fun j hj=> ?_⟩
  by_cases hji:j=i
  ·subst hji;exact hy.wpOp hi hS ⟨hTi _ hS,H⟩
  ·have:=ready_mono hj hji
   rw[H.1]at this
   cases this
 |succ fuel ih=>
  intro listed a w hfree hr hy hS H
  refine⟨fun h=>(by rw[h]at hr;cases hr),fun j hj=> ?_⟩
  by_cases hji:j=i
  ·subst hji;exact hy.wpOp hi hS ⟨hTi _ hS,H⟩
  ·have h1:=H.2 j (ready_mono hj hji)
   obtain⟨hjun,oj,hoj,hall⟩:=mem_ready.1 hj
   have hnot:∀e∈oj.after,Region.binds md e=true ->e.on≠i:=fun e he hb heq=>by
    have h1:=hall e he hb
    have h0:=(mem_ready.1 hr).1
    rw[heq]at h1
    rcases Nat.lt_or_ge i listed.size with h'|h'
    ·simp[h']at h0 h1;rw[h0]at h1;cases h1
    ·simp[Array.getElem?_eq_none h']at h1
   have h2:=wpOp_putIf hoj (hfree j oj hoj hji hjun hnot).1 (fun cs b=>hsel i oi cs b hi) (fun cs b=>hsel j oj cs b hoj) hQ hy h1
   have hfree':∀k ok,ops[k]? =some ok ->k≠i ->(listed.setIfInBounds j true).getD k true=false ->
     (∀e∈ok.after,Region.binds md e=true ->e.on≠i) ->oi.apart ops ok=true/\∀w,S k w ->T w:=fun k ok hk hki hun hno=>by
    refine hfree k ok hk hki ?_ hno
    by_cases hjk:j=k
    ·subst hjk;exact hjun
    ·rw[getD_set_ne true hjk]at hun;exact hun
   refine wpOp_mono (fun a' w' h3=>⟨h3.2.1,ih (listed.setIfInBounds j true) a' w' hfree' (ready_mono hr (Ne.symm hji)) h3.1 ((hfree j oj hoj hji hjun hnot).2 _ h3.2.1) ?_⟩) h2
   rw[Array.setIfInBounds_comm _ _ hji]
   exact h3.2.2
def pM (md:Region.Mode) (ops:Array Oper) (listed:Array Bool) (f:Nat ->Bool) (i:Nat):Bool:=(List.range ops.size).all fun j=>f j||listed.getD j true||Region.waitsFor md ops j i
theorem cG {oi:Oper} {v:Value} {fuel:Nat} {listed:Array Bool} {a:Act} (f:Nat ->Bool) (hi:ops[i]? =some oi)
  (hs:Region.noSelect ops=true) (hf:Region.free md ops listed i=true) (hr:(Region.ready md ops listed).contains i=true) (hwa:pM md ops listed f i=true)
  (hST:∀j w,f j=true ->S j w ->T w) (hTi:∀w,T w ->S i w)
  (hQ:∀c a w,Q (.panic c) (a.put oi.dst v) w ->Q (.panic c) a w) (hS:T w) (hy:YieldsIf P ops T oi v a)
  (h:dz P md ops Q S fuel (listed.setIfInBounds i true) (a.put oi.dst v) w):dz P md ops Q S (fuel+1) listed a w:=by
 refine pT hi (Region.noSelect_spec hs) hQ hTi fuel listed a w (fun j oj hj hji hun hno=>⟨Region.free_spec hi hf j oj hj hji hun hno,fun w=>hST j w ?_⟩) (by simpa using hr) hy hS h
 have h1:=List.all_eq_true.1 hwa j (List.mem_range.2 (Array.getElem?_eq_some_iff.1 hj).1)
 simp only[Bool.or_eq_true,hun,Bool.false_eq_true,or_false]at h1
 rcases h1 with h1|h1
 ·exact h1
 ·obtain⟨o',ho',e,he,hb,hon⟩:=Region.waitsFor_spec h1
  have:o'=oj:=Option.some.inj (ho'.symm.trans hj)
  subst this
  exact absurd hon (hno e he hb)
theorem ae {oi:Oper} {fuel:Nat} {listed:Array Bool} {a:Act} (hi:ops[i]? =some oi) (hg:oi.guard=none)
  (hr:Region.ready md ops listed=[i])
  (h:∀K:Act ->World ->Prop,Hid (∀a' w',S i w' ->dz P md ops Q S fuel (listed.setIfInBounds i true) a' w' ->K a' w') ->oi.wp P a w K Q):dz P md ops Q S (fuel+1) listed a w:=by
 refine⟨fun h0=>absurd (hr▸h0) (by simp),fun j hj=> ?_⟩
 rw[hr,List.mem_singleton]at hj
 subst hj
 unfold wpOp
 simp only[hi]
 rw[if_pos (by simp[Region.wanted,hg])]
 exact .inl (h _ (fun a' w' h1 h2=>⟨h1,h2⟩))
theorem aP {listed:Array Bool} {a:Act} (hr:Region.ready md ops listed=[]) (h:Q .normal a w):
  ∀fuel,dz P md ops Q S fuel listed a w
 |0=>⟨hr,h⟩
 |_+1=>⟨fun _=>h,by rw[hr];simp⟩
theorem aQ {id:Nat} {a:Act} (hm:P.follows .mixedOrders=true)
  (h:wpAny P .any ops Q ops.size (Array.replicate ops.size false) a w.drew):(Code.region id ops true).wp P Q a w:=
 wp_region_any hm h
end
theorem _root_.Go.RowKit.Hid.O {p:Prop} (h:Go.RowKit.Hid p):p:=h
theorem exq {α:Sort _} (a:α):∃x,x=a:=⟨a,rfl⟩
theorem lx:(∀{α:Type} (l:List α) (i:Nat) (a:α),l.toArray.setIfInBounds i a=(l.set i a).toArray)/\(∀{α:Type} (x a:α) (l:List α),(x::l).set 0 a=a::l)/\(∀{α:Type} (x a:α) (l:List α) (i:Nat),(x::l).set (i+1) a=x::l.set i a)
 /\(∀{α:Type} (l:List α) (i:Nat) (h:i<l.toArray.size),l.toArray[i]=l[i]'(by simpa using h))/\(∀{α:Type} (x:α) (l:List α) (h:0<(x::l).length),(x::l)[0]=x)/\(∀{α:Type} (x:α) (l:List α) (i:Nat) (h:i+1<(x::l).length),(x::l)[i+1]=l[i]'(by simpa using h))
 /\(∀{α:Type} (l:List α),l.toArray.size=l.length)/\(∀{α:Type} (x:α) (l:List α),(x::l).length=l.length+1)/\(∀{α:Type},([]:List α).length=0):=by
 refine⟨?_,?_,?_,?_,?_,?_,?_,?_,?_⟩<;>intros<;>simp
section
variable {P:Program} {ops:Array Oper} {Q:Exit ->Act ->World ->Prop} {md:Region.Mode} {i:Nat} {oi:Oper} {v:Value} {fuel:Nat} {listed:Array Bool} {a:Act} {w:World} {n:Nat} {F:World ->Prop}
theorem tk (hi:ops[i]? =some oi) (hy:∀w',(execOp a.eval oi).run P w'= .ok (.value v) w') (h:wpAny P md ops Q fuel (listed.setIfInBounds i true) (a.put oi.dst v) w)
  (hs:Region.noSelect ops=true:=by kernel_rfl) (hf:Region.free md ops listed i=true:=by kernel_rfl) (hr:(Region.ready md ops listed).contains i=true:=by kernel_rfl)
  (hQ:∀c a w,Q (.panic c) (a.put oi.dst v) w ->Q (.panic c) a w:=by exact fun _ _ _ h=>h) (hw:Region.wanted oi (yielded ops a.tmps)=true:=by rfl):wpAny P md ops Q (fuel+1) listed a w:=
 wpAny_take hi hs hf hr hQ (Or.inl ⟨hw,hy⟩) h
theorem tkR (hi:ops[i]? =some oi) (h0:F w) (hy:YieldsIf P ops F oi v a) (h:dz P md ops Q (fun oi w'=>oi<n ->F w') fuel (listed.setIfInBounds i true) (a.put oi.dst v) w)
  (hs:Region.noSelect ops=true:=by kernel_rfl) (hf:Region.free md ops listed i=true:=by kernel_rfl) (hr:(Region.ready md ops listed).contains i=true:=by kernel_rfl) (hwa:pM md ops listed (fun oi=>decide (oi<n)) i=true:=by kernel_rfl)
  (hQ:∀c a w,Q (.panic c) (a.put oi.dst v) w ->Q (.panic c) a w:=by exact fun _ _ _ h=>h):dz P md ops Q (fun oi w'=>oi<n ->F w') (fuel+1) listed a w:=
 cG (T:=F) (fun oi=>decide (oi<n)) hi hs hf hr hwa (fun _ _ hj h=>h (by simpa using hj)) (fun _ h _=>h) hQ h0 hy h
theorem tkJ (hi:ops[i]? =some oi) (h0:F w) (hy:∀w',F w' ->(execOp a.eval oi).run P w'= .ok (.value v) w') (h:dz P md ops Q (fun oi w'=>oi<n ->F w') fuel (listed.setIfInBounds i true) (a.put oi.dst v) w)
  (hs:Region.noSelect ops=true:=by kernel_rfl) (hf:Region.free md ops listed i=true:=by kernel_rfl) (hr:(Region.ready md ops listed).contains i=true:=by kernel_rfl) (hwa:pM md ops listed (fun oi=>decide (oi<n)) i=true:=by kernel_rfl)
  (hQ:∀c a w,Q (.panic c) (a.put oi.dst v) w ->Q (.panic c) a w:=by exact fun _ _ _ h=>h) (hw:Region.wanted oi (yielded ops a.tmps)=true:=by rfl):dz P md ops Q (fun oi w'=>oi<n ->F w') (fuel+1) listed a w:=
 tkR hi h0 (Or.inl ⟨hw,hy⟩) h hs hf hr hwa hQ
end
def cz (x:Int):Bool:=decide (48<=x)&&decide (x<=57)
def et (x:Int):Bool:=(decide (97<=x)&&decide (x<=122))||(decide (65<=x)&&decide (x<=90))
def dq (x:Int):Bool:=et x||cz x||x==95
def Al (s:ByteArray):Bool:= !(s.size==0)&& !decide (60<s.size)&& !cz ((s.data.toList.headD 0).toNat:Int)&&s.data.toList.all (fun b=>dq (b.toNat:Int))
theorem cy {k:Nat} (hk:k<s.size):s.data.toList[k]? =some (s[k]'hk):=by
 rw[Array.getElem?_toList,Array.getElem?_eq_getElem (show k<s.data.size from hk)];rfl
theorem uT (hk:0<s.size):s.data.toList.headD 0=s[0]'hk:=by
 have h:=cy hk
 cases hl:s.data.toList with
 |nil=>rw[hl]at h;cases h
 |cons a r=>rw[hl]at h;simpa using h
theorem aF (s:ByteArray):s.data.toList.length=s.size:=by rw[Array.length_toList];rfl
theorem bD (h0:¬s.size=0):s.toList.isEmpty=false:=by
 rw[ByteArray.toList_eq,List.isEmpty_eq_false_iff]
 intro h
 have:=aF s
 rw[h]at this
 simp at this
 omega
abbrev Lab:=ByteArray×ByteArray
def zJ (l:Lab):Value:= .agg #[.string l.1,.string l.2]
def SL (w:World) (v:Value) (ls:List Lab):Prop:=
 (v= .slice none 0 0/\ls=[])\/∃b c,v= .slice (some ⟨b,0,none⟩) ls.length c/\b<w.heap.size/\∀j l,ls[j]? =some l ->w.cell? ⟨b,j*2,none⟩=some (.string l.1)/\w.cell? ⟨b,j*2+1,none⟩=some (.string l.2)
theorem SL.slice {ls:List Lab} (h:SL w v ls):∃p c,v= .slice p ls.length c:=by
 rcases h with⟨rfl,rfl⟩|⟨b,c,rfl,_⟩
 ·exact⟨_,_,rfl⟩
 ·exact⟨_,_,rfl⟩
theorem qv (a b:ByteArray) (w:World):
  Calls Tryz.prog 212 #[.string a,.string b] w fun e w'=>e= .returned (.int .i64 (Lib.compareBytes a.data.toList b.data.toList))/\w'=w:=Tryz.strings_Compare a b w
theorem qq (s:ByteArray) (w:World) (hlim:s.size<=281474976710656):
  Calls Tryz.prog 175 #[.string s] w fun e w'=>e= .returned (.string s)/\Below w.heap.size w w':=Tryz.stringslite_Clone s w hlim
theorem nK (s:ByteArray) (w:World) (hs:s.size<=281474976710656):
  Calls Tryz.prog 120 #[.string s] w fun e w'=>e= .returned (.string s)/\Ex [] w w':=by
 go_enter Tryz.func120,Tryz.ntmps120
 go_wp2_with fail
 refine (qq _ _ hs).mono ?_
 rintro e w' ⟨rfl,hb⟩
 have HB:=aa hb
 clear hb
 go_wp2_with fail
 go_ret
 exact⟨rfl,Ex.below HB.out⟩
def kM (a b:ByteArray):Int:=Lib.compareBytes a.data.toList b.data.toList
theorem tr (l:Lab) (t:ByteArray) (w:World):
  Calls Tryz.prog 211 #[zJ l,.string t] w fun e w'=>e= .returned (.int .i64 (kM l.1 t))/\Ex [] w w':=by
 obtain⟨a,b⟩:=l
 unfold zJ
 go_enter Tryz.func211,Tryz.ntmps211
 go_wp2_with fail
 refine (qv _ _ _).mono ?_
 rintro e w' ⟨rfl,rfl⟩
 go_wp2_with fail
 go_ret
 exact⟨rfl,(Ex.refl _ _).alloc _⟩
def fO (ls:List Lab) (t:ByteArray):Nat:=(ls.takeWhile fun l=>decide (kM l.1 t<0)).length
def eu (ls:List Lab) (t:ByteArray):Bool:=match ls[fO ls t]? with|some l=>kM l.1 t==0|none=>false
def eI (ls:List Lab) (t:ByteArray):Prop:=∀(a b:Nat) (x y:Lab),a<=b ->ls[a]? =some x ->ls[b]? =some y ->kM y.1 t<0 ->kM x.1 t<0
theorem yJ:∀{ls:List Lab} {t:ByteArray} {i:Nat},i<=ls.length ->(∀k l,k<i ->ls[k]? =some l ->kM l.1 t<0) ->(∀k l,i<=k ->ls[k]? =some l ->¬kM l.1 t<0) ->fO ls t=i:=by
 intro ls t
 induction ls with
 |nil=>intro i hi _ _;simp at hi;subst hi;rfl
 |cons a r ih=>
  intro i hi h1 h2
  cases i with
  |zero=>
   have:=h2 0 a (Nat.le_refl _) rfl
   simp[fO,List.takeWhile_cons,this]
  |succ i=>
   have ha:=h1 0 a (by omega) rfl
   have:=ih (i:=i) (by simpa using hi) (fun k l hk hl=>h1 (k+1) l (by omega) (by simpa using hl)) (fun k l hk hl=>h2 (k+1) l (by omega) (by simpa using hl))
   simp only[fO,List.takeWhile_cons,ha,decide_true,if_true,List.length_cons]
   unfold fO at this
   omega
theorem eZ (v:Value) (ls:List Lab) (t:ByteArray) (w:World) (hv:SL w v ls) (hn:ls.length<=1000) (hsrt:eI ls t):
  Calls Tryz.prog 210 #[v,.string t,.func (.func 211) #[] #[]] w fun e w'=>e= .returned (.tuple #[.int .i64 (fO ls t),.bool (eu ls t)])/\Ex [] w w':=by
 have HV:=aa hv
 have HS:=aa hsrt
 obtain⟨p,c,rfl⟩:=hv.slice
 clear hv hsrt
 go_enter Tryz.func210,Tryz.ntmps210
 go_wp2_with fail
 go_loopg [9,10] ls.length (fun gk i j wr=>∃a b:Nat,b-a<=gk/\a<=b/\b<=ls.length/\i= .int .i64 a/\j= .int .i64 b/\(∀k l,k<a ->ls[k]? =some l ->kM l.1 t<0)/\(∀k l,b<=k ->ls[k]? =some l ->¬kM l.1 t<0)/\Ex [] w wr)
 case atStart=>exact⟨0,ls.length,by omega,by omega,by omega,rfl,rfl,fun k l h=>by omega,fun k l h hl=>(by rw[List.getElem?_eq_none h]at hl;cases hl),Ex.refl _ _⟩
 case round=>
  obtain⟨a,b,hg,hab,hbl,rfl,rfl,h1,h2,hx⟩:=hrel
  have H1:=aa h1
  have H2:=aa h2
  have HX:=aa hx
  by_cases hlt:a<b
  ·have hlt':(a:Int)<(b:Int):=by omega
   obtain⟨h,hh⟩:∃h:Nat,((a:Int)+(b:Int))/2=(h:Int):=⟨(a+b)/2,by omega⟩
   have hha:a<=h:=by omega
   have hhb:h<b:=by omega
   have hhl:h<ls.length:=by omega
   have hhl':(h:Int)<(ls.length:Int):=by omega
   obtain⟨l,hl⟩:∃l,ls[h]? =some l:=⟨_,List.getElem?_eq_getElem hhl⟩
   have HLJ:=aa hl
   obtain⟨b',c',rfl,hb,c0,c1⟩:∃b' c',p=some ⟨b',0,none⟩/\b'<wr.heap.size/\wr.cell? ⟨b',h*2,none⟩=some (.string l.1)/\wr.cell? ⟨b',h*2+1,none⟩=some (.string l.2):=by
    rcases HV.out with⟨h1,h2⟩|⟨b',c',h1,hb,hc⟩
    ·rw[h2]at hhl;simp at hhl
    ·cases h1
     obtain⟨h3,h4⟩:=hc h l hl
     exact⟨b',0,rfl,Nat.lt_of_lt_of_le hb hx.size,by rw[hx.cell0.1 b' _ hb];exact h3,by rw[hx.cell0.1 b' _ hb];exact h4⟩
   clear h1 h2 hx hl
   go_wp2_with fail
   refine (tr l t _).mono ?_
   rintro e w' ⟨rfl,hx1⟩
   have HX1:=aa hx1
   clear hx1
   by_cases hc:kM l.1 t<0
   ·have HC:=aa hc
    go_wp2_with fail
    go_roundg (gk-1)
    case measure=>omega
    case rel=>
     refine⟨h+1,b,by omega,by omega,by omega,by simp,rfl,fun k l' hk hl'=> ?_,H2.out,HX.out.trans HX1.out⟩
     exact HS.out k h l' l (by omega) hl' HLJ.out HC.out
   ·have HC:=aa hc
    have hc':0<=kM l.1 t:=by omega
    clear hc
    go_wp2_with fail
    go_roundg (gk-1)
    case measure=>omega
    case rel=>
     refine⟨a,h,by omega,by omega,by omega,rfl,by simp,H1.out,fun k l' hk hl'=>Int.not_lt.1 fun hlt2=> ?_,HX.out.trans HX1.out⟩
     exact absurd (HS.out h k l l' hk HLJ.out hl' hlt2) (by have:=HC.out;omega)
  ·obtain rfl:a=b:=by omega
   have hpos:fO ls t=a:=yJ hbl h1 h2
   have HP:=aa hpos
   clear hpos hlt h1 h2
   by_cases hal:a<ls.length
   ·have hal':(a:Int)<(ls.length:Int):=by omega
    obtain⟨l,hl⟩:∃l,ls[a]? =some l:=⟨_,List.getElem?_eq_getElem hal⟩
    have HLJ:=aa hl
    obtain⟨b,c',rfl,hb,c0,c1⟩:∃b c',p=some ⟨b,0,none⟩/\b<wr.heap.size/\wr.cell? ⟨b,a*2,none⟩=some (.string l.1)/\wr.cell? ⟨b,a*2+1,none⟩=some (.string l.2):=by
     rcases HV.out with⟨h1,h2⟩|⟨b,c',h1,hb,hc⟩
     ·rw[h2]at hal;simp at hal
     ·cases h1
      obtain⟨h3,h4⟩:=hc a l hl
      exact⟨b,0,rfl,Nat.lt_of_lt_of_le hb hx.size,by rw[hx.cell0.1 b _ hb];exact h3,by rw[hx.cell0.1 b _ hb];exact h4⟩
    clear hx hl
    go_wp2_with fail
    refine (tr l t _).mono ?_
    rintro e w' ⟨rfl,hx1⟩
    have HX1:=aa hx1
    clear hx1
    go_wp2_with fail
    go_ret2
    refine⟨?_,HX.out.trans HX1.out⟩
    simp[eu,af HP,HLJ.out]
   ·obtain rfl:a=ls.length:=by omega
    clear hx hal
    go_wp2_with fail
    go_ret2
    refine⟨?_,HX.out⟩
    simp[eu,af HP]
structure LS (w:World) (q base:Nat) (ls:List Lab):Prop where
 lt:q<base
 le:base<=w.heap.size
 ex:∃v,BK w q (.cells #[v] 250 (0,0))/\w.ownsRow base 167 2 v ls.length (ls.flatMap fun l=>[.string l.1,.string l.2])
theorem eD:∀(ls:List Lab) (j:Nat) (l:Lab),ls[j]? =some l ->(ls.flatMap fun l=>[Value.string l.1,Value.string l.2])[j*2]? =some (.string l.1)/\(ls.flatMap fun l=>[Value.string l.1,Value.string l.2])[j*2+1]? =some (.string l.2)
 |[],j,l,h=>by simp at h
 |a::r,0,l,h=>by simp at h;subst h;simp
 |a::r,j+1,l,h=>by
  have:=eD r j l (by simpa using h)
  simp only[List.flatMap_cons,List.cons_append,List.nil_append]
  rw[show (j+1)*2=j*2+1+1 by omega]
  simpa using this
theorem xl {ls:List Lab} (h:w.ownsRow base 167 2 v ls.length (ls.flatMap fun l=>[.string l.1,.string l.2])):SL w v ls:=by
 rcases h.2 with⟨rfl,h2⟩|⟨g,cap,cur,rfl,hb,hg,hn,hm,hs,ht⟩
 ·exact .inl ⟨rfl,List.length_eq_zero_iff.1 h2⟩
 ·refine .inr ⟨g,cap,rfl,(Array.getElem?_eq_some_iff.1 hg).1,fun j l hj=> ?_⟩
  have hjl:j<ls.length:=(List.getElem?_eq_some_iff.1 hj).1
  have h1:=eD ls j l hj
  rw[cell_of_row w g _ cur _ _ hg,cell_of_row w g _ cur _ _ hg]
  rw[<-ht,List.getElem?_take,List.getElem?_take,if_pos (by omega),if_pos (by omega)]at h1
  simpa using h1
theorem wk (q base:Nat) (ls:List Lab) (t:ByteArray) (w:World) (hq:LS w q base ls) (hn:ls.length<=1000) (hsrt:eI ls t):
  Calls Tryz.prog 171 #[.pointer (some ⟨q,0,none⟩),.string t] w fun e w'=>e= .returned (.tuple #[.int .i64 (fO ls t),.bool (eu ls t)])/\Ex [] w w':=by
 obtain⟨v,hb,ho⟩:=hq.ex
 obtain⟨hc,hf⟩:=hb.all
 have HO:=aa ho
 have HS:=aa hsrt
 clear hq hb ho hsrt
 go_enter Tryz.func171,Tryz.ntmps171
 go_wp2_with fail
 refine (eZ v ls t _ (xl HO.out) hn HS.out).mono ?_
 rintro e w' ⟨rfl,hx1⟩
 have HX1:=aa hx1
 clear hx1
 go_wp2_with fail
 go_ret2
 exact⟨rfl,HX1.out⟩
theorem Ex.setRow (h:Ex l a w) (hg:g∈l\/a.heap.size<=g) (cs:Array Value):Ex l a (w.setRow g cs):=
 ⟨h.os,h.tape,h.output,by simpa using h.size,fun k hk hn=>by
  rw[setRow_other w g k cs (by rintro rfl;rcases hg with hg|hg;(·exact hn hg);·omega)];exact h.block k hk hn⟩
theorem nj {P:Program} (w:World) (t e ty:TypeId) (z:Value) (ht:P.underlying t=some (.slice e)) (hv:∀w,(zeroValue e).run P w= .ok z w)
  (zs:List Value) (hzs:(Builtin.zeroCells z.cells 1).toList=zs) (h1:∀v∈zs,v.oneCell'=true) (g o c:Nat) (cur:Array Value) (te:TypeId)
  (hg:w.heap[g]? =some (.cells cur te (0,0))) (hl:o+zs.length<=cur.size):
  (Builtin.clear_ #[t] ty #[.slice (some ⟨g,o,none⟩) 1 c]).run P w= .ok (.tuple #[]) (w.setRow g (cur.toList.take o++zs++cur.toList.drop (o+zs.length)).toArray):=by
 have hst:=run_storeCells_at P g o te zs 0 cur w hg (by simpa using hl) h1
 simp only[Nat.add_zero]at hst
 simp[Builtin.clear_,run_underlying ht,hv,hzs,hst]
theorem gQ {P:Program} (w:World) (t e ty:TypeId) (z:Value) (ht:P.underlying t=some (.slice e)) (hv:∀w,(zeroValue e).run P w= .ok z w)
  (zs:List Value) (hzs:(Builtin.zeroCells z.cells 1).toList=zs) (h1:∀v∈zs,v.oneCell'=true) (base sz g n m cap c:Nat) (xs:List Value)
  (hz:zs.length=sz) (hm:m+1<=cap) (hnm:n<=m) (hown:w.ownsRow base e sz (.slice (some ⟨g,0,none⟩) n cap) n xs):
  ∃w',(Builtin.clear_ #[t] ty #[.slice (some ⟨g,m*sz,none⟩) 1 c]).run P w= .ok (.tuple #[]) w'/\w'.ownsRow base e sz (.slice (some ⟨g,0,none⟩) n cap) n xs/\Ex [g] w w':=by
 rcases hown.2 with⟨h,_⟩|⟨g',cap',cur,h,hbg,hg,hnc,hcm,hcs,htake⟩
 ·cases h
 ·cases h
  have hle:m*sz+zs.length<=cur.size:=by rw[hcs,hz,<-Nat.succ_mul];exact Nat.mul_le_mul_right _ hm
  have hnl:n*sz<=m*sz:=Nat.mul_le_mul_right _ hnm
  refine⟨_,nj w t e ty z ht hv zs hzs h1 g (m*sz) c cur e hg hle,⟨hown.1,.inr ⟨g,cap,_,rfl,hbg,setRow_heap w g cur _ e (0,0) hg,hnc,hcm,?_,?_⟩⟩,(Ex.refl _ _).setRow (.inl (by simp)) _⟩
  ·simp only[List.size_toArray,List.length_append,List.length_take,List.length_drop,Array.length_toList]
   omega
  ·rw[<-htake,List.toList_toArray,List.append_assoc,List.take_append_of_le_length (by simp;omega),List.take_take,Nat.min_eq_left hnl]
theorem mq {e sz cap:Nat} (h:w.ownsRow base e sz (.slice (some ⟨g,0,none⟩) n cap) n xs) (hi:i<=n):
  w.ownsRow base e sz (.slice (some ⟨g,0,none⟩) i cap) i (xs.take (i*sz)):=by
 have hle:i*sz<=n*sz:=Nat.mul_le_mul_right _ hi
 rcases h.2 with⟨h',_⟩|⟨g',cap',cur,h',hbg,hg,hnc,hcm,hcs,htake⟩
 ·cases h'
 ·cases h'
  refine⟨by rw[List.length_take,h.1];exact Nat.min_eq_left hle,.inr ⟨g,cap,cur,rfl,hbg,hg,by omega,hcm,hcs,?_⟩⟩
  rw[<-htake,List.take_take,Nat.min_eq_left hle]
theorem jv {e sz cap:Nat} (h:w.ownsRow base e sz (.slice (some ⟨g,0,none⟩) n cap) n xs) {j:Nat} {u:Value} (hj:xs[j]? =some u):
  w.cell? ⟨g,j,none⟩=some u:=by
 rcases h.2 with⟨h',_⟩|⟨g',cap',cur,h',hbg,hg,hnc,hcm,hcs,htake⟩
 ·cases h'
 ·cases h'
  have hjl:j<n*sz:=by rw[<-h.1];exact (List.getElem?_eq_some_iff.1 hj).1
  rw[cell_of_row w g _ cur _ _ hg]
  rw[<-htake,List.getElem?_take,if_pos hjl]at hj
  simpa using hj
theorem gF {P:Program} {ops:Array Oper} {o:Oper} {a:Act} {K:Act ->World ->Prop} {Q:Exit ->Act ->World ->Prop} {E:Prop}
  (hg:o.guard=none) (s x:Operand) (t:TypeId) (hop:o.op=Op.call {callee:=Callee.builtin Builtin.append,args:= #[s,x],argTypes:= #[t,t]})
  (v u:Value) (hd:a.eval s=v) (hx:a.eval x=u) {v':Value} {w':World} (hr:(Builtin.append_ #[t,t] o.type #[v,u]).run P w= .ok v' w') (hK:K (a.put o.dst v') w'):
  if Region.wanted o (yielded ops a.tmps)=true then Oper.wp P o a w K Q else E:=by
 have hw:Region.wanted o (yielded ops a.tmps)=true:=by simp[Region.wanted,hg]
 rw[if_pos hw]
 unfold Oper.wp
 simp[execOp,hop,resolve,invoke,builtin,hd,hx,hr,Result.andThen]
 exact hK
theorem fW {P:Program} (w:World) {ops:Array Oper} {rest:List Oper} {o:Oper} {a:Act} {Q:Exit ->Act ->World ->Prop} (hgd:o.guard=none) (s:Operand) (t:TypeId)
  (ho:o.op= .call {callee:= .builtin .clear,args:= #[s],argTypes:= #[t]}) (v:Value) (hs:a.eval s=v) {v':Value} {w':World}
  (hr:(Builtin.clear_ #[t] o.type #[v]).run P w= .ok v' w') (h:wpList P ops Q rest (a.put o.dst v') w'):wpList P ops Q (o::rest) a w:=by
 refine wpList_plain hgd fun K hK=> ?_
 unfold Oper.wp
 simp[execOp,ho,resolve,invoke,builtin,hs,hr,Result.andThen]
 exact hK _ _ h
def tl (xs:List Value):Prop:=∀u∈xs,u.oneCell'=true
theorem kU:(Tryz.prog.info? 167).map (fun i=>(i.zero,i.size,i.bytes))=some (some (.agg #[.string ⟨#[]⟩,.string ⟨#[]⟩]),2,32):=by kernel_rfl
theorem uv (w:World):(zeroValue 167).run Tryz.prog w= .ok (.agg #[.string ⟨#[]⟩,.string ⟨#[]⟩]) w:=by kernel_rfl
theorem uL (base g n cap i:Nat) (xs:List Value) (w:World) (hown:w.ownsRow base 167 2 (.slice (some ⟨g,0,none⟩) n cap) n xs) (hi:i<n) (hn:n<=1000) (hp:tl xs):
  Calls Tryz.prog 172 #[.slice (some ⟨g,0,none⟩) n cap,.int .i64 i,.int .i64 ((i+1:Nat):Int)] w fun e w'=>e= .returned (.slice (some ⟨g,0,none⟩) (n-1) cap)/\
   w'.ownsRow base 167 2 (.slice (some ⟨g,0,none⟩) (n-1) cap) (n-1) (xs.take (i*2)++xs.drop ((i+1)*2))/\Ex [g] w w':=by
 obtain⟨t0,hti,hzz0,hzz1,hzz2⟩:=info_parts kU
 have hnc:n<=cap/\cap<=maxLen:=by
  rcases hown.2 with⟨h,_⟩|⟨g',cap',cur,h,hbg,hg,hnc,hcm,_⟩
  ·cases h
  ·cases h;exact⟨hnc,hcm⟩
 obtain⟨hnc,hcm⟩:=hnc
 have HO:=aa hown
 have hcm':cap<=9223372036854775807:=hcm
 clear hown hcm
 have h1:(i:Int)<(n:Int):=by omega
 have h2:(i:Int)+1<=(n:Int):=by omega
 have h3:i<=cap:=by omega
 have h4:((i:Int)+1).toNat=i+1:=by omega
 have h5:i+1<=n:=by omega
 have h6:(0:Int)<=(i:Int)+1:=by omega
 by_cases hc:cap=i+1
 ·have hni:n=i+1:=by omega
  subst hc
  subst hni
  obtain⟨w1,hr1,ho1,hg1⟩:=run_append_fits (P:=Tryz.prog) (w:=w.drew) base 41 41 167 t0 2 Tryz.underlying41 hti hzz1 g i (i+1) _ (mq HO.out.drew (Nat.le_of_lt hi)) ⟨g,0,none⟩ 0 0 []
   rfl (fun j u hj=>by simp at hj) (fun u hu=>by simp at hu) (by omega)
  have hdr:xs.drop ((i+1)*2)=[]:=List.drop_of_length_le (by rw[HO.out.1];exact Nat.le_refl _)
  rw[hdr]
  have HO1:=aa ho1
  have HG1:=aa hg1
  clear ho1 hg1 hdr
  simp only[Nat.add_zero]at hr1
  have h10:(i:Int)<=(i:Int)+1:=by omega
  go_enter Tryz.func172,Tryz.ntmps172
  go_wp2_with fail
  go_region_law (refine gF rfl _ _ 41 rfl (.slice (some ⟨g,0,none⟩) i (i+1)) (.slice (some ⟨g,0,none⟩) 0 0) (by simp[Act.eval,Act.put]) (by simp[Act.eval,Act.put]) hr1 ?_)
  obtain⟨w2,hr2,ho2,hx2⟩:=gQ (P:=Tryz.prog) w1 41 167 0 _ Tryz.underlying41 uv [.string ⟨#[]⟩,.string ⟨#[]⟩] (by kernel_rfl) (by simp[Value.oneCell']) base 2 g i i (i+1) 1 _ rfl (by omega) (by omega) HO1.out
  have HO2:=aa ho2
  have HX2:=aa hx2
  clear ho2 hx2 hr1
  go_wp2_with (at_builtin;refine fW _ rfl _ 41 rfl _ rfl hr2 ?_)
  go_ret
  exact⟨by simp,by simpa using HO2.out,((Ex.refl _ _).drew.grown HG1.out (fun k hk=>by cases hk;exact .inl (by simp))).trans HX2.out⟩
 ·obtain⟨w1,hr1,ho1,hg1⟩:=run_append_fits (P:=Tryz.prog) (w:=w.drew) base 41 41 167 t0 2 Tryz.underlying41 hti hzz1 g i cap _ (mq HO.out.drew (Nat.le_of_lt hi)) ⟨g,(i+1)*2,none⟩ (n-(i+1)) (cap-(i+1)) (xs.drop ((i+1)*2))
   (by rw[List.length_drop,HO.out.1];omega) (fun j u hj=>by rw[Addr.add_lit];exact jv HO.out.drew (by rwa [List.getElem?_drop]at hj)) (fun u hu=>hp u (List.mem_of_mem_drop hu)) (by omega)
  rw[show i+(n-(i+1))=n-1 by omega]at hr1 ho1
  have HO1:=aa ho1
  have HG1:=aa hg1
  clear ho1 hg1
  go_enter Tryz.func172,Tryz.ntmps172
  go_wp2_with fail
  go_region_law (refine gF rfl _ _ 41 rfl (.slice (some ⟨g,0,none⟩) i cap) (.slice (some ⟨g,(i+1)*2,none⟩) (n-(i+1)) (cap-(i+1))) (by simp[Act.eval,Act.put]) (by simp[Act.eval,Act.put]) hr1 ?_)
  obtain⟨w2,hr2,ho2,hx2⟩:=gQ (P:=Tryz.prog) w1 41 167 0 _ Tryz.underlying41 uv [.string ⟨#[]⟩,.string ⟨#[]⟩] (by kernel_rfl) (by simp[Value.oneCell']) base 2 g (n-1) (n-1) cap (cap-(n-1)) _ rfl (by omega) (by omega) HO1.out
  have HO2:=aa ho2
  have HX2:=aa hx2
  clear ho2 hx2 hr1
  have h7:n-(n-1)=1:=by omega
  have h8:n-1<=n:=by omega
  have h9:¬cap=n-1:=by omega
  go_wp2_with (at_builtin;refine fW _ rfl _ 41 rfl _ rfl hr2 ?_)
  go_ret
  exact⟨rfl,HO2.out,((Ex.refl _ _).drew.grown HG1.out (fun k hk=>by cases hk;exact .inl (by simp))).trans HX2.out⟩
end Go.Proofs.YtfnanjbleifjkaaGreatDoor
