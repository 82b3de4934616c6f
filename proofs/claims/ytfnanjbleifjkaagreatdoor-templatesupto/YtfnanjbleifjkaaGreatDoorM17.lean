import Derived.Laws.IdiomStrings
import Derived.Laws.BitsAllLaws
import Derived.Test.YtfnanjbleifjkaaGreatDoorM16
set_option linter.unusedVariables false
set_option linter.unusedSimpArgs false
set_option maxHeartbeats 4000000
set_option maxRecDepth 100000
namespace Go.Proofs.YtfnanjbleifjkaaGreatDoor.G
open Go.Lib
def Srt (ls:List Lab):Prop:=∀(a b:Nat) (x y:Lab),a<b ->ls[a]? =some x ->ls[b]? =some y ->kM x.1 y.1<0
structure LOK (ls:List Lab):Prop where
 srt:Srt ls
 len:ls.length<=60
 nam:∀l∈ls,Al l.1=true
 val:∀l∈ls,l.2.size<=200/\¬l.2.size=0
end Go.Proofs.YtfnanjbleifjkaaGreatDoor.G
namespace Go.Proofs.YtfnanjbleifjkaaGreatDoor
open Go.RowKit
def zZ (ls:List Lab) (t:ByteArray):ByteArray:=if eu ls t then match ls[fO ls t]? with|some l=>l.2|none=>⟨#[]⟩else ⟨#[]⟩
end Go.Proofs.YtfnanjbleifjkaaGreatDoor
namespace Go.Proofs.YtfnanjbleifjkaaGreatDoor.G
open Go.RowKit
def Aj (ss:List ByteArray) (se:ByteArray):ByteArray:=⟨(Lib.join (ss.map (·.data.toList)) se.data.toList).toArray⟩
def uj (ls:List Lab) (ss:List ByteArray) (se:ByteArray):ByteArray:=Aj (ss.map (zZ ls)) se
def iz (b:Int) (i:Nat):Bool:=bits BinOp.and IntKind.u64 (b/2^i) 1==1
theorem fF (b i:Nat) (hb:b<18446744073709551616):iz (b:Int) i=b.testBit i:=by
 unfold iz
 have h1:((b:Int)/2^i)=((b/2^i:Nat):Int):=by push_cast;rfl
 have h2:b/2^i<18446744073709551616:=Nat.lt_of_le_of_lt (Nat.div_le_self _ _) hb
 rw[h1,show (1:Int)=((1:Nat):Int)from rfl,u64_and_nat _ _ h2 (by decide),nat_mask1,Nat.testBit_eq_decide_div_mod_eq]
 have:(b/2^i)%2<2:=Nat.mod_lt _ (by decide)
 rcases (show (b/2^i)%2=0\/(b/2^i)%2=1 by omega)with h|h<;>rw[h]<;>decide
def bO (sl:List Int):List Value:=sl.map (Value.int .i64)
theorem lV (sl:List Int):(bO sl).length=sl.length:=by simp[bO]
theorem jo (sl:List Int) (i:Nat):(bO sl)[i]? =(sl[i]?).map (Value.int .i64):=by simp[bO]
theorem lW (sl:List Int) (i:Nat) (x:Int):(bO sl).set i (.int .i64 x)=bO (sl.set i x):=by simp[bO]
def fM (b pl:Int):Nat ->List Int ->List Int
 |0,sl=>sl
 |n+1,sl=>if iz b n then (fM b pl n sl).set n pl else fM b pl n sl
theorem eK (b pl:Int) (n:Nat) (sl:List Int):(fM b pl n sl).length=sl.length:=by
 induction n with
 |zero=>rfl
 |succ n ih=>simp only[fM];split<;>simp[ih]
def dg (b pl:Int) (sl:List Int):List Int:=fM b pl 10 sl
theorem ten {sl:List Int} (h:sl.length=10):∃y0 y1 y2 y3 y4 y5 y6 y7 y8 y9,sl=[y0,y1,y2,y3,y4,y5,y6,y7,y8,y9]:=by
 match sl,h with
 |[y0,y1,y2,y3,y4,y5,y6,y7,y8,y9],_=>exact⟨y0,y1,y2,y3,y4,y5,y6,y7,y8,y9,rfl⟩
theorem lX (y0 y1 y2 y3 y4 y5 y6 y7 y8 y9:Int):(bO [y0,y1,y2,y3,y4,y5,y6,y7,y8,y9]).toArray= #[.int .i64 y0,.int .i64 y1,.int .i64 y2,.int .i64 y3,.int .i64 y4,.int .i64 y5,.int .i64 y6,.int .i64 y7,.int .i64 y8,.int .i64 y9]:=rfl
theorem pF (sl:List Int) (h:sl.length=10):(Tryz.prog.info? 121).map (·.size)=some (bO sl).length:=by
 rw[lV,h];kernel_rfl
theorem sH (b pl:Int) (sl:List Int) (hl:sl.length=10) (w:World):
  Calls Tryz.prog 91 #[.agg (bO sl).toArray,.int .u64 b,.int .i64 pl] w fun e w'=>e= .returned (.agg (bO (dg b pl sl)).toArray)/\Ex [] w w':=by
 have h90:=Tryz.underlying121
 go_enter Tryz.func91,Tryz.ntmps91
 go_wp2_with fail
 go_loopg [8] 10 (fun gk i8 wr=>∃i:Nat,i+gk=10/\i8= .int .i64 i/\BK wr w.heap.size (.cells (bO (fM b pl i sl)).toArray 121 (0,0))/\BK wr (w.heap.size+1) (.cells #[.int .i64 0,.int .i64 0,.int .i64 0,.int .i64 0,.int .i64 0,.int .i64 0,.int .i64 0,.int .i64 0,.int .i64 0,.int .i64 0] 121 (0,0))/\Ex [] w wr)
 case atStart=>
  refine⟨0,by omega,rfl,(BK.new _ _).alloc _,?_,((Ex.refl _ _).alloc _).alloc _⟩
  have:=BK.new (w.alloc (Obj.cells (bO sl).toArray 121)) (Obj.cells #[.int .i64 0,.int .i64 0,.int .i64 0,.int .i64 0,.int .i64 0,.int .i64 0,.int .i64 0,.int .i64 0,.int .i64 0,.int .i64 0] 121)
  simpa using this
 case round=>
  obtain⟨i,hgi,rfl,hb0,hb1,hx⟩:=hrel
  have HX:=aa hx
  have HB0:=aa hb0
  have HB1:=aa hb1
  have hl0:=hb0.lt
  have hl1:=hb1.lt
  clear hx
  cases gk with
  |zero=>
   obtain rfl:i=10:=by omega
   have hml:(fM b pl 10 sl).length=10:=by rw[eK,hl]
   obtain⟨y0,y1,y2,y3,y4,y5,y6,y7,y8,y9,hy⟩:=ten hml
   rw[hy,lX]at hb0
   have HY:=aa hy
   obtain⟨hc0,hf0⟩:=hb0.all
   obtain⟨hc1,hf1⟩:=hb1.all
   clear hb0 hb1 hml hy
   go_wp2_with fail
   refine bodyPost_ret (v:= .agg #[.int .i64 y0,.int .i64 y1,.int .i64 y2,.int .i64 y3,.int .i64 y4,.int .i64 y5,.int .i64 y6,.int .i64 y7,.int .i64 y8,.int .i64 y9]) (by simp[results,Tryz.results91,go_sem,hc1]) rfl ⟨by rw[dg,HY.O,lX],?_⟩
   repeat (refine Ex.setCell ?_ (Or.inr (by simp)) _)
   exact HX.O
  |succ g=>
   have hi:i<10:=by omega
   have hi':(i:Int)<10:=by omega
   have hlen:(fM b pl i sl).length=10:=by rw[eK,hl]
   obtain⟨hc0,hf0⟩:=hb0.all
   have hk:=hc0 i
   have hkf:=hf0 i
   rw[List.getElem?_toArray,jo,List.getElem?_eq_getElem (by omega)]at hk
   simp only[Option.map_some]at hk
   clear hb0 hb1 hc0 hf0
   cases hbit:iz b i with
   |true=>
    have hbt:(bits BinOp.and IntKind.u64 (b/2^i) 1==1)=true:=hbit
    go_wp2_with fail
    go_roundg g
    case measure=>omega
    case rel=>
     refine⟨i+1,by omega,by simp,?_,HB1.O.set (by simp) _,HX.O.setCell (Or.inr (by simp)) _⟩
     simp only[fM,hbit,if_true]
     rw[<-lW]
     exact BK.selfL HB0.O i _
   |false=>
    have hbt:(bits BinOp.and IntKind.u64 (b/2^i) 1==1)=false:=hbit
    go_wp2_with fail
    go_roundg g
    case measure=>omega
    case rel=>exact⟨i+1,by omega,by simp,by simp only[fM,hbit];exact HB0.O,HB1.O,HX.O⟩
theorem sE:(Tryz.prog.info? 207).map (fun i=>(i.zero,i.size,i.bytes))=some (some (.agg #[.int .i64 0,.int .i64 0,.int .i64 0,.int .i64 0,.int .i64 0,.int .i64 0,.int .i64 0,.int .i64 0,.int .i64 0,.int .i64 0,.int .i64 0]),11,88):=by kernel_rfl
structure Way where
 «to»:Nat
 bits:Int
structure Th where
 pc:Nat
 sl:List Int
def pN (ws:List Way):List Value:=ws.flatMap fun x=>[.int .i64 x.to,.int .u64 x.bits]
def thC (t:Th):List Value:= .int .i64 t.pc::bO t.sl
def thL (ts:List Th):List Value:=ts.flatMap thC
theorem xL (ts:List Th) (t:Th):thL (ts++[t])=thL ts++thC t:=by simp[thL]
theorem uq (ws:List Way) (i:Nat) (hi:i<ws.length):(pN ws)[i*2]? =some (.int .i64 ws[i].to)/\(pN ws)[i*2+1]? =some (.int .u64 ws[i].bits):=by
 induction ws generalizing i with
 |nil=>simp at hi
 |cons x ws ih=>
  have h1:pN (x::ws)=[.int .i64 x.to,.int .u64 x.bits]++pN ws:=rfl
  rw[h1]
  cases i with
  |zero=>exact⟨rfl,rfl⟩
  |succ i=>
   rw[List.getElem?_append_right (by simp;omega),List.getElem?_append_right (by simp;omega)]
   have h2:=ih i (by simpa using hi)
   simp only[List.length_cons,List.length_nil,List.getElem_cons_succ]
   rw[show (i+1)*2-(0+1+1)=i*2 by omega,show (i+1)*2+1-(0+1+1)=i*2+1 by omega]
   exact h2
def aY (sl:List Int) (pl:Int):List Way ->List Th×List Int ->List Th×List Int
 |[],s=>s
 |x::ws,s=>if s.2[x.to]? =some pl then aY sl pl ws s else aY sl pl ws (s.1++[⟨x.to,dg x.bits pl sl⟩],s.2.set x.to pl)
theorem lK (u gr gw cw n base:Nat) (pa:Option Addr) (pl:Int) (pv nowV nextV:Value) (w:World) (rc:List Int) (ts:List Th) (ws:List Way) (sl:List Int) (hsl:sl.length=10)
  (hnow:w.ownsRow base 207 11 nowV ts.length (thL ts))
  (hu:BK w u (.cells #[pv,nowV,nextV,.slice (some ⟨gr,0,none⟩) n n] 202 (0,0))) (hgr:BK w gr (.cells (bO rc).toArray 3 (0,0))) (hrc:rc.length=n) (hn:n<=100000) (hts:ts.length+ws.length<=500000)
  (hws:∀x∈ws,x.to<n) (hbu:u<base) (hbg:gr<base) (hug:u≠gr) (hbw:base<=w.heap.size)
  (hpa:ws≠[] ->pa=some ⟨gw,0,none⟩) (hwc:∀j,j<ws.length*2 ->w.cell? ⟨gw,j,none⟩=(pN ws)[j]?) (hgw:gw<base) (hgu:gw≠u) (hgg:gw≠gr):
  Calls Tryz.prog 51 #[.pointer (some ⟨u,0,none⟩),.slice pa ws.length cw,.agg (bO sl).toArray,.int .i64 pl] w fun e w'=>e= .returned (.tuple #[])/\
   ∃nowV',BK w' u (.cells #[pv,nowV',nextV,.slice (some ⟨gr,0,none⟩) n n] 202 (0,0))/\w'.ownsRow base 207 11 nowV' (aY sl pl ws (ts,rc)).1.length (thL (aY sl pl ws (ts,rc)).1)/\BK w' gr (.cells (bO (aY sl pl ws (ts,rc)).2).toArray 3 (0,0))/\
    Ex (u::gr::nowV.ownBlock.toList) w w'/\(nowV'.ownBlock=nowV.ownBlock\/∃g,nowV'.ownBlock=some g/\w.heap.size<=g):=by
 obtain⟨t0,hi,hz0,hz1,hz2⟩:=info_parts sE
 have HN:=aa hnow
 have HU:=aa hu
 have HG:=aa hgr
 have HWS:=aa hws
 have HPA:=aa hpa
 have HWC:=aa hwc
 have hul:=hu.lt
 have hgl:=hgr.lt
 obtain⟨res,hres⟩:∃res,aY sl pl ws (ts,rc)=res:=⟨_,rfl⟩
 have HRES:=aa hres
 rw[hres]
 have hnb:∀b,nowV.ownBlock=some b ->b<w.heap.size:=fun b e=>(hnow.lt b e).2
 have HNB:=aa hnb
 clear hnow hu hgr hws hpa hwc hres hnb
 go_enter Tryz.func51,Tryz.ntmps51
 go_wp2_with fail
 go_loopg [12] ws.length (fun gk i12 wr=>∃(i:Nat) (nowV':Value) (ts':List Th) (rc':List Int),i+gk=ws.length/\i12= .int .i64 i/\aY sl pl (ws.drop i) (ts',rc')=res/\ts'.length<=ts.length+i/\rc'.length=n/\
  BK wr u (.cells #[pv,nowV',nextV,.slice (some ⟨gr,0,none⟩) n n] 202 (0,0))/\wr.ownsRow base 207 11 nowV' ts'.length (thL ts')/\BK wr gr (.cells (bO rc').toArray 3 (0,0))/\
  BK wr w.heap.size (.cells (bO sl).toArray 121 (0,0))/\Ex (u::gr::nowV.ownBlock.toList) w wr/\(nowV'.ownBlock=nowV.ownBlock\/∃g,nowV'.ownBlock=some g/\w.heap.size<g))
 case atStart=>
  exact⟨0,nowV,ts,rc,by omega,rfl,HRES.O,by omega,hrc,HU.O.alloc _,HN.O.alloc _,HG.O.alloc _,BK.new _ _,(Ex.refl _ _).alloc _,Or.inl rfl⟩
 case round=>
  obtain⟨i,nowV',ts',rc',hgi,rfl,hfm,htl,hrl,hu1,hn1,hg1,hs1,hx1,hor⟩:=hrel
  have HFM:=aa hfm
  have HU1:=aa hu1
  have HN1:=aa hn1
  have HG1:=aa hg1
  have HS1:=aa hs1
  have HX1:=aa hx1
  have HOR:=aa hor
  have hsl1:=hs1.lt
  have hul1:=hu1.lt
  have hgl1:=hg1.lt
  clear hfm hu1 hn1 hg1 hs1 hx1 hor
  cases gk with
  |zero=>
   obtain rfl:i=ws.length:=by omega
   have hfm:=HFM.O
   rw[List.drop_length]at hfm
   have hr1:res.1=ts':=by rw[<-hfm];rfl
   have hr2:res.2=rc':=by rw[<-hfm];rfl
   have HR1:=aa hr1
   have HR2:=aa hr2
   clear hfm hr1 hr2
   go_wp2_with fail
   go_end0
   refine⟨rfl,nowV',HU1.O,by rw[HR1.O];exact HN1.O,by rw[HR2.O];exact HG1.O,HX1.O,?_⟩
   rcases HOR.O with h|⟨g,h1,h2⟩
   ·exact Or.inl h
   ·exact Or.inr ⟨g,h1,by omega⟩
  |succ g=>
   have hi1:i<ws.length:=by omega
   have hi1':(i:Int)<(ws.length:Int):=by omega
   obtain⟨k,bt,hwx⟩:∃k bt,ws[i]=⟨k,bt⟩:=⟨_,_,rfl⟩
   have hk:k<n:=by have h:=HWS.O ws[i] (List.getElem_mem hi1);rw[hwx]at h;exact h
   have hk':(k:Int)<(n:Int):=by omega
   have hpa:=HPA.O (by intro e;rw[e]at hi1;simp at hi1)
   subst hpa
   have hgn:gw∉(u::gr::nowV.ownBlock.toList):=fun hm=>by
    simp only[List.mem_cons,Option.mem_toList]at hm
    rcases hm with h|h|h
    ·exact hgu h
    ·exact hgg h
    ·have:=aG HN.O gw h;omega
   have hw0:wr.cell? ⟨gw,i*2,none⟩=some (.int .i64 k):=by
    rw[HX1.O.cell.1 gw _ (by omega) hgn,HWC.O _ (by omega),(uq ws i hi1).1,hwx]
   have hw1:wr.cell? ⟨gw,i*2+1,none⟩=some (.int .u64 bt):=by
    rw[HX1.O.cell.1 gw _ (by omega) hgn,HWC.O _ (by omega),(uq ws i hi1).2,hwx]
   have hstep:aY sl pl (ws.drop i) (ts',rc')=if rc'[k]? =some pl then aY sl pl (ws.drop (i+1)) (ts',rc')else aY sl pl (ws.drop (i+1)) (ts'++[⟨k,dg bt pl sl⟩],rc'.set k pl):=by
    rw[List.drop_eq_getElem_cons hi1,hwx];rfl
   have HST:=aa hstep
   have hgw1:gw<wr.heap.size:=by have:=HX1.O.size;omega
   clear hstep hgn
   obtain⟨p,c,hnv⟩:=aA HN1.O
   subst hnv
   obtain⟨hcu,hfu⟩:=HU1.O.all
   obtain⟨hcg,hfg⟩:=HG1.O.all
   obtain⟨c0,hc0⟩:∃c0,rc'[k]? =some c0:=⟨rc'[k],List.getElem?_eq_getElem (by omega)⟩
   have kg:wr.cell? ⟨gr,k,none⟩=some (.int .i64 c0):=by rw[hcg,List.getElem?_toArray,jo,hc0];rfl
   have kf:=hfg k
   have HC0:=aa hc0
   clear hcg hfg hc0
   by_cases hcp:c0=pl
   ·have hne:(c0==pl)=true:=by rw[hcp];simp
    go_wp2_with fail
    go_quiet (fail)
    go_wp2_with fail
    go_roundg g
    case measure=>omega
    case rel=>
     refine⟨i+1,_,ts',rc',by omega,by simp,?_,by omega,hrl,(HU1.O.alloc _).drewN _,oF (HN1.O.alloc _) _,(HG1.O.alloc _).drewN _,(HS1.O.alloc _).drewN _,(HX1.O.alloc _).drewN _,HOR.O⟩
     have h1:=HFM.O
     rw[HST.O,HC0.O,if_pos (by rw[hcp])]at h1
     exact h1
   ·have hne:(c0==pl)=false:=by rw[beq_eq_false_iff_ne];exact hcp
    go_wp2_with fail
    go_quiet (fail)
    go_wp2_with fail
    go_region
    generalize hw3:World.setCell _ (⟨gr,k,none⟩:Addr) _=w3
    have hx3:Ex [gr] wr w3:=by
     rw[<-hw3];exact (((Ex.refl _ _).alloc _).drewN _).setCell (Or.inl (by simp)) _
    have hu3:=HU1.O.ex hx3 (by simpa using hug)
    have hg3:BK w3 gr (.cells (bO (rc'.set k pl)).toArray 3 (0,0)):=by
     rw[<-hw3,<-lW];exact BK.selfL ((HG1.O.alloc _).drewN _) k _
    have hs3:BK w3 w.heap.size (.cells (bO sl).toArray 121 (0,0)):=HS1.O.ex hx3 (by simp;omega)
    have hb3:BK w3 wr.heap.size (.cells #[.int .i64 k,.int .u64 bt] 204 (0,0)):=by
     rw[<-hw3];exact ((BK.new _ _).drewN _).set (by simp;omega) _
    have hn3:=aU HN1.O hx3 (by simp;omega)
    clear hw3 hcu hfu kg kf hw0 hw1
    have HX3:=aa hx3
    have HU3:=aa hu3
    have HG3:=aa hg3
    have HS3:=aa hs3
    have HB3:=aa hb3
    have HN3:=aa hn3
    have hul3:=hu3.lt
    have hsl3:=hs3.lt
    have hbl3:=hb3.lt
    have hgl3:=hg3.lt
    obtain⟨hcu3,hfu3⟩:=hu3.all
    have hcs3:=BK.rangeL hs3
    obtain⟨hcb3,hfb3⟩:=hb3.all
    have h90:=Tryz.underlying121
    have HF1:Hid ((Value.slice p ts'.length c).ownBlock=some wr.heap.size ->False):=fun e=>by have:=(HN1.O.lt _ e).2;omega
    have HF0:Hid ((Value.slice p ts'.length c).ownBlock=some w.heap.size ->False):=fun e=>by
     rcases HOR.O with h|⟨g,h1,h2⟩
     ·rw[h]at e;have:=HNB.O _ e;omega
     ·rw[e]at h1;cases h1;omega
    have hs90:=pF sl hsl
    obtain⟨y0,y1,y2,y3,y4,y5,y6,y7,y8,y9,hyy⟩:=ten (sl:=dg bt pl sl) (by unfold dg;rw[eK,hsl])
    have KM:=aa (fun w=>sH bt pl sl hsl w)
    rw[hyy,lX]at KM
    have HYY:=aa hyy
    clear hx3 hu3 hg3 hs3 hb3 hn3 hyy
    go_wp2_with fail
    refine aQ (by kernel_rfl) ?_
    refine tk (i:=0) (v:= ?_) rfl ?_ ?_
    rotate_left
    ·intro w'
     go_simp
     try with_reducible rfl
    simp only[Act.put,List.replicate,Array.replicate,lx]
    refine tk (i:=1) (v:= ?_) rfl ?_ ?_
    rotate_left
    ·intro w'
     go_simp
     try with_reducible rfl
    simp only[Act.put,List.replicate,Array.replicate,lx]
    refine tk (i:=2) (v:= ?_) rfl ?_ ?_
    rotate_left
    ·intro w'
     go_simp
     try with_reducible rfl
    simp only[Act.put,List.replicate,Array.replicate,lx]
    refine tk (i:=3) (v:= ?_) rfl ?_ ?_
    rotate_left
    ·intro w'
     go_simp
     try with_reducible rfl
    simp only[Act.put,List.replicate,Array.replicate,lx]
    refine tk (i:=5) (v:= ?_) rfl ?_ ?_
    rotate_left
    ·intro w'
     go_simp
     try with_reducible rfl
    simp only[Act.put,List.replicate,Array.replicate,lx]
    refine tk (i:=8) (v:= ?_) rfl ?_ ?_
    rotate_left
    ·intro w'
     go_simp
     try with_reducible rfl
    simp only[Act.put,List.replicate,Array.replicate,lx]
    refine tk (i:=10) (v:= ?_) rfl ?_ ?_
    rotate_left
    ·intro w'
     go_simp
     try with_reducible rfl
    simp only[Act.put,List.replicate,Array.replicate,lx]
    refine aV (S:=(fun j w'=>((∀o,w'.cell? ⟨wr.heap.size,o,none⟩= #[Value.int .i64 k,.int .u64 bt][o]?)/\w'.rangeAt w.heap.size 0 (bO sl))/\((j=4\/11<=j/\j<=13) ->∀o,w'.cell? ⟨u,o,none⟩= #[pv,.slice p ts'.length c,nextV,.slice (some ⟨gr,0,none⟩) n n][o]?))) _ _ _ _ ?_
    refine cG (i:=6) (T:=(fun w'=>(∀o,w'.cell? ⟨wr.heap.size,o,none⟩= #[Value.int .i64 k,.int .u64 bt][o]?)/\w'.rangeAt w.heap.size 0 (bO sl))) (v:= ?_) (fun _=>true) rfl (by kernel_rfl) (by kernel_rfl) (by kernel_rfl) (by kernel_rfl) (fun j w' _ h=>h.1) (fun w' h=>⟨h,fun hj=>by omega⟩) (fun _ _ _ h=>h) ⟨hcb3,hcs3⟩ (Or.inl ⟨by rfl,?_⟩) ?_
    rotate_left
    ·intro w' hSw
     try obtain⟨⟨hSb,hSs⟩,hSu⟩:=hSw
     try obtain⟨hSb,hSs⟩:=hSw
     go_simp
     try with_reducible rfl
    simp only[Act.put,List.replicate,Array.replicate,lx]
    refine cG (i:=7) (T:=(fun w'=>(∀o,w'.cell? ⟨wr.heap.size,o,none⟩= #[Value.int .i64 k,.int .u64 bt][o]?)/\w'.rangeAt w.heap.size 0 (bO sl))) (v:=_) (fun _=>true) rfl (by kernel_rfl) (by kernel_rfl) (by kernel_rfl) (by kernel_rfl) (fun j w' _ h=>h.1) (fun w' h=>⟨h,fun hj=>by omega⟩) (fun _ _ _ h=>h) ⟨hcb3,hcs3⟩ (yieldsIf_load_mid (by rfl) _ _ rfl _ _ rfl (bO sl) _ (fun w' h=>h.2) h90 rfl hs90) ?_
    simp only[Act.put,List.replicate,Array.replicate,lx]
    refine cG (i:=9) (T:=(fun w'=>(∀o,w'.cell? ⟨wr.heap.size,o,none⟩= #[Value.int .i64 k,.int .u64 bt][o]?)/\w'.rangeAt w.heap.size 0 (bO sl))) (v:= ?_) (fun _=>true) rfl (by kernel_rfl) (by kernel_rfl) (by kernel_rfl) (by kernel_rfl) (fun j w' _ h=>h.1) (fun w' h=>⟨h,fun hj=>by omega⟩) (fun _ _ _ h=>h) ⟨hcb3,hcs3⟩ (Or.inl ⟨by rfl,?_⟩) ?_
    rotate_left
    ·intro w' hSw
     try obtain⟨⟨hSb,hSs⟩,hSu⟩:=hSw
     try obtain⟨hSb,hSs⟩:=hSw
     go_simp
     try with_reducible rfl
    simp only[Act.put,List.replicate,Array.replicate,lx]
    refine cG (i:=4) (T:=(fun w'=>((∀o,w'.cell? ⟨wr.heap.size,o,none⟩= #[Value.int .i64 k,.int .u64 bt][o]?)/\w'.rangeAt w.heap.size 0 (bO sl))/\∀o,w'.cell? ⟨u,o,none⟩= #[pv,.slice p ts'.length c,nextV,.slice (some ⟨gr,0,none⟩) n n][o]?)) (v:= ?_) (fun j=>decide (j=4)||decide (11<=j)&&decide (j<=13)) rfl (by kernel_rfl) (by kernel_rfl) (by kernel_rfl) (by kernel_rfl) (fun j w' hf h=>⟨h.1,h.2 (by simpa using hf)⟩) (fun w' h=>⟨h.1,fun _=>h.2⟩) (fun _ _ _ h=>h) ⟨⟨hcb3,hcs3⟩,hcu3⟩ (Or.inl ⟨by rfl,?_⟩) ?_
    rotate_left
    ·intro w' hSw
     try obtain⟨⟨hSb,hSs⟩,hSu⟩:=hSw
     try obtain⟨hSb,hSs⟩:=hSw
     go_simp
     try with_reducible rfl
    simp only[Act.put,List.replicate,Array.replicate,lx]
    refine ae (i:=11) rfl rfl (by kernel_rfl) (fun K hK=> ?_)
    go_simp
    refine (KM.O _).mono ?_
    rintro e w4 ⟨rfl,hx4⟩
    have hu4:=HU3.O.drew.ex hx4 (by simp)
    have hb4:=HB3.O.drew.ex hx4 (by simp)
    have hs4:=HS3.O.drew.ex hx4 (by simp)
    go_wp2_with fail
    refine hK.O _ _ ⟨⟨hb4.all.1,(BK.rangeL hs4)⟩,fun _=>hu4.all.1⟩ ?_
    clear hK K
    simp only[Act.put,lx]
    refine ae (i:=12) rfl rfl (by kernel_rfl) (fun K hK=> ?_)
    go_simp
    refine hK.O _ _ ⟨⟨hb4.all.1,(BK.rangeL hs4)⟩,fun _=>hu4.all.1⟩ ?_
    clear hK K
    simp only[Act.put,lx]
    refine ae (i:=13) rfl rfl (by kernel_rfl) (fun K hK=> ?_)
    go_simp
    refine hK.O _ _ ⟨⟨(hb4.alloc _).all.1,(BK.rangeL (hs4.alloc _))⟩,fun _=>(hu4.alloc _).all.1⟩ ?_
    clear hK K
    simp only[Act.put,lx]
    refine ae (i:=14) rfl rfl (by kernel_rfl) (fun K hK=> ?_)
    refine wp_append_lies _ (.tmp 38) (.tmp 47) 200 rfl base 207 t0 _ 11 88 Tryz.underlying200 hi hz0 hz1 hz2 rfl (by decide) (.slice p ts'.length c) ts'.length (thL ts') rfl ((aU (oF HN3.O 1) hx4 (by simp)).alloc _) ⟨w4.heap.size,0,none⟩ 1 1 (thC ⟨k,[y0,y1,y2,y3,y4,y5,y6,y7,y8,y9]⟩) rfl rfl (bK _ _ _) (by simp[thC,bO,Value.oneCell']) (by decide) (by unfold maxLen;omega) (by omega) (by have h1:w3.heap.size<=w4.heap.size:=hx4.size;simp;omega) _ rfl ?_
    intro g0 cap w5 hown5 hgrow5 hat5 hlt5
    have hu5:=BK.grown (hu4.alloc _) hgrow5 (fun e=>by have:=aG HN3.O _ e;omega)
    have hb5:=BK.grown (hb4.alloc _) hgrow5 (fun e=>HF1.O e)
    have hs5:=BK.grown (hs4.alloc _) hgrow5 (fun e=>HF0.O e)
    refine hK.O _ _ ⟨⟨hb5.all.1,(BK.rangeL hs5)⟩,fun _=>hu5.all.1⟩ ?_
    clear hK K
    simp only[Act.put,lx]
    obtain⟨hcu5,hfu5⟩:=hu5.all
    refine ae (i:=15) rfl rfl (by kernel_rfl) (fun K hK=> ?_)
    go_simp
    refine hK.O _ _ ⟨⟨hb5.all.1,(BK.rangeL hs5)⟩,fun _=>hu5.all.1⟩ ?_
    clear hK K
    simp only[Act.put,lx]
    refine ae (i:=16) rfl rfl (by kernel_rfl) (fun K hK=> ?_)
    go_simp
    refine hK.O _ _ ⟨⟨hb5.all.1,(BK.rangeL hs5)⟩,fun _=>hu5.all.1⟩ ?_
    clear hK K
    simp only[Act.put,lx]
    refine ae (i:=17) rfl rfl (by kernel_rfl) (fun K hK=> ?_)
    go_simp
    refine hK.O _ _ ⟨⟨(hb5.set (by simp;omega) _).all.1,(BK.rangeL (hs5.set (by simp;omega) _))⟩,fun hj=>by omega⟩ ?_
    clear hK K
    refine aP (by kernel_rfl) ?_ _
    have HX4:Hid (Ex [] w3 w4):=((Ex.refl _ _).drew).trans hx4
    have HU5:=aa hu5
    have HO5:=aa hown5
    have HX5:=aa hgrow5
    have hz4:w3.heap.size<=w4.heap.size:=hx4.size
    have HG5:=aa (BK.grown (((HG3.O.drew).ex hx4 (by simp)).alloc _) hgrow5 (fun e=>by have:=aG HN3.O _ e;omega))
    have HS5:=aa hs5
    have hob:=aG hown5 g0 rfl
    clear hx4 hu4 hb4 hs4 hu5 hb5 hs5 hcu5 hfu5 hown5 hgrow5 hcu3 hfu3 hcb3 hfb3 hcs3 hs90 h90
    go_wp2_with fail
    go_roundg g
    case measure=>omega
    case rel=>
     have hz3:=HX3.O.size
     have hz0':=HX1.O.size
     refine⟨i+1,_,ts'++[⟨k,[y0,y1,y2,y3,y4,y5,y6,y7,y8,y9]⟩],rc'.set k pl,by omega,by simp,?_,by simp;omega,by simpa using hrl,BK.self HU5.O 1 _,?_,HG5.O.set (by simp;omega) _,HS5.O.set (by simp;omega) _,?_,?_⟩
     ·have h1:=HFM.O
      rw[HST.O,HC0.O,if_neg (by intro e;exact hcp (Option.some.inj e)),HYY.O]at h1
      exact h1
     ·rw[xL]
      have h2:=du HO5.O (a:=⟨u,1,none⟩) hbu (.slice (some ⟨g0,0,none⟩) (ts'.length+1) cap)
      simpa using h2
     ·refine Ex.setCell ?_ (Or.inl (by simp)) _
      have e1:Ex (u::gr::nowV.ownBlock.toList) w w4:=HX1.O.trans ((HX3.O.drop (by simp)).trans (HX4.O.drop (by simp)))
      refine Ex.grown (e1.alloc _) HX5.O (fun j hj=> ?_)
      rcases HOR.O with h|⟨gg,h1,h2⟩
      ·rw[h]at hj;exact Or.inl (by simp[hj])
      ·rw[h1]at hj;cases hj;exact Or.inr (by omega)
     ·rcases hat5 with h|h
      ·rcases HOR.O with h'|⟨gg,h1,h2⟩
       ·exact Or.inl (by rw[<-h'];rw[h];rfl)
       ·exact Or.inr ⟨gg,by rw[<-h1];rw[h];rfl,h2⟩
      ·exact Or.inr ⟨g0,rfl,by rw[h];simp;omega⟩
def cQ (code:List Ins):List Th ->Option (List Int)
 |[]=>none
 |t::ts=>if (code[t.pc]?).map (·.op)=some 6 then some t.sl else cQ code ts
theorem zX (ts:List Th) (j o:Nat) (hj:j<ts.length) (hl:∀t∈ts,t.sl.length=10) (ho:o<11):(thL ts)[j*11+o]? =(thC ts[j])[o]? :=by
 induction ts generalizing j with
 |nil=>simp at hj
 |cons t ts ih=>
  have h1:thL (t::ts)=thC t++thL ts:=rfl
  have h2:(thC t).length=11:=by simp[thC,lV,hl t (List.mem_cons_self ..)]
  rw[h1]
  cases j with
  |zero=>rw[List.getElem?_append_left (by omega)];simp
  |succ j=>
   rw[List.getElem?_append_right (by omega),h2,show (j+1)*11+o-11=j*11+o by omega]
   simpa using ih j (by simpa using hj) (fun x hx=>hl x (List.mem_cons_of_mem _ hx))
theorem yY (ts:List Th) (hl:∀t∈ts,t.sl.length=10):(thL ts).length=ts.length*11:=by
 induction ts with
 |nil=>rfl
 |cons t ts ih=>
  have h1:thL (t::ts)=thC t++thL ts:=rfl
  have h2:(thC t).length=11:=by simp[thC,lV,hl t (List.mem_cons_self ..)]
  rw[h1,List.length_append,h2,ih (fun x hx=>hl x (List.mem_cons_of_mem _ hx)),List.length_cons]
  omega
def zW:Value:= .agg #[.int .i64 0,.int .i64 0,.int .i64 0,.int .i64 0,.int .i64 0,.int .i64 0,.int .i64 0,.int .i64 0,.int .i64 0,.int .i64 0]
def zk:Option (List Int) ->Value
 |some sl=> .tuple #[.agg (bO sl).toArray,.bool true]
 |none=> .tuple #[zW,.bool false]
theorem kF {w:World} {base:Nat} {p0:Option Addr} {c0:Nat} {ts:List Th} (h:w.ownsRow base 207 11 (.slice p0 ts.length c0) ts.length (thL ts)) (hpos:0<ts.length):
  ∃ng,p0=some ⟨ng,0,none⟩/\base<=ng/\ng<w.heap.size/\ts.length<=c0/\w.rangeAt ng 0 (thL ts):=by
 rcases h.2 with⟨_,hn⟩|⟨g,cap,cur,hv,hb,hgg,hnc,hcm,hcs,htake⟩
 ·omega
 ·cases hv
  refine⟨g,rfl,hb,BK.lt hgg,hnc,fun o v hv=> ?_⟩
  rw[Nat.zero_add,(BK.all hgg).1,<-Array.getElem?_toList]
  rw[<-htake,List.getElem?_take]at hv
  split at hv
  ·exact hv
  ·cases hv
theorem jD {w:World} {ng:Nat} {ts:List Th} (h:w.rangeAt ng 0 (thL ts)) (hl:∀t∈ts,t.sl.length=10) (j:Nat) (hj:j<ts.length):
  ∃y0 y1 y2 y3 y4 y5 y6 y7 y8 y9,ts[j].sl=[y0,y1,y2,y3,y4,y5,y6,y7,y8,y9]/\∀o,o<11 ->w.cell? ⟨ng,j*11+o,none⟩=[Value.int .i64 ts[j].pc,.int .i64 y0,.int .i64 y1,.int .i64 y2,.int .i64 y3,.int .i64 y4,.int .i64 y5,.int .i64 y6,.int .i64 y7,.int .i64 y8,.int .i64 y9][o]? :=by
 obtain⟨y0,y1,y2,y3,y4,y5,y6,y7,y8,y9,hy⟩:=ten (hl _ (List.getElem_mem hj))
 refine⟨y0,y1,y2,y3,y4,y5,y6,y7,y8,y9,hy,fun o ho=> ?_⟩
 have h1:=zX ts j o hj hl ho
 have h2:thC ts[j]=[Value.int .i64 ts[j].pc,.int .i64 y0,.int .i64 y1,.int .i64 y2,.int .i64 y3,.int .i64 y4,.int .i64 y5,.int .i64 y6,.int .i64 y7,.int .i64 y8,.int .i64 y9]:=by rw[thC,hy];rfl
 rw[h2]at h1
 rw[<-h1]
 have h3:j*11+o<(thL ts).length:=by rw[yY ts hl];omega
 rw[List.getElem?_eq_getElem h3]
 have h4:=h (j*11+o) _ (List.getElem?_eq_getElem h3)
 simpa using h4
theorem oX (code:List Ins) (u q cg cc base:Nat) (p0:Option Addr) (c0:Nat) (v1 v2 v3 v4 v5 v6:Value) (ts:List Th) (w:World)
  (hu:BK w u (.cells #[.pointer (some ⟨q,0,none⟩),.slice p0 ts.length c0,v1,v2] 202 (0,0))) (hq:BK w q (.cells #[.slice (some ⟨cg,0,none⟩) code.length cc,v3,v4,v5,v6] 116 (0,0)))
  (hcg:cg<w.heap.size) (hcap:code.length<=cc) (hr:w.rangeAt cg 0 (bY code)) (hnow:w.ownsRow base 207 11 (.slice p0 ts.length c0) ts.length (thL ts)) (hts:ts.length<=100000)
  (hl:∀t∈ts,t.sl.length=10) (hpc:∀t∈ts,t.pc<code.length):
  Calls Tryz.prog 55 #[.pointer (some ⟨u,0,none⟩)] w fun e w'=>e= .returned (zk (cQ code ts))/\Ex [] w w':=by
 have HU:=aa hu
 have HQ:=aa hq
 have HR:=aa hr
 have HN:=aa hnow
 have HL:=aa hl
 have HPC:=aa hpc
 have hul:=hu.lt
 have hql:=hq.lt
 obtain⟨hcu,hfu⟩:=hu.all
 obtain⟨n,hn⟩:=exq (ts.length)
 obtain⟨cn,hcn⟩:=exq (code.length)
 have HNN:=aa hn
 have HCN:=aa hcn
 rw[<-hn]at hcu hts HU
 rw[<-hcn]at hcap HQ
 obtain⟨res,hres⟩:=exq (cQ code ts)
 rw[<-hres]
 have HRES:=aa hres
 clear hu hq hr hnow hl hpc hn hcn hres
 go_enter Tryz.func55,Tryz.ntmps55
 go_wp2_with fail
 go_loopg [11] n (fun gk i wr=>∃j:Nat,j+gk=n/\i= .int .i64 j/\cQ code (ts.drop j)=res/\BK wr w.heap.size (.cells #[.int .i64 0,.int .i64 0,.int .i64 0,.int .i64 0,.int .i64 0,.int .i64 0,.int .i64 0,.int .i64 0,.int .i64 0,.int .i64 0] 121 (0,0))/\Ex [] w wr)
 case atStart=>exact⟨0,by omega,rfl,by rw[List.drop_zero];exact HRES.O.symm,BK.new _ _,(Ex.refl _ _).alloc _⟩
 case round=>
  obtain⟨j,hj,rfl,hacc,hz,hx⟩:=hrel
  have HX:=aa hx
  have HZ:=aa hz
  have HACC:=aa hacc
  obtain⟨hcz,hfz⟩:=hz.all
  have hzl:=hz.lt
  cases gk with
  |zero=>
   obtain rfl:j=n:=by omega
   have hr0:res=none:=by rw[<-hacc,HNN.O,List.drop_length];rfl
   subst hr0
   clear hx hz hacc hj
   go_wp2_with fail
   refine bodyPost_ret (v:= .tuple #[zW,.bool false]) (by simp[results,Tryz.results55,go_sem,zW,hcz]) rfl ⟨rfl,?_⟩
   repeat (refine Ex.setCell ?_ (Or.inr (by simp)) _)
   exact HX.O
  |succ g=>
   have hj':j<ts.length:=by rw[<-HNN.O];omega
   have hjn:(j:Int)<(n:Int):=by omega
   obtain⟨ng,rfl,hngb,hngl,hngc,hrg⟩:=kF HN.O (by omega)
   obtain⟨y0,y1,y2,y3,y4,y5,y6,y7,y8,y9,hy,hcl⟩:=jD hrg HL.O j hj'
   have hpc:=HPC.O _ (List.getElem_mem hj')
   obtain⟨k,hk⟩:=exq ((ts[j]'hj').pc)
   rw[<-hk]at hcl hpc
   obtain⟨ci,hci⟩:∃ci,code[k]? =some ci:=⟨_,List.getElem?_eq_getElem hpc⟩
   have hc0:w.cell? ⟨cg,k*7,none⟩=some (.int .i64 ci.op):=by
    have h1:=dH code k 0 ci hci (by omega)
    have h2:=HR.O (k*7) (.int .i64 ci.op) (by rw[Nat.add_zero]at h1;rw[h1];rfl)
    simpa using h2
   obtain⟨cell0,hcell0⟩:=exq (hc0)
   have hstep:cQ code (ts.drop j)=if ci.op=6 then some (ts[j]'hj').sl else cQ code (ts.drop (j+1)):=by
    rw[List.drop_eq_getElem_cons hj',cQ,<-hk,hci]
    simp
   have HST:=aa hstep
   have HY:=aa hy
   have hkn:(k:Int)<(cn:Int):=by rw[HCN.O];omega
   have c0r:wr.cell? ⟨cg,k*7,none⟩=some (.int .i64 ci.op):=(hx.cell0.1 cg (k*7) hcg).trans hc0
   have hcr:∀o,o<11 ->wr.cell? ⟨ng,j*11+o,none⟩=[Value.int .i64 k,.int .i64 y0,.int .i64 y1,.int .i64 y2,.int .i64 y3,.int .i64 y4,.int .i64 y5,.int .i64 y6,.int .i64 y7,.int .i64 y8,.int .i64 y9][o]? :=fun o ho=>(hx.cell0.1 ng _ hngl).trans (hcl o ho)
   have j0:wr.cell? ⟨ng,j*11,none⟩=some (.int .i64 (k:Int)):=hcr 0 (by omega)
   have j1:wr.cell? ⟨ng,j*11+1,none⟩=some (.int .i64 y0):=hcr 1 (by omega)
   have j2:wr.cell? ⟨ng,j*11+2,none⟩=some (.int .i64 y1):=hcr 2 (by omega)
   have j3:wr.cell? ⟨ng,j*11+3,none⟩=some (.int .i64 y2):=hcr 3 (by omega)
   have j4:wr.cell? ⟨ng,j*11+4,none⟩=some (.int .i64 y3):=hcr 4 (by omega)
   have j5:wr.cell? ⟨ng,j*11+5,none⟩=some (.int .i64 y4):=hcr 5 (by omega)
   have j6:wr.cell? ⟨ng,j*11+6,none⟩=some (.int .i64 y5):=hcr 6 (by omega)
   have j7:wr.cell? ⟨ng,j*11+7,none⟩=some (.int .i64 y6):=hcr 7 (by omega)
   have j8:wr.cell? ⟨ng,j*11+8,none⟩=some (.int .i64 y7):=hcr 8 (by omega)
   have j9:wr.cell? ⟨ng,j*11+9,none⟩=some (.int .i64 y8):=hcr 9 (by omega)
   have j10:wr.cell? ⟨ng,j*11+10,none⟩=some (.int .i64 y9):=hcr 10 (by omega)
   have hur:=HU.O.ex hx (by simp)
   have hqr:=HQ.O.ex hx (by simp)
   obtain⟨hcu',hfu'⟩:=hur.all
   obtain⟨hcq',hfq'⟩:=hqr.all
   have hul':=hur.lt
   have hql':=hqr.lt
   have hcg':cg<wr.heap.size:=Nat.lt_of_lt_of_le hcg hx.size
   have hng':ng<wr.heap.size:=Nat.lt_of_lt_of_le hngl hx.size
   obtain⟨op,hop⟩:=exq (ci.op)
   rw[<-hop]at c0r
   have HOP:=aa hop
   have HKK:=aa hk
   clear hx hz hacc hrg hcl hpc hci hc0 hcell0 cell0 hstep hy hcr hur hqr hop hk hcu hfu
   cases h6:(op==6)with
   |true=>
    go_wp2_with fail
    go_quiet (fail)
    go_wp2_with fail
    have hb6:=(((((((((((HZ.O.alloc (Obj.cells #[.int .i64 k,.int .i64 y0,.int .i64 y1,.int .i64 y2,.int .i64 y3,.int .i64 y4,.int .i64 y5,.int .i64 y6,.int .i64 y7,.int .i64 y8,.int .i64 y9] 207)).drewN nq).self 0 (.int .i64 y0)).self 1 (.int .i64 y1)).self 2 (.int .i64 y2)).self 3 (.int .i64 y3)).self 4 (.int .i64 y4)).self 5 (.int .i64 y5)).self 6 (.int .i64 y6)).self 7 (.int .i64 y7)).self 8 (.int .i64 y8)).self 9 (.int .i64 y9)
    simp only[List.setIfInBounds_toArray,List.set_cons_zero,List.set_cons_succ]at hb6
    have hl6:=run_loadVar_mid (P:=Tryz.prog) _ w.heap.size 0 121 [.int .i64 y0,.int .i64 y1,.int .i64 y2,.int .i64 y3,.int .i64 y4,.int .i64 y5,.int .i64 y6,.int .i64 y7,.int .i64 y8,.int .i64 y9] _ hb6.rangeL Tryz.underlying121 rfl (by kernel_rfl)
    refine bodyPost_ret (ap rfl rfl hl6) rfl ⟨?_,?_⟩
    ·have h1:=HACC.O
     rw[HST.O,if_pos (by rw[<-HOP.O];simpa using h6),HY.O]at h1
     rw[<-h1];rfl
    ·repeat (refine Ex.setCell ?_ (Or.inr (by simp)) _)
     exact (((HX.O).alloc _).drewN _)
   |false=>
    go_wp2_with fail
    go_quiet (fail)
    go_wp2_with fail
    go_roundg g
    case measure=>omega
    case rel=>
     refine⟨j+1,by omega,by simp,?_,?_,?_⟩
     ·have h1:=HACC.O
      rw[HST.O,if_neg (by rw[<-HOP.O];simpa using h6)]at h1
      exact h1
     ·exact (HZ.O.alloc _).drewN _
     ·exact (HX.O.alloc _).drewN _
end Go.Proofs.YtfnanjbleifjkaaGreatDoor.G
