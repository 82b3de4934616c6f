import Derived.Test.YtfnanjbleifjkaaGreatDoorM17
set_option linter.unusedVariables false
set_option linter.unusedSimpArgs false
set_option maxHeartbeats 8000000
set_option maxRecDepth 100000
namespace Go.Proofs.YtfnanjbleifjkaaGreatDoor.G
variable {B base n ng q top:Nat} {w w':World}
open Go.RowKit
theorem mM (code:List Ins) (hok:cZ code):∀(f:Nat) (s:WS) (h:Nat×Nat) (b:Int),h.1<code.length ->h.2<2 ->(∀y∈s.2,y.1<code.length) ->
  (∀y∈(bm code f s h b).2,y.1<code.length)/\(bm code f s h b).2.length+left code.length (bm code f s h b).1<=s.2.length+left code.length s.1
 |0,s,h,b,_,_,hs=>⟨hs,Nat.le_refl _⟩
 |f+1,s,h,b,h1,h2,hs=>by
  unfold bm
  by_cases hm:h∈s.1
  ·rw[if_pos hm];exact⟨hs,Nat.le_refl _⟩
  rw[if_neg hm]
  obtain⟨i,hi⟩:∃i,code[h.1]? =some i:=⟨_,List.getElem?_eq_getElem h1⟩
  have hl:=pt hm h1 h2
  rw[hi]
  dsimp only
  have ih:=mM code hok f
  rcases hok _ _ hi with h0|h0|⟨h0,⟨a,ha,hal⟩,c,hc,hcl⟩|⟨h0,a,ha,hal⟩|⟨h0,ha,_⟩|⟨h0,ha⟩|⟨h0,ha⟩
  ·simp only[h0,true_or,if_true]
   refine⟨fun y hy=> ?_,by simp;omega⟩
   rcases List.mem_append.1 hy with hy|hy
   ·exact hs y hy
   ·simp at hy;subst hy;exact h1
  ·simp only[h0,or_true,if_true]
   refine⟨fun y hy=> ?_,by simp;omega⟩
   rcases List.mem_append.1 hy with hy|hy
   ·exact hs y hy
   ·simp at hy;subst hy;exact h1
  ·rw[if_neg (by omega),if_pos h0]
   have k1:=ih (s.1++[h],s.2) (i.t0.toNat,h.2) b (by simp;omega) h2 hs
   have k2:=ih _ (i.t1.toNat,h.2) b (by simp;omega) h2 k1.1
   exact⟨k2.1,by have e1:=k1.2;have e2:=k2.2;simp only at e1 e2;omega⟩
  ·rw[if_neg (by omega),if_neg (by omega),if_pos h0]
   have k1:=ih (s.1++[h],s.2) (i.t0.toNat,h.2) b (by simp;omega) h2 hs
   exact⟨k1.1,by have e1:=k1.2;simp only at e1;omega⟩
  ·rw[if_neg (by omega),if_neg (by omega),if_neg (by omega),if_pos h0]
   have k1:=ih (s.1++[h],s.2) (h.1+1,h.2) (orM b i.sl) (by simpa using ha) h2 hs
   exact⟨k1.1,by have e1:=k1.2;simp only at e1;omega⟩
  ·rw[if_neg (by omega),if_neg (by omega),if_neg (by omega),if_neg (by omega),if_pos h0]
   have k1:=ih (s.1++[h],s.2) (h.1+1,0) b (by simpa using ha) (by simp) hs
   exact⟨k1.1,by have e1:=k1.2;simp only at e1;omega⟩
  ·rw[if_neg (by omega),if_neg (by omega),if_neg (by omega),if_neg (by omega),if_neg (by omega),if_pos h0]
   split
   ·have k1:=ih (s.1++[h],s.2) (h.1+1,1) b (by simpa using ha) (by simp) hs
    exact⟨k1.1,by have e1:=k1.2;simp only at e1;omega⟩
   ·exact⟨hs,by simp only;omega⟩
theorem pO (code:List Ins) (hok:cZ code) (h:Nat×Nat) (h1:h.1<code.length) (h2:h.2<2):(∀y∈bM code h,y.1<code.length)/\(bM code h).length<=2*code.length:=by
 have k:=mM code hok (2*code.length+1) ([],[]) h 0 h1 h2 (by simp)
 have k2:=k.2
 have k3:=kW code.length []
 refine⟨k.1,?_⟩
 show (bm code (2*code.length+1) ([],[]) h 0).2.length<=_
 simp only[List.length_nil]at k2
 omega
def wys (l:List (Nat×Int)):List Way:=l.map fun y=>⟨y.1,y.2⟩
theorem io (l:List (Nat×Int)):(wys l).length=l.length:=by simp[wys]
theorem zh (l:List (Nat×Int)):pN (wys l)=ez l:=by simp[wys,pN,ez,List.flatMap_map]
theorem mQ {l:List (Nat×Int)} (h:∀y∈l,y.1<n):∀x∈wys l,x.to<n:=fun x hx=>by
 simp only[wys,List.mem_map]at hx
 obtain⟨y,hy,rfl⟩:=hx
 exact h y hy
def WA (w:World) (top:Nat) (p:Option Addr) (l:List (Nat×Int)):Prop:=l≠[] ->∃gw,p=some ⟨gw,0,none⟩/\gw<top/\∀j,j<l.length*2 ->w.cell? ⟨gw,j,none⟩=(ez l)[j]?
theorem WA.eb {p:Option Addr} {l:List (Nat×Int)} (h:WA w top p l) (hx:EB top [] w w'):WA w' top p l:=fun hl=>by
 obtain⟨gw,h1,h2,h3⟩:=h hl
 exact⟨gw,h1,h2,fun j hj=>(hx.cell h2).trans (h3 j hj)⟩
theorem WA.up {top':Nat} {p:Option Addr} {l:List (Nat×Int)} (h:WA w top p l) (ht:top<=top'):WA w top' p l:=fun hl=>by
 obtain⟨gw,h1,h2,h3⟩:=h hl
 exact⟨gw,h1,Nat.lt_of_lt_of_le h2 ht,h3⟩
theorem xj {v:Value} {l:List (Nat×Int)} (h:w.ownsRow base 204 2 v l.length (ez l)):∃p c,v= .slice p l.length c/\WA w w.heap.size p l/\l.length<=c:=by
 obtain⟨p,c,rfl⟩:=aA h
 refine⟨p,c,rfl,fun hl=> ?_,?_⟩
 ·obtain⟨g,c',hv,_,hlt,_,hc,_⟩:=ij h (List.length_pos_iff.2 hl)
  cases hv
  exact⟨g,rfl,hlt,hc⟩
 ·rcases h.2 with⟨hv,hn⟩|⟨g,cap,cur,hv,hb,hgg,hnc,hcm,hcs,htake⟩
  ·injection hv with _ h2 h3;omega
  ·injection hv with _ h2 h3;omega
structure PX (w:World) (q top:Nat) (code:List Ins) (ng:Nat) (cg cc:Nat) (sp:Option Addr) (sc B mb:Nat) (nm:List (ByteArray×Nat)):Prop where
 blk:BK w q (.cells #[.slice (some ⟨cg,0,none⟩) code.length cc,.slice sp (bM code (0,0)).length sc,.slice (some ⟨B,0,none⟩) code.length code.length,.int .i64 (ng:Int),.map (some mb)] 116 (0,0))
 cls:w.rangeAt cg 0 (bY code)
 cap:code.length<=cc
 start:WA w top sp (bM code (0,0))
 beh:∀i x,code[i]? =some x ->x.op=0 ->∃p c,w.cell? ⟨B,i,none⟩=some (.slice p (bM code (i+1,1)).length c)/\WA w top p (bM code (i+1,1))
 names:BK w mb (.map (nmE nm) nm.length)
 qt:q<top
 cgt:cg<top
 Bt:B<top
 mt:mb<top
theorem xu {b o:Nat} {xs:List Value} (h:w.rangeAt b o xs) (hx:EB top [] w w') (hb:b<top):w'.rangeAt b o xs:=fun j v hv=>(hx.cell hb).trans (h j v hv)
theorem PX.eb {code:List Ins} {cg cc:Nat} {sp:Option Addr} {sc mb:Nat} {nm:List (ByteArray×Nat)} (h:PX w q top code ng cg cc sp sc B mb nm) (hx:EB top [] w w'):PX w' q top code ng cg cc sp sc B mb nm where
 blk:=h.blk.eb hx h.qt (by simp)
 cls:=xu h.cls hx h.cgt
 cap:=h.cap
 start:=h.start.eb hx
 beh:=fun i x hi h0=>by
  obtain⟨p,c,h1,h2⟩:=h.beh i x hi h0
  exact⟨p,c,(hx.cell h.Bt).trans h1,h2.eb hx⟩
 names:=h.names.eb hx h.mt (by simp)
 qt:=h.qt
 cgt:=h.cgt
 Bt:=h.Bt
 mt:=h.mt
theorem PX.up {top':Nat} {code:List Ins} {cg cc:Nat} {sp:Option Addr} {sc mb:Nat} {nm:List (ByteArray×Nat)} (h:PX w q top code ng cg cc sp sc B mb nm) (ht:top<=top'):PX w q top' code ng cg cc sp sc B mb nm where
 blk:=h.blk
 cls:=h.cls
 cap:=h.cap
 start:=h.start.up ht
 beh:=fun i x hi h0=>by
  obtain⟨p,c,h1,h2⟩:=h.beh i x hi h0
  exact⟨p,c,h1,h2.up ht⟩
 names:=h.names
 qt:=Nat.lt_of_lt_of_le h.qt ht
 cgt:=Nat.lt_of_lt_of_le h.cgt ht
 Bt:=Nat.lt_of_lt_of_le h.Bt ht
 mt:=Nat.lt_of_lt_of_le h.mt ht
theorem PG.px {code:List Ins} {nm:List (ByteArray×Nat)} (h:PG w q base code ng nm) (hpos:0<code.length):∃cg cc sp sc B mb,PX w q w.heap.size code ng cg cc sp sc B mb nm:=by
 obtain⟨cp,cc,sp,sc,B,mb,hq,hoc,hos,hbh,hbB,hnm,hmb⟩:=h.ex
 obtain⟨cg,rfl,hcap,_,hcl,hrg⟩:=rt hoc hpos
 obtain⟨sp',sc',hv,hwa,_⟩:=xj hos
 cases hv
 obtain⟨ca,hb,hs,hall⟩:=hbh.ex
 refine⟨cg,cc,sp,sc,B,mb,hq,hrg,hcap,hwa,fun i x hi h0=> ?_,hnm,hq.lt,hcl,hb.lt,hnm.lt⟩
 have hi':i<code.length:=by
  have:=List.getElem?_eq_some_iff.1 hi
  exact this.1
 obtain⟨v,h1,h2⟩:=hall i x hi' hi h0
 obtain⟨p,c,rfl,h3,_⟩:=xj h2
 exact⟨p,c,by rw[hb.all.1];exact h1,h3⟩
theorem PG.ex' {code:List Ins} {nm:List (ByteArray×Nat)} (h:PG w q base code ng nm) (hx:Ex [] w w'):PG w' q base code ng nm:=by
 obtain⟨cp,cc,sp,sc,B,mb,hq,hoc,hos,hbh,hbB,hnm,hmb⟩:=h.ex
 exact⟨Nat.le_trans h.le hx.size,h.ql,cp,cc,sp,sc,B,mb,hq.ex hx (by simp),aU hoc hx (by simp),aU hos hx (by simp),hbh.ex' hx,hbB,hnm.ex hx (by simp),hmb⟩
def Ins.cls (i:Ins):Rx.Q.Cls:=⟨i.lo,i.hi,i.hg⟩
def Ins.takes (i:Ins) (r:Int):Bool:=i.op==0&&Rx.Q.hasC i.cls r
def cK (code:List Ins) (r pl:Int):List Th ->List Th×List Int ->List Th×List Int
 |[],s=>s
 |t::ts,s=>match code[t.pc]? with
  |some i=>if i.takes r then cK code r pl ts (aY t.sl pl (wys (bM code (t.pc+1,1))) s)else cK code r pl ts s
  |none=>cK code r pl ts s
def TOK (n:Nat) (ts:List Th):Prop:=∀t∈ts,t.sl.length=10/\t.pc<n
theorem fL (b pl:Int) (sl:List Int):(dg b pl sl).length=sl.length:=eK b pl 10 sl
theorem eR (sl:List Int) (hsl:sl.length=10) (pl:Int) (n:Nat):∀(ws:List Way) (s:List Th×List Int),(∀x∈ws,x.to<n) ->s.2.length=n ->TOK n s.1 ->s.1.length<=s.2.count pl ->
  (aY sl pl ws s).2.length=n/\TOK n (aY sl pl ws s).1/\(aY sl pl ws s).1.length<=(aY sl pl ws s).2.count pl
 |[],s,_,h1,h2,h3=>⟨h1,h2,h3⟩
 |x::ws,s,hw,h1,h2,h3=>by
  have hx:=hw x (List.mem_cons_self ..)
  have hws:∀y∈ws,y.to<n:=fun y hy=>hw y (List.mem_cons_of_mem _ hy)
  unfold aY
  by_cases hc:s.2[x.to]? =some pl
  ·rw[if_pos hc]
   exact eR sl hsl pl n ws s hws h1 h2 h3
  ·rw[if_neg hc]
   refine eR sl hsl pl n ws _ hws (by simpa using h1) (fun t ht=> ?_) ?_
   ·rcases List.mem_append.1 ht with ht|ht
    ·exact h2 t ht
    ·simp at ht;subst ht;exact⟨by rw[fL];exact hsl,hx⟩
   ·have hlt:x.to<s.2.length:=by omega
    have hne:¬(s.2[x.to]'hlt=pl):=fun e=>hc (by rw[List.getElem?_eq_getElem hlt,e])
    simp only[List.length_append,List.length_cons,List.length_nil]
    rw[List.count_set hlt]
    simp[hne]
    omega
theorem jC (code:List Ins) (hok:cZ code) (htk:eN code) (r pl:Int):∀(ts:List Th) (s:List Th×List Int),TOK code.length ts ->s.2.length=code.length ->TOK code.length s.1 ->s.1.length<=s.2.count pl ->
  (cK code r pl ts s).2.length=code.length/\TOK code.length (cK code r pl ts s).1/\(cK code r pl ts s).1.length<=(cK code r pl ts s).2.count pl
 |[],s,_,h1,h2,h3=>⟨h1,h2,h3⟩
 |t::ts,s,ht,h1,h2,h3=>by
  have ht0:=ht t (List.mem_cons_self ..)
  have hts:TOK code.length ts:=fun y hy=>ht y (List.mem_cons_of_mem _ hy)
  unfold cK
  split
  ·next i hi=>
   split
   ·next hta=>
    have h0:i.op=0:=by
     simp only[Ins.takes,Bool.and_eq_true,beq_iff_eq]at hta
     exact hta.1
    have hk:=pO code hok (t.pc+1,1) (htk _ _ hi h0) (by simp)
    have h4:=eR t.sl ht0.1 pl code.length (wys (bM code (t.pc+1,1))) s (mQ hk.1) h1 h2 h3
    exact jC code hok htk r pl ts _ hts h4.1 h4.2.1 h4.2.2
   ·exact jC code hok htk r pl ts s hts h1 h2 h3
  ·exact jC code hok htk r pl ts s hts h1 h2 h3
structure rU (w:World) (u gr base q n:Nat) (nowV nextV:Value) (ts:List Th) (rc:List Int):Prop where
 blk:BK w u (.cells #[.pointer (some ⟨q,0,none⟩),nowV,nextV,.slice (some ⟨gr,0,none⟩) n n] 202 (0,0))
 now:w.ownsRow base 207 11 nowV ts.length (thL ts)
 next:∃k xs,w.ownsRow base 207 11 nextV k xs
 apart:∀b,nowV.ownBlock=some b ->nextV.ownBlock≠some b
 rcb:BK w gr (.cells (bO rc).toArray 3 (0,0))
 rcl:rc.length=n
 tok:TOK n ts
 tlen:ts.length<=n
 ul:u<base
 gl:gr<base
 ug:u≠gr
 le:base<=w.heap.size
theorem rU.ex {u gr:Nat} {nowV nextV:Value} {ts:List Th} {rc:List Int} (h:rU w u gr base q n nowV nextV ts rc) (hx:Ex [] w w'):rU w' u gr base q n nowV nextV ts rc:=by
 obtain⟨k,xs,hn⟩:=h.next
 exact⟨h.blk.ex hx (by simp),aU h.now hx (by simp),⟨k,xs,aU hn hx (by simp)⟩,h.apart,h.rcb.ex hx (by simp),h.rcl,h.tok,h.tlen,h.ul,h.gl,h.ug,Nat.le_trans h.le hx.size⟩
theorem u9 {e:TypeId} {size:Nat} {v:Value} {xs:List Value} (h:w.ownsRow base e size v n xs):
  ∃p c,v= .slice p n c/\w.ownsRow base e size (.slice p 0 c) 0 []/\(Value.slice p 0 c).ownBlock=v.ownBlock/\(p=none ->n=0/\c=0):=by
 rcases h.2 with⟨rfl,rfl⟩|⟨g,cap,cur,rfl,hb,hgg,hnc,hcm,hcs,htake⟩
 ·exact⟨none,0,rfl,World.ownsRow_nil _ _ _ _,rfl,fun _=>⟨rfl,rfl⟩⟩
 ·exact⟨some ⟨g,0,none⟩,cap,rfl,⟨by simp,.inr ⟨g,cap,cur,rfl,hb,hgg,by omega,hcm,hcs,by simp⟩⟩,rfl,fun h=>by cases h⟩
theorem As {l:List Nat} (h:Rx.Ex l w w'):Ex l w w':=⟨h.os,h.tape,h.output,h.size,h.block⟩
theorem mJ {b:Nat} {x:Value} {y0 y1 y2 y3 y4 y5 y6 y7 y8 y9:Int} {sl:List Int} (hy:sl=[y0,y1,y2,y3,y4,y5,y6,y7,y8,y9]) (h:BK w b (.cells #[x,.int .i64 y0,.int .i64 y1,.int .i64 y2,.int .i64 y3,.int .i64 y4,.int .i64 y5,.int .i64 y6,.int .i64 y7,.int .i64 y8,.int .i64 y9] 207 (0,0))):w.rangeAt b 1 (bO sl):=by
 subst hy
 intro j v hv
 rw[h.all.1]
 match j,hv with
 |0,hv=>exact hv
 |1,hv=>exact hv
 |2,hv=>exact hv
 |3,hv=>exact hv
 |4,hv=>exact hv
 |5,hv=>exact hv
 |6,hv=>exact hv
 |7,hv=>exact hv
 |8,hv=>exact hv
 |9,hv=>exact hv
 |n+10,hv=>simp[bO]at hv
theorem xI (code:List Ins) (hok:cZ code) (htk:eN code) (hcl:code.length<=100000) (u gr base q top ng cg cc sc B mb:Nat) (sp:Option Addr) (nm:List (ByteArray×Nat)) (r pl:Int) (nowV nextV:Value) (w:World) (ts:List Th) (rc:List Int)
  (hp:PX w q top code ng cg cc sp sc B mb nm) (hr:rU w u gr base q code.length nowV nextV ts rc) (hr0:0<=r) (htu:top<=u) (htg:top<=gr):
  Calls Tryz.prog 54 #[.pointer (some ⟨u,0,none⟩),.int .i32 r,.int .i64 pl] w fun e w'=>e= .returned (.bool (decide (0<(cK code r pl ts ([],rc)).1.length)))/\(∃nowV' nextV',rU w' u gr base q code.length nowV' nextV' (cK code r pl ts ([],rc)).1 (cK code r pl ts ([],rc)).2)/\EB top [] w w':=by
 obtain⟨nn,nx,hno⟩:=hr.next
 obtain⟨np,nc,rfl,hnz,hnb,hnn⟩:=u9 hno
 obtain⟨p0,c0,rfl⟩:=aA hr.now
 obtain⟨n,hn⟩:=exq (ts.length)
 obtain⟨cn,hcn⟩:=exq (code.length)
 obtain⟨res,hres⟩:=exq (cK code r pl ts ([],rc))
 have hrok:=jC code hok htk r pl ts ([],rc) hr.tok hr.rcl (fun _ h=>by simp at h) (by simp)
 rw[<-hres]at hrok ⊢
 rw[<-hcn]at hr hrok ⊢
 have hur:=hr.blk
 have hnow:=hr.now
 rw[<-hn]at hur hnow
 obtain⟨hcu,hfu⟩:=hur.all
 have HP:=aa hp
 have HR:=aa hr
 have HUR:=aa hur
 have HNOW:=aa hnow
 have HNZ:=aa hnz
 have HNB:=aa hnb
 have HNO:=aa hno
 have HRES:=aa hres
 have HNN:=aa hn
 have HCN:=aa hcn
 have HROK:=aa hrok
 have HOK:=aa hok
 have HTK:=aa htk
 have hul:=hr.ul
 have hgl:=hr.gl
 have hug:=hr.ug
 have hle:=hr.le
 have hnc:n<=100000:=by rw[hn];have:=hr.tlen;omega
 have hcl':cn<=100000:=by omega
 clear hp hr hnz hnb hno hur hnow hres hn hcn hrok hok htk hcl
 have hcap:(0:Int)<=(nc:Int):=by omega
 go_enter Tryz.func54,Tryz.ntmps54
 go_wp2_with fail
 generalize hw1:World.setCell _ (⟨u,1,none⟩:Addr) _=w1
 have hx1:Ex [u] w w1:=by rw[<-hw1];exact (Ex.refl _ _).setCell (Or.inl (by simp)) _
 have hu1:BK w1 u (.cells #[.pointer (some ⟨q,0,none⟩),.slice np 0 nc,.slice np nn nc,.slice (some ⟨gr,0,none⟩) cn cn] 202 (0,0)):=by
  have h1:=BK.self HUR.O 1 (.slice np 0 nc)
  simp only[List.setIfInBounds_toArray,List.set_cons_zero,List.set_cons_succ]at h1
  rw[<-hw1];exact h1
 have HX1:=aa hx1
 have HU1:=aa hu1
 clear hw1 hx1 hu1 hcu hfu
 go_loopg [25] n (fun gk i25 wr=>∃(j:Nat) (nowV':Value) (ts':List Th) (rc':List Int),j+gk=n/\i25= .int .i64 j/\cK code r pl (ts.drop j) (ts',rc')=res/\TOK cn ts'/\ts'.length<=rc'.count pl/\rc'.length=cn/\
  BK wr u (.cells #[.pointer (some ⟨q,0,none⟩),nowV',.slice np nn nc,.slice (some ⟨gr,0,none⟩) cn cn] 202 (0,0))/\wr.ownsRow base 207 11 nowV' ts'.length (thL ts')/\BK wr gr (.cells (bO rc').toArray 3 (0,0))/\
  wr.ownsRow base 207 11 (.slice p0 n c0) n (thL ts)/\(∀b,nowV'.ownBlock=some b ->(Value.slice p0 n c0).ownBlock≠some b)/\EB top [] w wr)
 case atStart=>
  refine⟨0,_,[],rc,by omega,rfl,HRES.O.symm,fun _ h=>by simp at h,by simp,HR.O.rcl,HU1.O,?_,?_,?_,fun b h1 h2=> ?_,?_⟩
  ·exact aU HNZ.O HX1.O (by simpa using hul)
  ·exact HR.O.rcb.ex HX1.O (by simpa using fun h=>hug h.symm)
  ·exact aU HNOW.O HX1.O (by simpa using hul)
  ·rw[HNB.O]at h1
   exact HR.O.apart b (by rw[<-HNN.O];exact h2) h1
  ·exact (EB.ofEx HX1.O (by omega)).mono (Nat.le_refl _) (fun x hx hlt=>by simp at hx;omega)
 case round=>
  obtain⟨j,nowV',ts',rc',hj,rfl,hst,htok,hcnt,hrl,hur,hown,hgr,hold,hap,heb⟩:=hrel
  have HST:=aa hst
  have HTOK:=aa htok
  have HCNT:=aa hcnt
  have HRL:=aa hrl
  have HUR':=aa hur
  have HOWN:=aa hown
  have HGR:=aa hgr
  have HOLD:=aa hold
  have HAP:=aa hap
  have HEB:=aa heb
  have hzr:w.heap.size<=wr.heap.size:=heb.size
  have hul':=hur.lt
  obtain⟨hcu,hfu⟩:=hur.all
  have hlen':ts'.length<=cn:=by have h1:=List.count_le_length (a:=pl) (l:=rc');omega
  cases gk with
  |zero=>
   obtain rfl:j=n:=by omega
   obtain⟨p',c',rfl⟩:=aA hown
   have hrs:res=(ts',rc'):=by rw[<-hst,HNN.O,List.drop_length];rfl
   obtain⟨m',hm'⟩:∃m',m'=ts'.length:=⟨_,rfl⟩
   have HM:=aa hm'
   rw[<-hm']at hcu
   have HRS:=aa hrs
   clear hst htok hcnt hrl hur hown hgr hold hap heb hj hm' hrs
   go_wp2_with fail
   go_ret
   have hb5:=BK.self HUR'.O 2 (.slice p0 j c0)
   simp only[List.setIfInBounds_toArray,List.set_cons_zero,List.set_cons_succ]at hb5
   rw[HRS.O]
   refine⟨by rw[<-HM.O];simp,⟨_,_,⟨hb5,du HOWN.O hul _,⟨_,_,du HOLD.O hul _⟩,HAP.O,HGR.O.set (by simpa using fun h=>hug h.symm) _,HRL.O,HTOK.O,hlen',hul,hgl,hug,by simp;omega⟩⟩,?_⟩
   exact HEB.O.setCell (Or.inr (by simpa using htu)) _
  |succ g=>
   have hj':j<ts.length:=by rw[<-HNN.O];omega
   have hjn:(j:Int)<(n:Int):=by omega
   have hold':=hold
   rw[HNN.O]at hold'
   obtain⟨ngb,hp0,hngb,hngl,hngc,hrg⟩:=kF hold' (by omega)
   have htok0:=HR.O.tok
   obtain⟨y0,y1,y2,y3,y4,y5,y6,y7,y8,y9,hy,hcl⟩:=jD hrg (fun t ht=>(htok0 t ht).1) j hj'
   have hpc:=(htok0 _ (List.getElem_mem hj')).2
   obtain⟨k,hk⟩:=exq ((ts[j]'hj').pc)
   obtain⟨sl,hsl⟩:=exq ((ts[j]'hj').sl)
   have hsl10:sl.length=10:=by rw[hsl];exact (htok0 _ (List.getElem_mem hj')).1
   rw[<-hsl]at hy
   rw[<-hk]at hcl hpc
   obtain⟨ci,hci⟩:∃ci,code[k]? =some ci:=⟨_,List.getElem?_eq_getElem (by rw[<-HCN.O];exact hpc)⟩
   have hstep:cK code r pl (ts.drop j) (ts',rc')=if ci.takes r then cK code r pl (ts.drop (j+1)) (aY sl pl (wys (bM code (k+1,1))) (ts',rc'))else cK code r pl (ts.drop (j+1)) (ts',rc'):=by
    rw[List.drop_eq_getElem_cons hj',cK,<-hk,hci,<-hsl]
   have HSTP:=aa hstep
   have hpr:=HP.O.eb heb
   have hcode:∀o,o<7 ->wr.cell? ⟨cg,k*7+o,none⟩=ci.cells[o]? :=fun o ho=>by
    have h1:=dH code k o ci hci ho
    have h3:k*7+o<(bY code).length:=by rw[nM];have:=HCN.O;omega
    rw[<-h1,List.getElem?_eq_getElem h3]
    simpa using hpr.cls (k*7+o) _ (List.getElem?_eq_getElem h3)
   have hbeh:=hpr.beh k ci hci
   have hwk:ci.op=0 ->(∀y∈bM code (k+1,1),y.1<cn)/\(bM code (k+1,1)).length<=2*cn:=fun h0=>by
    have:=pO code HOK.O (k+1,1) (HTK.O _ _ hci h0) (by simp)
    rw[<-HCN.O]at this
    exact this
   obtain⟨op,lo,hi,hg,t0,t1,sl0⟩:=ci
   simp only[Ins.cells]at hcode
   have c0:wr.cell? ⟨cg,k*7,none⟩=some (.int .i64 op):=hcode 0 (by omega)
   have c1:wr.cell? ⟨cg,k*7+1,none⟩=some (.int .u64 lo):=hcode 1 (by omega)
   have c2:wr.cell? ⟨cg,k*7+2,none⟩=some (.int .u64 hi):=hcode 2 (by omega)
   have c3:wr.cell? ⟨cg,k*7+3,none⟩=some (.bool hg):=hcode 3 (by omega)
   have c4:wr.cell? ⟨cg,k*7+4,none⟩=some (.int .i64 t0):=hcode 4 (by omega)
   have c5:wr.cell? ⟨cg,k*7+5,none⟩=some (.int .i64 t1):=hcode 5 (by omega)
   have c6:wr.cell? ⟨cg,k*7+6,none⟩=some (.int .i64 sl0):=hcode 6 (by omega)
   have j0:wr.cell? ⟨ngb,j*11,none⟩=some (.int .i64 (k:Int)):=hcl 0 (by omega)
   have j1:wr.cell? ⟨ngb,j*11+1,none⟩=some (.int .i64 y0):=hcl 1 (by omega)
   have j2:wr.cell? ⟨ngb,j*11+2,none⟩=some (.int .i64 y1):=hcl 2 (by omega)
   have j3:wr.cell? ⟨ngb,j*11+3,none⟩=some (.int .i64 y2):=hcl 3 (by omega)
   have j4:wr.cell? ⟨ngb,j*11+4,none⟩=some (.int .i64 y3):=hcl 4 (by omega)
   have j5:wr.cell? ⟨ngb,j*11+5,none⟩=some (.int .i64 y4):=hcl 5 (by omega)
   have j6:wr.cell? ⟨ngb,j*11+6,none⟩=some (.int .i64 y5):=hcl 6 (by omega)
   have j7:wr.cell? ⟨ngb,j*11+7,none⟩=some (.int .i64 y6):=hcl 7 (by omega)
   have j8:wr.cell? ⟨ngb,j*11+8,none⟩=some (.int .i64 y7):=hcl 8 (by omega)
   have j9:wr.cell? ⟨ngb,j*11+9,none⟩=some (.int .i64 y8):=hcl 9 (by omega)
   have j10:wr.cell? ⟨ngb,j*11+10,none⟩=some (.int .i64 y9):=hcl 10 (by omega)
   have hkn:(k:Int)<(cn:Int):=by omega
   have hpb:=hpr.blk
   rw[<-HCN.O]at hpb
   have q0:wr.cell? ⟨q,0,none⟩=some (.slice (some ⟨cg,0,none⟩) cn cc):=hpb.all.1 0
   have q2:wr.cell? ⟨q,2,none⟩=some (.slice (some ⟨B,0,none⟩) cn cn):=hpb.all.1 2
   have hql:=hpb.lt
   have hqt:=HP.O.qt
   have hcgt:=HP.O.cgt
   have hBt:=HP.O.Bt
   have hcg1:cg<wr.heap.size:=by omega
   have hB1:B<wr.heap.size:=by omega
   have hcap':cn<=cc:=by rw[HCN.O];exact HP.O.cap
   have HY:=aa hy
   have HSL:=aa hsl
   have HPR:=aa hpr
   have HBEH:=aa hbeh
   have HWK:=aa hwk
   have hKH:=fun w=>Rx.Q.has_any ⟨lo,hi,hg⟩ r w hr0
   have htake:({op:=op,lo:=lo,hi:=hi,hg:=hg,t0:=t0,t1:=t1,sl:=sl0}:Ins).takes r=(op==0&&Rx.Q.hasC ⟨lo,hi,hg⟩ r):=rfl
   rw[htake]at HSTP
   obtain⟨hv,hhv⟩:=exq (Rx.Q.hasC ⟨lo,hi,hg⟩ r)
   rw[<-hhv]at hKH HSTP
   have KH:=aa hKH
   subst hp0
   clear hst htok hcnt hrl hur hown hgr hold hold' hap heb hrg hcl hpc hci hstep hcode hy hsl hpr hbeh hwk hKH hhv htake hpb hk htok0
   go_wp2_with fail
   go_region
   generalize hw2:World.drew _=w2
   have hx2:Ex [] wr w2:=by rw[<-hw2];exact (((Ex.refl _ _).alloc _).alloc _).drew
   have ht2:BK w2 wr.heap.size (.cells #[.int .i64 k,.int .i64 y0,.int .i64 y1,.int .i64 y2,.int .i64 y3,.int .i64 y4,.int .i64 y5,.int .i64 y6,.int .i64 y7,.int .i64 y8,.int .i64 y9] 207 (0,0)):=by
    rw[<-hw2];exact ((BK.new _ _).alloc _).drew
   have hi2:BK w2 (wr.heap.size+1) (.cells #[.int .i64 op,.int .u64 lo,.int .u64 hi,.bool hg,.int .i64 t0,.int .i64 t1,.int .i64 sl0] 192 (0,0)):=by
    have h1:=BK.new (wr.alloc (Obj.cells #[.int .i64 k,.int .i64 y0,.int .i64 y1,.int .i64 y2,.int .i64 y3,.int .i64 y4,.int .i64 y5,.int .i64 y6,.int .i64 y7,.int .i64 y8,.int .i64 y9] 207)) (Obj.cells #[.int .i64 op,.int .u64 lo,.int .u64 hi,.bool hg,.int .i64 t0,.int .i64 t1,.int .i64 sl0] 192)
    simp only[World.size_alloc]at h1
    rw[<-hw2];exact h1.drew
   have HT2:=aa ht2
   have HX2:=aa hx2
   clear hw2 hcu hfu q0 q2 j0 j1 j2 j3 j4 j5 j6 j7 j8 j9 j10 c0 c1 c2 c3 c4 c5 c6
   obtain⟨hci,hfi⟩:=hi2.all
   have hil:=hi2.lt
   clear hi2 ht2 hx2
   cases hop:(op==0)with
   |false=>
    go_wp2_with fail
    go_roundg g
    case measure=>omega
    case rel=>
     refine⟨j+1,nowV',ts',rc',by omega,by simp,?_,HTOK.O,HCNT.O,HRL.O,HUR'.O.ex HX2.O (by simp),aU HOWN.O HX2.O (by simp),HGR.O.ex HX2.O (by simp),aU HOLD.O HX2.O (by simp),HAP.O,?_⟩
     ·have h1:=HST.O
      rw[HSTP.O,hop]at h1
      simpa using h1
     ·exact HEB.O.trans (EB.ofEx HX2.O (by omega))
   |true=>
    go_wp2_with fail
    refine (KH.O _).mono ?_
    rintro e w3 ⟨rfl,hx3r⟩
    have hx3:=As hx3r
    clear hx3r
    have hx13:Ex [] wr w3:=HX2.O.trans hx3
    have hz13:=hx13.size
    have ht3:=HT2.O.ex hx3 (by simp)
    have hi3:wr.heap.size+1<w3.heap.size:=Nat.lt_of_lt_of_le hil hx3.size
    have hu3:=HUR'.O.ex hx13 (by simp)
    have HX13:=aa hx13
    have HT3:=aa ht3
    have HU3:=aa hu3
    clear hx3 hx13 ht3 hci hfi hil
    cases hv with
    |false=>
     go_wp2_with fail
     go_roundg g
     case measure=>omega
     case rel=>
      refine⟨j+1,nowV',ts',rc',by omega,by simp,?_,HTOK.O,HCNT.O,HRL.O,HU3.O,aU HOWN.O HX13.O (by simp),HGR.O.ex HX13.O (by simp),aU HOLD.O HX13.O (by simp),HAP.O,?_⟩
      ·have h1:=HST.O
       rw[HSTP.O,hop]at h1
       simpa using h1
      ·exact HEB.O.trans (EB.ofEx HX13.O (by omega))
    |true=>
     have h00:op=0:=by simpa using hop
     obtain⟨pb,cb,hb0,hwa⟩:=HBEH.O h00
     obtain⟨hwt,hwl⟩:=HWK.O h00
     obtain⟨l,hl⟩:=exq (bM code (k+1,1))
     rw[<-hl]at hb0 hwa hwt hwl HSTP
     have hwa3:=hwa.eb (EB.ofEx HX13.O (show top<=wr.heap.size by omega))
     obtain⟨gw,hgw,hpa,hwc⟩:∃gw,gw<top/\(wys l≠[] ->pb=some ⟨gw,0,none⟩)/\∀j,j<(wys l).length*2 ->w3.cell? ⟨gw,j,none⟩=(pN (wys l))[j]? :=by
      by_cases hnil:l=[]
      ·subst hnil
       exact⟨q,hqt,fun h=>absurd rfl h,fun j hj=>by simp[wys]at hj⟩
      ·obtain⟨gw,h1,h2,h3⟩:=hwa3 hnil
       exact⟨gw,h2,fun _=>h1,fun j hj=>by rw[zh];exact h3 j (by rwa [io]at hj)⟩
     have s0:w3.cell? ⟨u,0,none⟩=some (.pointer (some ⟨q,0,none⟩)):=hu3.all.1 0
     have hp3:=HPR.O.eb (EB.ofEx HX13.O (show top<=wr.heap.size by omega))
     have hpb3:=hp3.blk
     rw[<-HCN.O]at hpb3
     have s1:w3.cell? ⟨q,2,none⟩=some (.slice (some ⟨B,0,none⟩) cn cn):=hpb3.all.1 2
     have s2:w3.cell? ⟨wr.heap.size,0,none⟩=some (.int .i64 k):=HT3.O.all.1 0
     have s3:w3.rangeAt wr.heap.size 1 (bO sl):=mJ HY.O HT3.O
     have b0:w3.cell? ⟨B,k,none⟩=some (.slice pb l.length cb):=(HX13.O.cell0.1 B k hB1).trans hb0
     have hn3:=aU HOWN.O HX13.O (by simp)
     have hgr3:=HGR.O.ex HX13.O (by simp)
     have hul3:=hu3.lt
     have htl3:=HT3.O.lt
     have key:=lK u gr gw cb cn base pb pl (.pointer (some ⟨q,0,none⟩)) nowV' (.slice np nn nc) w3.drew rc' ts' (wys l) sl hsl10 hn3.drew HU3.O.drew hgr3.drew HRL.O hcl' (by rw[io];omega) (mQ hwt) hul hgl hug (by show base<=w3.heap.size;omega) hpa hwc (by omega) (by omega) (by omega)
     rw[io]at key
     have KEY:=aa key
     have HL:=aa hl
     have HWT:=aa hwt
     have h90:=Tryz.underlying121
     have hs90:=pF sl hsl10
     have HN3:=aa hn3
     have hnl:∀x,x≠u ->x≠gr ->(x<base\/wr.heap.size<=x) ->x∉(u::gr::nowV'.ownBlock.toList):=fun x h2 h3 h4 hmem=>by
      simp only[List.mem_cons,Option.mem_toList]at hmem
      rcases hmem with h|h|h
      ·exact h2 h
      ·exact h3 h
      ·have e1:=aG HOWN.O x h
       have e2:=(HOWN.O.lt x h).2
       omega
     have HNL:=aa hnl
     obtain⟨ln,hln⟩:=exq (l.length)
     rw[<-hln]at b0 KEY
     clear key hl hwt hwl hwa hwa3 hpa hwc hp3 hpb3 hn3 hgr3 hu3 hb0 hnl hln h00
     go_wp2_with fail
     go_region_held3 (fun w'=>w'.cell? ⟨u,0,none⟩=some (.pointer (some ⟨q,0,none⟩))/\w'.cell? ⟨q,2,none⟩=some (.slice (some ⟨B,0,none⟩) cn cn)/\w'.cell? ⟨wr.heap.size,0,none⟩=some (.int .i64 k)/\w'.cell? ⟨B,k,none⟩=some (.slice pb ln cb)/\w'.rangeAt wr.heap.size 1 (bO sl))
      (first|exact⟨q0,q1,q2,q3,q4⟩|exact⟨s0,s1,s2,b0,s3⟩)
      (first
       |(go_at_call 51;refine KEY.O.mono ?_;rintro e w4 ⟨rfl,nowV4,hu4,ho4,hg4,hx4,hor4⟩;have q0:w4.cell? ⟨u,0,none⟩=some (.pointer (some ⟨q,0,none⟩)):=hu4.all.1 0;have q1:=(hx4.cell.1 q 2 (show q<w3.heap.size by omega) (HNL.O q (by omega) (by omega) (Or.inl (by omega)))).trans s1;have ht4:=HT3.O.drew.ex hx4 (HNL.O _ (by omega) (by omega) (Or.inr (Nat.le_refl _)));have q2:w4.cell? ⟨wr.heap.size,0,none⟩=some (.int .i64 k):=ht4.all.1 0;have q3:=(hx4.cell.1 B k (show B<w3.heap.size by omega) (HNL.O B (by omega) (by omega) (Or.inl (by omega)))).trans b0;have q4:=mJ HY.O ht4))
     have HU4:=aa hu4
     have HO4:=aa ho4
     have HG4:=aa hg4
     have HX4:=aa hx4
     have hz4:w3.heap.size<=w4.heap.size:=hx4.size
     clear hu4 ho4 hg4 hx4 q0 q1 q2 q3 q4 ht4 s0 s1 s2 s3 b0
     go_wp2_with fail
     go_roundg g
     case measure=>omega
     case rel=>
      have hfo:=eR sl hsl10 pl cn (wys l) (ts',rc') (mQ HWT.O) HRL.O HTOK.O HCNT.O
      refine⟨j+1,nowV4,(aY sl pl (wys l) (ts',rc')).1,(aY sl pl (wys l) (ts',rc')).2,by omega,by simp,?_,hfo.2.1,hfo.2.2,hfo.1,HU4.O,HO4.O,HG4.O,?_,fun b h1 h2=> ?_,?_⟩
      ·have h1:=HST.O
       rw[HSTP.O,hop]at h1
       simpa using h1
      ·have hold3:=aU HOLD.O HX13.O (by simp)
       refine gx (World.ownsRow.drew hold3) HX4.O (fun b hb hmem=> ?_)
       simp only[List.mem_cons,Option.mem_toList]at hmem
       have e0:=aG HOLD.O b hb
       rcases hmem with h|h|h
       ·omega
       ·omega
       ·exact HAP.O b h hb
      ·rcases hor4 with h|⟨g4,h,hg4⟩
       ·exact HAP.O b (by rw[<-h];exact h1) h2
       ·rw[h1]at h
        cases h
        have e1:=(HOLD.O.lt b h2).2
        have:w3.heap.size<=b:=hg4
        omega
      ·have e2:EB top [] w3 w4:=((EB.refl top [] w3).drew).trans ((EB.ofEx HX4.O (show top<=w3.heap.size by omega)).mono (Nat.le_refl _) (fun x hx hlt=>by
        simp only[List.mem_cons,Option.mem_toList]at hx
        rcases hx with h|h|h
        ·omega
        ·omega
        ·have:=aG HOWN.O x h;omega))
       exact (HEB.O.trans (EB.ofEx HX13.O (by omega))).trans e2
def bh:List Int:=[-1,-1,-1,-1,-1,-1,-1,-1,-1,-1]
theorem vu (w:World):Calls Tryz.prog 52 #[] w fun e w'=>e= .returned (.agg (bO bh).toArray)/\Ex [] w w':=by
 go_enter Tryz.func52,Tryz.ntmps52
 go_wp2_with fail
 go_rounds 11
 refine bodyPost_ret (v:= .agg (bO bh).toArray) (by simp[results,Tryz.results52,go_sem,bh,bO]) rfl ⟨rfl,?_⟩
 repeat (first|exact Ex.refl _ _|refine Ex.setCell ?_ (Or.inr (by simp)) _|refine Ex.alloc ?_ _)
def bL (l:List (Int×Int)):List Value:=l.flatMap fun y=>[.int .i64 y.1,.int .i64 y.2]
theorem mD (l:List (Int×Int)) (y:Int×Int):bL (l++[y])=bL l++[.int .i64 y.1,.int .i64 y.2]:=by simp[bL]
def pG (sl:List Int) (k:Nat):Int×Int:=(sl.getD (2*k) 0,sl.getD (2*k+1) 0)
def bv (len:Int) (sl:List Int) (ng:Nat):List (Int×Int):=(0,len)::(List.range ng).map (pG sl)
theorem rK (len:Int) (sl:List Int) (k:Nat):bv len sl (k+1)=bv len sl k++[pG sl k]:=by simp[bv,List.range_succ]
theorem iZ (len:Int) (sl:List Int) (k:Nat):(bv len sl k).length=k+1:=by simp[bv]
theorem wP:(Tryz.prog.info? 31).map (fun i=>(i.zero,i.size,i.bytes))=some (some (.agg #[.int .i64 0,.int .i64 0]),2,16):=by kernel_rfl
theorem vn (q:Nat) (v0 v1 v2 v4:Value) (ng:Nat) (hng:ng<=5) (sl:List Int) (hsl:sl.length=10) (len:Int) (w:World) (hq:BK w q (.cells #[v0,v1,v2,.int .i64 (ng:Int),v4] 116 (0,0))):
  Calls Tryz.prog 56 #[.pointer (some ⟨q,0,none⟩),.agg (bO sl).toArray,.int .i64 len] w fun e w'=>∃v,e= .returned v/\w'.ownsRow w.heap.size 31 2 v (ng+1) (bL (bv len sl ng))/\Ex [] w w':=by
 obtain⟨t0,hi,hz0,hz1,hz2⟩:=info_parts wP
 obtain⟨hcq,hfq⟩:=hq.all
 have hql:=hq.lt
 have h90:=Tryz.underlying121
 clear hq
 go_enter Tryz.func56,Tryz.ntmps56
 go_wp2_with fail
 go_loopg [7,16] ng (fun gk s7 i16 wr=>∃(j:Nat),j+gk=ng/\i16= .int .i64 j/\wr.ownsRow (w.heap.size+1) 31 2 s7 (j+1) (bL (bv len sl j))/\BK wr w.heap.size (.cells (bO sl).toArray 121 (0,0))/\Ex [] w wr)
 case atStart=>
  refine⟨0,by omega,rfl,?_,?_,((Ex.refl _ _).alloc _).alloc _⟩
  ·have h1:=World.ownsRow_lit (base:=w.heap.size+1) (e:=31) (size:=2) (w.alloc (Obj.cells (bO sl).toArray 121)) #[.int .i64 0,.int .i64 len] 1 (by simp) (by decide) (by simp)
   simpa[bL,bv]using h1
  ·exact (BK.new _ _).alloc _
 case round=>
  obtain⟨j,hj,rfl,hown,hbs,hx⟩:=hrel
  have HO:=aa hown
  have HB:=aa hbs
  have HX:=aa hx
  cases gk with
  |zero=>
   obtain rfl:j=ng:=by omega
   clear hown hbs hx hj
   go_wp2_with fail
   go_ret
   exact⟨_,rfl,dX HO.O (by omega),HX.O⟩
  |succ g=>
   obtain⟨p,c,rfl⟩:=aA hown
   have hjn:(j:Int)<(ng:Int):=by omega
   have hj5:j<5:=by omega
   obtain⟨i2,hi2⟩:=exq (2*j)
   have e1:IntKind.i64.wrap (2*(j:Int))=(i2:Int):=by
    have:j=0\/j=1\/j=2\/j=3\/j=4:=by omega
    rcases this with rfl|rfl|rfl|rfl|rfl<;>subst hi2<;>rfl
   obtain⟨i3,hi3⟩:=exq (2*j+1)
   have e2:IntKind.i64.wrap ((i2:Int)+1)=(i3:Int):=by
    have:j=0\/j=1\/j=2\/j=3\/j=4:=by omega
    rcases this with rfl|rfl|rfl|rfl|rfl<;>subst hi2<;>subst hi3<;>rfl
   have e4:(i3:Int)<10:=by omega
   have e3:(i2:Int)<10:=by omega
   obtain⟨hcb,hfb⟩:=hbs.all
   obtain⟨x,hx0⟩:=exq (sl.getD (2*j) 0)
   obtain⟨y,hy0⟩:=exq (sl.getD (2*j+1) 0)
   have k0:wr.cell? ⟨w.heap.size,i2,none⟩=some (.int .i64 x):=by
    rw[hi2,hcb,List.getElem?_toArray,jo,hx0,List.getD_eq_getElem?_getD,List.getElem?_eq_getElem (by omega)];rfl
   have k1:wr.cell? ⟨w.heap.size,i3,none⟩=some (.int .i64 y):=by
    rw[hi3,hcb,List.getElem?_toArray,jo,hy0,List.getD_eq_getElem?_getD,List.getElem?_eq_getElem (by omega)];rfl
   have hxs:pG sl j=(x,y):=by rw[hx0,hy0];rfl
   have HXS:=aa hxs
   have hbl:=hbs.lt
   have hwl:=hx.size
   clear hown hbs hx hcb hfb hx0 hy0 hxs hcq hfq hi2 hi3
   have HN:Hid (∀i u,[Value.int .i64 x,.int .i64 y][i]? =some u ->(wr.alloc (Obj.cells #[.int .i64 x,.int .i64 y] 31)).drew.cell? ((⟨wr.heap.size,0,none⟩:Addr).add i)=some u):=World.news_of_block (BK.drew (BK.new _ _))
   go_wp2_with fail
   go_region_law (refine step_append_lies _ rfl (.tmp 19) (.tmp 30) 22 rfl (w.heap.size+1) 31 t0 _ 2 16 Tryz.underlying22 hi hz0 hz1 hz2 rfl (by decide) (.slice p (j+1) c) (j+1) (bL (bv len sl j)) (by simp[Act.eval,Act.put]) (World.ownsRow.drew (HO.O.alloc _)) ⟨wr.heap.size,0,none⟩ 1 1 [.int .i64 x,.int .i64 y] (by simp[Act.eval,Act.put]) rfl HN.O (by simp[Value.oneCell']) (by decide) (by unfold maxLen;omega) (by omega) (by simp;omega) _ rfl ?_;intro g0 cap w1 hown1 hgrow hat hlt)
   all_goals
    have HB1:=aa (BK.grown (HB.O.alloc (Obj.cells #[.int .i64 x,.int .i64 y] 31)).drew hgrow (fun e=>by have:=aG HO.O _ e;omega))
    have HO1:=aa hown1
    have HG1:=aa hgrow
    clear hown1 hgrow hat
    go_wp2_with fail
    go_roundg g
    case measure=>omega
    case rel=>
     refine⟨j+1,by omega,by simp,?_,HB1.O,?_⟩
     ·rw[rK,mD,HXS.O]
      exact HO1.O
     ·refine Ex.grown ((HX.O.alloc _).drew) HG1.O (fun k hk=>Or.inr ?_)
      have:=aG HO.O k hk
      omega
open Go.Lib
def rsz (s:ByteArray) (a:Nat):Nat:=(Lib.decodeGo (s.extract a s.size)).2
def sY (s:ByteArray) (a:Nat):Nat:=(Lib.decodeGo (s.extract a s.size)).1
theorem size_extract (s:ByteArray) (a e:Nat) (he:e<=s.size):(s.extract a e).size=e-a:=by
 rw[Lib.size_eq,Lib.extract_data,List.length_take,List.length_drop,<-Lib.size_eq]
 omega
theorem Ae (n b0 b1 b2 b3:Nat):1<=(decodeN n b0 b1 b2 b3).2:=by
 unfold decodeN
 repeat' split
 all_goals simp
theorem Af (n b0 b1 b2 b3:Nat) (hn:1<=n):(decodeN n b0 b1 b2 b3).2<=n:=by
 unfold decodeN
 repeat' split
 all_goals (simp only;omega)
theorem yQ (s:ByteArray) (a:Nat) (h:a<s.size):
  rsz s a=(decodeN (s.size-a) ((s.extract a s.size).get! 0).toNat ((s.extract a s.size).get! 1).toNat ((s.extract a s.size).get! 2).toNat ((s.extract a s.size).get! 3).toNat).2:=by
 have hz:=size_extract s a s.size (Nat.le_refl _)
 unfold rsz decodeGo
 rw[if_neg (by omega),decode_at,hz]
 simp
theorem sX (s:ByteArray):∀a,a<s.size ->1<=rsz s a/\a+rsz s a<=s.size:=by
 intro a h
 rw[yQ s a h]
 exact⟨Ae _ _ _ _ _,by have:=Af (s.size-a) ((s.extract a s.size).get! 0).toNat ((s.extract a s.size).get! 1).toNat ((s.extract a s.size).get! 2).toNat ((s.extract a s.size).get! 3).toNat (by omega);omega⟩
def mz (code:List Ins) (s:ByteArray):Nat ->Nat ->List Th×List Int ->Option (List Int)
 |0,_,st=>cQ code st.1
 |f+1,a,st=>if a<s.size then
   if (cK code (sY s a) ((a+rsz s a:Nat):Int) st.1 ([],st.2)).1.length=0 then none else mz code s f (a+rsz s a) (cK code (sY s a) ((a+rsz s a:Nat):Int) st.1 ([],st.2))
  else cQ code st.1
def dN (code:List Ins) (s:ByteArray):Option (List Int):=mz code s s.size 0 (aY bh 0 (wys (bM code (0,0))) ([],List.replicate code.length (-1)))
theorem xy (code:List Ins) (s:ByteArray) (f:Nat) (st:List Th×List Int):mz code s f s.size st=cQ code st.1:=by
 cases f with
 |zero=>rfl
 |succ f=>simp[mz]
theorem lj (code:List Ins) (n:Nat):∀ts:List Th,TOK n ts ->∀sl,cQ code ts=some sl ->sl.length=10
 |[],_,sl,h=>by cases h
 |t::ts,ht,sl,h=>by
  unfold cQ at h
  split at h
  ·cases h;exact (ht t (List.mem_cons_self ..)).1
  ·exact lj code n ts (fun y hy=>ht y (List.mem_cons_of_mem _ hy)) sl h
theorem uf (h:Lib.Utf8Tabs 2 3 w) (hx:EB B [] w w') (hB:3<B):Lib.Utf8Tabs 2 3 w':=
 ⟨fun c hc=>(hx.cell (by omega)).trans (h.1 c hc),fun i hi=>⟨(hx.cell (by omega)).trans (h.2 i hi).1,(hx.cell (by omega)).trans (h.2 i hi).2⟩⟩
theorem yW (h:Lib.Utf8Tabs 2 3 w) (hx:Ex [] w w'):Lib.Utf8Tabs 2 3 w':=uf h (EB.ofEx hx (Nat.le_refl _)) (World.block_lt_of_cell? w _ (h.2 0 (by omega)).1)
theorem yX (h:Lib.Utf8Tabs 2 3 w):3<w.heap.size:=World.block_lt_of_cell? w _ (h.2 0 (by omega)).1
end Go.Proofs.YtfnanjbleifjkaaGreatDoor.G
