import Derived.Test.YtfnanjbleifjkaaGreatDoorM11
set_option linter.unusedVariables false
set_option linter.unusedSimpArgs false
set_option maxHeartbeats 1000000
set_option maxRecDepth 100000
namespace Go.Proofs.YtfnanjbleifjkaaGreatDoor.G
open Go.RowKit
def fg (kd:Int) (s n:Nat) (l m:Int):Int:=
 if kd=0 then s+1 else if kd=3 then s+1 else if kd=2 then s+n-1 else if kd=4 then s*ec l m+1 else s
theorem fd (v:PV) (ks:List Pt) (B:Nat ->Prop) (w:World) (hrow:Row w B v ks) (hkd:v.kd=0\/v.kd=1\/v.kd=2\/v.kd=3\/v.kd=4)
  (hlen:ks.length<1000000000000000000) (hsum:wtL ks<1000000000000000000) (hl:0<=v.l/\v.l<1000000000000000000) (hm: -1<=v.m/\v.m<1000000000000000000) (hpr:v.kd=4 ->(wtL ks:Int)*ec v.l v.m<1000000000000000000)
  (ih:∀q,q∈ks ->∀u w,PR w B q u ->Calls Tryz.prog 46 #[u.val] w fun e w'=>e= .returned (.int .i64 (wt q))/\Ex [] w w'):
  Calls Tryz.prog 46 #[v.val] w fun e w'=>e= .returned (.int .i64 (fg v.kd (wtL ks) ks.length v.l v.m))/\Ex [] w w':=by
 obtain⟨kd,p,n,c,lo,hi,hg,gr,l,m,z⟩:=v
 simp only at hkd hl hm hpr
 have hn:n=ks.length:=hrow.1
 subst hn
 have HR:=aa hrow
 have HIH:=aa ih
 have HP:=aa hpr
 have HK:=aa hkd
 clear hrow ih hpr hkd
 unfold PV.val
 dsimp only
 go_enter Tryz.func46,Tryz.ntmps46
 go_wp2_with fail
 go_loopg [3,9] ks.length (fun gk s i wr=>∃j:Nat,j+gk=ks.length/\s= .int .i64 (wtL (ks.take j))/\i= .int .i64 j/\Ex [] (w.alloc (Obj.cells #[.int .i64 kd,.slice p ks.length c,.int .u64 lo,.int .u64 hi,.bool hg,.int .i64 gr,.int .i64 l,.int .i64 m,.bool z] 101)) wr)
 case atStart=>exact⟨0,by omega,by simp[wtL],rfl,Ex.refl _ _⟩
 case round=>
  obtain⟨j,hj,rfl,rfl,hx⟩:=hrel
  have HX:=aa hx
  have hA:BK wr w.heap.size (.cells #[.int .i64 kd,.slice p ks.length c,.int .u64 lo,.int .u64 hi,.bool hg,.int .i64 gr,.int .i64 l,.int .i64 m,.bool z] 101):=(BK.new _ _).ex hx (by simp)
  obtain⟨hcA,hfA⟩:=hA.all
  cases gk with
  |zero=>
   obtain rfl:j=ks.length:=by omega
   have HA:=aa hA
   clear hx hA hj
   obtain⟨s,hs⟩:=exq (wtL (ks.take ks.length))
   rw[<-hs]
   have HS:=aa (show s=wtL ks by rw[hs,List.take_length])
   have hsum':s<1000000000000000000:=by rw[HS.O];exact hsum
   clear hs hsum
   rcases HK.O with rfl|rfl|rfl|rfl|rfl
   ·go_wp2_with fail
    go_ret
    exact⟨by simp[fg,HS.O],((Ex.refl _ _).alloc _).trans HX.O⟩
   ·go_wp2_with fail
    go_ret
    exact⟨by simp[fg,HS.O],((Ex.refl _ _).alloc _).trans HX.O⟩
   ·go_wp2_with fail
    go_ret
    exact⟨by simp[fg,HS.O],((Ex.refl _ _).alloc _).trans HX.O⟩
   ·go_wp2_with fail
    go_ret
    exact⟨by simp[fg,HS.O],((Ex.refl _ _).alloc _).trans HX.O⟩
   ·have hcop:=sg ⟨4,p,ks.length,c,lo,hi,hg,gr,l,m,z⟩ wr hl
    unfold PV.val at hcop
    dsimp only at hcop
    go_wp2_with fail
    refine hcop.mono ?_
    rintro e w1 ⟨rfl,hx1⟩
    have HX1:=aa hx1
    have hp:=HP.O (by first|exact rfl|trivial)
    rw[<-HS.O]at hp
    have hc0:0<=ec l m:=by unfold ec;split<;>omega
    obtain⟨k,hk⟩:=exq (ec l m)
    rw[<-hk]at hp hc0 ⊢
    have hp0:(0:Int)<=s*k:=Int.mul_nonneg (by omega) hc0
    have HKK:=aa hk
    clear hx1 hk
    go_wp2_with fail
    go_ret
    exact⟨by simp[fg,HS.O,HKK.O],(((Ex.refl _ _).alloc _).trans HX.O).trans HX1.O⟩
  |succ g=>
   have hj':((j:Int)<(ks.length:Int)):=by omega
   obtain⟨g1,u,hv,hnc,hB,hlt,hrange,hq⟩:=((HR.O.frame ((Ex.refl _ _).alloc _)).frame hx).at j (show j<ks.length by omega)
   simp only at hv
   subst hv
   have HQ:=aa hq
   clear hx hA hq hB
   obtain⟨kd',p',n',c',lo',hi',hg',gr',l',m',z'⟩:=u
   have k0:=hrange 0 _ rfl;have k1:=hrange 1 _ rfl;have k2:=hrange 2 _ rfl;have k3:=hrange 3 _ rfl;have k4:=hrange 4 _ rfl
   have k5:=hrange 5 _ rfl;have k6:=hrange 6 _ rfl;have k7:=hrange 7 _ rfl;have k8:=hrange 8 _ rfl
   simp only[Nat.add_zero]at k0
   clear hrange
   simp only at hnc
   obtain⟨s,hs⟩:=exq (wtL (ks.take j))
   obtain⟨s',hs'⟩:∃s',s'=wt ks[j]:=⟨_,rfl⟩
   have hs2:wtL (ks.take (j+1))=s+s':=by rw[xU ks j (by omega),hs,hs']
   have hs3:s+s'<1000000000000000000:=by have:=rS ks (j+1);omega
   have HS2:=aa hs2
   have HS':=aa hs'
   rw[<-hs]
   clear hs hs' hs2
   go_wp2_with fail
   refine (HIH.O ks[j] (List.getElem_mem _) ⟨kd',p',n',c',lo',hi',hg',gr',l',m',z'⟩ _ (HQ.O.frame (fun _ h=>h) ((Ex.refl [] wr).alloc _).size (fun b _ hlt=>((Ex.refl [] wr).alloc _).block b hlt (by simp)) _ _)).mono ?_
   rintro e w1 ⟨rfl,hx1⟩
   have HX1:=aa hx1
   rw[<-HS'.O]
   clear hx1 k0 k1 k2 k3 k4 k5 k6 k7 k8
   go_wp2_with fail
   go_roundg g
   case measure=>omega
   case rel=>exact⟨j+1,by omega,by simp[HS2.O],by simp,(HX.O.alloc _).trans HX1.O⟩
theorem tO (q:Pt):∀x,x∈jW q ->SizeOf.sizeOf x<SizeOf.sizeOf q:=by
 intro x hx
 cases q with
 |single c=>simp[jW]at hx
 |seq l=>have:=List.sizeOf_lt_of_mem (show x∈l from hx);simp;omega
 |alt l=>have:=List.sizeOf_lt_of_mem (show x∈l from hx);simp;omega
 |wrap q k=>simp[jW]at hx;subst hx;simp;omega
 |count q a b c=>simp[jW]at hx;subst hx;simp;omega
theorem mO (B:Nat ->Prop):∀(q:Pt) (v:PV) (w:World),PR w B q v ->WOK q ->
  Calls Tryz.prog 46 #[v.val] w fun e w'=>e= .returned (.int .i64 (wt q))/\Ex [] w w':=by
 have key:∀(n:Nat) (q:Pt),SizeOf.sizeOf q<n ->∀(v:PV) (w:World),PR w B q v ->WOK q ->
   Calls Tryz.prog 46 #[v.val] w fun e w'=>e= .returned (.int .i64 (wt q))/\Ex [] w w':=by
  intro n
  induction n with
  |zero=>intro q hq;omega
  |succ n ih=>
   intro q hq v w hp hw
   obtain⟨hrow,hkd⟩:=hp.row
   have hok:∀x,x∈jW q ->WOK x:=by
    cases q with
    |single c=>simp[jW]
    |seq l=>exact jc hw.1
    |alt l=>exact jc hw.1
    |wrap q k=>intro x hx;simp[jW]at hx;subst hx;exact hw.1
    |count q a b c=>intro x hx;simp[jW]at hx;subst hx;exact hw.1
   have ih':∀x,x∈jW q ->∀u w,PR w B x u ->Calls Tryz.prog 46 #[u.val] w fun e w'=>e= .returned (.int .i64 (wt x))/\Ex [] w w':=
    fun x hx u w hu=>ih x (by have:=tO q x hx;omega) u w hu (hok x hx)
   cases q with
   |single c=>
    have h:v=_:=hp
    subst h
    refine (fd _ [] B w hrow (.inl rfl) (by simp) (by simp[wtL]) (by simp) (by simp) (by simp) ih').mono ?_
    rintro e w' ⟨rfl,hx⟩
    exact⟨by simp[fg,wtL,wt],hx⟩
   |seq l=>
    obtain⟨p,n,c,rfl,hn,hr⟩:=hp
    refine (fd _ l B w hrow (.inr (.inl rfl)) hw.2.2 hw.2.1 (by simp) (by simp) (by simp) ih').mono ?_
    rintro e w' ⟨rfl,hx⟩
    exact⟨by simp[fg,wt],hx⟩
   |alt l=>
    obtain⟨p,n,c,rfl,hn,hr⟩:=hp
    refine (fd _ l B w hrow (.inr (.inr (.inl rfl))) hw.2.2.1 hw.2.1 (by simp) (by simp) (by simp) ih').mono ?_
    rintro e w' ⟨rfl,hx⟩
    have:=hw.2.2.2
    refine⟨?_,hx⟩
    simp only[fg,wt]
    congr 2
    simp
    omega
   |wrap q k=>
    obtain⟨g,rfl,hr⟩:=hp
    refine (fd _ [q] B w hrow (.inr (.inr (.inr (.inl rfl)))) (by simp) (by simp only[wtL];exact hw.2.1) (by simp) (by simp) (by simp) ih').mono ?_
    rintro e w' ⟨rfl,hx⟩
    exact⟨by simp[fg,wtL,wt],hx⟩
   |count q le mo la=>
    obtain⟨g,rfl,hr⟩:=hp
    obtain⟨h1,h2,h3,h4,h5,h6⟩:=hw
    have hc:ec (le:Int) mo=((if mo= -1 then le+1 else mo.toNat:Nat):Int):=by
     unfold ec
     split<;>omega
    refine (fd _ [q] B w hrow (.inr (.inr (.inr (.inr rfl)))) (by simp) (by simp only[wtL];exact h2) ⟨by simp,h3⟩ ⟨h4,h5⟩ (fun _=>by
     dsimp only
     rw[hc]
     simp only[wtL,Nat.add_zero]
     have h7:=Int.ofNat_lt.2 h6
     rw[Int.natCast_mul]at h7
     exact h7) ih').mono ?_
    rintro e w' ⟨rfl,hx⟩
    refine⟨?_,hx⟩
    simp only[fg,wt,wtL,hc]
    congr 2
    try simp
 exact fun q v w=>key (SizeOf.sizeOf q+1) q (by omega) v w
end Go.Proofs.YtfnanjbleifjkaaGreatDoor.G
namespace Go.Proofs.YtfnanjbleifjkaaGreatDoor.Rx
variable {a w w':World} {B b base k n r size:Nat} {t:ByteArray} {mv v:Value} {l:List Nat} {p:Addr} {e:TypeId} {xs:List Value} {o:Obj}
open Go.RowKit
def RD (w:World) (r:Nat) (t:ByteArray) (k:Nat) (mv:Value):Prop:=
 w.heap[r]? =some (.cells #[.string t,.int .i64 k,.int .i64 0,.bool false,.int .i64 0,mv] 105 (0,0))
theorem RD.c0 (h:RD w r t k mv):w.cell? ⟨r,0,none⟩=some (.string t):=by
 rw[cell_of_row w r 0 _ 105 (0,0) h];rfl
theorem RD.c1 (h:RD w r t k mv):w.cell? ⟨r,1,none⟩=some (.int .i64 k):=by
 rw[cell_of_row w r 1 _ 105 (0,0) h];rfl
theorem RD.c3 (h:RD w r t k mv):w.cell? ⟨r,3,none⟩=some (.bool false):=by
 rw[cell_of_row w r 3 _ 105 (0,0) h];rfl
theorem RD.drew (h:RD w r t k mv) (n:Nat):RD (w.drewN n) r t k mv:=h
theorem RD.lt (h:RD w r t k mv):r<w.heap.size:=(Array.getElem?_eq_some_iff.1 h).1
structure Ex (own:List Nat) (w w':World):Prop where
 os:w'.os=w.os
 tape:w'.tape=w.tape
 output:w'.output=w.output
 size:w.heap.size<=w'.heap.size
 block:∀k,k<w.heap.size ->k∉own ->w'.heap[k]? =w.heap[k]?
theorem Ex.refl (l:List Nat) (w:World):Ex l w w:=⟨rfl,rfl,rfl,Nat.le_refl _,fun _ _ _=>rfl⟩
theorem Ex.drewN (h:Ex l a w) (n:Nat):Ex l a (w.drewN n):=⟨h.os,h.tape,h.output,h.size,h.block⟩
theorem Ex.drew (h:Ex l a w):Ex l a w.drew:=⟨h.os,h.tape,h.output,h.size,h.block⟩
theorem Ex.trans {b c:World} (h:Ex l a b) (k:Ex l b c):Ex l a c:=
 ⟨k.os.trans h.os,k.tape.trans h.tape,k.output.trans h.output,Nat.le_trans h.size k.size,fun i hi hn=>(k.block i (Nat.lt_of_lt_of_le hi h.size) hn).trans (h.block i hi hn)⟩
theorem Ex.drop {l':List Nat} {b:World} (h:Ex l a b) (hl:∀x,x∈l ->x<a.heap.size ->x∈l'):Ex l' a b:=
 ⟨h.os,h.tape,h.output,h.size,fun i hi hn=>h.block i hi (fun hm=>hn (hl i hm hi))⟩
theorem Ex.alloc (h:Ex l a w) (o:Obj):Ex l a (w.alloc o):=
 h.trans ⟨rfl,rfl,rfl,by simp,fun k hk _=>Below.heap_alloc _ _ _ hk⟩
theorem Ex.setCell (h:Ex l a w) (hp:p.block∈l\/a.heap.size<=p.block) (u:Value):Ex l a (w.setCell p u):=
 ⟨h.os,h.tape,h.output,by simpa[World.setCell]using h.size,fun k hk hn=>by
  rw[Below.heap_setCell _ _ _ _ (by rintro rfl;rcases hp with hp|hp;(·exact hn hp);·omega)];exact h.block k hk hn⟩
theorem Ex.below (h:Below a.heap.size a w):Ex [] a w:=⟨h.os,h.tape,h.output,h.size,fun k hk _=>h.block k hk⟩
theorem Ex.toBelow (h:Ex [] a w):Below a.heap.size a w:=⟨h.os,h.tape,h.output,h.size,fun k hk=>h.block k hk (by simp)⟩
theorem Ex.cell {W w1:World} (h:Ex l W w1):(∀b o,b<W.heap.size ->b∉l ->w1.cell? ⟨b,o,none⟩=W.cell? ⟨b,o,none⟩)/\(∀b o,b<W.heap.size ->b∉l ->w1.frozen? ⟨b,o,none⟩=W.frozen? ⟨b,o,none⟩):=
 ⟨fun b _ hb hn=>World.cell?_of_block (h.block b hb hn),fun b _ hb hn=>World.frozen?_of_block (h.block b hb hn)⟩
theorem Ex.cell0 {W w1:World} (h:Ex [] W w1):(∀b o,b<W.heap.size ->w1.cell? ⟨b,o,none⟩=W.cell? ⟨b,o,none⟩)/\(∀b o,b<W.heap.size ->w1.frozen? ⟨b,o,none⟩=W.frozen? ⟨b,o,none⟩):=
 ⟨fun b o hb=>h.cell.1 b o hb (by simp),fun b o hb=>h.cell.2 b o hb (by simp)⟩
theorem RD.ex (h:RD w r t k mv) (hx:Ex l w w') (hn:r∉l):RD w' r t k mv:=by
 unfold RD;rw[hx.block r h.lt hn];exact h
theorem RD.step (h:RD w r t k mv):RD (w.setCell ⟨r,1,none⟩ (.int .i64 ((k+1:Nat):Int))) r t (k+1) mv:=by
 unfold RD at h ⊢
 simp[World.setCell,Array.getElem?_modify,h]
theorem RD.f1 (h:RD w r t k mv):w.frozen? ⟨r,1,none⟩=false:=by
 unfold RD at h;simp[World.frozen?,h]
theorem Ex.grown {row:Option Nat} (h:Ex l a w) (hg:w.grownBy w' row) (hr:∀k,row=some k ->k∈l\/a.heap.size<=k):Ex l a w':=
 ⟨hg.os.trans h.os,hg.tape.trans h.tape,hg.output.trans h.output,Nat.le_trans h.size hg.size,fun k hk hn=>
  (hg.block k (Nat.lt_of_lt_of_le hk h.size) (fun e=>by rcases hr k e.symm with h|h;(·exact hn h);·omega)).trans (h.block k hk hn)⟩
theorem aU (h:w.ownsRow base e size v n xs) (hx:Ex l w w') (hl:∀x,x∈l ->x<base):w'.ownsRow base e size v n xs:=by
 refine⟨h.1,?_⟩
 rcases h.2 with hn|⟨g,cap,cur,rfl,hb,hgg,rest⟩
 ·exact .inl hn
 ·refine .inr ⟨g,cap,cur,rfl,hb,?_,rest⟩
  rw[hx.block g (Array.getElem?_eq_some_iff.1 hgg).1 (fun hm=>by have:=hl g hm;omega)]
  exact hgg
theorem aA (h:w.ownsRow base e size v n xs):∃p c,v= .slice p n c:=by
 rcases h.2 with⟨rfl,rfl⟩|⟨g,cap,cur,rfl,_⟩
 ·exact⟨_,_,rfl⟩
 ·exact⟨_,_,rfl⟩
theorem aG (h:w.ownsRow base e size v n xs):∀k,v.ownBlock=some k ->base<=k:=fun k hk=>(h.lt k hk).1
theorem du (h:w.ownsRow base e size v n xs) {a:Addr} (ha:a.block<base) (u:Value):(w.setCell a u).ownsRow base e size v n xs:=ownsRow_setCell_below h ha u
def BK (w:World) (b:Nat) (o:Obj):Prop:=w.heap[b]? =some o
theorem BK.lt (h:BK w b o):b<w.heap.size:=(Array.getElem?_eq_some_iff.1 h).1
theorem BK.new (w:World) (o:Obj):BK (w.alloc o) w.heap.size o:=heap_alloc_new w o
theorem BK.ex (h:BK w b o) (hx:Ex l w w') (hn:b∉l):BK w' b o:=by
 unfold BK;rw[hx.block b h.lt hn];exact h
theorem BK.alloc (h:BK w b o) (o':Obj):BK (w.alloc o') b o:=h.ex ((Ex.refl [] _).alloc o') (by simp)
theorem BK.set (h:BK w b o) (hp:b≠p.block) (u:Value):BK (w.setCell p u) b o:=by
 unfold BK;rw[Below.heap_setCell _ _ _ _ hp];exact h
theorem BK.drewN (h:BK w b o) (n:Nat):BK (w.drewN n) b o:=h
theorem BK.drew (h:BK w b o):BK w.drew b o:=h
theorem BK.grown {row:Option Nat} (h:BK w b o) (hg:w.grownBy w' row) (hn:row≠some b):BK w' b o:=by
 unfold BK;rw[hg.block b h.lt (fun e=>hn e.symm)];exact h
theorem BK.all {cs:Array Value} (h:BK w b (.cells cs e (0,0))):(∀o,w.cell? ⟨b,o,none⟩=cs[o]?)/\(∀o,w.frozen? ⟨b,o,none⟩=false):=
 ⟨fun o=>cell_of_row w b o cs e (0,0) h,fun o=>by unfold BK at h;simp[World.frozen?,h]⟩
theorem aa {p:Prop} (h:p):Hid p:=h
theorem BK.self {cs:Array Value} (h:BK w b (.cells cs e (0,0))) (i:Nat) (u:Value):BK (w.setCell ⟨b,i,none⟩ u) b (.cells (cs.setIfInBounds i u) e (0,0)):=by
 unfold BK at h ⊢
 simp[World.setCell,Array.getElem?_modify,h]
structure EB (B:Nat) (own:List Nat) (w w':World):Prop where
 os:w'.os=w.os
 tape:w'.tape=w.tape
 output:w'.output=w.output
 size:w.heap.size<=w'.heap.size
 block:∀k,k<B ->k∉own ->w'.heap[k]? =w.heap[k]?
theorem EB.refl (B:Nat) (l:List Nat) (w:World):EB B l w w:=⟨rfl,rfl,rfl,Nat.le_refl _,fun _ _ _=>rfl⟩
theorem EB.drewN (h:EB B l a w) (n:Nat):EB B l a (w.drewN n):=⟨h.os,h.tape,h.output,h.size,h.block⟩
theorem EB.drew (h:EB B l a w):EB B l a w.drew:=⟨h.os,h.tape,h.output,h.size,h.block⟩
theorem EB.trans {b c:World} (h:EB B l a b) (k:EB B l b c):EB B l a c:=
 ⟨k.os.trans h.os,k.tape.trans h.tape,k.output.trans h.output,Nat.le_trans h.size k.size,fun i hi hn=>(k.block i hi hn).trans (h.block i hi hn)⟩
theorem EB.mono {B':Nat} {l':List Nat} {b:World} (h:EB B l a b) (hB:B'<=B) (hl:∀x,x∈l ->x<B' ->x∈l'):EB B' l' a b:=
 ⟨h.os,h.tape,h.output,h.size,fun i hi hn=>h.block i (by omega) (fun hm=>hn (hl i hm hi))⟩
theorem EB.alloc (h:EB B l a w) (hB:B<=w.heap.size) (o:Obj):EB B l a (w.alloc o):=
 h.trans ⟨rfl,rfl,rfl,by simp,fun k hk _=>Below.heap_alloc _ _ _ (by omega)⟩
theorem EB.setCell (h:EB B l a w) (hp:p.block∈l\/B<=p.block) (u:Value):EB B l a (w.setCell p u):=
 ⟨h.os,h.tape,h.output,by simpa[World.setCell]using h.size,fun k hk hn=>by
  rw[Below.heap_setCell _ _ _ _ (by rintro rfl;rcases hp with hp|hp;(·exact hn hp);·omega)];exact h.block k hk hn⟩
theorem EB.grown {row:Option Nat} (h:EB B l a w) (hg:w.grownBy w' row) (hB:B<=w.heap.size) (hr:∀k,row=some k ->k∈l\/B<=k):EB B l a w':=
 ⟨hg.os.trans h.os,hg.tape.trans h.tape,hg.output.trans h.output,Nat.le_trans h.size hg.size,fun k hk hn=>
  (hg.block k (by omega) (fun e=>by rcases hr k e.symm with h|h;(·exact hn h);·omega)).trans (h.block k hk hn)⟩
theorem EB.ofEx (h:Ex l a w) (hB:B<=a.heap.size):EB B l a w:=⟨h.os,h.tape,h.output,h.size,fun k hk hn=>h.block k (by omega) hn⟩
theorem EB.toEx (h:EB a.heap.size l a w):Ex l a w:=⟨h.os,h.tape,h.output,h.size,h.block⟩
theorem BK.eb (h:BK w b o) (hx:EB B l w w') (hb:b<B) (hn:b∉l):BK w' b o:=by
 unfold BK;rw[hx.block b hb hn];exact h
theorem info116:(Tryz.prog.info? 192).map (fun i=>(i.zero,i.size,i.bytes))=some (some (.agg #[.int .i64 0,.int .u64 0,.int .u64 0,.bool false,.int .i64 0,.int .i64 0,.int .i64 0]),7,56):=by kernel_rfl
end Go.Proofs.YtfnanjbleifjkaaGreatDoor.Rx
namespace Go.Proofs.YtfnanjbleifjkaaGreatDoor.G
variable {b base k:Nat} {w w1:World}
open Go.RowKit
structure Ins where
 op:Int
 lo:Int
 hi:Int
 hg:Bool
 t0:Int
 t1:Int
 sl:Int
def Ins.cells (i:Ins):List Value:=[.int .i64 i.op,.int .u64 i.lo,.int .u64 i.hi,.bool i.hg,.int .i64 i.t0,.int .i64 i.t1,.int .i64 i.sl]
def Ins.val (i:Ins):Value:= .agg #[.int .i64 i.op,.int .u64 i.lo,.int .u64 i.hi,.bool i.hg,.int .i64 i.t0,.int .i64 i.t1,.int .i64 i.sl]
def bY (l:List Ins):List Value:=l.flatMap Ins.cells
theorem o4 (a b:List Ins):bY (a++b)=bY a++bY b:=by simp[bY]
theorem nM (l:List Ins):(bY l).length=l.length*7:=by
 induction l with
 |nil=>rfl
 |cons i l ih=>
  have h1:bY (i::l)=i.cells++bY l:=rfl
  rw[h1,List.length_append,ih]
  simp[Ins.cells]
  omega
theorem dH (l:List Ins) (k o:Nat) (i:Ins) (hk:l[k]? =some i) (ho:o<7):(bY l)[k*7+o]? =i.cells[o]? :=by
 induction l generalizing k with
 |nil=>simp at hk
 |cons a l ih=>
  have h1:bY (a::l)=a.cells++bY l:=rfl
  have h2:a.cells.length=7:=rfl
  rw[h1]
  cases k with
  |zero=>
   simp at hk
   subst hk
   rw[List.getElem?_append_left (by omega)];simp
  |succ k=>
   rw[List.getElem?_append_right (by omega),h2,show (k+1)*7+o-7=k*7+o by omega]
   exact ih k (by simpa using hk)
def Ins.way (i:Ins) (s:Bool) (n:Nat):Ins:=if s then {i with t1:=n}else {i with t0:=n}
def fc (l:List Ins) (k:Nat) (s:Bool) (n:Nat):List Ins:=l.modify k fun i=>i.way s n
theorem eM (l:List Ins) (k:Nat) (s:Bool) (n:Nat):(fc l k s n).length=l.length:=by simp[fc]
theorem uJ (l:List Ins) (k:Nat) (s:Bool) (n:Nat) (hk:k<l.length):(bY l).set (k*7+(4+s.toNat)) (.int .i64 n)=bY (fc l k s n):=by
 induction l generalizing k with
 |nil=>simp at hk
 |cons a l ih=>
  have h1:bY (a::l)=a.cells++bY l:=rfl
  have h2:a.cells.length=7:=rfl
  have hs:s.toNat<2:=by cases s<;>decide
  rw[h1]
  cases k with
  |zero=>
   rw[List.set_append_left _ _ (by omega)]
   have h3:bY (fc (a::l) 0 s n)=(a.way s n).cells++bY l:=rfl
   rw[h3]
   congr 1
   cases s<;>rfl
  |succ k=>
   rw[List.set_append_right _ _ (by omega),h2,show (k+1)*7+(4+s.toNat)-7=k*7+(4+s.toNat) by omega,ih k (by simpa using hk)]
   rfl
def IB (w:World) (k:Nat):Prop:=∃cur fr,w.heap[k]? =some (.cells cur 192 fr)
structure BF (base b:Nat) (w w':World):Prop where
 os:w'.os=w.os
 tape:w'.tape=w.tape
 output:w'.output=w.output
 size:w.heap.size<=w'.heap.size
 block:∀k,k<w.heap.size ->k≠b ->(k<base\/¬IB w k) ->w'.heap[k]? =w.heap[k]?
theorem BF.refl (base b:Nat) (w:World):BF base b w w:=⟨rfl,rfl,rfl,Nat.le_refl _,fun _ _ _ _=>rfl⟩
theorem BF.trans {w2:World} (h:BF base b w w1) (k:BF base b w1 w2):BF base b w w2:=
 ⟨k.os.trans h.os,k.tape.trans h.tape,k.output.trans h.output,Nat.le_trans h.size k.size,fun i hi hn hc=>by
  have h1:=h.block i hi hn hc
  exact (k.block i (Nat.lt_of_lt_of_le hi h.size) hn (hc.imp id (fun hb hI=>hb (by obtain⟨c,f,he⟩:=hI;exact⟨c,f,h1▸he⟩)))).trans h1⟩
theorem BF.alloc (h:BF base b w w1) (o:Obj):BF base b w (w1.alloc o):=
 ⟨h.os,h.tape,h.output,by have:=h.size;simp;omega,fun k hk hn hc=>(((Ex.refl [] w1).alloc o).block k (Nat.lt_of_lt_of_le hk h.size) (by simp)).trans (h.block k hk hn hc)⟩
theorem BF.drew (h:BF base b w w1):BF base b w w1.drew:=⟨h.os,h.tape,h.output,h.size,h.block⟩
theorem BF.toEB (h:BF base b w w1) (hb:base<=w.heap.size):EB base [b] w w1:=⟨h.os,h.tape,h.output,h.size,fun k hk hn=>h.block k (by omega) (by simpa using hn) (.inl hk)⟩
theorem BF.setCell (h:BF base b w w1) {p:Addr} (hp:p.block=b\/w.heap.size<=p.block\/(base<=p.block/\IB w1 p.block)) (u:Value):BF base b w (w1.setCell p u):=
 ⟨h.os,h.tape,h.output,by simpa[World.setCell]using h.size,fun k hk hn hc=>by
  have h1:=h.block k hk hn hc
  rw[Below.heap_setCell _ _ _ _ (fun e=>by
   rcases hp with hp|hp|⟨hp,c,f,hI⟩
   ·omega
   ·omega
   ·rcases hc with hc|hc
    ·omega
    ·exact hc ⟨c,f,by rw[<-h1,e];exact hI⟩)]
  exact h1⟩
theorem BF.grown {w2:World} {row:Option Nat} (h:BF base b w w1) (hg:w1.grownBy w2 row) (hr:∀k,row=some k ->k=b\/w.heap.size<=k\/(base<=k/\IB w1 k)):BF base b w w2:=
 ⟨hg.os.trans h.os,hg.tape.trans h.tape,hg.output.trans h.output,Nat.le_trans h.size hg.size,fun k hk hn hc=>by
  have h1:=h.block k hk hn hc
  refine (hg.block k (Nat.lt_of_lt_of_le hk h.size) (fun e=> ?_)).trans h1
  rcases hr k e.symm with hp|hp|⟨hp,c,f,hI⟩
  ·omega
  ·omega
  ·rcases hc with hc|hc
   ·omega
   ·exact hc ⟨c,f,by rw[<-h1];exact hI⟩⟩
theorem BK.bf {w':World} {cs:Array Value} {e:TypeId} {fr:Nat×Nat} (h:BK w k (.cells cs e fr)) (hx:BF base b w w') (hn:k≠b) (he:e≠192):BK w' k (.cells cs e fr):=by
 unfold BK at h ⊢
 rw[hx.block k (BK.lt h) hn (.inr (fun⟨c,f,hI⟩=>he (by rw[h]at hI;cases hI;rfl)))]
 exact h
structure BG (w:World) (b base:Nat) (l:List Ins):Prop where
 lt:b<base
 le:base<=w.heap.size
 ex:∃v,BK w b (.cells #[v] 187 (0,0))/\w.ownsRow base 192 7 v l.length (bY l)
theorem BG.alloc {l:List Ins} (h:BG w b base l) (o:Obj):BG (w.alloc o) b base l:=by
 obtain⟨v,hb,ho⟩:=h.ex
 exact⟨h.lt,by have:=h.le;simp;omega,v,hb.alloc o,ho.alloc o⟩
theorem iX {n:Nat} {v:Value} {xs:List Value} (h:w.ownsRow base 192 7 v n xs):∀k,v.ownBlock=some k ->base<=k/\IB w k:=by
 intro k hk
 rcases h.2 with⟨rfl,_⟩|⟨g,cap,cur,rfl,hb,hgg,_⟩
 ·simp[Value.ownBlock]at hk
 ·simp[Value.ownBlock]at hk
  subst hk
  exact⟨hb,cur,_,hgg⟩
theorem jz (i:Ins) {l:List Ins} (hd:BG w b base l) (hn:l.length<=100000):
  Calls Tryz.prog 89 #[.pointer (some ⟨b,0,none⟩),i.val] w fun e w'=>e= .returned (.int .i64 l.length)/\BG w' b base (l++[i])/\BF base b w w':=by
 obtain⟨t0,hi,hz0,hz1,hz2⟩:=info_parts Rx.info116
 obtain⟨v,hb,hown⟩:=hd.ex
 have hbb:=hd.lt
 have hbw:=hd.le
 obtain⟨p,cp,rfl⟩:=aA hown
 obtain⟨op,a,c,h,u0,u1,us⟩:=i
 obtain⟨n,hnl⟩:=exq (l.length)
 rw[<-hnl]at hown hb hn ⊢
 have HNL:=aa hnl
 obtain⟨hcb,hfb⟩:=hb.all
 have hbl:=hb.lt
 have HO:=aa hown
 have HB:=aa hb
 clear hown hb hd hnl
 unfold Ins.val
 dsimp only
 go_enter Tryz.func89,Tryz.ntmps89
 go_wp2_with fail
 have HN:∀j u,(Ins.cells ⟨op,a,c,h,u0,u1,us⟩)[j]? =some u ->((w.alloc (Obj.cells #[.int .i64 op,.int .u64 a,.int .u64 c,.bool h,.int .i64 u0,.int .i64 u1,.int .i64 us] 192)).alloc (Obj.cells #[.int .i64 op,.int .u64 a,.int .u64 c,.bool h,.int .i64 u0,.int .i64 u1,.int .i64 us] 192)).drew.cell? ((⟨w.heap.size+1,0,none⟩:Addr).add j)=some u:=by
  have h:=BK.new (w.alloc (Obj.cells #[.int .i64 op,.int .u64 a,.int .u64 c,.bool h,.int .i64 u0,.int .i64 u1,.int .i64 us] 192)) (Obj.cells #[.int .i64 op,.int .u64 a,.int .u64 c,.bool h,.int .i64 u0,.int .i64 u1,.int .i64 us] 192)
  simp only[World.size_alloc]at h
  exact World.news_of_block (BK.drew h)
 have HNN:=aa HN
 clear HN
 go_region_law (refine step_append_lies _ rfl (.tmp 9) (.tmp 11) 107 rfl base 192 t0 _ 7 56 Tryz.underlying107 hi hz0 hz1 hz2 rfl (by decide) (.slice p n cp) n (bY l) (by simp[Act.eval,Act.put]) (World.ownsRow.drew ((HO.O.alloc _).alloc _)) ⟨w.heap.size+1,0,none⟩ 1 1 (Ins.cells ⟨op,a,c,h,u0,u1,us⟩) (by simp[Act.eval,Act.put]) rfl HNN.O (by simp[Ins.cells,Value.oneCell']) (by decide) (by unfold maxLen;omega) (by omega) (by simp;omega) _ rfl ?_;intro g cap w1 hown1 hgrow hat hlt;have hb1:=BK.grown ((HB.O.alloc _).alloc _).drew hgrow (fun e=>by have:=aG HO.O _ e;omega);obtain⟨hcb1,hfb1⟩:=hb1.all)
 all_goals
  have HB1:=aa hb1
  have HO1:=aa hown1
  have HG1:=aa hgrow
  have hlt1:=hgrow.size
  clear hb1 hown1 hgrow hat
  go_wp2
  go_ret
  refine⟨by simp,⟨hbb,by simp[World.setCell]at hlt1 ⊢;omega,_,BK.self HB1.O 0 _,?_⟩,?_⟩
  ·have h1:=du HO1.O (a:=⟨b,0,none⟩) hbb (.slice (some ⟨g,0,none⟩) (n+1) cap)
   rw[o4]
   rw[show (l++[(⟨op,a,c,h,u0,u1,us⟩:Ins)]).length=n+1 by simp[HNL.O]]
   exact h1
  ·refine BF.setCell (p:=⟨b,0,none⟩) ?_ (Or.inl rfl) _
   exact BF.grown (((((BF.refl _ _ _).alloc _).alloc _).drew)) HG1.O (fun k hk=>Or.inr (Or.inr (iX (World.ownsRow.drew ((HO.O.alloc _).alloc _)) k hk)))
theorem fZ (z:Bool) (w:World):Calls Tryz.prog 217 #[.bool z] w fun e w'=>e= .returned (.int .i64 (z.toNat:Int))/\w'=w:=by
 cases z
 ·go_enter Tryz.func217,Tryz.ntmps217
  go_wp2_with fail
  go_ret
  exact⟨rfl,rfl⟩
 ·go_enter Tryz.func217,Tryz.ntmps217
  go_wp2_with fail
  go_ret
  exact⟨rfl,rfl⟩
theorem yH {g c:Nat} {l:List Ins} (h:w.ownsRow base 192 7 (.slice (some ⟨g,0,none⟩) l.length c) l.length (bY l)) (s:Bool) (n:Nat) (hk:k<l.length):
  (w.setCell ⟨g,k*7+(4+s.toNat),none⟩ (.int .i64 n)).ownsRow base 192 7 (.slice (some ⟨g,0,none⟩) l.length c) l.length (bY (fc l k s n)):=by
 refine⟨by rw[nM,eM],?_⟩
 rcases h.2 with⟨hn,_⟩|⟨g',cap,cur,hv,hb,hgg,hnc,hcm,hcs,htake⟩
 ·cases hn
 ·cases hv
  refine .inr ⟨g,c,cur.setIfInBounds (k*7+(4+s.toNat)) (.int .i64 n),rfl,hb,BK.self hgg _ _,hnc,hcm,by simpa using hcs,?_⟩
  rw[Array.toList_setIfInBounds,List.take_set,htake,uJ l k s n hk]
theorem BG.parts {l:List Ins} (h:BG w b base l) (hl:0<l.length):∃g c,BK w b (.cells #[.slice (some ⟨g,0,none⟩) l.length c] 187 (0,0))/\w.ownsRow base 192 7 (.slice (some ⟨g,0,none⟩) l.length c) l.length (bY l)/\l.length<=c/\base<=g/\g<w.heap.size/\(∀o,w.frozen? ⟨g,o,none⟩=false)/\∀o v,(bY l)[o]? =some v ->w.cell? ⟨g,o,none⟩=some v:=by
 obtain⟨v,hb,ho⟩:=h.ex
 rcases ho.2 with⟨_,hn⟩|⟨g,cap,cur,rfl,hg,hgg,hnc,hcm,hcs,htake⟩
 ·omega
 ·refine⟨g,cap,hb,ho,hnc,hg,BK.lt hgg,(BK.all hgg).2,fun o v hv=> ?_⟩
  rw[(BK.all hgg).1,<-Array.getElem?_toList]
  rw[<-htake,List.getElem?_take]at hv
  split at hv
  ·exact hv
  ·cases hv
theorem BG.way {g c:Nat} {l:List Ins} (hb:BK w b (.cells #[.slice (some ⟨g,0,none⟩) l.length c] 187 (0,0))) (ho:w.ownsRow base 192 7 (.slice (some ⟨g,0,none⟩) l.length c) l.length (bY l)) (h1:b<base) (h2:base<=w.heap.size) (hg:base<=g) (s:Bool) (n:Nat) (hk:k<l.length):
  BG (w.setCell ⟨g,k*7+(4+s.toNat),none⟩ (.int .i64 n)) b base (fc l k s n):=by
 refine⟨h1,by simpa[World.setCell]using h2,_,BK.set hb (show b≠g by omega) _,?_⟩
 have:=yH ho s n hk
 rw[eM]
 exact this
theorem jY (z:Bool) {l:List Ins} (hd:BG w b base l) (hk:k<l.length) (hn:l.length<=100000):
  Calls Tryz.prog 180 #[.pointer (some ⟨b,0,none⟩),.int .i64 k,.bool z] w fun e w'=>e= .returned (.tuple #[])/\BG w' b base (fc l k (!z) l.length)/\BF base b w w':=by
 obtain⟨g,c,hb,ho,hnc,hg,hgl,hfz,hcell⟩:=hd.parts (by omega)
 have hbb:=hd.lt
 have hbw:=hd.le
 obtain⟨i,hi⟩:∃i,l[k]? =some i:=⟨l[k],by simp[hk]⟩
 have hc4:=hcell (k*7+4) _ (by rw[dH l k 4 i hi (by omega)];rfl)
 have hc5:=hcell (k*7+5) _ (by rw[dH l k 5 i hi (by omega)];rfl)
 have hf4:=hfz (k*7+4)
 have hf5:=hfz (k*7+5)
 have hbl:=hb.lt
 have hb0:w.cell? ⟨b,0,none⟩=some (.slice (some ⟨g,0,none⟩) l.length c):=hb.all.1 0
 have HB:=aa hb
 have HO:=aa ho
 have hk':(k:Int)<(l.length:Int):=by omega
 obtain⟨n,hnl⟩:=exq (l.length)
 have HNL:=aa hnl
 have HI:=aa hi
 rw[<-hnl]at hk hk' hb0 hnc hn ⊢
 clear hb ho hd hcell hfz hnl hi
 cases z
 ·go_enter Tryz.func180,Tryz.ntmps180
  go_region_with (first
   |(go_at_call 217;refine (fZ false _).mono ?_;rintro e w4 ⟨rfl,rfl⟩))
  all_goals
   go_end0
   refine⟨rfl,?_,?_⟩
   ·have h:=BG.way (w:=w.drew) HB.O.drew HO.O.drew hbb hbw hg true n (k:=k) (by rw[<-HNL.O];exact hk)
    exact h
   ·refine BF.setCell (p:=⟨g,k*7+5,none⟩) ((BF.refl _ _ _).drew) (.inr (.inr ⟨hg,(iX (World.ownsRow.drew HO.O) g rfl).2⟩)) _
 ·go_enter Tryz.func180,Tryz.ntmps180
  go_region_with (first
   |(go_at_call 217;refine (fZ true _).mono ?_;rintro e w4 ⟨rfl,rfl⟩))
  all_goals
   go_end0
   refine⟨rfl,?_,?_⟩
   ·have h:=BG.way (w:=w.drew) HB.O.drew HO.O.drew hbb hbw hg false n (k:=k) (by rw[<-HNL.O];exact hk)
    exact h
   ·refine BF.setCell (p:=⟨g,k*7+4,none⟩) ((BF.refl _ _ _).drew) (.inr (.inr ⟨hg,(iX (World.ownsRow.drew HO.O) g rfl).2⟩)) _
def bare (op:Int):Ins:=⟨op,0,0,false,0,0,0⟩
theorem gP (op:Int) {l:List Ins} (hd:BG w b base l) (hn:l.length<=100000):
  Calls Tryz.prog 89 #[.pointer (some ⟨b,0,none⟩),.agg #[.int .i64 op,.int .u64 0,.int .u64 0,.bool false,.int .i64 0,.int .i64 0,.int .i64 0]] w fun e w'=>e= .returned (.int .i64 l.length)/\BG w' b base (l++[bare op])/\BF base b w w':=jz (bare op) hd hn
def dr (z:Bool) (l:List Ins):List Ins:=fc (l++[bare 1]) l.length z (l.length+1)
theorem bo (z:Bool) (l:List Ins):(dr z l).length=l.length+1:=by simp[dr,eM]
theorem lL (z:Bool) {l:List Ins} (hd:BG w b base l) (hn:l.length<=99999):
  Calls Tryz.prog 179 #[.pointer (some ⟨b,0,none⟩),.bool z] w fun e w'=>e= .returned (.int .i64 l.length)/\BG w' b base (dr z l)/\BF base b w w':=by
 have HD:=aa hd
 have HP:=aa (fun w (hd:BG w b base l)=>gP 1 hd (by omega))
 have hbb:=hd.lt
 clear hd
 cases z
 ·go_enter Tryz.func179,Tryz.ntmps179
  go_wp2_with fail
  refine (HP.O _ HD.O).mono ?_
  rintro e w1 ⟨rfl,hd1,hx1⟩
  have HX1:=aa hx1
  obtain⟨g,c,hb,ho,hnc,hg,hgl,hfz,hcell⟩:=hd1.parts (by simp)
  have hbw:=hd1.le
  have hi:(l++[bare 1])[l.length]? =some (bare 1):=by simp
  have hc4:=hcell (l.length*7+4) _ (by rw[dH (l++[bare 1]) l.length 4 (bare 1) hi (by omega)];rfl)
  have hf4:=hfz (l.length*7+4)
  have hbl:=hb.lt
  have hb0:w1.cell? ⟨b,0,none⟩=some (.slice (some ⟨g,0,none⟩) (l.length+1) c):=by have:=hb.all.1 0;simpa using this
  have HB:=aa hb
  have HO:=aa ho
  have hnc':l.length+1<=c:=by simpa using hnc
  obtain⟨n,hnl⟩:=exq (l.length)
  have HNL:=aa hnl
  rw[<-hnl]at hb0 hnc' hc4 hf4 hn ⊢
  clear hb ho hd1 hcell hfz hnl hi hx1 hnc
  go_wp2_with fail
  go_region_with (first
   |(go_at_call 217;refine (fZ false _).mono ?_;rintro e w4 ⟨rfl,rfl⟩))
  all_goals
   go_wp2_with fail
   go_ret
   refine⟨by rw[<-HNL.O];rfl,?_,?_⟩
   ·have h:=BG.way (w:=w1.drew) HB.O.drew HO.O.drew hbb hbw hg false (n+1) (k:=n) (by simp[HNL.O])
    unfold dr
    rw[<-HNL.O]
    exact h
   ·exact HX1.O.trans (BF.setCell (p:=⟨g,n*7+4,none⟩) ((BF.refl _ _ _).drew) (.inr (.inr ⟨hg,(iX (World.ownsRow.drew HO.O) g rfl).2⟩)) _)
 ·go_enter Tryz.func179,Tryz.ntmps179
  go_wp2_with fail
  refine (HP.O _ HD.O).mono ?_
  rintro e w1 ⟨rfl,hd1,hx1⟩
  have HX1:=aa hx1
  obtain⟨g,c,hb,ho,hnc,hg,hgl,hfz,hcell⟩:=hd1.parts (by simp)
  have hbw:=hd1.le
  have hi:(l++[bare 1])[l.length]? =some (bare 1):=by simp
  have hc4:=hcell (l.length*7+5) _ (by rw[dH (l++[bare 1]) l.length 5 (bare 1) hi (by omega)];rfl)
  have hf4:=hfz (l.length*7+5)
  have hbl:=hb.lt
  have hb0:w1.cell? ⟨b,0,none⟩=some (.slice (some ⟨g,0,none⟩) (l.length+1) c):=by have:=hb.all.1 0;simpa using this
  have HB:=aa hb
  have HO:=aa ho
  have hnc':l.length+1<=c:=by simpa using hnc
  obtain⟨n,hnl⟩:=exq (l.length)
  have HNL:=aa hnl
  rw[<-hnl]at hb0 hnc' hc4 hf4 hn ⊢
  clear hb ho hd1 hcell hfz hnl hi hx1 hnc
  go_wp2_with fail
  go_region_with (first
   |(go_at_call 217;refine (fZ true _).mono ?_;rintro e w4 ⟨rfl,rfl⟩))
  all_goals
   go_wp2_with fail
   go_ret
   refine⟨by rw[<-HNL.O];rfl,?_,?_⟩
   ·have h:=BG.way (w:=w1.drew) HB.O.drew HO.O.drew hbb hbw hg true (n+1) (k:=n) (by simp[HNL.O])
    unfold dr
    rw[<-HNL.O]
    exact h
   ·exact HX1.O.trans (BF.setCell (p:=⟨g,n*7+5,none⟩) ((BF.refl _ _ _).drew) (.inr (.inr ⟨hg,(iX (World.ownsRow.drew HO.O) g rfl).2⟩)) _)
def df (z:Bool) (k:Nat) (l:List Ins):List Ins:=fc l k (!z) l.length
theorem gu (z:Bool) (k:Nat) (l:List Ins):(df z k l).length=l.length:=eM _ _ _ _
def iC (k:Nat) (l:List Ins):List Ins:=fc l k false l.length
def gp {α:Type} (f:α ->α):Nat ->α ->α
 |0,x=>x
 |n+1,x=>gp f n (f x)
def dp (f:List Ins ->List Ins) (z:Bool):Nat ->List Nat ->List Ins ->List Nat×List Ins
 |0,ks,l=>(ks,l)
 |n+1,ks,l=>dp f z n (ks++[l.length]) (f (dr z l))
def eT (k:Nat):Ins:=⟨2,0,0,false,(k:Int),0,0⟩
def ri (f:List Ins ->List Ins) (z:Bool) (l:List Ins):List Ins:=
 df z l.length (f (dr z l++[bare 4])++[bare 5]++[eT l.length])
def iE (k:Nat):Ins:=⟨3,0,0,false,0,0,(k:Int)⟩
def more (le:Nat) (mo:Int):Nat:=(mo-le).toNat
mutual
def bl:Pt ->List Ins ->List Ins
 |.single c,l=>l++[⟨0,c.lo,c.hi,c.hg,0,0,0⟩]
 |.seq ps,l=>ee ps l
 |.alt ps,l=>let r:=dG ps [] l;r.1.foldl (fun l k=>iC k l) r.2
 |.wrap p g,l=>if g=0 then bl p l else bl p (l++[iE (2*(g-1))])++[iE (2*(g-1)+1)]
 |.count p le mo z,l=>
  if mo= -1 then ri (bl p) z (gp (bl p) le l)
  else let r:=dp (bl p) z (more le mo) [] (gp (bl p) le l);r.1.foldl (fun l k=>df z k l) r.2
def ee:List Pt ->List Ins ->List Ins
 |[],l=>l
 |p::ps,l=>ee ps (bl p l)
def dG:List Pt ->List Nat ->List Ins ->List Nat×List Ins
 |[],js,l=>(js,l)
 |[p],js,l=>(js,bl p l)
 |p::q::ps,js,l=>let l1:=bl p (dr false l);dG (q::ps) (js++[l1.length]) (df false l.length (l1++[bare 2]))
end
mutual
def isz:Pt ->Nat
 |.single _=>1
 |.seq ps=>cx ps
 |.alt ps=>cx ps+2*(ps.length-1)
 |.wrap p g=>if g=0 then isz p else isz p+2
 |.count p le mo _=>if mo= -1 then isz p*le+(isz p+4)else isz p*le+(isz p+1)*more le mo
def cx:List Pt ->Nat
 |[]=>0
 |p::ps=>isz p+cx ps
end
theorem gN (f:List Ins ->List Ins) (s:Nat) (hf:∀l,(f l).length=l.length+s):∀n l,(gp f n l).length=l.length+s*n
 |0,l=>by simp[gp]
 |n+1,l=>by rw[gp,gN f s hf n,hf,Nat.mul_succ];omega
theorem jU (f:List Ins ->List Ins) (z:Bool) (s:Nat) (hf:∀l,(f l).length=l.length+s):∀n ks l,(dp f z n ks l).2.length=l.length+(s+1)*n/\(dp f z n ks l).1.length=ks.length+n
 |0,ks,l=>by simp[dp]
 |n+1,ks,l=>by
  have h:=jU f z s hf n (ks++[l.length]) (f (dr z l))
  rw[dp,h.1,h.2,hf,bo,Nat.mul_succ]
  simp
  omega
theorem dK (z:Bool):∀(ks:List Nat) (l:List Ins),(ks.foldl (fun l k=>df z k l) l).length=l.length
 |[],l=>rfl
 |k::ks,l=>by rw[List.foldl_cons,dK z ks,gu]
theorem fD:∀(ks:List Nat) (l:List Ins),(ks.foldl (fun l k=>iC k l) l).length=l.length
 |[],l=>rfl
 |k::ks,l=>by rw[List.foldl_cons,fD ks];exact eM _ _ _ _
mutual
theorem aN:∀(p:Pt) (l:List Ins),(bl p l).length=l.length+isz p
 |.single c,l=>by simp[bl,isz]
 |.seq ps,l=>by rw[bl,isz];exact jK ps l
 |.alt ps,l=>by
  rw[bl,isz]
  simp only[fD]
  exact nG ps [] l
 |.wrap p g,l=>by
  rw[bl,isz]
  split
  ·exact aN p l
  ·rw[List.length_append,aN p]
   simp
   omega
 |.count p le mo z,l=>by
  rw[bl,isz]
  split
  ·rw[ri,gu]
   simp only[List.length_append,aN p,bo,gN _ _ (aN p)]
   simp
   omega
  ·simp only[dK]
   rw[(jU _ z _ (aN p) _ _ _).1,gN _ _ (aN p)]
   omega
theorem jK:∀(ps:List Pt) (l:List Ins),(ee ps l).length=l.length+cx ps
 |[],l=>by simp[ee,cx]
 |p::ps,l=>by rw[ee,jK ps,aN p,cx];omega
theorem nG:∀(ps:List Pt) (js:List Nat) (l:List Ins),(dG ps js l).2.length=l.length+(cx ps+2*(ps.length-1))
 |[],js,l=>by simp[dG,cx]
 |[p],js,l=>by simp[dG,cx,aN p]
 |p::q::ps,js,l=>by
  rw[dG]
  simp only[nG (q::ps),gu,List.length_append,aN p,bo,cx]
  simp
  omega
end
end Go.Proofs.YtfnanjbleifjkaaGreatDoor.G
