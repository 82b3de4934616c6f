import Derived.Test.YtfnanjbleifjkaaGreatDoorM25
set_option linter.unusedVariables false
set_option linter.unusedSimpArgs false
namespace Go.Proofs.YtfnanjbleifjkaaGreatDoor.G
variable {w:World} {g r:Nat} {bs:List Bool} {x:Xp} {t:ByteArray} {s s':RS} {p:Pt}
inductive Yp where
 |emp (y:Nat)
 |set (y:Nat) (c:Cls)
 |cat (y:Nat) (a b:Yp)
 |alt (y:Nat) (a b:Yp)
 |star (y:Nat) (a:Yp) (z:Bool)
 |may (y:Nat) (a:Yp) (z:Bool)
 |grp (y:Nat) (a:Yp) (n:Nat)
def Yp.idx:Yp ->Nat
 |.emp y=>y
 |.set y _=>y
 |.cat y _ _=>y
 |.alt y _ _=>y
 |.star y _ _=>y
 |.may y _ _=>y
 |.grp y _ _=>y
def Yp.er:Yp ->Xp
 |.emp _=> .emp
 |.set _ c=> .set c
 |.cat _ a b=> .cat a.er b.er
 |.alt _ a b=> .alt a.er b.er
 |.star _ a z=> .star a.er z
 |.may _ a z=> .may a.er z
 |.grp _ a n=> .grp a.er n
def YT (w:World) (r:Nat):Yp ->Prop
 |.emp y=>aL w r y (bc 1 0 0 0 false noB)
 |.set y c=>∃bs,aL w r y (bc 2 0 0 0 false bs)/\bs.length=129/\AgC bs c
 |.cat y a b=>aL w r y (bc 3 (a.idx:Nat) (b.idx:Nat) 0 false noB)/\YT w r a/\YT w r b
 |.alt y a b=>aL w r y (bc 4 (a.idx:Nat) (b.idx:Nat) 0 false noB)/\YT w r a/\YT w r b
 |.star y a z=>aL w r y (bc 5 (a.idx:Nat) 0 0 z noB)/\YT w r a
 |.may y a z=>aL w r y (bc 6 (a.idx:Nat) 0 0 z noB)/\YT w r a
 |.grp y a n=>aL w r y (bc 7 (a.idx:Nat) 0 (n:Nat) false noB)/\YT w r a
theorem XT.toY {y:Nat} {X:Xp} (h:XT w r y X):∃Y:Yp,Y.idx=y/\Y.er=X/\YT w r Y:=by
 induction h with
 |@emp y h1=>exact⟨.emp y,rfl,rfl,h1⟩
 |@set y c bs h1 h2 h3=>exact⟨.set y c,rfl,rfl,bs,h1,h2,h3⟩
 |@cat y a b A B h1 _ _ i1 i2=>
  obtain⟨Y1,rfl,rfl,k1⟩:=i1
  obtain⟨Y2,rfl,rfl,k2⟩:=i2
  exact⟨.cat y Y1 Y2,rfl,rfl,h1,k1,k2⟩
 |@alt y a b A B h1 _ _ i1 i2=>
  obtain⟨Y1,rfl,rfl,k1⟩:=i1
  obtain⟨Y2,rfl,rfl,k2⟩:=i2
  exact⟨.alt y Y1 Y2,rfl,rfl,h1,k1,k2⟩
 |@star y a z A h1 _ i1=>
  obtain⟨Y1,rfl,rfl,k1⟩:=i1
  exact⟨.star y Y1 z,rfl,rfl,h1,k1⟩
 |@may y a z A h1 _ i1=>
  obtain⟨Y1,rfl,rfl,k1⟩:=i1
  exact⟨.may y Y1 z,rfl,rfl,h1,k1⟩
 |@grp y a n A h1 _ i1=>
  obtain⟨Y1,rfl,rfl,k1⟩:=i1
  exact⟨.grp y Y1 n,rfl,rfl,h1,k1⟩
theorem aL.det {y:Nat} {E E':List Value} (h:aL w r y E) (k:aL w r y E'):E=E':=by
 obtain⟨b,av,ro,gi,nv,n,xs,h1,h2,h3,h4⟩:=h
 obtain⟨b',av',ro',gi',nv',n',xs',k1,k2,k3,k4⟩:=k
 unfold BK at h1 k1
 rw[h1]at k1
 cases k1
 obtain⟨_,rfl⟩:=ru h2 k2
 rw[<-h4,<-k4]
theorem zR {cs:List Bool} (h:sB bs=sB cs):bs=cs:=by
 unfold sB at h
 exact List.map_inj_right (fun a b e=>by injection e)|>.1 h
theorem ak {k a b n k' a' b' n':Int} {z z':Bool} {bs':List Bool} (h:bc k a b n z bs=bc k' a' b' n' z' bs'):k=k'/\a=a'/\b=b'/\n=n'/\z=z'/\bs=bs':=by
 unfold bc at h
 simp only[List.cons_append,List.nil_append,List.cons.injEq,Value.int.injEq,true_and,Value.bool.injEq]at h
 exact⟨h.1,h.2.1,h.2.2.1,h.2.2.2.1,h.2.2.2.2.1,zR h.2.2.2.2.2⟩
theorem AgC.det {c d:Cls} (h:AgC bs c) (k:AgC bs d):c=d:=by
 obtain⟨⟨a,b,ha,hb,e1,e2⟩,h2⟩:=h
 obtain⟨⟨a',b',ha',hb',e1',e2'⟩,k2⟩:=k
 have hg:c.hg=d.hg:=by
  have h1:=h2 128 (by omega)
  have h3:=k2 128 (by omega)
  rw[dL _ _ (by omega)]at h1 h3
  exact h1.symm.trans h3
 have hbit:∀r,r<128 ->hn c r=hn d r:=fun r hr=>(h2 r (by omega)).symm.trans (k2 r (by omega))
 have hlo:a=a':=by
  apply Nat.eq_of_testBit_eq
  intro i
  by_cases hi:i<64
  ·have h1:=hbit i (by omega)
   rw[dU ha hb e1 e2 i (by omega),dU ha' hb' e1' e2' i (by omega),if_pos (by omega),if_pos (by omega),Nat.mod_eq_of_lt hi]at h1
   exact h1
  ·have hp:(18446744073709551616:Nat)<=2^i:=by
    have:(2:Nat)^64<=2^i:=Nat.pow_le_pow_right (by decide) (by omega)
    simpa using this
   rw[Nat.testBit_lt_two_pow (by omega),Nat.testBit_lt_two_pow (by omega)]
 have hhi:b=b':=by
  apply Nat.eq_of_testBit_eq
  intro i
  by_cases hi:i<64
  ·have h1:=hbit (64+i) (by omega)
   rw[dU ha hb e1 e2 (64+i) (by omega),dU ha' hb' e1' e2' (64+i) (by omega),if_neg (by omega),if_neg (by omega),show (64+i)%64=i by omega]at h1
   exact h1
  ·have hp:(18446744073709551616:Nat)<=2^i:=by
    have:(2:Nat)^64<=2^i:=Nat.pow_le_pow_right (by decide) (by omega)
    simpa using this
   rw[Nat.testBit_lt_two_pow (by omega),Nat.testBit_lt_two_pow (by omega)]
 obtain⟨c1,c2,c3⟩:=c
 obtain⟨d1,d2,d3⟩:=d
 simp only at e1 e2 e1' e2' hg
 rw[e1,e2,e1',e2',hlo,hhi,hg]
theorem YT.det:∀{Y Z:Yp},YT w r Y ->YT w r Z ->Y.idx=Z.idx ->Y=Z
 |.emp y,Z,h,k,e=>by
  cases Z with
  |emp y'=>simp only[Yp.idx]at e;rw[e]
  |set y' c=>simp only[Yp.idx]at e;subst e;obtain⟨bs,k1,_⟩:=k;have:=(ak (aL.det h k1)).1;omega
  |cat y' a b=>simp only[Yp.idx]at e;subst e;have:=(ak (aL.det h k.1)).1;omega
  |alt y' a b=>simp only[Yp.idx]at e;subst e;have:=(ak (aL.det h k.1)).1;omega
  |star y' a z=>simp only[Yp.idx]at e;subst e;have:=(ak (aL.det h k.1)).1;omega
  |may y' a z=>simp only[Yp.idx]at e;subst e;have:=(ak (aL.det h k.1)).1;omega
  |grp y' a n=>simp only[Yp.idx]at e;subst e;have:=(ak (aL.det h k.1)).1;omega
 |.set y c,Z,⟨bs,h1,h2,h3⟩,k,e=>by
  cases Z with
  |emp y'=>simp only[Yp.idx]at e;subst e;have:=(ak (aL.det h1 k)).1;omega
  |set y' c'=>
   simp only[Yp.idx]at e
   subst e
   obtain⟨bs',k1,_,k3⟩:=k
   obtain⟨_,_,_,_,_,rfl⟩:=ak (aL.det h1 k1)
   rw[h3.det k3]
  |cat y' a b=>simp only[Yp.idx]at e;subst e;have:=(ak (aL.det h1 k.1)).1;omega
  |alt y' a b=>simp only[Yp.idx]at e;subst e;have:=(ak (aL.det h1 k.1)).1;omega
  |star y' a z=>simp only[Yp.idx]at e;subst e;have:=(ak (aL.det h1 k.1)).1;omega
  |may y' a z=>simp only[Yp.idx]at e;subst e;have:=(ak (aL.det h1 k.1)).1;omega
  |grp y' a n=>simp only[Yp.idx]at e;subst e;have:=(ak (aL.det h1 k.1)).1;omega
 |.cat y a b,Z,⟨h1,h2,h3⟩,k,e=>by
  cases Z with
  |emp y'=>simp only[Yp.idx]at e;subst e;have:=(ak (aL.det h1 k)).1;omega
  |set y' c'=>simp only[Yp.idx]at e;subst e;obtain⟨bs,k1,_⟩:=k;have:=(ak (aL.det h1 k1)).1;omega
  |cat y' a' b'=>
   simp only[Yp.idx]at e
   subst e
   obtain⟨_,e1,e2,_⟩:=ak (aL.det h1 k.1)
   rw[h2.det k.2.1 (by omega),h3.det k.2.2 (by omega)]
  |alt y' a b=>simp only[Yp.idx]at e;subst e;have:=(ak (aL.det h1 k.1)).1;omega
  |star y' a z=>simp only[Yp.idx]at e;subst e;have:=(ak (aL.det h1 k.1)).1;omega
  |may y' a z=>simp only[Yp.idx]at e;subst e;have:=(ak (aL.det h1 k.1)).1;omega
  |grp y' a n=>simp only[Yp.idx]at e;subst e;have:=(ak (aL.det h1 k.1)).1;omega
 |.alt y a b,Z,⟨h1,h2,h3⟩,k,e=>by
  cases Z with
  |emp y'=>simp only[Yp.idx]at e;subst e;have:=(ak (aL.det h1 k)).1;omega
  |set y' c'=>simp only[Yp.idx]at e;subst e;obtain⟨bs,k1,_⟩:=k;have:=(ak (aL.det h1 k1)).1;omega
  |cat y' a b=>simp only[Yp.idx]at e;subst e;have:=(ak (aL.det h1 k.1)).1;omega
  |alt y' a' b'=>
   simp only[Yp.idx]at e
   subst e
   obtain⟨_,e1,e2,_⟩:=ak (aL.det h1 k.1)
   rw[h2.det k.2.1 (by omega),h3.det k.2.2 (by omega)]
  |star y' a z=>simp only[Yp.idx]at e;subst e;have:=(ak (aL.det h1 k.1)).1;omega
  |may y' a z=>simp only[Yp.idx]at e;subst e;have:=(ak (aL.det h1 k.1)).1;omega
  |grp y' a n=>simp only[Yp.idx]at e;subst e;have:=(ak (aL.det h1 k.1)).1;omega
 |.star y a z,Z,⟨h1,h2⟩,k,e=>by
  cases Z with
  |emp y'=>simp only[Yp.idx]at e;subst e;have:=(ak (aL.det h1 k)).1;omega
  |set y' c'=>simp only[Yp.idx]at e;subst e;obtain⟨bs,k1,_⟩:=k;have:=(ak (aL.det h1 k1)).1;omega
  |cat y' a b=>simp only[Yp.idx]at e;subst e;have:=(ak (aL.det h1 k.1)).1;omega
  |alt y' a b=>simp only[Yp.idx]at e;subst e;have:=(ak (aL.det h1 k.1)).1;omega
  |star y' a' z'=>
   simp only[Yp.idx]at e
   subst e
   obtain⟨_,e1,_,_,e2,_⟩:=ak (aL.det h1 k.1)
   rw[h2.det k.2 (by omega),e2]
  |may y' a z=>simp only[Yp.idx]at e;subst e;have:=(ak (aL.det h1 k.1)).1;omega
  |grp y' a n=>simp only[Yp.idx]at e;subst e;have:=(ak (aL.det h1 k.1)).1;omega
 |.may y a z,Z,⟨h1,h2⟩,k,e=>by
  cases Z with
  |emp y'=>simp only[Yp.idx]at e;subst e;have:=(ak (aL.det h1 k)).1;omega
  |set y' c'=>simp only[Yp.idx]at e;subst e;obtain⟨bs,k1,_⟩:=k;have:=(ak (aL.det h1 k1)).1;omega
  |cat y' a b=>simp only[Yp.idx]at e;subst e;have:=(ak (aL.det h1 k.1)).1;omega
  |alt y' a b=>simp only[Yp.idx]at e;subst e;have:=(ak (aL.det h1 k.1)).1;omega
  |star y' a z=>simp only[Yp.idx]at e;subst e;have:=(ak (aL.det h1 k.1)).1;omega
  |may y' a' z'=>
   simp only[Yp.idx]at e
   subst e
   obtain⟨_,e1,_,_,e2,_⟩:=ak (aL.det h1 k.1)
   rw[h2.det k.2 (by omega),e2]
  |grp y' a n=>simp only[Yp.idx]at e;subst e;have:=(ak (aL.det h1 k.1)).1;omega
 |.grp y a n,Z,⟨h1,h2⟩,k,e=>by
  cases Z with
  |emp y'=>simp only[Yp.idx]at e;subst e;have:=(ak (aL.det h1 k)).1;omega
  |set y' c'=>simp only[Yp.idx]at e;subst e;obtain⟨bs,k1,_⟩:=k;have:=(ak (aL.det h1 k1)).1;omega
  |cat y' a b=>simp only[Yp.idx]at e;subst e;have:=(ak (aL.det h1 k.1)).1;omega
  |alt y' a b=>simp only[Yp.idx]at e;subst e;have:=(ak (aL.det h1 k.1)).1;omega
  |star y' a z=>simp only[Yp.idx]at e;subst e;have:=(ak (aL.det h1 k.1)).1;omega
  |may y' a z=>simp only[Yp.idx]at e;subst e;have:=(ak (aL.det h1 k.1)).1;omega
  |grp y' a' n'=>
   simp only[Yp.idx]at e
   subst e
   obtain⟨_,e1,_,e2,_,_⟩:=ak (aL.det h1 k.1)
   rw[h2.det k.2 (by omega),show n=n' by omega]
inductive Ti where
 |ex (Y:Yp)
 |gend (n:Nat)
 |rend (y:Nat) (A:Yp) (z fresh:Bool)
def Ti.er:Ti ->Tk
 |.ex Y=> .ex Y.er
 |.gend n=> .gend n
 |.rend _ A z f=> .rend A.er z f
def erK (k:List Ti):List Tk:=k.map Ti.er
def Ti.old:Ti ->Ti
 |.rend y A z _=> .rend y A z false
 |t=>t
def iW (k:List Ti):List Ti:=k.map Ti.old
theorem zu (k:List Ti):erK (iW k)=dF (erK k):=by
 unfold erK iW dF
 rw[List.map_map,List.map_map]
 congr 1
 funext t
 cases t<;>rfl
def Ti.code:Ti ->Int×Int×Bool
 |.ex Y=>(0,(Y.idx:Int),false)
 |.gend n=>(-1,(n:Int),false)
 |.rend y _ _ f=>(-2,(y:Int),f)
def Ti.OK (w:World) (r:Nat):Ti ->Prop
 |.ex Y=>YT w r Y
 |.gend _=>True
 |.rend y A z _=>aL w r y (bc 5 (A.idx:Nat) 0 0 z noB)/\YT w r A
theorem Ti.det {s t:Ti} (hs:s.OK w r) (ht:t.OK w r) (e:s.code=t.code):s=t:=by
 cases s with
 |ex Y=>
  cases t with
  |ex Z=>
   simp only[Ti.code,Prod.mk.injEq,true_and,and_true]at e
   rw[YT.det hs ht (by omega)]
  |gend n=>simp[Ti.code]at e
  |rend y A z f=>simp[Ti.code]at e
 |gend n=>
  cases t with
  |ex Z=>simp[Ti.code]at e
  |gend m=>
   simp only[Ti.code,Prod.mk.injEq,true_and,and_true]at e
   rw[show n=m by omega]
  |rend y A z f=>simp[Ti.code]at e
 |rend y A z f=>
  cases t with
  |ex Z=>simp[Ti.code]at e
  |gend m=>simp[Ti.code]at e
  |rend y' A' z' f'=>
   simp only[Ti.code,Prod.mk.injEq,true_and]at e
   obtain⟨e1,rfl⟩:=e
   have:y=y':=by omega
   subst this
   obtain⟨_,e2,_,_,e3,_⟩:=ak (aL.det hs.1 ht.1)
   rw[YT.det hs.2 ht.2 (by omega),e3]
def iN:List Ti ->List Ti
 |.ex (.cat _ a b)::k=> .ex b::k
 |.ex (.alt _ a b)::k=> .ex a::k
 |.ex (.star y a z)::k=> .rend y a z true::k
 |.rend y a z _::k=> .rend y a z true::k
 |.ex (.may _ a z)::k=> .ex a::k
 |.ex (.grp _ a n)::k=> .gend n::k
 |k=>k
def il:List Ti ->List Ti
 |.ex (.cat _ a b)::k=> .ex a:: .ex b::k
 |.ex (.alt _ a b)::k=> .ex b::k
 |.ex (.star y a z)::k=> .ex a:: .rend y a z true::k
 |.rend y a z _::k=> .ex a:: .rend y a z true::k
 |.ex (.grp _ a n)::k=> .ex a:: .gend n::k
 |k=>k
def unY:Yp ->List (List Ti) ->List (List Ti)
 |.emp y,ks=>ks.map (.ex (.emp y):: ·)
 |.set y c,ks=>ks.map (.ex (.set y c):: ·)
 |.cat y a b,ks=>ks.map (.ex (.cat y a b):: ·)++(unY b ks++unY a (ks.map (.ex b:: ·)))
 |.alt y a b,ks=>ks.map (.ex (.alt y a b):: ·)++(unY a ks++unY b ks)
 |.star y a z,ks=>ks.map (.ex (.star y a z):: ·)++((ks.map (.rend y a z true:: ·)++ks.map (.rend y a z false:: ·))++unY a (ks.map (.rend y a z true:: ·)++ks.map (.rend y a z false:: ·)))
 |.may y a z,ks=>ks.map (.ex (.may y a z):: ·)++unY a ks
 |.grp y a n,ks=>ks.map (.ex (.grp y a n):: ·)++(ks.map (.gend n:: ·)++unY a (ks.map (.gend n:: ·)))
def bN:Xp ->Nat
 |.emp=>1
 |.set _=>1
 |.cat a b=>1+(bN b+bN a)
 |.alt a b=>1+(bN a+bN b)
 |.star a _=>3+2*bN a
 |.may a _=>1+bN a
 |.grp a _=>2+bN a
theorem fy:∀(Y:Yp) (ks:List (List Ti)),(unY Y ks).length=bN Y.er*ks.length
 |.emp y,ks=>by simp[unY,bN,Yp.er]
 |.set y c,ks=>by simp[unY,bN,Yp.er]
 |.cat y a b,ks=>by
  rw[unY,List.length_append,List.length_append,fy b,fy a,List.length_map,List.length_map,Yp.er,bN]
  simp only[Nat.add_mul,Nat.one_mul]
 |.alt y a b,ks=>by
  rw[unY,List.length_append,List.length_append,fy b,fy a,List.length_map,Yp.er,bN]
  simp only[Nat.add_mul,Nat.one_mul]
 |.star y a z,ks=>by
  rw[unY,List.length_append,List.length_append,fy a,List.length_append,List.length_map,List.length_map,List.length_map,Yp.er,bN]
  simp only[Nat.add_mul,Nat.mul_add,Nat.one_mul,Nat.mul_assoc]
  omega
 |.may y a z,ks=>by
  rw[unY,List.length_append,fy a,List.length_map,Yp.er,bN]
  simp only[Nat.add_mul,Nat.one_mul]
 |.grp y a n,ks=>by
  rw[unY,List.length_append,List.length_append,fy a,List.length_map,List.length_map,Yp.er,bN]
  simp only[Nat.add_mul]
  omega
structure ClU (U ks:List (List Ti)) (K:List Ti):Prop where
 old:iW K∈U
 ne:∃t k,K=t::k/\(k∈U\/k∈ks)
 fst:iN K∈U
 snd:il K∈U
theorem ClU.wider {U V ks js:List (List Ti)} {K:List Ti} (h:ClU U ks K) (hU:∀x,x∈U ->x∈V) (hk:∀x,x∈ks ->x∈js\/x∈V):ClU V js K:=by
 obtain⟨t,k,e,h1⟩:=h.ne
 refine⟨hU _ h.old,⟨t,k,e,?_⟩,hU _ h.fst,hU _ h.snd⟩
 rcases h1 with h1|h1
 ·exact .inl (hU _ h1)
 ·rcases hk _ h1 with h2|h2
  ·exact .inr h2
  ·exact .inl h2
def mT (ks:List (List Ti)):Prop:=∀k∈ks,iW k∈ks
theorem cO {ks:List (List Ti)} {t:Ti} {k:List Ti} (h:k∈ks):(t::k)∈ks.map (t:: ·):=List.mem_map.2 ⟨k,h,rfl⟩
theorem bJ (Y:Yp) (ks:List (List Ti)) (k:List Ti) (h:k∈ks):(.ex Y::k)∈unY Y ks:=by
 cases Y<;>rw[unY]<;>first|exact cO h|exact List.mem_append_left _ (cO h)
theorem mT.ex {ks:List (List Ti)} (h:mT ks) (b:Yp):mT (ks.map (.ex b:: ·)):=fun k hk=>by
 obtain⟨j,hj,rfl⟩:=List.mem_map.1 hk
 exact cO (h j hj)
theorem mT.gend {ks:List (List Ti)} (h:mT ks) (n:Nat):mT (ks.map (.gend n:: ·)):=fun k hk=>by
 obtain⟨j,hj,rfl⟩:=List.mem_map.1 hk
 exact cO (h j hj)
theorem mT.rend {ks:List (List Ti)} (h:mT ks) (y:Nat) (a:Yp) (z:Bool):mT (ks.map (.rend y a z true:: ·)++ks.map (.rend y a z false:: ·)):=fun k hk=>by
 rcases List.mem_append.1 hk with hk|hk
 all_goals
  obtain⟨j,hj,rfl⟩:=List.mem_map.1 hk
  exact List.mem_append_right _ (cO (h j hj))
theorem dE:∀(Y:Yp) (ks:List (List Ti)),mT ks ->∀K∈unY Y ks,ClU (unY Y ks) ks K
 |.emp y,ks,ho,K,hK=>by
  obtain⟨j,hj,rfl⟩:=List.mem_map.1 (by rw[unY]at hK;exact hK)
  exact⟨bJ (.emp y) ks _ (ho j hj),⟨_,j,rfl,.inr hj⟩,bJ (.emp y) ks j hj,bJ (.emp y) ks j hj⟩
 |.set y c,ks,ho,K,hK=>by
  obtain⟨j,hj,rfl⟩:=List.mem_map.1 (by rw[unY]at hK;exact hK)
  exact⟨bJ (.set y c) ks _ (ho j hj),⟨_,j,rfl,.inr hj⟩,bJ (.set y c) ks j hj,bJ (.set y c) ks j hj⟩
 |.cat y a b,ks,ho,K,hK=>by
  have m1:∀x,x∈unY b ks ->x∈unY (.cat y a b) ks:=fun x hx=>by rw[unY];exact List.mem_append_right _ (List.mem_append_left _ hx)
  have m2:∀x,x∈unY a (ks.map (.ex b:: ·)) ->x∈unY (.cat y a b) ks:=fun x hx=>by rw[unY];exact List.mem_append_right _ (List.mem_append_right _ hx)
  rw[unY]at hK
  rcases List.mem_append.1 hK with hK|hK
  ·obtain⟨j,hj,rfl⟩:=List.mem_map.1 hK
   exact⟨bJ (.cat y a b) ks _ (ho j hj),⟨_,j,rfl,.inr hj⟩,m1 _ (bJ b ks j hj),m2 _ (bJ a _ _ (cO hj))⟩
  ·rcases List.mem_append.1 hK with hK|hK
   ·exact (dE b ks ho K hK).wider m1 (fun x hx=> .inl hx)
   ·refine (dE a _ (ho.ex b) K hK).wider m2 (fun x hx=> .inr ?_)
    obtain⟨j,hj,rfl⟩:=List.mem_map.1 hx
    exact m1 _ (bJ b ks j hj)
 |.alt y a b,ks,ho,K,hK=>by
  have m1:∀x,x∈unY a ks ->x∈unY (.alt y a b) ks:=fun x hx=>by rw[unY];exact List.mem_append_right _ (List.mem_append_left _ hx)
  have m2:∀x,x∈unY b ks ->x∈unY (.alt y a b) ks:=fun x hx=>by rw[unY];exact List.mem_append_right _ (List.mem_append_right _ hx)
  rw[unY]at hK
  rcases List.mem_append.1 hK with hK|hK
  ·obtain⟨j,hj,rfl⟩:=List.mem_map.1 hK
   exact⟨bJ (.alt y a b) ks _ (ho j hj),⟨_,j,rfl,.inr hj⟩,m1 _ (bJ a ks j hj),m2 _ (bJ b ks j hj)⟩
  ·rcases List.mem_append.1 hK with hK|hK
   ·exact (dE a ks ho K hK).wider m1 (fun x hx=> .inl hx)
   ·exact (dE b ks ho K hK).wider m2 (fun x hx=> .inl hx)
 |.star y a z,ks,ho,K,hK=>by
  have m1:∀x,x∈ks.map (.rend y a z true:: ·)++ks.map (.rend y a z false:: ·) ->x∈unY (.star y a z) ks:=fun x hx=>by rw[unY];exact List.mem_append_right _ (List.mem_append_left _ hx)
  have m2:∀x,x∈unY a (ks.map (.rend y a z true:: ·)++ks.map (.rend y a z false:: ·)) ->x∈unY (.star y a z) ks:=fun x hx=>by rw[unY];exact List.mem_append_right _ (List.mem_append_right _ hx)
  have mf:∀j,j∈ks ->(.rend y a z true::j)∈ks.map (.rend y a z true:: ·)++ks.map (.rend y a z false:: ·):=fun j hj=>List.mem_append_left _ (cO hj)
  have mo:∀j,j∈ks ->(.rend y a z false::j)∈ks.map (.rend y a z true:: ·)++ks.map (.rend y a z false:: ·):=fun j hj=>List.mem_append_right _ (cO hj)
  rw[unY]at hK
  rcases List.mem_append.1 hK with hK|hK
  ·obtain⟨j,hj,rfl⟩:=List.mem_map.1 hK
   exact⟨bJ (.star y a z) ks _ (ho j hj),⟨_,j,rfl,.inr hj⟩,m1 _ (mf j hj),m2 _ (bJ a _ _ (mf j hj))⟩
  ·rcases List.mem_append.1 hK with hK|hK
   ·rcases List.mem_append.1 hK with hK|hK
    all_goals
     obtain⟨j,hj,rfl⟩:=List.mem_map.1 hK
     exact⟨m1 _ (mo _ (ho j hj)),⟨_,j,rfl,.inr hj⟩,m1 _ (mf j hj),m2 _ (bJ a _ _ (mf j hj))⟩
   ·exact (dE a _ (ho.rend y a z) K hK).wider m2 (fun x hx=> .inr (m1 _ hx))
 |.may y a z,ks,ho,K,hK=>by
  have m1:∀x,x∈unY a ks ->x∈unY (.may y a z) ks:=fun x hx=>by rw[unY];exact List.mem_append_right _ hx
  rw[unY]at hK
  rcases List.mem_append.1 hK with hK|hK
  ·obtain⟨j,hj,rfl⟩:=List.mem_map.1 hK
   exact⟨bJ (.may y a z) ks _ (ho j hj),⟨_,j,rfl,.inr hj⟩,m1 _ (bJ a ks j hj),bJ (.may y a z) ks j hj⟩
  ·exact (dE a ks ho K hK).wider m1 (fun x hx=> .inl hx)
 |.grp y a n,ks,ho,K,hK=>by
  have m1:∀x,x∈ks.map (.gend n:: ·) ->x∈unY (.grp y a n) ks:=fun x hx=>by rw[unY];exact List.mem_append_right _ (List.mem_append_left _ hx)
  have m2:∀x,x∈unY a (ks.map (.gend n:: ·)) ->x∈unY (.grp y a n) ks:=fun x hx=>by rw[unY];exact List.mem_append_right _ (List.mem_append_right _ hx)
  rw[unY]at hK
  rcases List.mem_append.1 hK with hK|hK
  ·obtain⟨j,hj,rfl⟩:=List.mem_map.1 hK
   exact⟨bJ (.grp y a n) ks _ (ho j hj),⟨_,j,rfl,.inr hj⟩,m1 _ (cO hj),m2 _ (bJ a _ _ (cO hj))⟩
  ·rcases List.mem_append.1 hK with hK|hK
   ·obtain⟨j,hj,rfl⟩:=List.mem_map.1 hK
    exact⟨m1 _ (cO (ho j hj)),⟨_,j,rfl,.inr hj⟩,m1 _ (cO hj),m1 _ (cO hj)⟩
   ·exact (dE a _ (ho.gend n) K hK).wider m2 (fun x hx=> .inr (m1 _ hx))
def oY (Y:Yp):List (List Ti):=unY Y [[]]
theorem p9 (Y:Yp):∀K∈oY Y,ClU (oY Y) [[]] K:=dE Y [[]] (fun k hk=>by rw[List.mem_singleton]at hk;subst hk;simp[iW])
theorem vH (Y:Yp):(oY Y).length=bN Y.er:=by unfold oY;rw[fy];simp
theorem kK:∀(Y:Yp) (ks:List (List Ti)),YT w r Y ->(∀k∈ks,∀t∈k,t.OK w r) ->∀K∈unY Y ks,∀t∈K,t.OK w r
 |.emp y,ks,hy,hk,K,hK,t,ht=>by
  obtain⟨j,hj,rfl⟩:=List.mem_map.1 (by rw[unY]at hK;exact hK)
  rcases List.mem_cons.1 ht with rfl|ht
  ·exact hy
  ·exact hk j hj t ht
 |.set y c,ks,hy,hk,K,hK,t,ht=>by
  obtain⟨j,hj,rfl⟩:=List.mem_map.1 (by rw[unY]at hK;exact hK)
  rcases List.mem_cons.1 ht with rfl|ht
  ·exact hy
  ·exact hk j hj t ht
 |.cat y a b,ks,hy,hk,K,hK,t,ht=>by
  rw[unY]at hK
  have hb:∀k∈ks.map (.ex b:: ·),∀t∈k,t.OK w r:=fun k hk' t ht=>by
   obtain⟨j,hj,rfl⟩:=List.mem_map.1 hk'
   rcases List.mem_cons.1 ht with rfl|ht
   ·exact hy.2.2
   ·exact hk j hj t ht
  rcases List.mem_append.1 hK with hK|hK
  ·obtain⟨j,hj,rfl⟩:=List.mem_map.1 hK
   rcases List.mem_cons.1 ht with rfl|ht
   ·exact hy
   ·exact hk j hj t ht
  ·rcases List.mem_append.1 hK with hK|hK
   ·exact kK b ks hy.2.2 hk K hK t ht
   ·exact kK a _ hy.2.1 hb K hK t ht
 |.alt y a b,ks,hy,hk,K,hK,t,ht=>by
  rw[unY]at hK
  rcases List.mem_append.1 hK with hK|hK
  ·obtain⟨j,hj,rfl⟩:=List.mem_map.1 hK
   rcases List.mem_cons.1 ht with rfl|ht
   ·exact hy
   ·exact hk j hj t ht
  ·rcases List.mem_append.1 hK with hK|hK
   ·exact kK a ks hy.2.1 hk K hK t ht
   ·exact kK b ks hy.2.2 hk K hK t ht
 |.star y a z,ks,hy,hk,K,hK,t,ht=>by
  rw[unY]at hK
  have hb:∀k∈ks.map (.rend y a z true:: ·)++ks.map (.rend y a z false:: ·),∀t∈k,t.OK w r:=fun k hk' t ht=>by
   rcases List.mem_append.1 hk' with hk'|hk'
   all_goals
    obtain⟨j,hj,rfl⟩:=List.mem_map.1 hk'
    rcases List.mem_cons.1 ht with rfl|ht
    ·exact hy
    ·exact hk j hj t ht
  rcases List.mem_append.1 hK with hK|hK
  ·obtain⟨j,hj,rfl⟩:=List.mem_map.1 hK
   rcases List.mem_cons.1 ht with rfl|ht
   ·exact hy
   ·exact hk j hj t ht
  ·rcases List.mem_append.1 hK with hK|hK
   ·exact hb K hK t ht
   ·exact kK a _ hy.2 hb K hK t ht
 |.may y a z,ks,hy,hk,K,hK,t,ht=>by
  rw[unY]at hK
  rcases List.mem_append.1 hK with hK|hK
  ·obtain⟨j,hj,rfl⟩:=List.mem_map.1 hK
   rcases List.mem_cons.1 ht with rfl|ht
   ·exact hy
   ·exact hk j hj t ht
  ·exact kK a ks hy.2 hk K hK t ht
 |.grp y a n,ks,hy,hk,K,hK,t,ht=>by
  rw[unY]at hK
  have hb:∀k∈ks.map (.gend n:: ·),∀t∈k,t.OK w r:=fun k hk' t ht=>by
   obtain⟨j,hj,rfl⟩:=List.mem_map.1 hk'
   rcases List.mem_cons.1 ht with rfl|ht
   ·trivial
   ·exact hk j hj t ht
  rcases List.mem_append.1 hK with hK|hK
  ·obtain⟨j,hj,rfl⟩:=List.mem_map.1 hK
   rcases List.mem_cons.1 ht with rfl|ht
   ·exact hy
   ·exact hk j hj t ht
  ·rcases List.mem_append.1 hK with hK|hK
   ·exact hb K hK t ht
   ·exact kK a _ hy.2 hb K hK t ht
theorem oA {α:Type} [DecidableEq α]:∀{l m:List α},l.Nodup ->(∀x∈l,x∈m) ->l.length<=m.length
 |[],m,_,_=>Nat.zero_le _
 |a::l,m,hn,hs=>by
  rw[List.nodup_cons]at hn
  have ha:=hs a (List.mem_cons_self ..)
  have h1:∀x∈l,x∈m.erase a:=fun x hx=>by
   have hne:x≠a:=fun e=>hn.1 (by rw[<-e];exact hx)
   exact (List.mem_erase_of_ne hne).2 (hs x (List.mem_cons_of_mem _ hx))
  have h2:=oA hn.2 h1
  have h3:=List.length_erase_of_mem ha
  have h4:0<m.length:=List.length_pos_of_mem ha
  simp only[List.length_cons]
  omega
def GLe (m:Nat):Xp ->Prop
 |.emp=>True
 |.set _=>True
 |.cat a b=>GLe m a/\GLe m b
 |.alt a b=>GLe m a/\GLe m b
 |.star a _=>GLe m a
 |.may a _=>GLe m a
 |.grp a n=>1<=n/\n<=m/\GLe m a
theorem GLe.mono {m m':Nat} (h:m<=m'):∀{X:Xp},GLe m X ->GLe m' X
 |.emp,_=>trivial
 |.set _,_=>trivial
 |.cat a b,k=>⟨k.1.mono h,k.2.mono h⟩
 |.alt a b,k=>⟨k.1.mono h,k.2.mono h⟩
 |.star a _,k=>GLe.mono h (X:=a) k
 |.may a _,k=>GLe.mono h (X:=a) k
 |.grp a n,k=>⟨k.1,Nat.le_trans k.2.1 h,k.2.2.mono h⟩
theorem qi (x:Xp) (o:Xp):∀m,bN (lC x m o)=m*(1+bN x)+bN o
 |0=>by simp[lC]
 |m+1=>by rw[eJ,bN,qi x o m,Nat.add_mul];omega
theorem uk (x:Xp) (z:Bool) (o:Xp):∀m,bN (upX x z m o)=m*(2+bN x)+bN o
 |0=>by simp[upX]
 |m+1=>by rw[gU,bN,bN,uk x z o m,Nat.add_mul];omega
theorem qj {o:Xp} (hx:GLe g x) (ho:GLe g o):∀m,GLe g (lC x m o)
 |0=>ho
 |m+1=>by rw[eJ];exact⟨hx,qj hx ho m⟩
theorem uo {o:Xp} (z:Bool) (hx:GLe g x) (ho:GLe g o):∀m,GLe g (upX x z m o)
 |0=>ho
 |m+1=>by rw[gU];exact⟨hx,uo z hx ho m⟩
theorem sV {le:Nat} {mo:Int} {z:Bool} (h:th (le,mo)):bN (eE x le mo z)<=11*bN x+19:=by
 obtain⟨h1,h2⟩:=h
 dsimp only at h1 h2
 unfold eE
 rw[qi]
 have hm:le*(1+bN x)<=9*(1+bN x):=Nat.mul_le_mul_right _ h1
 by_cases hmo:mo<0
 ·rw[if_pos hmo,bN]
  omega
 ·rw[if_neg hmo,uk,bN]
  obtain⟨d,hd⟩:=exq ((mo-le).toNat)
  rw[<-hd]
  have hs:le+d<=9:=by omega
  have e:le*(1+bN x)+(d*(2+bN x)+1)<=(le+d)*(2+bN x)+1:=by
   rw[Nat.add_mul]
   have:le*(1+bN x)<=le*(2+bN x):=Nat.mul_le_mul_left _ (by omega)
   omega
  have e2:(le+d)*(2+bN x)<=9*(2+bN x):=Nat.mul_le_mul_right _ hs
  omega
theorem sW {le:Nat} {mo:Int} {z:Bool} (hx:GLe g x):GLe g (eE x le mo z):=by
 unfold eE
 refine qj hx ?_ _
 split
 ·exact hx
 ·exact uo (o:= .emp) z hx trivial _
theorem u7 (h:al t s= .ok g s'):s.k<=s'.k/\s.g<=s'.g/\g<=s'.g:=by
 unfold al at h
 split at h
 ·cases h;exact⟨Nat.le_refl _,Nat.le_succ _,Nat.le_refl _⟩
 ·obtain⟨_,s1,h1,h⟩:=bind_ok h
  have m1:=(cL h1).1
  split at h
  ·cases h
   exact⟨by have:=m1.le;show s.k<=s1.k+1;omega,by show s.g<=s1.g;rw[m1.g];exact Nat.le_refl _,Nat.zero_le _⟩
  ·split at h
   ·cases h
   ·obtain⟨_,s2,h2,h⟩:=bind_ok h
    obtain⟨_,s3,h3,h⟩:=bind_ok h
    obtain⟨n,s4,h4,h⟩:=bind_ok h
    obtain⟨_,s5,h5,h⟩:=bind_ok h
    cases h
    have m:=(((m1.trans (cL h2).1).trans (cL h3).1).trans (jm h4)).trans (cL h5).1
    exact⟨m.le,by show s.g<=s5.g+1;have:=m.g;omega,Nat.le_refl _⟩
structure Bd (A:Nat) (s:RS) (X:Xp) (s':RS):Prop where
 le:s.k<=s'.k
 g:s.g<=s'.g
 cnt:bN X<=A*(s'.k-s.k)+1
 gle:GLe s'.g X
section
variable {t:ByteArray} {E:RS ->Res Pt} {A:Nat} (hA:1<=A) (hE:∀s p s',E s= .ok p s' ->Bd A s (den p) s')
include hA hE
theorem yc (h:bp t E s= .ok p s'):s.k<s'.k/\s.g<=s'.g/\bN (den p)<=2*A*(s'.k-s.k)/\GLe s'.g (den p):=by
 have single:∀(c:Cls) (s':RS),Mv t s s'/\s.k<s'.k ->s.k<s'.k/\s.g<=s'.g/\bN (den (.single c))<=2*A*(s'.k-s.k)/\GLe s'.g (den (.single c)):=fun c s' m=>
  ⟨m.2,by rw[m.1.g];exact Nat.le_refl _,by
   rw[den,bN]
   have h2:1*1<=2*A*(s'.k-s.k):=Nat.mul_le_mul (by omega) (by have:=m.2;omega)
   omega,by rw[den];trivial⟩
 unfold bp at h
 split at h
 ·cases h
 ·next b hb=>
  split at h
  ·unfold aK at h
   split at h
   ·cases h
   ·obtain⟨_,s1,h1,h⟩:=bind_ok h
    obtain⟨g,s2,h2,h⟩:=bind_ok h
    obtain⟨q,s3,h3,h⟩:=bind_ok h
    obtain⟨_,s4,h4,h⟩:=bind_ok h
    cases h
    have m1:=cL h1
    have m2:=u7 h2
    have f:=hE _ _ _ h3
    have m4:=cL h4
    have l1:s.k<s1.k:=m1.2
    have l2:s1.k<=s2.k:=m2.1
    have l3:=f.le
    have l4:=m4.2
    have g1:s1.g=s.g:=m1.1.g
    have g2:s1.g<=s2.g:=m2.2.1
    have g3:=f.g
    have g4:=m4.1.g
    have hc:bN (den q)<=A*(s3.k-s2.k)+1:=f.cnt
    have hmul:A*(s3.k-s2.k)+3<=2*A*(s4.k-s.k):=by
     have h9:A*(s3.k-s2.k+2)<=A*(s4.k-s.k):=Nat.mul_le_mul_left _ (by omega)
     rw[Nat.mul_add]at h9
     have h8:A*1<=A*(s4.k-s.k):=Nat.mul_le_mul_left _ (by omega)
     have e:2*A*(s4.k-s.k)=A*(s4.k-s.k)+A*(s4.k-s.k):=by rw[Nat.mul_assoc];omega
     omega
    refine⟨by show s.k<s4.k;omega,by show s.g<=s4.g;omega,?_,?_⟩
    ·show bN (den (.wrap q g))<=2*A*(s4.k-s.k)
     rw[den]
     split
     ·omega
     ·rw[bN];omega
    ·show GLe s4.g (den (.wrap q g))
     rw[den]
     have hg:GLe s4.g (den q):=f.gle.mono (by omega)
     split
     ·exact hg
     ·exact⟨by omega,by have:=m2.2.2;omega,hg⟩
  ·split at h
   ·obtain⟨c,s1,h1,h⟩:=bind_ok h
    cases h
    exact single _ _ (sZ h1)
   ·split at h
    ·cases h
     exact single _ _ (cV (da hb))
    ·split at h
     ·obtain⟨x,s1,h1,h⟩:=bind_ok h
      cases h
      have m:=gZ h1
      have m0:=cV (da hb)
      exact single _ _ ⟨m0.1.trans m.1,by have:=m0.2;have:=m.2;omega⟩
     ·obtain⟨x,s1,h1,h⟩:=bind_ok h
      cases h
      exact single _ _ (fN h1)
theorem xp (h:aW t E s= .ok p s'):s.k<s'.k/\s.g<=s'.g/\bN (den p)<=(22*A+19)*(s'.k-s.k)/\GLe s'.g (den p):=by
 unfold aW at h
 obtain⟨q,s1,h1,h⟩:=bind_ok h
 obtain⟨c,s2,h2,h⟩:=bind_ok h
 obtain⟨a1,a2,a3,a4⟩:=yc hA hE h1
 have m2:=lE h2
 have l2:=m2.1.le
 have g2:=m2.1.g
 cases c with
 |none=>
  cases h
  refine⟨by omega,by omega,?_,a4.mono (by omega)⟩
  have h9:2*A*(s1.k-s.k)<=(22*A+19)*(s'.k-s.k):=Nat.mul_le_mul (by omega) (by omega)
  omega
 |some x=>
  have hx:=m2.2 x rfl
  have mt:=pK t s2 63
  have lt:=mt.le
  have gt:=mt.g
  cases h
  refine⟨by omega,by omega,?_,?_⟩
  ·rw[den]
   have hr:=sV (x:=den q) (z:=ac t s2 63) hx
   have h9:22*A*(s1.k-s.k)<=22*A*((s2.took t 63).k-s.k):=Nat.mul_le_mul_left _ (by omega)
   have h8:19*1<=19*((s2.took t 63).k-s.k):=Nat.mul_le_mul_left _ (by omega)
   rw[Nat.add_mul]
   have h7:11*(2*A*(s1.k-s.k))=22*A*(s1.k-s.k):=by rw[<-Nat.mul_assoc,<-Nat.mul_assoc]
   have h6:bN (eE (den q) x.1 x.2 (ac t s2 63))<=11*bN (den q)+19:=hr
   have h5:11*bN (den q)<=11*(2*A*(s1.k-s.k)):=Nat.mul_le_mul_left _ a3
   omega
  ·rw[den]
   exact sW (a4.mono (by omega))
theorem nJ:∀(f:Nat) (acc l:List Pt) (s0 s s':RS),aR t E f acc s= .ok l s' ->Bd (22*A+20) s0 (iw acc .emp) s ->Bd (22*A+20) s0 (iw l .emp) s'
 |0,acc,l,s0,s,s',h,_=>by cases h
 |f+1,acc,l,s0,s,s',h,hb=>by
  unfold aR at h
  split at h
  ·cases h;exact hb
  ·obtain⟨q,s1,h1,h⟩:=bind_ok h
   obtain⟨a1,a2,a3,a4⟩:=xp hA hE h1
   refine nJ f (acc++[q]) l s0 s1 s' h ⟨by have:=hb.le;omega,by have:=hb.g;omega,?_,?_⟩
   ·rw[gY,bN]
    have h1:=hb.cnt
    have hle:=hb.le
    have e:s1.k-s0.k=(s.k-s0.k)+(s1.k-s.k):=by omega
    have e2:(22*A+20)*(s1.k-s0.k)=(22*A+20)*(s.k-s0.k)+(22*A+20)*(s1.k-s.k):=by rw[e,Nat.mul_add]
    have e3:(22*A+20)*(s1.k-s.k)=(22*A+19)*(s1.k-s.k)+1*(s1.k-s.k):=by rw[<-Nat.add_mul]
    omega
   ·rw[gY]
    exact⟨hb.gle.mono a2,a4⟩
theorem xC {l:List Pt} {f:Nat} (h:aR t E f [] s= .ok l s'):Bd (22*A+20) s (iw l .emp) s':=nJ hA hE f [] l s s s' h ⟨Nat.le_refl _,Nat.le_refl _,by rw[iw,bN];omega,trivial⟩
theorem vJ:∀(f:Nat) (acc l:List Pt) (s0 s s':RS),fi t E f acc s= .ok l s' ->1<=acc.length ->Bd (22*A+22) s0 (iv acc) s ->Bd (22*A+22) s0 (iv l) s'
 |0,acc,l,s0,s,s',h,_,_=>by cases h
 |f+1,acc,l,s0,s,s',h,ha,hb=>by
  unfold fi at h
  split at h
  ·next hs=>
   obtain⟨q,s1,h1,h⟩:=bind_ok h
   have b1:=xC hA hE h1
   have hu:s.up.k=s.k+1:=rfl
   have hug:s.up.g=s.g:=rfl
   have b1l:=b1.le
   have b1g:=b1.g
   have b1c:=b1.cnt
   rw[hu]at b1l b1c
   rw[hug]at b1g
   refine vJ f (acc++[.seq q]) l s0 s1 s' h (by simp) ⟨by have:=hb.le;omega,by have:=hb.g;omega,?_,?_⟩
   ·rw[jO _ _ ha,bN,den]
    have h1:=hb.cnt
    have hle:=hb.le
    have e:s1.k-s0.k=(s.k-s0.k)+(1+(s1.k-(s.k+1))):=by omega
    have e2:(22*A+22)*(s1.k-s0.k)=(22*A+22)*(s.k-s0.k)+((22*A+22)*1+(22*A+22)*(s1.k-(s.k+1))):=by rw[e,Nat.mul_add,Nat.mul_add]
    have e3:(22*A+20)*(s1.k-(s.k+1))<=(22*A+22)*(s1.k-(s.k+1)):=Nat.mul_le_mul_right _ (by omega)
    omega
   ·rw[jO _ _ ha,den]
    exact⟨hb.gle.mono b1g,b1.gle⟩
  ·cases h;exact hb
theorem yk (h:dm t E s= .ok p s'):Bd (22*A+22) s (den p) s':=by
 unfold dm at h
 obtain⟨l,s1,h1,h⟩:=bind_ok h
 obtain⟨b,s2,h2,h⟩:=bind_ok h
 cases h
 have b1:=xC hA hE h1
 rw[den]
 refine vJ hA hE _ _ _ s s1 s' h2 (by simp) ⟨b1.le,b1.g,?_,?_⟩
 ·rw[iv,iK,den]
  have:=b1.cnt
  have e3:(22*A+20)*(s1.k-s.k)<=(22*A+22)*(s1.k-s.k):=Nat.mul_le_mul_right _ (by omega)
  omega
 ·rw[iv,iK,den];exact b1.gle
end
def bA:Nat ->Nat
 |0=>1
 |n+1=>22*bA n+22
theorem zn:∀n,1<=bA n
 |0=>Nat.le_refl _
 |n+1=>by rw[bA];omega
theorem nU:∀n s p s',ep t n s= .ok p s' ->Bd (bA n) s (den p) s'
 |0,s,p,s',h=>by cases h
 |n+1,s,p,s',h=>yk (zn n) (fun s p s' h=>nU n s p s' h) h
theorem pz (ht:t.size<=60) (h:aX t= .ok p s):bN (den p)<=315000000000/\GLe s.g (den p):=by
 unfold aX at h
 obtain⟨_,s0,h0,h⟩:=bind_ok h
 obtain⟨q,s1,h1,h⟩:=bind_ok h
 have b:=nU 7 _ _ _ h1
 split at h
 ·next hk=>
  cases h
  refine⟨?_,b.gle⟩
  have hc:=b.cnt
  have h7:bA 7=5107494722:=by decide+kernel
  have h8:bA 7*(s.k-s0.k)<=bA 7*60:=Nat.mul_le_mul_left _ (by omega)
  rw[h7]at hc h8
  omega
 ·cases h
end Go.Proofs.YtfnanjbleifjkaaGreatDoor.G
