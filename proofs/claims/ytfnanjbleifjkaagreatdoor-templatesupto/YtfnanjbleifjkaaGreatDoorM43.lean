import Derived.Test.YtfnanjbleifjkaaGreatDoorM42
set_option linter.unusedVariables false
set_option linter.unusedSimpArgs false
set_option maxHeartbeats 8000000
set_option maxRecDepth 100000
namespace Go.Proofs.YtfnanjbleifjkaaGreatDoor.G
variable {t:ByteArray}
open Go.RowKit
def vz (w':World) (p r base:Nat) (t:ByteArray) (s:RS) (hv:Int) (n:Nat) (cs:List Bool):Res Cls ->Prop
 |.ok c s'=>AgF s.f cs c/\RA w' p r base t s' false hv n
 |.bad s'=>RA w' p r base t s' true hv n
theorem vY {low:Int} {s s':RS} (h:cR t low s= .ok none s'):ac t s 92=true/\∃x,an t s.up= .ok x s'/\x.2.2=false:=by
 unfold cR at h
 cases hb:ai t s.k with
 |none=>rw[hb]at h;cases h
 |some b=>
  rw[hb]at h
  dsimp only at h
  split at h
  ·cases h
  ·split at h
   ·next h92=>
    subst h92
    refine⟨by rw[cY hb];rfl,?_⟩
    split at h
    ·cases h
    ·cases he:an t s.up with
     |bad s9=>rw[he]at h;cases h
     |ok x s9=>
      rw[he]at h
      dsimp only at h
      cases hx:x.2.2 with
      |true=>
       rw[hx]at h
       simp only[if_true]at h
       split at h<;>cases h
      |false=>
       rw[hx]at h
       simp only[Bool.false_eq_true,if_false]at h
       split at h
       ·cases h
       ·cases h
        exact⟨x,rfl,hx⟩
   ·split at h<;>cases h
theorem zt {low:Int} {s s':RS} {c:Nat} (h:cR t low s= .ok (some c) s') (h0:0<=low):low<=(c:Int):=by
 unfold cR at h
 cases hb:ai t s.k with
 |none=>rw[hb]at h;cases h
 |some b=>
  rw[hb]at h
  dsimp only at h
  split at h
  ·cases h
  ·split at h
   ·split at h
    ·cases h
    ·cases he:an t s.up with
     |bad s9=>rw[he]at h;cases h
     |ok x s9=>
      rw[he]at h
      dsimp only at h
      cases hx:x.2.2 with
      |true=>
       rw[hx]at h
       simp only[if_true]at h
       split at h
       ·cases h
       ·next h1=>
        cases h
        omega
      |false=>
       rw[hx]at h
       simp only[Bool.false_eq_true,if_false]at h
       split at h<;>cases h
   ·split at h
    ·cases h
    ·next h1=>
     cases h
     omega
theorem xt {cs:List Bool} {B j m:Nat} (hB:∀i,i<=128 ->G.hB cs i=(decide (i=B)||decide (B<=i/\i<j))) (hj:j=m+1) (hm:m<128) (hb:B<=m):AgC cs (ce B m):=⟨CN.range _ _ hm hb,fun r hr=>by
 rw[hB r hr,wL _ _ hm hb]
 by_cases h:r=B
 ·rw[decide_eq_true h,decide_eq_true (show B<=r/\r<=m by omega)];rfl
 ·rw[decide_eq_false h,Bool.false_or,decide_eq_decide]
  omega⟩
theorem sU {cs:List Bool} {B j:Nat} (hl:cs.length=129) (hB:∀i,i<=128 ->G.hB cs i=(decide (i=B)||decide (B<=i/\i<j))) (hj:B<=j) (hj2:j<129):∀i,i<=128 ->G.hB (cs.set j true) i=(decide (i=B)||decide (B<=i/\i<j+1)):=fun i hi=>by
 rw[lP _ _ _ (by omega)]
 by_cases h:i=j
 ·rw[if_pos h,decide_eq_true (show B<=i/\i<j+1 by omega),Bool.or_true]
 ·rw[if_neg h,hB i hi]
  congr 1
  rw[decide_eq_decide]
  omega
theorem sF (t:ByteArray) (s:RS) (w3:World) (p r base:Nat) (hv:Int) (n:Nat) (e:Ending) (h:oU w3 p r base t s hv n e (cR t (-1) s)):
  ∃bd sx cs m,cs.length=129/\e= .returned (.tuple #[.agg (sB cs).toArray,.int .i64 m])/\RA w3 p r base t sx bd hv n/\(bd=true ->aI t s=Res.bad sx)/\(bd=false ->(m= -1/\∃c,aI t s=Res.ok c sx/\AgF s.f cs c)\/∃b:UInt8,m=(b.toNat:Int)/\b.toNat<128/\aI t s=bg t b sx/\mU cs b.toNat):=by
 have h2:=vW t s
 cases hE:cR t (-1) s with
 |bad s'=>
  rw[hE]at h h2
  obtain⟨⟨cs,m,hcs,he,_⟩,hra⟩:=h
  exact⟨true,s',cs,m,hcs,he,hra,fun _=>h2,fun h=>by cases h⟩
 |ok o s'=>
  have hlt:=fun c (ho:o=some c)=>vX (t:=t) (low:= -1) (s:=s) (s':=s') (c:=c) (by rw[hE,ho])
  rw[hE]at h h2
  obtain⟨⟨cs,m,hcs,he,hm⟩,hra⟩:=h
  refine⟨false,s',cs,m,hcs,he,hra,(fun h=>by cases h),fun _=> ?_⟩
  cases o with
  |none=>
   obtain⟨k1,x,k2,k3⟩:=vY hE
   obtain⟨hm1,x',s9,g1,g2,g3,g4⟩:=hm
   rw[k2]at g1
   cases g1
   refine .inl ⟨hm1,x.1,?_,g4.folded g3⟩
   unfold aI
   rw[if_pos k1,k2,Res.bind_ok,k3]
   rfl
  |some c=>
   obtain⟨b,hb,h3⟩:=h2
   exact .inr ⟨b,by rw[hb];exact hm.1,by rw[hb];exact hlt c rfl,h3,by rw[hb];exact hm.2⟩
theorem qV (t:ByteArray) (s:RS) (b:UInt8) (w3:World) (p r base:Nat) (hv:Int) (n:Nat) (e:Ending) (hs:ac t s 45=true) (h:oU w3 p r base t s.up hv n e (cR t (b.toNat:Int) s.up)):
  ∃bd sx cs m,cs.length=129/\e= .returned (.tuple #[.agg (sB cs).toArray,.int .i64 m])/\RA w3 p r base t sx bd hv n/\(bd=true ->bg t b s=Res.bad sx)/\(bd=false ->∃e':Nat,m=(e':Int)/\e'<128/\b.toNat<=e'/\bg t b s=Res.ok (ce b.toNat e') sx):=by
 have h2:=vZ t b s.up
 have hT:bg t b s=(au t b s.up).bind fun e s'=> .ok (ce b.toNat e.toNat) s':=by unfold bg;rw[if_pos hs]
 cases hE:cR t (b.toNat:Int) s.up with
 |bad s'=>
  rw[hE]at h h2
  obtain⟨⟨cs,m,hcs,he,_⟩,hra⟩:=h
  exact⟨true,s',cs,m,hcs,he,hra,(fun _=>by rw[hT,show au t b s.up=_ from h2];rfl),fun h=>by cases h⟩
 |ok o s'=>
  have hlt:=fun c (ho:o=some c)=>vX (t:=t) (low:=(b.toNat:Int)) (s:=s.up) (s':=s') (c:=c) (by rw[hE,ho])
  rw[hE]at h h2
  obtain⟨⟨cs,m,hcs,he,hm⟩,hra⟩:=h
  cases o with
  |none=>exact absurd h2 id
  |some c=>
   obtain⟨e',he',h3⟩:=h2
   refine⟨false,s',cs,m,hcs,he,hra,(fun h=>by cases h),fun _=>⟨c,hm.1,hlt c rfl,by have:=zt hE (by omega);omega,by rw[hT,show au t b s.up=_ from h3,<-he'];rfl⟩⟩
theorem qU {w:World} {p r base:Nat} {s0:RS} {hv:Int} {n:Nat} (h:RA w p r base t s0 false hv n) (ht:t.size<=60):
  Calls Tryz.prog 246 #[.pointer (some ⟨p,0,none⟩)] w fun e w'=>Fr w w' r base/\∃cs:List Bool,cs.length=129/\e= .returned (.agg (sB cs).toArray)/\vz w' p r base t s0 hv n cs (aI t s0):=by
 have H:=aa h
 have hbw:=h.bw
 clear h
 go_enter Tryz.func246,Tryz.ntmps246
 go_upto_region 1 with fail
 generalize hw2:World.alloc _ _=w2
 have hx2:Ex [] w w2:=by rw[<-hw2];exact (Ex.refl _ _).alloc _
 have hr2:SB w2 w.heap.size noB:=by rw[<-hw2];exact⟨BK.new _ _,rfl⟩
 have Hw2:=aa (H.O.ex hx2)
 have HRw2:=aa hr2
 have Fw2:=aa (Fr.ex (r:=r) hx2 hbw)
 have KE:=aa (tz (-1) Hw2.O ht)
 clear hw2 hx2 hr2 H
 go_wp2_with fail
 refine KE.O.mono ?_
 rintro e w3 ⟨hf3,hp3⟩
 obtain⟨bd,sx,cs,m,hcs,rfl,hra3,hbad,hgood⟩:=sF t s0 w3 p r base hv n e hp3
 have Fw3:=aa (Fw2.O.trans hf3)
 have HRw3:=aa (hf3.ks _ _ HRw2.O)
 have hz3:w.heap.size<w3.heap.size:=HRw3.O.1.lt
 have HBAD:=aa hbad
 have HGOOD:=aa hgood
 clear KE hf3 hp3 hbad hgood
 obtain⟨w5,hw7⟩:=exq ((w3.alloc (Obj.cells (sB noB).toArray 213)).setRow w3.heap.size (sB cs).toArray)
 obtain⟨a1,a2,a3,a4,a5⟩:=eG Fw3.O hra3 hcs hw7 hbw
 have Hw5:=aa a1
 have Fw5:=aa a2
 have HSw5:=aa a3
 have HN5:=aa a4
 have HRw5:=aa (a5 _ _ HRw3.O)
 have HW7:=aa hw7
 obtain⟨V,hV⟩:=exq (sB cs)
 have HIV:Hid ((Tryz.prog.info? 213).map (·.size)=some V.length):=by rw[hV];exact aC hcs
 have HJV:Hid ((Tryz.prog.info? 213).map (·.size)=some V.toArray.size):=by rw[hV];exact az hcs
 have HAV:Hid (V.toArray.all (·.oneCell')=true):=by rw[hV];exact am (ax _)
 have HOV:Hid ((sB noB).toArray.size=V.toArray.size):=by show _=_;rw[List.size_toArray,List.size_toArray,hV,ah,ah,hcs];rfl
 have HVV:=aa hV
 rw[<-hV]at HW7 ⊢
 clear hw7 a1 a2 a3 a4 a5 hV
 go_upto_region 2 with (refine wpList_store_row rfl 213 _ _ rfl (w3.heap.size) V.toArray rfl rfl 213 _ HN5.O HJV.O HOV.O HAV.O ?_)
 rw[show (w3.alloc (Obj.cells Tryz.zeroCells213 213)).setRow w3.heap.size V.toArray=w5 from HW7.O.symm]
 clear HW7 HN5
 have hltw5:=HSw5.O.1.lt
 clear hra3
 have HRG5:Hid (World.rangeAt w5 w3.heap.size 0 V):=by rw[HVV.O];exact HSw5.O.1.rangeL
 obtain⟨c0,c1,c2,f1,f2,hl⟩:=Hw5.O.facts
 cases bd with
 |true=>
  have HM:=aa (HBAD.O rfl)
  clear HBAD HGOOD
  have hfin:=be (cs:=cs) Fw5.O HRw5.O Hw5.O (Nat.le_refl _) hbw hcs
  have hl9:=(Fr.setRow (base:=base) (cs:=cs) HRw5.O hcs hbw).2.2.load
  rw[<-HVV.O]at hfin hl9
  have HFIN:=aa hfin
  have HL9:=aa hl9
  clear hfin hl9
  go_wp2_with (first|refine wpList_load_mid rfl 213 _ rfl (w3.heap.size) 0 rfl V _ HRG5.O Tryz.underlying213 rfl HIV.O ?_|refine wpList_store_row rfl 213 _ _ rfl (w.heap.size) V.toArray rfl rfl 213 _ HRw5.O.1 HJV.O HOV.O HAV.O ?_)
  refine bodyPost_ret (aq rfl rfl HL9.O) rfl ⟨HFIN.O.1,cs,hcs,by rw[HVV.O],?_⟩
  rw[show aI t s0=_ from HM.O]
  exact HFIN.O.2
 |false=>
  rcases HGOOD.O rfl with⟨rfl,hc⟩|⟨b,hm,hb128,htl,hone⟩
  ·have HM:=aa hc
   clear HBAD HGOOD hc
   obtain⟨cc,hcc,hagc⟩:=HM.O
   have HAGC:=aa hagc
   clear hagc
   have hfin:=be (cs:=cs) Fw5.O HRw5.O Hw5.O (Nat.le_refl _) hbw hcs
   have hl9:=(Fr.setRow (base:=base) (cs:=cs) HRw5.O hcs hbw).2.2.load
   rw[<-HVV.O]at hfin hl9
   have HFIN:=aa hfin
   have HL9:=aa hl9
   clear hfin hl9
   go_wp2_with (first|refine wpList_load_mid rfl 213 _ rfl (w3.heap.size) 0 rfl V _ HRG5.O Tryz.underlying213 rfl HIV.O ?_|refine wpList_store_row rfl 213 _ _ rfl (w.heap.size) V.toArray rfl rfl 213 _ HRw5.O.1 HJV.O HOV.O HAV.O ?_)
   refine bodyPost_ret (aq rfl rfl HL9.O) rfl ⟨HFIN.O.1,cs,hcs,by rw[HVV.O],?_⟩
   rw[show aI t s0=_ from hcc]
   exact⟨HAGC.O,HFIN.O.2⟩
  ·have HTL:=aa htl
   have HONE:=aa hone
   clear hone
   obtain⟨B,hB⟩:=exq (b.toNat)
   have HB:=aa hB
   rw[<-hB]at hm hb128
   subst hm
   have hBn:¬(B:Int)<0:=by omega
   clear HBAD HGOOD htl hB
   obtain⟨c,hc⟩:=exq (aj t sx.k)
   have KN:=aa (bG Hw5.O)
   rw[<-hc]at KN
   have s45:ac t sx 45=decide (c=45):=by rw[hc];exact bU (by decide)
   have HS45:=aa s45
   clear hc s45
   go_wp2_with fail
   refine KN.O.mono ?_
   rintro e w6 ⟨rfl,ra6,fr6,hx6⟩
   have Hw6:=aa ra6
   have Fw6:=aa (Fw5.O.trans fr6)
   have HRw6:=aa (fr6.ks _ _ HRw5.O)
   have HSw6:=aa (fr6.ks _ _ HSw5.O)
   have hlt6:=HSw6.O.1.lt
   have HRG6:Hid (World.rangeAt w6 w3.heap.size 0 V):=by rw[HVV.O];exact HSw6.O.1.rangeL
   clear ra6 fr6 hx6 KN c0 c1 c2 f1 f2 hl HRG5
   by_cases h45:c=45
   rotate_left
   ·have q45:((c:Int) !=45)=true:=by rw[bne_iff_ne];omega
    have HM:Hid (aI t s0= .ok (cv b.toNat) sx):=by
     show _=_
     rw[HTL.O]
     unfold bg
     rw[if_neg]
     rw[HS45.O]
     simpa using h45
    clear h45 HTL
    have hfin:=be (cs:=cs) Fw6.O HRw6.O Hw6.O (Nat.le_refl _) hbw hcs
    have hl9:=(Fr.setRow (base:=base) (cs:=cs) HRw6.O hcs hbw).2.2.load
    rw[<-HVV.O]at hfin hl9
    have HFIN:=aa hfin
    have HL9:=aa hl9
    clear hfin hl9
    go_wp2_with (first|refine wpList_load_mid rfl 213 _ rfl (w3.heap.size) 0 rfl V _ HRG6.O Tryz.underlying213 rfl HIV.O ?_|refine wpList_store_row rfl 213 _ _ rfl (w.heap.size) V.toArray rfl rfl 213 _ HRw6.O.1 HJV.O HOV.O HAV.O ?_)
    refine bodyPost_ret (aq rfl rfl HL9.O) rfl ⟨HFIN.O.1,cs,hcs,by rw[HVV.O],?_⟩
    rw[show aI t s0=_ from HM.O]
    exact⟨(HONE.O.ag (by rw[<-HB.O];exact hb128)).toF _,HFIN.O.2⟩
   ·have q45:((c:Int) !=45)=false:=by rw[h45];rfl
    have HSE:Hid (ac t sx 45=true):=by show _=_;rw[HS45.O];exact decide_eq_true h45
    have hskl:=aS HSE.O
    clear h45
    obtain⟨c0,c1,c2,f1,f2,hl⟩:=Hw6.O.facts
    go_upto_region 5 with fail
    generalize hw9:World.setCell _ _ _=w7
    have hup:=Hw6.O.up2 w7 hw9 (by first|rfl|simp)
    have Hw7:=aa hup.1
    have Fw7:=aa (Fw6.O.trans hup.2)
    have HRw7:=aa (hup.2.ks _ _ HRw6.O)
    have HSw7:=aa (hup.2.ks _ _ HSw6.O)
    clear hw9 hup c0 c1 c2 f1 f2 hl HRG6
    have KE:=aa (tz (B:Int) Hw7.O ht)
    go_wp2_with fail
    refine KE.O.mono ?_
    rintro e w8 ⟨hf8,hp8⟩
    rw[show (B:Int)=(b.toNat:Int) by rw[HB.O]]at hp8
    obtain⟨bd,sy,ds,m2,hds,rfl,hra8,hbad,hgood⟩:=qV t sx b w8 p r base hv n e HSE.O hp8
    have Fw8:=aa (Fw7.O.trans hf8)
    have HRw8:=aa (hf8.ks _ _ HRw7.O)
    have HSw8:=aa (hf8.ks _ _ HSw7.O)
    have hz8:w3.heap.size<w8.heap.size:=HSw8.O.1.lt
    have HBAD:=aa hbad
    have HGOOD:=aa hgood
    clear KE hf8 hp8 hbad hgood
    obtain⟨w9,hw7⟩:=exq ((w8.alloc (Obj.cells (sB noB).toArray 213)).setRow w8.heap.size (sB ds).toArray)
    obtain⟨a1,a2,a3,a4,a5⟩:=eG Fw8.O hra8 hds hw7 hbw
    have Hw9:=aa a1
    have Fw9:=aa a2
    have HSw9:=aa a3
    have HN5:=aa a4
    have HRw9:=aa (a5 _ _ HRw8.O)
    have HTw9:=aa (a5 _ _ HSw8.O)
    have HW7:=aa hw7
    obtain⟨U,hU⟩:=exq (sB ds)
    have HIU:Hid ((Tryz.prog.info? 213).map (·.size)=some U.length):=by rw[hU];exact aC hds
    have HJU:Hid ((Tryz.prog.info? 213).map (·.size)=some U.toArray.size):=by rw[hU];exact az hds
    have HAU:Hid (U.toArray.all (·.oneCell')=true):=by rw[hU];exact am (ax _)
    have HOU:Hid ((sB noB).toArray.size=U.toArray.size):=by show _=_;rw[List.size_toArray,List.size_toArray,hU,ah,ah,hds];rfl
    have HVU:=aa hU
    rw[<-hU]at HW7 ⊢
    clear hw7 a1 a2 a3 a4 a5 hU
    go_upto_region 7 with (refine wpList_store_row rfl 213 _ _ rfl (w8.heap.size) U.toArray rfl rfl 213 _ HN5.O HJU.O HOU.O HAU.O ?_)
    rw[show (w8.alloc (Obj.cells Tryz.zeroCells213 213)).setRow w8.heap.size U.toArray=w9 from HW7.O.symm]
    clear HW7 HN5
    have hltw9:=HSw9.O.1.lt
    clear hra8
    go_loopg [7] 129 (fun gk v wr=>∃(j:Nat) (cs':List Bool),v= .int .i64 (j:Int)/\j+gk=B+129/\cs'.length=129/\SB wr w3.heap.size cs'/\SB wr w.heap.size noB/\RA wr p r base t sy bd hv n/\Fr w wr r base/\B<=j/\(bd=false ->(j:Int)<=m2+1)/\∀i,i<=128 ->hB cs' i=(decide (i=B)||decide (B<=i/\i<j)))
    case atStart=>exact⟨B,cs,rfl,rfl,hcs,HTw9.O,HRw9.O,Hw9.O,Fw9.O,Nat.le_refl _,fun h=>(by obtain⟨e',h1,h2,h3,_⟩:=HGOOD.O h;rw[<-HB.O]at h3;omega),fun i hi=>(by rw[(show ∀j,j<=128 ->hB cs j=decide (j=B) by have h9:=HONE.O;rw[<-HB.O]at h9;exact h9) i hi,decide_eq_false (show ¬(B<=i/\i<B) by omega),Bool.or_false])⟩
    case round=>
     obtain⟨j,cs',rfl,hjg,hcs',hsb,hrb,hra,hfr,hBj,hjm2,hct⟩:=hrel
     have HCT:=aa hct
     have HJM:=aa hjm2
     clear hct hjm2
     have HSr:=aa hsb
     have HRwr:=aa hrb
     have Hwr:=aa hra
     have Fwr:=aa hfr
     have hltr:=hsb.1.lt
     have hltr2:=hrb.1.lt
     have hfz:=hsb.1.all.2
     obtain⟨c0,c1,c2,f1,f2,hl⟩:=Hwr.O.facts
     clear hsb hrb hra hfr
     by_cases hgo:(j:Int)<=m2/\bd=false
     ·obtain⟨hjm,rfl⟩:=hgo
      obtain⟨e9,he9,he128,_,_⟩:=HGOOD.O rfl
      have hm128:m2<128:=by omega
      clear he9 he128
      have HCT2:=aa (sU hcs' HCT.O hBj (by omega))
      have hj128:(j:Int)<128:=by omega
      obtain⟨x,hx1,hcx⟩:=HSr.O.cell j (by omega)
      obtain⟨w10,hw10⟩:∃w10,wr.setCell ⟨w3.heap.size,j,none⟩ (.bool true)=w10:=⟨_,rfl⟩
      obtain⟨a1,a2,a3,a4⟩:=vj Fwr.O HSr.O Hwr.O (by omega) hbw hw10
      have HREL:=aa (And.intro a1 (And.intro a2 (And.intro a3 (a4 _ _ (by omega) HRwr.O))))
      have HW10:=aa hw10
      clear hx1 a1 a2 a3 a4 hw10
      obtain⟨gk,rfl⟩:∃x,gk=x+1:=⟨gk-1,by omega⟩
      go_wp2_with fail
      rw[show wr.setCell ⟨w3.heap.size,j,none⟩ (.bool true)=w10 from HW10.O]
      go_roundg gk
      case measure=>omega
      case rel=>exact⟨j+1,_,by simp,by omega,by rw[List.length_set];exact hcs',HREL.O.2.2.1,HREL.O.2.2.2,HREL.O.1,HREL.O.2.1,by omega,fun _=>by omega,HCT2.O⟩
     ·have hM:(bd=true ->aI t s0= .bad sy)/\(bd=false ->∃e':Nat,m2=(e':Int)/\e'<128/\B<=e'/\aI t s0= .ok (ce B e') sy):=⟨fun h=>by rw[HTL.O];exact HBAD.O h,fun h=>by
       obtain⟨e',h1,h2,h3,h4⟩:=HGOOD.O h
       rw[<-HB.O]at h3 h4
       exact⟨e',h1,h2,h3,by rw[HTL.O];exact h4⟩⟩
      have HM:=aa hM
      clear hM HBAD HGOOD HTL
      obtain⟨hrg⟩:Nonempty (World.rangeAt wr w3.heap.size 0 (sB cs')):=⟨HSr.O.1.rangeL⟩
      have HRGr:=aa hrg
      clear hrg
      have hcsx:(¬(j:Int)<=m2)\/((j:Int)<=m2/\bd=true):=by
       by_cases h1:(j:Int)<=m2
       ·cases bd
        ·exact absurd ⟨h1,rfl⟩ hgo
        ·exact .inr ⟨h1,rfl⟩
       ·exact .inl h1
      clear hgo
      obtain⟨T,hT⟩:=exq (sB cs')
      have HIT:Hid ((Tryz.prog.info? 213).map (·.size)=some T.length):=by rw[hT];exact aC hcs'
      have HJT:Hid ((Tryz.prog.info? 213).map (·.size)=some T.toArray.size):=by rw[hT];exact az hcs'
      have HAT:Hid (T.toArray.all (·.oneCell')=true):=by rw[hT];exact am (ax _)
      have HOT:Hid ((sB noB).toArray.size=T.toArray.size):=by show _=_;rw[List.size_toArray,List.size_toArray,hT,ah,ah,hcs'];rfl
      have HVT:=aa hT
      rw[<-hT]at HRGr
      clear hT
      rcases hcsx with hj|⟨hj,rfl⟩
      ·cases bd with
       |true=>
        have HMM:=aa (HM.O.1 rfl)
        have hfin:=be (cs:=cs') Fwr.O HRwr.O Hwr.O (Nat.le_refl _) hbw hcs'
        have hl9:=(Fr.setRow (base:=base) (cs:=cs') HRwr.O hcs' hbw).2.2.load
        rw[<-HVT.O]at hfin hl9
        have HFIN:=aa hfin
        have HL9:=aa hl9
        clear hfin hl9
        go_wp2_with (first|refine wpList_load_mid rfl 213 _ rfl (w3.heap.size) 0 rfl T _ HRGr.O Tryz.underlying213 rfl HIT.O ?_|refine wpList_store_row rfl 213 _ _ rfl (w.heap.size) T.toArray rfl rfl 213 _ HRwr.O.1 HJT.O HOT.O HAT.O ?_)
        refine bodyPost_ret (aq rfl rfl HL9.O) rfl ⟨HFIN.O.1,cs',hcs',by rw[HVT.O],?_⟩
        rw[show aI t s0=_ from HMM.O]
        exact HFIN.O.2
       |false=>
        obtain⟨cc,hcc1,hcc2,hcc3,hcc⟩:=HM.O.2 rfl
        have HMM:=aa hcc
        have HAR:=aa (xt HCT.O (m:=cc) (by have:=HJM.O rfl;omega) hcc2 hcc3)
        clear hcc hcc1 hcc2 hcc3
        have hfin:=be (cs:=cs') Fwr.O HRwr.O Hwr.O (Nat.le_refl _) hbw hcs'
        have hl9:=(Fr.setRow (base:=base) (cs:=cs') HRwr.O hcs' hbw).2.2.load
        rw[<-HVT.O]at hfin hl9
        have HFIN:=aa hfin
        have HL9:=aa hl9
        clear hfin hl9
        go_wp2_with (first|refine wpList_load_mid rfl 213 _ rfl (w3.heap.size) 0 rfl T _ HRGr.O Tryz.underlying213 rfl HIT.O ?_|refine wpList_store_row rfl 213 _ _ rfl (w.heap.size) T.toArray rfl rfl 213 _ HRwr.O.1 HJT.O HOT.O HAT.O ?_)
        refine bodyPost_ret (aq rfl rfl HL9.O) rfl ⟨HFIN.O.1,cs',hcs',by rw[HVT.O],?_⟩
        rw[show aI t s0=_ from HMM.O]
        exact⟨HAR.O.toF _,HFIN.O.2⟩
      ·have HMM:=aa (HM.O.1 rfl)
       have hfin:=be (cs:=cs') Fwr.O HRwr.O Hwr.O (Nat.le_refl _) hbw hcs'
       have hl9:=(Fr.setRow (base:=base) (cs:=cs') HRwr.O hcs' hbw).2.2.load
       rw[<-HVT.O]at hfin hl9
       have HFIN:=aa hfin
       have HL9:=aa hl9
       clear hfin hl9
       go_wp2_with (first|refine wpList_load_mid rfl 213 _ rfl (w3.heap.size) 0 rfl T _ HRGr.O Tryz.underlying213 rfl HIT.O ?_|refine wpList_store_row rfl 213 _ _ rfl (w.heap.size) T.toArray rfl rfl 213 _ HRwr.O.1 HJT.O HOT.O HAT.O ?_)
       refine bodyPost_ret (aq rfl rfl HL9.O) rfl ⟨HFIN.O.1,cs',hcs',by rw[HVT.O],?_⟩
       rw[show aI t s0=_ from HMM.O]
       exact HFIN.O.2
end Go.Proofs.YtfnanjbleifjkaaGreatDoor.G
