import Derived.Test.YtfnanjbleifjkaaGreatDoorM43
set_option linter.unusedVariables false
set_option linter.unusedSimpArgs false
set_option maxHeartbeats 8000000
set_option maxRecDepth 100000
namespace Go.Proofs.YtfnanjbleifjkaaGreatDoor.G
variable {t:ByteArray} {s s':RS} {c:Cls} {b:UInt8}
open Go.RowKit
theorem tM (h:aI t s= .ok c s'):s.k<s'.k:=by
 unfold aI at h
 split at h
 ·next hs=>
  obtain⟨x,s1,h1,h⟩:=bind_ok h
  have m1:=gZ h1
  have m0:=(cV (aS hs)).2
  have l1:=m1.2
  have hk:s.up.k=s.k+1:=rfl
  split at h
  ·have:=(fs h).le;omega
  ·cases h;omega
 ·obtain⟨x,s1,h1,h⟩:=bind_ok h
  have m1:=(fN h1).2
  have:=(fs h).le
  omega
theorem tT {but:List UInt8} (h:aO t but s= .ok b s'):s'.f=s.f:=by
 unfold aO at h
 split at h
 ·cases h
 ·split at h
  ·cases h
  ·cases h;rfl
theorem wd {x:Cls×UInt8×Bool} (h:an t s= .ok x s'):s'.f=s.f:=by
 unfold an at h
 split at h
 ·cases h
 ·split at h
  ·cases h;rfl
  ·split at h
   ·cases h
   ·cases h;rfl
theorem va {a:UInt8} (h:au t a s= .ok b s'):s'.f=s.f:=by
 unfold au at h
 dsimp only at h
 have key:∀(s1:RS) (esc:Bool),s1.f=s.f ->(match ai t s1.k with
   |none=>Res.bad s1
   |some b=>if b.toNat<a.toNat then .bad s1 else if esc then (if b∈eh then .ok b s1.up else .bad s1)else aO t dY s1)= .ok b s' ->s'.f=s.f:=fun s1 esc hf h=>by
  split at h
  ·cases h
  ·split at h
   ·cases h
   ·split at h
    ·split at h
     ·cases h;exact hf
     ·cases h
    ·exact (tT h).trans hf
 exact key _ _ (by split<;>rfl) h
theorem l8 (h:bg t b s= .ok c s'):s'.f=s.f:=by
 unfold bg at h
 split at h
 ·obtain⟨x,s1,h1,h⟩:=bind_ok h
  injection h with h2 h3
  rw[<-h3]
  have h4:=va h1
  exact h4
 ·injection h with h2 h3
  rw[<-h3]
theorem wR (h:aI t s= .ok c s'):s'.f=s.f:=by
 unfold aI at h
 split at h
 ·obtain⟨x,s1,h1,h⟩:=bind_ok h
  have e1:=wd h1
  split at h
  ·exact (l8 h).trans e1
  ·injection h with h2 h3
   rw[<-h3]
   exact e1
 ·obtain⟨x,s1,h1,h⟩:=bind_ok h
  exact (l8 h).trans (tT h1)
theorem wD (as' bs:List Bool) (ha:as'.length=129) (hb:bs.length=129) (r:Nat) (hr:r<=128):hB (List.zipWith (·|| ·) as' bs) r=(hB as' r||hB bs r):=by
 unfold hB
 rw[List.getD_eq_getElem?_getD,List.getD_eq_getElem?_getD,List.getD_eq_getElem?_getD,List.getElem?_zipWith,List.getElem?_eq_getElem (show r<as'.length by omega),List.getElem?_eq_getElem (show r<bs.length by omega)]
 rfl
theorem uE {cs ds:List Bool} {f:Bool} (h0:cs=noB) (hd:ds.length=129) (h:AgF f ds c):AgF f (List.zipWith (·|| ·) cs ds) c:=⟨h.1,fun r hr=>by
 rw[<-h.2 r hr]
 exact jl (fun j hj=>by rw[wD _ _ (by rw[h0];rfl) hd j hj,h0,sM,Bool.false_or]) r hr⟩
theorem uF {cs ds:List Bool} {d:Cls} {f:Bool} (hc:cs.length=129) (hd:ds.length=129) (h:AgF f cs c) (k:AgF f ds d):AgF f (List.zipWith (·|| ·) cs ds) (bQ c d):=h.union k (fun r hr=>wD _ _ hc hd r hr)
def dM (t:ByteArray) (s:RS):Res Cls:=(aI t s).bind fun c s3=>bW t (t.size+1) c s3
theorem vi (h:ac t s 91=true):fj t s=(dM t (s.up.took t 94)).bind fun c s4=> .ok (if ac t s.up 94 then bI (sing s4.f c)else sing s4.f c) s4:=by
 unfold fj dM
 unfold aw
 rw[if_pos h,Res.bind_ok]
 cases aI t (s.up.took t 94)with
 |bad s'=>rfl
 |ok c s'=>rfl
def x9 (w w':World) (p r base:Nat) (t:ByteArray) (s:RS) (n:Nat) (R:Res Cls) (e:Ending):Prop:=Fr w w' r base/\e= .returned (.int .i64 (n:Int))/\∃(bd:Bool) (s':RS),(bd=true ->R= .bad s')/\(bd=false ->∃c,R= .ok c s'/\XT w' r n (.set (if ac t s.up 94 then bI (sing s'.f c)else sing s'.f c)))/\RA w' p r base t s' bd 1 (n+1)
theorem ua {w:World} {p r base:Nat} {hv:Int} {n:Nat} (h:RA w p r base t s false hv n) (ht:t.size<=60) (hn:n<=90000) (hs91:ac t s 91=true):
  Calls Tryz.prog 219 #[.pointer (some ⟨p,0,none⟩)] w fun e w'=>x9 w w' p r base t s n (dM t (s.up.took t 94)) e:=by
 have H:=aa h
 have hbw:=h.bw
 have hkl:=aS hs91
 obtain⟨RI,hRI⟩:∃RI,dM t (s.up.took t 94)=RI:=⟨_,rfl⟩
 have HRI:=aa hRI
 rw[hRI]
 clear h hRI hs91
 obtain⟨k,d,f,g,nm⟩:=s
 dsimp only at hkl
 obtain⟨c0,c1,c2,f1,f2,hl⟩:=H.O.facts
 go_enter Tryz.func219,Tryz.ntmps219
 go_upto_region 2 with fail
 generalize hw9:World.setCell _ _ _=w1
 have hup:=H.O.up2 w1 hw9 (by simp)
 have H1:Hid (RA w1 p r base t ⟨k+1,d,f,g,nm⟩ false hv n):=hup.1
 have F1:=aa hup.2
 clear hw9 hup c0 c1 c2 f1 f2 hl
 obtain⟨c,hc⟩:=exq (aj t (k+1))
 have KN:=aa (bG H1.O)
 dsimp only at KN
 rw[<-hc]at KN
 have s94:ac t ⟨k+1,d,f,g,nm⟩ 94=decide (c=94):=by rw[hc];exact bU (by decide)
 have HS94:=aa s94
 clear hc s94
 go_wp2_with fail
 refine KN.O.mono ?_
 rintro e w2 ⟨rfl,ra2,fr2,_⟩
 have H2:=aa ra2
 have F2:=aa (F1.O.trans fr2)
 clear ra2 fr2 KN
 by_cases h94:c=94
 case' pos=>
  have q94:((c:Int)==94)=true:=by rw[h94];rfl
  obtain⟨k2,hk2⟩:=exq (k+2)
  have hRI2:dM t ⟨k2,d,f,g,nm⟩=RI:=by
   rw[<-HRI.O,hk2]
   show _=dM t (RS.took ⟨k+1,d,f,g,nm⟩ t 94)
   unfold RS.took
   rw[if_pos (by rw[HS94.O];exact decide_eq_true h94)]
   rfl
  have hk2t:k2<=t.size:=by
   rw[hk2]
   exact aS (s:=⟨k+1,d,f,g,nm⟩) (by rw[HS94.O];exact decide_eq_true h94)
  have HNEG:Hid (ac t (RS.up ⟨k,d,f,g,nm⟩) 94=true):=by show ac t ⟨k+1,d,f,g,nm⟩ 94=true;rw[HS94.O];exact decide_eq_true h94
  clear h94
  obtain⟨c0,c1,c2,f1,f2,hl⟩:=H2.O.facts
  have c1:w2.cell? ⟨p,1,none⟩=some (.int .i64 ((k:Int)+1)):=by simpa using c1
  go_upto_region 5 with fail
  generalize hw9:World.setCell _ _ _=w3
  have hup:=H2.O.up2 w3 hw9 (by first|(simp;done)|(simp;omega))
  have H3:Hid (RA w3 p r base t ⟨k2,d,f,g,nm⟩ false hv n):=by rw[hk2];exact hup.1
  have F3:=aa (F2.O.trans hup.2)
  clear hw9 hup c0 c1 c2 f1 f2 hl hk2
  have HRI2:=aa hRI2
  clear hRI2 H1 F1 H2 F2 HS94 HRI
 case' neg=>
  have q94:((c:Int)==94)=false:=by rw[beq_eq_false_iff_ne];omega
  obtain⟨k2,hk2⟩:=exq (k+1)
  have hRI2:dM t ⟨k2,d,f,g,nm⟩=RI:=by
   rw[<-HRI.O,hk2]
   show _=dM t (RS.took ⟨k+1,d,f,g,nm⟩ t 94)
   unfold RS.took
   rw[if_neg (by rw[HS94.O];simpa using h94)]
  have hk2t:k2<=t.size:=by omega
  have HNEG:Hid (¬ac t (RS.up ⟨k,d,f,g,nm⟩) 94=true):=by show ¬ac t ⟨k+1,d,f,g,nm⟩ 94=true;rw[HS94.O];simpa using h94
  clear h94
  go_upto_region 5 with fail
  obtain⟨w3,hw3⟩:=exq (w2)
  subst hw3
  have H3:Hid (RA w3 p r base t ⟨k2,d,f,g,nm⟩ false hv n):=by rw[hk2];exact H2.O
  have F3:=F2
  clear hk2
  have HRI2:=aa hRI2
  clear hRI2 H1 F1 H2 F2 HS94 HRI
 all_goals
  go_upto_region 6 with fail
  generalize hw4:World.alloc _ _=w4
  have hx4:Ex [] w3 w4:=by rw[<-hw4];exact (Ex.refl _ _).alloc _
  obtain⟨B,hB⟩:=exq (w3.heap.size)
  have hr4:SB w4 B noB:=by rw[<-hw4,hB];exact⟨BK.new _ _,rfl⟩
  have H4:=aa (H3.O.ex hx4)
  have HS4:=aa hr4
  have F4:=aa (F3.O.trans (Fr.ex (r:=r) hx4 (by have:=F3.O.eb.size;omega)))
  have hB0:w.heap.size<=B:=by rw[hB];exact F3.O.eb.size
  rw[<-hB]
  clear hw4 hx4 hr4 hB H3 F3
  go_wp2_with fail
  go_loopg [5] (t.size+2) (fun gk v5 wr=>∃(first bd:Bool) (s':RS) (cs':List Bool),v5= .bool first/\cs'.length=129/\SB wr B cs'/\RA wr p r base t s' bd hv n/\Fr w wr r base/\(bd=true ->RI= .bad s')/\(bd=false ->s'.k<=t.size/\t.size+1-s'.k+(if first then 1 else 0)<=gk/\(first=true ->dM t s'=RI/\cs'=noB)/\(first=false ->∃c m,bW t (m+1) c s'=RI/\t.size-s'.k<=m/\AgF f cs' c)/\s'.f=f))
  case atStart=>exact⟨true,false,⟨k2,d,f,g,nm⟩,noB,rfl,rfl,HS4.O,H4.O,F4.O,(fun h=>by cases h),fun _=>⟨hk2t,by show t.size+1-k2+1<=_;omega,fun _=>⟨HRI2.O,rfl⟩,(fun h=>by cases h),rfl⟩⟩
  case round=>
   clear HRI2 H4 HS4 F4
   obtain⟨first,bd,s',cs',rfl,hcs',hsb,hra,hfr,hbad,hgood⟩:=hrel
   have H2:=aa hra
   have F2:=aa hfr
   have HSr:=aa hsb
   have HBAD:=aa hbad
   have HGOOD:=aa hgood
   have hltr:=hsb.1.lt
   clear hra hfr hsb hbad hgood
   obtain⟨c0,c1,c2,f1,f2,hl⟩:=H2.O.facts
   have hcs:(bd=true)\/(bd=false/\first=true)\/(bd=false/\first=false):=by cases bd<;>cases first<;>simp
   rcases hcs with rfl|⟨rfl,rfl⟩|⟨rfl,rfl⟩
   ·-- it has failed
    have HX:Hid (∀{w5:World},((true=false/\ac t s' 93=true/\RA w5 p r base t s'.up false hv n)\/((true=true\/ac t s' 93=false)/\RA w5 p r base t s' true hv n)) ->∃(bd:Bool) (s5:RS),RA w5 p r base t s5 bd hv n/\(bd=true ->RI= .bad s5)/\(bd=false ->∃c,RI= .ok c s5/\AgF f cs' c/\s5.f=f)):=by
     intro w5 hE
     rcases hE with⟨h,_⟩|⟨_,ra⟩
     ·cases h
     ·exact⟨true,s',ra,fun _=>HBAD.O rfl,fun h=>by cases h⟩
    clear HBAD HGOOD
    have KE:=aa (cN 93 H2.O ht)
    go_wp2_with fail
    refine KE.O.mono ?_
    rintro e w5 ⟨rfl,fr5,hE5⟩
    have F5:=aa (F2.O.trans fr5)
    have HS5:=aa (fr5.ks _ _ HSr.O)
    have hst:∃(bd:Bool) (s5:RS),RA w5 p r base t s5 bd hv n/\(bd=true ->RI= .bad s5)/\(bd=false ->∃c,RI= .ok c s5/\AgF f cs' c/\s5.f=f):=HX.O hE5
    obtain⟨bd5,s5,ra5,hbad5,hgood5⟩:=hst
    have H5:=aa ra5
    have HBAD5:=aa hbad5
    have HGOOD5:=aa hgood5
    clear KE hE5 fr5 ra5 hbad5 hgood5 HX
    obtain⟨m3,m5,m6,g5,g6,mr,gr,hrl⟩:=H5.O.more
    have hl:=H5.O.rk.lt
    go_upto_region 13 with fail
    generalize hw9:World.setCell _ _ _=w6
    have hup:=H5.O.hvs w6 hw9
    have H6:=aa hup.1
    have F6:=aa (F5.O.trans hup.2)
    have HS6:=aa (hup.2.ks _ _ HS5.O)
    have hlt6:=HS6.O.1.lt
    clear hw9 hup m3 m5 m6 g5 g6 mr gr hrl hl
    obtain⟨V,hV⟩:=exq (sB cs')
    have HIV:Hid ((Tryz.prog.info? 213).map (·.size)=some V.length):=by rw[hV];exact aC hcs'
    have HJV:Hid ((Tryz.prog.info? 213).map (·.size)=some V.toArray.size):=by rw[hV];exact az hcs'
    have HAV:Hid (V.toArray.all (·.oneCell')=true):=by rw[hV];exact am (ax _)
    have HOV:Hid ((sB noB).toArray.size=V.toArray.size):=by show _=_;rw[List.size_toArray,List.size_toArray,hV,ah,ah,hcs'];rfl
    have HVV:=aa hV
    have HRG6:Hid (World.rangeAt w6 B 0 V):=by rw[hV];exact HS6.O.1.rangeL
    have KF:=aa (gm cs' hcs' H6.O.rk)
    rw[<-hV]at KF
    clear hV
    go_wp2_with (refine wpList_load_mid rfl 213 _ rfl (B) 0 rfl V _ HRG6.O Tryz.underlying213 rfl HIV.O ?_)
    refine KF.O.mono ?_
    rintro e w7 ⟨ds,hds,rfl,hx7,hfo7⟩
    have HFO:=aa hfo7
    clear hfo7
    have H7:=aa (H6.O.ex hx7)
    have F7:=aa (F6.O.trans (Fr.ex (r:=r) hx7 (by have:=F6.O.eb.size;omega)))
    have HS7:=aa (HS6.O.ex hx7 (by simp))
    clear hx7 KF
    obtain⟨U,hU⟩:=exq (sB ds)
    have HIU:Hid ((Tryz.prog.info? 213).map (·.size)=some U.length):=by rw[hU];exact aC hds
    have HJU:Hid ((Tryz.prog.info? 213).map (·.size)=some U.toArray.size):=by rw[hU];exact az hds
    have HAU:Hid (U.toArray.all (·.oneCell')=true):=by rw[hU];exact am (ax _)
    have HOU:Hid ((sB noB).toArray.size=U.toArray.size):=by show _=_;rw[List.size_toArray,List.size_toArray,hU,ah,ah,hds];rfl
    have HVU:=aa hU
    rw[<-hU]
    obtain⟨w8,hw8⟩:=exq (w7.setRow B U.toArray)
    have hst8:=dZ (w':=w8) F7.O HS7.O H7.O hB0 hbw hds (by rw[hw8,hU])
    have H8:=aa hst8.1
    have F8:=aa hst8.2.1
    have HS8:=aa hst8.2.2.1
    have hlt8:=HS8.O.1.lt
    have HW8:=aa hw8
    have HOLD:Hid ((sB cs').toArray.size=U.toArray.size):=by show _=_;rw[List.size_toArray,List.size_toArray,hU,ah,ah,hds,hcs']
    clear hw8 hst8
    clear hU
    first
     |skip
      go_upto_region 15 with (refine wpList_store_row rfl 213 _ _ rfl B U.toArray rfl rfl 213 _ HS7.O.1 HJU.O HOLD.O HAU.O ?_)
      rw[<-HW8.O]
      have HRG8:Hid (World.rangeAt w8 B 0 U):=by rw[HVU.O];exact HS8.O.1.rangeL
      have KI:=aa (fun W=>dC ds W hds)
      rw[<-show U=sB ds from HVU.O]at KI
      go_wp2_with (refine wpList_load_mid rfl 213 _ rfl (B) 0 rfl U _ HRG8.O Tryz.underlying213 rfl HIU.O ?_)
      refine (KI.O _).mono ?_
      rintro e w9 ⟨rfl,hx9⟩
      have H9:=aa (H8.O.ex hx9)
      have F9:=aa (F8.O.trans (Fr.ex (r:=r) hx9 (by have:=F8.O.eb.size;omega)))
      have HS9:=aa (HS8.O.ex hx9 (by simp))
      have hes:(ds.map (!·)).length=129:=by rw[List.length_map];exact hds
      obtain⟨es,hes0⟩:=exq (ds.map (!·))
      have HES0:=aa hes0
      rw[<-hes0]at hes ⊢
      clear hx9 KI hes0
      obtain⟨T,hT⟩:=exq (sB es)
      have HIT:Hid ((Tryz.prog.info? 213).map (·.size)=some T.length):=by rw[hT];exact aC hes
      have HJT:Hid ((Tryz.prog.info? 213).map (·.size)=some T.toArray.size):=by rw[hT];exact az hes
      have HAT:Hid (T.toArray.all (·.oneCell')=true):=by rw[hT];exact am (ax _)
      have HOT:Hid ((sB noB).toArray.size=T.toArray.size):=by show _=_;rw[List.size_toArray,List.size_toArray,hT,ah,ah,hes];rfl
      have HVT:=aa hT
      rw[<-hT]
      obtain⟨w10,hw10⟩:=exq (w9.setRow B T.toArray)
      have hst10:=dZ (w':=w10) F9.O HS9.O H9.O hB0 hbw hes (by rw[hw10,hT])
      have H10:=aa hst10.1
      have F10:=aa hst10.2.1
      have HS10:=aa hst10.2.2.1
      have hlt10:=HS10.O.1.lt
      have HW10:=aa hw10
      have HOLD2:Hid ((sB ds).toArray.size=T.toArray.size):=by show _=_;rw[List.size_toArray,List.size_toArray,hT,ah,ah,hds,hes]
      clear hw10 hst10 hT
      obtain⟨X,hX⟩:=exq (bc 2 0 0 0 false es)
      have HBU:Hid (Tryz.prog.built 215 [(0,.int .i64 2),(5,.agg T.toArray)]=some X.toArray):=by rw[hX,HVT.O];exact dS es hes
      have KND:=aa (bT 2 0 0 0 false es hes H10.O (by omega))
      rw[<-hX]at KND
      have HXX:=aa hX
      have HRG8:Hid (World.rangeAt w10 B 0 T):=by rw[HVT.O];exact HS10.O.1.rangeL
      clear hX
      go_upto_region 16 with (refine wpList_store_row rfl 213 _ _ rfl B T.toArray rfl rfl 213 _ HS9.O.1 HJT.O HOLD2.O HAT.O ?_)
      rw[<-HW10.O]
      go_wp2_with (first|refine wpList_load_mid rfl 213 _ rfl (B) 0 rfl T _ HRG8.O Tryz.underlying213 rfl HIT.O ?_|(refine wpList_buildTo rfl 215 _ rfl _ rfl X.toArray (by simp only[List.map_toArray,List.map_cons,List.map_nil,Act.eval,List.getElem?_toArray,Array.getD_eq_getD_getElem?,List.getElem?_cons_succ,List.getElem?_cons_zero,Option.getD_some];exact HBU.O) ?_))
      refine KND.O.mono ?_
      rintro e wz ⟨rfl,hz,frz,erz⟩
      have HER:=aa erz
      clear erz
      have HZ:=aa hz
      have FZ:=aa (F10.O.trans frz)
      clear hz frz
      go_wp2_with fail
      go_ret
      exact⟨FZ.O,rfl,bd5,s5,HBAD5.O,(fun h=>by obtain⟨c9,k1,k2,k3⟩:=HGOOD5.O h;rw[<-k3]at k2;refine⟨c9,k1,?_⟩;rw[if_pos HNEG.O];exact XT.set (by have h9:=HER.O;rw[HXX.O]at h9;exact h9) hes ((k2.toC HFO.O).inv (fun r hr=>by rw[HES0.O];exact jS ds hds r hr))),HZ.O⟩
     |skip
      obtain⟨X,hX⟩:=exq (bc 2 0 0 0 false ds)
      have HBU:Hid (Tryz.prog.built 215 [(0,.int .i64 2),(5,.agg U.toArray)]=some X.toArray):=by rw[hX,HVU.O];exact dS ds hds
      have KND:=aa (bT 2 0 0 0 false ds hds H8.O (by omega))
      rw[<-hX]at KND
      have HXX:=aa hX
      have HRG8:Hid (World.rangeAt w8 B 0 U):=by rw[HVU.O];exact HS8.O.1.rangeL
      clear hX
      go_upto_region 16 with (refine wpList_store_row rfl 213 _ _ rfl B U.toArray rfl rfl 213 _ HS7.O.1 HJU.O HOLD.O HAU.O ?_)
      rw[<-HW8.O]
      go_wp2_with (first|refine wpList_load_mid rfl 213 _ rfl (B) 0 rfl U _ HRG8.O Tryz.underlying213 rfl HIU.O ?_|(refine wpList_buildTo rfl 215 _ rfl _ rfl X.toArray (by simp only[List.map_toArray,List.map_cons,List.map_nil,Act.eval,List.getElem?_toArray,Array.getD_eq_getD_getElem?,List.getElem?_cons_succ,List.getElem?_cons_zero,Option.getD_some];exact HBU.O) ?_))
      refine KND.O.mono ?_
      rintro e wz ⟨rfl,hz,frz,erz⟩
      have HER:=aa erz
      clear erz
      have HZ:=aa hz
      have FZ:=aa (F8.O.trans frz)
      clear hz frz
      go_wp2_with fail
      go_ret
      exact⟨FZ.O,rfl,bd5,s5,HBAD5.O,(fun h=>by obtain⟨c9,k1,k2,k3⟩:=HGOOD5.O h;rw[<-k3]at k2;refine⟨c9,k1,?_⟩;rw[if_neg HNEG.O];exact XT.set (by have h9:=HER.O;rw[HXX.O]at h9;exact h9) hds (k2.toC HFO.O)),HZ.O⟩
   ·-- the first item
    obtain⟨g1,g2,g3,_,hff⟩:=HGOOD.O rfl
    have HG3:=aa (g3 rfl).1
    have HNB:=aa (g3 rfl).2
    have HFF:=aa hff
    clear hff
    have KI:=aa (qU H2.O ht)
    simp only[if_true]at g2
    clear g3 HBAD HGOOD
    go_wp2_with fail
    refine KI.O.mono ?_
    rintro e w5 ⟨hf5,ds,hds,rfl,hp5⟩
    have F5:=aa (F2.O.trans hf5)
    have HS5:=aa (hf5.ks _ _ HSr.O)
    have hst:∃(bd:Bool) (s5:RS),RA w5 p r base t s5 bd hv n/\(bd=true ->RI= .bad s5)/\(bd=false ->s5.k<=t.size/\s'.k<s5.k/\∃c m,bW t (m+1) c s5=RI/\t.size-s5.k<=m/\AgF f (List.zipWith (·|| ·) cs' ds) c/\s5.f=f):=by
     cases hI:aI t s' with
     |bad s5=>
      rw[hI]at hp5
      refine⟨true,s5,hp5,fun _=> ?_,fun h=>by cases h⟩
      rw[<-HG3.O];unfold dM;rw[hI];rfl
     |ok c2 s5=>
      rw[hI]at hp5
      have hl5:=tM hI
      have hz5:=(kV hI).sz g1
      have hf9:=hp5.1
      rw[HFF.O]at hf9
      refine⟨false,s5,hp5.2,(fun h=>by cases h),fun _=>⟨hz5,hl5,?_⟩⟩
      exact⟨c2,t.size,by rw[<-HG3.O];unfold dM;rw[hI];rfl,by omega,uE HNB.O hds hf9,(wR hI).trans HFF.O⟩
    obtain⟨bd5,s5,ra5,hbad5,hgood5⟩:=hst
    have HBAD5:=aa hbad5
    have HGOOD5:=aa hgood5
    clear KI hf5 hp5 hbad5 hgood5
    obtain⟨w6,hw7⟩:=exq ((w5.alloc (Obj.cells (sB noB).toArray 213)).setRow w5.heap.size (sB ds).toArray)
    obtain⟨a1,a2,a3,a4,a5⟩:=eG F5.O ra5 hds hw7 hbw
    have Hw6:=aa a1
    have Fw6:=aa a2
    have HSw6:=aa a3
    have HN5:=aa a4
    have HT6:=aa (a5 _ _ HS5.O)
    have HW7:=aa hw7
    obtain⟨V,hV⟩:=exq (sB ds)
    have HIV:Hid ((Tryz.prog.info? 213).map (·.size)=some V.length):=by rw[hV];exact aC hds
    have HJV:Hid ((Tryz.prog.info? 213).map (·.size)=some V.toArray.size):=by rw[hV];exact az hds
    have HAV:Hid (V.toArray.all (·.oneCell')=true):=by rw[hV];exact am (ax _)
    have HOV:Hid ((sB noB).toArray.size=V.toArray.size):=by show _=_;rw[List.size_toArray,List.size_toArray,hV,ah,ah,hds];rfl
    have HVV:=aa hV
    rw[<-hV]at HW7 ⊢
    clear hw7 a1 a2 a3 a4 a5 hV
    go_upto_region 10 with (refine wpList_store_row rfl 213 _ _ rfl (w5.heap.size) V.toArray rfl rfl 213 _ HN5.O HJV.O HOV.O HAV.O ?_)
    rw[show (w5.alloc (Obj.cells Tryz.zeroCells213 213)).setRow w5.heap.size V.toArray=w6 from HW7.O.symm]
    clear HW7 HN5
    have hltw6:=HSw6.O.1.lt
    clear ra5
    obtain⟨U,hU⟩:=exq (sB cs')
    have HIU:Hid ((Tryz.prog.info? 213).map (·.size)=some U.length):=by rw[hU];exact aC hcs'
    have HJU:Hid ((Tryz.prog.info? 213).map (·.size)=some U.toArray.size):=by rw[hU];exact az hcs'
    have HAU:Hid (U.toArray.all (·.oneCell')=true):=by rw[hU];exact am (ax _)
    have HOU:Hid ((sB noB).toArray.size=U.toArray.size):=by show _=_;rw[List.size_toArray,List.size_toArray,hU,ah,ah,hcs'];rfl
    have HVU:=aa hU
    have HRG6:Hid (World.rangeAt w6 w5.heap.size 0 V):=by rw[HVV.O];exact HSw6.O.1.rangeL
    have HRG7:Hid (World.rangeAt w6 B 0 U):=by rw[hU];exact HT6.O.1.rangeL
    have KU:=aa (fun W=>oR cs' ds W hcs' hds)
    rw[<-hU,<-show V=sB ds from HVV.O]at KU
    have hltB:=HT6.O.1.lt
    clear hU
    go_wp2_with (first|refine wpList_load_mid rfl 213 _ rfl (B) 0 rfl U _ HRG7.O Tryz.underlying213 rfl HIU.O ?_|refine wpList_load_mid rfl 213 _ rfl (w5.heap.size) 0 rfl V _ HRG6.O Tryz.underlying213 rfl HIV.O ?_)
    refine (KU.O _).mono ?_
    rintro e w7 ⟨rfl,hx7⟩
    have H7:=aa (Hw6.O.ex hx7)
    have F7:=aa (Fw6.O.trans (Fr.ex (r:=r) hx7 (by have:=Fw6.O.eb.size;omega)))
    have HS7:=aa (HT6.O.ex hx7 (by simp))
    have hus:(List.zipWith (·|| ·) cs' ds).length=129:=by simp[hcs',hds]
    obtain⟨us,hus0⟩:=exq (List.zipWith (·|| ·) cs' ds)
    have HUS:=aa hus0
    rw[<-hus0]at hus ⊢
    clear hx7 KU hus0
    obtain⟨T,hT⟩:=exq (sB us)
    have HIT:Hid ((Tryz.prog.info? 213).map (·.size)=some T.length):=by rw[hT];exact aC hus
    have HJT:Hid ((Tryz.prog.info? 213).map (·.size)=some T.toArray.size):=by rw[hT];exact az hus
    have HAT:Hid (T.toArray.all (·.oneCell')=true):=by rw[hT];exact am (ax _)
    have HOT:Hid ((sB noB).toArray.size=T.toArray.size):=by show _=_;rw[List.size_toArray,List.size_toArray,hT,ah,ah,hus];rfl
    have HVT:=aa hT
    rw[<-hT]
    obtain⟨w8,hw8⟩:=exq (w7.setRow B T.toArray)
    have hst8:=dZ (w':=w8) F7.O HS7.O H7.O hB0 hbw hus (by rw[hw8,hT])
    have H8:=aa hst8.1
    have F8:=aa hst8.2.1
    have HS8:=aa hst8.2.2.1
    have HW8:=aa hw8
    have HOLD:Hid ((sB cs').toArray.size=T.toArray.size):=by show _=_;rw[List.size_toArray,List.size_toArray,hT,ah,ah,hus,hcs']
    have hlt7:=HS7.O.1.lt
    clear hw8 hst8 hT
    go_wp2_with (refine wpList_store_row rfl 213 _ _ rfl B T.toArray rfl rfl 213 _ HS7.O.1 HJT.O HOLD.O HAT.O ?_)
    rw[<-HW8.O]
    obtain⟨gk,rfl⟩:∃x,gk=x+1:=⟨gk-1,by omega⟩
    go_roundg gk
    case measure=>omega
    case rel=>
     refine⟨false,bd5,s5,us,rfl,hus,HS8.O,H8.O,F8.O,HBAD5.O,fun h=> ?_⟩
     obtain⟨e1,e2,c9,m9,e3,e4,e5,e6⟩:=HGOOD5.O h
     exact⟨e1,by simp only[Bool.false_eq_true,if_false];omega,(fun h=>by cases h),(fun _=>⟨c9,m9,e3,e4,by rw[HUS.O];exact e5⟩),e6⟩
   ·-- other items, or the end
    obtain⟨g1,g2,_,g4,hff⟩:=HGOOD.O rfl
    obtain⟨c',m,hm,hmf,hag⟩:=g4 rfl
    have HAG:=aa hag
    have HFF:=aa hff
    clear hag hff
    have HM:=aa hm
    simp only[Bool.false_eq_true,if_false]at g2
    clear g4 hm HBAD HGOOD
    obtain⟨c,hc⟩:=exq (aj t s'.k)
    have KN:=aa (bG H2.O)
    rw[<-hc]at KN
    have s93:ac t s' 93=decide (c=93):=by rw[hc];exact bU (by decide)
    have HS93:=aa s93
    clear hc s93
    go_wp2_with fail
    refine KN.O.mono ?_
    rintro e w3b ⟨rfl,ra3,fr3,_⟩
    have H2b:=aa ra3
    have F2b:=aa (F2.O.trans fr3)
    have HSrb:=aa (fr3.ks _ _ HSr.O)
    clear ra3 fr3 KN H2 F2 HSr c0 c1 c2 f1 f2 hl hltr
    obtain⟨wr,hwr⟩:=exq (w3b)
    subst hwr
    have H2:=H2b
    have F2:=F2b
    have HSr:=HSrb
    clear H2b F2b HSrb
    have hltr:=HSr.O.1.lt
    by_cases h93:c=93
    ·have q93:((c:Int) !=93)=false:=by rw[h93];rfl
     have HX:Hid (∀{w5:World},((false=false/\ac t s' 93=true/\RA w5 p r base t s'.up false hv n)\/((false=true\/ac t s' 93=false)/\RA w5 p r base t s' true hv n)) ->∃(bd:Bool) (s5:RS),RA w5 p r base t s5 bd hv n/\(bd=true ->RI= .bad s5)/\(bd=false ->∃c,RI= .ok c s5/\AgF f cs' c/\s5.f=f)):=by
      intro w5 hE
      have hs:ac t s' 93=true:=by rw[HS93.O];exact decide_eq_true h93
      rcases hE with⟨_,_,ra⟩|⟨h,_⟩
      ·refine⟨false,s'.up,ra,(fun h=>by cases h),fun _=>⟨c',?_,HAG.O,HFF.O⟩⟩
       rw[<-HM.O]
       unfold bW
       rw[if_pos hs]
      ·rcases h with h|h
       ·cases h
       ·rw[hs]at h;cases h
     clear h93 HM
     have KE:=aa (cN 93 H2.O ht)
     go_wp2_with fail
     refine KE.O.mono ?_
     rintro e w5 ⟨rfl,fr5,hE5⟩
     have F5:=aa (F2.O.trans fr5)
     have HS5:=aa (fr5.ks _ _ HSr.O)
     have hst:∃(bd:Bool) (s5:RS),RA w5 p r base t s5 bd hv n/\(bd=true ->RI= .bad s5)/\(bd=false ->∃c,RI= .ok c s5/\AgF f cs' c/\s5.f=f):=HX.O hE5
     obtain⟨bd5,s5,ra5,hbad5,hgood5⟩:=hst
     have H5:=aa ra5
     have HBAD5:=aa hbad5
     have HGOOD5:=aa hgood5
     clear KE hE5 fr5 ra5 hbad5 hgood5 HX
     obtain⟨m3,m5,m6,g5,g6,mr,gr,hrl⟩:=H5.O.more
     have hl:=H5.O.rk.lt
     go_upto_region 13 with fail
     generalize hw9:World.setCell _ _ _=w6
     have hup:=H5.O.hvs w6 hw9
     have H6:=aa hup.1
     have F6:=aa (F5.O.trans hup.2)
     have HS6:=aa (hup.2.ks _ _ HS5.O)
     have hlt6:=HS6.O.1.lt
     clear hw9 hup m3 m5 m6 g5 g6 mr gr hrl hl
     obtain⟨V,hV⟩:=exq (sB cs')
     have HIV:Hid ((Tryz.prog.info? 213).map (·.size)=some V.length):=by rw[hV];exact aC hcs'
     have HJV:Hid ((Tryz.prog.info? 213).map (·.size)=some V.toArray.size):=by rw[hV];exact az hcs'
     have HAV:Hid (V.toArray.all (·.oneCell')=true):=by rw[hV];exact am (ax _)
     have HOV:Hid ((sB noB).toArray.size=V.toArray.size):=by show _=_;rw[List.size_toArray,List.size_toArray,hV,ah,ah,hcs'];rfl
     have HVV:=aa hV
     have HRG6:Hid (World.rangeAt w6 B 0 V):=by rw[hV];exact HS6.O.1.rangeL
     have KF:=aa (gm cs' hcs' H6.O.rk)
     rw[<-hV]at KF
     clear hV
     go_wp2_with (refine wpList_load_mid rfl 213 _ rfl (B) 0 rfl V _ HRG6.O Tryz.underlying213 rfl HIV.O ?_)
     refine KF.O.mono ?_
     rintro e w7 ⟨ds,hds,rfl,hx7,hfo7⟩
     have HFO:=aa hfo7
     clear hfo7
     have H7:=aa (H6.O.ex hx7)
     have F7:=aa (F6.O.trans (Fr.ex (r:=r) hx7 (by have:=F6.O.eb.size;omega)))
     have HS7:=aa (HS6.O.ex hx7 (by simp))
     clear hx7 KF
     obtain⟨U,hU⟩:=exq (sB ds)
     have HIU:Hid ((Tryz.prog.info? 213).map (·.size)=some U.length):=by rw[hU];exact aC hds
     have HJU:Hid ((Tryz.prog.info? 213).map (·.size)=some U.toArray.size):=by rw[hU];exact az hds
     have HAU:Hid (U.toArray.all (·.oneCell')=true):=by rw[hU];exact am (ax _)
     have HOU:Hid ((sB noB).toArray.size=U.toArray.size):=by show _=_;rw[List.size_toArray,List.size_toArray,hU,ah,ah,hds];rfl
     have HVU:=aa hU
     rw[<-hU]
     obtain⟨w8,hw8⟩:=exq (w7.setRow B U.toArray)
     have hst8:=dZ (w':=w8) F7.O HS7.O H7.O hB0 hbw hds (by rw[hw8,hU])
     have H8:=aa hst8.1
     have F8:=aa hst8.2.1
     have HS8:=aa hst8.2.2.1
     have hlt8:=HS8.O.1.lt
     have HW8:=aa hw8
     have HOLD:Hid ((sB cs').toArray.size=U.toArray.size):=by show _=_;rw[List.size_toArray,List.size_toArray,hU,ah,ah,hds,hcs']
     clear hw8 hst8
     clear hU
     first
      |skip
       go_upto_region 15 with (refine wpList_store_row rfl 213 _ _ rfl B U.toArray rfl rfl 213 _ HS7.O.1 HJU.O HOLD.O HAU.O ?_)
       rw[<-HW8.O]
       have HRG8:Hid (World.rangeAt w8 B 0 U):=by rw[HVU.O];exact HS8.O.1.rangeL
       have KI:=aa (fun W=>dC ds W hds)
       rw[<-show U=sB ds from HVU.O]at KI
       go_wp2_with (refine wpList_load_mid rfl 213 _ rfl (B) 0 rfl U _ HRG8.O Tryz.underlying213 rfl HIU.O ?_)
       refine (KI.O _).mono ?_
       rintro e w9 ⟨rfl,hx9⟩
       have H9:=aa (H8.O.ex hx9)
       have F9:=aa (F8.O.trans (Fr.ex (r:=r) hx9 (by have:=F8.O.eb.size;omega)))
       have HS9:=aa (HS8.O.ex hx9 (by simp))
       have hes:(ds.map (!·)).length=129:=by rw[List.length_map];exact hds
       obtain⟨es,hes0⟩:=exq (ds.map (!·))
       have HES0:=aa hes0
       rw[<-hes0]at hes ⊢
       clear hx9 KI hes0
       obtain⟨T,hT⟩:=exq (sB es)
       have HIT:Hid ((Tryz.prog.info? 213).map (·.size)=some T.length):=by rw[hT];exact aC hes
       have HJT:Hid ((Tryz.prog.info? 213).map (·.size)=some T.toArray.size):=by rw[hT];exact az hes
       have HAT:Hid (T.toArray.all (·.oneCell')=true):=by rw[hT];exact am (ax _)
       have HOT:Hid ((sB noB).toArray.size=T.toArray.size):=by show _=_;rw[List.size_toArray,List.size_toArray,hT,ah,ah,hes];rfl
       have HVT:=aa hT
       rw[<-hT]
       obtain⟨w10,hw10⟩:=exq (w9.setRow B T.toArray)
       have hst10:=dZ (w':=w10) F9.O HS9.O H9.O hB0 hbw hes (by rw[hw10,hT])
       have H10:=aa hst10.1
       have F10:=aa hst10.2.1
       have HS10:=aa hst10.2.2.1
       have hlt10:=HS10.O.1.lt
       have HW10:=aa hw10
       have HOLD2:Hid ((sB ds).toArray.size=T.toArray.size):=by show _=_;rw[List.size_toArray,List.size_toArray,hT,ah,ah,hds,hes]
       clear hw10 hst10 hT
       obtain⟨X,hX⟩:=exq (bc 2 0 0 0 false es)
       have HBU:Hid (Tryz.prog.built 215 [(0,.int .i64 2),(5,.agg T.toArray)]=some X.toArray):=by rw[hX,HVT.O];exact dS es hes
       have KND:=aa (bT 2 0 0 0 false es hes H10.O (by omega))
       rw[<-hX]at KND
       have HXX:=aa hX
       have HRG8:Hid (World.rangeAt w10 B 0 T):=by rw[HVT.O];exact HS10.O.1.rangeL
       clear hX
       go_upto_region 16 with (refine wpList_store_row rfl 213 _ _ rfl B T.toArray rfl rfl 213 _ HS9.O.1 HJT.O HOLD2.O HAT.O ?_)
       rw[<-HW10.O]
       go_wp2_with (first|refine wpList_load_mid rfl 213 _ rfl (B) 0 rfl T _ HRG8.O Tryz.underlying213 rfl HIT.O ?_|(refine wpList_buildTo rfl 215 _ rfl _ rfl X.toArray (by simp only[List.map_toArray,List.map_cons,List.map_nil,Act.eval,List.getElem?_toArray,Array.getD_eq_getD_getElem?,List.getElem?_cons_succ,List.getElem?_cons_zero,Option.getD_some];exact HBU.O) ?_))
       refine KND.O.mono ?_
       rintro e wz ⟨rfl,hz,frz,erz⟩
       have HER:=aa erz
       clear erz
       have HZ:=aa hz
       have FZ:=aa (F10.O.trans frz)
       clear hz frz
       go_wp2_with fail
       go_ret
       exact⟨FZ.O,rfl,bd5,s5,HBAD5.O,(fun h=>by obtain⟨c9,k1,k2,k3⟩:=HGOOD5.O h;rw[<-k3]at k2;refine⟨c9,k1,?_⟩;rw[if_pos HNEG.O];exact XT.set (by have h9:=HER.O;rw[HXX.O]at h9;exact h9) hes ((k2.toC HFO.O).inv (fun r hr=>by rw[HES0.O];exact jS ds hds r hr))),HZ.O⟩
      |skip
       obtain⟨X,hX⟩:=exq (bc 2 0 0 0 false ds)
       have HBU:Hid (Tryz.prog.built 215 [(0,.int .i64 2),(5,.agg U.toArray)]=some X.toArray):=by rw[hX,HVU.O];exact dS ds hds
       have KND:=aa (bT 2 0 0 0 false ds hds H8.O (by omega))
       rw[<-hX]at KND
       have HXX:=aa hX
       have HRG8:Hid (World.rangeAt w8 B 0 U):=by rw[HVU.O];exact HS8.O.1.rangeL
       clear hX
       go_upto_region 16 with (refine wpList_store_row rfl 213 _ _ rfl B U.toArray rfl rfl 213 _ HS7.O.1 HJU.O HOLD.O HAU.O ?_)
       rw[<-HW8.O]
       go_wp2_with (first|refine wpList_load_mid rfl 213 _ rfl (B) 0 rfl U _ HRG8.O Tryz.underlying213 rfl HIU.O ?_|(refine wpList_buildTo rfl 215 _ rfl _ rfl X.toArray (by simp only[List.map_toArray,List.map_cons,List.map_nil,Act.eval,List.getElem?_toArray,Array.getD_eq_getD_getElem?,List.getElem?_cons_succ,List.getElem?_cons_zero,Option.getD_some];exact HBU.O) ?_))
       refine KND.O.mono ?_
       rintro e wz ⟨rfl,hz,frz,erz⟩
       have HER:=aa erz
       clear erz
       have HZ:=aa hz
       have FZ:=aa (F8.O.trans frz)
       clear hz frz
       go_wp2_with fail
       go_ret
       exact⟨FZ.O,rfl,bd5,s5,HBAD5.O,(fun h=>by obtain⟨c9,k1,k2,k3⟩:=HGOOD5.O h;rw[<-k3]at k2;refine⟨c9,k1,?_⟩;rw[if_neg HNEG.O];exact XT.set (by have h9:=HER.O;rw[HXX.O]at h9;exact h9) hds (k2.toC HFO.O)),HZ.O⟩
    ·have q93:((c:Int) !=93)=true:=by rw[bne_iff_ne];omega
     have HMI:Hid (RI=(aI t s').bind fun c2 s2=>bW t m (bQ c' c2) s2):=by
      show RI=_
      rw[<-HM.O]
      conv=>lhs;unfold bW
      rw[if_neg]
      rw[HS93.O]
      simpa using h93
     have KI:=aa (qU H2.O ht)
     clear h93 HM
     go_wp2_with fail
     refine KI.O.mono ?_
     rintro e w5 ⟨hf5,ds,hds,rfl,hp5⟩
     have F5:=aa (F2.O.trans hf5)
     have HS5:=aa (hf5.ks _ _ HSr.O)
     have hst:∃(bd:Bool) (s5:RS),RA w5 p r base t s5 bd hv n/\(bd=true ->RI= .bad s5)/\(bd=false ->s5.k<=t.size/\s'.k<s5.k/\∃c m,bW t (m+1) c s5=RI/\t.size-s5.k<=m/\AgF f (List.zipWith (·|| ·) cs' ds) c/\s5.f=f):=by
      cases hI:aI t s' with
      |bad s5=>
       rw[hI]at hp5
       refine⟨true,s5,hp5,fun _=> ?_,fun h=>by cases h⟩
       rw[HMI.O,hI];rfl
      |ok c2 s5=>
       rw[hI]at hp5
       have hl5:=tM hI
       have hz5:=(kV hI).sz g1
       have hf9:=hp5.1
       rw[HFF.O]at hf9
       refine⟨false,s5,hp5.2,(fun h=>by cases h),fun _=>⟨hz5,hl5,?_⟩⟩
       exact⟨bQ c' c2,m-1,by rw[HMI.O,hI,show m-1+1=m by omega];rfl,by omega,uF hcs' hds HAG.O hf9,(wR hI).trans HFF.O⟩
     obtain⟨bd5,s5,ra5,hbad5,hgood5⟩:=hst
     have HBAD5:=aa hbad5
     have HGOOD5:=aa hgood5
     clear KI hf5 hp5 hbad5 hgood5
     obtain⟨w6,hw7⟩:=exq ((w5.alloc (Obj.cells (sB noB).toArray 213)).setRow w5.heap.size (sB ds).toArray)
     obtain⟨a1,a2,a3,a4,a5⟩:=eG F5.O ra5 hds hw7 hbw
     have Hw6:=aa a1
     have Fw6:=aa a2
     have HSw6:=aa a3
     have HN5:=aa a4
     have HT6:=aa (a5 _ _ HS5.O)
     have HW7:=aa hw7
     obtain⟨V,hV⟩:=exq (sB ds)
     have HIV:Hid ((Tryz.prog.info? 213).map (·.size)=some V.length):=by rw[hV];exact aC hds
     have HJV:Hid ((Tryz.prog.info? 213).map (·.size)=some V.toArray.size):=by rw[hV];exact az hds
     have HAV:Hid (V.toArray.all (·.oneCell')=true):=by rw[hV];exact am (ax _)
     have HOV:Hid ((sB noB).toArray.size=V.toArray.size):=by show _=_;rw[List.size_toArray,List.size_toArray,hV,ah,ah,hds];rfl
     have HVV:=aa hV
     rw[<-hV]at HW7 ⊢
     clear hw7 a1 a2 a3 a4 a5 hV
     go_upto_region 10 with (refine wpList_store_row rfl 213 _ _ rfl (w5.heap.size) V.toArray rfl rfl 213 _ HN5.O HJV.O HOV.O HAV.O ?_)
     rw[show (w5.alloc (Obj.cells Tryz.zeroCells213 213)).setRow w5.heap.size V.toArray=w6 from HW7.O.symm]
     clear HW7 HN5
     have hltw6:=HSw6.O.1.lt
     clear ra5
     obtain⟨U,hU⟩:=exq (sB cs')
     have HIU:Hid ((Tryz.prog.info? 213).map (·.size)=some U.length):=by rw[hU];exact aC hcs'
     have HJU:Hid ((Tryz.prog.info? 213).map (·.size)=some U.toArray.size):=by rw[hU];exact az hcs'
     have HAU:Hid (U.toArray.all (·.oneCell')=true):=by rw[hU];exact am (ax _)
     have HOU:Hid ((sB noB).toArray.size=U.toArray.size):=by show _=_;rw[List.size_toArray,List.size_toArray,hU,ah,ah,hcs'];rfl
     have HVU:=aa hU
     have HRG6:Hid (World.rangeAt w6 w5.heap.size 0 V):=by rw[HVV.O];exact HSw6.O.1.rangeL
     have HRG7:Hid (World.rangeAt w6 B 0 U):=by rw[hU];exact HT6.O.1.rangeL
     have KU:=aa (fun W=>oR cs' ds W hcs' hds)
     rw[<-hU,<-show V=sB ds from HVV.O]at KU
     have hltB:=HT6.O.1.lt
     clear hU
     go_wp2_with (first|refine wpList_load_mid rfl 213 _ rfl (B) 0 rfl U _ HRG7.O Tryz.underlying213 rfl HIU.O ?_|refine wpList_load_mid rfl 213 _ rfl (w5.heap.size) 0 rfl V _ HRG6.O Tryz.underlying213 rfl HIV.O ?_)
     refine (KU.O _).mono ?_
     rintro e w7 ⟨rfl,hx7⟩
     have H7:=aa (Hw6.O.ex hx7)
     have F7:=aa (Fw6.O.trans (Fr.ex (r:=r) hx7 (by have:=Fw6.O.eb.size;omega)))
     have HS7:=aa (HT6.O.ex hx7 (by simp))
     have hus:(List.zipWith (·|| ·) cs' ds).length=129:=by simp[hcs',hds]
     obtain⟨us,hus0⟩:=exq (List.zipWith (·|| ·) cs' ds)
     have HUS:=aa hus0
     rw[<-hus0]at hus ⊢
     clear hx7 KU hus0
     obtain⟨T,hT⟩:=exq (sB us)
     have HIT:Hid ((Tryz.prog.info? 213).map (·.size)=some T.length):=by rw[hT];exact aC hus
     have HJT:Hid ((Tryz.prog.info? 213).map (·.size)=some T.toArray.size):=by rw[hT];exact az hus
     have HAT:Hid (T.toArray.all (·.oneCell')=true):=by rw[hT];exact am (ax _)
     have HOT:Hid ((sB noB).toArray.size=T.toArray.size):=by show _=_;rw[List.size_toArray,List.size_toArray,hT,ah,ah,hus];rfl
     have HVT:=aa hT
     rw[<-hT]
     obtain⟨w8,hw8⟩:=exq (w7.setRow B T.toArray)
     have hst8:=dZ (w':=w8) F7.O HS7.O H7.O hB0 hbw hus (by rw[hw8,hT])
     have H8:=aa hst8.1
     have F8:=aa hst8.2.1
     have HS8:=aa hst8.2.2.1
     have HW8:=aa hw8
     have HOLD:Hid ((sB cs').toArray.size=T.toArray.size):=by show _=_;rw[List.size_toArray,List.size_toArray,hT,ah,ah,hus,hcs']
     have hlt7:=HS7.O.1.lt
     clear hw8 hst8 hT
     go_wp2_with (refine wpList_store_row rfl 213 _ _ rfl B T.toArray rfl rfl 213 _ HS7.O.1 HJT.O HOLD.O HAT.O ?_)
     rw[<-HW8.O]
     obtain⟨gk,rfl⟩:∃x,gk=x+1:=⟨gk-1,by omega⟩
     go_roundg gk
     case measure=>omega
     case rel=>
      refine⟨false,bd5,s5,us,rfl,hus,HS8.O,H8.O,F8.O,HBAD5.O,fun h=> ?_⟩
      obtain⟨e1,e2,c9,m9,e3,e4,e5,e6⟩:=HGOOD5.O h
      exact⟨e1,by simp only[Bool.false_eq_true,if_false];omega,(fun h=>by cases h),(fun _=>⟨c9,m9,e3,e4,by rw[HUS.O];exact e5⟩),e6⟩
end Go.Proofs.YtfnanjbleifjkaaGreatDoor.G
