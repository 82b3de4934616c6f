import Derived.Test.YtfnanjbleifjkaaGreatDoorM38
set_option linter.unusedVariables false
set_option linter.unusedSimpArgs false
set_option maxHeartbeats 16000000
set_option maxRecDepth 100000
namespace Go.Proofs.YtfnanjbleifjkaaGreatDoor.G
open Go.RowKit
theorem sK {t:ByteArray} {k d g:Nat} {f:Bool} {nm:List (ByteArray×Nat)} {G kk dd gg:Nat} {ff:Bool} {nn:List (ByteArray×Nat)} (h:b5 t ⟨k,d,f,g,nm⟩= .ok G ⟨kk,dd,ff,gg,nn⟩):d=dd/\f=ff/\1<=G:=by
 have hgn:∀(i n:Nat) (s s':RS) (u:Unit),aZ t i n s= .ok u s' ->s'.d=s.d/\s'.f=s.f:=fun i n=>by
  induction n with
  |zero=>intro s s' u h;cases h;exact⟨rfl,rfl⟩
  |succ n ih=>
   intro s s' u h
   unfold aZ at h
   split at h
   ·cases h
   ·split at h
    ·split at h
     ·cases h
     ·have h9:=ih s.up s' u h
      exact h9
    ·cases h;exact⟨rfl,rfl⟩
 unfold b5 at h
 obtain⟨_,s1,h1,h⟩:=bind_ok h
 obtain⟨_,s2,h2,h⟩:=bind_ok h
 unfold fT at h
 split at h
 ·cases h
 ·obtain⟨_,s3,h3,h⟩:=bind_ok h
  have a:=hgn _ _ _ _ _ h2
  unfold aw at h1 h3
  split at h1
  ·split at h3
   ·cases h1;cases h3;cases h
    exact⟨a.1.symm,a.2.symm,by omega⟩
   ·cases h3
  ·cases h1
theorem uS {w:World} {p r base:Nat} {t:ByteArray} {s:RS} {hv:Int} {n m:Nat} {E:RS ->Res Pt} (h:RA w p r base t s false hv n) (ht:t.size<=60) (hd:s.d<=6) (hg5:s.g<=5) (hs40:ac t s 40=true) (hn:n<=10001+50*s.k) (hm:m<=7) (hE:ja t m E) (hEi:EI E) (hX:s.d<6 ->tj t p r base (s.d+1) E) (hEnd:s.d<6 ->∀s':RS,s'.d=s.d+1 ->s'.k=t.size ->E s'= .ok (.alt [.seq []]) s'):
  Calls Tryz.prog 218 #[.pointer (some ⟨p,0,none⟩)] w fun e w'=>Fr w w' r base/\aJ w' p r base t s n 40 0 0 (fun q=>(wt q:Int)) den e (aK t E s):=by
 obtain⟨i0,hi,hz0,hz1,hz2⟩:=info_parts qR
 have Hw:=aa h
 have Fw:=aa (Fr.refl (r:=r) w base)
 have hkl:=aS hs40
 have HFE:=aa hE
 have HEI:=aa hEi
 have HKX:=aa hX
 have HEND:=aa hEnd
 have HS40:=aa hs40
 obtain⟨k,d,f,g,nm⟩:=s
 dsimp only at hd hg5 hn hkl HKX HEND
 clear h hE hEi hX hEnd hs40
 obtain⟨m3,m5,m6,g5,g6,mr,gr,hrl⟩:=Hw.O.more
 obtain⟨c0,c1,c2,f1,f2,hl⟩:=Hw.O.facts
 dsimp only at c1 m5
 go_enter Tryz.func218,Tryz.ntmps218
 by_cases hd6:d<6
 rotate_left
 ·have hd6':(6:Int)<=(d:Int):=by omega
  go_wp2_with fail
  refine (gK Hw.O).mono ?_
  rintro e w5 ⟨rfl,h5,ks5,eb5⟩
  have F5:=aa (Fw.O.trans ⟨ks5,eb5⟩)
  have H5:=aa h5
  clear h5 ks5 eb5
  go_wp2_with fail
  go_ret
  refine⟨F5.O,aJ.mkBad (s':=⟨k,d,f,g,nm⟩) ?_ rfl rfl H5.O (by show _<=20000+10*(7-d)+0;omega)⟩
  unfold aK
  rw[if_pos (show d=6 by omega)]
 have hd6':¬(6:Int)<=(d:Int):=by omega
 have HPE:Hid (aK t E ⟨k,d,f,g,nm⟩=((al t ⟨k+1,d,f,g,nm⟩).setD (d+1)).bind fun g s2=>(E s2).bind fun p s3=>(aw t s3 41).bind fun _ s4=> .ok (.wrap p g) {s4 with d:=s4.d-1}):=ry HS40.O (by show d≠6;omega)
 go_upto_region 4 with fail
 generalize hw9:World.setCell _ _ _=w1
 have hup:=Hw.O.up2 w1 hw9 (by simp)
 have H1:Hid (RA w1 p r base t ⟨k+1,d,f,g,nm⟩ false hv n):=hup.1
 have F1:=aa (Fw.O.trans hup.2)
 clear hw9 hup
 clear c0 c1 c2 f1 f2 hl m3 m5 m6 g5 g6 mr gr hrl
 obtain⟨c0,c1,c2,f1,f2,hl⟩:=H1.O.facts
 have c1:w1.cell? ⟨p,1,none⟩=some (.int .i64 ((k:Int)+1)):=by simpa using c1
 by_cases hend:k+1<t.size
 rotate_left
 ·-- the end of the text
  have hge:(t.size:Int)<=(k:Int)+1:=by omega
  have hgd:decide ((t.size:Int)<=(k:Int)+1)=true:=decide_eq_true hge
  have hgdn:decide (t.size<=k+1)=true:=decide_eq_true (by omega)
  have HB:Hid (∃s',aK t E ⟨k,d,f,g,nm⟩= .bad s'/\s'.k=k+1):=vd HS40.O (by show d≠6;omega) (by show k+1=t.size;omega) (HEND.O hd6)
  go_wp2_with fail
  go_quiet (fail)
  go_wp2_with fail
  refine (gK (H1.O.drewN _)).mono ?_
  rintro e w5 ⟨rfl,h5,ks5,eb5⟩
  have F5:=aa ((F1.O.trans (Fr.drewN (r:=r) _ _ _)).trans ⟨ks5,eb5⟩)
  have H5:=aa h5
  clear h5 ks5 eb5
  go_wp2_with fail
  go_ret
  obtain⟨s',a1,a2⟩:=HB.O
  exact⟨F5.O,aJ.mkBad (s'':=⟨k+1,d,f,g,nm⟩) a1 a2.symm rfl H5.O (by show _<=20000+10*(7-d)+0;omega)⟩
 have hgd:decide ((t.size:Int)<=(k:Int)+1)=false:=decide_eq_false (by omega)
 have hgdn:decide (t.size<=k+1)=false:=decide_eq_false (by omega)
 obtain⟨c,hc⟩:=exq (aj t (k+1))
 have KN:=aa (fun q=>bG (H1.O.drewN q))
 dsimp only at KN
 rw[<-hc]at KN
 have s63:ac t ⟨k+1,d,f,g,nm⟩ 63=decide (c=63):=by rw[hc];exact bU (by decide)
 have HS63:=aa s63
 clear hc s63
 go_wp2_with fail
 go_quiet (fail)
 go_wp2_with fail
 refine (KN.O _).mono ?_
 rintro e w2 ⟨rfl,ra2,fr2,_⟩
 have H2:=aa ra2
 have F2:=aa ((F1.O.trans (Fr.drewN (r:=r) _ _ _)).trans fr2)
 clear ra2 fr2 KN c0 c1 c2 f1 f2 hl
 obtain⟨m3,m5,m6,g5,g6,mr,gr,hrl⟩:=H2.O.more
 obtain⟨c0,c1,c2,f1,f2,hl⟩:=H2.O.facts
 have c1:w2.cell? ⟨p,1,none⟩=some (.int .i64 ((k:Int)+1)):=by simpa using c1
 dsimp only at mr
 by_cases h63:c=63
 ·-- (?
  have q63:((c:Int)==63)=true:=by rw[h63];rfl
  have HOP:=aa (ka (t:=t) (s:=⟨k+1,d,f,g,nm⟩) (by rw[HS63.O];exact decide_eq_true h63))
  clear h63
  go_upto_region 9 with fail
  generalize hw9:World.setCell _ _ _=w3
  have hup:=H2.O.up2 w3 hw9 (by first|(simp;done)|(simp;omega))
  have H3:Hid (RA w3 p r base t ⟨k+2,d,f,g,nm⟩ false hv n):=hup.1
  have F3:=aa (F2.O.trans hup.2)
  clear hw9 hup
  clear c0 c1 c2 f1 f2 hl m3 m5 m6 g5 g6 mr gr hrl
  obtain⟨x,hx⟩:=exq (aj t (k+2))
  have KN:=aa (bG H3.O)
  dsimp only at KN
  rw[<-hx]at KN
  have s58:ac t ⟨k+2,d,f,g,nm⟩ 58=decide (x=58):=by rw[hx];exact bU (by decide)
  have s80:ac t ⟨k+2,d,f,g,nm⟩ 80=decide (x=80):=by rw[hx];exact bU (by decide)
  have HS58:=aa s58
  have HS80:=aa s80
  clear hx s58 s80
  go_wp2_with fail
  refine KN.O.mono ?_
  rintro e w4 ⟨rfl,ra4,fr4,_⟩
  have H4:=aa ra4
  have F4:=aa (F3.O.trans fr4)
  clear ra4 fr4 KN
  obtain⟨m3,m5,m6,g5,g6,mr,gr,hrl⟩:=H4.O.more
  obtain⟨c0,c1,c2,f1,f2,hl⟩:=H4.O.facts
  have c1:w4.cell? ⟨p,1,none⟩=some (.int .i64 ((k:Int)+2)):=by simpa using c1
  dsimp only at mr
  by_cases hP:x=80/\g<5
  ·-- (?P
   have q80:((x:Int)==80)=true:=by rw[hP.1];rfl
   have hgl:(g:Int)<5:=by omega
   have hg5':g<5:=hP.2
   have hk2:k+2<t.size:=aS (s:=⟨k+2,d,f,g,nm⟩) (by rw[HS80.O];exact decide_eq_true hP.1)
   have HON:Hid (al t ⟨k+1,d,f,g,nm⟩=b5 t ⟨k+3,d,f,g,nm⟩):=by
    show _=_
    rw[HOP.O]
    show (if ac t ⟨k+2,d,f,g,nm⟩ 58=true then _ else _)=_
    rw[if_neg (by rw[HS58.O];simp;omega),if_neg (show ¬g=5 by omega)]
    show (aw t ⟨k+2,d,f,g,nm⟩ 80).bind _=_
    unfold aw
    rw[if_pos (by rw[HS80.O];exact decide_eq_true hP.1)]
    rfl
   clear hP
   go_upto_region 12 with fail
   generalize hw9:World.setCell _ _ _=w4a
   have hup:=H4.O.up2 w4a hw9 (by first|(simp;done)|(simp;omega))
   have H4a:Hid (RA w4a p r base t ⟨k+3,d,f,g,nm⟩ false hv n):=hup.1
   have F4a:=aa (F4.O.trans hup.2)
   clear hw9 hup
   clear c0 c1 c2 f1 f2 hl m3 m5 m6 g5 g6 mr gr hrl
   have KNM:=aa (uZ H4a.O ht hg5' (by show k+3<=t.size;omega))
   go_wp2_with fail
   refine KNM.O.mono ?_
   rintro e w5 ⟨fr5,hp5⟩
   have F5:=aa (F4a.O.trans fr5)
   cases hnm:b5 t ⟨k+3,d,f,g,nm⟩with
   |bad s9=>
    rw[hnm]at hp5
    obtain⟨⟨y,rfl⟩,s8,a1,a2,ra5⟩:=hp5
    have H5:=aa ra5
    have HB:Hid (aK t E ⟨k,d,f,g,nm⟩= .bad {s9 with d:=d+1}):=by show _=_;rw[HPE.O,HON.O,hnm];rfl
    dsimp only at a2
    clear fr5 ra5 KNM hnm
    obtain⟨c0,c1,c2,f1,f2,hl⟩:=H5.O.facts
    go_wp2_with fail
    go_ret
    exact⟨F5.O,aJ.mkBad HB.O a1 a2 H5.O (by show _<=20000+10*(7-d)+0;omega)⟩
   |ok G s9=>
    rw[hnm]at hp5
    obtain⟨rfl,ra5⟩:=hp5
    obtain⟨kk,dd,ff,gg,nn⟩:=s9
    have hon:=HON.O.trans hnm
    have hmv:=ml hon (show g<=5 from hg5)
    have hdf:d=dd/\f=ff/\1<=G:=sK hnm
    obtain⟨rfl,rfl,hG1⟩:=hdf
    have hkk:=hmv.1
    have hkk2:=hmv.2.1 (show k+1<=t.size by omega)
    have hgg5:=hmv.2.2.1
    dsimp only at hkk hkk2 hgg5
    have HO:=aa hon
    have H5:=aa ra5
    clear fr5 ra5 KNM hnm hmv hon HON HOP
    obtain⟨m3,m5,m6,g5,g6,mr,gr,hrl⟩:=H5.O.more
    obtain⟨c0,c1,c2,f1,f2,hl⟩:=H5.O.facts
    dsimp only at m5
    go_upto_region 22 with fail
    generalize hw9:World.setCell _ _ _=w6
    have hup:=H5.O.dps w6 (d+1) hw9 (by simp)
    have H6:Hid (RA w6 p r base t ⟨kk,d+1,f,gg,nn⟩ false hv n):=hup.1
    have F6:=aa (F5.O.trans hup.2)
    clear hw9 hup c0 c1 c2 f1 f2 hl m3 m5 m6 g5 g6 mr gr hrl
    have KX:=aa (HKX.O hd6 _ _ _ _ H6.O rfl hgg5 (by show kk<=t.size;omega) (by show n<=10000+50*kk;omega))
    go_wp2_with fail
    refine KX.O.mono ?_
    rintro e w7 ⟨hf7,hp7⟩
    obtain⟨y7,hy7,hz7⟩:=hp7.split
    subst hy7
    have F7:=aa (F6.O.trans hf7)
    have hst:∃(bd:Bool) (s7:RS) (hv7:Int) (n7:Nat),RA w7 p r base t s7 bd hv7 n7/\s7.d=d+1/\n7<=20000+10*(7-(d+1))+2/\(bd=true ->∃s9,aK t E ⟨k,d,f,g,nm⟩= .bad s9/\s7.k=s9.k)/\(bd=false ->∃q:Pt,aK t E ⟨k,d,f,g,nm⟩=(aw t s7 41).bind (fun _ s4=> .ok (.wrap q G) {s4 with d:=s4.d-1})/\hv7=(wt q:Int)/\wt q<=1169230260/\n7+50*kk<=n+50*s7.k+1/\∃y':Nat,y7=(y':Int)/\XT w7 r y' (den q)):=by
     rcases hz7 with⟨q,s7,n7,hbm,ra7,hn7,hty7⟩|⟨s9,s7,hv7,n7,hbm,hk7,hd7,ra7,hn7⟩
     ·have hfe:=HFE.O _ _ _ hbm hgg5 (by show kk<=t.size;omega)
      have hd7:=(HEI.O _ _ _ hbm hgg5).2.1
      have hs7:=hfe.sz (show kk<=t.size by omega)
      have hl7:=hfe.le
      dsimp only at hn7 hl7
      refine⟨false,s7,_,n7,ra7,hd7,by omega,(fun h=>by cases h),fun _=>⟨q,?_,rfl,Nat.le_trans hfe.wt (big ht hs7 _ (by omega)),by omega,hty7⟩⟩
      rw[HPE.O,HO.O]
      show (E ⟨kk,d+1,f,gg,nn⟩).bind _=_
      rw[hbm,Res.bind_ok]
     ·dsimp only at hn7 hd7
      refine⟨true,s7,hv7,n7,ra7,hd7,by omega,(fun _=>⟨s9,?_,hk7⟩),(fun h=>by cases h)⟩
      rw[HPE.O,HO.O]
      show (E ⟨kk,d+1,f,gg,nn⟩).bind _=_
      rw[hbm]
      rfl
    obtain⟨bd,s7,hv7,n7,ra7,hd7,hn7,hbad7,hgood7⟩:=hst
    have H7:=aa ra7
    have HD7:=aa hd7
    have HBAD7:=aa hbad7
    have HGOOD7:=aa hgood7
    clear KX hf7 hp7 hz7 ra7 hbad7 hgood7 HO
    obtain⟨m3,m5,m6,g5,g6,mr,gr,hrl⟩:=H7.O.more
    have hl:=H7.O.rk.lt
    replace m5:w7.cell? ⟨p,5,none⟩=some (.int .i64 ((d:Int)+1)):=by rw[m5,hd7];simp
    clear hd7
    have hdw:IntKind.i64.wrap ((d:Int)+1-1)=(d:Int):=by rw[IntKind.wrap_i64];omega
    go_upto_region 25 with fail
    generalize hw9:World.setCell _ _ _=w8
    have hup:=H7.O.dps w8 d hw9 (by first|rfl|simp|omega)
    have H8:=aa hup.1
    have F8:=aa (F7.O.trans hup.2)
    have HF8:=aa hup.2
    clear hw9 hup m3 m5 m6 g5 g6 mr gr hrl hl
    have KE:=aa (cN 41 H8.O ht)
    go_wp2_with fail
    refine KE.O.mono ?_
    rintro e w9 ⟨rfl,fr9,hE⟩
    have F9:=aa (F8.O.trans fr9)
    have hst:∃(bd:Bool) (s9:RS),RA w9 p r base t s9 bd hv7 n7/\s9.d=d/\(bd=true ->∃s',aK t E ⟨k,d,f,g,nm⟩= .bad s'/\s9.k=s'.k)/\(bd=false ->∃q:Pt,aK t E ⟨k,d,f,g,nm⟩= .ok (.wrap q G) s9/\hv7=(wt q:Int)/\wt q<=1169230260/\n7+49+50*kk<=n+50*s9.k/\∃y':Nat,y7=(y':Int)/\XT w9 r y' (den q)):=by
     have hsd:ac t {s7 with d:=d} 41=ac t s7 41:=rfl
     rcases hE with⟨hb,hs,ra9⟩|⟨hb,ra9⟩
     ·obtain⟨q,a1,a2,a3,a4,y',hy',ty'⟩:=HGOOD7.O hb
      refine⟨false,_,ra9,rfl,(fun h=>by cases h),fun _=>⟨q,?_,a2,a3,by show n7+49+50*kk<=n+50*(s7.k+1);omega,y',hy',(ty'.fr HF8.O).fr fr9⟩⟩
      rw[a1]
      unfold aw
      rw[if_pos (by rw[<-hsd];exact hs),Res.bind_ok]
      show Res.ok _ {s7.up with d:=s7.d-1}=_
      rw[HD7.O]
      rfl
     ·refine⟨true,_,ra9,rfl,fun _=> ?_,(fun h=>by cases h)⟩
      cases bd with
      |true=>exact HBAD7.O rfl
      |false=>
       obtain⟨q,a1,a2,a3,a4,_⟩:=HGOOD7.O rfl
       refine⟨s7,?_,rfl⟩
       rw[a1]
       unfold aw
       rw[if_neg]
       ·rfl
       ·rcases hb with hb|hb
        ·cases hb
        ·rw[<-hsd,hb];simp
    obtain⟨bd9,s9,ra9,hd9,hbad9,hgood9⟩:=hst
    have H9:=aa ra9
    have HD9:=aa hd9
    have HBAD9:=aa hbad9
    have HGOOD9:=aa hgood9
    clear KE hE fr9 ra9 hd9 hbad9 hgood9 HBAD7 HGOOD7
    obtain⟨m3,m5,m6,g5,g6,mr,gr,hrl⟩:=H9.O.more
    have hl:=H9.O.rk.lt
    obtain⟨hvx,hhvx⟩:=exq (IntKind.i64.wrap (hv7+1))
    have HHVX:=aa hhvx
    go_upto_region 27 with fail
    generalize hw9:World.setCell _ _ _=wA
    have hup:=H9.O.hvs wA hw9
    have HA:=aa hup.1
    have FA:=aa (F9.O.trans hup.2)
    have HFA:=aa hup.2
    clear hw9 hup m3 m5 m6 g5 g6 mr gr hrl hl
    have hG0:(0:Int)<(G:Int):=by omega
    go_wp2_with fail
    refine (bT 7 _ 0 _ false noB rfl HA.O (by omega)).mono ?_
    rintro e wB ⟨rfl,hB,frB,erB⟩
    have HB:=aa hB
    have FB:=aa (FA.O.trans frB)
    have HFB:=aa frB
    have HER:=aa erB
    clear hB frB erB
    go_wp2_with fail
    go_ret
    cases bd9 with
    |false=>
     obtain⟨q,a1,a2,a3,a4,y',hy',ty'⟩:=HGOOD9.O rfl
     refine⟨FB.O,aJ.mkOk a1 ?_ HB.O (by show _+40+50*k<=n+50*s9.k+0;omega) ⟨_,rfl,by rw[den,if_neg (by omega)];exact XT.grp (by have h:=HER.O;rw[hy']at h;exact h) ((ty'.fr HFA.O).fr HFB.O)⟩⟩
     rw[a2,IntWalk.wrap64_in _ (by omega)]
     show ((wt q:Int)+1)=((wt q+1:Nat):Int)
     omega
    |true=>
     obtain⟨s',a1,a2⟩:=HBAD9.O rfl
     exact⟨FB.O,aJ.mkBad a1 a2 HD9.O HB.O (by show _<=20000+10*(7-d)+0;omega)⟩
  ·have hcs:(x≠80)\/(x=80/\¬g<5):=by omega
   have KE:=aa (cN 58 H4.O ht)
   have hO:al t ⟨k+1,d,f,g,nm⟩=if ac t ⟨k+2,d,f,g,nm⟩ 58 then .ok 0 ⟨k+3,d,f,g,nm⟩else .bad ⟨k+2,d,f,g,nm⟩:=by
    rw[HOP.O]
    show (if ac t ⟨k+2,d,f,g,nm⟩ 58=true then _ else _)=_
    by_cases h58:ac t ⟨k+2,d,f,g,nm⟩ 58=true
    ·rw[if_pos h58,if_pos h58];rfl
    ·rw[if_neg h58,if_neg h58]
     by_cases h5:g=5
     ·rw[if_pos (show g=5 from h5)];rfl
     ·rw[if_neg (show ¬g=5 from h5)]
      show (aw t ⟨k+2,d,f,g,nm⟩ 80).bind _=_
      unfold aw
      rw[if_neg]
      ·rfl
      ·rw[HS80.O];simp;omega
   have HO0:=aa hO
   clear hO hP HOP HS80
   rcases hcs with a|⟨a,a'⟩
   case' inl=>
    have q80:((x:Int)==80)=false:=by rw[beq_eq_false_iff_ne];omega
   case' inr=>
    have q80:((x:Int)==80)=true:=by rw[a];rfl
    have hgl:¬(g:Int)<5:=by omega
    clear a
   all_goals
    go_wp2_with fail
    refine KE.O.mono ?_
    rintro e w5 ⟨rfl,fr5,hE5⟩
    have F5:=aa (F4.O.trans fr5)
    rcases hE5 with⟨_,hs,ra5⟩|⟨hs,ra5⟩
    ·have hkl3:=aS hs
     dsimp only at hkl3
     obtain⟨kk,hkk0⟩:=exq (k+3)
     obtain⟨G,hG⟩:∃x:Nat,x=0:=⟨_,rfl⟩
     obtain⟨gg,hgg0⟩:=exq (g)
     obtain⟨nn,hnn0⟩:=exq (nm)
     have HO:Hid (al t ⟨k+1,d,f,g,nm⟩= .ok G ⟨kk,d,f,gg,nn⟩):=by
      show _=_
      rw[HO0.O,if_pos hs,hkk0,hG,hgg0,hnn0]
     have H5:Hid (RA w5 p r base t ⟨kk,d,f,gg,nn⟩ false hv n):=by rw[hkk0,hgg0,hnn0];exact ra5
     have hgg5:gg<=5:=by omega
     have hkk:k+1<=kk:=by omega
     have hkk2:kk<=t.size:=by omega
     have HG0:=aa hG
     clear hkk0 hgg0 hnn0 hG fr5 ra5 hs KE HO0 c0 c1 c2 f1 f2 hl m3 m5 m6 g5 g6 mr gr hrl
     obtain⟨m3,m5,m6,g5,g6,mr,gr,hrl⟩:=H5.O.more
     obtain⟨c0,c1,c2,f1,f2,hl⟩:=H5.O.facts
     dsimp only at m5
     go_upto_region 22 with fail
     generalize hw9:World.setCell _ _ _=w6
     have hup:=H5.O.dps w6 (d+1) hw9 (by simp)
     have H6:Hid (RA w6 p r base t ⟨kk,d+1,f,gg,nn⟩ false hv n):=hup.1
     have F6:=aa (F5.O.trans hup.2)
     clear hw9 hup c0 c1 c2 f1 f2 hl m3 m5 m6 g5 g6 mr gr hrl
     have KX:=aa (HKX.O hd6 _ _ _ _ H6.O rfl hgg5 (by show kk<=t.size;omega) (by show n<=10000+50*kk;omega))
     go_wp2_with fail
     refine KX.O.mono ?_
     rintro e w7 ⟨hf7,hp7⟩
     obtain⟨y7,hy7,hz7⟩:=hp7.split
     subst hy7
     have F7:=aa (F6.O.trans hf7)
     have hst:∃(bd:Bool) (s7:RS) (hv7:Int) (n7:Nat),RA w7 p r base t s7 bd hv7 n7/\s7.d=d+1/\n7<=20000+10*(7-(d+1))+2/\(bd=true ->∃s9,aK t E ⟨k,d,f,g,nm⟩= .bad s9/\s7.k=s9.k)/\(bd=false ->∃q:Pt,aK t E ⟨k,d,f,g,nm⟩=(aw t s7 41).bind (fun _ s4=> .ok (.wrap q G) {s4 with d:=s4.d-1})/\hv7=(wt q:Int)/\wt q<=1169230260/\n7+50*kk<=n+50*s7.k+1/\∃y':Nat,y7=(y':Int)/\XT w7 r y' (den q)):=by
      rcases hz7 with⟨q,s7,n7,hbm,ra7,hn7,hty7⟩|⟨s9,s7,hv7,n7,hbm,hk7,hd7,ra7,hn7⟩
      ·have hfe:=HFE.O _ _ _ hbm hgg5 (by show kk<=t.size;omega)
       have hd7:=(HEI.O _ _ _ hbm hgg5).2.1
       have hs7:=hfe.sz (show kk<=t.size by omega)
       have hl7:=hfe.le
       dsimp only at hn7 hl7
       refine⟨false,s7,_,n7,ra7,hd7,by omega,(fun h=>by cases h),fun _=>⟨q,?_,rfl,Nat.le_trans hfe.wt (big ht hs7 _ (by omega)),by omega,hty7⟩⟩
       rw[HPE.O,HO.O]
       show (E ⟨kk,d+1,f,gg,nn⟩).bind _=_
       rw[hbm,Res.bind_ok]
      ·dsimp only at hn7 hd7
       refine⟨true,s7,hv7,n7,ra7,hd7,by omega,(fun _=>⟨s9,?_,hk7⟩),(fun h=>by cases h)⟩
       rw[HPE.O,HO.O]
       show (E ⟨kk,d+1,f,gg,nn⟩).bind _=_
       rw[hbm]
       rfl
     obtain⟨bd,s7,hv7,n7,ra7,hd7,hn7,hbad7,hgood7⟩:=hst
     have H7:=aa ra7
     have HD7:=aa hd7
     have HBAD7:=aa hbad7
     have HGOOD7:=aa hgood7
     clear KX hf7 hp7 hz7 ra7 hbad7 hgood7 HO
     obtain⟨m3,m5,m6,g5,g6,mr,gr,hrl⟩:=H7.O.more
     have hl:=H7.O.rk.lt
     replace m5:w7.cell? ⟨p,5,none⟩=some (.int .i64 ((d:Int)+1)):=by rw[m5,hd7];simp
     clear hd7
     have hdw:IntKind.i64.wrap ((d:Int)+1-1)=(d:Int):=by rw[IntKind.wrap_i64];omega
     go_upto_region 25 with fail
     generalize hw9:World.setCell _ _ _=w8
     have hup:=H7.O.dps w8 d hw9 (by first|rfl|simp|omega)
     have H8:=aa hup.1
     have F8:=aa (F7.O.trans hup.2)
     have HF8:=aa hup.2
     clear hw9 hup m3 m5 m6 g5 g6 mr gr hrl hl
     have KE:=aa (cN 41 H8.O ht)
     go_wp2_with fail
     refine KE.O.mono ?_
     rintro e w9 ⟨rfl,fr9,hE⟩
     have F9:=aa (F8.O.trans fr9)
     have hst:∃(bd:Bool) (s9:RS),RA w9 p r base t s9 bd hv7 n7/\s9.d=d/\(bd=true ->∃s',aK t E ⟨k,d,f,g,nm⟩= .bad s'/\s9.k=s'.k)/\(bd=false ->∃q:Pt,aK t E ⟨k,d,f,g,nm⟩= .ok (.wrap q G) s9/\hv7=(wt q:Int)/\wt q<=1169230260/\n7+49+50*kk<=n+50*s9.k/\∃y':Nat,y7=(y':Int)/\XT w9 r y' (den q)):=by
      have hsd:ac t {s7 with d:=d} 41=ac t s7 41:=rfl
      rcases hE with⟨hb,hs,ra9⟩|⟨hb,ra9⟩
      ·obtain⟨q,a1,a2,a3,a4,y',hy',ty'⟩:=HGOOD7.O hb
       refine⟨false,_,ra9,rfl,(fun h=>by cases h),fun _=>⟨q,?_,a2,a3,by show n7+49+50*kk<=n+50*(s7.k+1);omega,y',hy',(ty'.fr HF8.O).fr fr9⟩⟩
       rw[a1]
       unfold aw
       rw[if_pos (by rw[<-hsd];exact hs),Res.bind_ok]
       show Res.ok _ {s7.up with d:=s7.d-1}=_
       rw[HD7.O]
       rfl
      ·refine⟨true,_,ra9,rfl,fun _=> ?_,(fun h=>by cases h)⟩
       cases bd with
       |true=>exact HBAD7.O rfl
       |false=>
        obtain⟨q,a1,a2,a3,a4,_⟩:=HGOOD7.O rfl
        refine⟨s7,?_,rfl⟩
        rw[a1]
        unfold aw
        rw[if_neg]
        ·rfl
        ·rcases hb with hb|hb
         ·cases hb
         ·rw[<-hsd,hb];simp
     obtain⟨bd9,s9,ra9,hd9,hbad9,hgood9⟩:=hst
     have H9:=aa ra9
     have HD9:=aa hd9
     have HBAD9:=aa hbad9
     have HGOOD9:=aa hgood9
     clear KE hE fr9 ra9 hd9 hbad9 hgood9 HBAD7 HGOOD7
     obtain⟨m3,m5,m6,g5,g6,mr,gr,hrl⟩:=H9.O.more
     have hl:=H9.O.rk.lt
     obtain⟨hvx,hhvx⟩:=exq (IntKind.i64.wrap (hv7+1))
     have HHVX:=aa hhvx
     go_upto_region 27 with fail
     generalize hw9:World.setCell _ _ _=wA
     have hup:=H9.O.hvs wA hw9
     have HA:=aa hup.1
     have FA:=aa (F9.O.trans hup.2)
     have HFA:=aa hup.2
     clear hw9 hup m3 m5 m6 g5 g6 mr gr hrl hl
     go_wp2_with fail
     go_ret
     cases bd9 with
     |false=>
      obtain⟨q,a1,a2,a3,a4,y',hy',ty'⟩:=HGOOD9.O rfl
      refine⟨FA.O,aJ.mkOk a1 ?_ HA.O (by show _+40+50*k<=n+50*s9.k+0;omega) ⟨y',hy',by rw[den,if_pos HG0.O];exact ty'.fr HFA.O⟩⟩
      rw[a2,IntWalk.wrap64_in _ (by omega)]
      show ((wt q:Int)+1)=((wt q+1:Nat):Int)
      omega
     |true=>
      obtain⟨s',a1,a2⟩:=HBAD9.O rfl
      exact⟨FA.O,aJ.mkBad a1 a2 HD9.O HA.O (by show _<=20000+10*(7-d)+0;omega)⟩
    ·have H5:=aa ra5
     have HB:Hid (aK t E ⟨k,d,f,g,nm⟩= .bad ⟨k+2,d+1,f,g,nm⟩):=by
      show _=_
      rw[HPE.O,HO0.O,if_neg]
      ·rfl
      ·rcases hs with h|h
       ·cases h
       ·rw[h];simp
     clear hs ra5 fr5 KE HO0 c0 c1 c2 f1 f2 hl m3 m5 m6 g5 g6 mr gr hrl
     obtain⟨c0,c1,c2,f1,f2,hl⟩:=H5.O.facts
     go_wp2_with fail
     go_ret
     exact⟨F5.O,aJ.mkBad (s'':=⟨k+2,d,f,g,nm⟩) HB.O rfl rfl H5.O (by show _<=20000+10*(7-d)+0;omega)⟩
 ·have q63:((c:Int)==63)=false:=by rw[beq_eq_false_iff_ne];omega
  have HOP:=aa (ii (t:=t) (s:=⟨k+1,d,f,g,nm⟩) (by rw[HS63.O];exact decide_eq_false h63))
  dsimp only at HOP
  by_cases hg:g=5
  ·have hgl:(5:Int)<=(g:Int):=by omega
   have HB:Hid (aK t E ⟨k,d,f,g,nm⟩= .bad ⟨k+1,d+1,f,g,nm⟩):=by
    show _=_
    rw[HPE.O,HOP.O,if_pos hg]
    rfl
   clear hg HOP
   go_wp2_with fail
   refine (gK H2.O).mono ?_
   rintro e w5 ⟨rfl,h5,ks5,eb5⟩
   have F5:=aa (F2.O.trans ⟨ks5,eb5⟩)
   have H5:=aa h5
   clear h5 ks5 eb5
   go_wp2_with fail
   go_ret
   exact⟨F5.O,aJ.mkBad (s'':=⟨k+1,d,f,g,nm⟩) HB.O rfl rfl H5.O (by show _<=20000+10*(7-d)+0;omega)⟩
  ·have hgl:¬(5:Int)<=(g:Int):=by omega
   have HO:Hid (al t ⟨k+1,d,f,g,nm⟩= .ok (g+1) ⟨k+1,d,f,g+1,nm⟩):=by
    show _=_
    rw[HOP.O,if_neg hg]
   clear HOP
   go_upto_region 17 with fail
   generalize hw9:World.setCell _ _ _=w1'
   obtain⟨hrm,hfrg⟩:=H2.O.grp w1' hw9 (by simp)
   have F1':=aa (F2.O.trans hfrg)
   clear hw9 hfrg
   clear c0 c1 c2 f1 f2 hl m3 m5 m6 g5 g6 mr gr hrl
   obtain⟨av,pn,m',cn,xs,ns,hrm⟩:=hrm
   clear F1 H1
   obtain⟨w1,rfl⟩:=exq (w1')
   have F1:=F1'
   have HRM0:=aa hrm
   have hm5:m'=g:=hrm.lm.trans hrm.len
   obtain⟨m0,hm0⟩:=exq (m)
   have HM0:=aa hm0
   rw[<-hm0]at HFE
   have hm7:m0<=7:=by rw[hm0];exact hm
   clear hm hm0 HM0
   clear m
   obtain⟨m,hmm'⟩:∃x,x=m':=⟨_,rfl⟩
   subst hmm'
   have HRM:=aa hrm
   obtain⟨ys,hys⟩:=exq (ns.map Value.string)
   have HYS:=aa hys
   have HMM:=aa hrm.lm
   have HNM:=aa (yE hrm.nm)
   have HRW:Hid (w1.ownsRow base 9 1 (.slice pn m cn) m ys):=by rw[hys];exact hrm.rn
   have r0:w1.cell? ⟨p,3,none⟩=some (.pointer (some ⟨r,0,none⟩)):=hrm.bk.all.1 3
   have s0:w1.cell? ⟨r,3,none⟩=some (.slice pn m cn):=hrm.br.all.1 3
   have s2:w1.cell? ⟨r,2,none⟩=some (.int .i64 ((g:Int)+1)):=hrm.br.all.1 2
   have hpl:=hrm.bk.lt
   have hrl:=hrm.br.lt
   have hbw1:=hrm.bw
   have hm6:m<=5:=by omega
   clear hrm hys hm5 HRM0
   go_upto_region 18 with fail
   clear s2
   refine aQ (by kernel_rfl) ?_
   refine tk (i:=0) (v:= ?_) rfl ?_ ?_
   rotate_left
   ·intro w'
    go_simp
    try with_reducible rfl
   simp only[Act.put,List.replicate,Array.replicate,lx]
   refine tk (i:=1) (v:= ?_) rfl ?_ ?_
   rotate_left
   ·intro w'
    go_simp
    try with_reducible rfl
   simp only[Act.put,List.replicate,Array.replicate,lx]
   refine tk (i:=2) (v:= ?_) rfl ?_ ?_
   rotate_left
   ·intro w'
    go_simp
    try with_reducible rfl
   simp only[Act.put,List.replicate,Array.replicate,lx]
   refine tk (i:=4) (v:= ?_) rfl ?_ ?_
   rotate_left
   ·intro w'
    go_simp
    try with_reducible rfl
   simp only[Act.put,List.replicate,Array.replicate,lx]
   refine tk (i:=5) (v:= ?_) rfl ?_ ?_
   rotate_left
   ·intro w'
    go_simp
    try with_reducible rfl
   simp only[Act.put,List.replicate,Array.replicate,lx]
   refine tk (i:=6) (v:= ?_) rfl ?_ ?_
   rotate_left
   ·intro w'
    go_simp
    try with_reducible rfl
   simp only[Act.put,List.replicate,Array.replicate,lx]
   refine aV (S:=(fun oi w'=>oi<15 ->w'.cell? ⟨p,3,none⟩=some (.pointer (some ⟨r,0,none⟩))/\w'.cell? ⟨r,3,none⟩=some (.slice pn m cn))) _ _ _ _ ?_
   refine tkJ (i:=3) (v:= ?_) rfl ⟨r0,s0⟩ ?_ ?_
   rotate_left
   ·intro w' hSw
    obtain⟨f1,f2⟩:=hSw
    go_simp
    try with_reducible rfl
   simp only[Act.put,List.replicate,Array.replicate,lx]
   refine tkJ (i:=7) (v:= ?_) rfl ⟨r0,s0⟩ ?_ ?_
   rotate_left
   ·intro w' hSw
    obtain⟨f1,f2⟩:=hSw
    go_simp
    try with_reducible rfl
   simp only[Act.put,List.replicate,Array.replicate,lx]
   refine tkJ (i:=8) (v:= ?_) rfl ⟨r0,s0⟩ ?_ ?_
   rotate_left
   ·intro w' hSw
    obtain⟨f1,f2⟩:=hSw
    go_simp
    try with_reducible rfl
   simp only[Act.put,List.replicate,Array.replicate,lx]
   refine tkJ (i:=9) (v:= ?_) rfl ⟨r0,s0⟩ ?_ ?_
   rotate_left
   ·intro w' hSw
    obtain⟨f1,f2⟩:=hSw
    go_simp
    try with_reducible rfl
   simp only[Act.put,List.replicate,Array.replicate,lx]
   refine tkJ (i:=10) (v:= ?_) rfl ⟨r0,s0⟩ ?_ ?_
   rotate_left
   ·intro w' hSw
    obtain⟨f1,f2⟩:=hSw
    go_simp
    try with_reducible rfl
   simp only[Act.put,List.replicate,Array.replicate,lx]
   refine ae (i:=11) rfl rfl (by kernel_rfl) (fun K hK=> ?_)
   go_simp
   refine hK.O _ _ (fun _=>⟨(HRM.O.bk.drew.alloc _).all.1 3,(HRM.O.br.drew.alloc _).all.1 3⟩) ?_
   clear hK K
   simp only[Act.put,List.replicate,Array.replicate,lx]
   refine ae (i:=12) rfl rfl (by kernel_rfl) (fun K hK=> ?_)
   refine wp_append_lies _ (.tmp 105) (.tmp 106) 131 rfl base 9 i0 _ 1 16 Tryz.underlying131 hi hz0 hz1 hz2 rfl (by decide) (.slice pn m cn) m ys rfl ((World.ownsRow.drew HRW.O).alloc _) ⟨w1.heap.size,0,none⟩ 1 1 [.string ⟨#[]⟩] rfl rfl (bK _ _ _) (by simp[Value.oneCell']) (by decide) (by unfold maxLen;omega) (by omega) (by simp;omega) _ rfl ?_
   intro gb cap w3 hown3 hgrow3 hat3 hlt3
   obtain⟨k3,k4,k5,k6,k7⟩:=HRM.O.mid hgrow3
   refine hK.O _ _ (fun _=>⟨k3,k4⟩) ?_
   clear hK K
   simp only[Act.put,List.replicate,Array.replicate,lx]
   refine ae (i:=13) rfl rfl (by kernel_rfl) (fun K hK=> ?_)
   go_simp
   refine hK.O _ _ (fun _=>⟨k3,k4⟩) ?_
   clear hK K
   simp only[Act.put,List.replicate,Array.replicate,lx]
   refine ae (i:=14) rfl rfl (by kernel_rfl) (fun K hK=> ?_)
   go_simp
   refine hK.O _ _ (fun _=>⟨k3,k4⟩) ?_
   clear hK K
   simp only[Act.put,List.replicate,Array.replicate,lx]
   refine ae (i:=15) rfl rfl (by kernel_rfl) (fun K hK=> ?_)
   go_simp
   refine hK.O _ _ (fun h=>by omega) ?_
   clear hK K
   refine aP (by kernel_rfl) ?_ _
   generalize hw4:World.setCell _ _ _=w4
   have hfin:=HRM.O.fin hgrow3 (by rw[<-HYS.O,<-HMM.O];exact hown3) HNM.O w4 (by rw[<-HMM.O];exact hw4)
   have H4:=aa hfin.1
   have F4:=aa (F1.O.trans hfin.2)
   clear hw4 hfin hown3 hgrow3 hat3 hlt3 k3 k4 k5 k6 k7 r0 s0
   have hw4':True:=trivial
   obtain⟨kk,hkk0⟩:=exq (k+1)
   obtain⟨G,hG⟩:∃x:Nat,x=g+1:=⟨_,rfl⟩
   obtain⟨gg,hgg0⟩:=exq (g+1)
   obtain⟨nn,hnn0⟩:=exq (nm)
   obtain⟨w5,hw5⟩:=exq (w4)
   subst hw5
   have HO:Hid (al t ⟨k+1,d,f,g,nm⟩= .ok G ⟨kk,d,f,gg,nn⟩):=by
    show _=_
    rw[HO.O,hkk0,hG,hgg0,hnn0]
   have H5:Hid (RA w5 p r base t ⟨kk,d,f,gg,nn⟩ false hv n):=by rw[hkk0,hgg0,hnn0];exact H4.O
   have F5:=F4
   have hgg5:gg<=5:=by omega
   have hkk:k+1<=kk:=by omega
   have hkk2:kk<=t.size:=by omega
   have hG1:1<=G:=by omega
   rw[show ((g:Int)+1)=(G:Int) by omega]
   clear hkk0 hgg0 hnn0 hG hpl hrl hbw1
   obtain⟨m3,m5,m6,g5,g6,mr,gr,hrl⟩:=H5.O.more
   obtain⟨c0,c1,c2,f1,f2,hl⟩:=H5.O.facts
   dsimp only at m5
   go_upto_region 22 with fail
   generalize hw9:World.setCell _ _ _=w6
   have hup:=H5.O.dps w6 (d+1) hw9 (by simp)
   have H6:Hid (RA w6 p r base t ⟨kk,d+1,f,gg,nn⟩ false hv n):=hup.1
   have F6:=aa (F5.O.trans hup.2)
   clear hw9 hup c0 c1 c2 f1 f2 hl m3 m5 m6 g5 g6 mr gr hrl
   have KX:=aa (HKX.O hd6 _ _ _ _ H6.O rfl hgg5 (by show kk<=t.size;omega) (by show n<=10000+50*kk;omega))
   go_wp2_with fail
   refine KX.O.mono ?_
   rintro e w7 ⟨hf7,hp7⟩
   obtain⟨y7,hy7,hz7⟩:=hp7.split
   subst hy7
   have F7:=aa (F6.O.trans hf7)
   have hst:∃(bd:Bool) (s7:RS) (hv7:Int) (n7:Nat),RA w7 p r base t s7 bd hv7 n7/\s7.d=d+1/\n7<=20000+10*(7-(d+1))+2/\(bd=true ->∃s9,aK t E ⟨k,d,f,g,nm⟩= .bad s9/\s7.k=s9.k)/\(bd=false ->∃q:Pt,aK t E ⟨k,d,f,g,nm⟩=(aw t s7 41).bind (fun _ s4=> .ok (.wrap q G) {s4 with d:=s4.d-1})/\hv7=(wt q:Int)/\wt q<=1169230260/\n7+50*kk<=n+50*s7.k+1/\∃y':Nat,y7=(y':Int)/\XT w7 r y' (den q)):=by
    rcases hz7 with⟨q,s7,n7,hbm,ra7,hn7,hty7⟩|⟨s9,s7,hv7,n7,hbm,hk7,hd7,ra7,hn7⟩
    ·have hfe:=HFE.O _ _ _ hbm hgg5 (by show kk<=t.size;omega)
     have hd7:=(HEI.O _ _ _ hbm hgg5).2.1
     have hs7:=hfe.sz (show kk<=t.size by omega)
     have hl7:=hfe.le
     dsimp only at hn7 hl7
     refine⟨false,s7,_,n7,ra7,hd7,by omega,(fun h=>by cases h),fun _=>⟨q,?_,rfl,Nat.le_trans hfe.wt (big ht hs7 _ (by omega)),by omega,hty7⟩⟩
     rw[HPE.O,HO.O]
     show (E ⟨kk,d+1,f,gg,nn⟩).bind _=_
     rw[hbm,Res.bind_ok]
    ·dsimp only at hn7 hd7
     refine⟨true,s7,hv7,n7,ra7,hd7,by omega,(fun _=>⟨s9,?_,hk7⟩),(fun h=>by cases h)⟩
     rw[HPE.O,HO.O]
     show (E ⟨kk,d+1,f,gg,nn⟩).bind _=_
     rw[hbm]
     rfl
   obtain⟨bd,s7,hv7,n7,ra7,hd7,hn7,hbad7,hgood7⟩:=hst
   have H7:=aa ra7
   have HD7:=aa hd7
   have HBAD7:=aa hbad7
   have HGOOD7:=aa hgood7
   clear KX hf7 hp7 hz7 ra7 hbad7 hgood7 HO
   obtain⟨m3,m5,m6,g5,g6,mr,gr,hrl⟩:=H7.O.more
   have hl:=H7.O.rk.lt
   replace m5:w7.cell? ⟨p,5,none⟩=some (.int .i64 ((d:Int)+1)):=by rw[m5,hd7];simp
   clear hd7
   have hdw:IntKind.i64.wrap ((d:Int)+1-1)=(d:Int):=by rw[IntKind.wrap_i64];omega
   go_upto_region 25 with fail
   generalize hw9:World.setCell _ _ _=w8
   have hup:=H7.O.dps w8 d hw9 (by first|rfl|simp|omega)
   have H8:=aa hup.1
   have F8:=aa (F7.O.trans hup.2)
   have HF8:=aa hup.2
   clear hw9 hup m3 m5 m6 g5 g6 mr gr hrl hl
   have KE:=aa (cN 41 H8.O ht)
   go_wp2_with fail
   refine KE.O.mono ?_
   rintro e w9 ⟨rfl,fr9,hE⟩
   have F9:=aa (F8.O.trans fr9)
   have hst:∃(bd:Bool) (s9:RS),RA w9 p r base t s9 bd hv7 n7/\s9.d=d/\(bd=true ->∃s',aK t E ⟨k,d,f,g,nm⟩= .bad s'/\s9.k=s'.k)/\(bd=false ->∃q:Pt,aK t E ⟨k,d,f,g,nm⟩= .ok (.wrap q G) s9/\hv7=(wt q:Int)/\wt q<=1169230260/\n7+49+50*kk<=n+50*s9.k/\∃y':Nat,y7=(y':Int)/\XT w9 r y' (den q)):=by
    have hsd:ac t {s7 with d:=d} 41=ac t s7 41:=rfl
    rcases hE with⟨hb,hs,ra9⟩|⟨hb,ra9⟩
    ·obtain⟨q,a1,a2,a3,a4,y',hy',ty'⟩:=HGOOD7.O hb
     refine⟨false,_,ra9,rfl,(fun h=>by cases h),fun _=>⟨q,?_,a2,a3,by show n7+49+50*kk<=n+50*(s7.k+1);omega,y',hy',(ty'.fr HF8.O).fr fr9⟩⟩
     rw[a1]
     unfold aw
     rw[if_pos (by rw[<-hsd];exact hs),Res.bind_ok]
     show Res.ok _ {s7.up with d:=s7.d-1}=_
     rw[HD7.O]
     rfl
    ·refine⟨true,_,ra9,rfl,fun _=> ?_,(fun h=>by cases h)⟩
     cases bd with
     |true=>exact HBAD7.O rfl
     |false=>
      obtain⟨q,a1,a2,a3,a4,_⟩:=HGOOD7.O rfl
      refine⟨s7,?_,rfl⟩
      rw[a1]
      unfold aw
      rw[if_neg]
      ·rfl
      ·rcases hb with hb|hb
       ·cases hb
       ·rw[<-hsd,hb];simp
   obtain⟨bd9,s9,ra9,hd9,hbad9,hgood9⟩:=hst
   have H9:=aa ra9
   have HD9:=aa hd9
   have HBAD9:=aa hbad9
   have HGOOD9:=aa hgood9
   clear KE hE fr9 ra9 hd9 hbad9 hgood9 HBAD7 HGOOD7
   obtain⟨m3,m5,m6,g5,g6,mr,gr,hrl⟩:=H9.O.more
   have hl:=H9.O.rk.lt
   obtain⟨hvx,hhvx⟩:=exq (IntKind.i64.wrap (hv7+1))
   have HHVX:=aa hhvx
   go_upto_region 27 with fail
   generalize hw9:World.setCell _ _ _=wA
   have hup:=H9.O.hvs wA hw9
   have HA:=aa hup.1
   have FA:=aa (F9.O.trans hup.2)
   have HFA:=aa hup.2
   clear hw9 hup m3 m5 m6 g5 g6 mr gr hrl hl
   have hG0:(0:Int)<(G:Int):=by omega
   go_wp2_with fail
   refine (bT 7 _ 0 _ false noB rfl HA.O (by omega)).mono ?_
   rintro e wB ⟨rfl,hB,frB,erB⟩
   have HB:=aa hB
   have FB:=aa (FA.O.trans frB)
   have HFB:=aa frB
   have HER:=aa erB
   clear hB frB erB
   go_wp2_with fail
   go_ret
   cases bd9 with
   |false=>
    obtain⟨q,a1,a2,a3,a4,y',hy',ty'⟩:=HGOOD9.O rfl
    refine⟨FB.O,aJ.mkOk a1 ?_ HB.O (by show _+40+50*k<=n+50*s9.k+0;omega) ⟨_,rfl,by rw[den,if_neg (by omega)];exact XT.grp (by have h:=HER.O;rw[hy']at h;exact h) ((ty'.fr HFA.O).fr HFB.O)⟩⟩
    rw[a2,IntWalk.wrap64_in _ (by omega)]
    show ((wt q:Int)+1)=((wt q+1:Nat):Int)
    omega
   |true=>
    obtain⟨s',a1,a2⟩:=HBAD9.O rfl
    exact⟨FB.O,aJ.mkBad a1 a2 HD9.O HB.O (by show _<=20000+10*(7-d)+0;omega)⟩
end Go.Proofs.YtfnanjbleifjkaaGreatDoor.G
