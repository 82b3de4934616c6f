import Derived.Test.YtfnanjbleifjkaaGreatDoorM41
set_option linter.unusedVariables false
set_option linter.unusedSimpArgs false
set_option maxHeartbeats 8000000
set_option maxRecDepth 100000
namespace Go.Proofs.YtfnanjbleifjkaaGreatDoor.G
open Go.RowKit
def zL:Option Nat ->Int
 |some c=>(c:Int)
 |none=> -1
def z8 (t:ByteArray) (s:RS) (cs:List Bool):Option Nat ->Prop
 |some c=>mU cs c
 |none=>∃x s',an t s.up= .ok x s'/\x.2.2=false/\CN x.1/\AgC cs (sing s.f x.1)
def oU (w':World) (p r base:Nat) (t:ByteArray) (s:RS) (hv:Int) (n:Nat) (e:Ending):Res (Option Nat) ->Prop
 |.ok o s'=>xZ e (fun cs m=>m=zL o/\z8 t s cs o)/\RA w' p r base t s' false hv n
 |.bad s'=>xZ e (fun _ _=>True)/\RA w' p r base t s' true hv n
theorem dl:Tryz.zeroCells213=(sB noB).toArray:=by kernel_rfl
theorem ip:(Tryz.prog.info? 213).map (·.size)=some Tryz.zeroCells213.size:=by rw[dl];exact az rfl
theorem iq:(sB noB).toArray.size=Tryz.zeroCells213.size:=by rw[dl]
theorem jI:Tryz.zeroCells213.all (·.oneCell')=true:=by rw[dl];exact am (ax _)
theorem yh {b:UInt8} (h:b∈eh):b.toNat<128:=by
 revert h
 revert b
 unfold eh
 simp
theorem vX {t:ByteArray} {low:Int} {s s':RS} {c:Nat} (h:cR t low s= .ok (some c) s'):c<128:=by
 unfold cR at h
 split at h
 ·cases h
 ·split at h
  ·cases h
  ·next h128=>
   split at h
   ·split at h
    ·cases h
    ·split at h
     ·cases h
     ·next x s2 he=>
      cases hx:x.2.2 with
      |false=>
       rw[hx]at h
       simp only[Bool.false_eq_true,if_false]at h
       split at h<;>cases h
      |true=>
       rw[hx]at h
       simp only[if_true]at h
       split at h
       ·cases h
       ·cases h
        exact yh ((fo he).1 hx).2
   ·split at h
    ·cases h
    ·cases h;omega
theorem tz {w:World} {p r base:Nat} {t:ByteArray} {s:RS} {hv:Int} {n:Nat} (low:Int) (h:RA w p r base t s false hv n) (ht:t.size<=60):
  Calls Tryz.prog 270 #[.pointer (some ⟨p,0,none⟩),.int .i64 low] w fun e w'=>Fr w w' r base/\oU w' p r base t s hv n e (cR t low s):=by
 have H:=aa h
 have hbw:=h.bw
 clear h
 go_enter Tryz.func270,Tryz.ntmps270
 go_upto_region 1 with fail
 generalize hw2:World.alloc _ _=w2
 have hx2:Ex [] w w2:=by rw[<-hw2];exact (Ex.refl _ _).alloc _
 have hr2:SB w2 w.heap.size noB:=by rw[<-hw2];exact⟨BK.new _ _,rfl⟩
 have H2:=aa (H.O.ex hx2)
 have HR2:=aa hr2
 have F2:=aa (Fr.ex (r:=r) hx2 hbw)
 have KN:=aa (dh H2.O.rk)
 obtain⟨c,hc⟩:=exq (aj t s.k)
 have HC:=aa hc
 rw[<-hc]at KN
 have hc256:c<256:=by rw[hc];exact dt _ _
 clear hw2 hx2 hr2 hc
 go_wp2_with fail
 refine KN.O.mono ?_
 rintro e w3 ⟨rfl,q9,hq9⟩
 have Hw3:Hid (RA w3 p r base t s false hv n):=by rw[hq9];exact H2.O.drewN q9
 have Fw3:Hid (Fr w w3 r base):=F2.O.trans (by rw[hq9];exact Fr.drewN (r:=r) _ _ q9)
 have HRw3:Hid (SB w3 w.heap.size noB):=by rw[hq9];exact HR2.O
 have hz3:w.heap.size<w3.heap.size:=HRw3.O.1.lt
 clear hq9 KN
 obtain⟨k,d,f,g,nm⟩:=s
 obtain⟨c0,c1,c2,f1,f2,hl⟩:=Hw3.O.facts
 dsimp only at c1
 by_cases hlt:k<t.size
 ·have hd:decide (t.size<=k)=false:=decide_eq_false (by omega)
  obtain⟨b,hb,hbc⟩:=tq hlt
  have hcb:c=b.toNat:=HC.O.trans hbc
  have HB:=aa hb
  have HCB:=aa hcb
  have hEM:cR t low ⟨k,d,f,g,nm⟩=if 128<=c then .bad ⟨k,d,f,g,nm⟩
  else if b=92 then
   if 125<low then .bad ⟨k,d,f,g,nm⟩
   else match an t ⟨k+1,d,f,g,nm⟩with
    |.bad s'=> .bad s'
    |.ok x s'=>if 0<=low/\(if x.2.2 then (x.2.1.toNat:Int)else -1)<low then .bad ⟨k+1,d,f,g,nm⟩else .ok (if x.2.2 then some x.2.1.toNat else none) s'
  else if b=91\/b=93\/b=94\/b=45\/(c:Int)<low then .bad ⟨k,d,f,g,nm⟩
  else .ok (some c) ⟨k+1,d,f,g,nm⟩:=by
   unfold cR
   dsimp only
   rw[hb,hcb]
   rfl
  have HEM:=aa hEM
  have hbn:∀x:UInt8,b=x↔c=x.toNat:=fun x=>by rw[hcb,UInt8.toNat_inj]
  clear hb hbc hcb hEM
  by_cases h128:128<=c
  ·have HM:Hid (cR t low ⟨k,d,f,g,nm⟩= .bad ⟨k,d,f,g,nm⟩):=by show _=_;rw[HEM.O,if_pos h128]
   have hd128:decide ((128:Int)<=(c:Int))=true:=decide_eq_true (by omega)
   have hd128n:decide (128<=c)=true:=decide_eq_true h128
   have hi128:(128:Int)<=(c:Int):=by omega
   clear hbn
   go_wp2_with fail
   go_quiet (fail)
   go_upto_region 4 with fail
   generalize hw9:World.setCell _ _ _=w8
   have Hw8:Hid (RA w8 p r base t ⟨k,d,f,g,nm⟩ true hv n):=(((Hw3.O.drewN _)).bads w8 hw9).1
   have hfr9:=(((Hw3.O.drewN _)).bads w8 hw9).2
   have Fw8:=aa ((Fw3.O.trans (Fr.drewN (r:=r) _ _ _)).trans hfr9)
   have HRw8:=aa (hfr9.ks _ _ HRw3.O)
   have hlt9:=HRw8.O.1.lt
   clear hw9 hfr9
   clear c0 c1 c2 f1 f2 hl
   have hfin:=be (cs:=noB) Fw8.O HRw8.O Hw8.O (Nat.le_refl _) hbw rfl
   have hl9:=(Fr.setRow (base:=base) (cs:=noB) HRw8.O rfl hbw).2.2.load
   rw[<-dl]at hfin hl9
   have HFIN:=aa hfin
   have HL9:=aa hl9
   clear hfin hl9
   go_wp2_with (refine wpList_store_row rfl 213 _ _ rfl w.heap.size Tryz.zeroCells213 rfl rfl 213 _ HRw8.O.1 ip iq jI ?_)
   refine bodyPost_ret (ap rfl rfl HL9.O) rfl ⟨HFIN.O.1,?_⟩
   rw[show cR t low ⟨k,d,f,g,nm⟩=_ from HM.O]
   exact⟨⟨noB,_,rfl,by rw[dl];rfl,trivial⟩,HFIN.O.2⟩
  ·have hd128:decide ((128:Int)<=(c:Int))=false:=decide_eq_false (by omega)
   have hd128n:decide (128<=c)=false:=decide_eq_false h128
   have hi128:¬(128:Int)<=(c:Int):=by omega
   by_cases h92:c=92
   ·have hb92:b=92:=(hbn 92).2 h92
    have q92:((c:Int)==92)=true:=by rw[h92];rfl
    clear hbn
    by_cases hlow:125<low
    ·have HM:Hid (cR t low ⟨k,d,f,g,nm⟩= .bad ⟨k,d,f,g,nm⟩):=by show _=_;rw[HEM.O,if_neg h128,if_pos hb92,if_pos hlow]
     clear h92
     go_wp2_with fail
     go_quiet (fail)
     go_upto_region 8 with fail
     generalize hw9:World.setCell _ _ _=w8
     have Hw8:Hid (RA w8 p r base t ⟨k,d,f,g,nm⟩ true hv n):=(((Hw3.O.drewN _)).bads w8 hw9).1
     have hfr9:=(((Hw3.O.drewN _)).bads w8 hw9).2
     have Fw8:=aa ((Fw3.O.trans (Fr.drewN (r:=r) _ _ _)).trans hfr9)
     have HRw8:=aa (hfr9.ks _ _ HRw3.O)
     have hlt9:=HRw8.O.1.lt
     clear hw9 hfr9
     clear c0 c1 c2 f1 f2 hl
     have hfin:=be (cs:=noB) Fw8.O HRw8.O Hw8.O (Nat.le_refl _) hbw rfl
     have hl9:=(Fr.setRow (base:=base) (cs:=noB) HRw8.O rfl hbw).2.2.load
     rw[<-dl]at hfin hl9
     have HFIN:=aa hfin
     have HL9:=aa hl9
     clear hfin hl9
     go_wp2_with (refine wpList_store_row rfl 213 _ _ rfl w.heap.size Tryz.zeroCells213 rfl rfl 213 _ HRw8.O.1 ip iq jI ?_)
     refine bodyPost_ret (ap rfl rfl HL9.O) rfl ⟨HFIN.O.1,?_⟩
     rw[show cR t low ⟨k,d,f,g,nm⟩=_ from HM.O]
     exact⟨⟨noB,_,rfl,by rw[dl];rfl,trivial⟩,HFIN.O.2⟩
    ·have HM:Hid (cR t low ⟨k,d,f,g,nm⟩=match an t ⟨k+1,d,f,g,nm⟩with
      |.bad s'=> .bad s'
      |.ok x s'=>if 0<=low/\(if x.2.2 then (x.2.1.toNat:Int)else -1)<low then .bad ⟨k+1,d,f,g,nm⟩else .ok (if x.2.2 then some x.2.1.toNat else none) s'):=by show _=_;rw[HEM.O,if_neg h128,if_pos hb92,if_neg hlow]
     clear h92
     go_wp2_with fail
     go_quiet (fail)
     go_upto_region 10 with fail
     generalize hw9:World.setCell _ _ _=w4
     have Hw4:Hid (RA w4 p r base t ⟨k+1,d,f,g,nm⟩ false hv n):=((Hw3.O.drewN _).up2 w4 hw9 (by simp)).1
     have hfr9:=((Hw3.O.drewN _).up2 w4 hw9 (by simp)).2
     have Fw4:=aa ((Fw3.O.trans (Fr.drewN (r:=r) _ _ _)).trans hfr9)
     have HRw4:=aa (hfr9.ks _ _ HRw3.O)
     clear hw9 hfr9 c0 c1 c2 f1 f2 hl
     obtain⟨c0,c1,c2,f1,f2,hl⟩:=Hw4.O.facts
     have c1:w4.cell? ⟨p,1,none⟩=some (.int .i64 ((k:Int)+1)):=by simpa using c1
     have KE:=aa (lH Hw4.O ht)
     go_wp2_with fail
     refine KE.O.mono ?_
     rintro e w5 ⟨hf5,hp5⟩
     clear c0 c1 c2 f1 f2 hl KE
     have Fw5:=aa (Fw4.O.trans hf5)
     have HRw5:=aa (hf5.ks _ _ HRw4.O)
     have hz5:=Fw5.O.eb.size
     have hz5b:=HRw5.O.1.lt
     have hEsc:∃bd sx cs m,an t ⟨k+1,d,f,g,nm⟩=an t ⟨k+1,d,f,g,nm⟩/\cs.length=129/\e= .returned (.tuple #[.agg (sB cs).toArray,.int .i64 m])/\RA w5 p r base t sx bd hv n/\(bd=true ->cR t low ⟨k,d,f,g,nm⟩=Res.bad sx)/\(bd=false ->sx=⟨k+2,d,f,g,nm⟩/\cR t low ⟨k,d,f,g,nm⟩=(if 0<=low/\m<low then Res.bad ⟨k+1,d,f,g,nm⟩else Res.ok (if m= -1 then none else some m.toNat) sx)/\ -1<=m/\z8 t ⟨k,d,f,g,nm⟩ cs (if m= -1 then none else some m.toNat)):=by
      have hm:=HM.O
      revert hp5 hm
      cases hE:an t ⟨k+1,d,f,g,nm⟩with
      |bad s'=>
       rintro⟨⟨cs,m,hcs,he,_⟩,hra⟩ hm
       exact⟨true,s',cs,m,rfl,hcs,he,hra,fun _=>hm,fun h=>by cases h⟩
      |ok x s'=>
       rintro⟨⟨cs,m,hcs,he,hv9⟩,hra⟩ hm
       have hs':=(fo hE).2
       refine⟨false,s',cs,m,rfl,hcs,he,hra,(fun h=>by cases h),fun _=>⟨hs',?_,?_,?_⟩⟩
       ·rw[hm,hv9.1]
        dsimp only
        cases x.2.2 with
        |true=>
         simp only[if_true]
         rw[if_neg (show ¬(x.2.1.toNat:Int)= -1 by omega),Int.toNat_natCast]
        |false=>simp only[Bool.false_eq_true,if_false,if_true]
       ·rw[hv9.1];split<;>omega
       ·obtain⟨g1,g2,g3⟩:=hv9
        cases hx:x.2.2 with
        |true=>
         rw[hx]at g1
         simp only[if_true]at g1
         rw[g1,if_neg (by omega),Int.toNat_natCast]
         exact g2 hx
        |false=>
         rw[hx]at g1
         simp only[Bool.false_eq_true,if_false]at g1
         rw[g1,if_pos rfl]
         have g4:=g3 hx
         rw[hs']at g4
         exact⟨x,s',hE,hx,g4.1,g4.2⟩
     obtain⟨bd,sx,cs,m,_,hcs,rfl,hra5,hbad,hgood⟩:=hEsc
     obtain⟨w7,hw7⟩:=exq ((w5.alloc (Obj.cells (sB noB).toArray 213)).setRow w5.heap.size (sB cs).toArray)
     obtain⟨a1,a2,a3,a4,a5⟩:=eG Fw5.O hra5 hcs hw7 hbw
     have Hw7:=aa a1
     have Fw7:=aa a2
     have HS7:=aa a3
     have HN5:=aa a4
     have HRw7:=aa (a5 _ _ HRw5.O)
     have HW7:=aa hw7
     have HBAD:=aa hbad
     have HGOOD:=aa hgood
     obtain⟨V,hV⟩:=exq (sB cs)
     have HIV:Hid ((Tryz.prog.info? 213).map (·.size)=some V.length):=by rw[hV];exact aC hcs
     have HJV:Hid ((Tryz.prog.info? 213).map (·.size)=some V.toArray.size):=by rw[hV];exact az hcs
     have HAV:Hid (V.toArray.all (·.oneCell')=true):=by rw[hV];exact am (ax _)
     have HOV:Hid ((sB noB).toArray.size=V.toArray.size):=by show _=_;rw[List.size_toArray,List.size_toArray,hV,ah,ah,hcs];rfl
     have HVV:=aa hV
     rw[<-hV]at HW7 ⊢
     clear hw7 a1 a2 a3 a4 a5 hp5 hf5 hra5 hV hbad hgood HM
     go_upto_region 12 with (refine wpList_store_row rfl 213 _ _ rfl (w5.heap.size) V.toArray rfl rfl 213 _ HN5.O HJV.O HOV.O HAV.O ?_)
     rw[show (w5.alloc (Obj.cells Tryz.zeroCells213 213)).setRow w5.heap.size V.toArray=w7 from HW7.O.symm]
     clear HW7 HN5
     have hlt7:=HS7.O.1.lt
     have hz7:=Fw7.O.eb.size
     have HRG7:Hid (World.rangeAt w7 w5.heap.size 0 V):=by rw[HVV.O];exact HS7.O.1.rangeL
     obtain⟨c0,c1,c2,f1,f2,hl⟩:=Hw7.O.facts
     have hTAIL:∃o:Res (Option Nat),cR t low ⟨k,d,f,g,nm⟩=o:=⟨_,rfl⟩
     cases bd with
     |true=>
      have HM:=aa (HBAD.O rfl)
      clear HBAD HGOOD hTAIL
      clear c0 c1 f1 f2
      have hfin:=be (cs:=cs) Fw7.O HRw7.O Hw7.O (Nat.le_refl _) hbw hcs
      have hl9:=(Fr.setRow (base:=base) (cs:=cs) HRw7.O hcs hbw).2.2.load
      rw[<-HVV.O]at hfin hl9
      have HFIN:=aa hfin
      have HL9:=aa hl9
      clear hfin hl9
      go_wp2_with (first|refine wpList_load_mid rfl 213 _ rfl (w5.heap.size) 0 rfl V _ HRG7.O Tryz.underlying213 rfl HIV.O ?_|refine wpList_store_row rfl 213 _ _ rfl (w.heap.size) V.toArray rfl rfl 213 _ HRw7.O.1 HJV.O HOV.O HAV.O ?_)
      refine bodyPost_ret (ap rfl rfl HL9.O) rfl ⟨HFIN.O.1,?_⟩
      rw[show cR t low ⟨k,d,f,g,nm⟩=_ from HM.O]
      exact⟨⟨cs,_,hcs,by rw[HVV.O];rfl,trivial⟩,HFIN.O.2⟩
     |false=>
      obtain⟨rfl,hm9,hm1,hes9⟩:=HGOOD.O rfl
      have HES:=aa hes9
      clear hes9
      have HM:=aa hm9
      clear HBAD HGOOD hTAIL hm9
      by_cases hlo:0<=low
      ·by_cases hml:m<low
       ·have HMB:Hid (cR t low ⟨k,d,f,g,nm⟩= .bad ⟨k+1,d,f,g,nm⟩):=by show _=_;rw[HM.O,if_pos ⟨hlo,hml⟩]
        clear HM
        go_upto_region 14 with fail
        generalize hw9:World.setCell _ _ _=w8
        have hup:=Hw7.O.ats w8 (k+1) hw9 (by simp)
        have Hw8:=aa hup.1
        have Fw8:=aa (Fw7.O.trans hup.2)
        have HRw8:=aa (hup.2.ks _ _ HRw7.O)
        have HS8:=aa (hup.2.ks _ _ HS7.O)
        clear hw9 hup c0 c1 c2 f1 f2 hl
        obtain⟨c0,c1,c2,f1,f2,hl⟩:=Hw8.O.facts
        go_upto_region 15 with fail
        generalize hw9:World.setCell _ _ _=w9
        have hup:=Hw8.O.bads w9 hw9
        have Hw9:=aa hup.1
        have Fw9:=aa (Fw8.O.trans hup.2)
        have HRw9:=aa (hup.2.ks _ _ HRw8.O)
        have HS9:=aa (hup.2.ks _ _ HS8.O)
        have hlt9:=HS9.O.1.lt
        have hlt9b:=HRw9.O.1.lt
        have HRG9:Hid (World.rangeAt w9 w5.heap.size 0 V):=by rw[HVV.O];exact HS9.O.1.rangeL
        clear hw9 hup c0 c1 c2 f1 f2 hl HRG7
        have hfin:=be (cs:=cs) Fw9.O HRw9.O Hw9.O (Nat.le_refl _) hbw hcs
        have hl9:=(Fr.setRow (base:=base) (cs:=cs) HRw9.O hcs hbw).2.2.load
        rw[<-HVV.O]at hfin hl9
        have HFIN:=aa hfin
        have HL9:=aa hl9
        clear hfin hl9
        go_wp2_with (first|refine wpList_load_mid rfl 213 _ rfl (w5.heap.size) 0 rfl V _ HRG9.O Tryz.underlying213 rfl HIV.O ?_|refine wpList_store_row rfl 213 _ _ rfl (w.heap.size) V.toArray rfl rfl 213 _ HRw9.O.1 HJV.O HOV.O HAV.O ?_)
        refine bodyPost_ret (ap rfl rfl HL9.O) rfl ⟨HFIN.O.1,?_⟩
        rw[show cR t low ⟨k,d,f,g,nm⟩=_ from HMB.O]
        exact⟨⟨cs,_,hcs,by rw[HVV.O];rfl,trivial⟩,HFIN.O.2⟩
       ·have HMB:Hid (cR t low ⟨k,d,f,g,nm⟩= .ok (if m= -1 then none else some m.toNat) ⟨k+2,d,f,g,nm⟩):=by show _=_;rw[HM.O,if_neg (fun h=>hml h.2)]
        clear HM
        have hfin:=be (cs:=cs) Fw7.O HRw7.O Hw7.O (Nat.le_refl _) hbw hcs
        have hl9:=(Fr.setRow (base:=base) (cs:=cs) HRw7.O hcs hbw).2.2.load
        rw[<-HVV.O]at hfin hl9
        have HFIN:=aa hfin
        have HL9:=aa hl9
        clear hfin hl9
        go_wp2_with (first|refine wpList_load_mid rfl 213 _ rfl (w5.heap.size) 0 rfl V _ HRG7.O Tryz.underlying213 rfl HIV.O ?_|refine wpList_store_row rfl 213 _ _ rfl (w.heap.size) V.toArray rfl rfl 213 _ HRw7.O.1 HJV.O HOV.O HAV.O ?_)
        refine bodyPost_ret (ap rfl rfl HL9.O) rfl ⟨HFIN.O.1,?_⟩
        rw[show cR t low ⟨k,d,f,g,nm⟩=_ from HMB.O]
        exact⟨⟨cs,_,hcs,by rw[HVV.O];rfl,⟨by split<;>simp[zL]<;>omega,HES.O⟩⟩,HFIN.O.2⟩
      ·have HMB:Hid (cR t low ⟨k,d,f,g,nm⟩= .ok (if m= -1 then none else some m.toNat) ⟨k+2,d,f,g,nm⟩):=by show _=_;rw[HM.O,if_neg (fun h=>hlo h.1)]
       clear HM
       have hfin:=be (cs:=cs) Fw7.O HRw7.O Hw7.O (Nat.le_refl _) hbw hcs
       have hl9:=(Fr.setRow (base:=base) (cs:=cs) HRw7.O hcs hbw).2.2.load
       rw[<-HVV.O]at hfin hl9
       have HFIN:=aa hfin
       have HL9:=aa hl9
       clear hfin hl9
       go_wp2_with (first|refine wpList_load_mid rfl 213 _ rfl (w5.heap.size) 0 rfl V _ HRG7.O Tryz.underlying213 rfl HIV.O ?_|refine wpList_store_row rfl 213 _ _ rfl (w.heap.size) V.toArray rfl rfl 213 _ HRw7.O.1 HJV.O HOV.O HAV.O ?_)
       refine bodyPost_ret (ap rfl rfl HL9.O) rfl ⟨HFIN.O.1,?_⟩
       rw[show cR t low ⟨k,d,f,g,nm⟩=_ from HMB.O]
       exact⟨⟨cs,_,hcs,by rw[HVV.O];rfl,⟨by split<;>simp[zL]<;>omega,HES.O⟩⟩,HFIN.O.2⟩
   ·have hb92:b≠92:=fun e=>h92 ((hbn 92).1 e)
    have q92:((c:Int)==92)=false:=by rw[beq_eq_false_iff_ne];omega
    have hbn2:(b=91\/b=93\/b=94\/b=45\/(c:Int)<low)↔(c=91\/c=93\/c=94\/c=45\/(c:Int)<low):=by
     rw[hbn 91,hbn 93,hbn 94,hbn 45]
     rfl
    have hc128:c<128:=by omega
    by_cases hbad:c=91\/c=93\/c=94\/c=45\/(c:Int)<low
    ·have HM:Hid (cR t low ⟨k,d,f,g,nm⟩= .bad ⟨k,d,f,g,nm⟩):=by show _=_;rw[HEM.O,if_neg h128,if_neg hb92,if_pos (hbn2.2 hbad)]
     have hcs:(c=91)\/(c≠91/\c=93)\/(c≠91/\c≠93/\c=94)\/(c≠91/\c≠93/\c≠94/\c=45)\/(c≠91/\c≠93/\c≠94/\c≠45/\(c:Int)<low):=by omega
     clear hbn hbn2 hbad HEM
     rcases hcs with a|⟨a,b'⟩|⟨a,b',c'⟩|⟨a,b',c',d'⟩|⟨a,b',c',d',e'⟩
     case' inl=>
      have q91:((c:Int)==91)=true:=by rw[a];rfl
      clear a
     case' inr.inl=>
      have q91:((c:Int)==91)=false:=by rw[beq_eq_false_iff_ne];omega
      have q93:((c:Int)==93)=true:=by rw[b'];rfl
      clear a b'
     case' inr.inr.inl=>
      have q91:((c:Int)==91)=false:=by rw[beq_eq_false_iff_ne];omega
      have q93:((c:Int)==93)=false:=by rw[beq_eq_false_iff_ne];omega
      have q94:((c:Int)==94)=true:=by rw[c'];rfl
      clear a b' c'
     case' inr.inr.inr.inl=>
      have q91:((c:Int)==91)=false:=by rw[beq_eq_false_iff_ne];omega
      have q93:((c:Int)==93)=false:=by rw[beq_eq_false_iff_ne];omega
      have q94:((c:Int)==94)=false:=by rw[beq_eq_false_iff_ne];omega
      have q45:((c:Int)==45)=true:=by rw[d'];rfl
      clear a b' c' d'
     case' inr.inr.inr.inr=>
      have q91:((c:Int)==91)=false:=by rw[beq_eq_false_iff_ne];omega
      have q93:((c:Int)==93)=false:=by rw[beq_eq_false_iff_ne];omega
      have q94:((c:Int)==94)=false:=by rw[beq_eq_false_iff_ne];omega
      have q45:((c:Int)==45)=false:=by rw[beq_eq_false_iff_ne];omega
      clear a b' c' d'
     all_goals
      go_wp2_with fail
      go_quiet (fail)
      go_upto_region 18 with fail
      generalize hw9:World.setCell _ _ _=w8
      have Hw8:Hid (RA w8 p r base t ⟨k,d,f,g,nm⟩ true hv n):=(((Hw3.O.drewN _)).bads w8 hw9).1
      have hfr9:=(((Hw3.O.drewN _)).bads w8 hw9).2
      have Fw8:=aa ((Fw3.O.trans (Fr.drewN (r:=r) _ _ _)).trans hfr9)
      have HRw8:=aa (hfr9.ks _ _ HRw3.O)
      have hlt9:=HRw8.O.1.lt
      clear hw9 hfr9
      clear c0 c1 c2 f1 f2 hl
      have hfin:=be (cs:=noB) Fw8.O HRw8.O Hw8.O (Nat.le_refl _) hbw rfl
      have hl9:=(Fr.setRow (base:=base) (cs:=noB) HRw8.O rfl hbw).2.2.load
      rw[<-dl]at hfin hl9
      have HFIN:=aa hfin
      have HL9:=aa hl9
      clear hfin hl9
      go_wp2_with (refine wpList_store_row rfl 213 _ _ rfl w.heap.size Tryz.zeroCells213 rfl rfl 213 _ HRw8.O.1 ip iq jI ?_)
      refine bodyPost_ret (ap rfl rfl HL9.O) rfl ⟨HFIN.O.1,?_⟩
      rw[show cR t low ⟨k,d,f,g,nm⟩=_ from HM.O]
      exact⟨⟨noB,_,rfl,by rw[dl];rfl,trivial⟩,HFIN.O.2⟩
    ·have HM:Hid (cR t low ⟨k,d,f,g,nm⟩= .ok (some c) ⟨k+1,d,f,g,nm⟩):=by show _=_;rw[HEM.O,if_neg h128,if_neg hb92,if_neg (fun h=>hbad (hbn2.1 h))]
     have q91:((c:Int)==91)=false:=by rw[beq_eq_false_iff_ne];omega
     have q93:((c:Int)==93)=false:=by rw[beq_eq_false_iff_ne];omega
     have q94:((c:Int)==94)=false:=by rw[beq_eq_false_iff_ne];omega
     have q45:((c:Int)==45)=false:=by rw[beq_eq_false_iff_ne];omega
     have hlw:¬(c:Int)<low:=by omega
     have K1:=aa (fun W=>pw c W hc128)
     clear hbn hbn2 hbad HEM
     go_wp2_with fail
     go_quiet (fail)
     go_upto_region 20 with fail
     generalize hw9:World.setCell _ _ _=w8
     have hup:=(Hw3.O.drewN _).up2 w8 hw9 (by simp)
     have Hw8:Hid (RA w8 p r base t ⟨k+1,d,f,g,nm⟩ false hv n):=hup.1
     have Fw8:=aa ((Fw3.O.trans (Fr.drewN (r:=r) _ _ _)).trans hup.2)
     have HRw8:=aa (hup.2.ks _ _ HRw3.O)
     have hlt8:=HRw8.O.1.lt
     clear hw9 hup c0 c1 c2 f1 f2 hl
     go_wp2_with fail
     refine (K1.O _).mono ?_
     rintro e w9 ⟨rfl,hx9⟩
     have Hw9:=aa (Hw8.O.ex hx9)
     have Fw9:=aa (Fw8.O.trans (Fr.ex (r:=r) hx9 (by omega)))
     have HRw9:=aa (HRw8.O.ex hx9 (by simp))
     clear hx9
     obtain⟨U,hU⟩:=exq (sB (gO c))
     have HIU:Hid ((Tryz.prog.info? 213).map (·.size)=some U.length):=by rw[hU];exact aC (cC c)
     have HJU:Hid ((Tryz.prog.info? 213).map (·.size)=some U.toArray.size):=by rw[hU];exact az (cC c)
     have HAU:Hid (U.toArray.all (·.oneCell')=true):=by rw[hU];exact am (ax _)
     have HOU:Hid ((sB noB).toArray.size=U.toArray.size):=by show _=_;rw[List.size_toArray,List.size_toArray,hU,ah,ah,(cC c)];rfl
     have HVU:=aa hU
     rw[<-hU]
     clear hU
     have hfin:=be (cs:=(gO c)) Fw9.O HRw9.O Hw9.O (Nat.le_refl _) hbw (cC c)
     have hl9:=(Fr.setRow (base:=base) (cs:=(gO c)) HRw9.O (cC c) hbw).2.2.load
     rw[<-HVU.O]at hfin hl9
     have HFIN:=aa hfin
     have HL9:=aa hl9
     clear hfin hl9
     go_wp2_with (refine wpList_store_row rfl 213 _ _ rfl (w.heap.size) U.toArray rfl rfl 213 _ HRw9.O.1 HJU.O HOU.O HAU.O ?_)
     refine bodyPost_ret (ap rfl rfl HL9.O) rfl ⟨HFIN.O.1,?_⟩
     rw[show cR t low ⟨k,d,f,g,nm⟩=_ from HM.O]
     exact⟨⟨(gO c),_,(cC c),by rw[HVU.O];rfl,rfl,mj c hc128⟩,HFIN.O.2⟩
 ·have hd:decide (t.size<=k)=true:=decide_eq_true (by omega)
  have HM:Hid (cR t low ⟨k,d,f,g,nm⟩= .bad ⟨k,d,f,g,nm⟩):=by
   show _=_
   unfold cR ai
   rw[Array.getElem?_eq_none (by show t.size<=k;omega)]
  go_wp2_with fail
  go_quiet (fail)
  go_upto_region 4 with fail
  generalize hw9:World.setCell _ _ _=w8
  have Hw8:Hid (RA w8 p r base t ⟨k,d,f,g,nm⟩ true hv n):=(((Hw3.O.drewN _)).bads w8 hw9).1
  have hfr9:=(((Hw3.O.drewN _)).bads w8 hw9).2
  have Fw8:=aa ((Fw3.O.trans (Fr.drewN (r:=r) _ _ _)).trans hfr9)
  have HRw8:=aa (hfr9.ks _ _ HRw3.O)
  have hlt9:=HRw8.O.1.lt
  clear hw9 hfr9
  clear c0 c1 c2 f1 f2 hl
  have hfin:=be (cs:=noB) Fw8.O HRw8.O Hw8.O (Nat.le_refl _) hbw rfl
  have hl9:=(Fr.setRow (base:=base) (cs:=noB) HRw8.O rfl hbw).2.2.load
  rw[<-dl]at hfin hl9
  have HFIN:=aa hfin
  have HL9:=aa hl9
  clear hfin hl9
  go_wp2_with (refine wpList_store_row rfl 213 _ _ rfl w.heap.size Tryz.zeroCells213 rfl rfl 213 _ HRw8.O.1 ip iq jI ?_)
  refine bodyPost_ret (ap rfl rfl HL9.O) rfl ⟨HFIN.O.1,?_⟩
  rw[show cR t low ⟨k,d,f,g,nm⟩=_ from HM.O]
  exact⟨⟨noB,_,rfl,by rw[dl];rfl,trivial⟩,HFIN.O.2⟩
end Go.Proofs.YtfnanjbleifjkaaGreatDoor.G
