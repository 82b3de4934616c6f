import Derived.Test.YtfnanjbleifjkaaGreatDoorM39
import Derived.Test.YtfnanjbleifjkaaGreatDoorM44
import Derived.Test.YtfnanjbleifjkaaGreatDoorM37
import Derived.Test.YtfnanjbleifjkaaGreatDoorM28
set_option linter.unusedVariables false
set_option linter.unusedSimpArgs false
set_option maxHeartbeats 8000000
set_option maxRecDepth 100000
namespace Go.Proofs.YtfnanjbleifjkaaGreatDoor.G
variable {t:ByteArray} {s s':RS}
open Go.RowKit
theorem ze:(an t s).st.d=s.d:=by
 unfold an
 split
 ·rfl
 ·split
  ·rfl
  ·split<;>rfl
theorem tR {but:List UInt8}:(aO t but s).st.d=s.d:=by
 unfold aO
 split
 ·rfl
 ·split<;>rfl
theorem ly {α β:Type} {m:Res α} {f:α ->RS ->Res β} {d:Nat} (h:m.st.d=d) (hf:∀a s',s'.d=d ->(f a s').st.d=d):(m.bind f).st.d=d:=by
 cases m with
 |bad s=>exact h
 |ok a s=>exact hf a s h
theorem zM {a:UInt8}:(au t a s).st.d=s.d:=by
 unfold au
 dsimp only
 obtain⟨x,hx⟩:=exq ((decide (a.toNat<=125)&&ac t s 92))
 rw[<-hx]
 have e:(if x=true then s.up else s).d=s.d:=by cases x<;>rfl
 generalize (if x=true then s.up else s)=u at e
 split
 ·exact e
 ·split
  ·exact e
  ·split
   ·split
    ·exact e
    ·exact e
   ·rw[tR];exact e
theorem uh {b:UInt8}:(bg t b s).st.d=s.d:=by
 unfold bg
 split
 ·exact ly (d:=s.d) zM (fun _ _ h=>h)
 ·rfl
theorem wQ:(aI t s).st.d=s.d:=by
 unfold aI
 split
 ·refine ly (d:=s.d) ze (fun x s' h=> ?_)
  split
  ·rw[uh];exact h
  ·exact h
 ·exact ly (d:=s.d) tR (fun x s' h=>by rw[uh];exact h)
theorem qW:∀(n:Nat) (c:Cls) (s:RS),(bW t n c s).st.d=s.d
 |0,c,s=>rfl
 |n+1,c,s=>by
  unfold bW
  split
  ·rfl
  ·exact ly (d:=s.d) wQ (fun x s' h=>by rw[qW n];exact h)
theorem yx (h:dM t (s.up.took t 94)= .bad s'):s'.d=s.d:=by
 have hd:(s.up.took t 94).d=s.d:=by unfold RS.took;split<;>rfl
 have h1:(dM t (s.up.took t 94)).st.d=s.d:=by
  unfold dM
  exact ly (d:=s.d) (wQ.trans hd) (fun x s' h=>by rw[qW];exact h)
 rw[h]at h1
 exact h1
theorem o7:∀s',an t s= .bad s' ->s'.d=s.d:=fun s' h=>by
 have h1:=ze (t:=t) (s:=s)
 rw[h]at h1
 exact h1
theorem xr {b:UInt8} (h:plB b=true):b.toNat<128:=by
 unfold plB at h
 simp at h
 exact h.1
theorem sS (b:UInt8) (x y:Res UInt8):(if 128<=b.toNat\/b∈iF then y else x)=if plB b=true then x else y:=by
 have h:plB b=true↔¬(128<=b.toNat\/b∈iF):=by
  unfold plB
  rw[Bool.and_eq_true,decide_eq_true_eq,Bool.not_eq_true',List.contains_eq_mem,decide_eq_false_iff_not]
  show b.toNat<128/\¬b∈iF↔_
  rw[not_or]
  constructor
  ·rintro⟨h1,h2⟩;exact⟨by omega,h2⟩
  ·rintro⟨h1,h2⟩;exact⟨by omega,h2⟩
 by_cases hp:plB b=true
 ·rw[if_pos hp,if_neg (h.1 hp)]
 ·rw[if_neg hp,if_pos (Classical.not_not.1 (fun h9=>hp (h.2 h9)))]
theorem zl {es:List Bool} (h:es=noB.map (!·)):AgC es o6:=by
 have h0:AgC noB ⟨0,0,false⟩:=⟨CN.zero _,fun r hr=>by rw[sM,pm,Bool.and_false]⟩
 exact h0.inv (fun r hr=>by rw[h];exact jS noB rfl r hr)
theorem yi {x:Cls×UInt8×Bool} (h:an t s= .ok x s') (hx:x.2.2=true):x.1=cv x.2.1.toNat/\x.2.1∈eh:=by
 unfold an at h
 split at h
 ·cases h
 ·split at h
  ·next hm=>cases h;exact⟨rfl,hm⟩
  ·split at h
   ·cases h
   ·cases h;cases hx
theorem zv {x:Cls×UInt8×Bool} {cs:List Bool} (h:an t s= .ok x s') (h1:x.2.2=true ->mU cs x.2.1.toNat) (h2:x.2.2=false ->CN x.1/\AgC cs (sing s'.f x.1)):AgC cs (sing s'.f x.1):=by
 cases hx:x.2.2 with
 |true=>
  obtain⟨e1,e2⟩:=yi h hx
  obtain⟨e3,e4⟩:=sn e2
  rw[e1]
  exact (h1 hx).sing e3 e4 _
 |false=>exact (h2 hx).2
theorem zm {p r base d0 m:Nat} {E:RS ->Res Pt} (ht:t.size<=60) (hd6:d0<=6) (hm:m<=7) (hE:ja t m E) (hEi:EI E) (hX:d0<6 ->tj t p r base (d0+1) E) (hEnd:d0<6 ->∀s':RS,s'.d=d0+1 ->s'.k=t.size ->E s'= .ok (.alt [.seq []]) s'):vx t p r base d0 E:=by
 intro w s hv n h hsd hg5 hks hn
 have Hw:=aa h
 have Fw:=aa (Fr.refl (r:=r) w base)
 have hbw:=h.bw
 have HGR:=aa (fun (W:World) (hW:RA W p r base t s false hv n) (h40:ac t s 40=true)=>uS (E:=E) hW ht (by omega) hg5 h40 hn hm hE hEi (by rw[hsd];exact hX) (by rw[hsd];exact hEnd))
 have HST:=aa (fun (W:World) (hW:RA W p r base t s false hv n) (h91:ac t s 91=true)=>ua hW ht (by omega) h91)
 obtain⟨b,hb,hbc⟩:=qh hks
 have hAM:bp t E s=if b=40 then aK t E s else if b=91 then (fj t s).bind fun c s'=> .ok (.single c) s' else if b=46 then .ok (.single o6) s.up
   else if b=92 then (an t s.up).bind fun y s'=> .ok (.single (sing s'.f y.1)) s' else (aO t iF s).bind fun b s'=> .ok (.single (sing s'.f (cv b.toNat))) s':=by simp only[bp,hb]
 have HAM:=aa hAM
 have HB:=aa hb
 obtain⟨c,hc⟩:=exq (aj t s.k)
 have hcb:c=b.toNat:=hc.trans hbc
 have hbn:∀x:UInt8,b=x↔c=x.toNat:=fun x=>by rw[hcb,UInt8.toNat_inj]
 have HCB:=aa hcb
 have sx:∀x:UInt8,x.toNat≠0 ->ac t s x=decide (c=x.toNat):=fun x hx=>by rw[hc];exact bU hx
 have HSX:=aa sx
 have KN:=aa (bG h)
 rw[<-hc]at KN
 have hc256:c<256:=by rw[hc];exact dt _ _
 clear h hE hEi hX hEnd hb hbc hAM hc hcb sx
 obtain⟨k,d,f,g,nm⟩:=s
 dsimp only at hsd hg5 hks hn HGR HST
 go_enter Tryz.func182,Tryz.ntmps182
 go_wp2_with fail
 refine KN.O.mono ?_
 rintro e w1 ⟨rfl,ra1,fr1,_⟩
 have H1:=aa ra1
 have F1:=aa fr1
 clear ra1 fr1 KN
 by_cases h40:c=40
 ·have q40:((c:Int)==40)=true:=by rw[h40];rfl
  have HM:Hid (bp t E ⟨k,d,f,g,nm⟩=aK t E ⟨k,d,f,g,nm⟩):=by show _=_;rw[HAM.O,if_pos ((hbn 40).2 h40)]
  have KG:=aa (HGR.O w1 H1.O (by rw[HSX.O 40 (by decide)];exact decide_eq_true h40))
  clear h40 hbn
  go_wp2_with fail
  refine KG.O.mono ?_
  rintro e w2 ⟨fr2,hp2⟩
  obtain⟨y2,hy2,_⟩:=hp2.split
  subst hy2
  have F2:=aa (F1.O.trans fr2)
  have HP2:=aa hp2
  clear fr2 hp2 KG
  go_wp2_with fail
  go_ret
  exact⟨F2.O,by rw[HM.O];exact HP2.O⟩
 have q40:((c:Int)==40)=false:=by rw[beq_eq_false_iff_ne];omega
 by_cases h91:c=91
 ·have q91:((c:Int)==91)=true:=by rw[h91];rfl
  have h91s:ac t ⟨k,d,f,g,nm⟩ 91=true:=by rw[HSX.O 91 (by decide)];exact decide_eq_true h91
  have HM:Hid (bp t E ⟨k,d,f,g,nm⟩=(fj t ⟨k,d,f,g,nm⟩).bind fun c s'=> .ok (.single c) s'):=by show _=_;rw[HAM.O,if_neg (fun e=>h40 ((hbn 40).1 e)),if_pos ((hbn 91).2 h91)]
  have HSI:=aa (vi h91s)
  have KS':=aa (HST.O w1 H1.O h91s)
  clear h91 hbn
  go_wp2_with fail
  refine KS'.O.mono ?_
  rintro e w2 ⟨fr2,rfl,bd,s2,hbad,hgood,ra2⟩
  have F2:=aa (F1.O.trans fr2)
  have H2:=aa ra2
  have HBAD:=aa hbad
  have HGOOD:=aa hgood
  clear fr2 ra2 hbad hgood KS'
  go_wp2_with fail
  go_ret
  cases bd with
  |true=>
   refine⟨F2.O,aJ.mkBad (s':=s2) ?_ rfl ?_ H2.O (by show _<=20000+10*(7-d)+0;omega)⟩
   ·rw[HM.O,HSI.O,HBAD.O rfl];rfl
   ·exact yx (HBAD.O rfl)
  |false=>
   obtain⟨cc,hcc,hxt⟩:=HGOOD.O rfl
   have hset:fj t ⟨k,d,f,g,nm⟩= .ok (if ac t (RS.up ⟨k,d,f,g,nm⟩) 94 then bI (sing s2.f cc)else sing s2.f cc) s2:=by rw[HSI.O,hcc];rfl
   have hlt2:=(sZ hset).2
   dsimp only at hlt2
   exact⟨F2.O,aJ.mkOk (by rw[HM.O,hset];rfl) rfl H2.O (by show _+40+50*k<=n+50*s2.k+0;omega) ⟨_,rfl,by rw[den];exact hxt⟩⟩
 have q91:((c:Int)==91)=false:=by rw[beq_eq_false_iff_ne];omega
 by_cases h46:c=46
 ·have q46:((c:Int)==46)=true:=by rw[h46];rfl
  have HM:Hid (bp t E ⟨k,d,f,g,nm⟩= .ok (.single o6) ⟨k+1,d,f,g,nm⟩):=by show _=_;rw[HAM.O,if_neg (fun e=>h40 ((hbn 40).1 e)),if_neg (fun e=>h91 ((hbn 91).1 e)),if_pos ((hbn 46).2 h46)];rfl
  clear h46 hbn
  obtain⟨c0,c1,c2,f1,f2,hl⟩:=H1.O.facts
  have c1:w1.cell? ⟨p,1,none⟩=some (.int .i64 (k:Int)):=c1
  go_upto_region 9 with fail
  generalize hw9:World.setCell _ _ _=w2
  have hup:=H1.O.up2 w2 hw9 (by simp)
  have H2:Hid (RA w2 p r base t ⟨k+1,d,f,g,nm⟩ false hv n):=hup.1
  have F2:=aa (F1.O.trans hup.2)
  clear hw9 hup
  clear c0 c1 c2 f1 f2 hl
  obtain⟨m3,m5,m6,g5,g6,mr,gr,hrl⟩:=H2.O.more
  have hl:=H2.O.rk.lt
  go_upto_region 10 with fail
  generalize hw9:World.setCell _ _ _=w3
  have hup:=H2.O.hvs w3 hw9
  have Hw3:=aa hup.1
  have Fw3:=aa (F2.O.trans hup.2)
  clear hw9 hup m3 m5 m6 g5 g6 mr gr hrl hl
  have KF:=aa (fun W=>wm W)
  go_wp2_with fail
  refine (KF.O _).mono ?_
  rintro e w4 ⟨rfl,hx4⟩
  have Fw4:=aa (Fw3.O.trans (Fr.ex (r:=r) hx4 (by have:=Fw3.O.eb.size;omega)))
  have hra4:=Hw3.O.ex hx4
  have hes:(noB.map (!·)).length=129:=by rw[List.length_map];rfl
  obtain⟨es,hes0⟩:=exq (noB.map (!·))
  have HES0:=aa hes0
  rw[<-hes0]at hes ⊢
  clear hx4 KF hes0
  obtain⟨w5,hw7⟩:=exq ((w4.alloc (Obj.cells (sB noB).toArray 213)).setRow w4.heap.size (sB es).toArray)
  obtain⟨a1,a2,a3,a4,a5⟩:=eG Fw4.O hra4 hes hw7 hbw
  have Hw5:=aa a1
  have Fw5:=aa a2
  have HSw5:=aa a3
  have HN5:=aa a4
  have HW7:=aa hw7
  obtain⟨V,hV⟩:=exq (sB es)
  have HIV:Hid ((Tryz.prog.info? 213).map (·.size)=some V.length):=by rw[hV];exact aC hes
  have HJV:Hid ((Tryz.prog.info? 213).map (·.size)=some V.toArray.size):=by rw[hV];exact az hes
  have HAV:Hid (V.toArray.all (·.oneCell')=true):=by rw[hV];exact am (ax _)
  have HOV:Hid ((sB noB).toArray.size=V.toArray.size):=by show _=_;rw[List.size_toArray,List.size_toArray,hV,ah,ah,hes];rfl
  have HVV:=aa hV
  rw[<-hV]at HW7 ⊢
  clear hw7 a1 a2 a3 a4 a5 hV
  go_upto_region 11 with (refine wpList_store_row rfl 213 _ _ rfl (w4.heap.size) V.toArray rfl rfl 213 _ HN5.O HJV.O HOV.O HAV.O ?_)
  rw[show (w4.alloc (Obj.cells Tryz.zeroCells213 213)).setRow w4.heap.size V.toArray=w5 from HW7.O.symm]
  clear HW7 HN5
  have hltw5:=HSw5.O.1.lt
  clear hra4
  obtain⟨X,hX⟩:=exq (bc 2 0 0 0 false es)
  have HBU:Hid (Tryz.prog.built 215 [(0,.int .i64 2),(5,.agg V.toArray)]=some X.toArray):=by rw[hX,HVV.O];exact dS es hes
  have KND:=aa (bT 2 0 0 0 false es hes Hw5.O (by omega))
  rw[<-hX]at KND
  have HXX:=aa hX
  have HRG8:Hid (World.rangeAt w5 w4.heap.size 0 V):=by rw[HVV.O];exact HSw5.O.1.rangeL
  have hltx:=HSw5.O.1.lt
  clear hX
  go_wp2_with (first|refine wpList_load_mid rfl 213 _ rfl (w4.heap.size) 0 rfl V _ HRG8.O Tryz.underlying213 rfl HIV.O ?_|(refine wpList_buildTo rfl 215 _ rfl _ rfl X.toArray (by simp only[List.map_toArray,List.map_cons,List.map_nil,Act.eval,List.getElem?_toArray,Array.getD_eq_getD_getElem?,List.getElem?_cons_succ,List.getElem?_cons_zero,Option.getD_some];exact HBU.O) ?_))
  refine KND.O.mono ?_
  rintro e wz ⟨rfl,hz,frz,erz⟩
  have HER:=aa erz
  clear erz
  have HZ:=aa hz
  have FZ:=aa (Fw5.O.trans frz)
  clear hz frz
  go_wp2_with fail
  go_ret
  exact⟨FZ.O,aJ.mkOk HM.O rfl HZ.O (by show _+40+50*k<=n+50*(k+1)+0;omega) ⟨_,rfl,by rw[den];exact XT.set (by have h9:=HER.O;rw[HXX.O]at h9;exact h9) hes (zl HES0.O)⟩⟩
 have q46:((c:Int)==46)=false:=by rw[beq_eq_false_iff_ne];omega
 by_cases h92:c=92
 ·have q92:((c:Int)==92)=true:=by rw[h92];rfl
  have HM:Hid (bp t E ⟨k,d,f,g,nm⟩=(an t ⟨k+1,d,f,g,nm⟩).bind fun y s'=> .ok (.single (sing s'.f y.1)) s'):=by show _=_;rw[HAM.O,if_neg (fun e=>h40 ((hbn 40).1 e)),if_neg (fun e=>h91 ((hbn 91).1 e)),if_neg (fun e=>h46 ((hbn 46).1 e)),if_pos ((hbn 92).2 h92)];rfl
  clear h92 hbn
  obtain⟨c0,c1,c2,f1,f2,hl⟩:=H1.O.facts
  have c1:w1.cell? ⟨p,1,none⟩=some (.int .i64 (k:Int)):=c1
  go_upto_region 14 with fail
  generalize hw9:World.setCell _ _ _=w2
  have hup:=H1.O.up2 w2 hw9 (by simp)
  have H2:Hid (RA w2 p r base t ⟨k+1,d,f,g,nm⟩ false hv n):=hup.1
  have F2:=aa (F1.O.trans hup.2)
  clear hw9 hup
  clear c0 c1 c2 f1 f2 hl
  have KE:=aa (lH H2.O ht)
  go_wp2_with fail
  refine KE.O.mono ?_
  rintro e w4 ⟨hf4,hp4⟩
  have Fw4:=aa (F2.O.trans hf4)
  have hst:∃bd sx cs mm,cs.length=129/\e= .returned (.tuple #[.agg (sB cs).toArray,.int .i64 mm])/\RA w4 p r base t sx bd hv n/\(bd=true ->bp t E ⟨k,d,f,g,nm⟩=Res.bad sx/\sx.d=d)/\(bd=false ->sx=⟨k+2,d,f,g,nm⟩/\∃cc,bp t E ⟨k,d,f,g,nm⟩=Res.ok (.single cc) sx/\AgC cs cc):=by
   have hm:=HM.O
   have hdd:=o7 (t:=t) (s:=⟨k+1,d,f,g,nm⟩)
   revert hp4 hm hdd
   cases hE:an t ⟨k+1,d,f,g,nm⟩with
   |bad s'=>
    rintro⟨⟨cs,mm,hcs,he,_⟩,hra⟩ hm hdd
    exact⟨true,s',cs,mm,hcs,he,hra,(fun _=>⟨hm,hdd _ rfl⟩),fun h=>by cases h⟩
   |ok x s'=>
    rintro⟨⟨cs,mm,hcs,he,hv9⟩,hra⟩ hm hdd
    exact⟨false,s',cs,mm,hcs,he,hra,(fun h=>by cases h),fun _=>⟨(fo hE).2,_,hm,zv hE hv9.2.1 hv9.2.2⟩⟩
  obtain⟨bd,sx,cs,mm,hcs,rfl,hra4,hbad,hgood⟩:=hst
  have HBAD:=aa hbad
  have HGOOD:=aa hgood
  clear KE hf4 hp4 hbad hgood
  obtain⟨w5,hw7⟩:=exq ((w4.alloc (Obj.cells (sB noB).toArray 213)).setRow w4.heap.size (sB cs).toArray)
  obtain⟨a1,a2,a3,a4,a5⟩:=eG Fw4.O hra4 hcs hw7 hbw
  have Hw5:=aa a1
  have Fw5:=aa a2
  have HSw5:=aa a3
  have HN5:=aa a4
  have HW7:=aa hw7
  obtain⟨V,hV⟩:=exq (sB cs)
  have HIV:Hid ((Tryz.prog.info? 213).map (·.size)=some V.length):=by rw[hV];exact aC hcs
  have HJV:Hid ((Tryz.prog.info? 213).map (·.size)=some V.toArray.size):=by rw[hV];exact az hcs
  have HAV:Hid (V.toArray.all (·.oneCell')=true):=by rw[hV];exact am (ax _)
  have HOV:Hid ((sB noB).toArray.size=V.toArray.size):=by show _=_;rw[List.size_toArray,List.size_toArray,hV,ah,ah,hcs];rfl
  have HVV:=aa hV
  rw[<-hV]at HW7 ⊢
  clear hw7 a1 a2 a3 a4 a5 hV
  go_upto_region 15 with (refine wpList_store_row rfl 213 _ _ rfl (w4.heap.size) V.toArray rfl rfl 213 _ HN5.O HJV.O HOV.O HAV.O ?_)
  rw[show (w4.alloc (Obj.cells Tryz.zeroCells213 213)).setRow w4.heap.size V.toArray=w5 from HW7.O.symm]
  clear HW7 HN5
  have hltw5:=HSw5.O.1.lt
  clear hra4
  obtain⟨m3,m5,m6,g5,g6,mr,gr,hrl⟩:=Hw5.O.more
  have hl:=Hw5.O.rk.lt
  go_upto_region 16 with fail
  generalize hw9:World.setCell _ _ _=w6
  have hup:=Hw5.O.hvs w6 hw9
  have Hw6:=aa hup.1
  have Fw6:=aa (Fw5.O.trans hup.2)
  have HSw6:=aa (hup.2.ks _ _ HSw5.O)
  clear hw9 hup m3 m5 m6 g5 g6 mr gr hrl hl
  obtain⟨X,hX⟩:=exq (bc 2 0 0 0 false cs)
  have HBU:Hid (Tryz.prog.built 215 [(0,.int .i64 2),(5,.agg V.toArray)]=some X.toArray):=by rw[hX,HVV.O];exact dS cs hcs
  have KND:=aa (bT 2 0 0 0 false cs hcs Hw6.O (by omega))
  rw[<-hX]at KND
  have HXX:=aa hX
  have HRG8:Hid (World.rangeAt w6 w4.heap.size 0 V):=by rw[HVV.O];exact HSw6.O.1.rangeL
  have hltx:=HSw6.O.1.lt
  clear hX
  go_wp2_with (first|refine wpList_load_mid rfl 213 _ rfl (w4.heap.size) 0 rfl V _ HRG8.O Tryz.underlying213 rfl HIV.O ?_|(refine wpList_buildTo rfl 215 _ rfl _ rfl X.toArray (by simp only[List.map_toArray,List.map_cons,List.map_nil,Act.eval,List.getElem?_toArray,Array.getD_eq_getD_getElem?,List.getElem?_cons_succ,List.getElem?_cons_zero,Option.getD_some];exact HBU.O) ?_))
  refine KND.O.mono ?_
  rintro e wz ⟨rfl,hz,frz,erz⟩
  have HER:=aa erz
  clear erz
  have HZ:=aa hz
  have FZ:=aa (Fw6.O.trans frz)
  clear hz frz
  go_wp2_with fail
  go_ret
  cases bd with
  |true=>
   obtain⟨a1,a2⟩:=HBAD.O rfl
   exact⟨FZ.O,aJ.mkBad a1 rfl a2 HZ.O (by show _<=20000+10*(7-d)+0;omega)⟩
  |false=>
   obtain⟨rfl,cc,a2,a3⟩:=HGOOD.O rfl
   exact⟨FZ.O,aJ.mkOk a2 rfl HZ.O (by show _+40+50*k<=n+50*(k+2)+0;omega) ⟨_,rfl,by rw[den];exact XT.set (by have h9:=HER.O;rw[HXX.O]at h9;exact h9) hcs a3⟩⟩
 have q92:((c:Int)==92)=false:=by rw[beq_eq_false_iff_ne];omega
 have HM:Hid (bp t E ⟨k,d,f,g,nm⟩=(aO t iF ⟨k,d,f,g,nm⟩).bind fun b s'=> .ok (.single (sing s'.f (cv b.toNat))) s'):=by show _=_;rw[HAM.O,if_neg (fun e=>h40 ((hbn 40).1 e)),if_neg (fun e=>h91 ((hbn 91).1 e)),if_neg (fun e=>h46 ((hbn 46).1 e)),if_neg (fun e=>h92 ((hbn 92).1 e))]
 have KP:=aa (fun W=>oG b W)
 rw[<-show c=b.toNat from HCB.O]at KP
 obtain⟨pl,hpl⟩:=exq (plB b)
 rw[<-hpl]at KP
 have hPM:aO t iF ⟨k,d,f,g,nm⟩=if pl=true then .ok b ⟨k+1,d,f,g,nm⟩else .bad ⟨k,d,f,g,nm⟩:=by
  unfold aO
  dsimp only
  rw[HB.O]
  dsimp only
  rw[hpl]
  exact sS b _ _
 have hc128:pl=true ->c<128:=fun h=>by rw[HCB.O];exact xr (by rw[<-hpl];exact h)
 have HPM:=aa hPM
 have HC128:=aa hc128
 clear hpl hPM hc128 hbn h40 h91 h46 h92
 go_wp2_with fail
 refine (KP.O _).mono ?_
 rintro e w1b ⟨rfl,hw1b⟩
 rw[hw1b]
 clear hw1b
 cases pl with
 |false=>
  go_wp2_with fail
  refine (gK H1.O).mono ?_
  rintro e w5 ⟨rfl,h5,ks5,eb5⟩
  have F5:=aa (F1.O.trans ⟨ks5,eb5⟩)
  have H5:=aa h5
  clear h5 ks5 eb5
  go_wp2_with fail
  go_ret
  refine⟨F5.O,aJ.mkBad (s'':=⟨k,d,f,g,nm⟩) (s':=⟨k,d,f,g,nm⟩) ?_ rfl rfl H5.O (by show _<=20000+10*(7-d)+0;omega)⟩
  rw[HM.O,HPM.O]
  rfl
 |true=>
  have hc1:=HC128.O rfl
  have HMM:Hid (bp t E ⟨k,d,f,g,nm⟩= .ok (.single (sing f (cv b.toNat))) ⟨k+1,d,f,g,nm⟩):=by
   show _=_
   rw[HM.O,HPM.O]
   rfl
  obtain⟨c0,c1,c2,f1,f2,hl⟩:=H1.O.facts
  have c1:w1.cell? ⟨p,1,none⟩=some (.int .i64 (k:Int)):=c1
  go_upto_region 21 with fail
  generalize hw9:World.setCell _ _ _=w2
  have hup:=H1.O.up2 w2 hw9 (by simp)
  have H2:Hid (RA w2 p r base t ⟨k+1,d,f,g,nm⟩ false hv n):=hup.1
  have F2:=aa (F1.O.trans hup.2)
  clear hw9 hup
  clear c0 c1 c2 f1 f2 hl
  obtain⟨m3,m5,m6,g5,g6,mr,gr,hrl⟩:=H2.O.more
  have hl:=H2.O.rk.lt
  go_upto_region 22 with fail
  generalize hw9:World.setCell _ _ _=w3
  have hup:=H2.O.hvs w3 hw9
  have Hw3:=aa hup.1
  have Fw3:=aa (F2.O.trans hup.2)
  clear hw9 hup m3 m5 m6 g5 g6 mr gr hrl hl
  have K1:=aa (fun W=>pw c W hc1)
  go_wp2_with fail
  refine (K1.O _).mono ?_
  rintro e w4 ⟨rfl,hx4⟩
  have Fw4:=aa (Fw3.O.trans (Fr.ex (r:=r) hx4 (by have:=Fw3.O.eb.size;omega)))
  have Hw4:=aa (Hw3.O.ex hx4)
  obtain⟨us,hus0⟩:=exq (gO c)
  have hus:us.length=129:=by rw[hus0];exact cC c
  have HUS0:=aa hus0
  rw[<-hus0]
  have KF:=aa (gm us hus Hw4.O.rk)
  obtain⟨T,hT⟩:=exq (sB us)
  rw[<-hT]at KF ⊢
  clear hx4 K1 hus0 hT
  go_wp2_with fail
  refine KF.O.mono ?_
  rintro e w5 ⟨ds,hds,rfl,hx5,hfo5⟩
  have HAD:Hid (AgC ds (sing f (cv b.toNat))):=by
   have h9:mU us c:=by rw[HUS0.O];exact mj c hc1
   rw[<-HCB.O]
   exact ((h9.ag hc1).toF f).toC hfo5
  clear hfo5
  have Fw5:=aa (Fw4.O.trans (Fr.ex (r:=r) hx5 (by have:=Fw4.O.eb.size;omega)))
  have hra5:=Hw4.O.ex hx5
  clear hx5 KF
  obtain⟨w6,hw7⟩:=exq ((w5.alloc (Obj.cells (sB noB).toArray 213)).setRow w5.heap.size (sB ds).toArray)
  obtain⟨a1,a2,a3,a4,a5⟩:=eG Fw5.O hra5 hds hw7 hbw
  have Hw6:=aa a1
  have Fw6:=aa a2
  have HSw6:=aa a3
  have HN5:=aa a4
  have HW7:=aa hw7
  obtain⟨V,hV⟩:=exq (sB ds)
  have HIV:Hid ((Tryz.prog.info? 213).map (·.size)=some V.length):=by rw[hV];exact aC hds
  have HJV:Hid ((Tryz.prog.info? 213).map (·.size)=some V.toArray.size):=by rw[hV];exact az hds
  have HAV:Hid (V.toArray.all (·.oneCell')=true):=by rw[hV];exact am (ax _)
  have HOV:Hid ((sB noB).toArray.size=V.toArray.size):=by show _=_;rw[List.size_toArray,List.size_toArray,hV,ah,ah,hds];rfl
  have HVV:=aa hV
  rw[<-hV]at HW7 ⊢
  clear hw7 a1 a2 a3 a4 a5 hV
  go_upto_region 23 with (refine wpList_store_row rfl 213 _ _ rfl (w5.heap.size) V.toArray rfl rfl 213 _ HN5.O HJV.O HOV.O HAV.O ?_)
  rw[show (w5.alloc (Obj.cells Tryz.zeroCells213 213)).setRow w5.heap.size V.toArray=w6 from HW7.O.symm]
  clear HW7 HN5
  have hltw6:=HSw6.O.1.lt
  clear hra5
  obtain⟨X,hX⟩:=exq (bc 2 0 0 0 false ds)
  have HBU:Hid (Tryz.prog.built 215 [(0,.int .i64 2),(5,.agg V.toArray)]=some X.toArray):=by rw[hX,HVV.O];exact dS ds hds
  have KND:=aa (bT 2 0 0 0 false ds hds Hw6.O (by omega))
  rw[<-hX]at KND
  have HXX:=aa hX
  have HRG8:Hid (World.rangeAt w6 w5.heap.size 0 V):=by rw[HVV.O];exact HSw6.O.1.rangeL
  have hltx:=HSw6.O.1.lt
  clear hX
  go_wp2_with (first|refine wpList_load_mid rfl 213 _ rfl (w5.heap.size) 0 rfl V _ HRG8.O Tryz.underlying213 rfl HIV.O ?_|(refine wpList_buildTo rfl 215 _ rfl _ rfl X.toArray (by simp only[List.map_toArray,List.map_cons,List.map_nil,Act.eval,List.getElem?_toArray,Array.getD_eq_getD_getElem?,List.getElem?_cons_succ,List.getElem?_cons_zero,Option.getD_some];exact HBU.O) ?_))
  refine KND.O.mono ?_
  rintro e wz ⟨rfl,hz,frz,erz⟩
  have HER:=aa erz
  clear erz
  have HZ:=aa hz
  have FZ:=aa (Fw6.O.trans frz)
  clear hz frz
  go_wp2_with fail
  go_ret
  exact⟨FZ.O,aJ.mkOk HMM.O rfl HZ.O (by show _+40+50*k<=n+50*(k+1)+0;omega) ⟨_,rfl,by rw[den];exact XT.set (by have h9:=HER.O;rw[HXX.O]at h9;exact h9) hds HAD.O⟩⟩
theorem lI {p r base:Nat} (ht:t.size<=60):∀N d,d+N=7 ->1<=N ->tj t p r base d (ep t N)
 |0,d,_,h=>absurd h (by decide)
 |x+1,d,hd,_=>by
  have hx6:x+1<=7:=by omega
  have hF:ja t x (ep t x):=fun s q s' h h5 hk=>ei ht x (by omega) s q s' h h5 hk
  have hI:=g8 t x
  have hA:vx t p r base d (ep t x):=zm ht (by omega) (by omega) hF hI (fun h6=>lI ht x (d+1) (by omega) (by omega)) (fun h6 s' _ hk=>by
   obtain⟨y,rfl⟩:∃y,x=y+1:=⟨x-1,by omega⟩
   exact wg hk)
  have hP:=yI ht (by omega) hx6 hF hI hA
  have hB:=vN ht (by omega) hx6 hF hI hP
  exact zy ht (by omega) hx6 hF hI hB
theorem lM {w:World} (ht:60<t.size):
  Calls Tryz.prog 20 #[.string t] w fun e w'=>e= .returned (.tuple #[.pointer none,.int .i64 60,.bool false])/\Ex [] w w':=by
 have ht':(t.size:Int)>60:=by omega
 have ht2:(60:Int)<(t.size:Int):=by omega
 go_enter Tryz.func20,Tryz.ntmps20
 go_wp2_with fail
 refine bodyPost_ret (v:= .tuple #[.pointer none,.int .i64 60,.bool false]) (by simp[results,Tryz.results20,go_sem]) rfl ⟨rfl,Ex.refl _ _⟩
theorem kC {w:World} {x:EV} {p:Pt} (hev:w.cell? ⟨0,0,none⟩=some (.iface x.1 x.2)) (ht:t.size<=60) (hnp:NP t) (hb:aX t= .ok p s) (hw:WOK p) (hwt:120<wt p):
  Calls Tryz.prog 20 #[.string t] w fun e w'=>e= .returned (.tuple #[.pointer none,.int .i64 (t.size:Int),.bool false])/\Ex [] w w':=by
 have HEV:=aa hev
 have HNP:=aa hnp
 have HB:=aa hb
 have ht':¬(t.size:Int)>60:=by omega
 clear hev hnp hb
 go_enter Tryz.func20,Tryz.ntmps20
 go_wp2_with fail
 refine (jR HEV.O ht HNP.O).mono ?_
 rintro e w1 ⟨r,mb,hr,hp⟩
 rw[HB.O]at hp
 obtain⟨⟨u,rfl,hpr⟩,hg,hx⟩:=hp
 have HPR:=aa hpr
 have HG:=aa hg
 have HX:=aa hx
 have hz1:=hx.size
 have hrlt:=hg.lt
 clear hpr hg hx
 obtain⟨kd',p',n',c',lo',hi',hg',gr',l',m',z'⟩:=u
 have HWT:=aa (fun (w':World) (hx:Ex [] w1 w')=>mO (Btw w.heap.size w1.heap.size) p ⟨kd',p',n',c',lo',hi',hg',gr',l',m',z'⟩ w' (HPR.O.frame (fun _ h=>h) hx.size (fun b _ hlt=>hx.block b hlt (by simp)) _ _) hw)
 unfold PV.val at HWT ⊢
 dsimp only at HWT ⊢
 go_wp2_with fail
 refine (HWT.O _ ((Ex.refl _ _).alloc _)).mono ?_
 rintro e w2 ⟨rfl,hx2⟩
 have hx12:Ex [] w1 w2:=((Ex.refl _ _).alloc _).trans hx2
 have hA:=BK.ex (BK.new w1 (Obj.cells #[.int .i64 kd',.slice p' n' c',.int .u64 lo',.int .u64 hi',.bool hg',.int .i64 gr',.int .i64 l',.int .i64 m',.bool z'] 101)) hx2 (by simp)
 obtain⟨hcA,hfA⟩:=hA.all
 have HX12:=aa hx12
 have hz2:=hx12.size
 have hwt':(wt p:Int)>120:=by omega
 have hwt2:(120:Int)<(wt p:Int):=by omega
 clear hx2 hx12 hA
 go_wp2_with fail
 refine bodyPost_ret (v:= .tuple #[.pointer none,.int .i64 (t.size:Int),.bool false]) (by simp[results,Tryz.results20,go_sem]) rfl ⟨rfl,?_⟩
 exact HX.O.trans HX12.O
def bq (t:ByteArray):Option Nat:=if 60<t.size then some 60 else match aX t with
 |.bad s=>some s.k
 |.ok p _=>if 120<wt p then some t.size else none
theorem uA (t s:ByteArray) (k:Nat) (w:World) (hr:Calls Tryz.prog 20 #[.string t] w fun e w'=>e= .returned (.tuple #[.pointer none,.int .i64 (k:Int),.bool false])/\Ex [] w w'):
  Calls Tryz.prog 8 #[.string t,.string s] w fun e w'=>e= .returned (.tuple #[.slice none 0 0,.bool false,.int .i64 4,.int .i64 (k:Int)])/\Ex [] w w':=by
 have KR:=aa hr
 clear hr
 go_enter Tryz.func8,Tryz.ntmps8
 go_wp2_with fail
 refine KR.O.mono ?_
 rintro e w1 ⟨rfl,hx1⟩
 have HX1:=aa hx1
 clear hx1
 go_wp2_with fail
 refine bodyPost_ret (v:= .tuple #[.slice none 0 0,.bool false,.int .i64 4,.int .i64 (k:Int)]) (by simp[results,Tryz.results8,go_sem]) rfl ⟨rfl,HX1.O⟩
theorem vB (t s:ByteArray) (x:EV) (k:Nat) (w:World) (hev:w.cell? ⟨0,0,none⟩=some (.iface x.1 x.2)) (hk:bq t=some k):
  Calls Tryz.prog 8 #[.string t,.string s] w fun e w'=>e= .returned (.tuple #[.slice none 0 0,.bool false,.int .i64 4,.int .i64 (k:Int)])/\Ex [] w w':=by
 unfold bq at hk
 refine uA t s k w ?_
 by_cases h60:60<t.size
 ·rw[if_pos h60]at hk
  cases hk
  exact lM h60
 ·rw[if_neg h60]at hk
  cases hr:aX t with
  |bad s'=>
   rw[hr]at hk
   cases hk
   exact nX hev (by omega) (NP.all t) hr
  |ok p s'=>
   rw[hr]at hk
   dsimp only at hk
   split at hk
   ·next hw=>
    cases hk
    exact kC hev (by omega) (NP.all t) hr (fP (by omega) hr).1 hw
   ·cases hk
theorem sR (h:bq t=none):lN t=true:=by
 unfold bq at h
 by_cases h60:60<t.size
 ·rw[if_pos h60]at h;cases h
 ·rw[if_neg h60]at h
  cases hr:aX t with
  |bad s=>rw[hr]at h;cases h
  |ok p s=>
   rw[hr]at h
   dsimp only at h
   split at h
   ·cases h
   ·exact wy (by omega) hr (by omega)
end Go.Proofs.YtfnanjbleifjkaaGreatDoor.G
