import Derived.Test.YtfnanjbleifjkaaGreatDoorM40
import Derived.Test.YtfnanjbleifjkaaGreatDoorM25
set_option linter.unusedVariables false
set_option linter.unusedSimpArgs false
set_option maxHeartbeats 8000000
set_option maxRecDepth 100000
namespace Go.Proofs.YtfnanjbleifjkaaGreatDoor.G
variable {bs cs:List Bool} {w w' w0:World} {b base n p r:Nat} {t:ByteArray} {s:RS} {bad:Bool} {hv:Int}
open Go.RowKit
def xZ (e:Ending) (v:List Bool ->Int ->Prop):Prop:=∃cs m,cs.length=129/\e= .returned (.tuple #[.agg (sB cs).toArray,.int .i64 m])/\v cs m
def mU (cs:List Bool) (c:Nat):Prop:=∀j,j<=128 ->hB cs j=decide (j=c)
theorem sM (j:Nat):hB noB j=false:=by
 unfold hB noB
 rw[List.getD_eq_getElem?_getD,List.getElem?_replicate]
 split<;>rfl
theorem mj (c:Nat) (hc:c<128):mU (gO c) c:=fun j hj=>by
 unfold gO
 rw[lP _ _ _ (by simp[noB];omega),sM]
 by_cases h:j=c
 ·rw[if_pos h,decide_eq_true h]
 ·rw[if_neg h,decide_eq_false h]
theorem mU.ag {c:Nat} (h:mU cs c) (hc:c<128):AgC cs (cv c):=⟨CN.one c,fun r hr=>by rw[h r hr,sC c hc]⟩
theorem mU.sing {c:Nat} (h:mU cs c) (hc:c<128) (hl:et (c:Int)=false) (f:Bool):AgC cs (sing f (cv c)):=by
 refine (h.ag hc).toF f|>.toC (fun r hr=> ?_)
 cases f with
 |false=>rfl
 |true=>
  show hB cs r=dR (hB cs) r
  have hn:¬(97<=c/\c<=122)/\¬(65<=c/\c<=90):=by
   unfold et at hl
   simp only[Bool.or_eq_false_iff,Bool.and_eq_false_iff,decide_eq_false_iff_not]at hl
   omega
  unfold dR
  by_cases h1:97<=r/\r<=122
  ·rw[if_pos h1,h r hr,h (r-32) (by omega),decide_eq_false (by omega),decide_eq_false (by omega)];rfl
  ·rw[if_neg h1]
   by_cases h2:65<=r/\r<=90
   ·rw[if_pos h2,h r hr,h (r+32) (by omega),decide_eq_false (by omega),decide_eq_false (by omega)];rfl
   ·rw[if_neg h2]
theorem sn {b:UInt8} (h:b∈eh):b.toNat<128/\et (b.toNat:Int)=false:=by
 have h9:eh.all (fun b=>decide (b.toNat<128)&& !et (b.toNat:Int))=true:=by decide+kernel
 have:=List.all_eq_true.1 h9 b h
 simpa using this
theorem AgC.folded {c:Cls} {f:Bool} (h:AgC cs (sing f c)) (hc:CN c):AgF f cs c:=⟨hc,fun r hr=>by
 rw[jl h.2 r hr,kB (tK hc f) r,qG]⟩
theorem Fr.setRow (h:SB w b bs) (hc:cs.length=129) (hb:base<=b):(∀b' bs',b'≠b ->SB w b' bs' ->SB (w.setRow b (sB cs).toArray) b' bs')/\EB base [] w (w.setRow b (sB cs).toArray)/\SB (w.setRow b (sB cs).toArray) b cs:=by
 refine⟨fun b' bs' hne h'=>⟨by unfold BK;rw[setRow_other _ _ _ _ hne];exact h'.1,h'.2⟩,?_,h.store hc⟩
 have hx:Ex [b] w (w.setRow b (sB cs).toArray):=(Ex.refl _ _).setRow (.inl (by simp)) _
 exact⟨hx.os,hx.tape,hx.output,hx.size,fun k hk _=>hx.block k (by have:=h.1.lt;omega) (by simp;omega)⟩
theorem RA.setRow (h:RA w p r base t s bad hv n) (hb:SB w b bs) (xs:Array Value):RA (w.setRow b xs) p r base t s bad hv n:=by
 obtain⟨av,nv,ys,ns,h1,h2,h3,h4,h5⟩:=h.rn.ex
 have hk:=h.rk
 unfold RK at hk
 have hblk:∀g,g≠b ->(w.setRow b xs).heap[g]? =w.heap[g]? :=fun g hg=>setRow_other _ _ _ _ hg
 have e1:p≠b:=fun e=>(mA hb hk (by decide)) e.symm
 have e2:r≠b:=fun e=>(mA hb h1 (by decide)) e.symm
 refine⟨?_,⟨av,nv,ys,ns,?_,aH h2 (fun g hg=>hblk g (fun e=> ?_)),aH h3 (fun g hg=>hblk g (fun e=> ?_)),h4,h5⟩,h.pb,h.rb,?_⟩
 ·unfold RK BK;rw[hblk p e1];exact hk
 ·unfold BK;rw[hblk r e2];exact h1
 ·subst e;exact aE h2 hb.1 (by decide) hg
 ·subst e;exact aE h3 hb.1 (by decide) hg
 ·have hx:Ex [b] w (w.setRow b xs):=(Ex.refl _ _).setRow (.inl (by simp)) _
  exact Nat.le_trans h.bw hx.size
def xY (w':World) (p r base:Nat) (t:ByteArray) (hv:Int) (n:Nat) (e:Ending):Res (Cls×UInt8×Bool) ->Prop
 |.ok x s'=>xZ e (fun cs m=>(m=if x.2.2 then (x.2.1.toNat:Int)else -1)/\(x.2.2=true ->mU cs x.2.1.toNat)/\(x.2.2=false ->CN x.1/\AgC cs (sing s'.f x.1)))/\RA w' p r base t s' false hv n
 |.bad s'=>xZ e (fun _ _=>True)/\RA w' p r base t s' true hv n
theorem be {W:World} (hF:Fr w W r base) (hR:SB W b bs) (hA:RA W p r base t s bad hv n) (hb:w.heap.size<=b) (hbw:base<=w.heap.size) (hc:cs.length=129):
  Fr w (W.setRow b (sB cs).toArray) r base/\RA (W.setRow b (sB cs).toArray) p r base t s bad hv n:=by
 have h1:=Fr.setRow (base:=base) hR hc (by omega)
 exact⟨⟨⟨fun b' bs' h'=>h1.1 b' bs' (by have:=h'.1.lt;omega) (hF.ks.sb b' bs' h'),fun y E hy=>(hF.ks.rw y E hy).but hR.1 (by decide) (by decide) (fun g _ hne=>setRow_other _ _ _ _ hne)⟩,hF.eb.trans h1.2.1⟩,hA.setRow hR _⟩
theorem wc (h:¬s.k<t.size):an t s= .bad s:=by
 unfold an ai
 rw[Array.getElem?_eq_none (by show t.size<=s.k;omega)]
theorem tq {k:Nat} (h:k<t.size):∃b:UInt8,ai t k=some b/\aj t k=b.toNat:=by
 refine⟨t.data[k]'h,by unfold ai;exact Array.getElem?_eq_getElem h,?_⟩
 unfold aj ai
 rw[Array.getElem?_eq_getElem h]
theorem vk:(List.range 256).all (fun n=>(dQ (UInt8.ofNat n)).isSome==ej n&&(!ej n|| !eh.contains (UInt8.ofNat n))&&((ej n||eh.contains (UInt8.ofNat n))==(ej n||(decide (n<128)&&(!plB (UInt8.ofNat n)||n==45||n==34)))))=true:=by kernel_rfl
theorem kS {b:UInt8}:(dQ b).isSome=ej b.toNat/\(ej b.toNat=true ->b∉eh)/\(ej b.toNat=false ->(b∈eh↔(b.toNat<128/\(plB b=false\/b.toNat=45\/b.toNat=34)))):=by
 have h:=List.all_eq_true.1 vk b.toNat (List.mem_range.2 b.toNat_lt)
 rw[UInt8.ofNat_toNat]at h
 simp only[Bool.and_eq_true,beq_iff_eq,Bool.or_eq_true,Bool.not_eq_true']at h
 obtain⟨⟨h1,h2⟩,h3⟩:=h
 refine⟨h1,fun hc hm=> ?_,fun hc=> ?_⟩
 ·rcases h2 with h2|h2
  ·rw[hc]at h2;cases h2
  ·rw[List.contains_eq_mem,decide_eq_false_iff_not]at h2;exact h2 hm
 ·rw[hc,Bool.false_or,Bool.false_or,Bool.eq_iff_iff]at h3
  simp only[List.contains_eq_mem,decide_eq_true_eq,Bool.and_eq_true,Bool.or_eq_true,Bool.not_eq_true',beq_iff_eq]at h3
  rw[h3]
  constructor
  ·rintro⟨a,(b'|b')|b'⟩
   ·exact⟨a,.inl b'⟩
   ·exact⟨a,.inr (.inl b')⟩
   ·exact⟨a,.inr (.inr b')⟩
  ·rintro⟨a,b'|b'|b'⟩
   ·exact⟨a,.inl (.inl b')⟩
   ·exact⟨a,.inl (.inr b')⟩
   ·exact⟨a,.inr b'⟩
theorem lH (h:RA w p r base t s false hv n) (ht:t.size<=60):
  Calls Tryz.prog 221 #[.pointer (some ⟨p,0,none⟩)] w fun e w'=>Fr w w' r base/\xY w' p r base t hv n e (an t s):=by
 have H:=aa h
 have hbw:=h.bw
 clear h
 go_enter Tryz.func221,Tryz.ntmps221
 go_upto_region 1 with fail
 generalize hw2:World.alloc _ _=w2
 have hx2:Ex [] w w2:=by rw[<-hw2];exact (Ex.refl _ _).alloc _
 have hr2:SB w2 w.heap.size noB:=by rw[<-hw2];exact⟨BK.new _ _,rfl⟩
 have H2:=aa (H.O.ex hx2)
 have HR2:=aa hr2
 have F2:=aa (Fr.ex (r:=r) hx2 hbw)
 have KN:=aa (dh H2.O.rk)
 obtain⟨c,hc⟩:=exq (aj t s.k)
 have HC:=aa hc
 rw[<-hc]at KN
 have hc256:c<256:=by rw[hc];exact dt _ _
 clear hw2 hx2 hr2 hc
 go_wp2_with fail
 refine KN.O.mono ?_
 rintro e w3 ⟨rfl,q9,hq9⟩
 have H3:Hid (RA w3 p r base t s false hv n):=by rw[hq9];exact H2.O.drewN q9
 have F3:Hid (Fr w w3 r base):=F2.O.trans (by rw[hq9];exact Fr.drewN (r:=r) _ _ q9)
 have HR3:Hid (SB w3 w.heap.size noB):=by rw[hq9];exact HR2.O
 have hz3:w.heap.size<w3.heap.size:=HR3.O.1.lt
 clear hq9 KN
 obtain⟨k,d,f,g,nm⟩:=s
 obtain⟨c0,c1,c2,f1,f2,hl⟩:=H3.O.facts
 dsimp only at c1
 by_cases hlt:k<t.size
 ·have hd:decide (t.size<=k)=false:=decide_eq_false (by omega)
  obtain⟨b,hb,hbc⟩:=tq hlt
  have hcb:c=b.toNat:=HC.O.trans hbc
  have HB:=aa hb
  have HCB:=aa hcb
  have KC:=aa (fun W=>uI c hc256 W)
  clear hb hbc hcb
  go_wp2_with fail
  go_quiet (fail)
  go_wp2_with fail
  refine (KC.O _).mono ?_
  rintro e w5 ⟨cs,hcs,rfl,hx5,hag5⟩
  have HAG:=aa hag5
  clear hag5
  have hx35:Ex [] w3 w5:=⟨hx5.os,hx5.tape,hx5.output,hx5.size,hx5.block⟩
  have hz5:=hx35.size
  obtain⟨w7,hw7⟩:=exq ((w5.alloc (Obj.cells (sB noB).toArray 213)).setRow w5.heap.size (sB cs).toArray)
  have hn5:SB (w5.alloc (Obj.cells (sB noB).toArray 213)) w5.heap.size noB:=⟨BK.new _ _,rfl⟩
  have hra5:=(H3.O.ex hx35).ex ((Ex.refl [] _).alloc (Obj.cells (sB noB).toArray 213))
  have hr5:=(HR3.O.ex hx35 (by simp)).ex ((Ex.refl [] _).alloc (Obj.cells (sB noB).toArray 213)) (by simp)
  have hf5:Fr w (w5.alloc (Obj.cells (sB noB).toArray 213)) r base:=(F3.O.trans (Fr.ex (r:=r) hx35 (by omega))).trans (Fr.ex (r:=r) ((Ex.refl [] _).alloc _) (by omega))
  have hrf:=be (cs:=cs) hf5 hn5 hra5 (by omega) hbw hcs
  have hset:=Fr.setRow (base:=base) (cs:=cs) hn5 hcs (by omega)
  have hr7:=hset.1 _ _ (by omega) hr5
  have hs7:=hset.2.2
  rw[<-hw7]at hrf hr7 hs7
  have HN5:=aa hn5.1
  have Hw7:=aa hrf.2
  have Fw7:=aa hrf.1
  have HRw7:=aa hr7
  have HS7:=aa hs7
  have HW7:=aa hw7
  obtain⟨V,hV⟩:=exq (sB cs)
  have HIV:Hid ((Tryz.prog.info? 213).map (·.size)=some V.length):=by rw[hV];exact aC hcs
  have HJV:Hid ((Tryz.prog.info? 213).map (·.size)=some V.toArray.size):=by rw[hV];exact az hcs
  have HAV:Hid (V.toArray.all (·.oneCell')=true):=by rw[hV];exact am (ax _)
  have HOV:Hid ((sB noB).toArray.size=V.toArray.size):=by show _=_;rw[List.size_toArray,List.size_toArray,hV,ah,ah,hcs];rfl
  have HVV:=aa hV
  rw[<-hV]at HW7 ⊢
  clear hx5 hx35 hw7 hn5 hra5 hr5 hf5 hrf hset hr7 hs7 hV c0 c1 c2 f1 f2 hl
  obtain⟨i,hi⟩:=exq (ej c)
  rw[<-hi]
  have HIC:=aa hi
  clear hi
  go_upto_region 6 with (refine wpList_store_row rfl 213 _ _ rfl w5.heap.size V.toArray rfl rfl 213 _ HN5.O HJV.O HOV.O HAV.O ?_)
  rw[show (w5.alloc (Obj.cells Tryz.zeroCells213 213)).setRow w5.heap.size V.toArray=w7 from HW7.O.symm]
  clear HW7 HN5
  obtain⟨c0,c1,c2,f1,f2,hl⟩:=Hw7.O.facts
  dsimp only at c1
  cases i with
  |true=>
   have hcls:ej b.toNat=true:=by rw[<-HCB.O];exact HIC.O.symm
   have HE:Hid (∃C,dQ b=some C/\an t ⟨k,d,f,g,nm⟩= .ok (C,0,false) ⟨k+1,d,f,g,nm⟩):=by
    have h1:=(kS (b:=b)).1
    have h2:=(kS (b:=b)).2.1 hcls
    rw[hcls]at h1
    obtain⟨C,hC⟩:=Option.isSome_iff_exists.1 h1
    refine⟨C,hC,?_⟩
    unfold an
    dsimp only
    rw[HB.O]
    dsimp only
    rw[if_neg h2,hC]
    rfl
   go_upto_region 8 with fail
   generalize hw9:World.setCell _ _ _=w8
   have Hw8:Hid (RA w8 p r base t ⟨k+1,d,f,g,nm⟩ false hv n):=(Hw7.O.up2 w8 hw9 (by simp)).1
   have hfr8:=(Hw7.O.up2 w8 hw9 (by simp)).2
   have Fw8:=aa (Fw7.O.trans hfr8)
   have HRw8:=aa (hfr8.ks _ _ HRw7.O)
   have HS8:=aa (hfr8.ks _ _ HS7.O)
   have HRG:Hid (World.rangeAt w8 w5.heap.size 0 V):=by rw[HVV.O];exact HS8.O.1.rangeL
   have KF:=aa (gm cs hcs Hw8.O.rk)
   rw[<-show V=sB cs from HVV.O]at KF
   have hlt8:=HS8.O.1.lt
   clear hw9 hfr8 c0 c1 c2 f1 f2 hl
   go_wp2_with (refine wpList_load_mid rfl 213 _ rfl w5.heap.size 0 rfl V _ HRG.O Tryz.underlying213 rfl HIV.O ?_)
   refine KF.O.mono ?_
   rintro e w9 ⟨ds,hds,rfl,hx9,hfo9⟩
   have HFO:Hid (∀j,j<=128 ->hB ds j=ey f (hB cs) j):=hfo9
   clear hfo9
   have Hw9:=aa (Hw8.O.ex hx9)
   have Fw9:=aa (Fw8.O.trans (Fr.ex (r:=r) hx9 (by omega)))
   have HRw9:=aa (HRw8.O.ex hx9 (by simp))
   clear hx9
   obtain⟨U,hU⟩:=exq (sB ds)
   have HIU:Hid ((Tryz.prog.info? 213).map (·.size)=some U.length):=by rw[hU];exact aC hds
   have HJU:Hid ((Tryz.prog.info? 213).map (·.size)=some U.toArray.size):=by rw[hU];exact az hds
   have HAU:Hid (U.toArray.all (·.oneCell')=true):=by rw[hU];exact am (ax _)
   have HOU:Hid ((sB noB).toArray.size=U.toArray.size):=by show _=_;rw[List.size_toArray,List.size_toArray,hU,ah,ah,hds];rfl
   have HVU:=aa hU
   rw[<-hU]
   clear hU
   obtain⟨C,hsC,hEC⟩:=HE.O
   have hagC:AgC cs C:=HAG.O C (by rw[HCB.O,UInt8.ofNat_toNat];exact hsC)
   have HAD:=aa (show CN C/\AgC ds (sing f C)from ⟨hagC.1,(hagC.toF f).toC HFO.O⟩)
   clear hsC hagC
   have hfin:=be (cs:=ds) Fw9.O HRw9.O Hw9.O (Nat.le_refl _) hbw hds
   have hl9:=(Fr.setRow (base:=base) (cs:=ds) HRw9.O hds hbw).2.2.load
   rw[<-HVU.O]at hfin hl9
   have HFIN:=aa hfin
   have HL9:=aa hl9
   clear hfin hl9
   go_wp2_with (refine wpList_store_row rfl 213 _ _ rfl (w.heap.size) U.toArray rfl rfl 213 _ HRw9.O.1 HJU.O HOU.O HAU.O ?_)
   refine bodyPost_ret (ap rfl rfl HL9.O) rfl ⟨HFIN.O.1,?_⟩
   rw[show an t ⟨k,d,f,g,nm⟩=_ from hEC]
   exact⟨⟨ds,_,hds,by rw[HVU.O];rfl,by simp,fun h=>(by cases h),fun _=>HAD.O⟩,HFIN.O.2⟩
  |false=>
   have hcls:ej b.toNat=false:=by rw[<-HCB.O];exact HIC.O.symm
   have HE:=aa ((kS (b:=b)).2.2 hcls)
   have hsh:dQ b=none:=by
    have h1:=(kS (b:=b)).1
    rw[hcls]at h1
    exact Option.isNone_iff_eq_none.1 (by rw[<-Option.not_isSome,h1];rfl)
   have HSH:=aa hsh
   have KP:=aa (oG b w7)
   rw[<-show c=b.toNat from HCB.O]at KP
   obtain⟨pl,hpl⟩:=exq (plB b)
   rw[<-hpl]at KP
   have HPL:=aa hpl
   clear hsh hpl
   go_wp2_with fail
   refine KP.O.mono ?_
   rintro e w9 ⟨rfl,rfl⟩
   by_cases hok:c<128/\(pl=false\/c=45\/c=34)
   ·have hmem:b∈eh:=HE.O.2 (by rw[<-HCB.O,<-HPL.O];exact hok)
    have HM:Hid (an t ⟨k,d,f,g,nm⟩= .ok (cv b.toNat,b,true) ⟨k+1,d,f,g,nm⟩):=by
     show _=_
     unfold an
     dsimp only
     rw[HB.O]
     dsimp only
     rw[if_pos hmem]
     rfl
    have h128:¬(128:Int)<=(c:Int):=by omega
    have hd128:decide ((128:Int)<=(c:Int))=false:=decide_eq_false h128
    have K1:=aa (fun W=>pw c W hok.1)
    have hcases:(pl=false)\/(pl=true/\c=45)\/(pl=true/\c≠45/\c=34):=by
     cases pl
     ·exact .inl rfl
     ·by_cases h45:c=45
      ·exact .inr (.inl ⟨rfl,h45⟩)
      ·rcases hok.2 with h|h|h
       ·cases h
       ·exact absurd h h45
       ·exact .inr (.inr ⟨rfl,h45,h⟩)
    have hok1:=hok.1
    clear hmem HE HSH hok
    rcases hcases with hp1|⟨hp1,hp2⟩|⟨hp1,hp2,hp3⟩
    case' inl=>subst hp1
    case' inr.inl=>
     subst hp1
     have q45:((c:Int) !=45)=false:=by rw[hp2];rfl
     clear hp2
    case' inr.inr=>
     subst hp1
     have q45:((c:Int) !=45)=true:=by rw[bne_iff_ne];omega
     have q34:((c:Int) !=34)=false:=by rw[hp3];rfl
     clear hp2 hp3
    all_goals
     go_upto_region 14 with fail
     generalize hw9:World.setCell _ _ _=w8
     have Hw8:Hid (RA w8 p r base t ⟨k+1,d,f,g,nm⟩ false hv n):=(Hw7.O.up2 w8 hw9 (by simp)).1
     have hfr8:=(Hw7.O.up2 w8 hw9 (by simp)).2
     have Fw8:=aa (Fw7.O.trans hfr8)
     have HRw8:=aa (hfr8.ks _ _ HRw7.O)
     have hlt8:=HRw8.O.1.lt
     clear hw9 hfr8 c0 c1 c2 f1 f2 hl
     go_wp2_with fail
     refine (K1.O _).mono ?_
     rintro e w9 ⟨rfl,hx9⟩
     have Hw9:=aa (Hw8.O.ex hx9)
     have Fw9:=aa (Fw8.O.trans (Fr.ex (r:=r) hx9 (by omega)))
     have HRw9:=aa (HRw8.O.ex hx9 (by simp))
     clear hx9
     obtain⟨U,hU⟩:=exq (sB (gO c))
     have HIU:Hid ((Tryz.prog.info? 213).map (·.size)=some U.length):=by rw[hU];exact aC (cC c)
     have HJU:Hid ((Tryz.prog.info? 213).map (·.size)=some U.toArray.size):=by rw[hU];exact az (cC c)
     have HAU:Hid (U.toArray.all (·.oneCell')=true):=by rw[hU];exact am (ax _)
     have HOU:Hid ((sB noB).toArray.size=U.toArray.size):=by show _=_;rw[List.size_toArray,List.size_toArray,hU,ah,ah,(cC c)];rfl
     have HVU:=aa hU
     rw[<-hU]
     clear hU
     have hfin:=be (cs:=(gO c)) Fw9.O HRw9.O Hw9.O (Nat.le_refl _) hbw (cC c)
     have hl9:=(Fr.setRow (base:=base) (cs:=(gO c)) HRw9.O (cC c) hbw).2.2.load
     rw[<-HVU.O]at hfin hl9
     have HFIN:=aa hfin
     have HL9:=aa hl9
     clear hfin hl9
     go_wp2_with (refine wpList_store_row rfl 213 _ _ rfl (w.heap.size) U.toArray rfl rfl 213 _ HRw9.O.1 HJU.O HOU.O HAU.O ?_)
     refine bodyPost_ret (ap rfl rfl HL9.O) rfl ⟨HFIN.O.1,?_⟩
     rw[show an t ⟨k,d,f,g,nm⟩=_ from HM.O]
     exact⟨⟨(gO c),_,(cC c),by rw[HVU.O];rfl,by rw[HCB.O];simp,fun _=>(by rw[HCB.O];exact mj _ (by rw[<-HCB.O];exact hok1)),fun h=>(by cases h)⟩,HFIN.O.2⟩
   ·have hmem:b∉eh:=fun hm=>hok (by rw[HCB.O,HPL.O];exact HE.O.1 hm)
    have HM:Hid (an t ⟨k,d,f,g,nm⟩= .bad ⟨k,d,f,g,nm⟩):=by
     show _=_
     unfold an
     dsimp only
     rw[HB.O]
     dsimp only
     rw[if_neg hmem,HSH.O]
    have hcases:(pl=true/\c≠45/\c≠34)\/(pl=false/\128<=c)\/(pl=true/\c=45/\128<=c)\/(pl=true/\c≠45/\c=34/\128<=c):=by
     cases pl
     ·exact .inr (.inl ⟨rfl,by
       rcases Nat.lt_or_ge c 128 with h|h
       ·exact absurd ⟨h,.inl rfl⟩ hok
       ·exact h⟩)
     ·by_cases h45:c=45
      ·exact absurd ⟨by omega,.inr (.inl h45)⟩ hok
      ·by_cases h34:c=34
       ·exact absurd ⟨by omega,.inr (.inr h34)⟩ hok
       ·exact .inl ⟨rfl,h45,h34⟩
    clear hmem HE HSH hok
    rcases hcases with⟨hp1,hp2,hp3⟩|⟨hp1,hp2⟩|⟨_,h45,h128⟩|⟨_,_,h34,h128⟩
    case' inl=>
     subst hp1
     have q45:((c:Int) !=45)=true:=by rw[bne_iff_ne];omega
     have q34:((c:Int) !=34)=true:=by rw[bne_iff_ne];omega
    case' inr.inl=>
     subst hp1
     have h128:(128:Int)<=(c:Int):=by omega
    case inr.inr.inl=>omega
    case inr.inr.inr=>omega
    all_goals
     go_upto_region 12 with fail
     generalize hw9:World.setCell _ _ _=w8
     have Hw8:Hid (RA w8 p r base t ⟨k,d,f,g,nm⟩ true hv n):=(Hw7.O.bads w8 hw9).1
     have hfr8:=(Hw7.O.bads w8 hw9).2
     have Fw8:=aa (Fw7.O.trans hfr8)
     have HRw8:=aa (hfr8.ks _ _ HRw7.O)
     have hlt8:=HRw8.O.1.lt
     clear hw9 hfr8 c0 c1 c2 f1 f2 hl
     obtain⟨U,hU⟩:=exq (sB noB)
     have HIU:Hid ((Tryz.prog.info? 213).map (·.size)=some U.length):=by rw[hU];exact aC rfl
     have HJU:Hid ((Tryz.prog.info? 213).map (·.size)=some U.toArray.size):=by rw[hU];exact az rfl
     have HAU:Hid (U.toArray.all (·.oneCell')=true):=by rw[hU];exact am (ax _)
     have HOU:Hid ((sB noB).toArray.size=U.toArray.size):=by show _=_;rw[hU]
     have HVU:=aa hU
     subst hU
     have hfin:=be (cs:=noB) Fw8.O HRw8.O Hw8.O (Nat.le_refl _) hbw rfl
     have hl9:=(Fr.setRow (base:=base) (cs:=noB) HRw8.O rfl hbw).2.2.load
     have HFIN:=aa hfin
     have HL9:=aa hl9
     clear hfin hl9
     go_wp2_with (refine wpList_store_row rfl 213 _ _ rfl (w.heap.size) (sB noB).toArray rfl rfl 213 _ HRw8.O.1 HJU.O HOU.O HAU.O ?_)
     refine bodyPost_ret (ap rfl rfl HL9.O) rfl ⟨HFIN.O.1,?_⟩
     rw[show an t ⟨k,d,f,g,nm⟩=_ from HM.O]
     exact⟨⟨noB,_,rfl,rfl,by simp⟩,HFIN.O.2⟩
 ·have hd:decide (t.size<=k)=true:=decide_eq_true (by omega)
  have HM:Hid (an t ⟨k,d,f,g,nm⟩= .bad ⟨k,d,f,g,nm⟩):=wc hlt
  go_wp2_with fail
  go_quiet (fail)
  go_upto_region 4 with fail
  generalize hw9:World.setCell _ _ _=w8
  have Hw8:Hid (RA w8 p r base t ⟨k,d,f,g,nm⟩ true hv n):=((H3.O.drewN _).bads w8 hw9).1
  have hfr8:=((H3.O.drewN _).bads w8 hw9).2
  have Fw8:=aa ((F3.O.trans (Fr.drewN (r:=r) _ _ _)).trans hfr8)
  have HRw8:=aa (hfr8.ks _ _ HR3.O)
  have hlt8:=HRw8.O.1.lt
  clear hw9 hfr8 c0 c1 c2 f1 f2 hl
  obtain⟨U,hU⟩:=exq (sB noB)
  have HIU:Hid ((Tryz.prog.info? 213).map (·.size)=some U.length):=by rw[hU];exact aC rfl
  have HJU:Hid ((Tryz.prog.info? 213).map (·.size)=some U.toArray.size):=by rw[hU];exact az rfl
  have HAU:Hid (U.toArray.all (·.oneCell')=true):=by rw[hU];exact am (ax _)
  have HOU:Hid ((sB noB).toArray.size=U.toArray.size):=by show _=_;rw[hU]
  have HVU:=aa hU
  subst hU
  have hfin:=be (cs:=noB) Fw8.O HRw8.O Hw8.O (Nat.le_refl _) hbw rfl
  have hl9:=(Fr.setRow (base:=base) (cs:=noB) HRw8.O rfl hbw).2.2.load
  have HFIN:=aa hfin
  have HL9:=aa hl9
  clear hfin hl9
  go_wp2_with (refine wpList_store_row rfl 213 _ _ rfl (w.heap.size) (sB noB).toArray rfl rfl 213 _ HRw8.O.1 HJU.O HOU.O HAU.O ?_)
  refine bodyPost_ret (ap rfl rfl HL9.O) rfl ⟨HFIN.O.1,?_⟩
  rw[show an t ⟨k,d,f,g,nm⟩=_ from HM.O]
  exact⟨⟨noB,_,rfl,rfl,by simp⟩,HFIN.O.2⟩
theorem tC:∀(S:List Value) (off k:Nat) (C:Array Value),off+k+S.length<=C.size ->(S.zipIdx k).foldl (fun (cs:Array Value) (x:Value×Nat)=>cs.setIfInBounds (off+x.2) x.1) C=(C.toList.take (off+k)++S++C.toList.drop (off+k+S.length)).toArray
 |[],off,k,C,h=>by simp
 |v::r,off,k,C,h=>by
  have e:=list_seg_step C.toList (off+k) v r (by simp at h ⊢;omega)
  rw[List.zipIdx_cons,List.foldl_cons,tC r off (k+1) _ (by simp at h ⊢;omega)]
  congr 1
  simpa[Array.toList_setIfInBounds,Nat.add_assoc]using e
theorem r7 (parts:List (Nat×Value)):Tryz.prog.built 215 parts=Instr.fill (fun i=>(#[(0,1),(1,1),(2,1),(3,1),(4,1),(5,129)]:Array (Nat×Nat))[i]?) iI.toArray parts:=by kernel_rfl
theorem wj (v:Value):Instr.fill (fun i=>(#[(0,1),(1,1),(2,1),(3,1),(4,1),(5,129)]:Array (Nat×Nat))[i]?) iI.toArray [(0,.int .i64 2),(5,v)]=Instr.fill (fun i=>(#[(0,1),(1,1),(2,1),(3,1),(4,1),(5,129)]:Array (Nat×Nat))[i]?) (bc 2 0 0 0 false noB).toArray [(5,v)]:=by kernel_rfl
theorem dS (bs:List Bool) (hb:bs.length=129):Tryz.prog.built 215 [(0,.int .i64 2),(5,.agg (sB bs).toArray)]=some (bc 2 0 0 0 false bs).toArray:=by
 rw[r7,wj]
 have hl:(bc 2 0 0 0 false noB).toArray.size=134:=by rw[List.size_toArray];simp[bc,ah,noB]
 have hs:(sB bs).toArray.size=129:=by rw[List.size_toArray,ah,hb]
 have h:=tC (sB bs) 5 0 (bc 2 0 0 0 false noB).toArray (by rw[hl,ah,hb];decide)
 unfold Instr.fill
 simp only[Value.cells,hs,hl,List.getElem?_toArray,List.getElem?_cons_succ,List.getElem?_cons_zero]
 rw[if_neg (by decide)]
 unfold Instr.fill
 congr 1
 rw[<-Array.foldl_toList,Array.toList_zipIdx]
 refine h.trans ?_
 congr 1
 rw[ah,hb]
 unfold bc
 rw[List.take_append_of_le_length (by simp),List.take_of_length_le (by simp),List.drop_eq_nil_of_le (by simp[ah,noB]),List.append_nil]
theorem RA.exb (h:RA w p r base t s bad hv n) (hb:SB w b bs) (hx:Ex [b] w w'):RA w' p r base t s bad hv n:=by
 obtain⟨av,nv,ys,ns,h1,h2,h3,h4,h5⟩:=h.rn.ex
 have hk:=h.rk
 unfold RK at hk
 have e1:p≠b:=fun e=>(mA hb hk (by decide)) e.symm
 have e2:r≠b:=fun e=>(mA hb h1 (by decide)) e.symm
 refine⟨hk.ex hx (by simpa using e1),⟨av,nv,ys,ns,h1.ex hx (by simpa using e2),gx h2 hx (fun g hg=> ?_),gx h3 hx (fun g hg=> ?_),h4,h5⟩,h.pb,h.rb,Nat.le_trans h.bw hx.size⟩
 ·simp only[List.mem_singleton]
  intro e
  subst e
  exact aE h2 hb.1 (by decide) hg
 ·simp only[List.mem_singleton]
  intro e
  subst e
  exact aE h3 hb.1 (by decide) hg
theorem Fr.exb (hF:Fr w0 w r base) (hbk:SB w b bs) (hx:Ex [b] w w') (h0:w0.heap.size<=b) (hb0:base<=w0.heap.size):Fr w0 w' r base:=by
 refine⟨⟨fun b' bs' h'=> ?_,fun y E hy=> ?_⟩,hF.eb.trans ⟨hx.os,hx.tape,hx.output,hx.size,fun k hk _=>hx.block k (by have:=hF.eb.size;omega) (by simp;omega)⟩⟩
 ·have h1:=hF.ks.sb b' bs' h'
  have h2:=h'.1.lt
  exact h1.ex hx (by simp;omega)
 ·exact (hF.ks.rw y E hy).but hbk.1 (by decide) (by decide) (fun g hg hne=>hx.block g hg (by simpa using hne))
theorem vj {j:Nat} {x:Bool} (hF:Fr w0 w r base) (hb:SB w b bs) (h:RA w p r base t s bad hv n) (h0:w0.heap.size<=b) (hb0:base<=w0.heap.size) (hw:w.setCell ⟨b,j,none⟩ (.bool x)=w'):
  RA w' p r base t s bad hv n/\Fr w0 w' r base/\SB w' b (bs.set j x)/\∀b' bs',b'≠b ->SB w b' bs' ->SB w' b' bs':=by
 have hx:Ex [b] w w':=by rw[<-hw];exact (Ex.refl _ _).setCell (.inl (by simp)) _
 exact⟨h.exb hb hx,hF.exb hb hx h0 hb0,by rw[<-hw];exact hb.set j x,fun b' bs' hne h'=>h'.ex hx (by simpa using hne)⟩
theorem dZ (hF:Fr w0 w r base) (hb:SB w b bs) (h:RA w p r base t s bad hv n) (h0:w0.heap.size<=b) (hb0:base<=w0.heap.size) (hc:cs.length=129) (hw:w'=w.setRow b (sB cs).toArray):
  RA w' p r base t s bad hv n/\Fr w0 w' r base/\SB w' b cs/\∀b' bs',b'≠b ->SB w b' bs' ->SB w' b' bs':=by
 have hx:Ex [b] w w':=by rw[hw];exact (Ex.refl _ _).setRow (.inl (by simp)) _
 exact⟨h.exb hb hx,hF.exb hb hx h0 hb0,by rw[hw];exact hb.store hc,fun b' bs' hne h'=>h'.ex hx (by simpa using hne)⟩
theorem eG (hF:Fr w0 w r base) (h:RA w p r base t s bad hv n) (hc:cs.length=129) (hw:w'=(w.alloc (Obj.cells (sB noB).toArray 213)).setRow w.heap.size (sB cs).toArray) (hb0:base<=w0.heap.size):
  RA w' p r base t s bad hv n/\Fr w0 w' r base/\SB w' w.heap.size cs/\BK (w.alloc (Obj.cells (sB noB).toArray 213)) w.heap.size (Obj.cells (sB noB).toArray 213 (0,0))/\∀b' bs',SB w b' bs' ->SB w' b' bs':=by
 have hx1:Ex [] w (w.alloc (Obj.cells (sB noB).toArray 213)):=(Ex.refl _ _).alloc _
 have hn:SB (w.alloc (Obj.cells (sB noB).toArray 213)) w.heap.size noB:=⟨BK.new _ _,rfl⟩
 have hsz:=hF.eb.size
 have h1:=dZ (hF.trans (Fr.ex (r:=r) hx1 h.bw)) hn (h.ex hx1) hsz hb0 hc hw
 exact⟨h1.1,h1.2.1,h1.2.2.1,hn.1,fun b' bs' h'=>h1.2.2.2 b' bs' (by have:=h'.1.lt;omega) (h'.ex hx1 (by simp))⟩
end Go.Proofs.YtfnanjbleifjkaaGreatDoor.G
