import Derived.Test.YtfnanjbleifjkaaGreatDoorM32
set_option linter.unusedVariables false
set_option linter.unusedSimpArgs false
set_option maxHeartbeats 8000000
set_option maxRecDepth 100000
namespace Go.Proofs.YtfnanjbleifjkaaGreatDoor.G
variable {c:SC} {d:SD} {w w':World} {i k:Nat} {K:List Ti}
open Go.RowKit
theorem SF.loc {d':SD} {w'':World} (h:SF c d d' w w') {l:List Nat} (hx:Ex l w' w'') (hl:∀x∈l,w.heap.size<=x):SF c d d' w w'':=
 ⟨hx.os.trans h.os,hx.tape.trans h.tape,hx.output.trans h.output,Nat.le_trans h.size hx.size,fun k hk hn=>(hx.block k (Nat.lt_of_lt_of_le hk h.size) (fun hm=>by have:=hl k hm;omega)).trans (h.blk k hk hn),h.mg,h.mor⟩
theorem SG.own (hk:SK c) (h:SG c d w) {b:Nat} {cs:Array Value} {ty:TypeId} {fz:Nat×Nat} (hb:BK w b (.cells cs ty fz)) (ht:ty≠274) (hn:¬Mg c d b) (hbb:c.base<=b) (hx:Ex [b] w w'):SG c d w':=
 h.exu hk hx (fun x hx=>by
  obtain rfl:x=b:=by simpa using hx
  exact⟨hn,aE h.run hb (fun e=>ht e.symm),hbb⟩)
def Ao (c:SC) (d:SD) (w:World) (K:List Ti) (e:Ending) (w':World):Prop:=∃(r:Int) (d':SD),e= .returned (.int .i64 r)/\SG c d' w'/\SF c d d' w w'/\NX d'.M d'.T.length r K/\d'.sp=d.sp/\d'.op=d.op
theorem xf (t:Ti):t.old.code=(t.code.1,t.code.2.1,false):=by cases t<;>rfl
theorem rA (hk:SK c):∀(N:Nat) {d:SD} {w:World} (h:SG c d w) (next:Int) (K:List Ti) (hx:NX d.M N next K),Calls Tryz.prog 190 #[.pointer (some ⟨c.S,0,none⟩),.int .i64 next] w (Ao c d w (iW K)):=by
 intro N
 induction N with
 |zero=>
  intro d w h next K hx
  rcases hx with⟨rfl,rfl⟩|⟨j,_,hj,_⟩
  ·have H:=aa h
   clear h
   go_enter Tryz.func190,Tryz.ntmps190
   go_wp2_with fail
   go_ret
   exact⟨-1,d,rfl,H.O,SF.refl _ _ _,.inl ⟨rfl,rfl⟩,rfl,rfl⟩
  ·omega
 |succ N ih=>
  intro d w h next K hx
  rcases hx with⟨rfl,rfl⟩|⟨k,rfl,hkN,hm⟩
  ·have H:=aa h
   clear h
   go_enter Tryz.func190,Tryz.ntmps190
   go_wp2_with fail
   go_ret
   exact⟨-1,d,rfl,H.O,SF.refl _ _ _,.inl ⟨rfl,rfl⟩,rfl,rfl⟩
  obtain⟨s,hs,hso⟩:=h.st hm
  obtain⟨g,cap,hsv,hkl,hgl,hcell,hfz⟩:=h.at hs
  obtain⟨S,hS⟩:=exq (c.S)
  obtain⟨m,hmm⟩:=exq (d.T.length)
  have s2:w.cell? ⟨S,2,none⟩=some (.slice (some ⟨g,0,none⟩) m cap):=by rw[hS,hmm,<-hsv];exact h.blk.all.1 2
  have hSl:S<w.heap.size:=by rw[hS];exact h.blk.lt
  have hkm:(k:Int)<(m:Int):=by omega
  have hk0:¬(k:Int)<0:=by omega
  have a6:w.cell? ⟨g,k*8+6,none⟩=some (.int .i64 s.later):=hcell 6 (by omega)
  obtain⟨v,hv⟩:=exq (s.later)
  have hltr:=hso.ltr
  rw[<-hv]at a6 hltr
  rw[<-hS]
  have HV:=aa hv
  clear hv
  have H:=aa h
  have HM:=aa hm
  have HMM:=aa hmm
  have HS:=aa hS
  rcases hltr with e0|⟨j,e0,hj⟩
  rotate_left
  ·subst e0
   have hj0:¬(j:Int)<0:=by omega
   have HJ:=aa hj
   clear hj hso hs hsv hkl hcell hfz hm hmm hS h HV
   go_enter Tryz.func190,Tryz.ntmps190
   go_wp2_with fail
   go_ret
   exact⟨j,d,rfl,H.O,SF.refl _ _ _,.inr ⟨j,rfl,by have:=(List.getElem?_eq_some_iff.1 HJ.O).1;have:=H.O.lens.2;omega,HJ.O⟩,rfl,rfl⟩
  ·subst e0
   obtain⟨t,K2,rfl,hc,hnx⟩:=hso.hd
   have a0:w.cell? ⟨g,k*8,none⟩=some (.int .i64 s.kind):=hcell 0 (by omega)
   have a1:w.cell? ⟨g,k*8+1,none⟩=some (.int .i64 s.x):=hcell 1 (by omega)
   have a2:w.cell? ⟨g,k*8+2,none⟩=some (.int .i64 s.next):=hcell 2 (by omega)
   have a3:w.cell? ⟨g,k*8+3,none⟩=some (.bool s.fresh):=hcell 3 (by omega)
   have hxw:Ex [] w (w.alloc (Obj.cells #[.int .i64 s.kind,.int .i64 s.x,.int .i64 s.next,.bool s.fresh] 224)):=(Ex.refl _ _).alloc _
   have hbx:BK (w.alloc (Obj.cells #[.int .i64 s.kind,.int .i64 s.x,.int .i64 s.next,.bool s.fresh] 224)) w.heap.size (.cells #[.int .i64 s.kind,.int .i64 s.x,.int .i64 s.next,.bool s.fresh] 224 (0,0)):=BK.new _ _
   obtain⟨w1,hw1⟩:=exq (w.alloc (Obj.cells #[.int .i64 s.kind,.int .i64 s.x,.int .i64 s.next,.bool s.fresh] 224))
   rw[<-hw1]at hxw hbx
   obtain⟨h1,f1⟩:=h.ex hk hxw
   have hnb:=h.new hk (Nat.le_refl w.heap.size)
   have hbw:=h.bw hk
   obtain⟨b,hb⟩:=exq (w.heap.size)
   rw[<-hb]at hbx hnb hbw
   have K1:=aa (ih h1 s.next K2 (hnx.more (fun _ _ h=>h) (by omega)))
   have hU:iW (t::K2)∈c.U:=(hk.cl _ (h.si.inU _ (List.mem_of_getElem? hm))).old
   have hco:(s.kind,s.x,false)=t.old.code:=by rw[xf,hc]
   obtain⟨kind,e1⟩:=exq (s.kind)
   obtain⟨x,e2⟩:=exq (s.x)
   obtain⟨next,e3⟩:=exq (s.next)
   obtain⟨fresh,e4⟩:=exq (s.fresh)
   rw[<-e1]at a0 hw1 hbx hco
   rw[<-e2]at a1 hw1 hbx hco
   rw[<-e3]at a2 hw1 hbx K1
   rw[<-e4]at a3 hw1 hbx
   rw[<-hS]at K1
   have HU:=aa hU
   have HCO:=aa hco
   have F1:=aa f1
   have HB:=aa hbx
   have HNB:=aa hnb
   have HW1:=aa hw1
   have HBE:=aa hb
   have bb2:w1.cell? ⟨b,2,none⟩=some (.int .i64 next):=hbx.all.1 2
   have hbl1:=hbx.lt
   have IH:=aa hk
   clear e1 e2 e3 e4 hU hco h1 f1 hnb hw1 hb hxw hbx hso hs hsv hkl hcell hfz hm hmm hS h HV hc hnx ih
   go_enter Tryz.func190,Tryz.ntmps190
   go_upto_region 5 with fail
   rw[<-HW1.O,<-HBE.O]
   clear s2 hSl a6 a0 a1 a2 a3
   go_wp2_with fail
   refine K1.O.mono ?_
   rintro e w2 ⟨r,d2,rfl,h2,f2,hx2,hsp,hop⟩
   have hb2:=BK.sf HB.O f2 HNB.O
   have hnb2:¬Mg c d2 b:=fun hm=>HNB.O (f2.mg b hbl1 hm)
   have hb3:=(hb2.self 2 (.int .i64 r)).self 3 (.bool false)
   simp only[List.setIfInBounds_toArray,List.set_cons_zero,List.set_cons_succ]at hb3
   have hx3:Ex [b] w2 ((w2.setCell ⟨b,2,none⟩ (.int .i64 r)).setCell ⟨b,3,none⟩ (.bool false)):=((Ex.refl [b] w2).setCell (by simp) _).setCell (by simp) _
   obtain⟨w3,hw3⟩:=exq ((w2.setCell ⟨b,2,none⟩ (.int .i64 r)).setCell ⟨b,3,none⟩ (.bool false))
   rw[<-hw3]at hx3 hb3
   have h3:=h2.own hk hb2 (by decide) hnb2 hbw hx3
   have f3:SF c d d2 w w3:=(F1.O.trans f2).loc hx3 (by simp[HBE.O])
   obtain⟨q0,q1⟩:=hb2.all
   have hbl2:=hb2.lt
   have K2':=aa (jt hk h3 t.old (iW K2) HU.O r hx2 kind x false HCO.O)
   rw[<-HS.O]at K2'
   have HW3:=aa hw3
   have H3:=aa h3
   have F3:=aa f3
   have HSP:=aa (And.intro hsp hop)
   have p0:w3.cell? ⟨b,0,none⟩=some (.int .i64 kind):=hb3.all.1 0
   have p1:w3.cell? ⟨b,1,none⟩=some (.int .i64 x):=hb3.all.1 1
   have p2:w3.cell? ⟨b,2,none⟩=some (.int .i64 r):=hb3.all.1 2
   have p3:w3.cell? ⟨b,3,none⟩=some (.bool false):=hb3.all.1 3
   have hbl3:=hb3.lt
   clear hb2 hnb2 hb3 hx3 hw3 h3 f3 h2 f2 hx2 hsp hop bb2 K1
   go_upto_region 7 with fail
   rw[<-HW3.O]
   clear q0 q1
   go_wp2_with fail
   refine K2'.O.mono ?_
   rintro e w4 ⟨i,d4,rfl,h4,f4,hi,hsp4,hop4⟩
   have f34:=F3.O.trans f4
   have hm4:=f34.mor k _ HM.O
   obtain⟨s,hs,hso⟩:=h4.st hm4
   obtain⟨g2,cap2,hsv2,hkl2,hgl2,hcell2,hfz2⟩:=h4.at hs
   have HMI:=aa hi
   have hp:=h4.upd hk hs hm4 (s':=⟨s.kind,s.x,s.next,s.fresh,s.first,s.second,(i:Int),s.lb⟩) hsv2 6 (by decide) (.int .i64 (i:Int)) rfl rfl rfl hso.fst hso.snd (.inr ⟨i,rfl,HMI.O⟩)
   obtain⟨m2,hmm2⟩:=exq (d4.T.length)
   have t2:w4.cell? ⟨S,2,none⟩=some (.slice (some ⟨g2,0,none⟩) m2 cap2):=by rw[HS.O,hmm2,<-hsv2];exact h4.blk.all.1 2
   have hSl2:S<w4.heap.size:=by rw[HS.O];exact h4.blk.lt
   have hkm2:(k:Int)<(m2:Int):=by omega
   have fz2:=hfz2 (k*8+6)
   have v4:w4.cell? ⟨g2,k*8+6,none⟩=some (.int .i64 s.later):=hcell2 6 (by omega)
   have HP:=aa hp
   have HSV2:=aa hsv2
   have HMM2:=aa hmm2
   have HSP4:=aa (And.intro hsp4 hop4)
   have F34:=aa f34
   clear hp hso hs hsv2 hmm2 hcell2 hfz2 hm4 f34 f4 h4 hsp4 hop4 hi p0 p1 p2 p3 hbl3 K2'
   go_upto_region 9 with fail
   obtain⟨w5,hw5⟩:=exq (w4.setCell ⟨g2,k*8+6,none⟩ (.int .i64 (i:Int)))
   rw[<-hw5]
   have hp:=HP.O
   rw[<-hw5]at hp
   obtain⟨h5,f5⟩:=hp
   have u2:w5.cell? ⟨S,2,none⟩=some (.slice (some ⟨g2,0,none⟩) m2 cap2):=by rw[HS.O,HMM2.O,<-HSV2.O];exact h5.blk.all.1 2
   have hSl5:S<w5.heap.size:=by rw[HS.O];exact h5.blk.lt
   have hgl5:g2<w5.heap.size:=Nat.lt_of_lt_of_le hgl2 f5.size
   have u6:w5.cell? ⟨g2,k*8+6,none⟩=some (.int .i64 (i:Int)):=by rw[hw5];exact World.cell?_setCell_same' _ _ _ (by rw[v4];rfl)
   have H5:=aa h5
   have F5:=aa f5
   clear h5 f5 hw5 HP t2 v4 fz2
   go_wp2_with fail
   go_ret
   exact⟨i,_,rfl,H5.O,F34.O.trans F5.O,.inr ⟨i,rfl,by have h8:=(List.getElem?_eq_some_iff.1 HMI.O).1;have h9:=H5.O.lens.2;exact Nat.lt_of_lt_of_le h8 (Nat.le_of_eq h9),HMI.O⟩,HSP4.O.1.trans HSP.O.1,HSP4.O.2.trans HSP.O.2⟩
def Aft (sp:List (Int×Int)) (op:List Int) (sp':List (Int×Int)) (op':List Int):Option Mk ->Prop
 |none=>sp'=sp/\op'=op
 |some ms=>sp'=(fE sp op ms).1/\op'=(fE sp op ms).2
def cu (c:SC) (d:SD) (w:World) (R:Option Mk) (e:Ending) (w':World):Prop:=∃d':SD,e= .returned (.bool R.isSome)/\SG c d' w'/\SF c d d' w w'/\Aft d.sp d.op d'.sp d'.op R
def evK (c:SC) (i:Nat) (K:List Ti):Option Mk:=ev ((lR c.l3).drop i) (eY c.l3 c.en i) (erK K)
def eA (c:SC) (i:Nat) (K:List Ti):Prop:=∀(d:SD) (w:World) (next:Int),SG c d w ->NX d.M d.T.length next K ->Calls Tryz.prog 99 #[.pointer (some ⟨c.S,0,none⟩),.int .i64 next,.int .i64 (i:Int)] w (cu c d w (evK c i K))
theorem cu.of {d1:SD} {w1:World} {R:Option Mk} {e:Ending} (h:cu c d1 w1 R e w') (hf:SF c d d1 w w1) (h1:d1.sp=d.sp) (h2:d1.op=d.op):cu c d w R e w':=by
 obtain⟨d',e1,g,f,a⟩:=h
 rw[h1,h2]at a
 exact⟨d',e1,g,hf.trans f,a⟩
theorem jX (l:List (Nat×Nat×Nat)):(lR l).length=l.length:=by unfold lR;rw[List.length_map]
theorem kZ (hk:SK c) (i:Nat) (hi:i<=c.l3.length) (h:SG c d w):Calls Tryz.prog 99 #[.pointer (some ⟨c.S,0,none⟩),.int .i64 (-1),.int .i64 (i:Int)] w (cu c d w (evK c i [])):=by
 obtain⟨p,cc,hlv⟩:=aA h.run
 have c1:w.cell? ⟨c.S,1,none⟩=some (.slice p c.l3.length cc):=by rw[<-hlv];exact h.blk.all.1 1
 have hl:=h.blk.lt
 have hev:evK c i []=if i=c.l3.length then some []else none:=by
  unfold evK
  rw[show erK []=[]from rfl,em]
  have he:(List.drop i (lR c.l3)).isEmpty=true↔i=c.l3.length:=by rw[List.isEmpty_iff,List.drop_eq_nil_iff,jX];omega
  by_cases e:i=c.l3.length
  ·rw[if_pos e,if_pos (he.2 e)]
  ·rw[if_neg e,if_neg (fun h9=>e (he.1 h9))]
 rw[hev]
 obtain⟨n,hn⟩:=exq (c.l3.length)
 obtain⟨S,hS⟩:=exq (c.S)
 rw[<-hn,<-hS]at c1
 rw[<-hn]at hi ⊢
 rw[<-hS]at hl ⊢
 have H:=aa h
 clear h hn hS hlv hev hk
 by_cases e:i=n
 ·subst e
  rw[if_pos rfl]
  go_enter Tryz.func99,Tryz.ntmps99
  go_wp2_with fail
  go_ret
  exact⟨d,rfl,H.O,SF.refl _ _ _,rfl,rfl⟩
 ·rw[if_neg e]
  have eb:((i:Int)==(n:Int))=false:=by rw[beq_eq_false_iff_ne];omega
  go_enter Tryz.func99,Tryz.ntmps99
  go_wp2_with fail
  go_ret
  exact⟨d,rfl,H.O,SF.refl _ _ _,rfl,rfl⟩
theorem SG.lose (hk:SK c) (h:SG c d w) {s:St} {bs:List Bool} (hs:d.T[k]? =some s) (hm:d.M[k]? =some K) (hb:d.Ls[k]? =some bs) (he:evK c i K=none):
  SG c ⟨d.sv,d.T,d.M,d.Ls.set k (bs.set i true),d.sp,d.op⟩ (w.setCell ⟨s.lb,i,none⟩ (.bool true))/\SF c d ⟨d.sv,d.T,d.M,d.Ls.set k (bs.set i true),d.sp,d.op⟩ w (w.setCell ⟨s.lb,i,none⟩ (.bool true)):=by
 obtain⟨hbb,hbk⟩:=h.lst k s bs hs hb
 have heb:=h.wr hk (a:=⟨s.lb,i,none⟩) hbb (.bool true)
 have st:∀k',k'≠s.lb ->(w.setCell ⟨s.lb,i,none⟩ (.bool true)).heap[k']? =w.heap[k']? :=fun k' e=>Below.heap_setCell _ _ _ _ e
 refine⟨⟨h.eb.trans heb,h.blk.set (fun e=>by
   have e:c.S=s.lb:=e
   have h9:=hbk
   rw[<-e]at h9
   have:=zd h9 h.blk
   revert this;decide) _,aH h.run (fun b hb=>st b (fun e=>aE h.run hbk (by decide) (e▸hb))),aH h.sts (fun b hb=>st b (fun e=>aE h.sts hbk (by decide) (e▸hb))),aH h.spn (fun b hb=>st b (fun e=>aE h.spn hbk (by decide) (e▸hb))),aH h.opn (fun b hb=>st b (fun e=>aE h.opn hbk (by decide) (e▸hb))),fun j sj bj hj hbj=> ?_,h.ld,h.si.lose hm hb he,h.spl,h.opl⟩,⟨heb.os,heb.tape,heb.output,heb.size,fun b hb hn=>st b (fun e=>hn (.inr (.inr (.inr (.inr ⟨s,List.mem_of_getElem? hs,e.symm⟩))))),fun _ _ h=>h,fun _ _ h=>h⟩⟩
 have hbj:(d.Ls.set k (bs.set i true))[j]? =some bj:=hbj
 by_cases e:k=j
 ·subst e
  rw[List.getElem?_set_self (List.getElem?_eq_some_iff.1 hb).1]at hbj
  have hj:d.T[k]? =some sj:=hj
  rw[hs]at hj
  cases hj
  refine⟨hbb,?_⟩
  rw[<-Option.some.inj hbj,show sB (bs.set i true)=(sB bs).set i (.bool true) by unfold sB;rw[List.map_set]]
  exact hbk.selfL i _
 ·rw[List.getElem?_set_ne e]at hbj
  obtain⟨p1,p2⟩:=h.lst j sj bj hj hbj
  exact⟨p1,p2.set (fun e9=>e (h.ld k j s sj hs hj e9.symm)) _⟩
theorem xT (hk:SK c) (hi:i<=c.l3.length) (HT:∀(d:SD) (w:World),SG c d w ->d.M[k]? =some K ->Calls Tryz.prog 143 #[.pointer (some ⟨c.S,0,none⟩),.int .i64 (k:Int),.int .i64 (i:Int)] w (cu c d w (evK c i K))) (h:SG c d w) (hm:d.M[k]? =some K):
  Calls Tryz.prog 99 #[.pointer (some ⟨c.S,0,none⟩),.int .i64 (k:Int),.int .i64 (i:Int)] w (cu c d w (evK c i K)):=by
 obtain⟨s,hs,hso⟩:=h.st hm
 obtain⟨g,cap,hsv,hkl,hgl,hcell,hfz⟩:=h.at hs
 obtain⟨bs,hbs⟩:∃bs,d.Ls[k]? =some bs:=⟨_,List.getElem?_eq_getElem (by rw[h.lens.1];exact hkl)⟩
 obtain⟨hbl,hev⟩:=h.si.lost k K bs hm hbs
 obtain⟨_,hbk⟩:=h.lst k s bs hs hbs
 rw[jX]at hbl
 obtain⟨v,hv⟩:∃v,bs[i]? =some v:=⟨_,List.getElem?_eq_getElem (by omega)⟩
 have HE:Hid (v=true ->evK c i K=none):=fun e=>hev i (by rw[hv,e])
 have KT:=aa (HT d w h hm)
 obtain⟨R,hR⟩:=exq (evK c i K)
 rw[<-hR]at KT HE ⊢
 obtain⟨S,hS⟩:=exq (c.S)
 obtain⟨m,hmm⟩:=exq (d.T.length)
 obtain⟨n,hn⟩:=exq (c.l3.length)
 have s2:w.cell? ⟨S,2,none⟩=some (.slice (some ⟨g,0,none⟩) m cap):=by rw[hS,hmm,<-hsv];exact h.blk.all.1 2
 have hSl:S<w.heap.size:=by rw[hS];exact h.blk.lt
 have hkm:(k:Int)<(m:Int):=by omega
 have hk0:¬(k:Int)<0:=by omega
 have hin:(i:Int)<(n:Int)+1:=by omega
 obtain⟨lb,hlb⟩:=exq (s.lb)
 have a7:w.cell? ⟨g,k*8+7,none⟩=some (.slice (some ⟨lb,0,none⟩) (n+1) (n+1)):=by rw[hlb,hn];exact hcell 7 (by omega)
 have hlbl:lb<w.heap.size:=by rw[hlb];exact hbk.lt
 have l0:w.cell? ⟨lb,i,none⟩=some (.bool v):=by
  rw[hlb,hbk.all.1 i]
  unfold sB
  rw[List.getElem?_toArray,List.getElem?_map,hv]
  rfl
 rw[<-hS]at KT ⊢
 have H:=aa h
 have HM:=aa hm
 have HS:=aa hS
 have HR:=aa hR
 have HN:=aa hn
 have HK:=aa hk
 clear hs hso hsv hkl hcell hfz hbs hbl hev hbk hv HT hR hS hmm hn hlb h hm hk
 cases v with
 |true=>
  have hr:=HE.O rfl
  subst hr
  clear HE KT
  go_enter Tryz.func99,Tryz.ntmps99
  go_wp2_with fail
  go_ret
  exact⟨d,rfl,H.O,SF.refl _ _ _,rfl,rfl⟩
 |false=>
  clear HE
  go_enter Tryz.func99,Tryz.ntmps99
  go_wp2_with fail
  refine KT.O.mono ?_
  rintro e w2 ⟨d2,rfl,h2,f2,ha⟩
  cases R with
  |some ms=>
   have H2:=aa h2
   have F2:=aa f2
   have HA:=aa ha
   clear h2 f2 ha
   go_wp2_with fail
   go_ret
   exact⟨d2,rfl,H2.O,F2.O,HA.O⟩
  |none=>
   have hm2:=f2.mor k K HM.O
   obtain⟨s,hs,hso⟩:=h2.st hm2
   obtain⟨g2,cap2,hsv2,hkl2,hgl2,hcell2,hfz2⟩:=h2.at hs
   obtain⟨bs,hbs⟩:∃bs,d2.Ls[k]? =some bs:=⟨_,List.getElem?_eq_getElem (by rw[h2.lens.1];exact hkl2)⟩
   obtain⟨hbl,_⟩:=h2.si.lost k K bs hm2 hbs
   obtain⟨_,hbk⟩:=h2.lst k s bs hs hbs
   rw[jX]at hbl
   obtain⟨v,hv⟩:∃v,bs[i]? =some v:=⟨_,List.getElem?_eq_getElem (by omega)⟩
   have hp:=h2.lose HK.O hs hm2 hbs HR.O.symm
   obtain⟨m2,hmm2⟩:=exq (d2.T.length)
   obtain⟨lb2,hlb2⟩:=exq (s.lb)
   have t2:w2.cell? ⟨S,2,none⟩=some (.slice (some ⟨g2,0,none⟩) m2 cap2):=by rw[HS.O,hmm2,<-hsv2];exact h2.blk.all.1 2
   have hSl2:S<w2.heap.size:=by rw[HS.O];exact h2.blk.lt
   have hkm2:(k:Int)<(m2:Int):=by omega
   have a72:w2.cell? ⟨g2,k*8+7,none⟩=some (.slice (some ⟨lb2,0,none⟩) (n+1) (n+1)):=by rw[hlb2,HN.O];exact hcell2 7 (by omega)
   have hlbl2:lb2<w2.heap.size:=by rw[hlb2];exact hbk.lt
   have fz2:w2.frozen? ⟨lb2,i,none⟩=false:=by rw[hlb2];exact hbk.all.2 i
   have l02:w2.cell? ⟨lb2,i,none⟩=some (.bool v):=by
    rw[hlb2,hbk.all.1 i]
    unfold sB
    rw[List.getElem?_toArray,List.getElem?_map,hv]
    rfl
   rw[<-hlb2]at hp
   have HP:=aa hp
   have F2:=aa f2
   have HA:=aa ha
   clear hp hs hso hsv2 hkl2 hcell2 hfz2 hbs hbl hbk hv hmm2 hlb2 hm2 h2 f2 ha s2 a7 l0 hSl hlbl KT
   go_wp2_with fail
   go_ret
   exact⟨_,rfl,HP.O.1,F2.O.trans HP.O.2,HA.O⟩
theorem kA {Ka Kn:List Ti} (ha:eA c i Ka) (hn:eA c i Kn) (z:Bool) (h:SG c d w) {a next:Int} (xa:NX d.M d.T.length a Ka) (xn:NX d.M d.T.length next Kn):
  Calls Tryz.prog 226 #[.pointer (some ⟨c.S,0,none⟩),.int .i64 a,.int .i64 next,.bool z,.int .i64 (i:Int)] w (cu c d w (bV z (evK c i Ka) (evK c i Kn))):=by
 have key:∀{K1 K2:List Ti} {n1 n2:Int},eA c i K1 ->eA c i K2 ->NX d.M d.T.length n1 K1 ->NX d.M d.T.length n2 K2 ->
   Calls Tryz.prog 226 #[.pointer (some ⟨c.S,0,none⟩),.int .i64 n1,.int .i64 n2,.bool false,.int .i64 (i:Int)] w (cu c d w ((evK c i K1).or (evK c i K2)))/\
   Calls Tryz.prog 226 #[.pointer (some ⟨c.S,0,none⟩),.int .i64 n2,.int .i64 n1,.bool true,.int .i64 (i:Int)] w (cu c d w ((evK c i K1).or (evK c i K2))):=by
  intro K1 K2 n1 n2 h1 h2 x1 x2
  have KA:=aa (h1 d w n1 h x1)
  have KN:Hid (∀d' w',SG c d' w' ->SF c d d' w w' ->Calls Tryz.prog 99 #[.pointer (some ⟨c.S,0,none⟩),.int .i64 n2,.int .i64 (i:Int)] w' (cu c d' w' (evK c i K2))):=fun d' w' g f=>h2 d' w' n2 g (by
   rcases x2 with x|⟨j,e1,e2,e3⟩
   ·exact .inl x
   ·exact .inr ⟨j,e1,by have h8:=(List.getElem?_eq_some_iff.1 (f.mor j _ e3)).1;have h9:=g.lens.2;omega,f.mor j _ e3⟩)
  obtain⟨R1,hR1⟩:=exq (evK c i K1)
  obtain⟨R2,hR2⟩:=exq (evK c i K2)
  obtain⟨S,hS⟩:=exq (c.S)
  rw[<-hR1,<-hS]at KA
  rw[<-hR2,<-hS]at KN
  rw[<-hR1,<-hR2,<-hS]
  clear hR1 hR2 hS h1 h2 x1 x2 h ha hn xa xn
  constructor
  all_goals
   go_enter Tryz.func226,Tryz.ntmps226
   go_wp2_with fail
   refine KA.O.mono ?_
   rintro e w2 ⟨d2,rfl,h2,f2,ha⟩
   cases R1 with
   |some ms=>
    have H2:Hid (cu c d w ((some ms).or R2) (.returned (.bool true)) w2):=⟨d2,rfl,h2,f2,ha⟩
    clear h2 f2 ha
    go_wp2_with fail
    go_ret
    exact H2.O
   |none=>
    have K2:=aa ((KN.O d2 w2 h2 f2).mono (fun e w3 h3=>(cu.of h3 f2 ha.1 ha.2)))
    clear h2 f2 ha
    go_wp2_with fail
    refine K2.O.mono ?_
    rintro e w3 h3
    obtain⟨d3,rfl,g3,f3,a3⟩:=h3
    have H3:Hid (cu c d w (Option.or none R2) (.returned (.bool R2.isSome)) w3):=⟨d3,rfl,g3,f3,a3⟩
    clear g3 f3 a3
    go_wp2_with fail
    go_ret
    exact H3.O
 cases z with
 |false=>exact (key ha hn xa xn).1
 |true=>exact (key hn ha xn xa).2
theorem NX.at (h:SG c d w) (hi:d.M[i]? =some K):NX d.M d.T.length (i:Int) K:= .inr ⟨i,rfl,by have h8:=(List.getElem?_eq_some_iff.1 hi).1;have h9:=h.lens.2;omega,hi⟩
theorem NX.sf {d':SD} {r:Int} (h:NX d.M d.T.length r K) (f:SF c d d' w w') (g:SG c d' w'):NX d'.M d'.T.length r K:=by
 rcases h with x|⟨j,e1,e2,e3⟩
 ·exact .inl x
 ·rw[e1];exact NX.at g (f.mor j _ e3)
theorem kt {o:Oper} {a:Act} {K:Act ->World ->Prop} {Q:Exit ->Act ->World ->Prop} (ho:o.op= .alloc 215) (h:K (a.put o.dst (.pointer (some ⟨w.heap.size,0,none⟩))) (w.alloc (.cells iI.toArray 215))):o.wp Tryz.prog a w K Q:=by
 obtain⟨ti,hti,hzz0,hzz1,hzz2⟩:=info_parts qP
 unfold Oper.wp execOp
 simp only[ho,Instr.alloc,newVar,zeroValue,typeInfo,hti,hzz0,Sem.run_bind,Sem.run_pure,Result.andThen_ok]
 exact h
theorem cX (k a b n:Int) (z:Bool) (bs:List Bool) (hb:bs.length=129):(bc k a b n z bs).length=134:=by simp[bc,ah,hb]
theorem b6 (k a b n:Int) (z:Bool) (bs:List Bool):∀u∈bc k a b n z bs,u.oneCell'=true:=fun u hu=>by
 unfold bc at hu
 rcases List.mem_append.1 hu with hu|hu
 ·simp only[List.mem_cons,List.not_mem_nil,or_false]at hu
  rcases hu with rfl|rfl|rfl|rfl|rfl<;>rfl
 ·exact ax _ u hu
theorem oN (hk:SK c) {t:Ti} {K':List Ti} {y:Nat} {A:Yp} {z:Bool} {E:List Value} (h:SG c d w) (hm:d.M[k]? =some (t::K')) (hy:t.code.2.1=(y:Int)) (h1:iN (t::K')= .rend y A z true::K') (h2:il (t::K')= .ex A:: .rend y A z true::K')
  (he:aL c.w0 c.rb y E) (hE:E.length=134) (hEP:∀u∈E,u.oneCell'=true) (hE1:E[1]? =some (.int .i64 (A.idx:Int))) (hE4:E[4]? =some (.bool z)) (W1:eA c i (.ex A:: .rend y A z true::K')) (W2:eA c i K'):
  Calls Tryz.prog 188 #[.pointer (some ⟨c.S,0,none⟩),.int .i64 (k:Int),.int .i64 (i:Int)] w (cu c d w (bV z (evK c i (.ex A:: .rend y A z true::K')) (evK c i K'))):=by
 have G1:=aa h1
 have G2:=aa h2
 have V1:=aa W1
 have V2:=aa W2
 have E1:=aa hE1
 have E4:=aa hE4
 clear h1 h2 W1 W2 hE1 hE4
 obtain⟨s,hs,hso⟩:=h.st hm
 obtain⟨g,cap,hsv,hkl,hgl,hcell,hfz⟩:=h.at hs
 obtain⟨t9,K9,e9,hc,hnx⟩:=hso.hd
 cases e9
 obtain⟨base9,av,ro,gi,nv,na,xs,hr,hav,hyn,hxs⟩:=h.rows hk y E he
 obtain⟨ga,ca,rfl,_⟩:=dO hav (by omega)
 have hsx:s.x=(y:Int):=by rw[<-hy,hc]
 have a0:w.cell? ⟨g,k*8,none⟩=some (.int .i64 s.kind):=hcell 0 (by omega)
 have a1:w.cell? ⟨g,k*8+1,none⟩=some (.int .i64 (y:Int)):=by rw[<-hsx];exact hcell 1 (by omega)
 have a2:w.cell? ⟨g,k*8+2,none⟩=some (.int .i64 s.next):=hcell 2 (by omega)
 have a3:w.cell? ⟨g,k*8+3,none⟩=some (.bool s.fresh):=hcell 3 (by omega)
 have hxw:Ex [] w (w.alloc (Obj.cells #[.int .i64 s.kind,.int .i64 (y:Int),.int .i64 s.next,.bool s.fresh] 224)):=(Ex.refl _ _).alloc _
 have hbx:BK (w.alloc (Obj.cells #[.int .i64 s.kind,.int .i64 (y:Int),.int .i64 s.next,.bool s.fresh] 224)) w.heap.size (.cells #[.int .i64 s.kind,.int .i64 (y:Int),.int .i64 s.next,.bool s.fresh] 224 (0,0)):=BK.new _ _
 obtain⟨w1,hw1⟩:=exq (w.alloc (Obj.cells #[.int .i64 s.kind,.int .i64 (y:Int),.int .i64 s.next,.bool s.fresh] 224))
 rw[<-hw1]at hxw hbx
 obtain⟨h1,f1⟩:=h.ex hk hxw
 have hnb:=h.new hk (Nat.le_refl w.heap.size)
 obtain⟨b,hb⟩:=exq (w.heap.size)
 rw[<-hb]at hbx hnb
 obtain⟨S,hS⟩:=exq (c.S)
 obtain⟨rb,hrb⟩:=exq (c.rb)
 obtain⟨m,hmm⟩:=exq (d.T.length)
 have s2:w.cell? ⟨S,2,none⟩=some (.slice (some ⟨g,0,none⟩) m cap):=by rw[hS,hmm,<-hsv];exact h.blk.all.1 2
 have hSl:S<w.heap.size:=by rw[hS];exact h.blk.lt
 have hkm:(k:Int)<(m:Int):=by omega
 have x1:w1.cell? ⟨S,0,none⟩=some (.pointer (some ⟨rb,0,none⟩)):=by rw[hS,hrb];exact h1.blk.all.1 0
 have hr1:=hr.ex hxw (by simp)
 have x2:w1.cell? ⟨rb,0,none⟩=some (.slice (some ⟨ga,0,none⟩) na ca):=by rw[hrb];exact hr1.all.1 0
 have x3:w1.cell? ⟨b,1,none⟩=some (.int .i64 (y:Int)):=hbx.all.1 1
 have hav1:=aU hav hxw (by simp)
 have x4:w1.rangeAt ga (y*134) E:=fun j v hv=>by
  rw[<-hxs,List.getElem?_take]at hv
  by_cases hj:j<134
  ·rw[if_pos hj,List.getElem?_drop]at hv
   rw[hav1.cellAt (y*134+j) (by have:(y+1)*134<=na*134:=Nat.mul_le_mul_right _ hyn;omega)]
   exact hv
  ·rw[if_neg hj]at hv;cases hv
 have hyna:(y:Int)<(na:Int):=by omega
 have hSl1:S<w1.heap.size:=by rw[hS];exact h1.blk.lt
 have hrl1:rb<w1.heap.size:=by rw[hrb];exact hr1.lt
 have hbl1:=hbx.lt
 have hgl1:ga<w1.heap.size:=(hav1.lt ga rfl).2
 obtain⟨kd,hkd⟩:=exq (s.kind)
 obtain⟨nx,hnx9⟩:=exq (s.next)
 obtain⟨fr,hfr⟩:=exq (s.fresh)
 rw[<-hkd]at a0 hw1 hbx
 rw[<-hnx9]at a2 hw1 hbx hnx
 rw[<-hfr]at a3 hw1 hbx
 have HKD:=aa (And.intro hc (And.intro hkd hfr))
 have HNX:Hid (NX d.M d.T.length nx K'):=hnx.more (fun _ _ h=>h) (by omega)
 have HI:Hid ((Tryz.prog.info? 215).map (·.size)=some E.length):=by show _=_;rw[hE];kernel_rfl
 have HI':Hid ((Tryz.prog.info? 215).map (·.size)=some E.toArray.size):=by show _=_;rw[List.size_toArray];exact HI.O
 have HOLD:Hid (iI.toArray.size=E.toArray.size):=by show _=_;rw[List.size_toArray,List.size_toArray,hE];rfl
 have HAL:=aa (am hEP)
 have HM:=aa hm
 have HK:=aa hk
 have H:=aa h
 have H1:=aa h1
 have F1:=aa f1
 have HB:=aa hbx
 have HNB:=aa hnb
 have HW1:=aa hw1
 have HBE:=aa hb
 have HS:=aa hS
 rw[<-hS]
 clear hs hso hsv hkl hcell hfz hnx hr hav hyn hxs hxw hbx h1 f1 hnb hw1 hb hS hrb hmm hr1 hav1 hkd hnx9 hfr h hm hc he hE hEP hy hsx hk
 go_enter Tryz.func188,Tryz.ntmps188
 go_upto_region 2 with fail
 rw[<-HW1.O,<-HBE.O]
 clear s2 hSl a0 a1 a2 a3 hkm
 refine aQ (by kernel_rfl) ?_
 refine tk (i:=0) (v:= ?_) rfl ?_ ?_
 rotate_left
 ·intro w'
  go_simp
  try with_reducible rfl
 simp only[Act.put,List.replicate,Array.replicate,lx]
 refine tk (i:=1) (v:= ?_) rfl ?_ ?_
 rotate_left
 ·intro w'
  go_simp
  try with_reducible rfl
 simp only[Act.put,List.replicate,Array.replicate,lx]
 refine tk (i:=2) (v:= ?_) rfl ?_ ?_
 rotate_left
 ·intro w'
  go_simp
  try with_reducible rfl
 simp only[Act.put,List.replicate,Array.replicate,lx]
 refine tk (i:=7) (v:= ?_) rfl ?_ ?_
 rotate_left
 ·intro w'
  go_simp
  try with_reducible rfl
 simp only[Act.put,List.replicate,Array.replicate,lx]
 refine aV (S:=(fun oi w'=>oi<12 ->w'.cell? ⟨S,0,none⟩=some (.pointer (some ⟨rb,0,none⟩))/\w'.cell? ⟨rb,0,none⟩=some (.slice (some ⟨ga,0,none⟩) na ca)/\w'.cell? ⟨b,1,none⟩=some (.int .i64 (y:Int))/\w'.rangeAt ga (y*134) E)) _ _ _ _ ?_
 refine tkJ (i:=3) (v:= ?_) rfl ⟨x1,x2,x3,x4⟩ ?_ ?_
 rotate_left
 ·intro w' hSw
  obtain⟨f1,f2,f3,f4⟩:=hSw
  go_simp
  try with_reducible rfl
 simp only[Act.put,List.replicate,Array.replicate,lx]
 refine tkJ (i:=4) (v:= ?_) rfl ⟨x1,x2,x3,x4⟩ ?_ ?_
 rotate_left
 ·intro w' hSw
  obtain⟨f1,f2,f3,f4⟩:=hSw
  go_simp
  try with_reducible rfl
 simp only[Act.put,List.replicate,Array.replicate,lx]
 refine tkJ (i:=5) (v:= ?_) rfl ⟨x1,x2,x3,x4⟩ ?_ ?_
 rotate_left
 ·intro w' hSw
  obtain⟨f1,f2,f3,f4⟩:=hSw
  go_simp
  try with_reducible rfl
 simp only[Act.put,List.replicate,Array.replicate,lx]
 refine tkJ (i:=6) (v:= ?_) rfl ⟨x1,x2,x3,x4⟩ ?_ ?_
 rotate_left
 ·intro w' hSw
  obtain⟨f1,f2,f3,f4⟩:=hSw
  go_simp
  try with_reducible rfl
 simp only[Act.put,List.replicate,Array.replicate,lx]
 refine tkJ (i:=8) (v:= ?_) rfl ⟨x1,x2,x3,x4⟩ ?_ ?_
 rotate_left
 ·intro w' hSw
  obtain⟨f1,f2,f3,f4⟩:=hSw
  go_simp
  try with_reducible rfl
 simp only[Act.put,List.replicate,Array.replicate,lx]
 refine tkJ (i:=9) (v:= ?_) rfl ⟨x1,x2,x3,x4⟩ ?_ ?_
 rotate_left
 ·intro w' hSw
  obtain⟨f1,f2,f3,f4⟩:=hSw
  go_simp
  try with_reducible rfl
 simp only[Act.put,List.replicate,Array.replicate,lx]
 refine tkR (i:=10) rfl ⟨x1,x2,x3,x4⟩ (yieldsIf_load_mid (by rfl) _ _ rfl _ _ rfl E _ (fun w' h=>h.2.2.2) Tryz.underlying215 rfl HI.O) ?_
 simp only[Act.put,List.replicate,Array.replicate,lx]
 refine ae (i:=11) rfl rfl (by kernel_rfl) (fun K hK=> ?_)
 refine kt rfl ?_
 have X4:Hid (Ex [] w1 (w1.drew.alloc (.cells iI.toArray 215))):=((Ex.refl _ _).drew).alloc _
 refine hK.O _ _ (fun _=>⟨(X4.O.cell0.1 _ _ hSl1).trans x1,(X4.O.cell0.1 _ _ hrl1).trans x2,(X4.O.cell0.1 _ _ hbl1).trans x3,fun j v hv=>(X4.O.cell0.1 _ _ hgl1).trans (x4 j v hv)⟩) ?_
 clear hK K
 simp only[Act.put,List.replicate,Array.replicate,lx]
 refine ae (i:=12) rfl rfl (by kernel_rfl) (fun K hK=> ?_)
 refine wp_store_row 215 _ _ rfl w1.heap.size E.toArray rfl rfl 215 _ (heap_alloc_new _ _) HI'.O HOLD.O HAL.O ?_
 refine hK.O _ _ (fun h=>by omega) ?_
 clear hK K
 refine aP (by kernel_rfl) ?_ _
 generalize hw2:World.setRow _ _ _=w2
 have hx12:Ex [] w1 w2:=by rw[<-hw2];exact (((Ex.refl _ _).drew).alloc _).setRow (.inr (Nat.le_refl _)) _
 have he2:BK w2 w1.heap.size (.cells E.toArray 215 (0,0)):=by rw[<-hw2];exact setRow_heap _ _ _ _ _ _ (heap_alloc_new _ _)
 obtain⟨b2,hb2⟩:=exq (w1.heap.size)
 rw[show w1.drew.heap.size=w1.heap.size from rfl,<-hb2]
 rw[<-hb2]at he2
 obtain⟨h2,f12⟩:=H1.O.ex HK.O hx12
 have HT2:=aa (BK.ex HB.O hx12 (by simp))
 have HE2:=aa he2
 have HNE:Hid (¬Mg c d b2):=H1.O.new HK.O (by omega)
 have H2:=aa h2
 have F2:=aa (F1.O.trans f12)
 have hbl2:=HT2.O.lt
 have hel2:=HE2.O.lt
 clear hw2 hx12 he2 hb2 h2 f12 x1 x2 x3 x4 hSl1 hrl1 hbl1 hgl1
 have K1:=aa (eQ HK.O H2.O HM.O _ _ G1.O nx HNX.O (-2) (y:Int) true rfl)
 rw[<-HS.O]at K1
 have q1:w2.cell? ⟨b,1,none⟩=some (.int .i64 (y:Int)):=HT2.O.all.1 1
 have q2:w2.cell? ⟨b,2,none⟩=some (.int .i64 nx):=HT2.O.all.1 2
 go_wp2_with fail
 refine K1.O.mono ?_
 rintro e w3 ⟨i3,d3,rfl,h3,f3,hi3,hsp3,hop3⟩
 clear K1 q1 q2
 have ht3:=BK.sf HT2.O f3 HNB.O
 have he3:=BK.sf HE2.O f3 HNE.O
 have HNB3:Hid (¬Mg c d3 b):=fun hm=>HNB.O (f3.mg b hbl2 hm)
 have HNE3:Hid (¬Mg c d3 b2):=fun hm=>HNE.O (f3.mg b2 hel2 hm)
 have K2:=aa (fw HK.O h3 (f3.mor _ _ HM.O) _ _ G2.O i3 (NX.at h3 hi3) 0 (A.idx:Int) false rfl)
 rw[<-HS.O]at K2
 have q1:w3.cell? ⟨b2,1,none⟩=some (.int .i64 (A.idx:Int)):=by rw[he3.all.1 1,List.getElem?_toArray];exact E1.O
 have HNX3:=aa (NX.sf HNX.O f3 h3)
 have F3:=aa (F2.O.trans f3)
 have HT3:=aa ht3
 have HE3:=aa he3
 have HSP3:=aa (And.intro hsp3 hop3)
 have hbl3:=ht3.lt
 have hel3:=he3.lt
 clear ht3 he3 h3 f3 hi3 hsp3 hop3
 go_wp2_with fail
 refine K2.O.mono ?_
 rintro e w4 ⟨i4,d4,rfl,h4,f4,hi4,hsp4,hop4⟩
 clear K2 q1
 have ht4:=BK.sf HT3.O f4 HNB3.O
 have he4:=BK.sf HE3.O f4 HNE3.O
 have q2:w4.cell? ⟨b,2,none⟩=some (.int .i64 nx):=ht4.all.1 2
 have q4:w4.cell? ⟨b2,4,none⟩=some (.bool z):=by rw[he4.all.1 4,List.getElem?_toArray];exact E4.O
 have KE:=aa ((kA V1.O V2.O z h4 (NX.at h4 hi4) (NX.sf HNX3.O f4 h4)).mono (fun e w5 h5=>cu.of h5 (F3.O.trans f4) (hsp4.trans HSP3.O.1) (hop4.trans HSP3.O.2)))
 rw[<-HS.O]at KE
 have hbl4:=ht4.lt
 have hel4:=he4.lt
 clear ht4 he4 h4 f4 hi4 hsp4 hop4
 go_wp2_with fail
 refine KE.O.mono ?_
 rintro e w5 h5
 obtain⟨d5,rfl,g5,f5,a5⟩:=h5
 have H5:Hid (cu c d w (bV z (evK c i (.ex A:: .rend y A z true::K')) (evK c i K')) (.returned (.bool (bV z (evK c i (.ex A:: .rend y A z true::K')) (evK c i K')).isSome)) w5):=⟨d5,rfl,g5,f5,a5⟩
 clear g5 f5 a5 KE
 go_wp2_with fail
 go_ret
 exact H5.O
theorem wW (hk:SK c) {t:Ti} {K':List Ti} {y:Nat} {A:Yp} {z:Bool} {E:List Value} (h:SG c d w) (hm:d.M[k]? =some (t::K')) (hy:t.code.2.1=(y:Int)) (h1:iN (t::K')= .ex A::K')
  (he:aL c.w0 c.rb y E) (hE:E.length=134) (hEP:∀u∈E,u.oneCell'=true) (hE1:E[1]? =some (.int .i64 (A.idx:Int))) (hE4:E[4]? =some (.bool z)) (W1:eA c i (.ex A::K')) (W2:eA c i K'):
  Calls Tryz.prog 193 #[.pointer (some ⟨c.S,0,none⟩),.int .i64 (k:Int),.int .i64 (i:Int)] w (cu c d w (bV z (evK c i (.ex A::K')) (evK c i K'))):=by
 have G1:=aa h1
 have V1:=aa W1
 have V2:=aa W2
 have E1:=aa hE1
 have E4:=aa hE4
 clear h1 W1 W2 hE1 hE4
 obtain⟨s,hs,hso⟩:=h.st hm
 obtain⟨g,cap,hsv,hkl,hgl,hcell,hfz⟩:=h.at hs
 obtain⟨t9,K9,e9,hc,hnx⟩:=hso.hd
 cases e9
 obtain⟨base9,av,ro,gi,nv,na,xs,hr,hav,hyn,hxs⟩:=h.rows hk y E he
 obtain⟨ga,ca,rfl,_⟩:=dO hav (by omega)
 have hsx:s.x=(y:Int):=by rw[<-hy,hc]
 have a0:w.cell? ⟨g,k*8,none⟩=some (.int .i64 s.kind):=hcell 0 (by omega)
 have a1:w.cell? ⟨g,k*8+1,none⟩=some (.int .i64 (y:Int)):=by rw[<-hsx];exact hcell 1 (by omega)
 have a2:w.cell? ⟨g,k*8+2,none⟩=some (.int .i64 s.next):=hcell 2 (by omega)
 have a3:w.cell? ⟨g,k*8+3,none⟩=some (.bool s.fresh):=hcell 3 (by omega)
 have hxw:Ex [] w (w.alloc (Obj.cells #[.int .i64 s.kind,.int .i64 (y:Int),.int .i64 s.next,.bool s.fresh] 224)):=(Ex.refl _ _).alloc _
 have hbx:BK (w.alloc (Obj.cells #[.int .i64 s.kind,.int .i64 (y:Int),.int .i64 s.next,.bool s.fresh] 224)) w.heap.size (.cells #[.int .i64 s.kind,.int .i64 (y:Int),.int .i64 s.next,.bool s.fresh] 224 (0,0)):=BK.new _ _
 obtain⟨w1,hw1⟩:=exq (w.alloc (Obj.cells #[.int .i64 s.kind,.int .i64 (y:Int),.int .i64 s.next,.bool s.fresh] 224))
 rw[<-hw1]at hxw hbx
 obtain⟨h1,f1⟩:=h.ex hk hxw
 have hnb:=h.new hk (Nat.le_refl w.heap.size)
 obtain⟨b,hb⟩:=exq (w.heap.size)
 rw[<-hb]at hbx hnb
 obtain⟨S,hS⟩:=exq (c.S)
 obtain⟨rb,hrb⟩:=exq (c.rb)
 obtain⟨m,hmm⟩:=exq (d.T.length)
 have s2:w.cell? ⟨S,2,none⟩=some (.slice (some ⟨g,0,none⟩) m cap):=by rw[hS,hmm,<-hsv];exact h.blk.all.1 2
 have hSl:S<w.heap.size:=by rw[hS];exact h.blk.lt
 have hkm:(k:Int)<(m:Int):=by omega
 have x1:w1.cell? ⟨S,0,none⟩=some (.pointer (some ⟨rb,0,none⟩)):=by rw[hS,hrb];exact h1.blk.all.1 0
 have hr1:=hr.ex hxw (by simp)
 have x2:w1.cell? ⟨rb,0,none⟩=some (.slice (some ⟨ga,0,none⟩) na ca):=by rw[hrb];exact hr1.all.1 0
 have x3:w1.cell? ⟨b,1,none⟩=some (.int .i64 (y:Int)):=hbx.all.1 1
 have hav1:=aU hav hxw (by simp)
 have x4:w1.rangeAt ga (y*134) E:=fun j v hv=>by
  rw[<-hxs,List.getElem?_take]at hv
  by_cases hj:j<134
  ·rw[if_pos hj,List.getElem?_drop]at hv
   rw[hav1.cellAt (y*134+j) (by have:(y+1)*134<=na*134:=Nat.mul_le_mul_right _ hyn;omega)]
   exact hv
  ·rw[if_neg hj]at hv;cases hv
 have hyna:(y:Int)<(na:Int):=by omega
 have hSl1:S<w1.heap.size:=by rw[hS];exact h1.blk.lt
 have hrl1:rb<w1.heap.size:=by rw[hrb];exact hr1.lt
 have hbl1:=hbx.lt
 have hgl1:ga<w1.heap.size:=(hav1.lt ga rfl).2
 obtain⟨kd,hkd⟩:=exq (s.kind)
 obtain⟨nx,hnx9⟩:=exq (s.next)
 obtain⟨fr,hfr⟩:=exq (s.fresh)
 rw[<-hkd]at a0 hw1 hbx
 rw[<-hnx9]at a2 hw1 hbx hnx
 rw[<-hfr]at a3 hw1 hbx
 have HKD:=aa (And.intro hc (And.intro hkd hfr))
 have HNX:Hid (NX d.M d.T.length nx K'):=hnx.more (fun _ _ h=>h) (by omega)
 have HI:Hid ((Tryz.prog.info? 215).map (·.size)=some E.length):=by show _=_;rw[hE];kernel_rfl
 have HI':Hid ((Tryz.prog.info? 215).map (·.size)=some E.toArray.size):=by show _=_;rw[List.size_toArray];exact HI.O
 have HOLD:Hid (iI.toArray.size=E.toArray.size):=by show _=_;rw[List.size_toArray,List.size_toArray,hE];rfl
 have HAL:=aa (am hEP)
 have HM:=aa hm
 have HK:=aa hk
 have H:=aa h
 have H1:=aa h1
 have F1:=aa f1
 have HB:=aa hbx
 have HNB:=aa hnb
 have HW1:=aa hw1
 have HBE:=aa hb
 have HS:=aa hS
 rw[<-hS]
 clear hs hso hsv hkl hcell hfz hnx hr hav hyn hxs hxw hbx h1 f1 hnb hw1 hb hS hrb hmm hr1 hav1 hkd hnx9 hfr h hm hc he hE hEP hy hsx hk
 go_enter Tryz.func193,Tryz.ntmps193
 go_upto_region 2 with fail
 rw[<-HW1.O,<-HBE.O]
 clear s2 hSl a0 a1 a2 a3 hkm
 refine aQ (by kernel_rfl) ?_
 refine tk (i:=0) (v:= ?_) rfl ?_ ?_
 rotate_left
 ·intro w'
  go_simp
  try with_reducible rfl
 simp only[Act.put,List.replicate,Array.replicate,lx]
 refine tk (i:=1) (v:= ?_) rfl ?_ ?_
 rotate_left
 ·intro w'
  go_simp
  try with_reducible rfl
 simp only[Act.put,List.replicate,Array.replicate,lx]
 refine tk (i:=2) (v:= ?_) rfl ?_ ?_
 rotate_left
 ·intro w'
  go_simp
  try with_reducible rfl
 simp only[Act.put,List.replicate,Array.replicate,lx]
 refine tk (i:=7) (v:= ?_) rfl ?_ ?_
 rotate_left
 ·intro w'
  go_simp
  try with_reducible rfl
 simp only[Act.put,List.replicate,Array.replicate,lx]
 refine aV (S:=(fun oi w'=>oi<12 ->w'.cell? ⟨S,0,none⟩=some (.pointer (some ⟨rb,0,none⟩))/\w'.cell? ⟨rb,0,none⟩=some (.slice (some ⟨ga,0,none⟩) na ca)/\w'.cell? ⟨b,1,none⟩=some (.int .i64 (y:Int))/\w'.rangeAt ga (y*134) E)) _ _ _ _ ?_
 refine tkJ (i:=3) (v:= ?_) rfl ⟨x1,x2,x3,x4⟩ ?_ ?_
 rotate_left
 ·intro w' hSw
  obtain⟨f1,f2,f3,f4⟩:=hSw
  go_simp
  try with_reducible rfl
 simp only[Act.put,List.replicate,Array.replicate,lx]
 refine tkJ (i:=4) (v:= ?_) rfl ⟨x1,x2,x3,x4⟩ ?_ ?_
 rotate_left
 ·intro w' hSw
  obtain⟨f1,f2,f3,f4⟩:=hSw
  go_simp
  try with_reducible rfl
 simp only[Act.put,List.replicate,Array.replicate,lx]
 refine tkJ (i:=5) (v:= ?_) rfl ⟨x1,x2,x3,x4⟩ ?_ ?_
 rotate_left
 ·intro w' hSw
  obtain⟨f1,f2,f3,f4⟩:=hSw
  go_simp
  try with_reducible rfl
 simp only[Act.put,List.replicate,Array.replicate,lx]
 refine tkJ (i:=6) (v:= ?_) rfl ⟨x1,x2,x3,x4⟩ ?_ ?_
 rotate_left
 ·intro w' hSw
  obtain⟨f1,f2,f3,f4⟩:=hSw
  go_simp
  try with_reducible rfl
 simp only[Act.put,List.replicate,Array.replicate,lx]
 refine tkJ (i:=8) (v:= ?_) rfl ⟨x1,x2,x3,x4⟩ ?_ ?_
 rotate_left
 ·intro w' hSw
  obtain⟨f1,f2,f3,f4⟩:=hSw
  go_simp
  try with_reducible rfl
 simp only[Act.put,List.replicate,Array.replicate,lx]
 refine tkJ (i:=9) (v:= ?_) rfl ⟨x1,x2,x3,x4⟩ ?_ ?_
 rotate_left
 ·intro w' hSw
  obtain⟨f1,f2,f3,f4⟩:=hSw
  go_simp
  try with_reducible rfl
 simp only[Act.put,List.replicate,Array.replicate,lx]
 refine tkR (i:=10) rfl ⟨x1,x2,x3,x4⟩ (yieldsIf_load_mid (by rfl) _ _ rfl _ _ rfl E _ (fun w' h=>h.2.2.2) Tryz.underlying215 rfl HI.O) ?_
 simp only[Act.put,List.replicate,Array.replicate,lx]
 refine ae (i:=11) rfl rfl (by kernel_rfl) (fun K hK=> ?_)
 refine kt rfl ?_
 have X4:Hid (Ex [] w1 (w1.drew.alloc (.cells iI.toArray 215))):=((Ex.refl _ _).drew).alloc _
 refine hK.O _ _ (fun _=>⟨(X4.O.cell0.1 _ _ hSl1).trans x1,(X4.O.cell0.1 _ _ hrl1).trans x2,(X4.O.cell0.1 _ _ hbl1).trans x3,fun j v hv=>(X4.O.cell0.1 _ _ hgl1).trans (x4 j v hv)⟩) ?_
 clear hK K
 simp only[Act.put,List.replicate,Array.replicate,lx]
 refine ae (i:=12) rfl rfl (by kernel_rfl) (fun K hK=> ?_)
 refine wp_store_row 215 _ _ rfl w1.heap.size E.toArray rfl rfl 215 _ (heap_alloc_new _ _) HI'.O HOLD.O HAL.O ?_
 refine hK.O _ _ (fun h=>by omega) ?_
 clear hK K
 refine aP (by kernel_rfl) ?_ _
 generalize hw2:World.setRow _ _ _=w2
 have hx12:Ex [] w1 w2:=by rw[<-hw2];exact (((Ex.refl _ _).drew).alloc _).setRow (.inr (Nat.le_refl _)) _
 have he2:BK w2 w1.heap.size (.cells E.toArray 215 (0,0)):=by rw[<-hw2];exact setRow_heap _ _ _ _ _ _ (heap_alloc_new _ _)
 obtain⟨b2,hb2⟩:=exq (w1.heap.size)
 rw[show w1.drew.heap.size=w1.heap.size from rfl,<-hb2]
 rw[<-hb2]at he2
 obtain⟨h2,f12⟩:=H1.O.ex HK.O hx12
 have HT2:=aa (BK.ex HB.O hx12 (by simp))
 have HE2:=aa he2
 have HNE:Hid (¬Mg c d b2):=H1.O.new HK.O (by omega)
 have H2:=aa h2
 have F2:=aa (F1.O.trans f12)
 have hbl2:=HT2.O.lt
 have hel2:=HE2.O.lt
 clear hw2 hx12 he2 hb2 h2 f12 x1 x2 x3 x4 hSl1 hrl1 hbl1 hgl1
 have K1:=aa (eQ HK.O H2.O HM.O _ _ G1.O nx HNX.O 0 (A.idx:Int) false rfl)
 rw[<-HS.O]at K1
 have q1:w2.cell? ⟨b2,1,none⟩=some (.int .i64 (A.idx:Int)):=by rw[HE2.O.all.1 1,List.getElem?_toArray];exact E1.O
 have q2:w2.cell? ⟨b,2,none⟩=some (.int .i64 nx):=HT2.O.all.1 2
 go_wp2_with fail
 refine K1.O.mono ?_
 rintro e w4 ⟨i4,d4,rfl,h4,f4,hi4,hsp4,hop4⟩
 clear K1 q1 q2
 have ht4:=BK.sf HT2.O f4 HNB.O
 have he4:=BK.sf HE2.O f4 HNE.O
 have q2:w4.cell? ⟨b,2,none⟩=some (.int .i64 nx):=ht4.all.1 2
 have q4:w4.cell? ⟨b2,4,none⟩=some (.bool z):=by rw[he4.all.1 4,List.getElem?_toArray];exact E4.O
 have KE:=aa ((kA V1.O V2.O z h4 (NX.at h4 hi4) (NX.sf HNX.O f4 h4)).mono (fun e w5 h5=>cu.of h5 (F2.O.trans f4) hsp4 hop4))
 rw[<-HS.O]at KE
 have hbl4:=ht4.lt
 have hel4:=he4.lt
 clear ht4 he4 h4 f4 hi4 hsp4 hop4
 go_wp2_with fail
 refine KE.O.mono ?_
 rintro e w5 h5
 obtain⟨d5,rfl,g5,f5,a5⟩:=h5
 have H5:Hid (cu c d w (bV z (evK c i (.ex A::K')) (evK c i K')) (.returned (.bool (bV z (evK c i (.ex A::K')) (evK c i K')).isSome)) w5):=⟨d5,rfl,g5,f5,a5⟩
 clear g5 f5 a5 KE
 go_wp2_with fail
 go_ret
 exact H5.O
end Go.Proofs.YtfnanjbleifjkaaGreatDoor.G
