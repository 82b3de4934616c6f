import Derived.Test.YtfnanjbleifjkaaGreatDoorM14
import Derived.Recover
set_option linter.unusedVariables false
set_option linter.unusedSimpArgs false
set_option maxHeartbeats 4000000
set_option maxRecDepth 100000
namespace Go.Proofs.YtfnanjbleifjkaaGreatDoor.G
variable {w:World} {base cc cg mb q:Nat} {code:List Ins}
open Go.RowKit
theorem WG.mark {w2:World} {s:WS} {es:Array MapEntry} {clk:Nat} {seen:List (Nat×Nat)} (h:WG w q mb cg cc base code s) (hx:Ex [mb] w w2) (hm:BK w2 mb (.map es clk)) (hs:gC es seen) (hr:s.2.length+left code.length seen<=200000):WG w2 q mb cg cc base code (seen,s.2):=by
 obtain⟨v,hq,ho⟩:=h.ways
 exact⟨h.lq,h.lm,h.lc,Nat.le_trans h.le hx.size,h.qm,h.cq,h.cm,h.cap,hr,bu h.prog (hx.block cg (Nat.lt_of_lt_of_le h.lc h.le) (by simpa using h.cm)),⟨es,clk,hm,hs⟩,⟨v,hq.ex hx (by simpa using h.qm),aU ho hx (by simpa using h.lm)⟩⟩
theorem WG.ins {k:Nat} {s:WS} {i:Ins} (h:WG w q mb cg cc base code s) (hk:code[k]? =some i):∀o,o<7 ->w.cell? ⟨cg,k*7+o,none⟩=i.cells[o]? :=by
 intro o ho
 have h1:=dH code k o i hk ho
 obtain⟨v,hv⟩:∃v,i.cells[o]? =some v:=⟨_,List.getElem?_eq_getElem (by simpa[Ins.cells]using ho)⟩
 rw[hv]at h1 ⊢
 have:=h.prog _ _ h1
 simpa using this
theorem WG.more {w3 w4:World} {s:WS} {v v':Value} {k:Nat} {b:Int} (h:WG w3 q mb cg cc base code s) (hr:s.2.length+1+left code.length s.1<=200000) (ho:w3.ownsRow base 204 2 v s.2.length (ez s.2)) (hq:BK w4 q (.cells #[.slice (some ⟨cg,0,none⟩) code.length cc,.map (some mb),v] 196 (0,0)))
  (hgrow:w3.grownBy w4 v.ownBlock) (ho4:w4.ownsRow base 204 2 v' (s.2.length+1) (ez s.2++[.int .i64 (k:Int),.int .u64 b])):WG (w4.setCell ⟨q,2,none⟩ v') q mb cg cc base code (s.1,s.2++[(k,b)]):=by
 have hle:=h.le
 have hlq:=h.lq
 have hlm:=h.lm
 have hlc:=h.lc
 have hqm:=h.qm
 have hcq:=h.cq
 have hcm:=h.cm
 have hrow:∀x,x<base ->some x≠v.ownBlock:=fun x hx e=>by have:=aG ho x e.symm;omega
 obtain⟨es,clk,hm,hs⟩:=h.seen
 refine⟨hlq,hlm,hlc,by have:=hgrow.size;simp[World.setCell];omega,hqm,hcq,hcm,h.cap,by simp only[List.length_append,List.length_singleton];omega,?_,⟨es,clk,?_,hs⟩,⟨v',?_,?_⟩⟩
 ·refine bu h.prog ?_
  rw[Below.heap_setCell _ _ _ _ (by simpa using hcq)]
  exact hgrow.block cg (by omega) (hrow cg hlc)
 ·refine BK.set ?_ (by simpa using hqm.symm) _
  exact BK.grown hm hgrow (fun e=>hrow mb hlm e.symm)
 ·exact BK.self hq 2 v'
 ·have:=du ho4 (a:=⟨q,2,none⟩) hlq v'
  simp only[List.length_append,List.length_singleton,tf]
  exact this
theorem xk {n:Nat} {v:Value} {xs:List Value} (h:w.ownsRow base 204 2 v n xs):∀k,v.ownBlock=some k ->base<=k/\YB w k:=by
 intro k hk
 rcases h.2 with⟨rfl,_⟩|⟨g,cap,cur,rfl,hb,hgg,_⟩
 ·simp[Value.ownBlock]at hk
 ·simp[Value.ownBlock]at hk
  subst hk
  exact⟨hb,cur,_,hgg⟩
theorem tL:(Tryz.prog.info? 204).map (fun i=>(i.zero,i.size,i.bytes))=some (some (.agg #[.int .i64 0,.int .u64 0]),2,16):=by kernel_rfl
theorem vv (code:List Ins) (hcode:code.length<=100000) (hok:cZ code) (f:Nat) (ih:vD code f) (w:World) (q mb cg cc base:Nat) (s:WS) (h:Nat×Nat) (b:Int) (hg:WG w q mb cg cc base code s) (hl:left code.length s.1<f+1) (h1:h.1<code.length) (h2:h.2<2) (hs:h∉s.1):
  Calls Tryz.prog 90 #[.pointer (some ⟨q,0,none⟩),cJ h,.int .u64 b] w fun e w'=>e= .returned (.tuple #[])/\WG w' q mb cg cc base code (bm code (f+1) s h b)/\VF base q mb w w':=by
 obtain⟨es,clk,hm,hse⟩:=hg.seen
 obtain⟨v,hq,ho⟩:=hg.ways
 obtain⟨hcq0,hfq0⟩:=hq.all
 have hql:=hq.lt
 have hml:=hm.lt
 have hll:=pt hs h1 h2
 have hlf:left code.length (s.1++[h])<f:=by omega
 have hroom:s.2.length+1+left code.length (s.1++[h])<=200000:=by have:=hg.room;omega
 obtain⟨k,mo⟩:=h
 simp only at h1 h2
 have hlk1:=oL (s:=(k,mo)) (w:=(w.alloc (Obj.cells #[.int .i64 k,.int .i64 mo] 112)).drew) (hm.alloc _).drew hse (by simp only;omega) (by simp only;omega) hs
 have hlk2:=oL (s:=(k,mo)) (w:=((w.alloc (Obj.cells #[.int .i64 k,.int .i64 mo] 112)).alloc (Obj.cells #[] 267)).drew) ((hm.alloc _).alloc _).drew hse (by simp only;omega) (by simp only;omega) hs
 have HM:=aa hm
 have HG:=aa hg
 have HSE:=aa hse
 have HIH:=aa ih
 have HOK:=aa hok
 have HS:=aa hs
 have HLF:=aa hlf
 have HROOM:=aa hroom
 have hqm:=hg.qm
 have hmb1:mb<w.heap.size:=hml
 obtain⟨i,hi⟩:∃i,code[k]? =some i:=⟨code[k],by simp[h1]⟩
 have HI:=aa hi
 have HV:=aa (show bm code (f+1) s (k,mo) b=(if i.op=0\/i.op=6 then (s.1++[(k,mo)],s.2++[(k,b)])
   else if i.op=1 then bm code f (bm code f (s.1++[(k,mo)],s.2) (i.t0.toNat,mo) b) (i.t1.toNat,mo) b
   else if i.op=2 then bm code f (s.1++[(k,mo)],s.2) (i.t0.toNat,mo) b
   else if i.op=3 then bm code f (s.1++[(k,mo)],s.2) (k+1,mo) (orM b i.sl)
   else if i.op=4 then bm code f (s.1++[(k,mo)],s.2) (k+1,0) b
   else if i.op=5 then if mo=1 then bm code f (s.1++[(k,mo)],s.2) (k+1,1) b else (s.1++[(k,mo)],s.2)
   else (s.1++[(k,mo)],s.2)) by rw[bm,if_neg hs];simp only[hi])
 unfold cJ at hlk1 hlk2 ⊢
 dsimp only at hlk1 hlk2 ⊢
 clear hq hm hg ho hse hs hi ih hok hl hll hlf hroom
 go_enter Tryz.func90,Tryz.ntmps90
 go_wp2_with fail
 go_region
 all_goals
  generalize hw1:World.drew _=w1
  have hx1:Ex [] w w1:=by rw[<-hw1];exact (((Ex.refl _ _).alloc _).alloc _).drew
  have hs1:BK w1 w.heap.size (.cells #[.int .i64 k,.int .i64 mo] 112 (0,0)):=by rw[<-hw1];exact ((BK.new _ _).alloc _).drew
  have hz1:w.heap.size<w1.heap.size:=by rw[<-hw1];simp[World.drew];omega
  clear hw1 hlk1 hlk2 hcq0 hfq0
  have hg1:=HG.O.ex hx1
  have hm1:=HM.O.ex hx1 (by simp)
  have hup:=xB (s:=(k,mo)) (.agg #[]) hm1.drew HSE.O (by simp only;omega) (by simp only;omega) HS.O
  unfold cJ at hup
  dsimp only at hup
  obtain⟨v1,hq1,_⟩:=hg1.ways
  obtain⟨hcq0,hfq0⟩:=hq1.all
  obtain⟨hcs0,hfs0⟩:=hs1.all
  have HG1:=aa hg1
  have HM1:=aa hm1
  have HS1:=aa hs1
  have HX1:=aa hx1
  clear hg1 hm1 hs1 hx1 hq1
  go_wp2_with fail
  go_region
 all_goals
  generalize hw2:my _ _ _=w2
  have hxp:Ex [mb] w1 w2:=by rw[<-hw2];exact ((Ex.refl _ _).drew).trans (tW _ _ _)
  have hmk:BK w2 mb (.map (es.push {key:=cJ (k,mo),val:= .agg #[],born:=clk}) (clk+1)):=by rw[<-hw2];exact tV HM1.O.drew
  clear hw2 hup hcq0 hfq0 hcs0 hfs0
  have hg2:=HG1.O.mark hxp hmk (HSE.O.push (k,mo) (by simp only;omega) (by simp only;omega) clk) (by have:=HROOM.O;omega)
  have hs2:=HS1.O.ex hxp (by simp;omega)
  have hv2:VF base q mb w w2:=(VF.ofEx HX1.O (by simp)).trans (VF.ofEx hxp (by simp))
  obtain⟨hcs0,hfs0⟩:=hs2.all
  have HG2:=aa hg2
  have HV2:=aa hv2
  clear hg2 hs2 hv2 hxp hmk HG1 HM1 HS1 HX1 hql hml
  go_wp2_with fail
  go_quiet (fail)
  generalize hw3:World.drewN w2 nq=w3
  have hg3:WG w3 q mb cg cc base code (s.1++[(k,mo)],s.2):=by rw[<-hw3];exact HG2.O.ex ((Ex.refl _ _).drewN _)
  have hv3:VF base q mb w w3:=by rw[<-hw3];exact HV2.O.drewN _
  clear hw3 hcs0 hfs0 HG2 HV2 hz1
  obtain⟨v3,hq3,ho3⟩:=hg3.ways
  dsimp only at ho3
  obtain⟨p3,c3,rfl⟩:=aA ho3
  have hql:=hq3.lt
  obtain⟨hcq0,hfq0⟩:=hq3.all
  have hcc:=hg3.ins HI.O
  obtain⟨op,a,c,hh,t0,t1,us⟩:=i
  have k0:=hcc 0 (by omega);have k1:=hcc 1 (by omega);have k2:=hcc 2 (by omega);have k3:=hcc 3 (by omega);have k4:=hcc 4 (by omega)
  have k5:=hcc 5 (by omega);have k6:=hcc 6 (by omega)
  simp only[Ins.cells,List.getElem?_cons_zero,List.getElem?_cons_succ,Nat.add_zero]at k0 k1 k2 k3 k4 k5 k6
  have hk':(k:Int)<(code.length:Int):=by omega
  have hcap:=hg3.cap
  have hcgl:cg<w3.heap.size:=Nat.lt_of_lt_of_le hg3.lc hg3.le
  have HG3:=aa hg3
  have HV3:=aa hv3
  have HQ3:=aa hq3
  have HO3:=aa ho3
  clear hcc hg3 hv3 hq3 ho3
  rcases HOK.O k _ HI.O with h0|h0|⟨h0,⟨a0,e0,l0⟩,a1,e1,l1⟩|⟨h0,a0,e0,l0⟩|⟨h0,l0,a0,e0,l64⟩|⟨h0,l0⟩|⟨h0,l0⟩
  ·simp only at h0
   subst h0
   obtain⟨t0',hi',hzz0,hzz1,hzz2⟩:=info_parts tL
   have HN:Hid (∀j u,[Value.int .i64 k,.int .u64 b][j]? =some u ->((w3.alloc (Obj.cells #[.int .i64 0,.int .u64 a,.int .u64 c,.bool hh,.int .i64 t0,.int .i64 t1,.int .i64 us] 192)).alloc (Obj.cells #[.int .i64 k,.int .u64 b] 204)).cell? ((⟨w3.heap.size+1,0,none⟩:Addr).add j)=some u):=by
    have h1:=bK (w3.alloc (Obj.cells #[.int .i64 0,.int .u64 a,.int .u64 c,.bool hh,.int .i64 t0,.int .i64 t1,.int .i64 us] 192)) #[.int .i64 k,.int .u64 b] 204
    simp only[World.size_alloc]at h1
    exact h1
   have hsz3:base<=w3.heap.size:=HG3.O.le
   obtain⟨ny,hny⟩:=exq (s.2.length)
   have hny2:ny<=200000:=by have:=HROOM.O;omega
   rw[<-hny]at HO3 HQ3 hcq0
   have HNY:=aa hny
   clear hny
   go_wp2_with (at_builtin;refine wpList_append_lies _ rfl (.tmp 47) (.tmp 51) 109 rfl base 204 t0' _ 2 16 Tryz.underlying109 hi' hzz0 hzz1 hzz2 rfl (by decide) (.slice p3 ny c3) ny (ez s.2) rfl ((HO3.O.alloc _).alloc _) ⟨w3.heap.size+1,0,none⟩ 1 1 [.int .i64 k,.int .u64 b] rfl rfl HN.O (by simp[Value.oneCell']) (by decide) (by unfold maxLen;omega) (by omega) (by simp;omega) _ rfl ?_)
   intro g cap w4 hown hgrow _ hlt
   have hq4:=BK.grown ((HQ3.O.alloc _).alloc _) hgrow (fun e=>by have h9:=aG HO3.O q e;have h8:=HG3.O.lq;omega)
   have HQ4:=aa hq4
   have HGW:=aa hgrow
   have HO4:=aa hown
   clear hcq0 hfq0 k0 k1 k2 k3 k4 k5 k6
   obtain⟨hcq0,hfq0⟩:=hq4.all
   clear hq4 hown hgrow
   go_wp2_with fail
   go_end0
   refine⟨rfl,?_,?_⟩
   ·rw[HV.O,if_pos (by simp)]
    have h9:=WG.more (k:=k) (b:=b) (v:= .slice p3 ny c3) ((HG3.O.ex ((Ex.refl _ _).alloc _)).ex ((Ex.refl _ _).alloc _)) (by have:=HROOM.O;simp only;omega) (by have:=(HO3.O.alloc (Obj.cells #[.int .i64 0,.int .u64 a,.int .u64 c,.bool hh,.int .i64 t0,.int .i64 t1,.int .i64 us] 192)).alloc (Obj.cells #[.int .i64 k,.int .u64 b] 204);rw[HNY.O]at this ⊢;exact this) HQ4.O HGW.O (by have:=HO4.O;rw[HNY.O]at this;exact this)
    rw[HNY.O]
    exact h9
   ·refine VF.setCell (p:=⟨q,2,none⟩) ?_ rfl _
    exact VF.grown ((HV3.O.alloc _).alloc _) HGW.O (xk ((HO3.O.alloc _).alloc _))
  ·simp only at h0
   subst h0
   obtain⟨t0',hi',hzz0,hzz1,hzz2⟩:=info_parts tL
   have HN:Hid (∀j u,[Value.int .i64 k,.int .u64 b][j]? =some u ->((w3.alloc (Obj.cells #[.int .i64 6,.int .u64 a,.int .u64 c,.bool hh,.int .i64 t0,.int .i64 t1,.int .i64 us] 192)).alloc (Obj.cells #[.int .i64 k,.int .u64 b] 204)).cell? ((⟨w3.heap.size+1,0,none⟩:Addr).add j)=some u):=by
    have h1:=bK (w3.alloc (Obj.cells #[.int .i64 6,.int .u64 a,.int .u64 c,.bool hh,.int .i64 t0,.int .i64 t1,.int .i64 us] 192)) #[.int .i64 k,.int .u64 b] 204
    simp only[World.size_alloc]at h1
    exact h1
   have hsz3:base<=w3.heap.size:=HG3.O.le
   obtain⟨ny,hny⟩:=exq (s.2.length)
   have hny2:ny<=200000:=by have:=HROOM.O;omega
   rw[<-hny]at HO3 HQ3 hcq0
   have HNY:=aa hny
   clear hny
   go_wp2_with (at_builtin;refine wpList_append_lies _ rfl (.tmp 47) (.tmp 51) 109 rfl base 204 t0' _ 2 16 Tryz.underlying109 hi' hzz0 hzz1 hzz2 rfl (by decide) (.slice p3 ny c3) ny (ez s.2) rfl ((HO3.O.alloc _).alloc _) ⟨w3.heap.size+1,0,none⟩ 1 1 [.int .i64 k,.int .u64 b] rfl rfl HN.O (by simp[Value.oneCell']) (by decide) (by unfold maxLen;omega) (by omega) (by simp;omega) _ rfl ?_)
   intro g cap w4 hown hgrow _ hlt
   have hq4:=BK.grown ((HQ3.O.alloc _).alloc _) hgrow (fun e=>by have h9:=aG HO3.O q e;have h8:=HG3.O.lq;omega)
   have HQ4:=aa hq4
   have HGW:=aa hgrow
   have HO4:=aa hown
   clear hcq0 hfq0 k0 k1 k2 k3 k4 k5 k6
   obtain⟨hcq0,hfq0⟩:=hq4.all
   clear hq4 hown hgrow
   go_wp2_with fail
   go_end0
   refine⟨rfl,?_,?_⟩
   ·rw[HV.O,if_pos (by simp)]
    have h9:=WG.more (k:=k) (b:=b) (v:= .slice p3 ny c3) ((HG3.O.ex ((Ex.refl _ _).alloc _)).ex ((Ex.refl _ _).alloc _)) (by have:=HROOM.O;simp only;omega) (by have:=(HO3.O.alloc (Obj.cells #[.int .i64 6,.int .u64 a,.int .u64 c,.bool hh,.int .i64 t0,.int .i64 t1,.int .i64 us] 192)).alloc (Obj.cells #[.int .i64 k,.int .u64 b] 204);rw[HNY.O]at this ⊢;exact this) HQ4.O HGW.O (by have:=HO4.O;rw[HNY.O]at this;exact this)
    rw[HNY.O]
    exact h9
   ·refine VF.setCell (p:=⟨q,2,none⟩) ?_ rfl _
    exact VF.grown ((HV3.O.alloc _).alloc _) HGW.O (xk ((HO3.O.alloc _).alloc _))
  ·simp only at h0 e0 e1
   subst h0 e0 e1
   have KEY:=aa (fun (w':World) (hg:WG w' q mb cg cc base code (s.1++[(k,mo)],s.2))=>HIH.O w' q mb cg cc base (s.1++[(k,mo)],s.2) (a0,mo) b hg HLF.O l0 h2)
   have KEY2:=aa (fun (w':World) (hg:WG w' q mb cg cc base code (bm code f (s.1++[(k,mo)],s.2) (a0,mo) b))=>HIH.O w' q mb cg cc base _ (a1,mo) b hg (Nat.lt_of_le_of_lt (ow (fb code f _ _ _)) HLF.O) l1 h2)
   have E:=aa (show Value.agg #[.int .i64 (a0:Int),.int .i64 (mo:Int)]=cJ (a0,mo) by simp[cJ])
   have E2:=aa (show Value.agg #[.int .i64 (a1:Int),.int .i64 (mo:Int)]=cJ (a1,mo) by simp[cJ])
   have HINST:=aa (BK.new w3 (Obj.cells #[.int .i64 1,.int .u64 a,.int .u64 c,.bool hh,.int .i64 a0,.int .i64 a1,.int .i64 us] 192))
   have hlq:=HG3.O.lq
   have hlm:=HG3.O.lm
   have hle3:=HG3.O.le
   go_wp2_with fail
   rw[E.O]
   refine (KEY.O _ (HG3.O.ex ((Ex.refl _ _).alloc _))).mono ?_
   rintro e w5 ⟨rfl,hg5,hv5⟩
   have hI5:=BK.vf HINST.O hv5 (by omega) (by omega) (by decide)
   obtain⟨hcI,hfI⟩:=hI5.all
   have HG5:=aa hg5
   have HV5:=aa ((HV3.O.alloc _).trans hv5)
   clear hg5 hv5 k0 k1 k2 k3 k4 k5 k6 hcq0 hfq0 hI5
   go_wp2_with fail
   rw[E2.O]
   refine (KEY2.O _ HG5.O).mono ?_
   rintro e w6 ⟨rfl,hg6,hv6⟩
   have HG6:=aa hg6
   have HV6:=aa (HV5.O.trans hv6)
   clear hg6 hv6 hcI hfI
   go_wp2_with fail
   go_end0
   refine⟨rfl,?_,HV6.O⟩
   rw[HV.O]
   exact HG6.O
  ·simp only at h0 e0
   subst h0 e0
   have KEY:=aa (fun (w':World) (hg:WG w' q mb cg cc base code (s.1++[(k,mo)],s.2))=>HIH.O w' q mb cg cc base (s.1++[(k,mo)],s.2) (a0,mo) b hg HLF.O (by simp only;omega) (by simp only;omega))
   have E:=aa (show Value.agg #[.int .i64 (a0:Int),.int .i64 (mo:Int)]=cJ (a0,mo) by simp[cJ])
   go_wp2_with fail
   rw[E.O]
   refine (KEY.O _ (HG3.O.ex ((Ex.refl _ _).alloc _))).mono ?_
   rintro e w5 ⟨rfl,hg5,hv5⟩
   have HG5:=aa hg5
   have HV5:=aa ((HV3.O.alloc _).trans hv5)
   clear hg5 hv5 k0 k1 k2 k3 k4 k5 k6 hcq0 hfq0
   go_wp2_with fail
   go_end0
   refine⟨rfl,?_,HV5.O⟩
   rw[HV.O]
   exact HG5.O
  ·simp only at h0 e0
   subst h0 e0
   have KEY:=aa (fun (w':World) (hg:WG w' q mb cg cc base code (s.1++[(k,mo)],s.2))=>HIH.O w' q mb cg cc base (s.1++[(k,mo)],s.2) (k+1,mo) (orM b (a0:Int)) hg HLF.O (by simp only;omega) (by simp only;omega))
   have E:=aa (show Value.agg #[.int .i64 ((k:Int)+1),.int .i64 (mo:Int)]=cJ (k+1,mo) by simp[cJ])
   have E2:=aa (show bits .or IntKind.u64 b (IntKind.u64.wrap (2^a0))=orM b (a0:Int) by simp[orM])
   go_wp2_with fail
   rw[E.O,E2.O]
   refine (KEY.O _ (HG3.O.ex ((Ex.refl _ _).alloc _))).mono ?_
   rintro e w5 ⟨rfl,hg5,hv5⟩
   have HG5:=aa hg5
   have HV5:=aa ((HV3.O.alloc _).trans hv5)
   clear hg5 hv5 k0 k1 k2 k3 k4 k5 k6 hcq0 hfq0
   go_wp2_with fail
   go_end0
   refine⟨rfl,?_,HV5.O⟩
   rw[HV.O]
   exact HG5.O
  ·simp only at h0
   subst h0
   have KEY:=aa (fun (w':World) (hg:WG w' q mb cg cc base code (s.1++[(k,mo)],s.2))=>HIH.O w' q mb cg cc base (s.1++[(k,mo)],s.2) (k+1,0) b hg HLF.O (by simp only;omega) (by simp only;omega))
   have E:=aa (show Value.agg #[.int .i64 ((k:Int)+1),.int .i64 0]=cJ (k+1,0) by simp[cJ])
   go_wp2_with fail
   rw[E.O]
   refine (KEY.O _ (HG3.O.ex ((Ex.refl _ _).alloc _))).mono ?_
   rintro e w5 ⟨rfl,hg5,hv5⟩
   have HG5:=aa hg5
   have HV5:=aa ((HV3.O.alloc _).trans hv5)
   clear hg5 hv5 k0 k1 k2 k3 k4 k5 k6 hcq0 hfq0
   go_wp2_with fail
   go_end0
   refine⟨rfl,?_,HV5.O⟩
   rw[HV.O]
   exact HG5.O
  ·simp only at h0
   subst h0
   by_cases hmo:mo=1
   ·subst hmo
    have KEY:=aa (fun (w':World) (hg:WG w' q mb cg cc base code (s.1++[(k,1)],s.2))=>HIH.O w' q mb cg cc base (s.1++[(k,1)],s.2) (k+1,1) b hg HLF.O (by simp only;omega) (by simp only;omega))
    have E:=aa (show Value.agg #[.int .i64 ((k:Int)+1),.int .i64 1]=cJ (k+1,1) by simp[cJ])
    go_wp2_with fail
    rw[E.O]
    refine (KEY.O _ (HG3.O.ex ((Ex.refl _ _).alloc _))).mono ?_
    rintro e w5 ⟨rfl,hg5,hv5⟩
    have HG5:=aa hg5
    have HV5:=aa ((HV3.O.alloc _).trans hv5)
    clear hg5 hv5 k0 k1 k2 k3 k4 k5 k6 hcq0 hfq0
    go_wp2_with fail
    go_end0
    refine⟨rfl,?_,HV5.O⟩
    rw[HV.O]
    exact HG5.O
   ·obtain rfl:mo=0:=by omega
    go_wp2_with fail
    go_end0
    refine⟨rfl,?_,HV3.O.alloc _⟩
    rw[HV.O]
    exact HG3.O.ex ((Ex.refl _ _).alloc _)
theorem oS (code:List Ins) (hcode:code.length<=100000) (hok:cZ code):∀f,vD code f
 |0=>fun _ _ _ _ _ _ s h _ _ hl _ _=>by omega
 |f+1=>fun w q mb cg cc base s h b hg hl h1 h2=>by
  by_cases hs:h∈s.1
  ·refine (vw code hcode w q mb cg cc base s h b hg h1 h2 hs).mono ?_
   rintro e w' ⟨rfl,hx⟩
   refine⟨rfl,?_,VF.ofEx hx (by simp)⟩
   rw[bm,if_pos hs]
   exact hg.ex hx
  ·exact vv code hcode hok f (oS code hcode hok f) w q mb cg cc base s h b hg hl h1 h2 hs
theorem tb (n:Nat):(mF n).length=2*n:=by
 unfold mF
 induction n with
 |zero=>rfl
 |succ n ih=>
  rw[List.range_succ,List.flatMap_append,List.length_append,ih]
  simp
  omega
theorem kW (n:Nat) (s:List (Nat×Nat)):left n s<=2*n:=by
 rw[<-tb]
 exact List.countP_le_length
def bM (code:List Ins) (h:Nat×Nat):List (Nat×Int):=(bm code (2*code.length+1) ([],[]) h 0).2
theorem jG (code:List Ins) (hcode:code.length<=100000) (hok:cZ code) (cg cc:Nat) (h:Nat×Nat) (w:World) (hcg:cg<w.heap.size) (hcap:code.length<=cc) (hr:w.rangeAt cg 0 (bY code)) (h1:h.1<code.length) (h2:h.2<2):
  Calls Tryz.prog 48 #[.slice (some ⟨cg,0,none⟩) code.length cc,cJ h] w fun e w'=>∃p c,e= .returned (.slice p (bM code h).length c)/\w'.ownsRow w.heap.size 204 2 (.slice p (bM code h).length c) (bM code h).length (ez (bM code h))/\Ex [] w w':=by
 have hmm:= @run_makeMap Tryz.prog
 have HR:=aa hr
 clear hr
 obtain⟨k,mo⟩:=h
 obtain⟨n,hn⟩:=exq (code.length)
 rw[<-hn]at hcap h1 hcode ⊢
 have HNN:=aa hn
 clear hn
 unfold cJ
 dsimp only
 go_enter Tryz.func48,Tryz.ntmps48
 go_wp2_with fail
 obtain⟨w1,hw1⟩:=exq (((w.alloc (Obj.cells #[.int .i64 k,.int .i64 mo] 112)).alloc (Obj.map #[] 0)).alloc (Obj.cells #[.slice (some ⟨cg,0,none⟩) n cc,.map (some (w.heap.size+1)),.slice none 0 0] 196))
 rw[<-hw1]
 have hx1:Ex [] w w1:=by rw[hw1];exact (((Ex.refl _ _).alloc _).alloc _).alloc _
 have hz1:w1.heap.size=w.heap.size+3:=by rw[hw1];simp
 have hq1:BK w1 (w.heap.size+1+1) (.cells #[.slice (some ⟨cg,0,none⟩) n cc,.map (some (w.heap.size+1)),.slice none 0 0] 196 (0,0)):=by
  rw[hw1]
  have:=BK.new ((w.alloc (Obj.cells #[.int .i64 k,.int .i64 mo] 112)).alloc (Obj.map #[] 0)) (Obj.cells #[.slice (some ⟨cg,0,none⟩) n cc,.map (some (w.heap.size+1)),.slice none 0 0] 196)
  simpa using this
 have hm1:BK w1 (w.heap.size+1) (.map #[] 0):=by
  rw[hw1]
  have:=(BK.new (w.alloc (Obj.cells #[.int .i64 k,.int .i64 mo] 112)) (Obj.map #[] 0)).alloc (Obj.cells #[.slice (some ⟨cg,0,none⟩) n cc,.map (some (w.heap.size+1)),.slice none 0 0] 196)
  simpa using this
 have hg1:WG w1 (w.heap.size+1+1) (w.heap.size+1) cg cc (w.heap.size+3) code ([],[]):=
  ⟨by omega,by omega,by omega,by omega,by omega,by omega,by omega,by rw[<-HNN.O];exact hcap,by have:=kW code.length [];rw[<-HNN.O]at this ⊢;simp only[List.length_nil];omega,bu HR.O (hx1.block cg hcg (by simp)),⟨#[],0,hm1,rfl,by simp,by simp⟩,⟨.slice none 0 0,by rw[<-HNN.O];exact hq1,⟨rfl,.inl ⟨rfl,rfl⟩⟩⟩⟩
 have KEY:=aa (oS code (by rw[<-HNN.O];exact hcode) hok (2*code.length+1) w1 _ _ cg cc _ ([],[]) (k,mo) 0 hg1 (by have:=kW code.length [];simp only;omega) (by rw[<-HNN.O];exact h1) h2)
 have HX1:=aa hx1
 clear hw1 hx1 hq1 hm1 hg1 hmm
 refine (show Calls _ _ _ _ _ from KEY.O).mono ?_
 rintro e w2 ⟨rfl,hg2,hv2⟩
 obtain⟨v2,hq2,ho2⟩:=hg2.ways
 obtain⟨p2,c2,rfl⟩:=aA ho2
 obtain⟨hcq,hfq⟩:=hq2.all
 have HO2:=aa ho2
 have HX2:=aa (show Ex [] w w2 from ⟨hv2.os.trans HX1.O.os,hv2.tape.trans HX1.O.tape,hv2.output.trans HX1.O.output,Nat.le_trans HX1.O.size hv2.size,fun x hx _=>(hv2.block x (by omega) (by omega) (by omega) (.inl (by omega))).trans (HX1.O.block x hx (by simp))⟩)
 clear hg2 hv2 hq2 ho2
 go_wp2_with fail
 go_ret
 exact⟨p2,c2,by simp[bM],dX HO2.O (by omega),HX2.O⟩
end Go.Proofs.YtfnanjbleifjkaaGreatDoor.G
namespace Go.Proofs.YtfnanjbleifjkaaGreatDoor.Rx
open Go.RowKit
theorem info78:(Tryz.prog.info? 109).map (fun i=>(i.zero,i.size,i.bytes))=some (some (.slice none 0 0),1,24):=by kernel_rfl
end Go.Proofs.YtfnanjbleifjkaaGreatDoor.Rx
namespace Go.Proofs.YtfnanjbleifjkaaGreatDoor.G
variable {w:World} {B j lo mb r:Nat} {code:List Ins} {t:ByteArray} {x:EV}
open Go.RowKit
def eN (code:List Ins):Prop:=∀k i,code[k]? =some i ->i.op=0 ->k+1<code.length
structure BHG (w:World) (B lo:Nat) (code:List Ins) (j:Nat):Prop where
 lt:B<lo
 ex:∃ca:Array Value,BK w B (.cells ca 109 (0,0))/\ca.size=code.length/\∀i x,i<j ->code[i]? =some x ->x.op=0 ->∃v,ca[i]? =some v/\w.ownsRow lo 204 2 v (bM code (i+1,1)).length (ez (bM code (i+1,1)))
theorem BHG.ex' {w':World} (h:BHG w B lo code j) (hx:Ex [] w w'):BHG w' B lo code j:=by
 obtain⟨ca,h1,h2,h3⟩:=h.ex
 refine⟨h.lt,ca,h1.ex hx (by simp),h2,fun i x hi hc h0=> ?_⟩
 obtain⟨v,hv,ho⟩:=h3 i x hi hc h0
 exact⟨v,hv,aU ho hx (by simp)⟩
theorem BHG.next {v:Value} (h:BHG w B lo code j) (hj:j<code.length) (ho:w.ownsRow lo 204 2 v (bM code (j+1,1)).length (ez (bM code (j+1,1)))):BHG (w.setCell ⟨B,j,none⟩ v) B lo code (j+1):=by
 obtain⟨ca,h1,h2,h3⟩:=h.ex
 refine⟨h.lt,ca.setIfInBounds j v,BK.self h1 j v,by simpa using h2,fun i x hi hc h0=> ?_⟩
 by_cases hij:i=j
 ·subst hij
  exact⟨v,by simp[Array.getElem?_setIfInBounds,h2,hj],du ho h.lt _⟩
 ·obtain⟨u,hu,hou⟩:=h3 i x (by omega) hc h0
  exact⟨u,by rw[Array.getElem?_setIfInBounds_ne (by omega)];exact hu,du hou h.lt _⟩
theorem BHG.skip {x:Ins} (h:BHG w B lo code j) (hc:code[j]? =some x) (h0:¬x.op=0):BHG w B lo code (j+1):=by
 obtain⟨ca,h1,h2,h3⟩:=h.ex
 refine⟨h.lt,ca,h1,h2,fun i y hi hy hy0=> ?_⟩
 by_cases hij:i=j
 ·subst hij
  rw[hc]at hy
  cases hy
  exact absurd hy0 h0
 ·exact h3 i y (by omega) hy hy0
theorem mN (code:List Ins) (hcode:code.length<=100000) (hok:cZ code) (htk:eN code) (cg cc:Nat) (w:World) (hcg:cg<w.heap.size) (hcap:code.length<=cc) (hr:w.rangeAt cg 0 (bY code)):
  Calls Tryz.prog 49 #[.slice (some ⟨cg,0,none⟩) code.length cc] w fun e w'=>e= .returned (.slice (some ⟨w.heap.size,0,none⟩) code.length code.length)/\BHG w' w.heap.size (w.heap.size+1) code code.length/\Ex [] w w':=by
 obtain⟨i0,hi,hz0,hz1,hz2⟩:=info_parts Rx.info78
 have HR:=aa hr
 clear hr
 obtain⟨n,hn⟩:=exq (code.length)
 have HNN:=aa hn
 rw[<-hn]at hcap hcode ⊢
 clear hn
 go_enter Tryz.func49,Tryz.ntmps49
 go_wp2_with (at_make;refine wpList_make_full _ rfl _ _ 113 rfl w.heap.size 109 i0 (.slice none 0 0) 1 Tryz.underlying113 hi hz0 hz1 .i64 .i64 _ _ n rfl rfl (by simp) (by simp) (by rw[hz2];omega) (by unfold maxLen;omega) (Nat.le_refl _) ?_)
 intro w1 hown1 hg1
 have hx1:Ex [] w w1:=(Ex.refl _ _).grown hg1 (by simp)
 have hbh:BHG w1 w.heap.size (w.heap.size+1) code 0:=by
  rcases hown1.2 with⟨hv,_⟩|⟨g',cap',cur,hv,hb',hgg,h1,h2,h3,h4⟩
  ·cases hv
  ·cases hv
   exact⟨by omega,cur,hgg,by rw[<-HNN.O];omega,fun i x hi=>by omega⟩
 have hl1:w.heap.size<w1.heap.size:=by obtain⟨ca,hb,_⟩:=hbh.ex;exact hb.lt
 have HX1:=aa hx1
 have HBH:=aa hbh
 clear hx1 hbh hown1 hg1
 go_wp2_with fail
 go_loopg [11] n (fun gk i wr=>∃j:Nat,j+gk=n/\i= .int .i64 j/\BHG wr w.heap.size (w.heap.size+1) code j/\Ex [] w wr/\w.heap.size<wr.heap.size)
 case atStart=>exact⟨0,by omega,rfl,HBH.O,HX1.O,hl1⟩
 case round=>
  obtain⟨j,hj,rfl,hbh,hx,hlr⟩:=hrel
  have HX:=aa hx
  have HB:=aa hbh
  cases gk with
  |zero=>
   obtain rfl:j=n:=by omega
   clear hx hj hbh
   go_wp2_with fail
   go_ret
   exact⟨rfl,by have:=HB.O;exact this,HX.O⟩
  |succ g=>
   have hj':((j:Int)<(n:Int)):=by omega
   have hjn:j<code.length:=by rw[<-HNN.O];omega
   obtain⟨i,hi'⟩:∃i,code[j]? =some i:=⟨code[j],by simp[hjn]⟩
   have hcg':cg<wr.heap.size:=by omega
   have hrr:=bu HR.O (hx.block cg hcg (by simp))
   have hcc:∀o,o<7 ->wr.cell? ⟨cg,j*7+o,none⟩=i.cells[o]? :=by
    intro o ho
    have h1:=dH code j o i hi' ho
    obtain⟨v,hv⟩:∃v,i.cells[o]? =some v:=⟨_,List.getElem?_eq_getElem (by simpa[Ins.cells]using ho)⟩
    rw[hv]at h1 ⊢
    have:=hrr _ _ h1
    simpa using this
   have HRR:=aa hrr
   have HI:=aa hi'
   obtain⟨op,a,c,hh,t0,t1,us⟩:=i
   have k0:=hcc 0 (by omega);have k1:=hcc 1 (by omega);have k2:=hcc 2 (by omega);have k3:=hcc 3 (by omega);have k4:=hcc 4 (by omega)
   have k5:=hcc 5 (by omega);have k6:=hcc 6 (by omega)
   simp only[Ins.cells,List.getElem?_cons_zero,List.getElem?_cons_succ,Nat.add_zero]at k0 k1 k2 k3 k4 k5 k6
   clear hcc hx hbh hi' hrr
   by_cases h0:op=0
   ·subst h0
    have hnx:j+1<code.length:=htk j _ HI.O rfl
    have KEY:=aa (fun (w':World) (hx:Ex [] wr w')=>jG code (by rw[<-HNN.O];exact hcode) hok cg cc (j+1,1) w' (Nat.lt_of_lt_of_le hcg' hx.size) (by rw[<-HNN.O];exact hcap) (bu HRR.O (hx.block cg hcg' (by simp))) hnx (by simp only;omega))
    rw[<-HNN.O]at KEY
    have E:=aa (show Value.agg #[.int .i64 ((j:Int)+1),.int .i64 1]=cJ (j+1,1) by simp[cJ])
    go_wp2_with fail
    rw[E.O]
    refine (KEY.O _ ((Ex.refl _ _).alloc _)).mono ?_
    rintro e w2 ⟨p2,c2,rfl,ho2,hx2⟩
    have hx3:Ex [] wr w2:=((Ex.refl _ _).alloc _).trans hx2
    have hB2:=HB.O.ex' hx3
    obtain⟨ca,hbk,hcs,_⟩:=hB2.ex
    obtain⟨hcB,hfB⟩:=hbk.all
    have kj:w2.cell? ⟨w.heap.size,j,none⟩=some (ca[j]'(by omega)):=by rw[hcB,Array.getElem?_eq_getElem (by omega)]
    have kf:=hfB j
    have HO2:=aa (dX ho2 (show w.heap.size+1<=_ by simp;omega))
    have HX3:=aa hx3
    have HB2:=aa hB2
    obtain⟨nw,hnw⟩:=exq ((bM code (j+1,1)).length)
    rw[<-hnw]
    have HNW:=aa hnw
    clear k0 k1 k2 k3 k4 k5 k6 hcB hfB hx2 hx3 hB2 ho2 hbk hnw
    go_wp2_with fail
    go_roundg g
    case measure=>omega
    case rel=>
     refine⟨j+1,by omega,by simp,?_,?_,?_⟩
     ·have:=HB2.O.next hjn HO2.O
      rw[HNW.O]
      exact this
     ·exact (HX.O.trans HX3.O).setCell (Or.inr (by simp)) _
     ·have:=HX3.O.size;simp;omega
   ·have h0b:(op==0)=false:=by simpa using h0
    go_wp2_with fail
    go_roundg g
    case measure=>omega
    case rel=>
     exact⟨j+1,by omega,by simp,(HB.O.ex' ((Ex.refl [] _).alloc _)).skip HI.O h0,HX.O.alloc _,by simp;omega⟩
theorem yL (t:ByteArray) (a b c:UInt8):Lib.hasPrefix t.data.toList [a,b,c]=decide (ai t 0=some a/\ai t 1=some b/\ai t 2=some c):=by
 obtain⟨⟨l⟩⟩:=t
 unfold Lib.hasPrefix ai
 rw[Bool.eq_iff_iff,decide_eq_true_iff]
 cases l with
 |nil=>simp
 |cons x l=>
  cases l with
  |nil=>simp
  |cons y l=>
   cases l with
   |nil=>simp
   |cons z l=>
    simp only[List.isPrefixOf_cons_cons,List.isPrefixOf_nil_left,Bool.and_true,Bool.and_eq_true,beq_iff_eq,List.getElem?_toArray,List.getElem?_cons_zero,List.getElem?_cons_succ,Option.some.injEq]
    constructor
    ·rintro⟨h1,h2,h3⟩;exact⟨h1.symm,h2.symm,h3.symm⟩
    ·rintro⟨h1,h2,h3⟩;exact⟨h1.symm,h2.symm,h3.symm⟩
theorem RG.at3 {s:RS} (h:RG w r mb t x s) (h3:3<=t.size):RG (w.setCell ⟨r,1,none⟩ (.int .i64 3)) r mb t x {s with k:=3}:=
 h.own (s':={s with k:=3}) rfl _ rfl h3 (by
  have h1:=h.rd
  unfold RD at h1 ⊢
  simp[World.setCell,Array.getElem?_modify,h1])
theorem RG.fold {s:RS} (h:RG w r mb t x s):RG (w.setCell ⟨r,3,none⟩ (.bool true)) r mb t x {s with f:=true}:=
 h.own (s':={s with f:=true}) rfl _ rfl h.hk (by
  have h1:=h.rd
  unfold RD at h1 ⊢
  simp[World.setCell,Array.getElem?_modify,h1])
theorem Ai (h:RG w r mb t x fa):
  Calls Tryz.prog 84 #[.pointer (some ⟨r,0,none⟩)] w fun e w'=>ay [r] r mb t x w (fun _ v _=>v= .tuple #[]) (dB t) e w':=by
 have hpre:=yL t 40 63 105
 have h0:=h.rd.c0
 have hlt:=h.lt
 have hf1:=h.fz 1
 have hc1:=h.rd.c1
 have H:=aa h
 clear h
 by_cases hp:ai t 0=some 40/\ai t 1=some 63/\ai t 2=some 105
 ·rw[decide_eq_true hp]at hpre
  have h3:3<=t.size:=(cP hp.2.2).1
  have HF:Hid (dB t=(aw t {fa with k:=3} 41).bind fun _ s=> .ok () {s with f:=true}):=by show dB t=_;unfold dB;rw[if_pos hp]
  clear hp
  go_enter Tryz.func84,Tryz.ntmps84
  go_wp2_with (go_at_call 101;refine (Tryz.strings_HasPrefix _ _ _).mono ?_;rintro e w' ⟨rfl,rfl⟩)
  refine (gL (H.O.at3 h3) 41 41 rfl).mono ?_
  rintro e w1 hp
  rcases hp.split with⟨_,s1,v,hm,rfl,rfl,hg1,hx1⟩|⟨s9,hm,rfl,hg,hx⟩
  rotate_left
  ·exact ab rfl (ay.mkBad (by rw[HF.O,hm];rfl) hg (((Ex.refl _ _).setCell (Or.inl (by simp)) _).trans hx))
  have HM:Hid (dB t= .ok () {s1 with f:=true}):=by show dB t=_;rw[HF.O,hm];rfl
  have hf3:=hg1.fz 3
  have hc3:=hg1.rd.c3
  have hl1:=hg1.lt
  have G1:=aa hg1
  have X1:=aa hx1
  clear hp hm hg1 hx1 h0 hf1 hc1
  go_wp2_with fail
  go_end0
  exact ay.mkOk HM.O rfl G1.O.fold ((((Ex.refl _ _).setCell (Or.inl (by simp)) _).trans X1.O).setCell (Or.inl (by simp)) _)
 ·rw[decide_eq_false hp]at hpre
  have HF:Hid (dB t= .ok () fa):=by show dB t=_;unfold dB;rw[if_neg hp]
  clear hp
  go_enter Tryz.func84,Tryz.ntmps84
  go_wp2_with (go_at_call 101;refine (Tryz.strings_HasPrefix _ _ _).mono ?_;rintro e w' ⟨rfl,rfl⟩)
  go_end0
  exact ay.mkOk HF.O rfl H.O (Ex.refl _ _)
theorem r8 (p q:Addr) (w:World):
  CallsD Tryz.prog 83 #[.pointer (some p),.pointer (some q)] .returning w fun e u' w'=>e= .returned (.tuple #[])/\u'= .returning/\w'=w:=by
 refine callsD_of_wpS Tryz.func83 rfl fun c₀ cs hu=> ?_
 apply wpS_seq
 apply wpS_region
 simp[wpOpsS,go_sem,recoverD,hu,Tryz.ntmps83,Exit.thenS]
 refine wpS_cond (t:=false) (by simp[Act.eval,Array.replicate]) ?_
 simp only[Bool.false_eq_true,if_false]
 refine wpS_of_wp (wp_skip ?_)
 cases c₀
 simp_all [bodyPostS,results,Tryz.results83]
theorem gJ {wb ob:Nat} {u:TypeId} {pv:Value} {older:List PanicEntry} {cs:Array Value} {b:Value} (hA:BK w wb (.cells cs 101 (0,0))) (hs:cs.size=9) (hB:BK w ob (.cells #[b] 4 (0,0))) (hne:wb≠ob):
  CallsD Tryz.prog 83 #[.pointer (some ⟨wb,0,none⟩),.pointer (some ⟨ob,0,none⟩)] (.panicking ({v:= .iface u pv,recovered:=false}::older)) w fun e u' w'=>
   e= .returned (.tuple #[])/\u'= .panicking ({v:= .iface u pv,recovered:=true}::older)/\BK w' wb (.cells #[.int .i64 0,.slice none 0 0,.int .u64 0,.int .u64 0,.bool false,.int .i64 0,.int .i64 0,.int .i64 0,.bool false] 101 (0,0))/\BK w' ob (.cells #[.bool false] 4 (0,0))/\Ex [wb,ob] w w':=by
 have HSZ:(Tryz.prog.info? 101).map (·.size)=some (#[.int .i64 0,.slice none 0 0,.int .u64 0,.int .u64 0,.bool false,.int .i64 0,.int .i64 0,.int .i64 0,.bool false]:Array Value).size:=bz
 have HAL:(#[.int .i64 0,.slice none 0 0,.int .u64 0,.int .u64 0,.bool false,.int .i64 0,.int .i64 0,.int .i64 0,.bool false]:Array Value).all (·.oneCell')=true:=by simp[Value.oneCell']
 refine callsD_of_wpS Tryz.func83 rfl fun c₀ cs hu=> ?_
 apply wpS_seq
 apply wpS_region
 simp[wpOpsS,go_sem,recoverD,hu,Tryz.ntmps83,Exit.thenS]
 refine wpS_cond (t:=true) (by simp[Act.eval,Array.replicate]) ?_
 simp only[if_true]
 refine wpS_of_wp ?_
 have HA:=aa hA
 have HB:=aa hB
 have hB2:BK (w.setRow wb #[.int .i64 0,.slice none 0 0,.int .u64 0,.int .u64 0,.bool false,.int .i64 0,.int .i64 0,.int .i64 0,.bool false]) ob (.cells #[b] 4 (0,0)):=by unfold BK;rw[setRow_other _ _ _ _ (Ne.symm hne)];exact hB
 have hA2:BK (w.setRow wb #[.int .i64 0,.slice none 0 0,.int .u64 0,.int .u64 0,.bool false,.int .i64 0,.int .i64 0,.int .i64 0,.bool false]) wb (.cells #[.int .i64 0,.slice none 0 0,.int .u64 0,.int .u64 0,.bool false,.int .i64 0,.int .i64 0,.int .i64 0,.bool false] 101 (0,0)):=setRow_heap _ _ _ _ _ _ hA
 have hx2:Ex [wb,ob] w (w.setRow wb #[.int .i64 0,.slice none 0 0,.int .u64 0,.int .u64 0,.bool false,.int .i64 0,.int .i64 0,.int .i64 0,.bool false]):=(Ex.refl _ _).setRow (Or.inl (by simp)) _
 obtain⟨hcB,hfB⟩:=hB2.all
 have hBl:=hB2.lt
 have HB2:=aa hB2
 have HA2:=aa hA2
 have HX2:=aa hx2
 clear hA hB hB2 hA2 hx2
 go_wp2_with (refine wpList_store_row rfl 101 _ _ rfl wb #[.int .i64 0,.slice none 0 0,.int .u64 0,.int .u64 0,.bool false,.int .i64 0,.int .i64 0,.int .i64 0,.bool false] rfl rfl 101 _ HA.O HSZ (by exact hs) HAL ?_)
 have hA3:=HA2.O.set (p:=⟨ob,0,none⟩) hne (.bool false)
 have hB3:=HB2.O.self 0 (.bool false)
 have hx3:=HX2.O.setCell (p:=⟨ob,0,none⟩) (Or.inl (by simp)) (.bool false)
 simp only[List.setIfInBounds_toArray,List.set_cons_zero]at hB3
 simp[bodyPostS,results,Tryz.results83]
 exact⟨hA3,hB3,hx3⟩
end Go.Proofs.YtfnanjbleifjkaaGreatDoor.G
