import Derived.Test.YtfnanjbleifjkaaGreatDoorM29
import Derived.Laws.StructEq
set_option linter.unusedVariables false
set_option linter.unusedSimpArgs false
set_option maxHeartbeats 8000000
set_option maxRecDepth 100000
namespace Go.Proofs.YtfnanjbleifjkaaGreatDoor.G
variable {c:SC} {d:SD} {w:World} {K:List Ti} {k:Nat}
open Go.RowKit
def zj (c:SC) (d:SD) (w:World) (K:List Ti) (e:Ending) (w':World):Prop:=∃(i:Nat) (d':SD),e= .returned (.int .i64 (i:Int))/\SG c d' w'/\SF c d d' w w'/\d'.M[i]? =some K/\d'.sp=d.sp/\d'.op=d.op
theorem SG.drewN (h:SG c d w) (n:Nat):SG c d (w.drewN n):=h.stays ⟨rfl,rfl,rfl,Nat.le_refl _,fun _ _ _=>rfl⟩ (fun _ _=>rfl)
theorem SF.drewN {d':SD} {w':World} (h:SF c d d' w w') (n:Nat):SF c d d' w (w'.drewN n):=⟨h.os,h.tape,h.output,h.size,h.blk,h.mg,h.mor⟩
@[reducible] def zeroSt:List Value:=[.int .i64 0,.int .i64 0,.int .i64 0,.bool false,.int .i64 0,.int .i64 0,.int .i64 0,.slice none 0 0]
theorem uW:(Tryz.prog.info? 278).map (fun i=>(i.zero,i.size,i.bytes))=some (some (.agg zeroSt.toArray),8,80):=by kernel_rfl
theorem wN:(Tryz.prog.info? 4).map (fun i=>(i.zero,i.size,i.bytes))=some (some (.bool false),1,1):=by kernel_rfl
theorem wU (z:Value) (n:Nat):madeCells #[z] n=(List.replicate n z).toArray:=by
 apply Array.ext
 ·simp[madeCells]
 ·intro i h1 h2
  simp[madeCells,Nat.mod_one]
theorem lS (w:World) (o:Obj) (k:Nat) (h:k<w.heap.size):(w.alloc o).heap[k]? =w.heap[k]? :=((Ex.refl [] w).alloc o).block k h (by simp)
theorem xE (n:Nat) (T:List St) (s:St):stL n (T++[s])=stL n T++s.cells n:=by simp[stL]
theorem SG.pushed {w3:World} (hk:SK c) (h:SG c d w) {lb:Nat} {v':Value} {s:St} (hlb:w.heap.size<=lb) (hs:s.lb=lb)
  (hb:BK w3 lb (.cells (sB (List.replicate (c.l3.length+1) false)).toArray 4 (0,0))) (he:EB c.base [] w w3) (hst:∀k,k<w.heap.size ->d.sv.ownBlock≠some k ->w3.heap[k]? =w.heap[k]?)
  (hown:w3.ownsRow c.base 278 8 v' (d.T.length+1) (stL c.l3.length d.T++s.cells c.l3.length)) (hv:∀k,v'.ownBlock=some k ->k<w.heap.size ->d.sv.ownBlock=some k)
  (hsi:SI c.U (lR c.l3) (eY c.l3 c.en) (d.T++[s]) (d.M++[K]) (d.Ls++[List.replicate ((lR c.l3).length+1) false])):
  SG c ⟨v',d.T++[s],d.M++[K],d.Ls++[List.replicate ((lR c.l3).length+1) false],d.sp,d.op⟩ (w3.setCell ⟨c.S,2,none⟩ v')/\SF c d ⟨v',d.T++[s],d.M++[K],d.Ls++[List.replicate ((lR c.l3).length+1) false],d.sp,d.op⟩ w (w3.setCell ⟨c.S,2,none⟩ v'):=by
 have hSn:d.sv.ownBlock≠some c.S:=aE h.sts h.blk (by decide)
 have hbS:BK w3 c.S (.cells #[.pointer (some ⟨c.rb,0,none⟩),c.lv,d.sv,c.pv,c.ov,.int .i64 (c.en:Int)] 221 (0,0)):=by unfold BK;rw[hst c.S h.blk.lt hSn];exact h.blk
 have hvS:v'.ownBlock≠some c.S:=aE hown hbS (by decide)
 have heb:EB c.base [] w (w3.setCell ⟨c.S,2,none⟩ v'):=he.setCell (.inr hk.bS) _
 have st:∀k,k<w.heap.size ->d.sv.ownBlock≠some k ->k≠c.S ->(w3.setCell ⟨c.S,2,none⟩ v').heap[k]? =w.heap[k]? :=fun k h1 h2 h3=>(Below.heap_setCell _ _ _ _ h3).trans (hst k h1 h2)
 have hlS:lb≠c.S:=by have:=h.blk.lt;omega
 have hbS2:=hbS.self 2 v'
 simp only[List.setIfInBounds_toArray,List.set_cons_zero,List.set_cons_succ]at hbS2
 have ll:(lR c.l3).length=c.l3.length:=by unfold lR;rw[List.length_map]
 have old:∀(k:Nat) s0,d.T[k]? =some s0 ->s0.lb<w.heap.size:=fun k s0 h0=>(h.mg hk (.inr (.inr (.inr (.inr ⟨s0,List.mem_of_getElem? h0,rfl⟩))))).2
 have spl:∀(k:Nat) s0,(d.T++[s])[k]? =some s0 ->d.T[k]? =some s0\/(k=d.T.length/\s0=s):=fun k s0 h0=>by
  by_cases hkl:k<d.T.length
  ·rw[List.getElem?_append_left hkl]at h0;exact .inl h0
  ·rw[List.getElem?_append_right (by omega)]at h0
   have:k-d.T.length=0:=by
    have:=(List.getElem?_eq_some_iff.1 h0).1
    simp at this
    omega
   rw[this]at h0
   exact .inr ⟨by omega,by simpa using h0.symm⟩
 refine⟨⟨h.eb.trans heb,hbS2,aH h.run (fun g hg=>st g (h.run.lt g hg).2 (cr h.sts h.run (by decide) g hg) (fun e=>aE h.run h.blk (by decide) (e▸hg))),?_,aH h.spn (fun g hg=>st g (h.spn.lt g hg).2 (cr h.sts h.spn (by decide) g hg) (fun e=>aE h.spn h.blk (by decide) (e▸hg))),aH h.opn (fun g hg=>st g (h.opn.lt g hg).2 (cr h.sts h.opn (by decide) g hg) (fun e=>aE h.opn h.blk (by decide) (e▸hg))),?_,?_,hsi,h.spl,h.opl⟩,⟨heb.os,heb.tape,heb.output,heb.size,fun k h1 h2=>st k h1 (fun e=>h2 (.inr (.inl e))) (fun e=>h2 (.inl e)),?_,?_⟩⟩
 ·show World.ownsRow _ _ _ _ _ (d.T++[s]).length _
  rw[List.length_append]
  show World.ownsRow _ _ _ _ _ (d.T.length+1) (stL _ (d.T++[s]))
  rw[xE]
  exact aH hown (fun g hg=>Below.heap_setCell _ _ _ _ (fun e=>hvS (by rw[hg,e])))
 ·intro k s0 bs h1 h2
  rcases spl k s0 h1 with h1|⟨e1,e2⟩
  ·have hkl:=(List.getElem?_eq_some_iff.1 h1).1
   have h2:(d.Ls++[List.replicate ((lR c.l3).length+1) false])[k]? =some bs:=h2
   rw[List.getElem?_append_left (by rw[h.lens.1];exact hkl)]at h2
   obtain⟨a,bk⟩:=h.lst k s0 bs h1 h2
   refine⟨a,?_⟩
   unfold BK
   rw[st s0.lb (old k s0 h1) (aE h.sts bk (by decide)) (fun e=>by have:=zd bk (e▸h.blk);revert this;decide)]
   exact bk
  ·have h2:(d.Ls++[List.replicate ((lR c.l3).length+1) false])[k]? =some bs:=h2
   rw[List.getElem?_append_right (by rw[h.lens.1];omega),e1,h.lens.1,Nat.sub_self]at h2
   have h2:List.replicate ((lR c.l3).length+1) false=bs:=by simpa using h2
   rw[<-h2,e2,hs,ll]
   refine⟨?_,hb.set hlS _⟩
   have:=h.eb.size
   rw[hk.bw]at this
   omega
 ·intro k k' s0 s1 h1 h2 e
  rcases spl k s0 h1 with h1|⟨e1,e2⟩<;>rcases spl k' s1 h2 with h2|⟨e3,e4⟩
  ·exact h.ld k k' s0 s1 h1 h2 e
  ·have:=old k s0 h1;rw[e,e4,hs]at this;omega
  ·have:=old k' s1 h2;rw[<-e,e2,hs]at this;omega
  ·rw[e1,e3]
 ·intro k h1 h2
  rcases h2 with h2|h2|h2|h2|⟨s0,h2,h3⟩
  ·exact .inl h2
  ·exact .inr (.inl (hv k h2 h1))
  ·exact .inr (.inr (.inl h2))
  ·exact .inr (.inr (.inr (.inl h2)))
  ·rcases List.mem_append.1 h2 with h2|h2
   ·exact .inr (.inr (.inr (.inr ⟨s0,h2,h3⟩)))
   ·have:s0=s:=by simpa using h2
    rw[this,hs]at h3
    omega
 ·intro j K0 hj
  show (d.M++[K])[j]? =some K0
  rw[List.getElem?_append_left (List.getElem?_eq_some_iff.1 hj).1]
  exact hj
theorem jt (hk:SK c) (h:SG c d w) (t:Ti) (K':List Ti) (hK:(t::K')∈c.U) (next:Int) (hx:NX d.M d.T.length next K') (kind x:Int) (fresh:Bool) (hc:(kind,x,fresh)=t.code):
  Calls Tryz.prog 98 #[.pointer (some ⟨c.S,0,none⟩),.agg #[.int .i64 kind,.int .i64 x,.int .i64 next,.bool fresh]] w (zj c d w (t::K')):=by
 have hxw:Ex [] w (w.alloc (Obj.cells #[.int .i64 kind,.int .i64 x,.int .i64 next,.bool fresh] 224)):=(Ex.refl _ _).alloc _
 have hbx:BK (w.alloc (Obj.cells #[.int .i64 kind,.int .i64 x,.int .i64 next,.bool fresh] 224)) w.heap.size (.cells #[.int .i64 kind,.int .i64 x,.int .i64 next,.bool fresh] 224 (0,0)):=BK.new _ _
 obtain⟨w1,hw1⟩:=exq (w.alloc (Obj.cells #[.int .i64 kind,.int .i64 x,.int .i64 next,.bool fresh] 224))
 rw[<-hw1]at hxw hbx
 obtain⟨h1,f1⟩:=h.ex hk hxw
 have HN:Hid (∀k:Nat,(k=w.heap.size) ->¬Mg c d k):=fun k e=>h.new hk (by omega)
 obtain⟨b,hb⟩:=exq (w.heap.size)
 rw[<-hb]at hbx HN
 obtain⟨m,hm⟩:=exq (d.T.length)
 obtain⟨S,hS⟩:=exq (c.S)
 obtain⟨n,hn⟩:=exq (c.l3.length)
 have hml:m<=315000000000:=by rw[hm];exact Nat.le_trans h.si.len_le hk.ul
 have hnl:n<=1048576:=by rw[hn];exact hk.ln
 rw[<-hS]
 have HX:=aa hx
 have HC:=aa hc
 have HK1:=aa hK
 have HK:=aa hk
 have H1:=aa h1
 have F1:=aa f1
 have HB:=aa hbx
 have HM:=aa hm
 have HS:=aa hS
 have HN3:=aa hn
 have HW1:=aa hw1
 have HBE:=aa hb
 clear hx hc hK hk h h1 f1 hbx hm hS hn hw1 hb hxw
 go_enter Tryz.func98,Tryz.ntmps98
 go_upto_region 1 with fail
 rw[<-HW1.O,<-HBE.O]
 go_wp2_with fail
 go_loopg [5] m (fun gk i wr=>∃j:Nat,j+gk=m/\i= .int .i64 (j:Int)/\(∀k,k<j ->d.M[k]? ≠some (t::K'))/\SG c d wr/\SF c d d w wr/\BK wr b (.cells #[.int .i64 kind,.int .i64 x,.int .i64 next,.bool fresh] 224 (0,0)))
 case atStart=>exact⟨0,by omega,rfl,fun k hk=>by omega,H1.O,F1.O,HB.O⟩
 case round=>
  obtain⟨j,hj,rfl,hno,h2,f2,hb2⟩:=hrel
  have HNO:=aa hno
  have H2:=aa h2
  have F2:=aa f2
  have HB2:=aa hb2
  obtain⟨ps,cs,hsv⟩:=aA h2.sts
  have s2:wr.cell? ⟨S,2,none⟩=some (.slice ps m cs):=by rw[HS.O,HM.O,<-hsv];exact h2.blk.all.1 2
  have hSl:S<wr.heap.size:=by rw[HS.O];exact h2.blk.lt
  have hbl:=hb2.lt
  have b0:wr.cell? ⟨b,0,none⟩=some (.int .i64 kind):=hb2.all.1 0
  have b1:wr.cell? ⟨b,1,none⟩=some (.int .i64 x):=hb2.all.1 1
  have b2:wr.cell? ⟨b,2,none⟩=some (.int .i64 next):=hb2.all.1 2
  have b3:wr.cell? ⟨b,3,none⟩=some (.bool fresh):=hb2.all.1 3
  cases gk with
  |zero=>
   have hjl:¬(j:Int)<(m:Int):=by omega
   obtain rfl:m=j:=by omega
   obtain⟨ib,hib,hbz0,hbz1,hbz2⟩:=info_parts wN
   obtain⟨ti,hti,hzz0,hzz1,hzz2⟩:=info_parts uW
   obtain⟨pl,cl,hlv⟩:=aA h2.run
   have s1:wr.cell? ⟨S,1,none⟩=some (.slice pl n cl):=by rw[HS.O,HN3.O,<-hlv];exact h2.blk.all.1 1
   have hbase:c.base<=wr.heap.size:=by have:=h2.eb.size;rw[HK.O.bw]at this;exact this
   have HSV:=aa hsv
   clear h2 f2 hb2 hno hlv hsv
   go_wp2_with (at_make;refine wpList_make_full _ rfl _ _ 276 rfl c.base 4 ib (.bool false) 1 Tryz.underlying276 hib hbz0 hbz1 .i64 .i64 _ _ (n+1) rfl rfl (by simp) (by simp) (by rw[hbz2];omega) (by unfold maxLen;omega) hbase ?_)
   intro w2 hown2 hg2
   obtain⟨lb,hlb⟩:=exq (wr.heap.size)
   rw[<-hlb]at hown2 ⊢
   have hbl2:BK w2 lb (.cells (sB (List.replicate (n+1) false)).toArray 4 (0,0)):=by
    rcases hown2.2 with⟨hv,_⟩|⟨g',cap',cur,hv,_,hgg,_,_,h3,h4⟩
    ·cases hv
    ·cases hv
     have:cur=(sB (List.replicate (n+1) false)).toArray:=by
      apply Array.toList_inj.1
      rw[List.take_of_length_le (by rw[Array.length_toList,h3];exact Nat.le_refl _)]at h4
      rw[h4,wU]
      simp[sB]
     rw[<-this]
     exact hgg
   have hgw2:=hg2
   have HG2:=aa hg2
   have HBL2:=aa hbl2
   have HLB:=aa hlb
   have hS2:w2.cell? ⟨S,2,none⟩=some (.slice ps m cs):=by rw[World.cell?_of_block (hg2.block S hSl (by simp))];exact s2
   have s22:w2.cell? ⟨S,2,none⟩=some (.slice ps m cs):=hS2
   have hB2:BK w2 b (.cells #[.int .i64 kind,.int .i64 x,.int .i64 next,.bool fresh] 224 (0,0)):=BK.grown HB2.O hg2 (by simp)
   have b02:w2.cell? ⟨b,0,none⟩=some (.int .i64 kind):=hB2.all.1 0
   have b12:w2.cell? ⟨b,1,none⟩=some (.int .i64 x):=hB2.all.1 1
   have b22:w2.cell? ⟨b,2,none⟩=some (.int .i64 next):=hB2.all.1 2
   have b32:w2.cell? ⟨b,3,none⟩=some (.bool fresh):=hB2.all.1 3
   have hSl2:S<w2.heap.size:=Nat.lt_of_lt_of_le hSl hg2.size
   have hbl2':b<w2.heap.size:=Nat.lt_of_lt_of_le hbl hg2.size
   have hbs2:BK w2 S (.cells #[.pointer (some ⟨c.rb,0,none⟩),c.lv,d.sv,c.pv,c.ov,.int .i64 (c.en:Int)] 221 (0,0)):=by rw[HS.O];exact BK.grown H2.O.blk hg2 (by simp)
   have hrow2:w2.ownsRow c.base 278 8 (.slice ps m cs) m (stL n d.T):=by
    have:=dW H2.O.sts hg2 (fun _ _=>by simp)
    rw[HSV.O,<-HM.O,<-HN3.O]at this
    exact this
   have HBS2:=aa hbs2
   have HBB2:=aa hB2
   have HROW2:=aa hrow2
   have HNB:Hid ((Value.slice ps m cs).ownBlock≠some b):=aE hrow2 hB2 (by decide)
   have HNS:Hid ((Value.slice ps m cs).ownBlock≠some S):=aE hrow2 hbs2 (by decide)
   have hba2:c.base<=w2.heap.size:=Nat.le_trans hbase hg2.size
   have HI:Hid (([.int .i64 kind,.int .i64 x,.int .i64 next,.bool fresh,.int .i64 (-1),.int .i64 (-1),.int .i64 (-1),.slice (some ⟨lb,0,none⟩) (n+1) (n+1)]:List Value).length=8):=rfl
   clear hown2 hg2 hbl2 hlb hS2 hB2 hbs2 hrow2 s2 b0 b1 b2 b3 hgw2
   go_upto_region 7 with fail
   refine aQ (by kernel_rfl) ?_
   refine tk (i:=0) (v:= ?_) rfl ?_ ?_
   rotate_left
   ·intro w'
    go_simp
    try with_reducible rfl
   simp only[Act.put,List.replicate,Array.replicate,lx]
   refine tk (i:=1) (v:= ?_) rfl ?_ ?_
   rotate_left
   ·intro w'
    go_simp
    try with_reducible rfl
   simp only[Act.put,List.replicate,Array.replicate,lx]
   refine tk (i:=2) (v:= ?_) rfl ?_ ?_
   rotate_left
   ·intro w'
    go_simp
    try with_reducible rfl
   simp only[Act.put,List.replicate,Array.replicate,lx]
   refine tk (i:=3) (v:= ?_) rfl ?_ ?_
   rotate_left
   ·intro w'
    go_simp
    try with_reducible rfl
   simp only[Act.put,List.replicate,Array.replicate,lx]
   refine tk (i:=6) (v:= ?_) rfl ?_ ?_
   rotate_left
   ·intro w'
    go_simp
    try with_reducible rfl
   simp only[Act.put,List.replicate,Array.replicate,lx]
   refine aV (S:=(fun oi w'=>oi<12 ->w'.cell? ⟨S,2,none⟩=some (.slice ps m cs)/\w'.cell? ⟨b,0,none⟩=some (.int .i64 kind)/\w'.cell? ⟨b,1,none⟩=some (.int .i64 x)/\w'.cell? ⟨b,2,none⟩=some (.int .i64 next)/\w'.cell? ⟨b,3,none⟩=some (.bool fresh))) _ _ _ _ ?_
   refine tkJ (i:=4) (v:= ?_) rfl ⟨s22,b02,b12,b22,b32⟩ ?_ ?_
   rotate_left
   ·intro w' hSw
    obtain⟨f1,f2,f3,f4,f5⟩:=hSw
    go_simp
    try with_reducible rfl
   simp only[Act.put,List.replicate,Array.replicate,lx]
   refine tkJ (i:=5) (v:= ?_) rfl ⟨s22,b02,b12,b22,b32⟩ ?_ ?_
   rotate_left
   ·intro w' hSw
    obtain⟨f1,f2,f3,f4,f5⟩:=hSw
    go_simp
    try with_reducible rfl
   simp only[Act.put,List.replicate,Array.replicate,lx]
   refine tkJ (i:=7) (v:= ?_) rfl ⟨s22,b02,b12,b22,b32⟩ ?_ ?_
   rotate_left
   ·intro w' hSw
    obtain⟨f1,f2,f3,f4,f5⟩:=hSw
    go_simp
    try with_reducible rfl
   simp only[Act.put,List.replicate,Array.replicate,lx]
   refine ae (i:=8) rfl rfl (by kernel_rfl) (fun K hK=> ?_)
   refine wp_buildSlice 219 278 1 _ rfl ([.int .i64 kind,.int .i64 x,.int .i64 next,.bool fresh,.int .i64 (-1),.int .i64 (-1),.int .i64 (-1),.slice (some ⟨lb,0,none⟩) (n+1) (n+1)]:List Value).toArray ti _ Tryz.underlying219 hti hzz0 (by rw[hzz1];decide) (by rw[hzz1];decide) (by rw[hzz1];simp only[List.map_toArray,List.map_cons,List.map_nil,Act.eval,List.getElem?_toArray,Array.getD_eq_getD_getElem?,List.getElem?_cons_succ,List.getElem?_cons_zero,Option.getD_some];refine qD HI.O ?_;rw[Array.size_map,Array.size_range]) ?_
   refine hK.O _ _ (fun _=>⟨(HBS2.O.drew.alloc _).all.1 2|>.trans (by rw[HSV.O,HM.O];rfl),(HBB2.O.drew.alloc _).all.1 0,(HBB2.O.drew.alloc _).all.1 1,(HBB2.O.drew.alloc _).all.1 2,(HBB2.O.drew.alloc _).all.1 3⟩) ?_
   clear hK K
   simp only[Act.put,List.replicate,Array.replicate,lx]
   refine ae (i:=9) rfl rfl (by kernel_rfl) (fun K hK=> ?_)
   refine wp_append_lies _ (.tmp 38) (.tmp 42) 219 rfl c.base 278 ti _ 8 80 Tryz.underlying219 hti hzz0 hzz1 hzz2 rfl (by decide) (.slice ps m cs) m (stL n d.T) rfl ((World.ownsRow.drew HROW2.O).alloc _) ⟨w2.heap.size,0,none⟩ 1 1 [.int .i64 kind,.int .i64 x,.int .i64 next,.bool fresh,.int .i64 (-1),.int .i64 (-1),.int .i64 (-1),.slice (some ⟨lb,0,none⟩) (n+1) (n+1)] rfl rfl (bK _ _ _) (by simp[Value.oneCell']) (by decide) (by unfold maxLen;omega) (by omega) (by simp;omega) _ rfl ?_
   intro g cap w3 hown3 hgrow3 hat3 hlt3
   have hbb3:=BK.grown (HBB2.O.drew.alloc (.cells ([.int .i64 kind,.int .i64 x,.int .i64 next,.bool fresh,.int .i64 (-1),.int .i64 (-1),.int .i64 (-1),.slice (some ⟨lb,0,none⟩) (n+1) (n+1)]:List Value).toArray 278)) hgrow3 HNB.O
   have hbs3:=BK.grown (HBS2.O.drew.alloc (.cells ([.int .i64 kind,.int .i64 x,.int .i64 next,.bool fresh,.int .i64 (-1),.int .i64 (-1),.int .i64 (-1),.slice (some ⟨lb,0,none⟩) (n+1) (n+1)]:List Value).toArray 278)) hgrow3 HNS.O
   refine hK.O _ _ (fun _=>⟨hbs3.all.1 2|>.trans (by rw[HSV.O,HM.O];rfl),hbb3.all.1 0,hbb3.all.1 1,hbb3.all.1 2,hbb3.all.1 3⟩) ?_
   clear hK K
   obtain⟨hcs3,hfs3⟩:=hbs3.all
   have hsl3:=hbs3.lt
   simp only[Act.put,List.replicate,Array.replicate,lx]
   refine ae (i:=10) rfl rfl (by kernel_rfl) (fun K hK=> ?_)
   go_simp
   refine hK.O _ _ (fun _=>⟨hbs3.all.1 2|>.trans (by rw[HSV.O,HM.O];rfl),hbb3.all.1 0,hbb3.all.1 1,hbb3.all.1 2,hbb3.all.1 3⟩) ?_
   clear hK K
   simp only[Act.put,List.replicate,Array.replicate,lx]
   refine ae (i:=11) rfl rfl (by kernel_rfl) (fun K hK=> ?_)
   go_simp
   refine hK.O _ _ (fun _=>⟨hbs3.all.1 2|>.trans (by rw[HSV.O,HM.O];rfl),hbb3.all.1 0,hbb3.all.1 1,hbb3.all.1 2,hbb3.all.1 3⟩) ?_
   clear hK K
   simp only[Act.put,List.replicate,Array.replicate,lx]
   refine ae (i:=12) rfl rfl (by kernel_rfl) (fun K hK=> ?_)
   go_simp
   refine hK.O _ _ (fun h=>by omega) ?_
   clear hK K
   refine aP (by kernel_rfl) ?_ _
   have hp:=SG.pushed HK.O H2.O (w3:=w3) (lb:=lb) (v':= .slice (some ⟨g,0,none⟩) (m+1) cap) (s:=⟨kind,x,next,fresh,-1,-1,-1,lb⟩) (K:=t::K') (by rw[HLB.O];exact Nat.le_refl _) rfl
    (by rw[<-HN3.O];exact BK.grown (HBL2.O.drew.alloc _) hgrow3 (aE HROW2.O HBL2.O (by decide)))
    (EB.grown (((EB.ofEx ((Ex.refl [] _).grown HG2.O (by simp)) hbase).drew).alloc (by simp;omega) _) hgrow3 (by simp;omega) (fun k hk=> .inr (aG HROW2.O k hk)))
    (fun k hk hne=>(hgrow3.block k (by simp;have:=HG2.O.size;omega) (fun e=>hne (by rw[HSV.O,<-HM.O];exact e.symm))).trans ((lS _ _ _ (by have:=HG2.O.size;show k<w2.heap.size;omega)).trans (HG2.O.block k hk (by simp))))
    (by rw[<-HM.O,<-HN3.O];exact hown3)
    (fun k hk hlt=>by
     have hk:g=k:=by simpa[Value.ownBlock]using hk
     subst hk
     rcases hat3 with h9|h9
     ·rw[HSV.O,<-HM.O];exact h9
     ·have:=HG2.O.size
      simp at h9
      omega)
    (H2.O.si.push HK1.O (fun hm9=>by
     obtain⟨k,hk9,e9⟩:=List.getElem_of_mem hm9
     exact HNO.O k (by have:=H2.O.lens.2;have:=HM.O;omega) (by rw[List.getElem?_eq_getElem hk9,e9])) HX.O HC.O lb)
   rw[<-HS.O]at hp
   obtain⟨w4,hw4⟩:=exq (w3.setCell ⟨S,2,none⟩ (.slice (some ⟨g,0,none⟩) (m+1) cap))
   rw[<-hw4]at hp ⊢
   obtain⟨h4,f4⟩:=hp
   have k2:w4.cell? ⟨S,2,none⟩=some (.slice (some ⟨g,0,none⟩) (m+1) cap):=by rw[HS.O];exact h4.blk.all.1 2
   have kl:S<w4.heap.size:=by rw[HS.O];exact h4.blk.lt
   have H4:=aa h4
   have F4:=aa f4
   have HML:Hid (d.M.length=m):=by show _=_;rw[HM.O];exact H2.O.lens.2
   clear hw4 h4 f4 hbb3 hbs3 hcs3 hfs3 hsl3 hgrow3 hown3 hat3 hlt3 s22 b02 b12 b22 b32 hti hzz0 hzz1 hzz2 hib hbz0 hbz1 hbz2 s1
   go_wp2_with fail
   go_ret
   exact⟨m,_,by simp,H4.O,F2.O.trans F4.O,by rw[List.getElem?_append_right (by rw[HML.O];exact Nat.le_refl _),HML.O,Nat.sub_self];rfl,rfl,rfl⟩
  |succ gk=>
   have hjl:(j:Int)<(m:Int):=by omega
   obtain⟨s,hs⟩:∃s,d.T[j]? =some s:=⟨_,List.getElem?_eq_getElem (by have:=HM.O;omega)⟩
   obtain⟨Kj,hKj⟩:∃Kj,d.M[j]? =some Kj:=⟨_,List.getElem?_eq_getElem (by have:=HM.O;have:=h2.lens.2;omega)⟩
   obtain⟨g,cap,e,_,hg,hcell,_⟩:=h2.at hs
   have e2:=hsv.symm.trans e
   injection e2 with e3 _ e4
   subst e3
   have hf:=h2.si.find HK.O.cl HK.O.ok HK1.O HX.O hs hKj
   have HF:=aa hf
   have HKJ:=aa hKj
   have a0:wr.cell? ⟨g,j*8,none⟩=some (.int .i64 s.kind):=hcell 0 (by omega)
   have a1:wr.cell? ⟨g,j*8+1,none⟩=some (.int .i64 s.x):=hcell 1 (by omega)
   have a2:wr.cell? ⟨g,j*8+2,none⟩=some (.int .i64 s.next):=hcell 2 (by omega)
   have a3:wr.cell? ⟨g,j*8+3,none⟩=some (.bool s.fresh):=hcell 3 (by omega)
   have HE:Hid ((s.kind=kind/\s.x=x/\s.next=next/\s.fresh=fresh)↔Kj=t::K'):=by
    show _↔_
    rw[<-hf,<-HC.O]
    simp only[Prod.mk.injEq]
    constructor
    ·rintro⟨p1,p2,p3,p4⟩;exact⟨⟨p1,p2,p4⟩,p3⟩
    ·rintro⟨⟨p1,p2,p4⟩,p3⟩;exact⟨p1,p2,p3,p4⟩
   obtain⟨k0,hk0⟩:=exq (s.kind)
   obtain⟨x0,hx0⟩:=exq (s.x)
   obtain⟨n0,hn0⟩:=exq (s.next)
   obtain⟨r0,hr0⟩:=exq (s.fresh)
   rw[<-hk0]at a0 HE
   rw[<-hx0]at a1 HE
   rw[<-hn0]at a2 HE
   rw[<-hr0]at a3 HE
   clear hk0 hx0 hn0 hr0 hf hKj hcell e4 e hsv h2 f2 hb2 hno hs HF
   have HNX:Hid (¬(k0=kind/\x0=x/\n0=next/\r0=fresh) ->∀k,k<j+1 ->d.M[k]? ≠some (t::K')):=fun hq k hk9=>by
    by_cases e9:k=j
    ·subst e9
     rw[HKJ.O]
     intro e8
     exact hq (HE.O.2 (Option.some.inj e8))
    ·exact HNO.O k (by omega)
   by_cases q0:k0=kind
   rotate_left
   ·have qb:(k0==kind)=false:=by rw[beq_eq_false_iff_ne];exact q0
    have HNX2:=aa (HNX.O (fun hq=>q0 hq.1))
    clear HNX HE q0
    go_wp2_with fail
    go_quiet (fail)
    go_wp2_with fail
    go_roundg gk
    case measure=>omega
    case rel=>exact⟨j+1,by omega,by simp,HNX2.O,H2.O.drewN _,F2.O.drewN _,HB2.O.drewN _⟩
   subst q0
   by_cases q1:x0=x
   rotate_left
   ·have qb:(x0==x)=false:=by rw[beq_eq_false_iff_ne];exact q1
    have HNX2:=aa (HNX.O (fun hq=>q1 hq.2.1))
    clear HNX HE q1
    go_wp2_with fail
    go_quiet (fail)
    go_wp2_with fail
    go_roundg gk
    case measure=>omega
    case rel=>exact⟨j+1,by omega,by simp,HNX2.O,H2.O.drewN _,F2.O.drewN _,HB2.O.drewN _⟩
   subst q1
   by_cases q2:n0=next
   rotate_left
   ·have qb:(n0==next)=false:=by rw[beq_eq_false_iff_ne];exact q2
    have HNX2:=aa (HNX.O (fun hq=>q2 hq.2.2.1))
    clear HNX HE q2
    go_wp2_with fail
    go_quiet (fail)
    go_wp2_with fail
    go_roundg gk
    case measure=>omega
    case rel=>exact⟨j+1,by omega,by simp,HNX2.O,H2.O.drewN _,F2.O.drewN _,HB2.O.drewN _⟩
   subst q2
   by_cases q3:r0=fresh
   rotate_left
   ·have qb:(r0==fresh)=false:=by rw[beq_eq_false_iff_ne];exact q3
    have HNX2:=aa (HNX.O (fun hq=>q3 hq.2.2.2))
    clear HNX HE q3
    go_wp2_with fail
    go_quiet (fail)
    go_wp2_with fail
    go_roundg gk
    case measure=>omega
    case rel=>exact⟨j+1,by omega,by simp,HNX2.O,H2.O.drewN _,F2.O.drewN _,HB2.O.drewN _⟩
   subst q3
   have HKK:=aa (HE.O.1 ⟨rfl,rfl,rfl,rfl⟩)
   clear HNX HE
   go_wp2_with fail
   go_quiet (fail)
   go_wp2_with fail
   go_ret
   exact⟨j,d,rfl,H2.O.drewN _,F2.O.drewN _,by rw[<-HKK.O];exact HKJ.O,rfl,rfl⟩
theorem jw {base e sz g n cap:Nat} {xs:List Value} (h:w.ownsRow base e sz (.slice (some ⟨g,0,none⟩) n cap) n xs) (j:Nat) (u:Value):
  (w.setCell ⟨g,j,none⟩ u).ownsRow base e sz (.slice (some ⟨g,0,none⟩) n cap) n (xs.set j u):=by
 rcases h.2 with⟨h',_⟩|⟨g',cap',cur,h',hbg,hg,hnc,hcm,hcs,htake⟩
 ·cases h'
 ·cases h'
  refine⟨by rw[List.length_set];exact h.1,.inr ⟨g,cap,cur.setIfInBounds j u,rfl,hbg,BK.self hg j u,hnc,hcm,by simpa using hcs,?_⟩⟩
  rw[<-htake,Array.toList_setIfInBounds,List.take_set]
theorem pD {T:List St} {s s':St} (hs:T[k]? =some s) (hl:s'.lb=s.lb) (j:Nat) (sj:St) (h:(T.set k s')[j]? =some sj):∃s0,T[j]? =some s0/\s0.lb=sj.lb:=by
 by_cases e:k=j
 ·subst e
  rw[List.getElem?_set_self (List.getElem?_eq_some_iff.1 hs).1]at h
  exact⟨s,hs,by rw[<-Option.some.inj h,hl]⟩
 ·rw[List.getElem?_set_ne e]at h
  exact⟨sj,h,rfl⟩
theorem SG.bw (hk:SK c) (h:SG c d w):c.base<=w.heap.size:=by have:=h.eb.size;rw[hk.bw]at this;exact this
theorem SG.wr (hk:SK c) (h:SG c d w) {a:Addr} (ha:c.base<=a.block) (u:Value):EB c.base [] w (w.setCell a u):=(EB.ofEx (Ex.refl [] w) (h.bw hk)).setCell (.inr ha) _
theorem SG.upd (hk:SK c) (h:SG c d w) {s s':St} (hs:d.T[k]? =some s) (hm:d.M[k]? =some K) {g cap:Nat} (hsv:d.sv= .slice (some ⟨g,0,none⟩) d.T.length cap) (o:Nat) (ho:o<8) (u:Value)
  (he:(s.cells c.l3.length).set o u=s'.cells c.l3.length) (ht:s'.task=s.task) (hl:s'.lb=s.lb) (h1:CI d.M s'.first (iN K)) (h2:CI d.M s'.second (il K)) (h3:CI d.M s'.later (iW K)):
  SG c ⟨d.sv,d.T.set k s',d.M,d.Ls,d.sp,d.op⟩ (w.setCell ⟨g,k*8+o,none⟩ u)/\SF c d ⟨d.sv,d.T.set k s',d.M,d.Ls,d.sp,d.op⟩ w (w.setCell ⟨g,k*8+o,none⟩ u):=by
 have hg:d.sv.ownBlock=some g:=by rw[hsv];rfl
 have hbg:=(h.sts.lt g hg).1
 have heb:=h.wr hk (a:=⟨g,k*8+o,none⟩) hbg u
 have st:∀k',k'≠g ->(w.setCell ⟨g,k*8+o,none⟩ u).heap[k']? =w.heap[k']? :=fun k' e=>Below.heap_setCell _ _ _ _ e
 obtain⟨cs,hbk⟩:=sP h.sts hg
 refine⟨⟨h.eb.trans heb,h.blk.set (fun e=>aE h.sts h.blk (by decide) (by rw[hg];exact congrArg some e.symm)) _,aH h.run (fun b hb=>st b (fun e=>cr h.sts h.run (by decide) b hb (e▸hg))),?_,aH h.spn (fun b hb=>st b (fun e=>cr h.sts h.spn (by decide) b hb (e▸hg))),aH h.opn (fun b hb=>st b (fun e=>cr h.sts h.opn (by decide) b hb (e▸hg))),fun j sj bs hj hb=> ?_,fun j j' sj sj' hj hj' e=> ?_,h.si.upd hs hm ht h1 h2 h3,h.spl,h.opl⟩,⟨heb.os,heb.tape,heb.output,heb.size,fun b hb hn=>st b (fun e=>hn (.inr (.inl (e▸hg)))),fun b hb hm=> ?_,fun _ _ h=>h⟩⟩
 ·show World.ownsRow _ _ _ _ d.sv (d.T.set k s').length _
  rw[List.length_set]
  show World.ownsRow _ _ _ _ d.sv _ (stL c.l3.length (d.T.set k s'))
  unfold stL
  rw[<-jk (xF c.l3.length) d.T k s s' o u hs ho he]
  have:=h.sts
  rw[hsv]at this ⊢
  exact jw this _ _
 ·obtain⟨s0,e1,e2⟩:=pD hs hl j sj hj
  obtain⟨p1,p2⟩:=h.lst j s0 bs e1 hb
  rw[<-e2]
  exact⟨p1,p2.set (fun e=>aE h.sts p2 (by decide) (by rw[hg];exact congrArg some e.symm)) _⟩
 ·obtain⟨s0,e1,e2⟩:=pD hs hl j sj hj
  obtain⟨s1,e3,e4⟩:=pD hs hl j' sj' hj'
  exact h.ld j j' s0 s1 e1 e3 (by rw[e2,e4,e])
 ·rcases hm with hm|hm|hm|hm|⟨s0,hm,e⟩
  ·exact .inl hm
  ·exact .inr (.inl hm)
  ·exact .inr (.inr (.inl hm))
  ·exact .inr (.inr (.inr (.inl hm)))
  ·obtain⟨j,hj⟩:=List.getElem?_of_mem hm
   obtain⟨s1,e1,e2⟩:=pD hs hl j s0 hj
   exact .inr (.inr (.inr (.inr ⟨s1,List.mem_of_getElem? e1,e2.trans e⟩)))
theorem SG.st (h:SG c d w) (hm:d.M[k]? =some K):∃s,d.T[k]? =some s/\Ac d.M k s K:=by
 have hk:k<d.T.length:=by have:=(List.getElem?_eq_some_iff.1 hm).1;have:=h.lens.2;omega
 exact⟨_,List.getElem?_eq_getElem hk,h.si.st k _ K (List.getElem?_eq_getElem hk) hm⟩
theorem eQ (hk:SK c) (h:SG c d w) (hm:d.M[k]? =some K) (t:Ti) (K':List Ti) (hf:iN K=t::K') (next:Int) (hx:NX d.M d.T.length next K') (kind x:Int) (fresh:Bool) (hc:(kind,x,fresh)=t.code):
  Calls Tryz.prog 191 #[.pointer (some ⟨c.S,0,none⟩),.int .i64 (k:Int),.agg #[.int .i64 kind,.int .i64 x,.int .i64 next,.bool fresh]] w (zj c d w (t::K')):=by
 have hU:(t::K')∈c.U:=by rw[<-hf];exact (hk.cl K (h.si.inU K (List.mem_of_getElem? hm))).fst
 have hxw:Ex [] w (w.alloc (Obj.cells #[.int .i64 kind,.int .i64 x,.int .i64 next,.bool fresh] 224)):=(Ex.refl _ _).alloc _
 have hbx:BK (w.alloc (Obj.cells #[.int .i64 kind,.int .i64 x,.int .i64 next,.bool fresh] 224)) w.heap.size (.cells #[.int .i64 kind,.int .i64 x,.int .i64 next,.bool fresh] 224 (0,0)):=BK.new _ _
 obtain⟨w1,hw1⟩:=exq (w.alloc (Obj.cells #[.int .i64 kind,.int .i64 x,.int .i64 next,.bool fresh] 224))
 rw[<-hw1]at hxw hbx
 obtain⟨h1,f1⟩:=h.ex hk hxw
 obtain⟨b,hb⟩:=exq (w.heap.size)
 rw[<-hb]at hbx
 obtain⟨s,hs,hso⟩:=h1.st hm
 obtain⟨g,cap,hsv,hkl,hgl,hcell,hfz⟩:=h1.at hs
 obtain⟨S,hS⟩:=exq (c.S)
 obtain⟨m,hmm⟩:=exq (d.T.length)
 have s2:w1.cell? ⟨S,2,none⟩=some (.slice (some ⟨g,0,none⟩) m cap):=by rw[hS,hmm,<-hsv];exact h1.blk.all.1 2
 have hSl:S<w1.heap.size:=by rw[hS];exact h1.blk.lt
 have hkm:(k:Int)<(m:Int):=by omega
 have a4:w1.cell? ⟨g,k*8+4,none⟩=some (.int .i64 s.first):=hcell 4 (by omega)
 have K1:=aa (jt hk h1 t K' hU next hx kind x fresh hc)
 rw[<-hS]at K1 ⊢
 have HCI:=aa hso.fst
 have HFI:=aa hf
 have HM:=aa hm
 have HK:=aa hk
 have H1:=aa h1
 have F1:=aa f1
 have HB:=aa hbx
 have HS:=aa hS
 have HW1:=aa hw1
 have HBE:=aa hb
 clear hx hc hU hk h h1 f1 hS hw1 hb hxw hso hs hsv hkl hcell hfz hm hf hmm
 go_enter Tryz.func191,Tryz.ntmps191
 go_upto_region 1 with fail
 rw[<-HW1.O,<-HBE.O]
 obtain⟨v,hv⟩:=exq (s.first)
 rw[<-hv]at a4 HCI
 clear hv
 rcases HCI.O with e0|⟨j,e0,hj⟩
 rotate_left
 ·subst e0
  have hj0:¬(j:Int)<0:=by omega
  have HJ:=aa hj
  clear hj HCI hbx
  go_wp2_with fail
  go_ret
  exact⟨j,d,rfl,H1.O,F1.O,by rw[<-HFI.O];exact HJ.O,rfl,rfl⟩
 ·subst e0
  have b0:w1.cell? ⟨b,0,none⟩=some (.int .i64 kind):=hbx.all.1 0
  have b1:w1.cell? ⟨b,1,none⟩=some (.int .i64 x):=hbx.all.1 1
  have b2:w1.cell? ⟨b,2,none⟩=some (.int .i64 next):=hbx.all.1 2
  have b3:w1.cell? ⟨b,3,none⟩=some (.bool fresh):=hbx.all.1 3
  have hbl:=hbx.lt
  clear hbx HCI
  go_wp2_with fail
  refine K1.O.mono ?_
  rintro e w2 ⟨i,d2,rfl,h2,f2,hi,hsp,hop⟩
  have hm2:=f2.mor k K HM.O
  obtain⟨s,hs,hso⟩:=h2.st hm2
  obtain⟨g2,cap2,hsv2,hkl2,hgl2,hcell2,hfz2⟩:=h2.at hs
  have HMI:=aa hi
  have hp:=h2.upd HK.O hs hm2 (s':=⟨s.kind,s.x,s.next,s.fresh,(i:Int),s.second,s.later,s.lb⟩) hsv2 4 (by decide) (.int .i64 (i:Int)) rfl rfl rfl (.inr ⟨i,rfl,by rw[HFI.O];exact HMI.O⟩) hso.snd hso.ltr
  obtain⟨m2,hmm2⟩:=exq (d2.T.length)
  have t2:w2.cell? ⟨S,2,none⟩=some (.slice (some ⟨g2,0,none⟩) m2 cap2):=by rw[HS.O,hmm2,<-hsv2];exact h2.blk.all.1 2
  have hSl2:S<w2.heap.size:=by rw[HS.O];exact h2.blk.lt
  have hkm2:(k:Int)<(m2:Int):=by omega
  have fz2:=hfz2 (k*8+4)
  have v4:w2.cell? ⟨g2,k*8+4,none⟩=some (.int .i64 s.first):=hcell2 4 (by omega)
  have HP:=aa hp
  have HSV2:=aa hsv2
  have HMM2:=aa hmm2
  have HSO:=aa (And.intro hso hs)
  have HSP:=aa (And.intro hsp hop)
  have F2:=aa f2
  clear hp hso hs hsv2 hmm2 hcell2 hfz2 hm2 f2 h2 hsp hop hi s2 a4 b0 b1 b2 b3 hbl
  go_upto_region 4 with fail
  obtain⟨w3,hw3⟩:=exq (w2.setCell ⟨g2,k*8+4,none⟩ (.int .i64 (i:Int)))
  rw[<-hw3]
  have hp:=HP.O
  rw[<-hw3]at hp
  obtain⟨h3,f3⟩:=hp
  have u2:w3.cell? ⟨S,2,none⟩=some (.slice (some ⟨g2,0,none⟩) m2 cap2):=by rw[HS.O,HMM2.O,<-HSV2.O];exact h3.blk.all.1 2
  have hSl3:S<w3.heap.size:=by rw[HS.O];exact h3.blk.lt
  have hgl3:g2<w3.heap.size:=Nat.lt_of_lt_of_le hgl2 f3.size
  have u4:w3.cell? ⟨g2,k*8+4,none⟩=some (.int .i64 (i:Int)):=by rw[hw3];exact World.cell?_setCell_same' _ _ _ (by rw[v4];rfl)
  have H3:=aa h3
  have F3:=aa f3
  clear h3 f3 hw3 HP t2 v4 fz2
  go_wp2_with fail
  go_ret
  exact⟨i,_,rfl,H3.O,(F1.O.trans F2.O).trans F3.O,HMI.O,HSP.O.1,HSP.O.2⟩
theorem fw (hk:SK c) (h:SG c d w) (hm:d.M[k]? =some K) (t:Ti) (K':List Ti) (hf:il K=t::K') (next:Int) (hx:NX d.M d.T.length next K') (kind x:Int) (fresh:Bool) (hc:(kind,x,fresh)=t.code):
  Calls Tryz.prog 192 #[.pointer (some ⟨c.S,0,none⟩),.int .i64 (k:Int),.agg #[.int .i64 kind,.int .i64 x,.int .i64 next,.bool fresh]] w (zj c d w (t::K')):=by
 have hU:(t::K')∈c.U:=by rw[<-hf];exact (hk.cl K (h.si.inU K (List.mem_of_getElem? hm))).snd
 have hxw:Ex [] w (w.alloc (Obj.cells #[.int .i64 kind,.int .i64 x,.int .i64 next,.bool fresh] 224)):=(Ex.refl _ _).alloc _
 have hbx:BK (w.alloc (Obj.cells #[.int .i64 kind,.int .i64 x,.int .i64 next,.bool fresh] 224)) w.heap.size (.cells #[.int .i64 kind,.int .i64 x,.int .i64 next,.bool fresh] 224 (0,0)):=BK.new _ _
 obtain⟨w1,hw1⟩:=exq (w.alloc (Obj.cells #[.int .i64 kind,.int .i64 x,.int .i64 next,.bool fresh] 224))
 rw[<-hw1]at hxw hbx
 obtain⟨h1,f1⟩:=h.ex hk hxw
 obtain⟨b,hb⟩:=exq (w.heap.size)
 rw[<-hb]at hbx
 obtain⟨s,hs,hso⟩:=h1.st hm
 obtain⟨g,cap,hsv,hkl,hgl,hcell,hfz⟩:=h1.at hs
 obtain⟨S,hS⟩:=exq (c.S)
 obtain⟨m,hmm⟩:=exq (d.T.length)
 have s2:w1.cell? ⟨S,2,none⟩=some (.slice (some ⟨g,0,none⟩) m cap):=by rw[hS,hmm,<-hsv];exact h1.blk.all.1 2
 have hSl:S<w1.heap.size:=by rw[hS];exact h1.blk.lt
 have hkm:(k:Int)<(m:Int):=by omega
 have a4:w1.cell? ⟨g,k*8+5,none⟩=some (.int .i64 s.second):=hcell 5 (by omega)
 have K1:=aa (jt hk h1 t K' hU next hx kind x fresh hc)
 rw[<-hS]at K1 ⊢
 have HCI:=aa hso.snd
 have HFI:=aa hf
 have HM:=aa hm
 have HK:=aa hk
 have H1:=aa h1
 have F1:=aa f1
 have HB:=aa hbx
 have HS:=aa hS
 have HW1:=aa hw1
 have HBE:=aa hb
 clear hx hc hU hk h h1 f1 hS hw1 hb hxw hso hs hsv hkl hcell hfz hm hf hmm
 go_enter Tryz.func192,Tryz.ntmps192
 go_upto_region 1 with fail
 rw[<-HW1.O,<-HBE.O]
 obtain⟨v,hv⟩:=exq (s.second)
 rw[<-hv]at a4 HCI
 clear hv
 rcases HCI.O with e0|⟨j,e0,hj⟩
 rotate_left
 ·subst e0
  have hj0:¬(j:Int)<0:=by omega
  have HJ:=aa hj
  clear hj HCI hbx
  go_wp2_with fail
  go_ret
  exact⟨j,d,rfl,H1.O,F1.O,by rw[<-HFI.O];exact HJ.O,rfl,rfl⟩
 ·subst e0
  have b0:w1.cell? ⟨b,0,none⟩=some (.int .i64 kind):=hbx.all.1 0
  have b1:w1.cell? ⟨b,1,none⟩=some (.int .i64 x):=hbx.all.1 1
  have b2:w1.cell? ⟨b,2,none⟩=some (.int .i64 next):=hbx.all.1 2
  have b3:w1.cell? ⟨b,3,none⟩=some (.bool fresh):=hbx.all.1 3
  have hbl:=hbx.lt
  clear hbx HCI
  go_wp2_with fail
  refine K1.O.mono ?_
  rintro e w2 ⟨i,d2,rfl,h2,f2,hi,hsp,hop⟩
  have hm2:=f2.mor k K HM.O
  obtain⟨s,hs,hso⟩:=h2.st hm2
  obtain⟨g2,cap2,hsv2,hkl2,hgl2,hcell2,hfz2⟩:=h2.at hs
  have HMI:=aa hi
  have hp:=h2.upd HK.O hs hm2 (s':=⟨s.kind,s.x,s.next,s.fresh,s.first,(i:Int),s.later,s.lb⟩) hsv2 5 (by decide) (.int .i64 (i:Int)) rfl rfl rfl hso.fst (.inr ⟨i,rfl,by rw[HFI.O];exact HMI.O⟩) hso.ltr
  obtain⟨m2,hmm2⟩:=exq (d2.T.length)
  have t2:w2.cell? ⟨S,2,none⟩=some (.slice (some ⟨g2,0,none⟩) m2 cap2):=by rw[HS.O,hmm2,<-hsv2];exact h2.blk.all.1 2
  have hSl2:S<w2.heap.size:=by rw[HS.O];exact h2.blk.lt
  have hkm2:(k:Int)<(m2:Int):=by omega
  have fz2:=hfz2 (k*8+5)
  have v4:w2.cell? ⟨g2,k*8+5,none⟩=some (.int .i64 s.second):=hcell2 5 (by omega)
  have HP:=aa hp
  have HSV2:=aa hsv2
  have HMM2:=aa hmm2
  have HSO:=aa (And.intro hso hs)
  have HSP:=aa (And.intro hsp hop)
  have F2:=aa f2
  clear hp hso hs hsv2 hmm2 hcell2 hfz2 hm2 f2 h2 hsp hop hi s2 a4 b0 b1 b2 b3 hbl
  go_upto_region 4 with fail
  obtain⟨w3,hw3⟩:=exq (w2.setCell ⟨g2,k*8+5,none⟩ (.int .i64 (i:Int)))
  rw[<-hw3]
  have hp:=HP.O
  rw[<-hw3]at hp
  obtain⟨h3,f3⟩:=hp
  have u2:w3.cell? ⟨S,2,none⟩=some (.slice (some ⟨g2,0,none⟩) m2 cap2):=by rw[HS.O,HMM2.O,<-HSV2.O];exact h3.blk.all.1 2
  have hSl3:S<w3.heap.size:=by rw[HS.O];exact h3.blk.lt
  have hgl3:g2<w3.heap.size:=Nat.lt_of_lt_of_le hgl2 f3.size
  have u4:w3.cell? ⟨g2,k*8+5,none⟩=some (.int .i64 (i:Int)):=by rw[hw3];exact World.cell?_setCell_same' _ _ _ (by rw[v4];rfl)
  have H3:=aa h3
  have F3:=aa f3
  clear h3 f3 hw3 HP t2 v4 fz2
  go_wp2_with fail
  go_ret
  exact⟨i,_,rfl,H3.O,(F1.O.trans F2.O).trans F3.O,HMI.O,HSP.O.1,HSP.O.2⟩
end Go.Proofs.YtfnanjbleifjkaaGreatDoor.G
