import Derived.Test.YtfnanjbleifjkaaGreatDoorM12
set_option linter.unusedVariables false
set_option linter.unusedSimpArgs false
set_option maxHeartbeats 2000000
set_option maxRecDepth 100000
namespace Go.Proofs.YtfnanjbleifjkaaGreatDoor.G
variable {b base hs n:Nat} {w w':World} {v:Value}
open Go.RowKit
def Pb (base b g:Nat):Prop:=g<base/\g≠b
theorem PR.bf {q:Pt} {v:PV} (h:PR w (Pb base b) q v) (hx:BF base b w w'):PR w' (Pb base b) q v:=
 h.frame (fun _ h=>h) hx.size (fun k hk hlt=>hx.block k hlt hk.2 (.inl hk.1)) q v
theorem Row.bf {v:PV} {l:List Pt} (h:Row w (Pb base b) v l) (hx:BF base b w w'):Row w' (Pb base b) v l:=by
 refine⟨h.1,h.2.imp id ?_⟩
 rintro⟨g,hp,hc,hg,hl,hr⟩
 exact⟨g,hp,hc,hg,Nat.lt_of_lt_of_le hl hx.size,PRL.frame (fun _ h=>h) hx.size (fun k hk hlt=>hx.block k hlt hk.2 (.inl hk.1)) g hg hl l 0 hr⟩
def ir (q:Pt):Prop:=∀(v:PV) (w:World) (b base:Nat) (l:List Ins),BG w b base l ->PR w (Pb base b) q v ->WOK q ->l.length+isz q<=99000 ->
 Calls Tryz.prog 88 #[.pointer (some ⟨b,0,none⟩),v.val] w fun e w'=>e= .returned (.tuple #[])/\BG w' b base (bl q l)/\BF base b w w'
theorem pZ (c:Cls):ir (.single c):=by
 intro v w b base l hd hp hw hn
 have h:v=_:=hp
 subst h
 have HD:=aa hd
 have HPUT:=aa (fun w (hd:BG w b base l)=>jz ⟨0,c.lo,c.hi,c.hg,0,0,0⟩ hd (by simp only[isz]at hn;omega))
 obtain⟨lo,hi,hg⟩:=c
 clear hd hp hw
 unfold PV.val
 dsimp only
 go_enter Tryz.func88,Tryz.ntmps88
 go_wp2_with fail
 refine (HPUT.O _ (HD.O.alloc _)).mono ?_
 rintro e w1 ⟨rfl,hd1,hx1⟩
 have HD1:=aa hd1
 have HX1:=aa hx1
 clear hd1 hx1
 go_wp2_with fail
 go_end0
 exact⟨rfl,HD1.O,((BF.refl _ _ _).alloc _).trans HX1.O⟩
theorem rW (ps:List Pt) (j:Nat) (l:List Ins) (hj:j<ps.length):ee (ps.take (j+1)) l=bl ps[j] (ee (ps.take j) l):=by
 induction ps generalizing j l with
 |nil=>simp at hj
 |cons p ps ih=>
  cases j with
  |zero=>simp[ee]
  |succ j=>
   simp only[List.take_succ_cons,ee,List.getElem_cons_succ]
   exact ih j (bl p l) (by simpa using hj)
theorem jT (ps:List Pt) (j:Nat) (hj:j<ps.length):cx (ps.take j)+isz ps[j]<=cx ps:=by
 induction ps generalizing j with
 |nil=>simp at hj
 |cons p ps ih=>
  cases j with
  |zero=>simp[cx]
  |succ j=>
   have:=ih j (by simpa using hj)
   simp only[List.take_succ_cons,cx,List.getElem_cons_succ]
   omega
theorem vF (ps:List Pt) (ih:∀p,p∈ps ->ir p):ir (.seq ps):=by
 intro v w b base l hd hp hw hn
 obtain⟨hrow,hkd⟩:=hp.row
 obtain⟨p,n,c,rfl,hnl,hr⟩:=hp
 subst hnl
 have HD:=aa hd
 have HR:=aa (show Row w (Pb base b) _ ps from hrow)
 have HIH:=aa ih
 have HW:=aa hw.1
 have hlen:=hw.2.2
 have HN:=aa (show l.length+cx ps<=99000 by simpa only[isz]using hn)
 clear hd hrow hkd ih hw hr hn
 unfold PV.val
 dsimp only
 go_enter Tryz.func88,Tryz.ntmps88
 go_wp2_with fail
 go_loopg [20] ps.length (fun gk i wr=>∃j:Nat,j+gk=ps.length/\i= .int .i64 j/\BG wr b base (ee (ps.take j) l)/\BF base b w wr)
 case atStart=>exact⟨0,by omega,rfl,by simpa[ee]using HD.O.alloc _,(BF.refl _ _ _).alloc _⟩
 case round=>
  obtain⟨j,hj,rfl,hd,hx⟩:=hrel
  have HX:=aa hx
  have HDr:=aa hd
  cases gk with
  |zero=>
   obtain rfl:j=ps.length:=by omega
   clear hx hj hd
   go_wp2_with fail
   go_end0
   refine⟨rfl,?_,HX.O⟩
   have h1:=HDr.O
   rw[List.take_length]at h1
   rw[bl]
   exact h1
  |succ g=>
   have hj':((j:Int)<(ps.length:Int)):=by omega
   obtain⟨g1,u,hv,hnc,hB,hlt,hrange,hq⟩:=(HR.O.bf hx).at j (show j<ps.length by omega)
   simp only at hv
   subst hv
   have HQ:=aa hq
   clear hx hd hq hB
   obtain⟨kd',p',n',c',lo',hi',hg',gr',l',m',z'⟩:=u
   have k0:=hrange 0 _ rfl;have k1:=hrange 1 _ rfl;have k2:=hrange 2 _ rfl;have k3:=hrange 3 _ rfl;have k4:=hrange 4 _ rfl
   have k5:=hrange 5 _ rfl;have k6:=hrange 6 _ rfl;have k7:=hrange 7 _ rfl;have k8:=hrange 8 _ rfl
   simp only[Nat.add_zero]at k0
   clear hrange
   simp only at hnc
   go_wp2_with fail
   refine (HIH.O ps[j] (List.getElem_mem _) ⟨kd',p',n',c',lo',hi',hg',gr',l',m',z'⟩ _ b base _ (HDr.O.alloc _) (HQ.O.bf ((BF.refl _ _ _).alloc _)) (jc HW.O _ (List.getElem_mem _)) (by
    have h1:=jT ps j (by omega)
    have h2:=HN.O
    rw[jK]
    omega)).mono ?_
   rintro e w1 ⟨rfl,hd1,hx1⟩
   have HX1:=aa hx1
   have HD1:=aa hd1
   clear hx1 hd1 k0 k1 k2 k3 k4 k5 k6 k7 k8
   go_wp2_with fail
   go_roundg g
   case measure=>omega
   case rel=>exact⟨j+1,by omega,by simp,by rw[rW ps j l (by omega)];exact HD1.O,(HX.O.alloc _).trans HX1.O⟩
theorem rR (q:Pt) (k g:Nat) (u:PV) (w:World) (b base:Nat) (l:List Ins) (ih:ir q) (hk:k<1000000) (hd:BG w b base l) (hB:Pb base b g) (hgl:g<w.heap.size) (hr:w.rangeAt g 0 u.cells) (hq:PR w (Pb base b) q u) (hw:WOK q) (hn:l.length+isz (.wrap q k)<=99000):
  Calls Tryz.prog 139 #[.pointer (some ⟨b,0,none⟩),PV.val ⟨3,some ⟨g,0,none⟩,1,1,0,0,false,(k:Int),0,0,false⟩] w fun e w'=>e= .returned (.tuple #[])/\BG w' b base (bl (.wrap q k) l)/\BF base b w w':=by
 have HD:=aa hd
 have HR:=aa hr
 have HQ:=aa hq
 have HIH:=aa ih
 have HW:=aa hw
 have HN:=aa hn
 have hcl:∀w':World,BF base b w w' ->w'.rangeAt g 0 u.cells:=fun w' hx=>bu hr (hx.block g hgl hB.2 (.inl hB.1))
 have HCL:=aa hcl
 clear hd hr hq ih hw hn hcl
 obtain⟨kd',p',n',c',lo',hi',hg',gr',l',m',z'⟩:=u
 unfold PV.val
 dsimp only
 by_cases h0:k=0
 ·subst h0
  have hr0:=HCL.O (w.alloc (Obj.cells #[.int .i64 3,.slice (some ⟨g,0,none⟩) 1 1,.int .u64 0,.int .u64 0,.bool false,.int .i64 0,.int .i64 0,.int .i64 0,.bool false] 101)) ((BF.refl _ _ _).alloc _)
  have k0:=hr0 0 _ rfl;have k1:=hr0 1 _ rfl;have k2:=hr0 2 _ rfl;have k3:=hr0 3 _ rfl;have k4:=hr0 4 _ rfl
  have k5:=hr0 5 _ rfl;have k6:=hr0 6 _ rfl;have k7:=hr0 7 _ rfl;have k8:=hr0 8 _ rfl
  simp only[Nat.zero_add]at k0 k1 k2 k3 k4 k5 k6 k7 k8
  clear hr0
  go_enter Tryz.func139,Tryz.ntmps139
  go_wp2_with fail
  refine (HIH.O ⟨kd',p',n',c',lo',hi',hg',gr',l',m',z'⟩ _ b base l (HD.O.alloc _) (HQ.O.bf ((BF.refl _ _ _).alloc _)) HW.O (by have h:=HN.O;simp only[isz,if_pos]at h;exact h)).mono ?_
  rintro e w1 ⟨rfl,hd1,hx1⟩
  have HX1:=aa hx1
  have HD1:=aa hd1
  clear hx1 hd1 k0 k1 k2 k3 k4 k5 k6 k7 k8
  go_wp2_with fail
  try simp only[Exit.inBlock,Exit.then]
  refine bodyPost_ret (results_none rfl _ _ _) rfl ?_
  exact⟨rfl,by rw[bl,if_pos rfl];exact HD1.O,((BF.refl _ _ _).alloc _).trans HX1.O⟩
 ·have hk0:¬((k:Int)=0):=by omega
  have hN:l.length+isz q+2<=99000:=by have h:=HN.O;simp only[isz,if_neg h0]at h;omega
  obtain⟨s,hs⟩:=exq (2*(k-1))
  have HS:=aa hs
  have HPUT:=aa (fun w (hd:BG w b base l)=>jz (iE s) hd (by omega))
  have E1:=aa (show (2*((k:Int)-1))=(s:Int) by omega)
  have E2:=aa (show ((s:Int)+1)=((s+1:Nat):Int) by omega)
  have hs1:s<2000000:=by omega
  clear hs
  go_enter Tryz.func139,Tryz.ntmps139
  go_wp2_with fail
  rw[E1.O]
  refine (HPUT.O _ (HD.O.alloc _)).mono ?_
  rintro e w1 ⟨rfl,hd1,hx1⟩
  have hA:BK w1 w.heap.size (.cells #[.int .i64 3,.slice (some ⟨g,0,none⟩) 1 1,.int .u64 0,.int .u64 0,.bool false,.int .i64 k,.int .i64 0,.int .i64 0,.bool false] 101):=BK.bf (BK.new _ _) hx1 (by have:=HD.O.lt;have:=HD.O.le;omega) (by decide)
  obtain⟨hcA,hfA⟩:=hA.all
  have HX1:=aa (((BF.refl base b w).alloc _).trans hx1)
  have HD1:=aa hd1
  have hr1:=HCL.O w1 HX1.O
  have k0:=hr1 0 _ rfl;have k1:=hr1 1 _ rfl;have k2:=hr1 2 _ rfl;have k3:=hr1 3 _ rfl;have k4:=hr1 4 _ rfl
  have k5:=hr1 5 _ rfl;have k6:=hr1 6 _ rfl;have k7:=hr1 7 _ rfl;have k8:=hr1 8 _ rfl
  simp only[Nat.zero_add]at k0 k1 k2 k3 k4 k5 k6 k7 k8
  clear hr1 hx1 hd1 hA
  go_wp2_with fail
  refine (HIH.O ⟨kd',p',n',c',lo',hi',hg',gr',l',m',z'⟩ _ b base _ HD1.O (HQ.O.bf HX1.O) HW.O (by simp;omega)).mono ?_
  rintro e w2 ⟨rfl,hd2,hx2⟩
  have HX2:=aa hx2
  have HD2:=aa hd2
  have HPUT2:=aa (jz (iE (s+1)) hd2 (by rw[aN];simp;omega))
  clear hx2 hd2 k0 k1 k2 k3 k4 k5 k6 k7 k8 hcA hfA
  go_wp2_with fail
  rw[E2.O]
  refine (show Calls _ _ _ _ _ from HPUT2.O).mono ?_
  rintro e w3 ⟨rfl,hd3,hx3⟩
  have HX3:=aa hx3
  have HD3:=aa hd3
  clear hx3 hd3
  go_wp2_with fail
  go_end0
  exact⟨rfl,by rw[bl,if_neg h0,<-HS.O];exact HD3.O,(HX1.O.trans HX2.O).trans HX3.O⟩
theorem uD (q:Pt) (k:Nat) (ih:ir q):ir (.wrap q k):=by
 intro v w b base l hd hp hw hn
 obtain⟨g,rfl,hB,hgl,u,hr,hq⟩:=hp
 have KEY:=aa (rR q k g u _ b base l ih hw.2.2 (hd.alloc (Obj.cells #[.int .i64 3,.slice (some ⟨g,0,none⟩) 1 1,.int .u64 0,.int .u64 0,.bool false,.int .i64 k,.int .i64 0,.int .i64 0,.bool false] 101)) hB (by simp;omega) (bu hr (((Ex.refl [] w).alloc _).block g hgl (by simp))) (hq.bf ((BF.refl _ _ _).alloc _)) hw.1 hn)
 clear hd hr hq hw hn ih
 unfold PV.val at KEY ⊢
 dsimp only at KEY ⊢
 go_enter Tryz.func88,Tryz.ntmps88
 go_wp2_with fail
 refine KEY.O.mono ?_
 rintro e w1 ⟨rfl,hd1,hx1⟩
 have HX1:=aa hx1
 have HD1:=aa hd1
 clear hx1 hd1
 go_wp2_with fail
 go_end0
 exact⟨rfl,HD1.O,((BF.refl _ _ _).alloc _).trans HX1.O⟩
theorem ot {α:Type} (f:α ->α):∀(n:Nat) (x:α),gp f (n+1) x=f (gp f n x)
 |0,x=>rfl
 |n+1,x=>by rw[gp,ot f n (f x)];rfl
theorem p7 (q:Pt) (z:Bool) (u:PV) (w:World) (b base:Nat) (l:List Ins) (ih:ir q) (hd:BG w b base l) (hq:PR w (Pb base b) q u) (hw:WOK q) (hn:l.length+isz q+4<=99000):
  Calls Tryz.prog 181 #[.pointer (some ⟨b,0,none⟩),u.val,.bool z] w fun e w'=>e= .returned (.tuple #[])/\BG w' b base (ri (bl q) z l)/\BF base b w w':=by
 have HD:=aa hd
 have HQ:=aa hq
 have HIH:=aa ih
 have HW:=aa hw
 have hbw:b<w.heap.size:=Nat.lt_of_lt_of_le hd.lt hd.le
 have HFK:=aa (fun w (hd:BG w b base l)=>lL z hd (by omega))
 clear hd hq ih hw
 obtain⟨kd',p',n',c',lo',hi',hg',gr',l',m',z'⟩:=u
 unfold PV.val
 dsimp only
 go_enter Tryz.func181,Tryz.ntmps181
 go_wp2_with fail
 refine (HFK.O _ (HD.O.alloc _)).mono ?_
 rintro e w1 ⟨rfl,hd1,hx1⟩
 have hA1:BK w1 w.heap.size (.cells #[.int .i64 kd',.slice p' n' c',.int .u64 lo',.int .u64 hi',.bool hg',.int .i64 gr',.int .i64 l',.int .i64 m',.bool z'] 101):=BK.bf (BK.new _ _) hx1 (by omega) (by decide)
 have HA1:=aa hA1
 have HX1:=aa (((BF.refl base b w).alloc _).trans hx1)
 have HP2:=aa (gP 4 hd1 (by rw[bo];omega))
 clear hd1 hx1 hA1
 go_wp2_with fail
 refine HP2.O.mono ?_
 rintro e w2 ⟨rfl,hd2,hx2⟩
 have hA2:=BK.bf HA1.O hx2 (by omega) (by decide)
 have HA2:=aa hA2
 have HX2:=aa (HX1.O.trans hx2)
 have HP3:=aa (HIH.O ⟨kd',p',n',c',lo',hi',hg',gr',l',m',z'⟩ w2 b base _ hd2 (HQ.O.bf HX2.O) HW.O (by simp[bo];omega))
 obtain⟨hcA,hfA⟩:=hA2.all
 clear hd2 hx2 hA2
 go_wp2_with fail
 refine (show Calls _ _ _ _ _ from HP3.O).mono ?_
 rintro e w3 ⟨rfl,hd3,hx3⟩
 have HX3:=aa (HX2.O.trans hx3)
 have HP4:=aa (gP 5 hd3 (by rw[aN];simp[bo];omega))
 clear hd3 hx3 hcA hfA
 go_wp2_with fail
 refine HP4.O.mono ?_
 rintro e w4 ⟨rfl,hd4,hx4⟩
 have HX4:=aa (HX3.O.trans hx4)
 have HP5:=aa (jz (eT l.length) hd4 (by simp[aN,bo];omega))
 clear hd4 hx4
 go_wp2_with fail
 refine (show Calls _ _ _ _ _ from HP5.O).mono ?_
 rintro e w5 ⟨rfl,hd5,hx5⟩
 have HX5:=aa (HX4.O.trans hx5)
 have HP6:=aa (jY z (k:=l.length) hd5 (by simp[aN,bo];omega) (by simp[aN,bo];omega))
 clear hd5 hx5
 go_wp2_with fail
 refine (show Calls _ _ _ _ _ from HP6.O).mono ?_
 rintro e w6 ⟨rfl,hd6,hx6⟩
 have HX6:=aa (HX5.O.trans hx6)
 have HD6:=aa hd6
 clear hd6 hx6
 go_wp2_with fail
 go_end0
 exact⟨rfl,HD6.O,HX6.O⟩
def kO (ks:List Nat):List Value:=ks.map fun (k:Nat)=>Value.int .i64 (k:Int)
theorem cE {xs:List Value} (h:w.ownsRow hs 3 1 v n xs) (hx:BF base b w w') (hb:b<hs):w'.ownsRow hs 3 1 v n xs:=by
 refine⟨h.1,?_⟩
 rcases h.2 with hn|⟨g,cap,cur,rfl,hg,hgg,rest⟩
 ·exact .inl hn
 ·exact .inr ⟨g,cap,cur,rfl,hg,BK.bf (e:=3) hgg hx (by omega) (by decide),rest⟩
theorem BG.grownNum {l:List Ins} {xs:List Value} (hd:BG w b base l) (h:w.ownsRow hs 3 1 v n xs) (hg:w.grownBy w' v.ownBlock) (hb:b<hs):BG w' b base l:=by
 obtain⟨u,hbk,ho⟩:=hd.ex
 have hint:∀k,v.ownBlock=some k ->hs<=k/\∃cur,w.heap[k]? =some (.cells cur 3 (0,0)):=by
  intro k hk
  rcases h.2 with⟨rfl,_⟩|⟨g,cap,cur,rfl,hb',hgg,_⟩
  ·simp[Value.ownBlock]at hk
  ·simp[Value.ownBlock]at hk
   subst hk
   exact⟨hb',cur,hgg⟩
 refine⟨hd.lt,Nat.le_trans hd.le hg.size,u,BK.grown hbk hg (fun e=>by have:=(hint b e).1;omega),ho.1,?_⟩
 rcases ho.2 with hn|⟨g,cap,cur,rfl,hb',hgg,rest⟩
 ·exact .inl hn
 ·refine .inr ⟨g,cap,cur,rfl,hb',BK.grown hgg hg (fun e=> ?_),rest⟩
  obtain⟨_,cur',h1⟩:=hint g e
  rw[hgg]at h1
  cases h1
theorem kT:(Tryz.prog.info? 3).map (fun i=>(i.zero,i.size,i.bytes))=some (some (.int .i64 0),1,8):=by kernel_rfl
theorem iT (f:List Ins ->List Ins) (z:Bool):∀(n:Nat) (ks:List Nat) (l:List Ins),dp f z (n+1) ks l=((dp f z n ks l).1++[(dp f z n ks l).2.length],f (dr z (dp f z n ks l).2))
 |0,ks,l=>rfl
 |n+1,ks,l=>by
  rw[dp,iT f z n]
  rfl
theorem qZ (f:List Ins ->List Ins) (z:Bool) (s:Nat) (hf:∀l,(f l).length=l.length+s):∀(n:Nat) (ks:List Nat) (l:List Ins),(∀k,k∈ks ->k<l.length) ->∀k,k∈(dp f z n ks l).1 ->k<(dp f z n ks l).2.length
 |0,ks,l,h=>h
 |n+1,ks,l,h=>by
  rw[dp]
  refine qZ f z s hf n _ _ (fun k hk=> ?_)
  rw[hf,bo]
  rcases List.mem_append.1 hk with hk|hk
  ·have:=h k hk;omega
  ·simp at hk;omega
theorem mu {j:Nat} {ks:List Nat} (h:w.ownsRow hs 3 1 v n (kO ks)) (hj:j<ks.length):∃gf c,v= .slice (some ⟨gf,0,none⟩) n c/\n<=c/\hs<=gf/\w.cell? ⟨gf,j,none⟩=some (.int .i64 (ks[j]:Int)):=by
 have hl:=h.1
 rw[kO,List.length_map,Nat.mul_one]at hl
 rcases h.2 with⟨_,hn⟩|⟨g,cap,cur,rfl,hb,hgg,hnc,hcm,hcs,htake⟩
 ·omega
 ·refine⟨g,cap,rfl,hnc,hb,?_⟩
  rw[(BK.all (e:=3) hgg).1,<-Array.getElem?_toList]
  have h1:(cur.toList.take (n*1))[j]? =some (.int .i64 (ks[j]:Int)):=by
   rw[htake,kO]
   simp[hj]
  rw[List.getElem?_take,if_pos (by omega)]at h1
  exact h1
theorem oD (ks:List Nat) (k:Nat):kO (ks++[k])=kO ks++[.int .i64 (k:Int)]:=by simp[kO]
theorem nW {α:Type} (f:α ->Nat ->α) (ks:List Nat) (j:Nat) (x:α) (hj:j<ks.length):(ks.take (j+1)).foldl f x=f ((ks.take j).foldl f x) ks[j]:=by
 rw[List.take_succ_eq_append_getElem hj,List.foldl_append]
 rfl
theorem qw (q:Pt) (le:Nat) (mo:Int) (z:Bool) (g:Nat) (u:PV) (w:World) (b base:Nat) (l:List Ins) (ih:ir q) (hle:(le:Int)<1000000000000000000) (hmo: -1<=mo/\mo<1000000000000000000) (hd:BG w b base l) (hB:Pb base b g) (hgl:g<w.heap.size) (hr:w.rangeAt g 0 u.cells) (hq:PR w (Pb base b) q u) (hw:WOK q) (hn:l.length+isz (.count q le mo z)<=99000):
  Calls Tryz.prog 140 #[.pointer (some ⟨b,0,none⟩),PV.val ⟨4,some ⟨g,0,none⟩,1,1,0,0,false,0,(le:Int),mo,z⟩] w fun e w'=>e= .returned (.tuple #[])/\BG w' b base (bl (.count q le mo z) l)/\BF base b w w':=by
 have HD:=aa hd
 have HQ:=aa hq
 have HIH:=aa ih
 have HW:=aa hw
 have HN:=aa hn
 have hbw:b<w.heap.size:=Nat.lt_of_lt_of_le hd.lt hd.le
 have hbb:=hd.lt
 have hbs:=hd.le
 have hr0:(w.alloc (Obj.cells #[.int .i64 4,.slice (some ⟨g,0,none⟩) 1 1,.int .u64 0,.int .u64 0,.bool false,.int .i64 0,.int .i64 le,.int .i64 mo,.bool z] 101)).rangeAt g 0 u.cells:=bu hr (((Ex.refl [] w).alloc _).block g hgl (by simp))
 clear hd hr hq ih hw hn
 obtain⟨kd',p',n',c',lo',hi',hg',gr',l',m',z'⟩:=u
 have k0:=hr0 0 _ rfl;have k1:=hr0 1 _ rfl;have k2:=hr0 2 _ rfl;have k3:=hr0 3 _ rfl;have k4:=hr0 4 _ rfl
 have k5:=hr0 5 _ rfl;have k6:=hr0 6 _ rfl;have k7:=hr0 7 _ rfl;have k8:=hr0 8 _ rfl
 simp only[Nat.zero_add]at k0 k1 k2 k3 k4 k5 k6 k7 k8
 clear hr0
 unfold PV.val
 dsimp only
 go_enter Tryz.func140,Tryz.ntmps140
 go_wp2_with fail
 clear k0 k1 k2 k3 k4 k5 k6 k7 k8
 obtain⟨w2,hw2⟩:=exq ((w.alloc (Obj.cells #[.int .i64 4,.slice (some ⟨g,0,none⟩) 1 1,.int .u64 0,.int .u64 0,.bool false,.int .i64 0,.int .i64 le,.int .i64 mo,.bool z] 101)).alloc (Obj.cells #[.int .i64 kd',.slice p' n' c',.int .u64 lo',.int .u64 hi',.bool hg',.int .i64 gr',.int .i64 l',.int .i64 m',.bool z'] 101))
 rw[<-hw2]
 have HX2:=aa (show BF base b w w2 by rw[hw2];exact ((BF.refl _ _ _).alloc _).alloc _)
 have HD2:=aa (show BG w2 b base l by rw[hw2];exact (HD.O.alloc _).alloc _)
 have HA:=aa (show BK w2 w.heap.size (.cells #[.int .i64 4,.slice (some ⟨g,0,none⟩) 1 1,.int .u64 0,.int .u64 0,.bool false,.int .i64 0,.int .i64 le,.int .i64 mo,.bool z] 101) by rw[hw2];exact (BK.new _ _).alloc _)
 have HI:=aa (show BK w2 (w.heap.size+1) (.cells #[.int .i64 kd',.slice p' n' c',.int .u64 lo',.int .u64 hi',.bool hg',.int .i64 gr',.int .i64 l',.int .i64 m',.bool z'] 101) by
  rw[hw2]
  have h:=BK.new (w.alloc (Obj.cells #[.int .i64 4,.slice (some ⟨g,0,none⟩) 1 1,.int .u64 0,.int .u64 0,.bool false,.int .i64 0,.int .i64 le,.int .i64 mo,.bool z] 101)) (Obj.cells #[.int .i64 kd',.slice p' n' c',.int .u64 lo',.int .u64 hi',.bool hg',.int .i64 gr',.int .i64 l',.int .i64 m',.bool z'] 101)
  simpa only[World.size_alloc]using h)
 have hs2:w2.heap.size=w.heap.size+2:=by rw[hw2];simp
 clear hw2
 have hsz:l.length+isz q*le<=99000:=by have h:=HN.O;rw[isz]at h;split at h<;>omega
 go_loopg [14] le (fun gk i wr=>∃j:Nat,j+gk=le/\i= .int .i64 j/\BG wr b base (gp (bl q) j l)/\BF base b w2 wr)
 case atStart=>exact⟨0,by omega,rfl,HD2.O,BF.refl _ _ _⟩
 case round=>
  obtain⟨j,hj,rfl,hdr,hx⟩:=hrel
  have HX:=aa hx
  have HDr:=aa hdr
  have HAr:=aa (BK.bf HA.O hx (by omega) (by decide))
  have HIr:=aa (BK.bf HI.O hx (by omega) (by decide))
  obtain⟨hcA,hfA⟩:=HAr.O.all
  obtain⟨hcI,hfI⟩:=HIr.O.all
  clear hdr hx
  cases gk with
  |succ gk=>
   have hj':((j:Int)<(le:Int)):=by omega
   have hsj:l.length+isz q*(j+1)<=99000:=by have:=Nat.mul_le_mul_left (isz q) (show j+1<=le by omega);omega
   go_wp2_with fail
   refine (HIH.O ⟨kd',p',n',c',lo',hi',hg',gr',l',m',z'⟩ _ b base _ HDr.O (HQ.O.bf (HX2.O.trans HX.O)) HW.O (by rw[gN _ _ (aN q)];rw[Nat.mul_succ]at hsj;omega)).mono ?_
   rintro e w3 ⟨rfl,hd3,hx3⟩
   have HX3:=aa (HX.O.trans hx3)
   have HD3:=aa hd3
   clear hd3 hx3 hcA hfA hcI hfI
   go_wp2_with fail
   go_roundg gk
   case measure=>omega
   case rel=>exact⟨j+1,by omega,by simp,by rw[ot];exact HD3.O,HX3.O⟩
  |zero=>
   obtain rfl:j=le:=by omega
   clear hj
   obtain⟨l1,hl1⟩:=exq (gp (bl q) j l)
   rw[<-hl1]at HDr
   have hl1n:l1.length=l.length+isz q*j:=by rw[hl1,gN _ _ (aN q)]
   have HL1N:=aa hl1n
   have HL1:=aa hl1
   clear hl1 hl1n
   by_cases hm:mo= -1
   ·subst hm
    have KEY:=aa (p7 q z ⟨kd',p',n',c',lo',hi',hg',gr',l',m',z'⟩ wr b base l1 HIH.O HDr.O (HQ.O.bf (HX2.O.trans HX.O)) HW.O (by have h:=HN.O;rw[isz,if_pos rfl]at h;rw[HL1N.O];omega))
    go_wp2_with fail
    refine (show Calls _ _ _ _ _ from KEY.O).mono ?_
    rintro e w3 ⟨rfl,hd3,hx3⟩
    have HX3:=aa (HX.O.trans hx3)
    have HD3:=aa hd3
    clear hd3 hx3 hcA hfA hcI hfI
    go_wp2_with fail
    try simp only[Exit.inBlock,Exit.then]
    refine bodyPost_ret (results_none rfl _ _ _) rfl ?_
    exact⟨rfl,by rw[bl,if_pos rfl,<-HL1.O];exact HD3.O,HX2.O.trans HX3.O⟩
   ·have hme:(mo== -1)=false:=by simpa using hm
    have HM:=aa hm
    obtain⟨M,hM⟩:=exq (more j mo)
    have HMM:=aa hM
    have hMI:(M:Int)=max 0 (mo-j):=by rw[hM];unfold more;omega
    have hszM:l1.length+(isz q+1)*M<=99000:=by have h:=HN.O;rw[isz,if_neg hm,<-hM]at h;rw[HL1N.O];omega
    obtain⟨hs,hhs⟩:=exq (w2.heap.size)
    have hbhs:b<hs:=by omega
    have hsw:hs<=wr.heap.size:=by rw[hhs];exact HX.O.size
    have HHS:=aa hhs
    have HMI:=aa hMI
    have HSZM:=aa hszM
    have hx1: -9223372036854775808<=mo-(j:Int):=by omega
    have hx2:mo-(j:Int)<=9223372036854775807:=by omega
    clear hM hhs hm hMI hszM hsz hle hmo
    go_wp2_with fail
    go_loopg [5,33] M (fun gk fv i wr'=>∃j':Nat,j'+gk=M/\i= .int .i64 j'/\wr'.ownsRow hs 3 1 fv j' (kO (dp (bl q) z j' [] l1).1)/\BG wr' b base (dp (bl q) z j' [] l1).2/\BF base b w2 wr')
    case atStart=>exact⟨0,by omega,rfl,⟨rfl,.inl ⟨rfl,rfl⟩⟩,HDr.O,HX.O⟩
    case round=>
     obtain⟨j',hj',rfl,hown,hdr,hx⟩:=hrel
     obtain⟨p5,c5,rfl⟩:=aA hown
     have HOW:=aa hown
     have HX5:=aa hx
     have HD5:=aa hdr
     have hlen:=jU (bl q) z (isz q) (aN q) j' [] l1
     have HLEN:=aa hlen
     have HA5:=aa (BK.bf HA.O hx (by omega) (by decide))
     have HI5:=aa (BK.bf HI.O hx (by omega) (by decide))
     clear hcA hfA hcI hfI
     obtain⟨hcA,hfA⟩:=HA5.O.all
     obtain⟨hcI,hfI⟩:=HI5.O.all
     have hsz5:hs<=wr.heap.size:=by rw[HHS.O];exact hx.size
     clear hown hdr hx hlen
     obtain⟨ks,hks⟩:=exq ((dp (bl q) z j' [] l1).1)
     obtain⟨l5,hl5⟩:=exq ((dp (bl q) z j' [] l1).2)
     rw[<-hks]at HOW
     rw[<-hl5]at HD5
     rw[<-hks,<-hl5]at HLEN
     have HKS:=aa hks
     have HL5:=aa hl5
     clear hks hl5
     have hl5n:l5.length=l1.length+(isz q+1)*j':=HLEN.O.1
     have hksn:ks.length=j':=by have:=HLEN.O.2;simpa using this
     have HL5N:=aa hl5n
     have HKSN:=aa hksn
     clear hl5n hksn
     cases gk with
     |succ gk=>
      have hsj:l1.length+(isz q+1)*(j'+1)<=99000:=by have:=Nat.mul_le_mul_left (isz q+1) (show j'+1<=M by omega);have:=HSZM.O;omega
      have hsj':l5.length+isz q+1<=99000:=by rw[HL5N.O];rw[Nat.mul_succ]at hsj;omega
      have hlt5:(j':Int)<mo-(j:Int):=by have:=HMI.O;omega
      have hj99:j'<=99000:=by have:=Nat.le_mul_of_pos_left j' (show 0<isz q+1 by omega);rw[Nat.mul_succ]at hsj;omega
      obtain⟨i0,hi,hz0,hz1,hz2⟩:=info_parts kT
      have KEY:=aa (lL z HD5.O (by omega))
      clear hsj
      go_wp2_with fail
      refine KEY.O.mono ?_
      rintro e w6 ⟨rfl,hd6,hx6⟩
      have HX6:=aa (HX5.O.trans hx6)
      have HD6:=aa hd6
      have ho6:=cE HOW.O hx6 hbhs
      have HO6:=aa ho6
      have hs6:hs<=w6.heap.size:=Nat.le_trans hsz5 hx6.size
      have HA6:=aa (BK.bf HA5.O hx6 (by omega) (by decide))
      have HI6:=aa (BK.bf HI5.O hx6 (by omega) (by decide))
      obtain⟨n6,hn6⟩:=exq (l5.length)
      rw[<-hn6]
      have HN6:=aa hn6
      clear hd6 hx6 ho6 hcA hfA hcI hfI hn6
      go_wp2_with (at_builtin;refine wpList_append_own _ rfl (.tmp 35) (.tmp 40) 199 rfl hs 3 i0 (.int .i64 0) 1 8 Tryz.underlying199 hi hz0 hz1 hz2 rfl (by decide) (.slice p5 j' c5) j' (kO ks) rfl (HO6.O.alloc _) ⟨w6.heap.size,0,none⟩ 1 1 [.int .i64 (n6:Int)] rfl rfl (bK _ _ _) (by simp[Value.oneCell']) (by unfold maxLen;omega) (by omega) (by simp;omega) ?_;intro v7 w7 hown7 hgrow7 hiff7;have hI7:=BK.grown (HI6.O.alloc _) hgrow7 (fun e=>by have h9:=aG HO6.O _ e;have h8:=HHS.O;omega);obtain⟨hcI,hfI⟩:=hI7.all)
      have HO7:=aa hown7
      have HI7:=aa hI7
      have HX7:=aa (BF.grown (HX6.O.alloc _) hgrow7 (fun k hk=> .inr (.inl (by have h9:=aG HO6.O k hk;have h8:=HHS.O;omega))))
      have HD7:=aa (BG.grownNum (HD6.O.alloc _) (HO6.O.alloc _) hgrow7 hbhs)
      clear hown7 hgrow7 hiff7 hI7
      refine (HIH.O ⟨kd',p',n',c',lo',hi',hg',gr',l',m',z'⟩ _ b base _ HD7.O (HQ.O.bf (HX2.O.trans HX7.O)) HW.O (by rw[bo];omega)).mono ?_
      rintro e w8 ⟨rfl,hd8,hx8⟩
      have HX8:=aa (HX7.O.trans hx8)
      have HD8:=aa hd8
      have HO8:=aa (cE HO7.O hx8 hbhs)
      clear hd8 hx8 hcI hfI
      go_wp2_with fail
      go_roundg gk
      case measure=>omega
      case rel=>
       refine⟨j'+1,by omega,by simp,?_,?_,HX8.O⟩
       ·rw[iT,<-HKS.O,<-HL5.O,<-HN6.O,oD]
        exact HO8.O
       ·rw[iT,<-HL5.O]
        exact HD8.O
     |zero=>
      obtain rfl:j'=M:=by omega
      have hge5:¬((j':Int)<mo-(j:Int)):=by have:=HMI.O;omega
      have hj99:j'<=99000:=by have:=Nat.le_mul_of_pos_left j' (show 0<isz q+1 by omega);have:=HSZM.O;omega
      clear hj'
      go_wp2_with fail
      go_loopg [48] j' (fun gk i wr'=>∃d:Nat,d+gk=j'/\i= .int .i64 d/\BG wr' b base ((ks.take d).foldl (fun l k=>df z k l) l5)/\BF base b w2 wr'/\wr'.ownsRow hs 3 1 (.slice p5 j' c5) j' (kO ks))
      case atStart=>exact⟨0,by omega,rfl,HD5.O,HX5.O,HOW.O⟩
      case round=>
       obtain⟨d,hd',rfl,hdr,hx,hown⟩:=hrel
       have HO9:=aa hown
       have HX9:=aa hx
       have HD9:=aa hdr
       have HA9:=aa (BK.bf HA.O hx (by omega) (by decide))
       clear hcA hfA
       obtain⟨hcA,hfA⟩:=HA9.O.all
       clear hdr hx
       cases gk with
       |succ gk=>
        obtain⟨gf,c9,hv,hnc9,hgf,hcf⟩:=mu (j:=d) hown (by rw[HKSN.O];omega)
        simp only[Value.slice.injEq,true_and]at hv
        obtain⟨rfl,rfl⟩:=hv
        have hd9:(d:Int)<(j':Int):=by omega
        have hlt9:ks[d]'(by rw[HKSN.O];omega)<l5.length:=by
         have:=qZ (bl q) z (isz q) (aN q) j' [] l1 (by simp)
         rw[<-HKS.O,<-HL5.O]at this
         exact this _ (List.getElem_mem _)
        obtain⟨kd,hkd⟩:=exq (ks[d]'(by rw[HKSN.O];omega))
        rw[<-hkd]at hcf hlt9
        have HKD:=aa hkd
        have KEY:=aa (jY z (k:=kd) HD9.O (by rw[dK];exact hlt9) (by rw[dK,HL5N.O];have:=HSZM.O;omega))
        clear hown hkd hlt9
        go_wp2_with fail
        refine KEY.O.mono ?_
        rintro e w10 ⟨rfl,hd10,hx10⟩
        have HX10:=aa (HX9.O.trans hx10)
        have HD10:=aa hd10
        have HO10:=aa (cE HO9.O hx10 hbhs)
        clear hd10 hx10 hcf hcA hfA
        go_wp2_with fail
        go_roundg gk
        case measure=>omega
        case rel=>
         refine⟨d+1,by omega,by simp,?_,HX10.O,HO10.O⟩
         rw[nW _ ks d l5 (by rw[HKSN.O];omega),<-HKD.O]
         exact HD10.O
       |zero=>
        obtain rfl:d=j':=by omega
        clear hd' hown
        go_wp2_with fail
        go_end0
        refine⟨rfl,?_,HX2.O.trans HX9.O⟩
        rw[bl,if_neg HM.O]
        dsimp only
        rw[<-HMM.O,<-HL1.O,<-HKS.O,<-HL5.O]
        have h:=HD9.O
        rw[List.take_of_length_le (by rw[HKSN.O];omega)]at h
        exact h
theorem rV (q:Pt) (le:Nat) (mo:Int) (z:Bool) (ih:ir q):ir (.count q le mo z):=by
 intro v w b base l hd hp hw hn
 obtain⟨g,rfl,hB,hgl,u,hr,hq⟩:=hp
 have KEY:=aa (qw q le mo z g u _ b base l ih hw.2.2.1 ⟨hw.2.2.2.1,hw.2.2.2.2.1⟩ (hd.alloc (Obj.cells #[.int .i64 4,.slice (some ⟨g,0,none⟩) 1 1,.int .u64 0,.int .u64 0,.bool false,.int .i64 0,.int .i64 le,.int .i64 mo,.bool z] 101)) hB (by simp;omega) (bu hr (((Ex.refl [] w).alloc _).block g hgl (by simp))) (hq.bf ((BF.refl _ _ _).alloc _)) hw.1 hn)
 clear hd hr hq hw hn ih
 unfold PV.val at KEY ⊢
 dsimp only at KEY ⊢
 go_enter Tryz.func88,Tryz.ntmps88
 go_wp2_with fail
 refine KEY.O.mono ?_
 rintro e w1 ⟨rfl,hd1,hx1⟩
 have HX1:=aa hx1
 have HD1:=aa hd1
 clear hx1 hd1
 go_wp2_with fail
 go_end0
 exact⟨rfl,HD1.O,((BF.refl _ _ _).alloc _).trans HX1.O⟩
end Go.Proofs.YtfnanjbleifjkaaGreatDoor.G
