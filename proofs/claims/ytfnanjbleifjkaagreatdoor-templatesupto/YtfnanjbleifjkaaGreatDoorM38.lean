import Derived.Test.YtfnanjbleifjkaaGreatDoorM25
set_option linter.unusedVariables false
set_option linter.unusedSimpArgs false
set_option maxHeartbeats 16000000
set_option maxRecDepth 100000
namespace Go.Proofs.YtfnanjbleifjkaaGreatDoor.G
variable {w:World} {base i n p r:Nat} {t:ByteArray} {s:RS} {bad:Bool} {hv:Int}
open Go.RowKit
theorem qR:(Tryz.prog.info? 9).map (fun i=>(i.zero,i.size,i.bytes))=some (some (.string ⟨#[]⟩),1,16):=by kernel_rfl
structure RM (w:World) (p r base:Nat) (t:ByteArray) (s:RS) (bad:Bool) (hv:Int) (n:Nat) (av:Value) (pn:Option Addr) (m cn:Nat) (xs:List Value) (ns:List ByteArray):Prop where
 bk:BK w p (.cells #[.string t,.int .i64 (s.k:Int),.bool bad,.pointer (some ⟨r,0,none⟩),.bool s.f,.int .i64 (s.d:Int),.int .i64 hv] 135 (0,0))
 br:BK w r (.cells #[av,.int .i64 0,.int .i64 ((s.g:Int)+1),.slice pn m cn] 133 (0,0))
 ra:w.ownsRow base 215 134 av n xs
 rn:w.ownsRow base 9 1 (.slice pn m cn) m (ns.map Value.string)
 nm:oV s.nm ns
 len:ns.length=s.g
 lm:m=ns.length
 pb:base<=p
 rb:base<=r
 bw:base<=w.heap.size
structure RFr (w W:World) (p r base:Nat) (t:ByteArray) (s:RS) (bad:Bool) (hv:Int) (n:Nat):Prop where
 ra:RA W p r base t s bad hv n
 fr:Fr w W r base
theorem RFr.drewN {W:World} (h:RFr w W p r base t s bad hv n) (k:Nat):RFr w (W.drewN k) p r base t s bad hv n:=⟨h.ra.drewN k,h.fr.trans (Fr.drewN (r:=r) _ _ _)⟩
theorem RFr.fail {W:World} (h:RFr w W p r base t s bad hv n):
  Calls Tryz.prog 223 #[.pointer (some ⟨p,0,none⟩)] W fun e w'=>e= .returned (.int .i64 0)/\RFr w w' p r base t s true hv n:=by
 refine (gK h.ra).mono ?_
 rintro e w' ⟨rfl,h1,h2,h3⟩
 exact⟨rfl,h1,h.fr.trans ⟨h2,h3⟩⟩
theorem RA.grp (h:RA w p r base t s bad hv n) (W:World) {v:Int} (hW:w.setCell ⟨r,2,none⟩ (.int .i64 v)=W) (e:v=(s.g:Int)+1):(∃av pn m cn xs ns,RM W p r base t s bad hv n av pn m cn xs ns)/\Fr w W r base:=by
 subst e
 obtain⟨av,nv,xs,ns,h1,h2,h3,h4,h5⟩:=h.rn.ex
 obtain⟨pn,cn,rfl⟩:=aA h3
 have hk:=h.rk
 unfold RK at hk
 have hpr:p≠r:=fun e=>by
  subst e
  unfold BK at h1 hk
  rw[h1]at hk
  injection hk with hk
  injection hk with _ h9 _
  exact absurd h9 (by decide)
 subst hW
 have h1':=h1.self 2 (.int .i64 ((s.g:Int)+1))
 simp only[List.setIfInBounds_toArray,List.set_cons_zero,List.set_cons_succ]at h1'
 refine⟨⟨av,pn,ns.length,cn,xs,ns,hk.set hpr _,h1',?_,?_,h4,h5,rfl,h.pb,h.rb,by simpa[World.setCell]using h.bw⟩,⟨⟨fun b bs hb=> ?_,fun y E hy=>hy.self 2 _ (by omega)⟩,(EB.refl _ _ _).setCell (.inr h.rb) _⟩⟩
 ·exact aH h2 (fun g2 hg2=>Below.heap_setCell _ _ _ _ (fun e=>aE h2 h1 (by decide) (by rw[hg2,e])))
 ·exact aH h3 (fun g2 hg2=>Below.heap_setCell _ _ _ _ (fun e=>aE h3 h1 (by decide) (by rw[hg2,e])))
 ·exact⟨hb.1.set (mA hb h1 (by decide)) _,hb.2⟩
section
variable {w:World} {p r base:Nat} {t:ByteArray} {s:RS} {bad:Bool} {hv:Int} {n:Nat} {av:Value} {pn:Option Addr} {m cn:Nat} {xs:List Value} {ns:List ByteArray}
theorem RM.mid (h:RM w p r base t s bad hv n av pn m cn xs ns) {o:Obj} {w3:World} (hg:(w.drew.alloc o).grownBy w3 (Value.slice pn m cn).ownBlock):
  w3.cell? ⟨p,3,none⟩=some (.pointer (some ⟨r,0,none⟩))/\w3.cell? ⟨r,3,none⟩=some (.slice pn m cn)/\w3.frozen? ⟨r,3,none⟩=false/\p<w3.heap.size/\r<w3.heap.size:=by
 have hbp:=BK.grown (h.bk.drew.alloc o) hg (aE h.rn h.bk (by decide))
 have hbr:=BK.grown (h.br.drew.alloc o) hg (aE h.rn h.br (by decide))
 exact⟨hbp.all.1 3,hbr.all.1 3,hbr.all.2 3,hbp.lt,hbr.lt⟩
theorem RM.fin (h:RM w p r base t s bad hv n av pn m cn xs ns) {o:Obj} {w3:World} {gb cap:Nat} {a:ByteArray} {nm':List (ByteArray×Nat)} (hg:(w.drew.alloc o).grownBy w3 (Value.slice pn m cn).ownBlock)
  (hown:w3.ownsRow base 9 1 (.slice (some ⟨gb,0,none⟩) (ns.length+1) cap) (ns.length+1) (ns.map Value.string++[.string a])) (hnm:oV nm' (ns++[a])) (W:World) (hW:w3.setCell ⟨r,3,none⟩ (.slice (some ⟨gb,0,none⟩) (ns.length+1) cap)=W):
  RA W p r base t {s with g:=s.g+1,nm:=nm'} bad hv n/\Fr w W r base:=by
 have hbp:=BK.grown (h.bk.drew.alloc o) hg (aE h.rn h.bk (by decide))
 have hbr:=BK.grown (h.br.drew.alloc o) hg (aE h.rn h.br (by decide))
 have hra:=dW ((World.ownsRow.drew h.ra).alloc o) hg (cr h.rn h.ra (by decide))
 have hpr:p≠r:=fun e=>by
  subst e
  unfold BK at hbp hbr
  rw[hbp]at hbr
  injection hbr with h9
  injection h9 with _ h9 _
  exact absurd h9 (by decide)
 have hks3:∀b bs,SB w b bs ->SB w3 b bs:=fun b bs hb=>⟨BK.grown (hb.1.drew.alloc o) hg (aE h.rn hb.1 (by decide)),hb.2⟩
 have heb3:EB base [] w w3:=(((EB.refl _ _ _).drew).alloc (by have:=h.bw;simpa using this) _).grown hg (by have:=h.bw;simp;omega) (fun k hk=> .inr (aG h.rn k hk))
 subst hW
 have hbr4:=hbr.self 3 (.slice (some ⟨gb,0,none⟩) (ns.length+1) cap)
 simp only[List.setIfInBounds_toArray,List.set_cons_zero,List.set_cons_succ]at hbr4
 have heb4:=heb3.setCell (p:=⟨r,3,none⟩) (.inr h.rb) (.slice (some ⟨gb,0,none⟩) (ns.length+1) cap)
 refine⟨⟨hbp.set hpr _,⟨av,_,xs,ns++[a],hbr4,aH hra (fun g2 hg2=>Below.heap_setCell _ _ _ _ (fun e=>aE hra hbr (by decide) (by rw[hg2,e]))),?_,hnm,by rw[List.length_append,h.len];rfl⟩,h.pb,h.rb,Nat.le_trans h.bw heb4.size⟩,⟨⟨fun b bs hb=>⟨(hks3 b bs hb).1.set (mA (hks3 b bs hb) hbr (by decide)) _,hb.2⟩,fun y E hy=>((hy.ex (((Ex.refl [] w).drew).alloc o)).typed (fun g cs ty fz hgg hty=>hg.block g (BK.lt (show BK (w.drew.alloc o) g _ from hgg)) (fun e=>aE ((World.ownsRow.drew h.rn).alloc o) (show BK (w.drew.alloc o) g _ from hgg) (by rcases hty with rfl|rfl<;>decide) e.symm))).self 3 _ (by omega)⟩,heb4⟩⟩
 rw[List.length_append,List.map_append]
 exact aH hown (fun g2 hg2=>Below.heap_setCell _ _ _ _ (fun e=>aE hown hbr (by decide) (by rw[hg2,e])))
end
theorem yD {nm:List (ByteArray×Nat)} {ns:List ByteArray} (h:oV nm ns) (a:ByteArray) (g:Nat) (hg:g=ns.length+1):oV (nm++[(a,g)]) (ns++[a]):=fun x hx=>by
 have h1:=(h x hx).1
 refine⟨?_,fun i=> ?_⟩
 ·unfold aD at h1 ⊢
  rw[List.any_append,List.any_append,h1]
  simp
 ·have h2:=(h x hx).2 i
  rw[List.mem_append,<-h2,List.mem_singleton]
  rcases Nat.lt_trichotomy i ns.length with hi|hi|hi
  ·rw[List.getElem?_append_left hi]
   constructor
   ·exact .inl
   ·rintro (h9|h9)
    ·exact h9
    ·injection h9 with _ h9;omega
  ·subst hi
   rw[List.getElem?_append_right (Nat.le_refl _),List.getElem?_eq_none (Nat.le_refl _),Nat.sub_self]
   simp only[List.getElem?_cons_zero,Option.some.injEq,reduceCtorEq,false_or,Prod.mk.injEq,hg,and_true]
   exact⟨fun e=>e.symm,fun e=>e.symm⟩
  ·rw[List.getElem?_eq_none (by rw[List.length_append];simp;omega),List.getElem?_eq_none (by omega)]
   simp only[reduceCtorEq,false_or,Prod.mk.injEq,false_iff,hg]
   omega
theorem yE {nm:List (ByteArray×Nat)} {ns:List ByteArray} (h:oV nm ns):oV nm (ns++[⟨#[]⟩]):=fun x hx=>by
 have:(⟨#[]⟩:ByteArray)≠x:=fun e=>by subst e;exact hx rfl
 refine⟨?_,fun i=> ?_⟩
 ·rw[List.any_append,<-(h x hx).1]
  simp[this]
 ·rw[<-(h x hx).2 i]
  rcases Nat.lt_or_ge i ns.length with hi|hi
  ·rw[List.getElem?_append_left hi]
  ·rw[List.getElem?_append_right hi,List.getElem?_eq_none hi]
   rcases Nat.eq_zero_or_pos (i-ns.length)with h0|h0
   ·rw[h0]
    simp[this]
   ·rw[List.getElem?_eq_none (by simp only[List.length_cons,List.length_nil];omega)]
def b7 (w':World) (p r base:Nat) (t:ByteArray) (s:RS) (hv:Int) (n:Nat) (e:Ending):Res Nat ->Prop
 |.ok a s'=>e= .returned (.int .i64 (a:Int))/\RA w' p r base t s' false hv n
 |.bad s'=>(∃y:Int,e= .returned (.int .i64 y))/\∃s'':RS,s''.k=s'.k/\s''.d=s.d/\RA w' p r base t s'' true hv n
theorem b7.mkBad {w':World} {y:Int} {m:Res Nat} {s' s'':RS} (hm:m= .bad s') (hk:s''.k=s'.k) (hd:s''.d=s.d) (h:RA w' p r base t s'' true hv n):b7 w' p r base t s hv n (.returned (.int .i64 y)) m:=by
 subst hm
 exact⟨⟨_,rfl⟩,s'',hk,hd,h⟩
theorem b7.mkOk {w':World} {y:Int} {m:Res Nat} {a:Nat} {s':RS} (hm:m= .ok a s') (hy:y=(a:Int)) (h:RA w' p r base t s' false hv n):b7 w' p r base t s hv n (.returned (.int .i64 y)) m:=by
 subst hm;subst hy
 exact⟨rfl,h⟩
theorem yv {j:Nat} {b:UInt8} (hb:ai t s.k=some b) (hj:j<8):aZ t i (8-j) s=if 97<=b.toNat/\b.toNat<=122 then (if j=7/\aD s.nm (t.extract i (s.k+1))=true then .bad s else aZ t i (8-(j+1)) s.up)else .ok () s:=by
 obtain⟨x,hx⟩:∃x,8-j=x+1:=⟨7-j,by omega⟩
 have hx2:8-(j+1)=x:=by omega
 have h7:x=0↔j=7:=by omega
 rw[hx,hx2,aZ,hb]
 simp only[h7]
theorem zE {j:Nat} (hb:ai t s.k=none) (hj:j<8):aZ t i (8-j) s= .bad s:=by
 obtain⟨x,hx⟩:∃x,8-j=x+1:=⟨7-j,by omega⟩
 rw[hx,aZ,hb]
theorem ui (h:ac t s 62=false):fT t i s= .bad s:=by
 unfold fT
 split
 ·rfl
 ·unfold aw
  rw[if_neg (by simp[h])]
  rfl
theorem uZ (h:RA w p r base t s false hv n) (ht:t.size<=60) (hg5:s.g<5) (hkt:s.k<=t.size):
  Calls Tryz.prog 245 #[.pointer (some ⟨p,0,none⟩)] w fun e w'=>Fr w w' r base/\b7 w' p r base t s hv n e (b5 t s):=by
 obtain⟨i0,hi,hz0,hz1,hz2⟩:=info_parts qR
 have H:=aa h
 have KE:=aa (cN 60 h ht)
 obtain⟨k0,d,f,g,nm⟩:=s
 dsimp only at hg5 hkt
 clear h
 go_enter Tryz.func245,Tryz.ntmps245
 go_wp2_with fail
 refine KE.O.mono ?_
 rintro e w1 ⟨rfl,fr1,hE⟩
 have F1:=aa fr1
 rcases hE with⟨_,hs60,ra1⟩|⟨hs60,ra1⟩
 rotate_left
 ·have hs60':ac t ⟨k0,d,f,g,nm⟩ 60=false:=by
   rcases hs60 with h|h
   ·cases h
   ·exact h
  have HF:Hid (b5 t ⟨k0,d,f,g,nm⟩= .bad ⟨k0,d,f,g,nm⟩):=by
   show _=_
   unfold b5 aw
   rw[if_neg (by simp[hs60'])]
   rfl
  have H2:Hid (RFr w w1 p r base t ⟨k0,d,f,g,nm⟩ true hv n):=⟨ra1,F1.O⟩
  clear KE hs60 hs60' ra1 fr1 F1
  obtain⟨c0,c1,c2,f1,f2,hl⟩:=H2.O.ra.facts
  go_wp2_with fail
  go_loopg [4] 0 (fun gk v4 wr=>wr=w1)
  case atStart=>rfl
  case round=>
   subst hrel
   go_wp2_with fail
   go_quiet (fail)
   go_wp2_with fail
   go_quiet (fail)
   go_wp2_with fail
   refine (RFr.fail (by first|exact H2.O|exact H2.O.drewN _|exact (H2.O.drewN _).drewN _|exact ((H2.O.drewN _).drewN _).drewN _|exact (((H2.O.drewN _).drewN _).drewN _).drewN _)).mono ?_
   rintro e w5 ⟨rfl,h5⟩
   have H5:=aa h5
   clear h5
   go_wp2_with fail
   go_ret
   exact⟨H5.O.fr,b7.mkBad HF.O rfl rfl H5.O.ra⟩
 obtain⟨i,hi0⟩:=exq (k0+1)
 obtain⟨R,hR⟩:∃R,aZ t i 8 ⟨i,d,f,g,nm⟩=R:=⟨_,rfl⟩
 have HR:=aa hR
 have hM:b5 t ⟨k0,d,f,g,nm⟩=R.bind fun _ s1=>fT t i s1:=by
  unfold b5 aw
  rw[if_pos hs60,<-hR,hi0]
  rfl
 have HM:=aa hM
 have hit:i<=t.size:=by rw[hi0];exact aS hs60
 have ra1':RA w1 p r base t ⟨i,d,f,g,nm⟩ false hv n:=by rw[hi0];exact ra1
 have H1:=aa ra1'
 clear KE hs60 ra1 ra1' fr1 hR hM hi0 H
 obtain⟨c0,c1,c2,f1,f2,hl⟩:=H1.O.facts
 dsimp only at c1
 go_wp2_with fail
 clear c0 c1 c2 f1 f2 hl
 go_loopg [4] 9 (fun gk v4 wr=>∃(j k:Nat),k=i+j/\j+gk=9/\j<=8/\k<=t.size/\aZ t i (8-j) ⟨k,d,f,g,nm⟩=R/\RA wr p r base t ⟨k,d,f,g,nm⟩ false hv n/\Fr w wr r base)
 case atStart=>exact⟨0,i,rfl,rfl,by decide,hit,HR.O,H1.O,F1.O⟩
 case round=>
  obtain⟨j,k,hk,hjg,hj8',hkt',hgn,hra,hfr⟩:=hrel
  have H2:Hid (RFr w wr p r base t ⟨k,d,f,g,nm⟩ false hv n):=⟨hra,hfr⟩
  have HGN:=aa hgn
  have hki:i<=k:=by omega
  have hkj:(k:Int)-(i:Int)=(j:Int):=by omega
  have HKJ:=aa hkj
  have HK:=aa hk
  clear hra hfr hgn hkj hk HR H1
  obtain⟨c,hc⟩:=exq (aj t k)
  have hc256:c<256:=by rw[hc];exact dt _ _
  have KN:=aa (fun q=>dh (H2.O.ra.rk.drewN q))
  dsimp only at KN
  rw[<-hc]at KN
  have HC:=aa hc
  clear hc
  obtain⟨c0,c1,c2,f1,f2,hl⟩:=H2.O.ra.facts
  dsimp only at c1
  by_cases hlt:k<t.size
  rotate_left
  ·-- the end of the text
   have hd1:decide (k<t.size)=false:=decide_eq_false hlt
   have hd2:decide (t.size<=k)=true:=decide_eq_true (by omega)
   have HF:Hid (b5 t ⟨k0,d,f,g,nm⟩= .bad ⟨k,d,f,g,nm⟩):=by
    show _=_
    rw[HM.O,<-HGN.O]
    have hno:ai t k=none:=by unfold ai;exact Array.getElem?_eq_none (by show t.size<=k;omega)
    by_cases hj8:j<8
    ·rw[zE hno hj8];rfl
    ·rw[show 8-j=0 by omega]
     exact ui (gR hno)
   go_wp2_with fail
   go_quiet (fail)
   go_wp2_with fail
   go_quiet (fail)
   go_wp2_with fail
   refine (RFr.fail (by first|exact H2.O|exact H2.O.drewN _|exact (H2.O.drewN _).drewN _|exact ((H2.O.drewN _).drewN _).drewN _|exact (((H2.O.drewN _).drewN _).drewN _).drewN _)).mono ?_
   rintro e w5 ⟨rfl,h5⟩
   have H5:=aa h5
   clear h5
   go_wp2_with fail
   go_ret
   exact⟨H5.O.fr,b7.mkBad HF.O rfl rfl H5.O.ra⟩
  have hd1:decide (k<t.size)=true:=decide_eq_true hlt
  have hd2:decide (t.size<=k)=false:=decide_eq_false (by omega)
  obtain⟨b,hb,hbc⟩:=qh hlt
  have hcb:c=b.toNat:=HC.O.trans hbc
  have hst:j<8 ->R=if 97<=c/\c<=122 then (if j=7/\aD nm (t.extract i (k+1))=true then .bad ⟨k,d,f,g,nm⟩else aZ t i (8-(j+1)) ⟨k+1,d,f,g,nm⟩)else .ok () ⟨k,d,f,g,nm⟩:=fun hj=>by
   rw[<-HGN.O,yv hb hj,hcb]
   rfl
  have hst8:¬j<8 ->R= .ok () ⟨k,d,f,g,nm⟩:=fun hj=>by
   rw[<-HGN.O,show 8-j=0 by omega]
   rfl
  have hs62:ac t ⟨k,d,f,g,nm⟩ 62=decide (c=62):=by rw[HC.O];exact bU (by decide)
  have HST:=aa hst
  have HST8:=aa hst8
  have HS62:=aa hs62
  clear hb hbc hcb hst hst8 hs62 HGN
  by_cases hlet:97<=c/\c<=122
  ·have q97:decide ((97:Int)<=(c:Int))=true:=decide_eq_true (by omega)
   have q97n:decide (97<=c)=true:=decide_eq_true hlet.1
   have q122:decide ((c:Int)<=122)=true:=decide_eq_true (by omega)
   have q122n:decide (c<=122)=true:=decide_eq_true hlet.2
   have kw:IntKind.i64.wrap ((k:Int)+1)=(k:Int)+1:=by rw[IntKind.wrap_i64];omega
   have k3:(i:Int)<=(k:Int)+1:=by omega
   have k4:(k:Int)+1<=(t.size:Int):=by omega
   obtain⟨nv,hnv⟩:∃nv,t.extract i (k+1)=nv:=⟨_,rfl⟩
   have hnsz:nv.size=k+1-i:=by rw[<-hnv];exact fI t i (k+1) (by omega) (by omega)
   have HNV:=aa hnv
   have HNS:=aa hnsz
   obtain⟨T,hT⟩:=exq (aD nm nv)
   have KT:=aa (fun (W:World) (hW:RFr w W p r base t ⟨k,d,f,g,nm⟩ false hv n)=>oO nv (by have:=HNS.O;omega) hW.ra (by show g<=5;omega))
   dsimp only at KT
   rw[<-hT]at KT
   have HT:=aa hT
   clear hnsz hT
   have hcs:(j=8)\/(j=7/\T=true)\/(j=7/\T=false)\/j<7:=by
    have hq:j=8\/j=7\/j<7:=by omega
    rcases hq with h|h|h
    ·exact .inl h
    ·cases T
     ·exact .inr (.inr (.inl ⟨h,rfl⟩))
     ·exact .inr (.inl ⟨h,rfl⟩)
    ·exact .inr (.inr (.inr h))
   have HJ:Hid (j<=8):=by show _<=_;omega
   rcases hcs with a|⟨a,aT⟩|⟨a,aT⟩|a
   ·-- a ninth letter
    have q8:(((k:Int)-(i:Int))==8)=true:=by rw[beq_iff_eq];have:=HKJ.O;omega
    have HF:Hid (b5 t ⟨k0,d,f,g,nm⟩= .bad ⟨k,d,f,g,nm⟩):=by
     show _=_
     rw[HM.O,HST8.O (by omega)]
     exact ui (by rw[HS62.O];exact decide_eq_false (by omega))
    clear a
    go_wp2_with fail
    go_quiet ((exact Calls.quiet_of (KN.O _)))
    go_wp2_with fail
    go_quiet ((refine (KT.O _ (H2.O.drewN _)).mono ?_;rintro e w9 ⟨rfl,rfl⟩;exact⟨rfl,_,rfl⟩))
    go_wp2_with fail
    refine (RFr.fail (by first|exact H2.O|exact H2.O.drewN _|exact (H2.O.drewN _).drewN _|exact ((H2.O.drewN _).drewN _).drewN _|exact (((H2.O.drewN _).drewN _).drewN _).drewN _)).mono ?_
    rintro e w5 ⟨rfl,h5⟩
    have H5:=aa h5
    clear h5
    go_wp2_with fail
    go_ret
    exact⟨H5.O.fr,b7.mkBad HF.O rfl rfl H5.O.ra⟩
   ·subst aT
    have q8:(((k:Int)-(i:Int))==8)=false:=by rw[beq_eq_false_iff_ne];have:=HKJ.O;omega
    have q7:(((k:Int)-(i:Int))==7)=true:=by rw[beq_iff_eq];have:=HKJ.O;omega
    have HF:Hid (b5 t ⟨k0,d,f,g,nm⟩= .bad ⟨k,d,f,g,nm⟩):=by
     show _=_
     rw[HM.O,HST.O (by omega),if_pos hlet,if_pos ⟨a,by rw[HNV.O];exact HT.O.symm⟩]
     rfl
    clear a
    go_wp2_with fail
    go_quiet ((exact Calls.quiet_of (KN.O _)))
    go_wp2_with fail
    go_quiet ((refine (KT.O _ (H2.O.drewN _)).mono ?_;rintro e w9 ⟨rfl,rfl⟩;exact⟨rfl,_,rfl⟩))
    go_wp2_with fail
    refine (RFr.fail (by first|exact H2.O|exact H2.O.drewN _|exact (H2.O.drewN _).drewN _|exact ((H2.O.drewN _).drewN _).drewN _|exact (((H2.O.drewN _).drewN _).drewN _).drewN _)).mono ?_
    rintro e w5 ⟨rfl,h5⟩
    have H5:=aa h5
    clear h5
    go_wp2_with fail
    go_ret
    exact⟨H5.O.fr,b7.mkBad HF.O rfl rfl H5.O.ra⟩
   case' inr.inr.inl=>
    subst aT
    have q8:(((k:Int)-(i:Int))==8)=false:=by rw[beq_eq_false_iff_ne];have:=HKJ.O;omega
    have q7:(((k:Int)-(i:Int))==7)=true:=by rw[beq_iff_eq];have:=HKJ.O;omega
    have HRN:Hid (aZ t i (8-(j+1)) ⟨k+1,d,f,g,nm⟩=R):=by
     show _=_
     rw[HST.O (by omega),if_pos hlet,if_neg (by rintro⟨_,h⟩;rw[HNV.O,<-HT.O]at h;cases h)]
   case' inr.inr.inr=>
    have q8:(((k:Int)-(i:Int))==8)=false:=by rw[beq_eq_false_iff_ne];have:=HKJ.O;omega
    have q7:(((k:Int)-(i:Int))==7)=false:=by rw[beq_eq_false_iff_ne];have:=HKJ.O;omega
    have HRN:Hid (aZ t i (8-(j+1)) ⟨k+1,d,f,g,nm⟩=R):=by
     show _=_
     rw[HST.O (by omega),if_pos hlet,if_neg (by rintro⟨h,_⟩;omega)]
   all_goals
    have hj8:j+1<=8:=by omega
    clear a
    go_wp2_with fail
    go_quiet ((exact Calls.quiet_of (KN.O _)))
    go_wp2_with fail
    go_quiet ((refine (KT.O _ (H2.O.drewN _)).mono ?_;rintro e w9 ⟨rfl,rfl⟩;exact⟨rfl,_,rfl⟩))
    go_wp2_with fail
    generalize hw9:World.setCell _ _ _=w5
    have hup:=RA.up2 (p:=p) (r:=r) (base:=base) (t:=t) (s:=⟨k,d,f,g,nm⟩) (bad:=false) (hv:=hv) (n:=n) (by first|refine RFr.ra (w:=w) ?_;exact H2.O|refine RFr.ra (w:=w) ?_;exact H2.O.drewN _|refine RFr.ra (w:=w) ?_;exact (H2.O.drewN _).drewN _|refine RFr.ra (w:=w) ?_;exact ((H2.O.drewN _).drewN _).drewN _|refine RFr.ra (w:=w) ?_;exact (((H2.O.drewN _).drewN _).drewN _).drewN _) w5 hw9 (by simp)
    have H5:=aa hup.1
    have F5:Hid (Fr w w5 r base):=Fr.trans (by first|refine RFr.fr (p:=p) (r:=r) (t:=t) (s:=⟨k,d,f,g,nm⟩) (bad:=false) (hv:=hv) (n:=n) ?_;exact H2.O|refine RFr.fr (p:=p) (r:=r) (t:=t) (s:=⟨k,d,f,g,nm⟩) (bad:=false) (hv:=hv) (n:=n) ?_;exact H2.O.drewN _|refine RFr.fr (p:=p) (r:=r) (t:=t) (s:=⟨k,d,f,g,nm⟩) (bad:=false) (hv:=hv) (n:=n) ?_;exact (H2.O.drewN _).drewN _|refine RFr.fr (p:=p) (r:=r) (t:=t) (s:=⟨k,d,f,g,nm⟩) (bad:=false) (hv:=hv) (n:=n) ?_;exact ((H2.O.drewN _).drewN _).drewN _|refine RFr.fr (p:=p) (r:=r) (t:=t) (s:=⟨k,d,f,g,nm⟩) (bad:=false) (hv:=hv) (n:=n) ?_;exact (((H2.O.drewN _).drewN _).drewN _).drewN _) hup.2
    clear hw9 hup
    obtain⟨gk,rfl⟩:∃x,gk=x+1:=⟨gk-1,by omega⟩
    go_roundg gk
    case measure=>omega
    case rel=>exact⟨j+1,k+1,by have:=HK.O;omega,by omega,hj8,by omega,HRN.O,H5.O,F5.O⟩
  ·have hRok:R= .ok () ⟨k,d,f,g,nm⟩:=by
    by_cases hj:j<8
    ·rw[HST.O hj,if_neg hlet]
    ·exact HST8.O hj
   have hMT:b5 t ⟨k0,d,f,g,nm⟩=fT t i ⟨k,d,f,g,nm⟩:=by rw[HM.O,hRok];rfl
   have HMT:=aa hMT
   clear hRok hMT HST HST8
   have hcs:c<97\/(97<=c/\122<c):=by omega
   by_cases hji:k=i
   ·have q0:((k:Int)==(i:Int))=true:=by rw[beq_iff_eq];omega
    have q0n:(k==i)=true:=by rw[beq_iff_eq];omega
    have HF:Hid (b5 t ⟨k0,d,f,g,nm⟩= .bad ⟨k,d,f,g,nm⟩):=by
     show _=_
     rw[HMT.O]
     unfold fT
     rw[if_pos (.inl hji)]
    clear hji
    rcases hcs with a|⟨a,a'⟩
    case' inl=>
     have q97:decide ((97:Int)<=(c:Int))=false:=decide_eq_false (by omega)
     have q97n:decide (97<=c)=false:=decide_eq_false (by omega)
    case' inr=>
     have q97:decide ((97:Int)<=(c:Int))=true:=decide_eq_true (by omega)
     have q97n:decide (97<=c)=true:=decide_eq_true (by omega)
     have q122:decide ((c:Int)<=122)=false:=decide_eq_false (by omega)
     have q122n:decide (c<=122)=false:=decide_eq_false (by omega)
    all_goals
     go_wp2_with fail
     go_quiet ((exact Calls.quiet_of (KN.O _)))
     go_wp2_with fail
     go_quiet (fail)
     go_wp2_with fail
     refine (RFr.fail (by first|exact H2.O|exact H2.O.drewN _|exact (H2.O.drewN _).drewN _|exact ((H2.O.drewN _).drewN _).drewN _|exact (((H2.O.drewN _).drewN _).drewN _).drewN _)).mono ?_
     rintro e w5 ⟨rfl,h5⟩
     have H5:=aa h5
     clear h5
     go_wp2_with fail
     go_ret
     exact⟨H5.O.fr,b7.mkBad HF.O rfl rfl H5.O.ra⟩
   ·have q0:((k:Int)==(i:Int))=false:=by rw[beq_eq_false_iff_ne];omega
    have q0n:(k==i)=false:=by rw[beq_eq_false_iff_ne];omega
    have k3:(i:Int)<=(k:Int):=by omega
    have k4:(k:Int)<=(t.size:Int):=by omega
    obtain⟨nv,hnv⟩:∃nv,t.extract i k=nv:=⟨_,rfl⟩
    have hnsz:nv.size=k-i:=by rw[<-hnv];exact fI t i k (by omega) (by omega)
    have HNV:=aa hnv
    have HNS:=aa hnsz
    obtain⟨T,hT⟩:=exq (aD nm nv)
    have KT:=aa (fun (W:World) (hW:RFr w W p r base t ⟨k,d,f,g,nm⟩ false hv n)=>oO nv (by have:=HNS.O;omega) hW.ra (by show g<=5;omega))
    dsimp only at KT
    rw[<-hT]at KT
    have HT:=aa hT
    have HJI:=aa hji
    clear hnsz hT hji
    cases T with
    |true=>
     have HF:Hid (b5 t ⟨k0,d,f,g,nm⟩= .bad ⟨k,d,f,g,nm⟩):=by
      show _=_
      rw[HMT.O]
      unfold fT
      rw[if_pos (.inr (by rw[HNV.O];exact HT.O.symm))]
     rcases hcs with a|⟨a,a'⟩
     case' inl=>
      have q97:decide ((97:Int)<=(c:Int))=false:=decide_eq_false (by omega)
      have q97n:decide (97<=c)=false:=decide_eq_false (by omega)
     case' inr=>
      have q97:decide ((97:Int)<=(c:Int))=true:=decide_eq_true (by omega)
      have q97n:decide (97<=c)=true:=decide_eq_true (by omega)
      have q122:decide ((c:Int)<=122)=false:=decide_eq_false (by omega)
      have q122n:decide (c<=122)=false:=decide_eq_false (by omega)
     all_goals
      go_wp2_with fail
      go_quiet ((exact Calls.quiet_of (KN.O _)))
      go_wp2_with fail
      go_quiet (fail)
      go_wp2_with fail
      go_quiet (fail)
      go_wp2_with fail
      refine (KT.O _ (by first|exact H2.O|exact H2.O.drewN _|exact (H2.O.drewN _).drewN _|exact ((H2.O.drewN _).drewN _).drewN _|exact (((H2.O.drewN _).drewN _).drewN _).drewN _)).mono ?_
      rintro e w9 ⟨rfl,rfl⟩
      go_wp2_with fail
      refine (RFr.fail (by first|exact H2.O|exact H2.O.drewN _|exact (H2.O.drewN _).drewN _|exact ((H2.O.drewN _).drewN _).drewN _|exact (((H2.O.drewN _).drewN _).drewN _).drewN _)).mono ?_
      rintro e w5 ⟨rfl,h5⟩
      have H5:=aa h5
      clear h5
      go_wp2_with fail
      go_ret
      exact⟨H5.O.fr,b7.mkBad HF.O rfl rfl H5.O.ra⟩
    |false=>
     have hmt2:b5 t ⟨k0,d,f,g,nm⟩=(aw t ⟨k,d,f,g,nm⟩ 62).bind fun _ s5=> .ok (s5.g+1) {s5 with g:=s5.g+1,nm:=s5.nm++[(nv,s5.g+1)]}:=by
      rw[HMT.O]
      unfold fT
      rw[if_neg]
      ·rw[HNV.O]
      ·rintro (h|h)
       ·exact HJI.O h
       ·rw[HNV.O,<-HT.O]at h;cases h
     have HM2:=aa hmt2
     clear hmt2
     have KE:=aa (fun (W:World) (hW:RFr w W p r base t ⟨k,d,f,g,nm⟩ false hv n)=>Calls.mono (cN 62 hW.ra ht) (show ∀e w',_ ->(fun e w'=>e= .returned (.tuple #[])/\Fr w w' r base/\((false=false/\ac t ⟨k,d,f,g,nm⟩ 62=true/\RA w' p r base t ⟨k+1,d,f,g,nm⟩ false hv n)\/((false=true\/ac t ⟨k,d,f,g,nm⟩ 62=false)/\RA w' p r base t ⟨k,d,f,g,nm⟩ true hv n))) e w' from fun e w' h=>⟨h.1,hW.fr.trans h.2.1,h.2.2⟩))
     rcases hcs with a|⟨a,a'⟩
     case' inl=>
      have q97:decide ((97:Int)<=(c:Int))=false:=decide_eq_false (by omega)
      have q97n:decide (97<=c)=false:=decide_eq_false (by omega)
     case' inr=>
      have q97:decide ((97:Int)<=(c:Int))=true:=decide_eq_true (by omega)
      have q97n:decide (97<=c)=true:=decide_eq_true (by omega)
      have q122:decide ((c:Int)<=122)=false:=decide_eq_false (by omega)
      have q122n:decide (c<=122)=false:=decide_eq_false (by omega)
     all_goals
      go_wp2_with fail
      go_quiet ((exact Calls.quiet_of (KN.O _)))
      go_wp2_with fail
      go_quiet (fail)
      go_wp2_with fail
      go_quiet (fail)
      go_wp2_with fail
      refine (KT.O _ (by first|exact H2.O|exact H2.O.drewN _|exact (H2.O.drewN _).drewN _|exact ((H2.O.drewN _).drewN _).drewN _|exact (((H2.O.drewN _).drewN _).drewN _).drewN _)).mono ?_
      rintro e w9 ⟨rfl,rfl⟩
      go_wp2_with fail
      refine (KE.O _ (by first|exact H2.O|exact H2.O.drewN _|exact (H2.O.drewN _).drewN _|exact ((H2.O.drewN _).drewN _).drewN _|exact (((H2.O.drewN _).drewN _).drewN _).drewN _)).mono ?_
      rintro e w6 ⟨rfl,fr6,hE⟩
      have F6:=aa fr6
      have hEE:∃(bd:Bool) (kk:Nat),RA w6 p r base t ⟨kk,d,f,g,nm⟩ bd hv n/\(bd=true ->b5 t ⟨k0,d,f,g,nm⟩= .bad ⟨kk,d,f,g,nm⟩)/\(bd=false ->b5 t ⟨k0,d,f,g,nm⟩= .ok (g+1) ⟨kk,d,f,g+1,nm++[(nv,g+1)]⟩):=by
       rcases hE with⟨_,hs,ra6⟩|⟨hs,ra6⟩
       ·refine⟨false,k+1,ra6,(fun h=>by cases h),fun _=> ?_⟩
        rw[HM2.O]
        unfold aw
        rw[if_pos hs]
        rfl
       ·refine⟨true,k,ra6,fun _=> ?_,(fun h=>by cases h)⟩
        rw[HM2.O]
        unfold aw
        rw[if_neg]
        ·rfl
        ·rcases hs with h|h
         ·cases h
         ·rw[h];simp
      obtain⟨bd,kk,ra6,hbad,hgood⟩:=hEE
      have H6:=aa ra6
      have HBAD:=aa hbad
      have HGOOD:=aa hgood
      clear hE fr6 ra6 hbad hgood c0 c1 c2 f1 f2 hl KE KT KN HM2 HMT
      obtain⟨m3,m5,m6,g5,g6,mr,gr,hrl⟩:=H6.O.more
      have hpl:=H6.O.rk.lt
      dsimp only at mr
      go_upto_region 16 with fail
      generalize hw9:World.setCell _ _ _=w1'
      obtain⟨hrm,hfrg⟩:=H6.O.grp w1' hw9 (by simp)
      have F1':=aa (F6.O.trans hfrg)
      clear hw9 hfrg m3 m5 m6 g5 g6 mr gr hrl hpl
      obtain⟨av,pn,m,cn,xs,ns,hrm⟩:=hrm
      obtain⟨w1,rfl⟩:=exq (w1')
      have F1:=F1'
      have HRM:=aa hrm
      obtain⟨ys,hys⟩:=exq (ns.map Value.string)
      have HYS:=aa hys
      have HMM:=aa hrm.lm
      have hm5:m=g:=hrm.lm.trans hrm.len
      have HNM:=aa (yD hrm.nm nv (g+1) (by have h9:=hrm.len;show g+1=_;rw[h9]))
      have HRW:Hid (w1.ownsRow base 9 1 (.slice pn m cn) m ys):=by rw[hys];exact hrm.rn
      have r0:w1.cell? ⟨p,3,none⟩=some (.pointer (some ⟨r,0,none⟩)):=hrm.bk.all.1 3
      have s0:w1.cell? ⟨r,3,none⟩=some (.slice pn m cn):=hrm.br.all.1 3
      have hpl:=hrm.bk.lt
      have hrl:=hrm.br.lt
      have hbw1:=hrm.bw
      have hm6:m<=5:=by omega
      clear hrm hys hm5
      refine aQ (by kernel_rfl) ?_
      refine tk (i:=0) (v:= ?_) rfl ?_ ?_
      rotate_left
      ·intro w'
       go_simp
       try with_reducible rfl
      simp only[Act.put,List.replicate,Array.replicate,lx]
      refine tk (i:=1) (v:= ?_) rfl ?_ ?_
      rotate_left
      ·intro w'
       go_simp
       try with_reducible rfl
      simp only[Act.put,List.replicate,Array.replicate,lx]
      refine tk (i:=2) (v:= ?_) rfl ?_ ?_
      rotate_left
      ·intro w'
       go_simp
       try with_reducible rfl
      simp only[Act.put,List.replicate,Array.replicate,lx]
      refine tk (i:=4) (v:= ?_) rfl ?_ ?_
      rotate_left
      ·intro w'
       go_simp
       try with_reducible rfl
      simp only[Act.put,List.replicate,Array.replicate,lx]
      refine tk (i:=5) (v:= ?_) rfl ?_ ?_
      rotate_left
      ·intro w'
       go_simp
       try with_reducible rfl
      simp only[Act.put,List.replicate,Array.replicate,lx]
      refine tk (i:=6) (v:= ?_) rfl ?_ ?_
      rotate_left
      ·intro w'
       go_simp
       try with_reducible rfl
      simp only[Act.put,List.replicate,Array.replicate,lx]
      refine aV (S:=(fun oi w'=>oi<16 ->w'.cell? ⟨p,3,none⟩=some (.pointer (some ⟨r,0,none⟩))/\w'.cell? ⟨r,3,none⟩=some (.slice pn m cn))) _ _ _ _ ?_
      refine tkJ (i:=3) (v:= ?_) rfl ⟨r0,s0⟩ ?_ ?_
      rotate_left
      ·intro w' hSw
       obtain⟨f1,f2⟩:=hSw
       go_simp
       try with_reducible rfl
      simp only[Act.put,List.replicate,Array.replicate,lx]
      refine tkJ (i:=7) (v:= ?_) rfl ⟨r0,s0⟩ ?_ ?_
      rotate_left
      ·intro w' hSw
       obtain⟨f1,f2⟩:=hSw
       go_simp
       try with_reducible rfl
      simp only[Act.put,List.replicate,Array.replicate,lx]
      refine tkJ (i:=8) (v:= ?_) rfl ⟨r0,s0⟩ ?_ ?_
      rotate_left
      ·intro w' hSw
       obtain⟨f1,f2⟩:=hSw
       go_simp
       try with_reducible rfl
      simp only[Act.put,List.replicate,Array.replicate,lx]
      refine tkJ (i:=9) (v:= ?_) rfl ⟨r0,s0⟩ ?_ ?_
      rotate_left
      ·intro w' hSw
       obtain⟨f1,f2⟩:=hSw
       go_simp
       try with_reducible rfl
      simp only[Act.put,List.replicate,Array.replicate,lx]
      refine tkJ (i:=10) (v:= ?_) rfl ⟨r0,s0⟩ ?_ ?_
      rotate_left
      ·intro w' hSw
       obtain⟨f1,f2⟩:=hSw
       go_simp
       try with_reducible rfl
      simp only[Act.put,List.replicate,Array.replicate,lx]
      refine tkJ (i:=11) (v:= ?_) rfl ⟨r0,s0⟩ ?_ ?_
      rotate_left
      ·intro w' hSw
       obtain⟨f1,f2⟩:=hSw
       go_simp
       try with_reducible rfl
      simp only[Act.put,List.replicate,Array.replicate,lx]
      refine ae (i:=12) rfl rfl (by kernel_rfl) (fun K hK=> ?_)
      go_simp
      refine hK.O _ _ (fun _=>⟨(HRM.O.bk.drew.alloc _).all.1 3,(HRM.O.br.drew.alloc _).all.1 3⟩) ?_
      clear hK K
      simp only[Act.put,List.replicate,Array.replicate,lx]
      refine ae (i:=13) rfl rfl (by kernel_rfl) (fun K hK=> ?_)
      refine wp_append_lies _ (.tmp 145) (.tmp 147) 131 rfl base 9 i0 _ 1 16 Tryz.underlying131 hi hz0 hz1 hz2 rfl (by decide) (.slice pn m cn) m ys rfl ((World.ownsRow.drew HRW.O).alloc _) ⟨w1.heap.size,0,none⟩ 1 1 [.string nv] rfl rfl (bK _ _ _) (by simp[Value.oneCell']) (by decide) (by unfold maxLen;omega) (by omega) (by simp;omega) _ rfl ?_
      intro gb cap w3 hown3 hgrow3 hat3 hlt3
      obtain⟨k3,k4,k5,k6,k7⟩:=HRM.O.mid hgrow3
      refine hK.O _ _ (fun _=>⟨k3,k4⟩) ?_
      clear hK K
      simp only[Act.put,List.replicate,Array.replicate,lx]
      refine ae (i:=14) rfl rfl (by kernel_rfl) (fun K hK=> ?_)
      go_simp
      refine hK.O _ _ (fun _=>⟨k3,k4⟩) ?_
      clear hK K
      simp only[Act.put,List.replicate,Array.replicate,lx]
      refine ae (i:=15) rfl rfl (by kernel_rfl) (fun K hK=> ?_)
      go_simp
      refine hK.O _ _ (fun _=>⟨k3,k4⟩) ?_
      clear hK K
      simp only[Act.put,List.replicate,Array.replicate,lx]
      refine ae (i:=16) rfl rfl (by kernel_rfl) (fun K hK=> ?_)
      go_simp
      refine hK.O _ _ (fun h=>by omega) ?_
      clear hK K
      refine aP (by kernel_rfl) ?_ _
      generalize hw4:World.setCell _ _ _=w4
      have hfin:=HRM.O.fin hgrow3 (by rw[<-HYS.O,<-HMM.O];exact hown3) HNM.O w4 (by rw[<-HMM.O];exact hw4)
      have H4:=aa hfin.1
      have F4:=aa (F1.O.trans hfin.2)
      clear hw4 hfin hown3 hgrow3 hat3 hlt3 k3 k4 k5 k6 k7 r0 s0
      obtain⟨m3,m5,m6,g5,g6,mr,gr,hrl4⟩:=H4.O.more
      have hpl4:=H4.O.rk.lt
      dsimp only at mr
      have mr:w4.cell? ⟨r,2,none⟩=some (.int .i64 ((g:Int)+1)):=by simpa using mr
      go_wp2_with fail
      go_ret
      cases bd with
      |true=>exact⟨F4.O,b7.mkBad (s'':=⟨kk,d,f,g+1,nm++[(nv,g+1)]⟩) (HBAD.O rfl) rfl rfl H4.O⟩
      |false=>exact⟨F4.O,b7.mkOk (HGOOD.O rfl) (by simp) H4.O⟩
end Go.Proofs.YtfnanjbleifjkaaGreatDoor.G
