import Derived.Test.YtfnanjbleifjkaaGreatDoorM33
set_option linter.unusedVariables false
set_option linter.unusedSimpArgs false
set_option maxHeartbeats 8000000
set_option maxRecDepth 100000
namespace Go.Proofs.YtfnanjbleifjkaaGreatDoor.G
variable {c:SC} {d:SD} {w:World} {x:Nat}
open Go.RowKit
theorem jB (y:Int×Int):([.int .i64 y.1,.int .i64 y.2]:List Value).length=2:=rfl
theorem vm (sp:List (Int×Int)) (x:Nat) (a b:Int) (hx:x<sp.length):bL (sp.set x (a,b))=((bL sp).set (x*2) (.int .i64 a)).set (x*2+1) (.int .i64 b):=by
 obtain⟨y,hy⟩:∃y,sp[x]? =some y:=⟨_,List.getElem?_eq_getElem hx⟩
 unfold bL
 have h1:=jk jB sp x y (a,y.2) 0 (.int .i64 a) hy (by decide) rfl
 rw[Nat.add_zero]at h1
 rw[h1]
 have h2:=jk jB (sp.set x (a,y.2)) x (a,y.2) (a,b) 1 (.int .i64 b) (by rw[List.getElem?_set_self hx]) (by decide) rfl
 rw[h2,List.set_set]
theorem SG.span (hk:SK c) (h:SG c d w) {pg pc:Nat} (hx:x<c.g+1) (hpv:c.pv= .slice (some ⟨pg,0,none⟩) (c.g+1) pc) (a b:Int):
  SG c ⟨d.sv,d.T,d.M,d.Ls,d.sp.set x (a,b),d.op⟩ ((w.setCell ⟨pg,x*2,none⟩ (.int .i64 a)).setCell ⟨pg,x*2+1,none⟩ (.int .i64 b))/\SF c d ⟨d.sv,d.T,d.M,d.Ls,d.sp.set x (a,b),d.op⟩ w ((w.setCell ⟨pg,x*2,none⟩ (.int .i64 a)).setCell ⟨pg,x*2+1,none⟩ (.int .i64 b)):=by
 have hg:c.pv.ownBlock=some pg:=by rw[hpv];rfl
 have hbg:=(h.spn.lt pg hg).1
 have heb:=(h.wr hk (a:=⟨pg,x*2,none⟩) hbg (.int .i64 a)).setCell (p:=⟨pg,x*2+1,none⟩) (.inr hbg) (.int .i64 b)
 have st:∀k',k'≠pg ->((w.setCell ⟨pg,x*2,none⟩ (.int .i64 a)).setCell ⟨pg,x*2+1,none⟩ (.int .i64 b)).heap[k']? =w.heap[k']? :=fun k' e=>(Below.heap_setCell _ _ _ _ e).trans (Below.heap_setCell _ _ _ _ e)
 obtain⟨cs,hbk⟩:=sP h.spn hg
 refine⟨⟨h.eb.trans heb,(h.blk.set (fun e=>aE h.spn h.blk (by decide) (by rw[hg];exact congrArg some e.symm)) _).set (fun e=>aE h.spn h.blk (by decide) (by rw[hg];exact congrArg some e.symm)) _,aH h.run (fun b hb=>st b (fun e=>cr h.spn h.run (by decide) b hb (e▸hg))),aH h.sts (fun b hb=>st b (fun e=>cr h.spn h.sts (by decide) b hb (e▸hg))),?_,aH h.opn (fun b hb=>st b (fun e=>cr h.spn h.opn (by decide) b hb (e▸hg))),fun j sj bs hj hb=> ?_,h.ld,h.si,by rw[List.length_set];exact h.spl,h.opl⟩,⟨heb.os,heb.tape,heb.output,heb.size,fun b hb hn=>st b (fun e=>hn (.inr (.inr (.inl (e▸hg))))),fun _ _ h=>h,fun _ _ h=>h⟩⟩
 ·have:=h.spn
  rw[hpv]at this ⊢
  show World.ownsRow _ _ _ _ _ _ (bL (d.sp.set x (a,b)))
  rw[vm d.sp x a b (by rw[h.spl];exact hx)]
  exact jw (jw this _ _) _ _
 ·obtain⟨p1,p2⟩:=h.lst j sj bs hj hb
  exact⟨p1,(p2.set (fun e=>aE h.spn p2 (by decide) (by rw[hg];exact congrArg some e.symm)) _).set (fun e=>aE h.spn p2 (by decide) (by rw[hg];exact congrArg some e.symm)) _⟩
theorem SG.opens (hk:SK c) (h:SG c d w) {og oc:Nat} (hov:c.ov= .slice (some ⟨og,0,none⟩) (c.g+1) oc) (a:Int):
  SG c ⟨d.sv,d.T,d.M,d.Ls,d.sp,d.op.set x a⟩ (w.setCell ⟨og,x,none⟩ (.int .i64 a))/\SF c d ⟨d.sv,d.T,d.M,d.Ls,d.sp,d.op.set x a⟩ w (w.setCell ⟨og,x,none⟩ (.int .i64 a)):=by
 have hg:c.ov.ownBlock=some og:=by rw[hov];rfl
 have hbg:=(h.opn.lt og hg).1
 have heb:=h.wr hk (a:=⟨og,x,none⟩) hbg (.int .i64 a)
 have st:∀k',k'≠og ->(w.setCell ⟨og,x,none⟩ (.int .i64 a)).heap[k']? =w.heap[k']? :=fun k' e=>Below.heap_setCell _ _ _ _ e
 obtain⟨cs,hbk⟩:=sP h.opn hg
 refine⟨⟨h.eb.trans heb,h.blk.set (fun e=>aE h.opn h.blk (by decide) (by rw[hg];exact congrArg some e.symm)) _,aH h.run (fun b hb=>st b (fun e=>cr h.opn h.run (by decide) b hb (e▸hg))),aH h.sts (fun b hb=>st b (fun e=>cr h.opn h.sts (by decide) b hb (e▸hg))),aH h.spn (fun b hb=>st b (fun e=>cr h.opn h.spn (by decide) b hb (e▸hg))),?_,fun j sj bs hj hb=> ?_,h.ld,h.si,h.spl,by rw[List.length_set];exact h.opl⟩,⟨heb.os,heb.tape,heb.output,heb.size,fun b hb hn=>st b (fun e=>hn (.inr (.inr (.inr (.inl (e▸hg)))))),fun _ _ h=>h,fun _ _ h=>h⟩⟩
 ·have:=h.opn
  rw[hov]at this ⊢
  show World.ownsRow _ _ _ _ _ _ (bO (d.op.set x a))
  rw[<-lW]
  exact jw this _ _
 ·obtain⟨p1,p2⟩:=h.lst j sj bs hj hb
  exact⟨p1,p2.set (fun e=>aE h.opn p2 (by decide) (by rw[hg];exact congrArg some e.symm)) _⟩
theorem SG.grp (h:SG c d w) (hx:x<c.g+1):∃pg pc og oc,c.pv= .slice (some ⟨pg,0,none⟩) (c.g+1) pc/\c.ov= .slice (some ⟨og,0,none⟩) (c.g+1) oc/\pg<w.heap.size/\og<w.heap.size/\(∃y,d.sp[x]? =some y/\w.cell? ⟨pg,x*2,none⟩=some (.int .i64 y.1)/\w.cell? ⟨pg,x*2+1,none⟩=some (.int .i64 y.2))/\w.cell? ⟨og,x,none⟩=some (.int .i64 (d.op.getD x 0))/\(∀o,w.frozen? ⟨pg,o,none⟩=false)/\∀o,w.frozen? ⟨og,o,none⟩=false:=by
 obtain⟨pg,pc,e1,_⟩:=dO h.spn (by omega)
 obtain⟨og,oc,e2,_⟩:=dO h.opn (by omega)
 have h1:=h.spn
 rw[e1]at h1
 have h2:=h.opn
 rw[e2]at h2
 obtain⟨y,hy⟩:∃y,d.sp[x]? =some y:=⟨_,List.getElem?_eq_getElem (by rw[h.spl];exact hx)⟩
 have hxo:x<d.op.length:=by rw[h.opl];exact hx
 refine⟨pg,pc,og,oc,e1,e2,(h1.lt pg rfl).2,(h2.lt og rfl).2,⟨y,hy,?_,?_⟩,?_,fun o=>h1.frozenAt o,fun o=>h2.frozenAt o⟩
 ·rw[h1.cellAt (x*2) (by omega)]
  exact eD jB d.sp x y 0 hy (by decide)
 ·rw[h1.cellAt (x*2+1) (by omega)]
  exact eD jB d.sp x y 1 hy (by decide)
 ·rw[h2.cellAt x (by omega),jo,List.getElem?_eq_getElem hxo,List.getD_eq_getElem?_getD,List.getElem?_eq_getElem hxo]
  rfl
theorem iD {α:Type} {l:List α} {n:Nat} {y:α} (h:l[n]? =some y):l.set n y=l:=by
 apply List.ext_getElem?
 intro j
 by_cases e:n=j
 ·subst e
  rw[List.getElem?_set_self (List.getElem?_eq_some_iff.1 h).1,h]
 ·rw[List.getElem?_set_ne e]
theorem mK (hk:SK c) {i k n:Nat} {K':List Ti} (h:SG c d w) (hm:d.M[k]? =some (.gend n::K')) (W:eA c i K'):
  Calls Tryz.prog 143 #[.pointer (some ⟨c.S,0,none⟩),.int .i64 (k:Int),.int .i64 (i:Int)] w (cu c d w (evK c i (.gend n::K'))):=by
 have hgn:1<=n/\n<=c.g:=(hk.kg _ (h.si.inU _ (List.mem_of_getElem? hm))).head
 have hev:evK c i (.gend n::K')=(evK c i K').map ((beg n+1,eY c.l3 c.en i):: ·):=by unfold evK;exact eC _ _ _ _
 rw[hev]
 have V:=aa W
 clear hev W
 obtain⟨s,hs,hso⟩:=h.st hm
 obtain⟨g,cap,hsv,hkl,hgl,hcell,hfz⟩:=h.at hs
 obtain⟨t9,K9,e9,hc,hnx⟩:=hso.hd
 cases e9
 have a0:w.cell? ⟨g,k*8,none⟩=some (.int .i64 s.kind):=hcell 0 (by omega)
 have a1:w.cell? ⟨g,k*8+1,none⟩=some (.int .i64 s.x):=hcell 1 (by omega)
 have a2:w.cell? ⟨g,k*8+2,none⟩=some (.int .i64 s.next):=hcell 2 (by omega)
 have a3:w.cell? ⟨g,k*8+3,none⟩=some (.bool s.fresh):=hcell 3 (by omega)
 obtain⟨nx,hnx9⟩:=exq (s.next)
 have hkd:s.kind= -1:=(Prod.mk.inj hc.symm).1
 have hsx:s.x=(n:Int):=(Prod.mk.inj (Prod.mk.inj hc.symm).2).1
 have hfr:s.fresh=false:=(Prod.mk.inj (Prod.mk.inj hc.symm).2).2
 rw[hkd]at a0
 rw[hsx]at a1
 rw[<-hnx9]at a2 hnx
 rw[hfr]at a3
 have hxw:Ex [] w (w.alloc (Obj.cells #[.int .i64 (-1),.int .i64 (n:Int),.int .i64 nx,.bool false] 224)):=(Ex.refl _ _).alloc _
 have hbx:BK (w.alloc (Obj.cells #[.int .i64 (-1),.int .i64 (n:Int),.int .i64 nx,.bool false] 224)) w.heap.size (.cells #[.int .i64 (-1),.int .i64 (n:Int),.int .i64 nx,.bool false] 224 (0,0)):=BK.new _ _
 obtain⟨w1,hw1⟩:=exq (w.alloc (Obj.cells #[.int .i64 (-1),.int .i64 (n:Int),.int .i64 nx,.bool false] 224))
 rw[<-hw1]at hxw hbx
 obtain⟨h1,f1⟩:=h.ex hk hxw
 have hnb:=h.new hk (Nat.le_refl w.heap.size)
 obtain⟨b,hb⟩:=exq (w.heap.size)
 rw[<-hb]at hbx hnb
 obtain⟨S,hS⟩:=exq (c.S)
 obtain⟨m,hmm⟩:=exq (d.T.length)
 have s2:w.cell? ⟨S,2,none⟩=some (.slice (some ⟨g,0,none⟩) m cap):=by rw[hS,hmm,<-hsv];exact h.blk.all.1 2
 have hSl:S<w.heap.size:=by rw[hS];exact h.blk.lt
 have hkm:(k:Int)<(m:Int):=by omega
 have hSl1:S<w1.heap.size:=by rw[hS];exact h1.blk.lt
 have hbl1:=hbx.lt
 have b0:w1.cell? ⟨b,0,none⟩=some (.int .i64 (-1)):=hbx.all.1 0
 have b1:w1.cell? ⟨b,1,none⟩=some (.int .i64 (n:Int)):=hbx.all.1 1
 have b3:w1.cell? ⟨b,3,none⟩=some (.bool false):=hbx.all.1 3
 have HNX:Hid (NX d.M d.T.length nx K'):=hnx.more (fun _ _ h=>h) (by omega)
 have HM:=aa hm
 have HK:=aa hk
 have H:=aa h
 have H1:=aa h1
 have F1:=aa f1
 have HB:=aa hbx
 have HNB:=aa hnb
 have HW1:=aa hw1
 have HBE:=aa hb
 have HS:=aa hS
 rw[<-hS]
 clear hs hso hsv hkl hcell hfz hnx hxw hbx h1 f1 hnb hw1 hb hS hmm hkd hnx9 hfr h hm hc hsx hk
 go_enter Tryz.func143,Tryz.ntmps143
 go_upto_region 4 with fail
 rw[<-HW1.O,<-HBE.O]
 clear s2 hSl a0 a1 a2 a3 hkm
 obtain⟨pg,pc,og,oc,epv,eov,hpl,hol,⟨y,hy,y0,y1⟩,o0,fzp,fzo⟩:=H1.O.grp (x:=n) (by omega)
 obtain⟨G,hG⟩:=exq (c.g)
 have p3:w1.cell? ⟨S,3,none⟩=some (.slice (some ⟨pg,0,none⟩) (G+1) pc):=by rw[HS.O,hG,<-epv];exact H1.O.blk.all.1 3
 have hnG:(n:Int)<(G:Int)+1:=by omega
 have HG:=aa hG
 have HPV:=aa epv
 have HOV:=aa eov
 have HY:=aa hy
 clear hG epv eov hy
 refine aQ (by kernel_rfl) ?_
 refine tk (i:=0) (v:= ?_) rfl ?_ ?_
 rotate_left
 ·intro w'
  go_simp
  try with_reducible rfl
 simp only[Act.put,List.replicate,Array.replicate,lx]
 refine tk (i:=1) (v:= ?_) rfl ?_ ?_
 rotate_left
 ·intro w'
  go_simp
  try with_reducible rfl
 simp only[Act.put,List.replicate,Array.replicate,lx]
 refine tk (i:=2) (v:= ?_) rfl ?_ ?_
 rotate_left
 ·intro w'
  go_simp
  try with_reducible rfl
 simp only[Act.put,List.replicate,Array.replicate,lx]
 refine tk (i:=4) (v:= ?_) rfl ?_ ?_
 rotate_left
 ·intro w'
  go_simp
  try with_reducible rfl
 simp only[Act.put,List.replicate,Array.replicate,lx]
 refine aV (S:=(fun oi w'=>oi<9 ->w'.cell? ⟨S,3,none⟩=some (.slice (some ⟨pg,0,none⟩) (G+1) pc)/\w'.cell? ⟨b,1,none⟩=some (.int .i64 (n:Int))/\w'.cell? ⟨pg,n*2,none⟩=some (.int .i64 y.1)/\w'.cell? ⟨pg,n*2+1,none⟩=some (.int .i64 y.2))) _ _ _ _ ?_
 refine tkJ (i:=3) (v:= ?_) rfl ⟨p3,b1,y0,y1⟩ ?_ ?_
 rotate_left
 ·intro w' hSw
  obtain⟨f1,f2,f3,f4⟩:=hSw
  go_simp
  try with_reducible rfl
 simp only[Act.put,List.replicate,Array.replicate,lx]
 refine tkJ (i:=5) (v:= ?_) rfl ⟨p3,b1,y0,y1⟩ ?_ ?_
 rotate_left
 ·intro w' hSw
  obtain⟨f1,f2,f3,f4⟩:=hSw
  go_simp
  try with_reducible rfl
 simp only[Act.put,List.replicate,Array.replicate,lx]
 refine tkJ (i:=6) (v:= ?_) rfl ⟨p3,b1,y0,y1⟩ ?_ ?_
 rotate_left
 ·intro w' hSw
  obtain⟨f1,f2,f3,f4⟩:=hSw
  go_simp
  try with_reducible rfl
 simp only[Act.put,List.replicate,Array.replicate,lx]
 refine tkJ (i:=7) (v:= ?_) rfl ⟨p3,b1,y0,y1⟩ ?_ ?_
 rotate_left
 ·intro w' hSw
  obtain⟨f1,f2,f3,f4⟩:=hSw
  go_simp
  try with_reducible rfl
 simp only[Act.put,List.replicate,Array.replicate,lx]
 refine ae (i:=8) rfl rfl (by kernel_rfl) (fun K hK=> ?_)
 go_simp
 have X4:Hid (Ex [] w1 (w1.drew.alloc (.cells #[.int .i64 0,.int .i64 0] 31))):=((Ex.refl _ _).drew).alloc _
 refine hK.O _ _ (fun _=>⟨(X4.O.cell0.1 _ _ hSl1).trans p3,(X4.O.cell0.1 _ _ hbl1).trans b1,(X4.O.cell0.1 _ _ hpl).trans y0,(X4.O.cell0.1 _ _ hpl).trans y1⟩) ?_
 clear hK K X4
 simp only[Act.put,List.replicate,Array.replicate,lx]
 refine ae (i:=9) rfl rfl (by kernel_rfl) (fun K hK=> ?_)
 go_simp
 refine hK.O _ _ (fun h=>by omega) ?_
 clear hK K
 refine aP (by kernel_rfl) ?_ _
 generalize hw2:World.drew (World.alloc _ _)=w2
 have hx12:Ex [] w1 w2:=by rw[<-hw2];exact ((Ex.refl _ _).alloc _).drew
 have hy2:BK w2 w1.heap.size (.cells #[.int .i64 y.1,.int .i64 y.2] 31 (0,0)):=by rw[<-hw2];exact (BK.new _ _).drew
 obtain⟨h2,f12⟩:=H1.O.ex HK.O hx12
 obtain⟨b2,hb2⟩:=exq (w1.heap.size)
 rw[<-hb2]at hy2 ⊢
 have HNY:Hid (¬Mg c d b2):=H1.O.new HK.O (by omega)
 have HT2:=aa (BK.ex HB.O hx12 (by simp))
 have HY2:=aa hy2
 have H2:=aa h2
 have F2:=aa (F1.O.trans f12)
 have hbl2:=HT2.O.lt
 have hyl2:=hy2.lt
 obtain⟨ov,hov⟩:=exq (d.op.getD n 0)
 have hpl2:pg<w2.heap.size:=Nat.lt_of_lt_of_le hpl hx12.size
 have hol2:og<w2.heap.size:=Nat.lt_of_lt_of_le hol hx12.size
 have o02:w2.cell? ⟨og,n,none⟩=some (.int .i64 ov):=by rw[hov];exact (hx12.cell0.1 _ _ hol).trans o0
 have y02:w2.cell? ⟨pg,n*2,none⟩=some (.int .i64 y.1):=(hx12.cell0.1 _ _ hpl).trans y0
 have y12:w2.cell? ⟨pg,n*2+1,none⟩=some (.int .i64 y.2):=(hx12.cell0.1 _ _ hpl).trans y1
 have fz0:w2.frozen? ⟨pg,n*2,none⟩=false:=by have h9:=h2.spn;rw[HPV.O]at h9;exact h9.frozenAt _
 have fz1:w2.frozen? ⟨pg,n*2+1,none⟩=false:=by have h9:=h2.spn;rw[HPV.O]at h9;exact h9.frozenAt _
 clear p3 b1 o0 y0 y1 b0 b3 hw2 hx12 hy2 h2 f12 hb2 hpl hol fzp fzo hSl1 hbl1
 have p3:w2.cell? ⟨S,3,none⟩=some (.slice (some ⟨pg,0,none⟩) (G+1) pc):=by rw[HS.O,HG.O,<-HPV.O];exact H2.O.blk.all.1 3
 have p4:w2.cell? ⟨S,4,none⟩=some (.slice (some ⟨og,0,none⟩) (G+1) oc):=by rw[HS.O,HG.O,<-HOV.O];exact H2.O.blk.all.1 4
 have b1:w2.cell? ⟨b,1,none⟩=some (.int .i64 (n:Int)):=HT2.O.all.1 1
 have hSl2:S<w2.heap.size:=by rw[HS.O];exact H2.O.blk.lt
 have o0:=o02
 have HOVV:=aa hov
 clear o02 hov
 have KW:=aa (kr HK.O (H2.O.drewN 1) i)
 obtain⟨pl,hpl⟩:=exq (eY c.l3 c.en i)
 rw[<-HS.O,<-hpl]at KW
 have HPL:=aa hpl
 clear hpl
 go_upto_region 5 with fail
 refine aQ (by kernel_rfl) ?_
 refine tk (i:=0) (v:= ?_) rfl ?_ ?_
 rotate_left
 ·intro w'
  go_simp
  try with_reducible rfl
 simp only[Act.put,List.replicate,Array.replicate,lx]
 refine tk (i:=1) (v:= ?_) rfl ?_ ?_
 rotate_left
 ·intro w'
  go_simp
  try with_reducible rfl
 simp only[Act.put,List.replicate,Array.replicate,lx]
 refine tk (i:=2) (v:= ?_) rfl ?_ ?_
 rotate_left
 ·intro w'
  go_simp
  try with_reducible rfl
 simp only[Act.put,List.replicate,Array.replicate,lx]
 refine tk (i:=4) (v:= ?_) rfl ?_ ?_
 rotate_left
 ·intro w'
  go_simp
  try with_reducible rfl
 simp only[Act.put,List.replicate,Array.replicate,lx]
 refine tk (i:=6) (v:= ?_) rfl ?_ ?_
 rotate_left
 ·intro w'
  go_simp
  try with_reducible rfl
 simp only[Act.put,List.replicate,Array.replicate,lx]
 refine tk (i:=7) (v:= ?_) rfl ?_ ?_
 rotate_left
 ·intro w'
  go_simp
  try with_reducible rfl
 simp only[Act.put,List.replicate,Array.replicate,lx]
 refine tk (i:=8) (v:= ?_) rfl ?_ ?_
 rotate_left
 ·intro w'
  go_simp
  try with_reducible rfl
 simp only[Act.put,List.replicate,Array.replicate,lx]
 refine tk (i:=10) (v:= ?_) rfl ?_ ?_
 rotate_left
 ·intro w'
  go_simp
  try with_reducible rfl
 simp only[Act.put,List.replicate,Array.replicate,lx]
 refine tk (i:=14) (v:= ?_) rfl ?_ ?_
 rotate_left
 ·intro w'
  go_simp
  try with_reducible rfl
 simp only[Act.put,List.replicate,Array.replicate,lx]
 refine tk (i:=15) (v:= ?_) rfl ?_ ?_
 rotate_left
 ·intro w'
  go_simp
  try with_reducible rfl
 simp only[Act.put,List.replicate,Array.replicate,lx]
 refine aV (S:=(fun oi w'=>oi<19 ->w'.cell? ⟨S,3,none⟩=some (.slice (some ⟨pg,0,none⟩) (G+1) pc)/\w'.cell? ⟨S,4,none⟩=some (.slice (some ⟨og,0,none⟩) (G+1) oc)/\w'.cell? ⟨b,1,none⟩=some (.int .i64 (n:Int))/\w'.cell? ⟨og,n,none⟩=some (.int .i64 ov))) _ _ _ _ ?_
 refine tkJ (i:=3) (v:= ?_) rfl ⟨p3,p4,b1,o0⟩ ?_ ?_
 rotate_left
 ·intro w' hSw
  obtain⟨f1,f2,f3,f4⟩:=hSw
  go_simp
  try with_reducible rfl
 simp only[Act.put,List.replicate,Array.replicate,lx]
 refine tkJ (i:=5) (v:= ?_) rfl ⟨p3,p4,b1,o0⟩ ?_ ?_
 rotate_left
 ·intro w' hSw
  obtain⟨f1,f2,f3,f4⟩:=hSw
  go_simp
  try with_reducible rfl
 simp only[Act.put,List.replicate,Array.replicate,lx]
 refine tkJ (i:=9) (v:= ?_) rfl ⟨p3,p4,b1,o0⟩ ?_ ?_
 rotate_left
 ·intro w' hSw
  obtain⟨f1,f2,f3,f4⟩:=hSw
  go_simp
  try with_reducible rfl
 simp only[Act.put,List.replicate,Array.replicate,lx]
 refine tkJ (i:=11) (v:= ?_) rfl ⟨p3,p4,b1,o0⟩ ?_ ?_
 rotate_left
 ·intro w' hSw
  obtain⟨f1,f2,f3,f4⟩:=hSw
  go_simp
  try with_reducible rfl
 simp only[Act.put,List.replicate,Array.replicate,lx]
 refine tkJ (i:=12) (v:= ?_) rfl ⟨p3,p4,b1,o0⟩ ?_ ?_
 rotate_left
 ·intro w' hSw
  obtain⟨f1,f2,f3,f4⟩:=hSw
  go_simp
  try with_reducible rfl
 simp only[Act.put,List.replicate,Array.replicate,lx]
 refine tkJ (i:=13) (v:= ?_) rfl ⟨p3,p4,b1,o0⟩ ?_ ?_
 rotate_left
 ·intro w' hSw
  obtain⟨f1,f2,f3,f4⟩:=hSw
  go_simp
  try with_reducible rfl
 simp only[Act.put,List.replicate,Array.replicate,lx]
 refine ae (i:=16) rfl rfl (by kernel_rfl) (fun K hK=> ?_)
 go_simp
 refine KW.O.mono ?_
 rintro e w9 ⟨rfl,rfl⟩
 go_simp
 refine hK.O _ _ (fun _=>⟨p3,p4,b1,o0⟩) ?_
 clear hK K
 simp only[Act.put,List.replicate,Array.replicate,lx]
 refine tkJ (i:=17) (v:= ?_) rfl ⟨p3,p4,b1,o0⟩ ?_ ?_
 rotate_left
 ·intro w' hSw
  obtain⟨f1,f2,f3,f4⟩:=hSw
  go_simp
  try with_reducible rfl
 simp only[Act.put,List.replicate,Array.replicate,lx]
 refine tkJ (i:=18) (v:= ?_) rfl ⟨p3,p4,b1,o0⟩ ?_ ?_
 rotate_left
 ·intro w' hSw
  obtain⟨f1,f2,f3,f4⟩:=hSw
  go_simp
  try with_reducible rfl
 simp only[Act.put,List.replicate,Array.replicate,lx]
 refine ae (i:=19) rfl rfl (by kernel_rfl) (fun K hK=> ?_)
 go_simp
 refine hK.O _ _ (fun h=>by omega) ?_
 clear hK K
 refine aP (by kernel_rfl) ?_ _
 generalize hw3:World.setCell (World.setCell _ _ _) _ _=w3
 have hp3:=SG.span HK.O (H2.O.drewN 1) (x:=n) (by have:=HG.O;omega) HPV.O ov (pl:Int)
 rw[hw3]at hp3
 obtain⟨h3,f3⟩:=hp3
 have f3:=(F2.O.drewN 1).trans f3
 have ht3:=((BK.drewN HT2.O 1).set (p:=⟨pg,n*2,none⟩) (fun e=>HNB.O (.inr (.inr (.inl (by rw[HPV.O];exact congrArg some e.symm))))) (.int .i64 ov)).set (p:=⟨pg,n*2+1,none⟩) (fun e=>HNB.O (.inr (.inr (.inl (by rw[HPV.O];exact congrArg some e.symm))))) (.int .i64 (pl:Int))
 rw[hw3]at ht3
 have hy3:=((BK.drewN HY2.O 1).set (p:=⟨pg,n*2,none⟩) (fun e=>HNY.O (.inr (.inr (.inl (by rw[HPV.O];exact congrArg some e.symm))))) (.int .i64 ov)).set (p:=⟨pg,n*2+1,none⟩) (fun e=>HNY.O (.inr (.inr (.inl (by rw[HPV.O];exact congrArg some e.symm))))) (.int .i64 (pl:Int))
 rw[hw3]at hy3
 have KV:=aa (V.O _ w3 nx h3 HNX.O)
 rw[<-HS.O]at KV
 have HT3:=aa ht3
 have HY3:=aa hy3
 have F3:=aa f3
 have b2':w3.cell? ⟨b,2,none⟩=some (.int .i64 nx):=ht3.all.1 2
 have hbl3:=ht3.lt
 have hyl3:=hy3.lt
 clear hw3 h3 f3 ht3 hy3 p3 p4 b1 o0 y02 y12 fz0 fz1 hSl2 hol2 hpl2 KW hbl2 hyl2
 go_wp2_with fail
 refine KV.O.mono ?_
 rintro e w4 ⟨d4,rfl,h4,f4,ha⟩
 obtain⟨R,hR⟩:=exq (evK c i K')
 rw[<-hR]at ha ⊢
 clear KV b2'
 cases R with
 |some ms=>
  have HW:Hid (cu c d w ((evK c i K').map ((beg n+1,eY c.l3 c.en i):: ·)) (.returned (.bool true)) w4):=by
   rw[<-hR]
   refine⟨d4,rfl,h4,F3.O.trans f4,?_⟩
   show d4.sp=(fE d.sp d.op ((beg n+1,eY c.l3 c.en i)::ms)).1/\d4.op=(fE d.sp d.op ((beg n+1,eY c.l3 c.en i)::ms)).2
   rw[lw _ _ _ _ _ hgn.1,<-HOVV.O,<-HPL.O]
   exact ha
  clear h4 f4 ha hR
  go_wp2_with fail
  go_ret
  exact HW.O
 |none=>
  have ht4:=BK.sf HT3.O f4 HNB.O
  have hy4:=BK.sf HY3.O f4 HNY.O
  have hp5:=SG.span HK.O h4 (x:=n) (by have:=HG.O;omega) HPV.O y.1 y.2
  have hsp5:d4.sp.set n (y.1,y.2)=d.sp:=by
   rw[ha.1]
   show (d.sp.set n (ov,(pl:Int))).set n (y.1,y.2)=d.sp
   rw[List.set_set]
   exact iD HY.O
  have p3:w4.cell? ⟨S,3,none⟩=some (.slice (some ⟨pg,0,none⟩) (G+1) pc):=by rw[HS.O,HG.O,<-HPV.O];exact h4.blk.all.1 3
  have b1:w4.cell? ⟨b,1,none⟩=some (.int .i64 (n:Int)):=ht4.all.1 1
  have y0:w4.cell? ⟨b2,0,none⟩=some (.int .i64 y.1):=hy4.all.1 0
  have y1:w4.cell? ⟨b2,1,none⟩=some (.int .i64 y.2):=hy4.all.1 1
  have hSl4:S<w4.heap.size:=by rw[HS.O];exact h4.blk.lt
  obtain⟨pg',pc',og',oc',e1,_,hpl4,_,⟨y',_,z0,z1⟩,_,fz,_⟩:=h4.grp (x:=n) (by have:=HG.O;omega)
  rw[HPV.O]at e1
  cases e1
  have fz0:=fz (n*2)
  have fz1:=fz (n*2+1)
  have hbl4:=ht4.lt
  have hyl4:=hy4.lt
  have HP5:=aa hp5
  have HSP5:=aa hsp5
  have HA:=aa ha
  have F4:=aa (F3.O.trans f4)
  have HR:=aa hR
  clear hp5 hsp5 ha f4 h4 ht4 hy4 fz hR
  go_upto_region 8 with fail
  refine aQ (by kernel_rfl) ?_
  refine tk (i:=0) (v:= ?_) rfl ?_ ?_
  rotate_left
  ·intro w'
   go_simp
   try with_reducible rfl
  simp only[Act.put,List.replicate,Array.replicate,lx]
  refine tk (i:=1) (v:= ?_) rfl ?_ ?_
  rotate_left
  ·intro w'
   go_simp
   try with_reducible rfl
  simp only[Act.put,List.replicate,Array.replicate,lx]
  refine tk (i:=2) (v:= ?_) rfl ?_ ?_
  rotate_left
  ·intro w'
   go_simp
   try with_reducible rfl
  simp only[Act.put,List.replicate,Array.replicate,lx]
  refine tk (i:=4) (v:= ?_) rfl ?_ ?_
  rotate_left
  ·intro w'
   go_simp
   try with_reducible rfl
  simp only[Act.put,List.replicate,Array.replicate,lx]
  refine aV (S:=(fun oi w'=>oi<8 ->w'.cell? ⟨S,3,none⟩=some (.slice (some ⟨pg,0,none⟩) (G+1) pc)/\w'.cell? ⟨b,1,none⟩=some (.int .i64 (n:Int))/\w'.cell? ⟨b2,0,none⟩=some (.int .i64 y.1)/\w'.cell? ⟨b2,1,none⟩=some (.int .i64 y.2))) _ _ _ _ ?_
  refine tkJ (i:=3) (v:= ?_) rfl ⟨p3,b1,y0,y1⟩ ?_ ?_
  rotate_left
  ·intro w' hSw
   obtain⟨f1,f2,f3,f4⟩:=hSw
   go_simp
   try with_reducible rfl
  simp only[Act.put,List.replicate,Array.replicate,lx]
  refine tkJ (i:=5) (v:= ?_) rfl ⟨p3,b1,y0,y1⟩ ?_ ?_
  rotate_left
  ·intro w' hSw
   obtain⟨f1,f2,f3,f4⟩:=hSw
   go_simp
   try with_reducible rfl
  simp only[Act.put,List.replicate,Array.replicate,lx]
  refine tkJ (i:=6) (v:= ?_) rfl ⟨p3,b1,y0,y1⟩ ?_ ?_
  rotate_left
  ·intro w' hSw
   obtain⟨f1,f2,f3,f4⟩:=hSw
   go_simp
   try with_reducible rfl
  simp only[Act.put,List.replicate,Array.replicate,lx]
  refine tkJ (i:=7) (v:= ?_) rfl ⟨p3,b1,y0,y1⟩ ?_ ?_
  rotate_left
  ·intro w' hSw
   obtain⟨f1,f2,f3,f4⟩:=hSw
   go_simp
   try with_reducible rfl
  simp only[Act.put,List.replicate,Array.replicate,lx]
  refine ae (i:=8) rfl rfl (by kernel_rfl) (fun K hK=> ?_)
  go_simp
  refine hK.O _ _ (fun h=>by omega) ?_
  clear hK K
  refine aP (by kernel_rfl) ?_ _
  generalize hw5:World.drew (World.setCell (World.setCell _ _ _) _ _)=w5
  have HW5:Hid (cu c d w ((evK c i K').map ((beg n+1,eY c.l3 c.en i):: ·)) (.returned (.bool false)) w5):=by
   rw[<-hw5,<-HR.O]
   exact⟨_,rfl,SG.drewN HP5.O.1 1,SF.drewN (F4.O.trans HP5.O.2) 1,HSP5.O,HA.O.2⟩
  clear HP5 HSP5 HA F4
  clear hw5 p3 b1 y0 y1 z0 z1 fz0 fz1
  go_wp2_with fail
  go_ret
  exact HW5.O
end Go.Proofs.YtfnanjbleifjkaaGreatDoor.G
