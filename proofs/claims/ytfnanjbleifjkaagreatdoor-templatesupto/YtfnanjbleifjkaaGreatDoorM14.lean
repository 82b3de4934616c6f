import Derived.Test.YtfnanjbleifjkaaGreatDoorM13
set_option linter.unusedVariables false
set_option linter.unusedSimpArgs false
set_option maxHeartbeats 2000000
set_option maxRecDepth 100000
namespace Go.Proofs.YtfnanjbleifjkaaGreatDoor.G
variable {w w1:World} {base clk mb n q:Nat}
open Go.RowKit
def bR (s:List Nat×List Ins) (p:Pt):List Nat×List Ins:=
 (s.1++[(bl p (dr false s.2)).length],df false s.2.length (bl p (dr false s.2)++[bare 2]))
theorem qa (s:List Nat×List Ins) (p:Pt):(bR s p).1=s.1++[(bl p (dr false s.2)).length]:=rfl
theorem qc (s:List Nat×List Ins) (p:Pt):(bR s p).2=df false s.2.length (bl p (dr false s.2)++[bare 2]):=rfl
theorem qf (last:Pt):∀(init:List Pt) (js:List Nat) (l:List Ins),dG (init++[last]) js l=((init.foldl bR (js,l)).1,bl last (init.foldl bR (js,l)).2)
 |[],js,l=>by simp[dG]
 |[p],js,l=>by simp[dG,bR]
 |p::q::ps,js,l=>by
  have h:=qf last (q::ps) (js++[(bl p (dr false l)).length]) (df false l.length (bl p (dr false l)++[bare 2]))
  simp only[List.cons_append]at h ⊢
  rw[dG]
  exact h
theorem ku (s:List Nat×List Ins) (p:Pt):(bR s p).2.length=s.2.length+isz p+2:=by
 simp[bR,gu,aN,bo]
 omega
theorem tp:∀(init:List Pt) (s:List Nat×List Ins),(init.foldl bR s).2.length=s.2.length+cx init+2*init.length/\(init.foldl bR s).1.length=s.1.length+init.length
 |[],s=>by simp[cx]
 |p::ps,s=>by
  have h:=tp ps (bR s p)
  rw[List.foldl_cons,h.1,h.2,ku,cx]
  simp[bR]
  omega
theorem vK:∀(init:List Pt) (s:List Nat×List Ins),(∀k,k∈s.1 ->k<s.2.length) ->∀k,k∈(init.foldl bR s).1 ->k<(init.foldl bR s).2.length
 |[],s,h=>h
 |p::ps,s,h=>by
  rw[List.foldl_cons]
  refine vK ps _ (fun k hk=> ?_)
  rw[ku]
  rcases List.mem_append.1 hk with hk|hk
  ·have:=h k hk;omega
  ·simp[aN,bo]at hk;omega
theorem qe (ps:List Pt) (d:Nat) (s:List Nat×List Ins) (hd:d<ps.length):(ps.take (d+1)).foldl bR s=bR ((ps.take d).foldl bR s) ps[d]:=by
 rw[List.take_succ_eq_append_getElem hd,List.foldl_append]
 rfl
theorem sa (ps:List Pt) (p0:Option Addr) (c0:Nat) (w:World) (b base:Nat) (l:List Ins) (ih:∀p,p∈ps ->ir p) (hlen:1<=ps.length) (hd:BG w b base l) (hrow:Row w (Pb base b) ⟨2,p0,ps.length,c0,0,0,false,0,0,0,false⟩ ps) (hw:∀p,p∈ps ->WOK p) (hn:l.length+cx ps+2*(ps.length-1)<=99000):
  Calls Tryz.prog 138 #[.pointer (some ⟨b,0,none⟩),.slice p0 ps.length c0] w fun e w'=>e= .returned (.tuple #[])/\BG w' b base (bl (.alt ps) l)/\BF base b w w':=by
 have HD:=aa hd
 have HIH:=aa ih
 have HW:=aa hw
 have HN:=aa hn
 have hbw:b<w.heap.size:=Nat.lt_of_lt_of_le hd.lt hd.le
 have hbb:=hd.lt
 have hbs:=hd.le
 obtain⟨g,hp0,hnc0⟩:∃g,p0=some ⟨g,0,none⟩/\ps.length<=c0:=by
  obtain⟨g,_,h1,h2,_⟩:=hrow.at 0 (by omega)
  exact⟨g,h1,h2⟩
 subst hp0
 have HR:=aa hrow
 obtain⟨n,hnn⟩:∃n,ps.length=n+1:=⟨ps.length-1,by omega⟩
 have HNN:=aa hnn
 rw[hnn]at hnc0 ⊢
 have hn99:n<=99000:=by omega
 clear hd hrow ih hw hn hlen hnn
 obtain⟨i0,hi,hz0,hz1,hz2⟩:=info_parts kT
 go_enter Tryz.func138,Tryz.ntmps138
 go_wp2_with fail
 go_loopg [5,18] n (fun gk fv i wr'=>∃d:Nat,d+gk=n/\i= .int .i64 d/\wr'.ownsRow w.heap.size 3 1 fv d (kO ((ps.take d).foldl bR ([],l)).1)/\BG wr' b base ((ps.take d).foldl bR ([],l)).2/\BF base b w wr')
 case atStart=>exact⟨0,by omega,rfl,⟨rfl,.inl ⟨rfl,rfl⟩⟩,HD.O,BF.refl _ _ _⟩
 case round=>
  obtain⟨d,hdn,rfl,hown,hdr,hx⟩:=hrel
  obtain⟨p5,c5,rfl⟩:=aA hown
  have HOW:=aa hown
  have HX5:=aa hx
  have HD5:=aa hdr
  have hlen:=tp (ps.take d) ([],l)
  have HLEN:=aa hlen
  have hsz5:w.heap.size<=wr.heap.size:=hx.size
  clear hown hdr hlen
  obtain⟨ks,hks⟩:=exq (((ps.take d).foldl bR ([],l)).1)
  obtain⟨l5,hl5⟩:=exq (((ps.take d).foldl bR ([],l)).2)
  rw[<-hks]at HOW
  rw[<-hl5]at HD5
  rw[<-hks,<-hl5]at HLEN
  have HKS:=aa hks
  have HL5:=aa hl5
  clear hks hl5
  have HL5N:=aa HLEN.O.1
  have HKSN:=aa (show ks.length=d by have:=HLEN.O.2;rw[this];simp[HNN.O];omega)
  cases gk with
  |succ gk=>
   have hd':(d:Int)<(n:Int):=by omega
   obtain⟨g1,u,hv,hnc,hB,hlt,hrange,hq⟩:=(HR.O.bf hx).at d (show d<ps.length by rw[HNN.O];omega)
   simp only at hv
   cases hv
   have hsj:l5.length+isz (ps[d]'(by rw[HNN.O];omega))+2<=99000:=by
    have h1:=jT ps d (by rw[HNN.O];omega)
    have h2:=HN.O
    have h3:=HL5N.O
    rw[List.length_take,HNN.O]at h3
    rw[HNN.O]at h2
    dsimp only at h3
    omega
   have HSJ:=aa hsj
   have HQ:=aa hq
   clear hx hq hB hsj
   obtain⟨kd',p',n',c',lo',hi',hg',gr',l',m',z'⟩:=u
   have k0:=hrange 0 _ rfl;have k1:=hrange 1 _ rfl;have k2:=hrange 2 _ rfl;have k3:=hrange 3 _ rfl;have k4:=hrange 4 _ rfl
   have k5:=hrange 5 _ rfl;have k6:=hrange 6 _ rfl;have k7:=hrange 7 _ rfl;have k8:=hrange 8 _ rfl
   simp only[Nat.add_zero]at k0
   clear hrange
   have HFK:=aa (fun w (hd:BG w b base l5)=>lL false hd (by have:=HSJ.O;omega))
   go_wp2_with fail
   refine (HFK.O _ (HD5.O.alloc _)).mono ?_
   rintro e w6 ⟨rfl,hd6,hx6⟩
   have HI6:=aa (show BK w6 wr.heap.size (.cells #[.int .i64 kd',.slice p' n' c',.int .u64 lo',.int .u64 hi',.bool hg',.int .i64 gr',.int .i64 l',.int .i64 m',.bool z'] 101)from BK.bf (BK.new _ _) hx6 (by omega) (by decide))
   have HX6:=aa ((HX5.O.alloc _).trans hx6)
   have HO6:=aa (cE (HOW.O.alloc _) hx6 hbw)
   have HA7:=aa (HIH.O (ps[d]'(by rw[HNN.O];omega)) (List.getElem_mem _) ⟨kd',p',n',c',lo',hi',hg',gr',l',m',z'⟩ w6 b base _ hd6 ((HQ.O.bf ((BF.refl _ _ _).alloc _)).bf hx6) (HW.O _ (List.getElem_mem _)) (by rw[bo];have:=HSJ.O;omega))
   obtain⟨hcI,hfI⟩:=HI6.O.all
   obtain⟨n5,hn5⟩:=exq (l5.length)
   rw[<-hn5]
   have HN5:=aa hn5
   clear hd6 hx6 k0 k1 k2 k3 k4 k5 k6 k7 k8 hn5
   go_wp2_with fail
   refine (show Calls _ _ _ _ _ from HA7.O).mono ?_
   rintro e w7 ⟨rfl,hd7,hx7⟩
   have HX7:=aa (HX6.O.trans hx7)
   have HO7:=aa (cE HO6.O hx7 hbw)
   have HP7:=aa (gP 2 hd7 (by rw[aN,bo];have:=HSJ.O;omega))
   clear hd7 hx7 hcI hfI
   go_wp2_with fail
   refine HP7.O.mono ?_
   rintro e w8 ⟨rfl,hd8,hx8⟩
   have HX8:=aa (HX7.O.trans hx8)
   have HO8:=aa (cE HO7.O hx8 hbw)
   have HD8:=aa hd8
   have hs8:w.heap.size<=w8.heap.size:=HX8.O.size
   obtain⟨n8,hn8⟩:=exq ((bl (ps[d]'(by rw[HNN.O];omega)) (dr false l5)).length)
   rw[<-hn8]
   have HN8:=aa hn8
   clear hd8 hx8 hn8
   go_wp2_with (at_builtin;refine wpList_append_own _ rfl (.tmp 27) (.tmp 31) 199 rfl w.heap.size 3 i0 (.int .i64 0) 1 8 Tryz.underlying199 hi hz0 hz1 hz2 rfl (by decide) (.slice p5 d c5) d (kO ks) rfl (HO8.O.alloc _) ⟨w8.heap.size,0,none⟩ 1 1 [.int .i64 (n8:Int)] rfl rfl (bK _ _ _) (by simp[Value.oneCell']) (by unfold maxLen;omega) (by omega) (by simp;omega) ?_;intro v9 w9 hown9 hgrow9 hiff9)
   have HO9:=aa hown9
   have HX9:=aa (BF.grown (HX8.O.alloc _) hgrow9 (fun k hk=> .inr (.inl (aG HO8.O k hk))))
   have HD9:=aa (BG.grownNum (HD8.O.alloc _) (HO8.O.alloc _) hgrow9 hbw)
   have HL9:=aa (jY false (k:=n5) HD9.O (by rw[HN5.O];simp[aN,bo];omega) (by simp[aN,bo];have:=HSJ.O;omega))
   clear hown9 hgrow9 hiff9
   refine HL9.O.mono ?_
   rintro e w10 ⟨rfl,hd10,hx10⟩
   have HX10:=aa (HX9.O.trans hx10)
   have HD10:=aa hd10
   have HO10:=aa (cE HO9.O hx10 hbw)
   clear hd10 hx10
   go_wp2_with fail
   go_roundg gk
   case measure=>omega
   case rel=>
    refine⟨d+1,by omega,by simp,?_,?_,HX10.O⟩
    ·rw[qe ps d _ (by rw[HNN.O];omega),qa,<-HKS.O,<-HL5.O,<-HN8.O,oD]
     exact HO10.O
    ·rw[qe ps d _ (by rw[HNN.O];omega),qc,<-HL5.O,<-HN5.O]
     have h:=HD10.O
     unfold df
     exact h
  |zero=>
   obtain rfl:d=n:=by omega
   obtain⟨g1,u,hv,hnc,hB,hlt,hrange,hq⟩:=(HR.O.bf hx).at d (show d<ps.length by rw[HNN.O];omega)
   simp only at hv
   cases hv
   have hsj:l5.length+isz (ps[d]'(by rw[HNN.O];omega))<=99000:=by
    have h1:=jT ps d (by rw[HNN.O];omega)
    have h2:=HN.O
    have h3:=HL5N.O
    rw[List.length_take,HNN.O]at h3
    rw[HNN.O]at h2
    dsimp only at h3
    omega
   have HSJ:=aa hsj
   have HQ:=aa hq
   clear hx hq hB hsj hdn
   obtain⟨kd',p',n',c',lo',hi',hg',gr',l',m',z'⟩:=u
   have k0:=hrange 0 _ rfl;have k1:=hrange 1 _ rfl;have k2:=hrange 2 _ rfl;have k3:=hrange 3 _ rfl;have k4:=hrange 4 _ rfl
   have k5:=hrange 5 _ rfl;have k6:=hrange 6 _ rfl;have k7:=hrange 7 _ rfl;have k8:=hrange 8 _ rfl
   simp only[Nat.add_zero]at k0
   clear hrange
   have HA7:=aa (HIH.O (ps[d]'(by rw[HNN.O];omega)) (List.getElem_mem _) ⟨kd',p',n',c',lo',hi',hg',gr',l',m',z'⟩ wr b base _ HD5.O HQ.O (HW.O _ (List.getElem_mem _)) (by have:=HSJ.O;omega))
   go_wp2_with fail
   refine (show Calls _ _ _ _ _ from HA7.O).mono ?_
   rintro e w7 ⟨rfl,hd7,hx7⟩
   have HX7:=aa (HX5.O.trans hx7)
   have HO7:=aa (cE HOW.O hx7 hbw)
   have HD7:=aa hd7
   obtain⟨l7,hl7⟩:=exq (bl (ps[d]'(by rw[HNN.O];omega)) l5)
   rw[<-hl7]at HD7
   have HL7:=aa hl7
   have HL7N:=aa (show l7.length<=99000 by rw[hl7,aN];have:=HSJ.O;omega)
   clear hd7 hx7 k0 k1 k2 k3 k4 k5 k6 k7 k8 hl7
   go_wp2_with fail
   go_loopg [45] d (fun gk i wr'=>∃e:Nat,e+gk=d/\i= .int .i64 e/\BG wr' b base ((ks.take e).foldl (fun l k=>iC k l) l7)/\BF base b w wr'/\wr'.ownsRow w.heap.size 3 1 (.slice p5 d c5) d (kO ks))
   case atStart=>exact⟨0,by omega,rfl,HD7.O,HX7.O,HO7.O⟩
   case round=>
    obtain⟨e,he,rfl,hdr,hx,hown⟩:=hrel
    have HO9:=aa hown
    have HX9:=aa hx
    have HD9:=aa hdr
    clear hdr hx
    cases gk with
    |succ gk=>
     obtain⟨gf,c9,hv,hnc9,hgf,hcf⟩:=mu (j:=e) hown (by rw[HKSN.O];omega)
     simp only[Value.slice.injEq,true_and]at hv
     obtain⟨rfl,rfl⟩:=hv
     have he9:(e:Int)<(d:Int):=by omega
     obtain⟨L,hL⟩:=exq ((ks.take e).foldl (fun l k=>iC k l) l7)
     rw[<-hL]at HD9
     have hLn:L.length=l7.length:=by rw[hL,fD]
     have hlt9:ks[e]'(by rw[HKSN.O];omega)<L.length:=by
      have:=vK (ps.take d) ([],l) (by simp)
      rw[<-HKS.O,<-HL5.O]at this
      have h2:=this _ (List.getElem_mem (l:=ks) (n:=e) (by rw[HKSN.O];omega))
      rw[hLn,HL7.O,aN]
      omega
     obtain⟨kd,hkd⟩:=exq (ks[e]'(by rw[HKSN.O];omega))
     rw[<-hkd]at hcf hlt9
     have HKD:=aa hkd
     have HLL:=aa hL
     obtain⟨g9,c9',hb9,ho9,hnc9',hg9,hgl9,hfz9,hcell9⟩:=HD9.O.parts (by omega)
     obtain⟨i9,hi9⟩:∃i9,L[kd]? =some i9:=⟨L[kd],by simp[hlt9]⟩
     have hc4:=hcell9 (kd*7+4) _ (by rw[dH L kd 4 i9 hi9 (by omega)];rfl)
     have hf4:=hfz9 (kd*7+4)
     have hbl9:=hb9.lt
     have hb0:wr.cell? ⟨b,0,none⟩=some (.slice (some ⟨g9,0,none⟩) L.length c9'):=hb9.all.1 0
     have HB9:=aa hb9
     have HRO9:=aa ho9
     have HLN:=aa (show L.length<=99000 by rw[hLn];exact HL7N.O)
     obtain⟨nL,hnL⟩:=exq (L.length)
     have hnL9:nL<=99000:=by rw[hnL];exact HLN.O
     have hk9:(kd:Int)<(nL:Int):=by omega
     have HNL:=aa hnL
     rw[<-hnL]at hb0 hnc9'
     clear hown hkd hL hLn hb9 ho9 hfz9 hcell9 hi9 hlt9 hnL
     go_wp2_with fail
     go_region
     all_goals
      go_wp2_with fail
      go_roundg gk
      case measure=>omega
      case rel=>
       refine⟨e+1,by omega,by simp,?_,?_,?_⟩
       ·rw[nW _ ks e l7 (by rw[HKSN.O];omega),<-HKD.O,<-HLL.O]
        have h:=BG.way (w:=wr.drew) HB9.O.drew HRO9.O.drew hbb HD9.O.le hg9 false nL (k:=kd) (by rw[<-HNL.O];omega)
        unfold iC
        rw[<-HNL.O]
        exact h
       ·exact BF.setCell (p:=⟨g9,kd*7+4,none⟩) (HX9.O.drew) (.inr (.inr ⟨hg9,(iX (World.ownsRow.drew HRO9.O) g9 rfl).2⟩)) _
       ·exact cE HO9.O (BF.setCell (p:=⟨g9,kd*7+4,none⟩) ((BF.refl base b wr).drew) (.inr (.inr ⟨hg9,(iX (World.ownsRow.drew HRO9.O) g9 rfl).2⟩)) _) hbw
    |zero=>
     obtain rfl:e=d:=by omega
     clear he hown
     go_wp2_with fail
     go_end0
     refine⟨rfl,?_,HX9.O⟩
     have hsplit:ps=ps.take e++[ps[e]'(by rw[HNN.O];omega)]:=by
      rw[<-List.take_succ_eq_append_getElem (by rw[HNN.O];omega),List.take_of_length_le (by rw[HNN.O];omega)]
     have halt:dG ps [] l=(ks,l7):=by
      rw[HL7.O,HKS.O,HL5.O]
      conv=>lhs;rw[hsplit]
      exact qf _ _ _ _
     rw[bl,halt]
     dsimp only
     have h:=HD9.O
     rw[List.take_of_length_le (by rw[HKSN.O];omega)]at h
     exact h
theorem vE (ps:List Pt) (ih:∀p,p∈ps ->ir p):ir (.alt ps):=by
 intro v w b base l hd hp hw hn
 obtain⟨hrow,hkd⟩:=hp.row
 obtain⟨p,n,c,rfl,hnl,hr⟩:=hp
 subst hnl
 have hrow':Row w (Pb base b) ⟨2,p,ps.length,c,0,0,false,0,0,0,false⟩ ps:=hrow
 have KEY:=aa (sa ps p c _ b base l ih hw.2.2.2 (hd.alloc (Obj.cells #[.int .i64 2,.slice p ps.length c,.int .u64 0,.int .u64 0,.bool false,.int .i64 0,.int .i64 0,.int .i64 0,.bool false] 101)) (hrow'.bf ((BF.refl _ _ _).alloc _)) (jc hw.1) (by simp only[isz]at hn;omega))
 clear hd hr hrow hrow' hw hn ih hkd
 unfold PV.val
 dsimp only
 go_enter Tryz.func88,Tryz.ntmps88
 go_wp2_with fail
 refine KEY.O.mono ?_
 rintro e w1 ⟨rfl,hd1,hx1⟩
 have HX1:=aa hx1
 have HD1:=aa hd1
 clear hx1 hd1
 go_wp2_with fail
 go_end0
 exact⟨rfl,HD1.O,((BF.refl _ _ _).alloc _).trans HX1.O⟩
theorem yb:∀q,ir q:=by
 have key:∀(n:Nat) (q:Pt),SizeOf.sizeOf q<n ->ir q:=by
  intro n
  induction n with
  |zero=>intro q hq;omega
  |succ n ih=>
   intro q hq
   have ih':∀x,x∈jW q ->ir x:=fun x hx=>ih x (by have:=tO q x hx;omega)
   cases q with
   |single c=>exact pZ c
   |seq l=>exact vF l ih'
   |alt l=>exact vE l ih'
   |wrap q k=>exact uD q k (ih' q (by simp[jW]))
   |count q a b c=>exact rV q a b c (ih' q (by simp[jW]))
 exact fun q=>key (SizeOf.sizeOf q+1) q (by omega)
def bB (q:Pt):List Ins:=bl q []++[bare 6]
theorem ik (q:Pt):(bB q).length=isz q+1:=by simp[bB,aN]
theorem dX {b b':Nat} {e:TypeId} {size:Nat} {v:Value} {xs:List Value} (h:w.ownsRow b e size v n xs) (hb:b'<=b):w.ownsRow b' e size v n xs:=by
 refine⟨h.1,?_⟩
 rcases h.2 with hn|⟨g,cap,cur,rfl,hg,rest⟩
 ·exact .inl hn
 ·exact .inr ⟨g,cap,cur,rfl,by omega,rest⟩
theorem nh (q:Pt) (v:PV) (B:Nat ->Prop) (w:World) (hq:PR w B q v) (hB:∀g,B g ->g<w.heap.size) (hw:WOK q) (hn:isz q<=98000):
  Calls Tryz.prog 47 #[v.val] w fun e w'=>∃p c,e= .returned (.slice p (bB q).length c)/\w'.ownsRow w.heap.size 192 7 (.slice p (bB q).length c) (bB q).length (bY (bB q))/\Ex [] w w':=by
 have HQ:=aa hq
 have HB:=aa hB
 have HW:=aa hw
 clear hq hB hw
 obtain⟨kd',p',n',c',lo',hi',hg',gr',l',m',z'⟩:=v
 unfold PV.val
 dsimp only
 go_enter Tryz.func47,Tryz.ntmps47
 go_wp2_with fail
 have hd0:BG ((w.alloc (Obj.cells #[.int .i64 kd',.slice p' n' c',.int .u64 lo',.int .u64 hi',.bool hg',.int .i64 gr',.int .i64 l',.int .i64 m',.bool z'] 101)).alloc (Obj.cells #[.slice none 0 0] 187)) (w.heap.size+1) (w.heap.size+2) []:=
  ⟨by omega,by simp,_,by simpa using BK.new (w.alloc (Obj.cells #[.int .i64 kd',.slice p' n' c',.int .u64 lo',.int .u64 hi',.bool hg',.int .i64 gr',.int .i64 l',.int .i64 m',.bool z'] 101)) (Obj.cells #[.slice none 0 0] 187),World.ownsRow_nil _ _ _ _⟩
 have hx0:Ex [] w ((w.alloc (Obj.cells #[.int .i64 kd',.slice p' n' c',.int .u64 lo',.int .u64 hi',.bool hg',.int .i64 gr',.int .i64 l',.int .i64 m',.bool z'] 101)).alloc (Obj.cells #[.slice none 0 0] 187)):=((Ex.refl _ _).alloc _).alloc _
 refine (yb q ⟨kd',p',n',c',lo',hi',hg',gr',l',m',z'⟩ _ (w.heap.size+1) (w.heap.size+2) [] hd0 (HQ.O.frame (fun g hg=>⟨by have:=HB.O g hg;omega,by have:=HB.O g hg;omega⟩) hx0.size (fun g hg hlt=>hx0.block g hlt (by simp)) _ _) HW.O (by simp;omega)).mono ?_
 rintro e w1 ⟨rfl,hd1,hx1⟩
 have HX1:=aa ((EB.ofEx hx0 (Nat.le_refl _)).trans ((hx1.toEB hd0.le).mono (B':=w.heap.size) (l':=[]) (by omega) (by simp)))
 have HD1:=aa hd1
 clear hx1 hd1 hd0 hx0
 go_wp2_with fail
 refine (gP 6 HD1.O (by rw[aN];simp;omega)).mono ?_
 rintro e w2 ⟨rfl,hd2,hx2⟩
 have HX2:=aa (HX1.O.trans ((hx2.toEB HD1.O.le).mono (B':=w.heap.size) (l':=[]) (by omega) (by simp)))
 obtain⟨v2,hb2,ho2⟩:=hd2.ex
 obtain⟨p2,c2,rfl⟩:=aA ho2
 obtain⟨hcb,hfb⟩:=hb2.all
 have HO2:=aa ho2
 clear hx2 hd2 ho2 hb2
 go_wp2_with fail
 go_ret
 exact⟨p2,c2,by simp[bB],dX HO2.O (by omega),HX2.O.toEx⟩
theorem fR:Maps.Keyed Tryz.prog 112:=
 Maps.Keyed.of_law (deep_law_laid yy (m:=4) (by omega) (of_decide_eq_true (by kernel_rfl)) (by kernel_rfl) (by rw[Tryz.underlying112]))
def cJ (s:Nat×Nat):Value:= .agg #[.int .i64 (s.1:Int),.int .i64 (s.2:Int)]
theorem xH {s t:Nat×Nat} (h:cJ s=cJ t):s=t:=by
 unfold cJ at h
 simp only[Value.agg.injEq,Array.mk.injEq,List.cons.injEq,Value.int.injEq,true_and,and_true]at h
 exact Prod.ext (by have:=h.1;omega) (by have:=h.2;omega)
theorem qp:Tryz.prog.cellsOf 112=2:=by kernel_rfl
theorem zG (n:Nat) (hn:n<=1000000):(Lit.int .i64 n).wf=true:=by
 simp only[Lit.wf,decide_eq_true_eq,Bool.and_eq_true]
 constructor<;>first|omega|(show _<=(9223372036854775807:Int);omega)|(show (-9223372036854775808:Int)<=_;omega)
theorem ie (s:Nat×Nat) (h1:s.1<=1000000) (h2:s.2<=1000000):∃l,keyOf Tryz.prog 112 (cJ s)=some l:=by
 obtain⟨m,hm⟩:∃m,Tryz.prog.types.size+1=m+4:=⟨Tryz.prog.types.size-3,by have:Tryz.prog.types.size≥3:=of_decide_eq_true (by kernel_rfl);omega⟩
 have hform:(cJ s).formed Tryz.prog 112=true:=by simp[cJ,Value.formed,Tryz.underlying112,qp]
 have hkt:Tryz.prog.keyType 112=true:=by kernel_rfl
 have hint:∀n:Nat,n<=1000000 ->Tryz.prog.keyLits (m+3) 3 [.int .i64 n]=some [.int .i64 n]:=fun n hn=>by
  unfold Program.keyLits
  have:=zG n hn
  simp[Tryz.underlying3,this]
 unfold keyOf
 simp only[Tryz.underlying112,hkt,hform,Bool.and_self,if_true]
 have hall:Tryz.prog.keyLits (m+4) 112 [.int .i64 (s.1:Int),.int .i64 (s.2:Int)]=some [.int .i64 s.1,.int .i64 s.2]:=by
  unfold Program.keyLits
  simp[Tryz.underlying112,qp,zo,hint s.1 h1,hint s.2 h2,List.range,List.range.loop,List.mapM_cons]
 refine⟨.string (keyBytes [.int .i64 s.1,.int .i64 s.2]),?_⟩
 rw[hm,show (cJ s).cells.toList=[.int .i64 (s.1:Int),.int .i64 (s.2:Int)]from rfl,hall]
 rfl
def gC (es:Array MapEntry) (seen:List (Nat×Nat)):Prop:=es.toList.map (·.key)=seen.map cJ/\(∀s,s∈seen ->s.1<=1000000/\s.2<=1000000)/\∀e∈es.toList,e.val= .agg #[]
theorem gC.keyed {es:Array MapEntry} {seen:List (Nat×Nat)} (h:gC es seen):∀e∈es.toList,∃l,keyOf Tryz.prog 112 e.key=some l:=fun e he=>by
 have h1:e.key∈seen.map cJ:=by rw[<-h.1];exact List.mem_map_of_mem he
 obtain⟨s,hs,hk⟩:=List.mem_map.1 h1
 rw[<-hk]
 exact ie s (h.2.1 s hs).1 (h.2.1 s hs).2
theorem gC.has {es:Array MapEntry} {seen:List (Nat×Nat)} (h:gC es seen) (s:Nat×Nat):(∃e∈es.toList,e.key=cJ s)↔s∈seen:=by
 constructor
 ·rintro⟨e,he,hk⟩
  have h1:e.key∈seen.map cJ:=by rw[<-h.1];exact List.mem_map_of_mem he
  obtain⟨t,ht,hk'⟩:=List.mem_map.1 h1
  rw[hk]at hk'
  exact xH hk'▸ht
 ·intro hs
  have h1:cJ s∈es.toList.map (·.key):=by rw[h.1];exact List.mem_map_of_mem hs
  obtain⟨e,he,hk⟩:=List.mem_map.1 h1
  exact⟨e,he,hk⟩
theorem gC.push {es:Array MapEntry} {seen:List (Nat×Nat)} (h:gC es seen) (s:Nat×Nat) (h1:s.1<=1000000) (h2:s.2<=1000000) (clk:Nat):gC (es.push {key:=cJ s,val:= .agg #[],born:=clk}) (seen++[s]):=by
 refine⟨by simp[h.1],fun t ht=> ?_,fun e he=> ?_⟩
 ·rcases List.mem_append.1 ht with ht|ht
  ·exact h.2.1 t ht
  ·simp at ht;subst ht;exact⟨h1,h2⟩
 ·simp only[Array.toList_push,List.mem_append,List.mem_singleton]at he
  rcases he with he|rfl
  ·exact h.2.2 e he
  ·rfl
theorem xX (w:World):(zeroValue 267).run Tryz.prog w= .ok (.agg #[]) w:=by kernel_rfl
theorem oL {es:Array MapEntry} {seen:List (Nat×Nat)} {s:Nat×Nat} (hm:w.heap[mb]? =some (.map es clk)) (hk:gC es seen) (h1:s.1<=1000000) (h2:s.2<=1000000) (hno:s∉seen):
  (Instr.lookup 194 (.map (some mb)) (cJ s) true).run Tryz.prog w= .ok (.tuple #[.agg #[],.bool false]) w:=by
 obtain⟨l,hl⟩:=ie s h1 h2
 have hg:=MapKept.run_getObj_map (P:=Tryz.prog) hm
 have hc:=fR.check w es.isEmpty hl
 have hf:(Instr.findKey 112 (cJ s) es.toList).run Tryz.prog w= .ok none w:=by
  rcases fR.find w hl es.toList hk.keyed with⟨h,_⟩|⟨j,e,_,hj,he⟩
  ·exact h
  ·exact absurd ((hk.has s).1 ⟨e,List.mem_of_getElem? hj,he⟩) hno
 unfold Instr.lookup
 simp[run_underlying Tryz.underlying194,hg,hc,hf,xX]
theorem rH {es:Array MapEntry} {seen:List (Nat×Nat)} {s:Nat×Nat} (hm:w.heap[mb]? =some (.map es clk)) (hk:gC es seen) (h1:s.1<=1000000) (h2:s.2<=1000000) (hyes:s∈seen):
  (Instr.lookup 194 (.map (some mb)) (cJ s) true).run Tryz.prog w= .ok (.tuple #[.agg #[],.bool true]) w:=by
 obtain⟨l,hl⟩:=ie s h1 h2
 have hg:=MapKept.run_getObj_map (P:=Tryz.prog) hm
 have hc:=fR.check w es.isEmpty hl
 rcases fR.find w hl es.toList hk.keyed with⟨_,h⟩|⟨j,e,hf,hj,he⟩
 ·obtain⟨e,hm,he⟩:=(hk.has s).2 hyes
  exact absurd he (h e hm)
 ·have hv:=hk.2.2 e (List.mem_of_getElem? hj)
  unfold Instr.lookup
  simp[hv,run_underlying Tryz.underlying194,hg,hc,hf]
theorem xB {es:Array MapEntry} {seen:List (Nat×Nat)} {s:Nat×Nat} (v:Value) (hm:w.heap[mb]? =some (.map es clk)) (hk:gC es seen) (h1:s.1<=1000000) (h2:s.2<=1000000) (hno:s∉seen):
  (Instr.mapUpdate 194 (.map (some mb)) (cJ s) v).run Tryz.prog w= .ok () (my w mb (.map (es.push {key:=cJ s,val:=v,born:=clk}) (clk+1))):=by
 obtain⟨l,hl⟩:=ie s h1 h2
 have hg:=MapKept.run_getObj_map (P:=Tryz.prog) hm
 have hc:=fR.check w false hl
 have hf:(Instr.findKey 112 (cJ s) es.toList).run Tryz.prog w= .ok none w:=by
  rcases fR.find w hl es.toList hk.keyed with⟨h,_⟩|⟨j,e,_,hj,he⟩
  ·exact h
  ·exact absurd ((hk.has s).1 ⟨e,List.mem_of_getElem? hj,he⟩) hno
 unfold Instr.mapUpdate
 simp[run_underlying Tryz.underlying194,hg,hc,hf,MapKept.run_setObj_map _ hm,my]
abbrev WS:=List (Nat×Nat)×List (Nat×Int)
def orM (s k:Int):Int:=bits .or IntKind.u64 s (IntKind.u64.wrap (2^k.toNat))
def bm (code:List Ins):Nat ->WS ->Nat×Nat ->Int ->WS
 |0,s,_,_=>s
 |f+1,s,h,b=>
  if h∈s.1 then s else
  match code[h.1]? with
  |none=>s
  |some i=>
   let s1:WS:=(s.1++[h],s.2)
   if i.op=0\/i.op=6 then (s1.1,s1.2++[(h.1,b)])
   else if i.op=1 then bm code f (bm code f s1 (i.t0.toNat,h.2) b) (i.t1.toNat,h.2) b
   else if i.op=2 then bm code f s1 (i.t0.toNat,h.2) b
   else if i.op=3 then bm code f s1 (h.1+1,h.2) (orM b i.sl)
   else if i.op=4 then bm code f s1 (h.1+1,0) b
   else if i.op=5 then if h.2=1 then bm code f s1 (h.1+1,1) b else s1
   else s1
theorem fb (code:List Ins):∀(f:Nat) (s:WS) (h:Nat×Nat) (b:Int),∀x,x∈s.1 ->x∈(bm code f s h b).1
 |0,s,h,b,x,hx=>hx
 |f+1,s,h,b,x,hx=>by
  have hx1:x∈s.1++[h]:=List.mem_append_left _ hx
  unfold bm
  split
  ·exact hx
  ·split
   ·exact hx
   ·dsimp only
    repeat' split
    all_goals first
     |exact hx1
     |exact fb code f _ _ _ x hx1
     |exact fb code f _ _ _ x (fb code f _ _ _ x hx1)
def cZ (code:List Ins):Prop:=∀k i,code[k]? =some i ->
 (i.op=0\/i.op=6\/(i.op=1/\(∃a:Nat,(a:Int)=i.t0/\a<code.length)/\∃a:Nat,(a:Int)=i.t1/\a<code.length)\/(i.op=2/\∃a:Nat,(a:Int)=i.t0/\a<code.length)\/(i.op=3/\k+1<code.length/\∃a:Nat,(a:Int)=i.sl/\a<64)\/(i.op=4/\k+1<code.length)\/(i.op=5/\k+1<code.length))
def mF (n:Nat):List (Nat×Nat):=(List.range n).flatMap fun k=>[(k,0),(k,1)]
theorem sI {h:Nat×Nat} (h1:h.1<n) (h2:h.2<2):h∈mF n:=by
 obtain⟨a,b⟩:=h
 simp only[mF,List.mem_flatMap,List.mem_range]
 refine⟨a,h1,?_⟩
 simp only at h2
 have:b=0\/b=1:=by omega
 rcases this with rfl|rfl<;>simp
def left (n:Nat) (seen:List (Nat×Nat)):Nat:=(mF n).countP fun s=>decide (s∉seen)
theorem jh {α:Type} (p q:α ->Bool):∀(l:List α),(∀x∈l,p x=true ->q x=true) ->(∃x∈l,q x=true/\p x=false) ->l.countP p<l.countP q
 |[],_,h=>by obtain⟨x,hx,_⟩:=h;cases hx
 |a::l,h,hex=>by
  obtain⟨x,hx,hq,hp⟩:=hex
  have hmono:l.countP p<=l.countP q:=List.countP_mono_left (fun y hy=>h y (List.mem_cons_of_mem _ hy))
  rcases List.mem_cons.1 hx with rfl|hx
  ·rw[List.countP_cons,List.countP_cons,hq,hp]
   simp
   omega
  ·have ih:=jh p q l (fun y hy=>h y (List.mem_cons_of_mem _ hy)) ⟨x,hx,hq,hp⟩
   rw[List.countP_cons,List.countP_cons]
   have ha:=h a (List.mem_cons_self ..)
   by_cases hpa:p a=true
   ·rw[hpa,ha hpa];omega
   ·simp only[Bool.not_eq_true]at hpa
    simp only[hpa,Bool.false_eq_true,if_false]
    by_cases hqa:q a=true
    ·simp only[hqa,if_true];omega
    ·simp only[hqa,if_false];omega
theorem ow {s t:List (Nat×Nat)} (h:∀x,x∈s ->x∈t):left n t<=left n s:=
 List.countP_mono_left (fun x _ hx=>by simp only[decide_eq_true_eq]at hx ⊢;exact fun hs=>hx (h x hs))
theorem pt {s:List (Nat×Nat)} {h:Nat×Nat} (hn:h∉s) (h1:h.1<n) (h2:h.2<2):left n (s++[h])<left n s:=
 jh _ _ _ (fun x _ hx=>by simp only[decide_eq_true_eq]at hx ⊢;exact fun hs=>hx (List.mem_append_left _ hs)) ⟨h,sI h1 h2,by simpa using hn,by simp⟩
def YB (w:World) (k:Nat):Prop:=∃cur fr,w.heap[k]? =some (.cells cur 204 fr)
structure VF (base q mb:Nat) (w w':World):Prop where
 os:w'.os=w.os
 tape:w'.tape=w.tape
 output:w'.output=w.output
 size:w.heap.size<=w'.heap.size
 block:∀k,k<w.heap.size ->k≠q ->k≠mb ->(k<base\/¬YB w k) ->w'.heap[k]? =w.heap[k]?
theorem VF.trans {w2:World} (h:VF base q mb w w1) (k:VF base q mb w1 w2):VF base q mb w w2:=
 ⟨k.os.trans h.os,k.tape.trans h.tape,k.output.trans h.output,Nat.le_trans h.size k.size,fun i hi hn hm hc=>by
  have h1:=h.block i hi hn hm hc
  exact (k.block i (Nat.lt_of_lt_of_le hi h.size) hn hm (hc.imp id (fun hb hI=>hb (by obtain⟨c,f,he⟩:=hI;exact⟨c,f,h1▸he⟩)))).trans h1⟩
theorem VF.ofEx {l:List Nat} (h:Ex l w w1) (hl:∀x,x∈l ->x=q\/x=mb):VF base q mb w w1:=⟨h.os,h.tape,h.output,h.size,fun k hk h1 h2 _=>h.block k hk (fun hm=>by rcases hl k hm with e|e<;>omega)⟩
theorem VF.alloc (h:VF base q mb w w1) (o:Obj):VF base q mb w (w1.alloc o):=h.trans (VF.ofEx (l:=[]) ((Ex.refl _ _).alloc o) (by simp))
theorem VF.drewN (h:VF base q mb w w1) (n:Nat):VF base q mb w (w1.drewN n):=⟨h.os,h.tape,h.output,h.size,h.block⟩
theorem VF.grown {w2:World} {row:Option Nat} (h:VF base q mb w w1) (hg:w1.grownBy w2 row) (hr:∀k,row=some k ->base<=k/\YB w1 k):VF base q mb w w2:=
 h.trans ⟨hg.os,hg.tape,hg.output,hg.size,fun k hk hn hm hc=>hg.block k hk (fun e=>by
  obtain⟨h1,h2⟩:=hr k e.symm
  rcases hc with hc|hc
  ·omega
  ·exact hc h2)⟩
theorem VF.setCell (h:VF base q mb w w1) {p:Addr} (hp:p.block=q) (u:Value):VF base q mb w (w1.setCell p u):=
 h.trans ⟨rfl,rfl,rfl,by simp[World.setCell],fun k hk hn hm hc=>Below.heap_setCell _ _ _ _ (by omega)⟩
theorem BK.vf {w':World} {k:Nat} {cs:Array Value} {e:TypeId} {fr:Nat×Nat} (h:BK w k (.cells cs e fr)) (hx:VF base q mb w w') (hn:k≠q) (hm:k≠mb) (he:e≠204):BK w' k (.cells cs e fr):=by
 unfold BK at h ⊢
 rw[hx.block k (BK.lt h) hn hm (.inr (fun⟨c,f,hI⟩=>he (by rw[h]at hI;cases hI;rfl)))]
 exact h
def ez (l:List (Nat×Int)):List Value:=l.flatMap fun y=>[.int .i64 (y.1:Int),.int .u64 y.2]
theorem tf (l:List (Nat×Int)) (y:Nat×Int):ez (l++[y])=ez l++[.int .i64 (y.1:Int),.int .u64 y.2]:=by simp[ez]
structure WG (w:World) (q mb cg cc base:Nat) (code:List Ins) (s:WS):Prop where
 lq:q<base
 lm:mb<base
 lc:cg<base
 le:base<=w.heap.size
 qm:q≠mb
 cq:cg≠q
 cm:cg≠mb
 cap:code.length<=cc
 room:s.2.length+left code.length s.1<=200000
 prog:w.rangeAt cg 0 (bY code)
 seen:∃es clk,BK w mb (.map es clk)/\gC es s.1
 ways:∃v,BK w q (.cells #[.slice (some ⟨cg,0,none⟩) code.length cc,.map (some mb),v] 196 (0,0))/\w.ownsRow base 204 2 v s.2.length (ez s.2)
theorem WG.ex {w':World} {cg cc:Nat} {code:List Ins} {s:WS} (h:WG w q mb cg cc base code s) (hx:Ex [] w w'):WG w' q mb cg cc base code s:=by
 obtain⟨es,clk,hm,hs⟩:=h.seen
 obtain⟨v,hq,ho⟩:=h.ways
 exact⟨h.lq,h.lm,h.lc,Nat.le_trans h.le hx.size,h.qm,h.cq,h.cm,h.cap,h.room,bu h.prog (hx.block cg (Nat.lt_of_lt_of_le h.lc h.le) (by simp)),⟨es,clk,hm.ex hx (by simp),hs⟩,⟨v,hq.ex hx (by simp),aU ho hx (by simp)⟩⟩
def vD (code:List Ins) (f:Nat):Prop:=∀(w:World) (q mb cg cc base:Nat) (s:WS) (h:Nat×Nat) (b:Int),WG w q mb cg cc base code s ->left code.length s.1<f ->h.1<code.length ->h.2<2 ->
 Calls Tryz.prog 90 #[.pointer (some ⟨q,0,none⟩),cJ h,.int .u64 b] w fun e w'=>e= .returned (.tuple #[])/\WG w' q mb cg cc base code (bm code f s h b)/\VF base q mb w w'
theorem vw (code:List Ins) (hcode:code.length<=100000) (w:World) (q mb cg cc base:Nat) (s:WS) (h:Nat×Nat) (b:Int) (hg:WG w q mb cg cc base code s) (h1:h.1<code.length) (h2:h.2<2) (hs:h∈s.1):
  Calls Tryz.prog 90 #[.pointer (some ⟨q,0,none⟩),cJ h,.int .u64 b] w fun e w'=>e= .returned (.tuple #[])/\Ex [] w w':=by
 obtain⟨es,clk,hm,hse⟩:=hg.seen
 obtain⟨v,hq,ho⟩:=hg.ways
 obtain⟨hcq0,hfq0⟩:=hq.all
 have hql:=hq.lt
 have hml:=hm.lt
 obtain⟨k,mo⟩:=h
 have hlk1:=rH (s:=(k,mo)) (w:=(w.alloc (Obj.cells #[.int .i64 k,.int .i64 mo] 112)).drew) (hm.alloc _).drew hse (by simp only at h1;omega) (by simp only at h2;omega) hs
 have hlk2:=rH (s:=(k,mo)) (w:=((w.alloc (Obj.cells #[.int .i64 k,.int .i64 mo] 112)).alloc (Obj.cells #[] 267)).drew) ((hm.alloc _).alloc _).drew hse (by simp only at h1;omega) (by simp only at h2;omega) hs
 unfold cJ at hlk1 hlk2 ⊢
 dsimp only at hlk1 hlk2 ⊢
 clear hq hm hg ho hse hs
 go_enter Tryz.func90,Tryz.ntmps90
 go_wp2_with fail
 go_region
 all_goals
  go_wp2_with fail
  try simp only[Exit.inBlock,Exit.then]
  refine bodyPost_ret (results_none rfl _ _ _) rfl ?_
  exact⟨rfl,(((Ex.refl _ _).alloc _).alloc _).drew⟩
end Go.Proofs.YtfnanjbleifjkaaGreatDoor.G
