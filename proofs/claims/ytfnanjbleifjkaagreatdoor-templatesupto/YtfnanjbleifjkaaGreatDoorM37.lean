import Derived.Test.YtfnanjbleifjkaaGreatDoorM25
set_option linter.unusedVariables false
set_option linter.unusedSimpArgs false
set_option maxHeartbeats 16000000
set_option maxRecDepth 100000
namespace Go.Proofs.YtfnanjbleifjkaaGreatDoor.G
open Go.RowKit
theorem rY {t:ByteArray} {E:RS ->Res Pt} {m:Nat} (ht:t.size<=60) (hm:m+1<=7) (hE:ja t m E) {s s':RS} {q:Pt} (h:bp t E s= .ok q s') (h5:s.g<=5) (hk:s.k<=t.size):wt q<=1169230260/\s.k<s'.k/\s'.k<=t.size/\s'.g<=5:=by
 obtain⟨f,hlt,_⟩:=nH ht hm hE h h5 hk
 exact⟨Nat.le_trans f.wt (big ht (f.sz hk) _ (by omega)),hlt,f.sz hk,f.g5⟩
theorem yI {t:ByteArray} {p r base d m:Nat} {E:RS ->Res Pt} (ht:t.size<=60) (hd6:d<=6) (hm:m+1<=7) (hE:ja t m E) (hEi:EI E) (KA:vx t p r base d E):vA t p r base d E:=by
 intro w s hv n h hsd hg5 hks hn
 have HEI:=aa hEi
 have HFE:=aa hE
 have HSD:=aa hsd
 have KA0:=aa (KA w s hv n h hsd hg5 hks hn)
 clear h KA hEi hE hsd
 go_enter Tryz.func141,Tryz.ntmps141
 go_wp2_with fail
 refine KA0.O.mono ?_
 rintro e w1 ⟨hf1,hp1⟩
 obtain⟨y1,hy1,hz1⟩:=hp1.split
 subst hy1
 have Fw1:=aa hf1
 clear hp1 hf1 KA0
 rcases hz1 with⟨q,s1,n1,hbm,ra1,hn1,y1',rfl,hty1⟩|⟨s9,s1,hv1,n1,hbm,hk1,hd1,ra1,hn1⟩
 rotate_left
 ·have Hw1:=aa ra1
  have HB:Hid (aW t E s= .bad s9):=by show _=_;unfold aW;rw[hbm];rfl
  obtain⟨m3,m5,m6,g5,g6,mr,gr,hrl⟩:=Hw1.O.more
  obtain⟨c0,c1,c2,f1,f2,hl⟩:=Hw1.O.facts
  clear ra1 hbm
  go_wp2_with fail
  go_ret
  exact⟨Fw1.O,aJ.mkBad HB.O hk1 hd1 Hw1.O hn1⟩
 obtain⟨b1,b2,b3,b4⟩:=rY ht hm HFE.O hbm hg5 (by omega)
 have HAM:=aa hbm
 have Tw1:=aa hty1
 clear hty1
 obtain⟨wq,hwq⟩:=exq (wt q)
 have HWQ:=aa hwq
 rw[<-hwq]at ra1 b1
 have Hw1:=aa ra1
 have hd1:=(qg HEI.O hg5 hbm).2.1
 have HD1:=aa (hd1.trans HSD.O)
 obtain⟨k,d',f,g,nm⟩:=s1
 dsimp only at b2 b3 b4 hn1 HD1
 obtain rfl:d'=d:=HD1.O
 clear ra1 hbm hwq hd1 HD1
 obtain⟨m3,m5,m6,g5,g6,mr,gr,hrl⟩:=Hw1.O.more
 obtain⟨c0,c1,c2,f1,f2,hl⟩:=Hw1.O.facts
 obtain⟨c,hc⟩:=exq (aj t k)
 have HCc:=aa hc
 have KN:=aa (bG Hw1.O)
 dsimp only at KN
 rw[<-hc]at KN
 have sx:∀b:UInt8,b.toNat≠0 ->ac t ⟨k,d',f,g,nm⟩ b=decide (c=b.toNat):=fun b hb=>by rw[hc];exact bU hb
 have HSX:=aa sx
 clear hc sx
 go_wp2_with fail
 refine KN.O.mono ?_
 rintro e w2 ⟨rfl,ra9,fr9,_⟩
 have Hw2:=aa ra9
 have Fw2:=aa (Fw1.O.trans fr9)
 have Tw2:=aa (Tw1.O.fr (fr9))
 clear ra9 fr9 KN c0 c1 c2 f1 f2 hl m3 m5 m6 g5 g6 mr gr hrl
 have HCM:Hid (cM t ⟨k,d',f,g,nm⟩=if c=42 then .ok (some (0,-1)) ⟨k+1,d',f,g,nm⟩else if c=43 then .ok (some (1,-1)) ⟨k+1,d',f,g,nm⟩else if c=63 then .ok (some (0,1)) ⟨k+1,d',f,g,nm⟩else if c=123 then (bn t ⟨k+1,d',f,g,nm⟩).bind (fun x s'=> .ok (some x) s')else .ok none ⟨k,d',f,g,nm⟩):=by
  show _=_
  unfold cM
  rw[HSX.O 42 (by decide),HSX.O 43 (by decide),HSX.O 63 (by decide),HSX.O 123 (by decide)]
  simp only[decide_eq_true_eq]
  rfl
 by_cases h42:c=42
 ·have HCN:Hid (cM t ⟨k,d',f,g,nm⟩= .ok (some (0,-1)) ⟨k+1,d',f,g,nm⟩):=by show _=_;rw[HCM.O,if_pos h42]
  have hkl:k<t.size:=aS (s:=⟨k,d',f,g,nm⟩) ((HSX.O 42 (by decide)).trans (decide_eq_true h42))
  have HSE:Hid (ac t ⟨k,d',f,g,nm⟩ 42=true):=(HSX.O 42 (by decide)).trans (decide_eq_true h42)
  subst h42
  clear HCM HSX
  have KN:=aa (bG Hw2.O)
  dsimp only at KN
  rw[<-show 42=aj t k from HCc.O]at KN
  go_wp2_with fail
  refine KN.O.mono ?_
  rintro e w3 ⟨rfl,ra9,fr9,_⟩
  have Hw3:=aa ra9
  have Fw3:=aa (Fw2.O.trans fr9)
  have Tw3:=aa (Tw2.O.fr (fr9))
  clear ra9 fr9 KN
  have KE:=aa (cN 42 Hw3.O ht)
  go_wp2_with fail
  refine KE.O.mono ?_
  rintro e wE ⟨rfl,fr9,hE9⟩
  have hra:RA wE p r base t ⟨k+1,d',f,g,nm⟩ false (wq:Int) n1:=by
   rcases hE9 with⟨_,_,h⟩|⟨h,_⟩
   ·exact h
   ·rcases h with h|h
    ·cases h
    ·rw[HSE.O]at h;cases h
  have HwE:=aa hra
  have FwE:=aa (Fw3.O.trans fr9)
  have TwE:=aa (Tw3.O.fr (fr9))
  clear hra fr9 hE9 KE
  obtain⟨c0,c1,c2,f1,f2,hl⟩:=HwE.O.facts
  obtain⟨x,hx⟩:=exq (aj t (k+1))
  have HCx:=aa hx
  have KN:=aa (bG HwE.O)
  dsimp only at KN
  rw[<-hx]at KN
  have s63:ac t ⟨k+1,d',f,g,nm⟩ 63=decide (x=63):=by rw[hx];exact bU (by decide)
  have HS63:=aa s63
  clear hx s63
  have hPM:aW t E s= .ok (.count q 0 (-1) (decide (x=63))) (if x=63 then ⟨k+1+1,d',f,g,nm⟩else ⟨k+1,d',f,g,nm⟩):=by
   unfold aW
   rw[HAM.O,Res.bind_ok,HCN.O,Res.bind_ok]
   dsimp only
   unfold RS.took
   rw[HS63.O]
   by_cases h:x=63
   ·rw[decide_eq_true h,if_pos rfl,if_pos h];rfl
   ·rw[decide_eq_false h,if_neg (by simp),if_neg h]
  have HPM:=aa hPM
  clear hPM
  go_wp2_with fail
  refine KN.O.mono ?_
  rintro e wF ⟨rfl,ra9,fr9,_⟩
  have HwF:=aa ra9
  have FwF:=aa (FwE.O.trans fr9)
  have TwF:=aa (TwE.O.fr (fr9))
  clear ra9 fr9 KN c0 c1 c2 f1 f2 hl
  obtain⟨c0,c1,c2,f1,f2,hl⟩:=HwF.O.facts
  dsimp only at c1
  by_cases h63:x=63
  ·have q63:((x:Int)==63)=true:=by rw[h63];rfl
   have hP2:=HPM.O
   rw[if_pos h63,decide_eq_true h63]at hP2
   have HP2:=aa hP2
   clear hP2 HPM h63
   go_upto_region 25 with fail
   generalize hw9:World.setCell _ _ _=wG
   have hup:=HwF.O.up2 wG hw9 (by first|(simp;done)|(simp;omega))
   have HwG:=aa hup.1
   have FwG:=aa (FwF.O.trans hup.2)
   have TwG:=aa (TwF.O.fr (hup.2))
   clear hw9 hup c0 c1 c2 f1 f2 hl
   obtain⟨m3,m5,m6,g5,g6,mr,gr,hrl⟩:=HwG.O.more
   have hl:=HwG.O.rk.lt
   go_upto_region 29 with fail
   generalize hw9:World.setCell _ _ _=wH
   have hup:=HwG.O.hvs wH hw9
   have HwH:=aa hup.1
   have FwH:=aa (FwG.O.trans hup.2)
   have TwH:=aa (TwG.O.fr (hup.2))
   clear hw9 hup m3 m5 m6 g5 g6 mr gr hrl hl
   go_wp2_with fail
   refine (cI _ _ 0 (-1) true TwH.O HwH.O (by omega) (by decide) (by decide)).mono ?_
   rintro e wI ⟨y,n2,rfl,hn2,ra2,fr2,tx2⟩
   have HwI:=aa ra2
   have FwI:=aa (FwH.O.trans fr2)
   have TwI:=aa tx2
   clear ra2 fr2 tx2
   go_wp2_with fail
   go_ret
   refine⟨FwI.O,aJ.mkOk HP2.O ?_ HwI.O (by show _+9+50*s.k<=n+50*(k+1+1)+0;omega) ⟨_,rfl,by rw[den];exact TwI.O⟩⟩
   unfold wt
   rw[<-HWQ.O]
   simp<;>omega
  ·have q63:((x:Int)==63)=false:=by rw[beq_eq_false_iff_ne];omega
   have hP2:=HPM.O
   rw[if_neg h63,decide_eq_false h63]at hP2
   have HP2:=aa hP2
   clear hP2 HPM h63
   go_upto_region 25 with fail
   obtain⟨m3,m5,m6,g5,g6,mr,gr,hrl⟩:=HwF.O.more
   go_upto_region 29 with fail
   generalize hw9:World.setCell _ _ _=wH
   have hup:=HwF.O.hvs wH hw9
   have HwH:=aa hup.1
   have FwH:=aa (FwF.O.trans hup.2)
   have TwH:=aa (TwF.O.fr (hup.2))
   clear hw9 hup m3 m5 m6 g5 g6 mr gr hrl hl c0 c1 c2 f1 f2
   go_wp2_with fail
   refine (cI _ _ 0 (-1) false TwH.O HwH.O (by omega) (by decide) (by decide)).mono ?_
   rintro e wI ⟨y,n2,rfl,hn2,ra2,fr2,tx2⟩
   have HwI:=aa ra2
   have FwI:=aa (FwH.O.trans fr2)
   have TwI:=aa tx2
   clear ra2 fr2 tx2
   go_wp2_with fail
   go_ret
   refine⟨FwI.O,aJ.mkOk HP2.O ?_ HwI.O (by show _+9+50*s.k<=n+50*(k+1)+0;omega) ⟨_,rfl,by rw[den];exact TwI.O⟩⟩
   unfold wt
   rw[<-HWQ.O]
   simp<;>omega
 by_cases h43:c=43
 ·have HCN:Hid (cM t ⟨k,d',f,g,nm⟩= .ok (some (1,-1)) ⟨k+1,d',f,g,nm⟩):=by show _=_;rw[HCM.O,if_neg h42,if_pos h43]
  have hkl:k<t.size:=aS (s:=⟨k,d',f,g,nm⟩) ((HSX.O 43 (by decide)).trans (decide_eq_true h43))
  have HSE:Hid (ac t ⟨k,d',f,g,nm⟩ 43=true):=(HSX.O 43 (by decide)).trans (decide_eq_true h43)
  subst h43
  clear HCM HSX
  have KN:=aa (bG Hw2.O)
  dsimp only at KN
  rw[<-show 43=aj t k from HCc.O]at KN
  go_wp2_with fail
  refine KN.O.mono ?_
  rintro e w3 ⟨rfl,ra9,fr9,_⟩
  have Hw3:=aa ra9
  have Fw3:=aa (Fw2.O.trans fr9)
  have Tw3:=aa (Tw2.O.fr (fr9))
  clear ra9 fr9 KN
  have KE:=aa (cN 43 Hw3.O ht)
  go_wp2_with fail
  refine KE.O.mono ?_
  rintro e wE ⟨rfl,fr9,hE9⟩
  have hra:RA wE p r base t ⟨k+1,d',f,g,nm⟩ false (wq:Int) n1:=by
   rcases hE9 with⟨_,_,h⟩|⟨h,_⟩
   ·exact h
   ·rcases h with h|h
    ·cases h
    ·rw[HSE.O]at h;cases h
  have HwE:=aa hra
  have FwE:=aa (Fw3.O.trans fr9)
  have TwE:=aa (Tw3.O.fr (fr9))
  clear hra fr9 hE9 KE
  obtain⟨c0,c1,c2,f1,f2,hl⟩:=HwE.O.facts
  obtain⟨x,hx⟩:=exq (aj t (k+1))
  have HCx:=aa hx
  have KN:=aa (bG HwE.O)
  dsimp only at KN
  rw[<-hx]at KN
  have s63:ac t ⟨k+1,d',f,g,nm⟩ 63=decide (x=63):=by rw[hx];exact bU (by decide)
  have HS63:=aa s63
  clear hx s63
  have hPM:aW t E s= .ok (.count q 1 (-1) (decide (x=63))) (if x=63 then ⟨k+1+1,d',f,g,nm⟩else ⟨k+1,d',f,g,nm⟩):=by
   unfold aW
   rw[HAM.O,Res.bind_ok,HCN.O,Res.bind_ok]
   dsimp only
   unfold RS.took
   rw[HS63.O]
   by_cases h:x=63
   ·rw[decide_eq_true h,if_pos rfl,if_pos h];rfl
   ·rw[decide_eq_false h,if_neg (by simp),if_neg h]
  have HPM:=aa hPM
  clear hPM
  go_wp2_with fail
  refine KN.O.mono ?_
  rintro e wF ⟨rfl,ra9,fr9,_⟩
  have HwF:=aa ra9
  have FwF:=aa (FwE.O.trans fr9)
  have TwF:=aa (TwE.O.fr (fr9))
  clear ra9 fr9 KN c0 c1 c2 f1 f2 hl
  obtain⟨c0,c1,c2,f1,f2,hl⟩:=HwF.O.facts
  dsimp only at c1
  by_cases h63:x=63
  ·have q63:((x:Int)==63)=true:=by rw[h63];rfl
   have hP2:=HPM.O
   rw[if_pos h63,decide_eq_true h63]at hP2
   have HP2:=aa hP2
   clear hP2 HPM h63
   go_upto_region 25 with fail
   generalize hw9:World.setCell _ _ _=wG
   have hup:=HwF.O.up2 wG hw9 (by first|(simp;done)|(simp;omega))
   have HwG:=aa hup.1
   have FwG:=aa (FwF.O.trans hup.2)
   have TwG:=aa (TwF.O.fr (hup.2))
   clear hw9 hup c0 c1 c2 f1 f2 hl
   obtain⟨m3,m5,m6,g5,g6,mr,gr,hrl⟩:=HwG.O.more
   have hl:=HwG.O.rk.lt
   go_upto_region 29 with fail
   generalize hw9:World.setCell _ _ _=wH
   have hup:=HwG.O.hvs wH hw9
   have HwH:=aa hup.1
   have FwH:=aa (FwG.O.trans hup.2)
   have TwH:=aa (TwG.O.fr (hup.2))
   clear hw9 hup m3 m5 m6 g5 g6 mr gr hrl hl
   go_wp2_with fail
   refine (cI _ _ 1 (-1) true TwH.O HwH.O (by omega) (by decide) (by decide)).mono ?_
   rintro e wI ⟨y,n2,rfl,hn2,ra2,fr2,tx2⟩
   have HwI:=aa ra2
   have FwI:=aa (FwH.O.trans fr2)
   have TwI:=aa tx2
   clear ra2 fr2 tx2
   go_wp2_with fail
   go_ret
   refine⟨FwI.O,aJ.mkOk HP2.O ?_ HwI.O (by show _+9+50*s.k<=n+50*(k+1+1)+0;omega) ⟨_,rfl,by rw[den];exact TwI.O⟩⟩
   unfold wt
   rw[<-HWQ.O]
   simp<;>omega
  ·have q63:((x:Int)==63)=false:=by rw[beq_eq_false_iff_ne];omega
   have hP2:=HPM.O
   rw[if_neg h63,decide_eq_false h63]at hP2
   have HP2:=aa hP2
   clear hP2 HPM h63
   go_upto_region 25 with fail
   obtain⟨m3,m5,m6,g5,g6,mr,gr,hrl⟩:=HwF.O.more
   go_upto_region 29 with fail
   generalize hw9:World.setCell _ _ _=wH
   have hup:=HwF.O.hvs wH hw9
   have HwH:=aa hup.1
   have FwH:=aa (FwF.O.trans hup.2)
   have TwH:=aa (TwF.O.fr (hup.2))
   clear hw9 hup m3 m5 m6 g5 g6 mr gr hrl hl c0 c1 c2 f1 f2
   go_wp2_with fail
   refine (cI _ _ 1 (-1) false TwH.O HwH.O (by omega) (by decide) (by decide)).mono ?_
   rintro e wI ⟨y,n2,rfl,hn2,ra2,fr2,tx2⟩
   have HwI:=aa ra2
   have FwI:=aa (FwH.O.trans fr2)
   have TwI:=aa tx2
   clear ra2 fr2 tx2
   go_wp2_with fail
   go_ret
   refine⟨FwI.O,aJ.mkOk HP2.O ?_ HwI.O (by show _+9+50*s.k<=n+50*(k+1)+0;omega) ⟨_,rfl,by rw[den];exact TwI.O⟩⟩
   unfold wt
   rw[<-HWQ.O]
   simp<;>omega
 by_cases h63:c=63
 ·have HCN:Hid (cM t ⟨k,d',f,g,nm⟩= .ok (some (0,1)) ⟨k+1,d',f,g,nm⟩):=by show _=_;rw[HCM.O,if_neg h42,if_neg h43,if_pos h63]
  have hkl:k<t.size:=aS (s:=⟨k,d',f,g,nm⟩) ((HSX.O 63 (by decide)).trans (decide_eq_true h63))
  have HSE:Hid (ac t ⟨k,d',f,g,nm⟩ 63=true):=(HSX.O 63 (by decide)).trans (decide_eq_true h63)
  subst h63
  clear HCM HSX
  have KN:=aa (bG Hw2.O)
  dsimp only at KN
  rw[<-show 63=aj t k from HCc.O]at KN
  go_wp2_with fail
  refine KN.O.mono ?_
  rintro e w3 ⟨rfl,ra9,fr9,_⟩
  have Hw3:=aa ra9
  have Fw3:=aa (Fw2.O.trans fr9)
  have Tw3:=aa (Tw2.O.fr (fr9))
  clear ra9 fr9 KN
  have KE:=aa (cN 63 Hw3.O ht)
  go_wp2_with fail
  refine KE.O.mono ?_
  rintro e wE ⟨rfl,fr9,hE9⟩
  have hra:RA wE p r base t ⟨k+1,d',f,g,nm⟩ false (wq:Int) n1:=by
   rcases hE9 with⟨_,_,h⟩|⟨h,_⟩
   ·exact h
   ·rcases h with h|h
    ·cases h
    ·rw[HSE.O]at h;cases h
  have HwE:=aa hra
  have FwE:=aa (Fw3.O.trans fr9)
  have TwE:=aa (Tw3.O.fr (fr9))
  clear hra fr9 hE9 KE
  obtain⟨c0,c1,c2,f1,f2,hl⟩:=HwE.O.facts
  obtain⟨x,hx⟩:=exq (aj t (k+1))
  have HCx:=aa hx
  have KN:=aa (bG HwE.O)
  dsimp only at KN
  rw[<-hx]at KN
  have s63:ac t ⟨k+1,d',f,g,nm⟩ 63=decide (x=63):=by rw[hx];exact bU (by decide)
  have HS63:=aa s63
  clear hx s63
  have hPM:aW t E s= .ok (.count q 0 (1) (decide (x=63))) (if x=63 then ⟨k+1+1,d',f,g,nm⟩else ⟨k+1,d',f,g,nm⟩):=by
   unfold aW
   rw[HAM.O,Res.bind_ok,HCN.O,Res.bind_ok]
   dsimp only
   unfold RS.took
   rw[HS63.O]
   by_cases h:x=63
   ·rw[decide_eq_true h,if_pos rfl,if_pos h];rfl
   ·rw[decide_eq_false h,if_neg (by simp),if_neg h]
  have HPM:=aa hPM
  clear hPM
  go_wp2_with fail
  refine KN.O.mono ?_
  rintro e wF ⟨rfl,ra9,fr9,_⟩
  have HwF:=aa ra9
  have FwF:=aa (FwE.O.trans fr9)
  have TwF:=aa (TwE.O.fr (fr9))
  clear ra9 fr9 KN c0 c1 c2 f1 f2 hl
  obtain⟨c0,c1,c2,f1,f2,hl⟩:=HwF.O.facts
  dsimp only at c1
  by_cases h63:x=63
  ·have q63:((x:Int)==63)=true:=by rw[h63];rfl
   have hP2:=HPM.O
   rw[if_pos h63,decide_eq_true h63]at hP2
   have HP2:=aa hP2
   clear hP2 HPM h63
   go_upto_region 25 with fail
   generalize hw9:World.setCell _ _ _=wG
   have hup:=HwF.O.up2 wG hw9 (by first|(simp;done)|(simp;omega))
   have HwG:=aa hup.1
   have FwG:=aa (FwF.O.trans hup.2)
   have TwG:=aa (TwF.O.fr (hup.2))
   clear hw9 hup c0 c1 c2 f1 f2 hl
   obtain⟨m3,m5,m6,g5,g6,mr,gr,hrl⟩:=HwG.O.more
   have hl:=HwG.O.rk.lt
   go_upto_region 29 with fail
   generalize hw9:World.setCell _ _ _=wH
   have hup:=HwG.O.hvs wH hw9
   have HwH:=aa hup.1
   have FwH:=aa (FwG.O.trans hup.2)
   have TwH:=aa (TwG.O.fr (hup.2))
   clear hw9 hup m3 m5 m6 g5 g6 mr gr hrl hl
   go_wp2_with fail
   refine (cI _ _ 0 (1) true TwH.O HwH.O (by omega) (by decide) (by decide)).mono ?_
   rintro e wI ⟨y,n2,rfl,hn2,ra2,fr2,tx2⟩
   have HwI:=aa ra2
   have FwI:=aa (FwH.O.trans fr2)
   have TwI:=aa tx2
   clear ra2 fr2 tx2
   go_wp2_with fail
   go_ret
   refine⟨FwI.O,aJ.mkOk HP2.O ?_ HwI.O (by show _+9+50*s.k<=n+50*(k+1+1)+0;omega) ⟨_,rfl,by rw[den];exact TwI.O⟩⟩
   unfold wt
   rw[<-HWQ.O]
   simp<;>omega
  ·have q63:((x:Int)==63)=false:=by rw[beq_eq_false_iff_ne];omega
   have hP2:=HPM.O
   rw[if_neg h63,decide_eq_false h63]at hP2
   have HP2:=aa hP2
   clear hP2 HPM h63
   go_upto_region 25 with fail
   obtain⟨m3,m5,m6,g5,g6,mr,gr,hrl⟩:=HwF.O.more
   go_upto_region 29 with fail
   generalize hw9:World.setCell _ _ _=wH
   have hup:=HwF.O.hvs wH hw9
   have HwH:=aa hup.1
   have FwH:=aa (FwF.O.trans hup.2)
   have TwH:=aa (TwF.O.fr (hup.2))
   clear hw9 hup m3 m5 m6 g5 g6 mr gr hrl hl c0 c1 c2 f1 f2
   go_wp2_with fail
   refine (cI _ _ 0 (1) false TwH.O HwH.O (by omega) (by decide) (by decide)).mono ?_
   rintro e wI ⟨y,n2,rfl,hn2,ra2,fr2,tx2⟩
   have HwI:=aa ra2
   have FwI:=aa (FwH.O.trans fr2)
   have TwI:=aa tx2
   clear ra2 fr2 tx2
   go_wp2_with fail
   go_ret
   refine⟨FwI.O,aJ.mkOk HP2.O ?_ HwI.O (by show _+9+50*s.k<=n+50*(k+1)+0;omega) ⟨_,rfl,by rw[den];exact TwI.O⟩⟩
   unfold wt
   rw[<-HWQ.O]
   simp<;>omega
 by_cases h123:c=123
 ·have HCN0:Hid (cM t ⟨k,d',f,g,nm⟩=(bn t ⟨k+1,d',f,g,nm⟩).bind (fun x s'=> .ok (some x) s')):=by show _=_;rw[HCM.O,if_neg h42,if_neg h43,if_neg h63,if_pos h123]
  have hkl:k<t.size:=aS (s:=⟨k,d',f,g,nm⟩) ((HSX.O 123 (by decide)).trans (decide_eq_true h123))
  subst h123
  clear HCM HSX
  have KT:=aa (vt Hw2.O ht hkl)
  go_wp2_with fail
  refine KT.O.mono ?_
  rintro e w3 ⟨o,k',hT,fr3,hp3⟩
  have Fw3:=aa (Fw2.O.trans fr3)
  have Tw3:=aa (Tw2.O.fr (fr3))
  have hMir:=pJ (d:=d') (g:=g) (f:=f) (nm:=nm) hT
  cases o with
  |none=>
   obtain⟨⟨a9,b9,rfl⟩,ra3⟩:=hp3
   have Hw3:Hid (RA w3 p r base t ⟨k',d',f,g,nm⟩ true (wq:Int) n1):=ra3
   have HB:Hid (aW t E s= .bad ⟨k',d',f,g,nm⟩):=by
    show _=_
    unfold aW
    rw[HAM.O,Res.bind_ok,HCN0.O,show bn t ⟨k+1,d',f,g,nm⟩=_ from hMir]
    rfl
   clear fr3 ra3 hMir hT KT
   have KN:=aa (bG Hw3.O)
   go_wp2_with fail
   refine KN.O.mono ?_
   rintro e w4 ⟨rfl,ra9,fr9,_⟩
   have Hw4:=aa ra9
   have Fw4:=aa (Fw3.O.trans fr9)
   have Tw4:=aa (Tw3.O.fr (fr9))
   clear ra9 fr9 KN
   have KE:=aa (fun c=>qy c Hw4.O)
   go_wp2_with fail
   refine (KE.O _).mono ?_
   rintro e w5 ⟨rfl,rfl⟩
   obtain⟨c0,c1,c2,f1,f2,hl⟩:=Hw4.O.facts
   go_wp2_with fail
   go_ret
   exact⟨Fw4.O,aJ.mkBad HB.O rfl HSD.O.symm Hw4.O (by omega)⟩
  |some xx=>
   obtain⟨le,mo⟩:=xx
   obtain⟨rfl,ra3⟩:=hp3
   have Hw3:Hid (RA w3 p r base t ⟨k',d',f,g,nm⟩ false (wq:Int) n1):=ra3
   obtain⟨hMir1,hMir2⟩:=hMir
   have HCN:Hid (cM t ⟨k,d',f,g,nm⟩= .ok (some (le,mo)) ⟨k'+1,d',f,g,nm⟩):=by show _=_;rw[HCN0.O,show bn t ⟨k+1,d',f,g,nm⟩=_ from hMir1];rfl
   have hcn:=lE HCN.O
   have hck:=hcn.1.le
   have hcs:=hcn.1.sz (show k<=t.size by omega)
   obtain⟨hle9,hmo9⟩:=hcn.2 _ rfl
   dsimp only at hck hcs hle9 hmo9
   have HSE:Hid (ac t ⟨k',d',f,g,nm⟩ 125=true):=(bU (by decide)).trans (decide_eq_true hMir2)
   have HC5:Hid (125=aj t k'):=hMir2.symm
   clear fr3 ra3 hMir1 hMir2 hT KT hcn HCN0
   rcases hmo9 with hmo9|hmo9
   ·subst hmo9
    have KN:=aa (bG Hw3.O)
    dsimp only at KN
    rw[<-show 125=aj t k' from HC5.O]at KN
    go_wp2_with fail
    refine KN.O.mono ?_
    rintro e w4 ⟨rfl,ra9,fr9,_⟩
    have Hw4:=aa ra9
    have Fw4:=aa (Fw3.O.trans fr9)
    have Tw4:=aa (Tw3.O.fr (fr9))
    clear ra9 fr9 KN
    have KE:=aa (cN 125 Hw4.O ht)
    go_wp2_with fail
    refine KE.O.mono ?_
    rintro e wE ⟨rfl,fr9,hE9⟩
    have hra:RA wE p r base t ⟨k'+1,d',f,g,nm⟩ false (wq:Int) n1:=by
     rcases hE9 with⟨_,_,h⟩|⟨h,_⟩
     ·exact h
     ·rcases h with h|h
      ·cases h
      ·rw[HSE.O]at h;cases h
    have HwE:=aa hra
    have FwE:=aa (Fw4.O.trans fr9)
    have TwE:=aa (Tw4.O.fr (fr9))
    clear hra fr9 hE9 KE
    obtain⟨c0,c1,c2,f1,f2,hl⟩:=HwE.O.facts
    obtain⟨x,hx⟩:=exq (aj t (k'+1))
    have HCx:=aa hx
    have KN:=aa (bG HwE.O)
    dsimp only at KN
    rw[<-hx]at KN
    have s63:ac t ⟨k'+1,d',f,g,nm⟩ 63=decide (x=63):=by rw[hx];exact bU (by decide)
    have HS63:=aa s63
    clear hx s63
    have hPM:aW t E s= .ok (.count q le (-1) (decide (x=63))) (if x=63 then ⟨k'+1+1,d',f,g,nm⟩else ⟨k'+1,d',f,g,nm⟩):=by
     unfold aW
     rw[HAM.O,Res.bind_ok,HCN.O,Res.bind_ok]
     dsimp only
     unfold RS.took
     rw[HS63.O]
     by_cases h:x=63
     ·rw[decide_eq_true h,if_pos rfl,if_pos h];rfl
     ·rw[decide_eq_false h,if_neg (by simp),if_neg h]
    have HPM:=aa hPM
    clear hPM
    have hm10:wq*(le+1)<=1169230260*10:=Nat.mul_le_mul b1 (by omega)
    obtain⟨P,hP⟩:=exq (wq*(le+1))
    rw[<-hP]at hm10
    have HP:=aa hP
    have hPi:(wq:Int)*((le:Int)+1)=(P:Int):=by rw[hP];simp
    clear hP
    go_wp2_with fail
    refine KN.O.mono ?_
    rintro e wF ⟨rfl,ra9,fr9,_⟩
    have HwF:=aa ra9
    have FwF:=aa (FwE.O.trans fr9)
    have TwF:=aa (TwE.O.fr (fr9))
    clear ra9 fr9 KN c0 c1 c2 f1 f2 hl
    obtain⟨c0,c1,c2,f1,f2,hl⟩:=HwF.O.facts
    dsimp only at c1
    by_cases h63:x=63
    ·have q63:((x:Int)==63)=true:=by rw[h63];rfl
     have hP2:=HPM.O
     rw[if_pos h63,decide_eq_true h63]at hP2
     have HP2:=aa hP2
     clear hP2 HPM h63
     go_upto_region 25 with fail
     generalize hw9:World.setCell _ _ _=wG
     have hup:=HwF.O.up2 wG hw9 (by first|(simp;done)|(simp;omega))
     have HwG:=aa hup.1
     have FwG:=aa (FwF.O.trans hup.2)
     have TwG:=aa (TwF.O.fr (hup.2))
     clear hw9 hup c0 c1 c2 f1 f2 hl
     obtain⟨m3,m5,m6,g5,g6,mr,gr,hrl⟩:=HwG.O.more
     have hl:=HwG.O.rk.lt
     go_upto_region 29 with fail
     generalize hw9:World.setCell _ _ _=wH
     have hup:=HwG.O.hvs wH hw9
     have HwH:=aa hup.1
     have FwH:=aa (FwG.O.trans hup.2)
     have TwH:=aa (TwG.O.fr (hup.2))
     clear hw9 hup m3 m5 m6 g5 g6 mr gr hrl hl
     go_wp2_with fail
     refine (cI _ _ le (-1) true TwH.O HwH.O (by omega) hle9 (.inl rfl)).mono ?_
     rintro e wI ⟨y,n2,rfl,hn2,ra2,fr2,tx2⟩
     have HwI:=aa ra2
     have FwI:=aa (FwH.O.trans fr2)
     have TwI:=aa tx2
     clear ra2 fr2 tx2
     go_wp2_with fail
     go_ret
     refine⟨FwI.O,aJ.mkOk HP2.O ?_ HwI.O (by show _+9+50*s.k<=n+50*(k'+1+1)+0;omega) ⟨_,rfl,by rw[den];exact TwI.O⟩⟩
     unfold wt
     rw[<-HWQ.O,if_pos rfl,<-HP.O]
     simp<;>omega
    ·have q63:((x:Int)==63)=false:=by rw[beq_eq_false_iff_ne];omega
     have hP2:=HPM.O
     rw[if_neg h63,decide_eq_false h63]at hP2
     have HP2:=aa hP2
     clear hP2 HPM h63
     go_upto_region 25 with fail
     obtain⟨m3,m5,m6,g5,g6,mr,gr,hrl⟩:=HwF.O.more
     go_upto_region 29 with fail
     generalize hw9:World.setCell _ _ _=wH
     have hup:=HwF.O.hvs wH hw9
     have HwH:=aa hup.1
     have FwH:=aa (FwF.O.trans hup.2)
     have TwH:=aa (TwF.O.fr (hup.2))
     clear hw9 hup m3 m5 m6 g5 g6 mr gr hrl hl c0 c1 c2 f1 f2
     go_wp2_with fail
     refine (cI _ _ le (-1) false TwH.O HwH.O (by omega) hle9 (.inl rfl)).mono ?_
     rintro e wI ⟨y,n2,rfl,hn2,ra2,fr2,tx2⟩
     have HwI:=aa ra2
     have FwI:=aa (FwH.O.trans fr2)
     have TwI:=aa tx2
     clear ra2 fr2 tx2
     go_wp2_with fail
     go_ret
     refine⟨FwI.O,aJ.mkOk HP2.O ?_ HwI.O (by show _+9+50*s.k<=n+50*(k'+1)+0;omega) ⟨_,rfl,by rw[den];exact TwI.O⟩⟩
     unfold wt
     rw[<-HWQ.O,if_pos rfl,<-HP.O]
     simp<;>omega
   ·obtain⟨M,rfl⟩:∃M:Nat,mo=(M:Int):=⟨mo.toNat,by omega⟩
    have hM9:le<=M/\M<=9:=by omega
    have hneg:¬(M:Int)<0:=by omega
    have KN:=aa (bG Hw3.O)
    dsimp only at KN
    rw[<-show 125=aj t k' from HC5.O]at KN
    go_wp2_with fail
    refine KN.O.mono ?_
    rintro e w4 ⟨rfl,ra9,fr9,_⟩
    have Hw4:=aa ra9
    have Fw4:=aa (Fw3.O.trans fr9)
    have Tw4:=aa (Tw3.O.fr (fr9))
    clear ra9 fr9 KN
    have KE:=aa (cN 125 Hw4.O ht)
    go_wp2_with fail
    refine KE.O.mono ?_
    rintro e wE ⟨rfl,fr9,hE9⟩
    have hra:RA wE p r base t ⟨k'+1,d',f,g,nm⟩ false (wq:Int) n1:=by
     rcases hE9 with⟨_,_,h⟩|⟨h,_⟩
     ·exact h
     ·rcases h with h|h
      ·cases h
      ·rw[HSE.O]at h;cases h
    have HwE:=aa hra
    have FwE:=aa (Fw4.O.trans fr9)
    have TwE:=aa (Tw4.O.fr (fr9))
    clear hra fr9 hE9 KE
    obtain⟨c0,c1,c2,f1,f2,hl⟩:=HwE.O.facts
    obtain⟨x,hx⟩:=exq (aj t (k'+1))
    have HCx:=aa hx
    have KN:=aa (bG HwE.O)
    dsimp only at KN
    rw[<-hx]at KN
    have s63:ac t ⟨k'+1,d',f,g,nm⟩ 63=decide (x=63):=by rw[hx];exact bU (by decide)
    have HS63:=aa s63
    clear hx s63
    have hPM:aW t E s= .ok (.count q le (M:Int) (decide (x=63))) (if x=63 then ⟨k'+1+1,d',f,g,nm⟩else ⟨k'+1,d',f,g,nm⟩):=by
     unfold aW
     rw[HAM.O,Res.bind_ok,HCN.O,Res.bind_ok]
     dsimp only
     unfold RS.took
     rw[HS63.O]
     by_cases h:x=63
     ·rw[decide_eq_true h,if_pos rfl,if_pos h];rfl
     ·rw[decide_eq_false h,if_neg (by simp),if_neg h]
    have HPM:=aa hPM
    clear hPM
    have hm10:wq*M<=1169230260*10:=Nat.mul_le_mul b1 (by omega)
    obtain⟨P,hP⟩:=exq (wq*M)
    rw[<-hP]at hm10
    have HP:=aa hP
    have hPi:(wq:Int)*(M:Int)=(P:Int):=by rw[hP];simp
    clear hP
    go_wp2_with fail
    refine KN.O.mono ?_
    rintro e wF ⟨rfl,ra9,fr9,_⟩
    have HwF:=aa ra9
    have FwF:=aa (FwE.O.trans fr9)
    have TwF:=aa (TwE.O.fr (fr9))
    clear ra9 fr9 KN c0 c1 c2 f1 f2 hl
    obtain⟨c0,c1,c2,f1,f2,hl⟩:=HwF.O.facts
    dsimp only at c1
    by_cases h63:x=63
    ·have q63:((x:Int)==63)=true:=by rw[h63];rfl
     have hP2:=HPM.O
     rw[if_pos h63,decide_eq_true h63]at hP2
     have HP2:=aa hP2
     clear hP2 HPM h63
     go_upto_region 25 with fail
     generalize hw9:World.setCell _ _ _=wG
     have hup:=HwF.O.up2 wG hw9 (by first|(simp;done)|(simp;omega))
     have HwG:=aa hup.1
     have FwG:=aa (FwF.O.trans hup.2)
     have TwG:=aa (TwF.O.fr (hup.2))
     clear hw9 hup c0 c1 c2 f1 f2 hl
     obtain⟨m3,m5,m6,g5,g6,mr,gr,hrl⟩:=HwG.O.more
     have hl:=HwG.O.rk.lt
     go_upto_region 29 with fail
     generalize hw9:World.setCell _ _ _=wH
     have hup:=HwG.O.hvs wH hw9
     have HwH:=aa hup.1
     have FwH:=aa (FwG.O.trans hup.2)
     have TwH:=aa (TwG.O.fr (hup.2))
     clear hw9 hup m3 m5 m6 g5 g6 mr gr hrl hl
     go_wp2_with fail
     refine (cI _ _ le (M:Int) true TwH.O HwH.O (by omega) hle9 (.inr hmo9)).mono ?_
     rintro e wI ⟨y,n2,rfl,hn2,ra2,fr2,tx2⟩
     have HwI:=aa ra2
     have FwI:=aa (FwH.O.trans fr2)
     have TwI:=aa tx2
     clear ra2 fr2 tx2
     go_wp2_with fail
     go_ret
     refine⟨FwI.O,aJ.mkOk HP2.O ?_ HwI.O (by show _+9+50*s.k<=n+50*(k'+1+1)+0;omega) ⟨_,rfl,by rw[den];exact TwI.O⟩⟩
     unfold wt
     rw[<-HWQ.O,if_neg (by omega),Int.toNat_natCast,<-HP.O]
     simp<;>omega
    ·have q63:((x:Int)==63)=false:=by rw[beq_eq_false_iff_ne];omega
     have hP2:=HPM.O
     rw[if_neg h63,decide_eq_false h63]at hP2
     have HP2:=aa hP2
     clear hP2 HPM h63
     go_upto_region 25 with fail
     obtain⟨m3,m5,m6,g5,g6,mr,gr,hrl⟩:=HwF.O.more
     go_upto_region 29 with fail
     generalize hw9:World.setCell _ _ _=wH
     have hup:=HwF.O.hvs wH hw9
     have HwH:=aa hup.1
     have FwH:=aa (FwF.O.trans hup.2)
     have TwH:=aa (TwF.O.fr (hup.2))
     clear hw9 hup m3 m5 m6 g5 g6 mr gr hrl hl c0 c1 c2 f1 f2
     go_wp2_with fail
     refine (cI _ _ le (M:Int) false TwH.O HwH.O (by omega) hle9 (.inr hmo9)).mono ?_
     rintro e wI ⟨y,n2,rfl,hn2,ra2,fr2,tx2⟩
     have HwI:=aa ra2
     have FwI:=aa (FwH.O.trans fr2)
     have TwI:=aa tx2
     clear ra2 fr2 tx2
     go_wp2_with fail
     go_ret
     refine⟨FwI.O,aJ.mkOk HP2.O ?_ HwI.O (by show _+9+50*s.k<=n+50*(k'+1)+0;omega) ⟨_,rfl,by rw[den];exact TwI.O⟩⟩
     unfold wt
     rw[<-HWQ.O,if_neg (by omega),Int.toNat_natCast,<-HP.O]
     simp<;>omega
 have HCN:Hid (cM t ⟨k,d',f,g,nm⟩= .ok none ⟨k,d',f,g,nm⟩):=by show _=_;rw[HCM.O,if_neg h42,if_neg h43,if_neg h63,if_neg h123]
 have HPM:Hid (aW t E s= .ok q ⟨k,d',f,g,nm⟩):=by
  show _=_
  unfold aW
  rw[HAM.O,Res.bind_ok,HCN.O]
  rfl
 have q42:((c:Int)==42)=false:=by rw[beq_eq_false_iff_ne];omega
 have q43:((c:Int)==43)=false:=by rw[beq_eq_false_iff_ne];omega
 have q63:((c:Int)==63)=false:=by rw[beq_eq_false_iff_ne];omega
 have q123:((c:Int)==123)=false:=by rw[beq_eq_false_iff_ne];omega
 clear HCM HSX
 go_wp2_with fail
 go_ret
 exact⟨Fw2.O,aJ.mkOk HPM.O (by rw[HWQ.O]) Hw2.O (by show _+9+50*s.k<=n+50*k+0;omega) ⟨_,rfl,Tw2.O⟩⟩
end Go.Proofs.YtfnanjbleifjkaaGreatDoor.G
