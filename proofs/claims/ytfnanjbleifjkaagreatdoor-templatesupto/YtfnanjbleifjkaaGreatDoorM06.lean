import Derived.Test.YtfnanjbleifjkaaGreatDoorM05
set_option linter.unusedVariables false
set_option linter.unusedSimpArgs false
set_option maxHeartbeats 2000000
set_option maxRecDepth 100000
namespace Go.Proofs.YtfnanjbleifjkaaGreatDoor.G
variable {t:ByteArray} {l mb r:Nat} {s:RS} {w:World} {x:EV}
open Go.RowKit
theorem rO (h:ai t s.k=none):dy t l s= .bad s:=by simp[dy,h]
theorem tc {b:UInt8} (h:ai t s.k=some b) (hb:b.toNat<48+l\/57<b.toNat):dy t l s= .bad s:=by simp[dy,h];omega
theorem vs {b:UInt8} (h:ai t s.k=some b) (hb:¬(b.toNat<48+l\/57<b.toNat)):dy t l s= .ok (b.toNat-48) s.up:=by simp[dy,h];omega
theorem ww (h:RG w r mb t x s) (l:Nat) (hl:l<=9):
  Calls Tryz.prog 268 #[.pointer (some ⟨r,0,none⟩),.int .i64 l] w fun e w'=>ay [r] r mb t x w (fun _ v (n:Nat)=>v= .int .i64 (n:Int)/\n<=9) (dy t l s) e w':=by
 have H:=aa h
 have hlt:=h.lt
 have ht:=h.ht
 clear h
 go_enter Tryz.func268,Tryz.ntmps268
 go_wp2_with fail
 refine (wn H.O).mono ?_
 rintro e w1 ⟨⟨n,rfl⟩,hp⟩
 rcases hp.split with⟨b,s',v,hm,rfl,hv,hg,hx⟩|⟨s',hm,rfl,hg,hx⟩
 ·subst hv
  cases hba:ai t s.k with
  |none=>rw[gv hba]at hm;cases hm
  |some b'=>
   rw[eU hba]at hm
   cases hm
   have hks:=(cP hba).1
   have hc1:=hg.rd.c1
   have hf1:=hg.rd.f1
   have hev:=hg.ev
   have hb256:=b.toNat_lt
   have HG:=aa hg
   by_cases hb:b.toNat<48+l\/57<b.toNat
   ·have HM:=aa (tc (l:=l) hba hb)
    clear hg hp hx hba
    by_cases h1:b.toNat<48+l
    ·have e1:((b.toNat:Int)-48<(l:Int)):=by omega
     clear hb h1
     go_wp2_with fail
     exact ab rfl (ay.mkBad HM.O HG.O ((Ex.refl _ _).drewN _))
    ·have e1:¬((b.toNat:Int)-48<(l:Int)):=by omega
     have e2:((b.toNat:Int)-48>9):=by omega
     clear hb h1
     go_wp2_with fail
     exact ab rfl (ay.mkBad HM.O HG.O ((Ex.refl _ _).drewN _))
   ·have HM:=aa (vs (l:=l) hba hb)
    have e1:¬((b.toNat:Int)-48<(l:Int)):=by omega
    have e2:¬((b.toNat:Int)-48>9):=by omega
    have e3:((b.toNat:Int)-48)=((b.toNat-48:Nat):Int):=by omega
    have HE3:=aa e3
    have hs9:b.toNat-48<=9:=by omega
    clear hb e3 hg hp hx hba
    go_wp2_with fail
    go_ret
    refine ay.mkOk HM.O ⟨congrArg (Value.int .i64) HE3.O,hs9⟩ ?_ (((Ex.refl _ _).drewN _).setCell (Or.inl (by simp)) _)
    have:=HG.O.up hks
    simpa using this
 ·cases hba:ai t s.k with
  |some b=>rw[eU hba]at hm;cases hm
  |none=>
   rw[gv hba]at hm
   cases hm
   exact ab rfl (ay.mkBad (rO hba) hg (hx.drop (by simp)))
theorem yr (h:RG w r mb t x s):
  Calls Tryz.prog 244 #[.pointer (some ⟨r,0,none⟩)] w fun e w'=>ay [r] r mb t x w (fun _ v (n:Nat×Int)=>v= .tuple #[.int .i64 (n.1:Int),.int .i64 n.2]/\n.1<=9/\ -1<=n.2/\n.2<=9) (bn t s) e w':=by
 have H:=aa h
 have hlt:=h.lt
 have ht:=h.ht
 clear h
 go_enter Tryz.func244,Tryz.ntmps244
 go_wp2_with fail
 refine (ww H.O 0 (by omega)).mono ?_
 rintro e w1 hp
 rcases hp.split with⟨a,s1,v,hm,rfl,⟨rfl,ha⟩,hg1,hx1⟩|⟨s',hm,rfl,hg,hx⟩
 rotate_left
 ·exact ab rfl (ay.mkBad (by simp only[bn,hm,Res.bind_bad]) hg hx)
 have M1:=aa hm
 have G1:=aa hg1
 have X1:=aa hx1
 clear hp hm hg1 hx1
 go_wp2_with fail
 refine (de G1.O 125 125 rfl).mono ?_
 rintro e w2 ⟨rfl,hg2,hx2⟩
 cases hq:ac t s1 125 with
 |true=>
  rw[ck hq]at hg2
  have Q2:=aa hq
  have G2:=aa hg2
  have X2:=aa hx2
  clear hg2 hx2 hq
  go_wp2_with fail
  go_ret2
  exact ay.mkOk (by simp only[bn,af M1,Res.bind_ok,af Q2,if_true];rfl) ⟨rfl,ha,by simp<;>omega,by simp<;>omega⟩ G2.O (X1.O.trans X2.O)
 |false=>
  rw[cU hq]at hg2
  have Q2:=aa hq
  have G2:=aa hg2
  have X2:=aa hx2
  clear hg2 hx2 hq
  go_wp2_with fail
  refine (gL G2.O 44 44 rfl).mono ?_
  rintro e w3 hp
  rcases hp.split with⟨_,s3,v,hm,rfl,rfl,hg3,hx3⟩|⟨s',hm,rfl,hg,hx⟩
  rotate_left
  ·exact ab rfl (ay.mkBad (by simp only[bn,af M1,Res.bind_ok,af Q2,Bool.false_eq_true,if_false,hm,Res.bind_bad]) hg ((X1.O.trans X2.O).trans hx))
  have M3:=aa hm
  have G3:=aa hg3
  have X3:=aa ((X1.O.trans X2.O).trans hx3)
  clear hp hm hg3 hx3 G1 X1 G2 X2
  go_wp2_with fail
  refine (de G3.O 125 125 rfl).mono ?_
  rintro e w4 ⟨rfl,hg4,hx4⟩
  cases hq:ac t s3 125 with
  |true=>
   rw[ck hq]at hg4
   have Q4:=aa hq
   have G4:=aa hg4
   have X4:=aa hx4
   clear hg4 hx4 hq
   go_wp2_with fail
   go_ret2
   exact ay.mkOk (by simp only[bn,af M1,Res.bind_ok,af Q2,Bool.false_eq_true,if_false,af M3,af Q4,if_true];rfl) ⟨rfl,ha,by simp,by simp⟩ G4.O (X3.O.trans X4.O)
  |false=>
   rw[cU hq]at hg4
   have Q4:=aa hq
   have G4:=aa hg4
   have X4:=aa (X3.O.trans hx4)
   clear hg4 hx4 hq G3 X3
   go_wp2_with fail
   refine (ww G4.O a ha).mono ?_
   rintro e w5 hp
   rcases hp.split with⟨b,s5,v,hm,rfl,⟨rfl,hb⟩,hg5,hx5⟩|⟨s',hm,rfl,hg,hx⟩
   rotate_left
   ·exact ab rfl (ay.mkBad (by simp only[bn,af M1,Res.bind_ok,af Q2,Bool.false_eq_true,if_false,af M3,af Q4,hm,Res.bind_bad]) hg (X4.O.trans hx))
   have M5:=aa hm
   have G5:=aa hg5
   have X5:=aa (X4.O.trans hx5)
   clear hp hm hg5 hx5 G4 X4
   go_wp2_with fail
   refine (gL G5.O 125 125 rfl).mono ?_
   rintro e w6 hp
   rcases hp.split with⟨_,s6,v,hm,rfl,rfl,hg6,hx6⟩|⟨s',hm,rfl,hg,hx⟩
   rotate_left
   ·exact ab rfl (ay.mkBad (by simp only[bn,af M1,Res.bind_ok,af Q2,Bool.false_eq_true,if_false,af M3,af Q4,af M5,hm,Res.bind_bad]) hg (X5.O.trans hx))
   have M6:=aa hm
   have G6:=aa hg6
   have X6:=aa (X5.O.trans hx6)
   clear hp hm hg6 hx6 G5 X5
   go_wp2_with fail
   go_ret2
   exact ay.mkOk (by simp only[bn,af M1,Res.bind_ok,af Q2,Bool.false_eq_true,if_false,af M3,af Q4,af M5,af M6];rfl) ⟨rfl,ha,by simp<;>omega,by simp<;>omega⟩ G6.O X6.O
def zq:Option (Nat×Int) ->Value
 |none=> .tuple #[.int .i64 0,.int .i64 0,.bool false]
 |some n=> .tuple #[.int .i64 (n.1:Int),.int .i64 n.2,.bool true]
def tu:Option (Nat×Int) ->Prop
 |none=>True
 |some n=>n.1<=9/\ -1<=n.2/\n.2<=9
theorem zB (h:RG w r mb t x s):
  Calls Tryz.prog 216 #[.pointer (some ⟨r,0,none⟩)] w fun e w'=>ay [r] r mb t x w (fun _ v n=>v=zq n/\tu n) (cM t s) e w':=by
 have H:=aa h
 have hlt:=h.lt
 have ht:=h.ht
 clear h
 go_enter Tryz.func216,Tryz.ntmps216
 go_wp2_with fail
 refine (de H.O 42 42 rfl).mono ?_
 rintro e w1 ⟨rfl,hg1,hx1⟩
 cases hq:ac t s 42 with
 |true=>
  rw[ck hq]at hg1
  have Q1:=aa hq
  have G1:=aa hg1
  have X1:=aa (hx1)
  clear hg1 hx1 hq
  go_wp2_with fail
  go_ret3
  exact ay.mkOk (a:=some (0,-1)) (by simp only[cM,af Q1,Bool.false_eq_true,if_false,if_true]) ⟨rfl,by simp[tu]⟩ G1.O X1.O
 |false=>
 rw[cU hq]at hg1
 have Q1:=aa hq
 have G1:=aa hg1
 have X1:=aa (hx1)
 clear hg1 hx1 hq
 go_wp2_with fail
 refine (de G1.O 43 43 rfl).mono ?_
 rintro e w2 ⟨rfl,hg2,hx2⟩
 cases hq:ac t s 43 with
 |true=>
  rw[ck hq]at hg2
  have Q2:=aa hq
  have G2:=aa hg2
  have X2:=aa (X1.O.trans hx2)
  clear hg2 hx2 hq
  go_wp2_with fail
  go_ret3
  exact ay.mkOk (a:=some (1,-1)) (by simp only[cM,af Q1,af Q2,Bool.false_eq_true,if_false,if_true]) ⟨rfl,by simp[tu]⟩ G2.O X2.O
 |false=>
 rw[cU hq]at hg2
 have Q2:=aa hq
 have G2:=aa hg2
 have X2:=aa (X1.O.trans hx2)
 clear hg2 hx2 hq
 go_wp2_with fail
 refine (de G2.O 63 63 rfl).mono ?_
 rintro e w3 ⟨rfl,hg3,hx3⟩
 cases hq:ac t s 63 with
 |true=>
  rw[ck hq]at hg3
  have Q3:=aa hq
  have G3:=aa hg3
  have X3:=aa (X2.O.trans hx3)
  clear hg3 hx3 hq
  go_wp2_with fail
  go_ret3
  exact ay.mkOk (a:=some (0,1)) (by simp only[cM,af Q1,af Q2,af Q3,Bool.false_eq_true,if_false,if_true]) ⟨rfl,by simp[tu]⟩ G3.O X3.O
 |false=>
 rw[cU hq]at hg3
 have Q3:=aa hq
 have G3:=aa hg3
 have X3:=aa (X2.O.trans hx3)
 clear hg3 hx3 hq
 go_wp2_with fail
 refine (de G3.O 123 123 rfl).mono ?_
 rintro e w4 ⟨rfl,hg4,hx4⟩
 cases hq:ac t s 123 with
 |false=>
  rw[cU hq]at hg4
  have Q4:=aa hq
  have G4:=aa hg4
  have X4:=aa (X3.O.trans hx4)
  clear hg4 hx4 hq
  go_wp2_with fail
  go_ret3
  exact ay.mkOk (a:=none) (by simp only[cM,af Q1,af Q2,af Q3,af Q4,Bool.false_eq_true,if_false]) ⟨rfl,trivial⟩ G4.O X4.O
 |true=>
 rw[ck hq]at hg4
 have Q4:=aa hq
 have G4:=aa hg4
 have X4:=aa (X3.O.trans hx4)
 clear hg4 hx4 hq G3 X3
 go_wp2_with fail
 refine (yr G4.O).mono ?_
 rintro e w5 hp
 rcases hp.split with⟨b,s5,v,hm,rfl,⟨rfl,hb⟩,hg5,hx5⟩|⟨s',hm,rfl,hg,hx⟩
 rotate_left
 ·exact ab rfl (ay.mkBad (by simp only[cM,af Q1,af Q2,af Q3,af Q4,Bool.false_eq_true,if_false,if_true,hm,Res.bind_bad]) hg (X4.O.trans hx))
 have M5:=aa hm
 have G5:=aa hg5
 have X5:=aa (X4.O.trans hx5)
 clear hp hm hg5 hx5 G4 X4
 go_wp2_with fail
 go_ret3
 exact ay.mkOk (a:=some b) (by simp only[cM,af Q1,af Q2,af Q3,af Q4,Bool.false_eq_true,if_false,if_true,af M5,Res.bind_ok]) ⟨rfl,hb⟩ G5.O X5.O
theorem ef (a b:Nat) (w:World) (hab:a<=b) (hb:b<128):Calls Tryz.prog 243 #[.int .u8 a,.int .u8 b] w fun e w'=>e= .returned (ar (ce a b))/\Ex [] w w':=by
 obtain⟨R,hR⟩:∃R,ce a b=R:=⟨_,rfl⟩
 have HR:Hid (jd (b+1-a) a ⟨0,0,false⟩=R):=hR
 rw[hR]
 clear hR
 go_enter Tryz.func243,Tryz.ntmps243
 go_wp2_with fail
 go_loopg [6] (b+1-a) (fun gk l6 wr=>∃(i:Nat) (c:Cls),i+gk=b+1/\l6= .int .u8 i/\jd gk i c=R/\BK wr w.heap.size (.cells #[.int .u64 0,.int .u64 0,.bool false] 99 (0,0))/\BK wr (w.heap.size+1) (.cells #[.int .u64 c.lo,.int .u64 c.hi,.bool c.hg] 99 (0,0))/\Ex [] w wr)
 case atStart=>
  refine⟨a,⟨0,0,false⟩,by omega,rfl,HR.O,(BK.new _ _).alloc _,?_,((Ex.refl _ _).alloc _).alloc _⟩
  have:=BK.new (w.alloc (Obj.cells #[.int .u64 0,.int .u64 0,.bool false] 99)) (Obj.cells #[.int .u64 0,.int .u64 0,.bool false] 99)
  simpa using this
 case round=>
  obtain⟨i,c,hi,rfl,hac,hb0,hb1,hx⟩:=hrel
  have HX:=aa hx
  have HB0:=aa hb0
  have HB1:=aa hb1
  have HAC:=aa hac
  have hl0:=hb0.lt
  have hl1:=hb1.lt
  obtain⟨hc0,hf0⟩:=hb0.all
  obtain⟨hc1,hf1⟩:=hb1.all
  clear hx hb0 hb1 hac
  cases gk with
  |zero=>
   have e1:¬(i:Int)<=(b:Int):=by omega
   have HRC:Hid (c=R):=HAC.O
   go_wp2_with fail
   refine bodyPost_ret (v:=ar c) (by simp[results,Tryz.results243,go_sem,ar,hc0,hl0]) rfl ⟨by rw[HRC.O],?_⟩
   repeat (refine Ex.setCell ?_ (Or.inr (by simp)) _)
   exact HX.O
  |succ g=>
   have e1:(i:Int)<=(b:Int):=by omega
   have hi128:i<128:=by omega
   have HAN:Hid (jd g (i+1) (addB c i)=R):=HAC.O
   have hd:i/64=0\/i/64=1:=by omega
   obtain⟨c1,c2,c3⟩:=c
   simp only at hc1 HB1 HAN
   rcases hd with hd|hd
   ·have HAB:Hid (addB ⟨c1,c2,c3⟩ i=⟨bits BinOp.or IntKind.u64 c1 (fk i),c2,c3⟩):=by show addB ⟨c1,c2,c3⟩ i=_;unfold addB;rw[if_pos hd]
    obtain⟨d,hdd⟩:∃d,bits BinOp.or IntKind.u64 c1 (fk i)=d:=⟨_,rfl⟩
    unfold fk at hdd
    go_wp2_with fail
    go_roundg g
    case measure=>omega
    case rel=>
     refine⟨i+1,⟨d,c2,c3⟩,by omega,by simp,?_,?_,?_,?_⟩
     ·have h1:=HAN.O
      rw[HAB.O]at h1
      unfold fk at h1
      rw[hdd]at h1
      exact h1
     ·repeat (refine BK.set ?_ (by simp) _)
      exact HB0.O
     ·have h1:=HB1.O.self 0 (.int .u64 d)
      simpa using h1
     ·repeat (refine Ex.setCell ?_ (Or.inr (by simp)) _)
      exact HX.O
   ·have HAB:Hid (addB ⟨c1,c2,c3⟩ i=⟨c1,bits BinOp.or IntKind.u64 c2 (fk i),c3⟩):=by show addB ⟨c1,c2,c3⟩ i=_;unfold addB;rw[if_neg (by omega)]
    obtain⟨d,hdd⟩:∃d,bits BinOp.or IntKind.u64 c2 (fk i)=d:=⟨_,rfl⟩
    unfold fk at hdd
    go_wp2_with fail
    go_roundg g
    case measure=>omega
    case rel=>
     refine⟨i+1,⟨c1,d,c3⟩,by omega,by simp,?_,?_,?_,?_⟩
     ·have h1:=HAN.O
      rw[HAB.O]at h1
      unfold fk at h1
      rw[hdd]at h1
      exact h1
     ·repeat (refine BK.set ?_ (by simp) _)
      exact HB0.O
     ·have h1:=HB1.O.self 1 (.int .u64 d)
      simpa using h1
     ·repeat (refine Ex.setCell ?_ (Or.inr (by simp)) _)
      exact HX.O
theorem eX (c:Cls) (w:World):
  Calls Tryz.prog 265 #[ar c] w fun e w'=>e= .returned (ar (bI c))/\Ex [] w w':=by
 obtain⟨c1,c2,c3⟩:=c
 unfold bI ar
 simp only
 obtain⟨d1,hd1⟩:∃d,bits BinOp.xor IntKind.u64 IntKind.u64.max c1=d:=⟨_,rfl⟩
 obtain⟨d2,hd2⟩:∃d,bits BinOp.xor IntKind.u64 IntKind.u64.max c2=d:=⟨_,rfl⟩
 go_enter Tryz.func265,Tryz.ntmps265
 go_wp2
 refine bodyPost_ret (v:= .agg #[.int .u64 d1,.int .u64 d2,.bool (!c3)]) (by simp[results,Tryz.results265,go_sem]) rfl ⟨rfl,?_⟩
 repeat (first|exact Ex.refl _ _|refine Ex.setCell ?_ (Or.inr (by simp)) _|refine Ex.alloc ?_ _)
theorem lF (w:World):Calls Tryz.prog 282 #[] w fun e w'=>e= .returned (ar dI)/\Ex [] w w':=by
 obtain⟨c,hc⟩:∃c,dI=c:=⟨_,rfl⟩
 have K:=aa (fun w=>ef 48 57 w (by omega) (by omega))
 rw[show ce 48 57=c from hc]at K
 rw[hc]
 clear hc
 go_enter Tryz.func282,Tryz.ntmps282
 go_wp2_with fail
 refine (K.O _).mono ?_
 rintro e w1 ⟨rfl,hx⟩
 have X1:Hid (Ex [] (w.alloc (Obj.cells #[.int .u64 0,.int .u64 0,.bool false] 99)) w1):=hx
 clear hx
 have hb:=(BK.new w (Obj.cells #[.int .u64 0,.int .u64 0,.bool false] 99)).ex X1.O (by simp)
 obtain⟨hc,hf⟩:=hb.all
 have hl:=hb.lt
 clear hb
 unfold ar
 go_wp2_with fail
 refine bodyPost_ret (v:=ar c) (by simp[results,Tryz.results282,go_sem,ar,hc]) rfl ⟨rfl,?_⟩
 repeat (refine Ex.setCell ?_ (Or.inr (by simp)) _)
 exact ((Ex.refl _ _).alloc _).trans X1.O
theorem mY (w:World):Calls Tryz.prog 239 #[] w fun e w'=>e= .returned (ar o6)/\Ex [] w w':=by
 obtain⟨c,hc⟩:∃c,o6=c:=⟨_,rfl⟩
 have K:=aa (fun w=>eX ⟨0,0,false⟩ w)
 rw[show bI ⟨0,0,false⟩=c from hc]at K
 rw[hc]
 clear hc
 go_enter Tryz.func239,Tryz.ntmps239
 go_wp2_with fail
 refine (K.O _).mono ?_
 rintro e w1 ⟨rfl,hx⟩
 have X1:Hid (Ex [] (w.alloc (Obj.cells #[.int .u64 0,.int .u64 0,.bool false] 99)) w1):=hx
 clear hx
 have hb:=(BK.new w (Obj.cells #[.int .u64 0,.int .u64 0,.bool false] 99)).ex X1.O (by simp)
 obtain⟨hc,hf⟩:=hb.all
 have hl:=hb.lt
 clear hb
 unfold ar
 go_wp2_with fail
 refine bodyPost_ret (v:=ar c) (by simp[results,Tryz.results239,go_sem,ar,hc]) rfl ⟨rfl,?_⟩
 repeat (refine Ex.setCell ?_ (Or.inr (by simp)) _)
 exact ((Ex.refl _ _).alloc _).trans X1.O
theorem kz (l:List UInt8) (w:World) (hl:l.length<=60) (h128:∀b∈l,b.toNat<128):Calls Tryz.prog 284 #[.string ⟨l.toArray⟩] w fun e w'=>e= .returned (ar (lB l))/\Ex [] w w':=by
 obtain⟨R,hR⟩:∃R,lB l=R:=⟨_,rfl⟩
 have HR:Hid (l.foldl (fun c b=>bQ c (cv b.toNat)) ⟨0,0,false⟩=R):=hR
 rw[hR]
 clear hR
 have H8:=aa h128
 clear h128
 obtain⟨t,ht⟩:∃t:ByteArray,(⟨l.toArray⟩:ByteArray)=t:=⟨_,rfl⟩
 have hsz:t.size=l.length:=by rw[<-ht];simp[ByteArray.size]
 have HT:Hid (∀i (hi:i<t.size),l[i]? =some (t[i]'hi)):=by
  intro i hi
  subst ht
  simp[ByteArray.size]at hi
  rw[List.getElem?_eq_getElem hi];rfl
 rw[ht]
 have HSZ:=aa hsz
 have hts:t.size<=60:=by omega
 clear ht hsz
 go_enter Tryz.func284,Tryz.ntmps284
 go_wp2_with fail
 go_loopg [7] t.size (fun gk l7 wr=>∃(i:Nat) (c:Cls),i+gk=t.size/\l7= .int .i64 i/\(l.drop i).foldl (fun c b=>bQ c (cv b.toNat)) c=R/\BK wr w.heap.size (.cells #[.int .u64 0,.int .u64 0,.bool false] 99 (0,0))/\BK wr (w.heap.size+1) (.cells #[.int .u64 c.lo,.int .u64 c.hi,.bool c.hg] 99 (0,0))/\Ex [] w wr)
 case atStart=>
  refine⟨0,⟨0,0,false⟩,by omega,rfl,by simpa using HR.O,(BK.new _ _).alloc _,?_,((Ex.refl _ _).alloc _).alloc _⟩
  have:=BK.new (w.alloc (Obj.cells #[.int .u64 0,.int .u64 0,.bool false] 99)) (Obj.cells #[.int .u64 0,.int .u64 0,.bool false] 99)
  simpa using this
 case round=>
  obtain⟨i,c,hi,rfl,hac,hb0,hb1,hx⟩:=hrel
  have HX:=aa hx
  have HB0:=aa hb0
  have HB1:=aa hb1
  have HAC:=aa hac
  have hl0:=hb0.lt
  have hl1:=hb1.lt
  obtain⟨hc0,hf0⟩:=hb0.all
  obtain⟨hc1,hf1⟩:=hb1.all
  clear hx hb0 hb1 hac
  cases gk with
  |zero=>
   have e1:¬(i:Int)<(t.size:Int):=by omega
   have HRC:Hid (c=R):=by
    have h1:=HAC.O
    have hs:=HSZ.O
    rw[List.drop_of_length_le (by omega)]at h1
    exact h1
   go_wp2_with fail
   refine bodyPost_ret (v:=ar c) (by simp[results,Tryz.results284,go_sem,ar,hc0,hl0]) rfl ⟨by rw[HRC.O],?_⟩
   repeat (refine Ex.setCell ?_ (Or.inr (by simp)) _)
   exact HX.O
  |succ g=>
   have hit:i<t.size:=by omega
   have e1:(i:Int)<(t.size:Int):=by omega
   obtain⟨b,hb⟩:∃b,(t[i]'hit)=b:=⟨_,rfl⟩
   have hli:l[i]? =some b:=by rw[HT.O i hit,hb]
   have hb128:b.toNat<128:=H8.O b (List.mem_of_getElem? hli)
   have HN:Hid ((l.drop (i+1)).foldl (fun c b=>bQ c (cv b.toNat)) (bQ c (cv b.toNat))=R):=by
    have h1:=HAC.O
    obtain⟨hlt,hlb⟩:=List.getElem?_eq_some_iff.1 hli
    rw[List.drop_eq_getElem_cons hlt,List.foldl_cons,hlb]at h1
    exact h1
   obtain⟨O1,W1,hW1,kb1,kw1⟩:∃O1 W1:Cls,W1=bQ c (cv b.toNat)/\(∀w,Calls Tryz.prog 243 #[.int .u8 (b.toNat:Int),.int .u8 (b.toNat:Int)] w fun e w'=>e= .returned (ar O1)/\Ex [] w w')/\
     (∀w,Calls Tryz.prog 264 #[ar c,ar O1] w fun e w'=>e= .returned (ar W1)/\Ex [] w w'):=
    ⟨cv b.toNat,bQ c (cv b.toNat),rfl,fun w=>dc b.toNat w hb128,fun w=>fe _ _ w⟩
   rw[<-hW1]at HN
   have KB1:=aa kb1
   have KW1:=aa kw1
   clear kb1 kw1 hW1 hli
   go_wp2_with fail
   refine aQ (by kernel_rfl) ?_
   refine tk (i:=1) (v:= ?_) rfl ?_ ?_
   rotate_left
   ·intro w'
    go_simp
    try with_reducible rfl
   simp only[Act.put,List.replicate,Array.replicate,lx]
   refine tk (i:=2) (v:= ?_) rfl ?_ ?_
   rotate_left
   ·intro w'
    go_simp
    try with_reducible rfl
   simp only[Act.put,List.replicate,Array.replicate,lx]
   refine tk (i:=3) (v:= ?_) rfl ?_ ?_
   rotate_left
   ·intro w'
    go_simp
    try with_reducible rfl
   simp only[Act.put,List.replicate,Array.replicate,lx]
   refine tk (i:=4) (v:= ?_) rfl ?_ ?_
   rotate_left
   ·intro w'
    go_simp
    try with_reducible rfl
   simp only[Act.put,List.replicate,Array.replicate,lx]
   refine tk (i:=5) (v:= ?_) rfl ?_ ?_
   rotate_left
   ·intro w'
    go_simp
    try with_reducible rfl
   simp only[Act.put,List.replicate,Array.replicate,lx]
   refine tk (i:=6) (v:= ?_) rfl ?_ ?_
   rotate_left
   ·intro w'
    go_simp
    try with_reducible rfl
   simp only[Act.put,List.replicate,Array.replicate,lx]
   refine aV (S:=(fun j w'=>j<9 ->∀o,w'.cell? ⟨w.heap.size+1,o,none⟩= #[Value.int .u64 c.lo,.int .u64 c.hi,.bool c.hg][o]?)) _ _ _ _ ?_
   refine cG (i:=0) (T:=(fun w'=>∀o,w'.cell? ⟨w.heap.size+1,o,none⟩= #[Value.int .u64 c.lo,.int .u64 c.hi,.bool c.hg][o]?)) (v:= ?_) (fun j=>decide (j<9)) rfl (by kernel_rfl) (by kernel_rfl) (by kernel_rfl) (by kernel_rfl) (fun j w' hj h=>h (by simpa using hj)) (fun w' h _=>h) (fun _ _ _ h=>h) hc1 (Or.inl ⟨by rfl,?_⟩) ?_
   rotate_left
   ·intro w' hSw
    obtain hSw:=hSw
    go_simp
    try with_reducible rfl
   simp only[Act.put,List.replicate,Array.replicate,lx]
   refine ae (i:=7) rfl rfl (by kernel_rfl) (fun K hK=> ?_)
   go_simp
   refine (KB1.O _).mono ?_
   rintro e w3 ⟨rfl,hx3⟩
   have hy3:=((Ex.refl [] wr).drew).trans hx3
   obtain⟨q3,hf3⟩:=(HB1.O.ex hy3 (by simp)).all
   unfold ar
   go_wp2_with fail
   refine hK.O _ _ (fun _=>q3) ?_
   clear hK K
   simp only[Act.put,lx]
   refine ae (i:=8) rfl rfl (by kernel_rfl) (fun K hK=> ?_)
   go_simp
   refine (KW1.O _).mono ?_
   rintro e w4 ⟨rfl,hx4⟩
   have hy4:=(hy3).trans hx4
   obtain⟨q4,hf4⟩:=(HB1.O.ex hy4 (by simp)).all
   unfold ar
   go_wp2_with fail
   refine hK.O _ _ (fun _=>q4) ?_
   clear hK K
   simp only[Act.put,lx]
   refine ae (i:=9) rfl rfl (by kernel_rfl) (fun K hK=> ?_)
   go_simp
   refine hK.O _ _ (fun hj=>by omega) ?_
   clear hK K
   refine aP (by kernel_rfl) ?_ _
   have hb6:=HB1.O.ex hy4 (by simp)
   have hb61:=HB0.O.ex hy4 (by simp)
   have HY4:=aa hy4
   have HB6:=aa hb6
   have HB61:=aa hb61
   clear hx3 hx4 hy3 hy4 hb6 hb61 q3 q4 hf3 hf4
   go_wp2_with fail
   go_roundg g
   case measure=>omega
   case rel=>
    refine⟨i+1,W1,by omega,by simp,HN.O,?_,?_,?_⟩
    ·repeat (refine BK.set ?_ (by simp) _)
     exact HB61.O
    ·have h1:=((HB6.O.self 0 (.int .u64 W1.lo)).self 1 (.int .u64 W1.hi)).self 2 (.bool W1.hg)
     simpa using h1
    ·repeat (refine Ex.setCell ?_ (Or.inr (by simp)) _)
     exact HX.O.trans HY4.O
theorem nz (w:World):Calls Tryz.prog 283 #[] w fun e w'=>e= .returned (ar gV)/\Ex [] w w':=by
 obtain⟨c1,c2,c3,c4,c5,c6,c7,h7,k1,k2,k3,k4,k5,k6,k7⟩:∃c1 c2 c3 c4 c5 c6 c7:Cls,gV=c7/\(∀w,Calls Tryz.prog 282 #[] w fun e w'=>e= .returned (ar c1)/\Ex [] w w')/\
   (∀w,Calls Tryz.prog 243 #[.int .u8 97,.int .u8 122] w fun e w'=>e= .returned (ar c2)/\Ex [] w w')/\
   (∀w,Calls Tryz.prog 264 #[ar c1,ar c2] w fun e w'=>e= .returned (ar c3)/\Ex [] w w')/\
   (∀w,Calls Tryz.prog 243 #[.int .u8 65,.int .u8 90] w fun e w'=>e= .returned (ar c4)/\Ex [] w w')/\
   (∀w,Calls Tryz.prog 264 #[ar c3,ar c4] w fun e w'=>e= .returned (ar c5)/\Ex [] w w')/\
   (∀w,Calls Tryz.prog 284 #[.string ⟨#[95]⟩] w fun e w'=>e= .returned (ar c6)/\Ex [] w w')/\
   (∀w,Calls Tryz.prog 264 #[ar c5,ar c6] w fun e w'=>e= .returned (ar c7)/\Ex [] w w'):=
  ⟨dI,ce 97 122,bQ dI (ce 97 122),ce 65 90,bQ (bQ dI (ce 97 122)) (ce 65 90),lB [95],gV,rfl,lF,fun w=>ef 97 122 w (by omega) (by omega),fun w=>fe _ _ w,fun w=>ef 65 90 w (by omega) (by omega),fun w=>fe _ _ w,fun w=>kz [95] w (by decide) (by decide),fun w=>fe _ _ w⟩
 rw[h7]
 have K1:=aa k1
 have K2:=aa k2
 have K3:=aa k3
 have K4:=aa k4
 have K5:=aa k5
 have K6:=aa k6
 have K7:=aa k7
 clear h7 k1 k2 k3 k4 k5 k6 k7
 go_enter Tryz.func283,Tryz.ntmps283
 go_wp2_with fail
 refine (K1.O _).mono ?_
 rintro e w1 ⟨rfl,hx⟩
 have X1:Hid (Ex [] (w.alloc (Obj.cells #[.int .u64 0,.int .u64 0,.bool false] 99)) w1):=hx
 clear hx
 go_wp2_with fail
 refine (K2.O _).mono ?_
 rintro e w2 ⟨rfl,hx⟩
 have X2:Hid (Ex [] (w.alloc (Obj.cells #[.int .u64 0,.int .u64 0,.bool false] 99)) w2):=X1.O.trans hx
 clear hx
 go_wp2_with fail
 refine (K3.O _).mono ?_
 rintro e w3 ⟨rfl,hx⟩
 have X3:Hid (Ex [] (w.alloc (Obj.cells #[.int .u64 0,.int .u64 0,.bool false] 99)) w3):=X2.O.trans hx
 clear hx
 go_wp2_with fail
 refine (K4.O _).mono ?_
 rintro e w4 ⟨rfl,hx⟩
 have X4:Hid (Ex [] (w.alloc (Obj.cells #[.int .u64 0,.int .u64 0,.bool false] 99)) w4):=X3.O.trans hx
 clear hx
 go_wp2_with fail
 refine (K5.O _).mono ?_
 rintro e w5 ⟨rfl,hx⟩
 have X5:Hid (Ex [] (w.alloc (Obj.cells #[.int .u64 0,.int .u64 0,.bool false] 99)) w5):=X4.O.trans hx
 clear hx
 go_wp2_with fail
 refine (K6.O _).mono ?_
 rintro e w6 ⟨rfl,hx⟩
 have X6:Hid (Ex [] (w.alloc (Obj.cells #[.int .u64 0,.int .u64 0,.bool false] 99)) w6):=X5.O.trans hx
 clear hx
 go_wp2_with fail
 refine (K7.O _).mono ?_
 rintro e w7 ⟨rfl,hx⟩
 have X7:Hid (Ex [] (w.alloc (Obj.cells #[.int .u64 0,.int .u64 0,.bool false] 99)) w7):=X6.O.trans hx
 clear hx
 have hb:=(BK.new w (Obj.cells #[.int .u64 0,.int .u64 0,.bool false] 99)).ex X7.O (by simp)
 obtain⟨hc,hf⟩:=hb.all
 have hl:=hb.lt
 clear hb
 unfold ar
 go_wp2_with fail
 refine bodyPost_ret (v:=ar c7) (by simp[results,Tryz.results283,go_sem,ar,hc]) rfl ⟨rfl,?_⟩
 repeat (refine Ex.setCell ?_ (Or.inr (by simp)) _)
 exact ((Ex.refl _ _).alloc _).trans X7.O
def pE:Option Cls ->Value
 |none=> .tuple #[ar ⟨0,0,false⟩,.bool false]
 |some c=> .tuple #[ar c,.bool true]
theorem nl (b:UInt8) (w:World):Calls Tryz.prog 266 #[.int .u8 (b.toNat:Int)] w fun e w'=>e= .returned (pE (dQ b))/\Ex [] w w':=by
 obtain⟨cd,cw,cs,cD,cW,cS,e1,e2,e3,e4,e5,e6,k1,k2,k3,k4,k5,k6⟩:∃cd cw cs cD cW cS:Cls,dI=cd/\gV=cw/\gT=cs/\bI dI=cD/\bI gV=cW/\bI gT=cS/\
   (∀w,Calls Tryz.prog 282 #[] w fun e w'=>e= .returned (ar cd)/\Ex [] w w')/\
   (∀w,Calls Tryz.prog 283 #[] w fun e w'=>e= .returned (ar cw)/\Ex [] w w')/\
   (∀w,Calls Tryz.prog 284 #[.string ⟨#[32,9,10,13]⟩] w fun e w'=>e= .returned (ar cs)/\Ex [] w w')/\
   (∀w,Calls Tryz.prog 265 #[ar cd] w fun e w'=>e= .returned (ar cD)/\Ex [] w w')/\
   (∀w,Calls Tryz.prog 265 #[ar cw] w fun e w'=>e= .returned (ar cW)/\Ex [] w w')/\
   (∀w,Calls Tryz.prog 265 #[ar cs] w fun e w'=>e= .returned (ar cS)/\Ex [] w w'):=
  ⟨dI,gV,gT,bI dI,bI gV,bI gT,rfl,rfl,rfl,rfl,rfl,rfl,lF,nz,fun w=>kz [32,9,10,13] w (by decide) (by decide),fun w=>eX _ w,fun w=>eX _ w,fun w=>eX _ w⟩
 have hS:Hid (dQ b=if b.toNat=100 then some cd else if b.toNat=119 then some cw else if b.toNat=115 then some cs else if b.toNat=68 then some cD else if b.toNat=87 then some cW else if b.toNat=83 then some cS else none):=by
  show dQ b=_
  unfold dQ
  rw[e4,e5,e6,e1,e2,e3]
  have hh:∀n:UInt8,(b=n)=(b.toNat=n.toNat):=fun n=>by rw[UInt8.toNat_inj]
  simp only[hh]
  rfl
 have K1:=aa k1
 have K2:=aa k2
 have K3:=aa k3
 have K4:=aa k4
 have K5:=aa k5
 have K6:=aa k6
 clear e1 e2 e3 e4 e5 e6 k1 k2 k3 k4 k5 k6
 obtain⟨V,hV⟩:∃V,pE (dQ b)=V:=⟨_,rfl⟩
 have HV:=aa hV
 rw[hV]
 clear hV
 obtain⟨n,hn⟩:∃n,b.toNat=n:=⟨_,rfl⟩
 rw[hn]at hS ⊢
 clear hn
 by_cases h100:n=100
 ·have HW:Hid (V= .tuple #[ar cd,.bool true]):=by
   show V=_
   rw[<-HV.O,hS.O,if_pos h100]
   rfl
  subst h100
  go_enter Tryz.func266,Tryz.ntmps266
  go_wp2_with fail
  refine (K1.O _).mono ?_
  rintro e w1 ⟨rfl,hx⟩
  have X1:Hid (Ex [] (w.alloc (Obj.cells #[.int .u64 0,.int .u64 0,.bool false] 99)) w1):=hx
  clear hx
  have hb:=(BK.new w (Obj.cells #[.int .u64 0,.int .u64 0,.bool false] 99)).ex X1.O (by simp)
  obtain⟨hc,hf⟩:=hb.all
  have hl:=hb.lt
  clear hb
  unfold ar
  go_wp2_with fail
  refine bodyPost_ret (v:= .tuple #[ar cd,.bool true]) (by simp[results,Tryz.results266,go_sem,ar,hc]) rfl ⟨by rw[HW.O],?_⟩
  repeat (refine Ex.setCell ?_ (Or.inr (by simp)) _)
  exact ((Ex.refl _ _).alloc _).trans X1.O
 by_cases h119:n=119
 ·have HW:Hid (V= .tuple #[ar cw,.bool true]):=by
   show V=_
   rw[<-HV.O,hS.O,if_neg h100,if_pos h119]
   rfl
  subst h119
  go_enter Tryz.func266,Tryz.ntmps266
  go_wp2_with fail
  refine (K2.O _).mono ?_
  rintro e w1 ⟨rfl,hx⟩
  have X1:Hid (Ex [] (w.alloc (Obj.cells #[.int .u64 0,.int .u64 0,.bool false] 99)) w1):=hx
  clear hx
  have hb:=(BK.new w (Obj.cells #[.int .u64 0,.int .u64 0,.bool false] 99)).ex X1.O (by simp)
  obtain⟨hc,hf⟩:=hb.all
  have hl:=hb.lt
  clear hb
  unfold ar
  go_wp2_with fail
  refine bodyPost_ret (v:= .tuple #[ar cw,.bool true]) (by simp[results,Tryz.results266,go_sem,ar,hc]) rfl ⟨by rw[HW.O],?_⟩
  repeat (refine Ex.setCell ?_ (Or.inr (by simp)) _)
  exact ((Ex.refl _ _).alloc _).trans X1.O
 by_cases h115:n=115
 ·have HW:Hid (V= .tuple #[ar cs,.bool true]):=by
   show V=_
   rw[<-HV.O,hS.O,if_neg h100,if_neg h119,if_pos h115]
   rfl
  subst h115
  go_enter Tryz.func266,Tryz.ntmps266
  go_wp2_with fail
  refine (K3.O _).mono ?_
  rintro e w1 ⟨rfl,hx⟩
  have X1:Hid (Ex [] (w.alloc (Obj.cells #[.int .u64 0,.int .u64 0,.bool false] 99)) w1):=hx
  clear hx
  have hb:=(BK.new w (Obj.cells #[.int .u64 0,.int .u64 0,.bool false] 99)).ex X1.O (by simp)
  obtain⟨hc,hf⟩:=hb.all
  have hl:=hb.lt
  clear hb
  unfold ar
  go_wp2_with fail
  refine bodyPost_ret (v:= .tuple #[ar cs,.bool true]) (by simp[results,Tryz.results266,go_sem,ar,hc]) rfl ⟨by rw[HW.O],?_⟩
  repeat (refine Ex.setCell ?_ (Or.inr (by simp)) _)
  exact ((Ex.refl _ _).alloc _).trans X1.O
 by_cases h68:n=68
 ·have HW:Hid (V= .tuple #[ar cD,.bool true]):=by
   show V=_
   rw[<-HV.O,hS.O,if_neg h100,if_neg h119,if_neg h115,if_pos h68]
   rfl
  subst h68
  go_enter Tryz.func266,Tryz.ntmps266
  go_wp2_with fail
  refine (K1.O _).mono ?_
  rintro e w1 ⟨rfl,hx⟩
  have X1:Hid (Ex [] (w.alloc (Obj.cells #[.int .u64 0,.int .u64 0,.bool false] 99)) w1):=hx
  clear hx
  go_wp2_with fail
  refine (K4.O _).mono ?_
  rintro e w2 ⟨rfl,hx⟩
  have X2:Hid (Ex [] (w.alloc (Obj.cells #[.int .u64 0,.int .u64 0,.bool false] 99)) w2):=X1.O.trans hx
  clear hx
  have hb:=(BK.new w (Obj.cells #[.int .u64 0,.int .u64 0,.bool false] 99)).ex X2.O (by simp)
  obtain⟨hc,hf⟩:=hb.all
  have hl:=hb.lt
  clear hb
  unfold ar
  go_wp2_with fail
  refine bodyPost_ret (v:= .tuple #[ar cD,.bool true]) (by simp[results,Tryz.results266,go_sem,ar,hc]) rfl ⟨by rw[HW.O],?_⟩
  repeat (refine Ex.setCell ?_ (Or.inr (by simp)) _)
  exact ((Ex.refl _ _).alloc _).trans X2.O
 by_cases h87:n=87
 ·have HW:Hid (V= .tuple #[ar cW,.bool true]):=by
   show V=_
   rw[<-HV.O,hS.O,if_neg h100,if_neg h119,if_neg h115,if_neg h68,if_pos h87]
   rfl
  subst h87
  go_enter Tryz.func266,Tryz.ntmps266
  go_wp2_with fail
  refine (K2.O _).mono ?_
  rintro e w1 ⟨rfl,hx⟩
  have X1:Hid (Ex [] (w.alloc (Obj.cells #[.int .u64 0,.int .u64 0,.bool false] 99)) w1):=hx
  clear hx
  go_wp2_with fail
  refine (K5.O _).mono ?_
  rintro e w2 ⟨rfl,hx⟩
  have X2:Hid (Ex [] (w.alloc (Obj.cells #[.int .u64 0,.int .u64 0,.bool false] 99)) w2):=X1.O.trans hx
  clear hx
  have hb:=(BK.new w (Obj.cells #[.int .u64 0,.int .u64 0,.bool false] 99)).ex X2.O (by simp)
  obtain⟨hc,hf⟩:=hb.all
  have hl:=hb.lt
  clear hb
  unfold ar
  go_wp2_with fail
  refine bodyPost_ret (v:= .tuple #[ar cW,.bool true]) (by simp[results,Tryz.results266,go_sem,ar,hc]) rfl ⟨by rw[HW.O],?_⟩
  repeat (refine Ex.setCell ?_ (Or.inr (by simp)) _)
  exact ((Ex.refl _ _).alloc _).trans X2.O
 by_cases h83:n=83
 ·have HW:Hid (V= .tuple #[ar cS,.bool true]):=by
   show V=_
   rw[<-HV.O,hS.O,if_neg h100,if_neg h119,if_neg h115,if_neg h68,if_neg h87,if_pos h83]
   rfl
  subst h83
  go_enter Tryz.func266,Tryz.ntmps266
  go_wp2_with fail
  refine (K3.O _).mono ?_
  rintro e w1 ⟨rfl,hx⟩
  have X1:Hid (Ex [] (w.alloc (Obj.cells #[.int .u64 0,.int .u64 0,.bool false] 99)) w1):=hx
  clear hx
  go_wp2_with fail
  refine (K6.O _).mono ?_
  rintro e w2 ⟨rfl,hx⟩
  have X2:Hid (Ex [] (w.alloc (Obj.cells #[.int .u64 0,.int .u64 0,.bool false] 99)) w2):=X1.O.trans hx
  clear hx
  have hb:=(BK.new w (Obj.cells #[.int .u64 0,.int .u64 0,.bool false] 99)).ex X2.O (by simp)
  obtain⟨hc,hf⟩:=hb.all
  have hl:=hb.lt
  clear hb
  unfold ar
  go_wp2_with fail
  refine bodyPost_ret (v:= .tuple #[ar cS,.bool true]) (by simp[results,Tryz.results266,go_sem,ar,hc]) rfl ⟨by rw[HW.O],?_⟩
  repeat (refine Ex.setCell ?_ (Or.inr (by simp)) _)
  exact ((Ex.refl _ _).alloc _).trans X2.O
 have HW:Hid (V= .tuple #[ar ⟨0,0,false⟩,.bool false]):=by
  show V=_
  rw[<-HV.O,hS.O,if_neg h100,if_neg h119,if_neg h115,if_neg h68,if_neg h87,if_neg h83]
  rfl
 have g1:¬(n:Int)=100:=by omega
 have g2:¬(n:Int)=119:=by omega
 have g3:¬(n:Int)=115:=by omega
 have g4:¬(n:Int)=68:=by omega
 have g5:¬(n:Int)=87:=by omega
 have g6:¬(n:Int)=83:=by omega
 go_enter Tryz.func266,Tryz.ntmps266
 go_wp2_with fail
 refine bodyPost_ret (v:= .tuple #[ar ⟨0,0,false⟩,.bool false]) (by simp[results,Tryz.results266,go_sem,ar]) rfl ⟨by rw[HW.O],?_⟩
 repeat (first|exact Ex.refl _ _|refine Ex.setCell ?_ (Or.inr (by simp)) _|refine Ex.alloc ?_ _)
end Go.Proofs.YtfnanjbleifjkaaGreatDoor.G
