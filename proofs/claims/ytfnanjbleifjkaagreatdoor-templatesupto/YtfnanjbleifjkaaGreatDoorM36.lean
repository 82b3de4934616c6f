import Derived.Test.YtfnanjbleifjkaaGreatDoorM35
set_option linter.unusedVariables false
set_option linter.unusedSimpArgs false
set_option maxHeartbeats 64000000
set_option maxRecDepth 100000
namespace Go.Proofs.YtfnanjbleifjkaaGreatDoor.G
variable {s:ByteArray} {i:Nat}
open Go.RowKit
theorem xN (t:Tk):1<=t.sz:=by
 cases t with
 |ex x=>cases x<;>simp[Tk.sz,Xp.sz]
 |gend n=>simp[Tk.sz]
 |rend x z f=>cases f<;>simp[Tk.sz]
theorem za {c:SC} (hk:SK c):∀(N i:Nat),c.l3.length-i<=N ->i<=c.l3.length ->∀(M:Nat) (K:List Ti),ksz (erK K)<=M ->eA c i K:=by
 intro N
 induction N with
 |zero=>
  intro i hN hi M
  induction M with
  |zero=>
   intro K hM d w next h hx
   rcases hx with⟨rfl,rfl⟩|⟨j,rfl,_,hm⟩
   ·exact kZ hk i hi h
   ·obtain⟨s,hs,hso⟩:=h.st hm
    obtain⟨t,K',rfl,_⟩:=hso.hd
    have:=xN t.er
    simp only[erK,List.map_cons,ksz]at hM
    omega
  |succ M ih=>
   intro K hM d w next h hx
   rcases hx with⟨rfl,rfl⟩|⟨j,rfl,_,hm⟩
   ·exact kZ hk i hi h
   ·obtain⟨s,hs,hso⟩:=h.st hm
    obtain⟨t,K',rfl,_⟩:=hso.hd
    refine xT hk hi (fun d w h hm=> ?_) h hm
    cases t with
    |gend n=>exact mK hk h hm (ih _ (by simp[erK,ksz,Ti.er,Tk.sz]at hM ⊢;omega))
    |rend y A z f=>
     refine mL hk h hm (fun e=> ?_)
     subst e
     exact⟨ih _ (by simp[erK,ksz,Ti.er,Tk.sz]at hM ⊢;omega),ih _ (by simp[erK,ksz,Ti.er,Tk.sz]at hM ⊢;omega)⟩
    |ex Y=>
     cases Y with
     |emp y=>exact cF hk h hm (ih _ (by simp[erK,ksz,Ti.er,Tk.sz,Yp.er,Xp.sz]at hM ⊢;omega))
     |set y cl=>exact cF hk h hm (fun h9=>by omega)
     |cat y A B=>exact cF hk h hm (ih _ (by simp[erK,ksz,Ti.er,Tk.sz,Yp.er,Xp.sz]at hM ⊢;omega))
     |alt y A B=>exact cF hk h hm ⟨(ih _ (by simp[erK,ksz,Ti.er,Tk.sz,Yp.er,Xp.sz]at hM ⊢;omega)),(ih _ (by simp[erK,ksz,Ti.er,Tk.sz,Yp.er,Xp.sz]at hM ⊢;omega))⟩
     |star y A z=>exact cF hk h hm ⟨(ih _ (by simp[erK,ksz,Ti.er,Tk.sz,Yp.er,Xp.sz]at hM ⊢;omega)),(ih _ (by simp[erK,ksz,Ti.er,Tk.sz,Yp.er,Xp.sz]at hM ⊢;omega))⟩
     |may y A z=>exact cF hk h hm ⟨(ih _ (by simp[erK,ksz,Ti.er,Tk.sz,Yp.er,Xp.sz]at hM ⊢;omega)),(ih _ (by simp[erK,ksz,Ti.er,Tk.sz,Yp.er,Xp.sz]at hM ⊢;omega))⟩
     |grp y A n=>exact cF hk h hm (ih _ (by simp[erK,ksz,Ti.er,Tk.sz,Yp.er,Xp.sz]at hM ⊢;omega))
 |succ N IH=>
  intro i hN hi M
  induction M with
  |zero=>
   intro K hM d w next h hx
   rcases hx with⟨rfl,rfl⟩|⟨j,rfl,_,hm⟩
   ·exact kZ hk i hi h
   ·obtain⟨s,hs,hso⟩:=h.st hm
    obtain⟨t,K',rfl,_⟩:=hso.hd
    have:=xN t.er
    simp only[erK,List.map_cons,ksz]at hM
    omega
  |succ M ih=>
   intro K hM d w next h hx
   rcases hx with⟨rfl,rfl⟩|⟨j,rfl,_,hm⟩
   ·exact kZ hk i hi h
   ·obtain⟨s,hs,hso⟩:=h.st hm
    obtain⟨t,K',rfl,_⟩:=hso.hd
    refine xT hk hi (fun d w h hm=> ?_) h hm
    cases t with
    |gend n=>exact mK hk h hm (ih _ (by simp[erK,ksz,Ti.er,Tk.sz]at hM ⊢;omega))
    |rend y A z f=>
     refine mL hk h hm (fun e=> ?_)
     subst e
     exact⟨ih _ (by simp[erK,ksz,Ti.er,Tk.sz]at hM ⊢;omega),ih _ (by simp[erK,ksz,Ti.er,Tk.sz]at hM ⊢;omega)⟩
    |ex Y=>
     cases Y with
     |emp y=>exact cF hk h hm (ih _ (by simp[erK,ksz,Ti.er,Tk.sz,Yp.er,Xp.sz]at hM ⊢;omega))
     |set y cl=>exact cF hk h hm (fun h9=>IH (i+1) (by omega) (by omega) _ _ (Nat.le_refl _))
     |cat y A B=>exact cF hk h hm (ih _ (by simp[erK,ksz,Ti.er,Tk.sz,Yp.er,Xp.sz]at hM ⊢;omega))
     |alt y A B=>exact cF hk h hm ⟨(ih _ (by simp[erK,ksz,Ti.er,Tk.sz,Yp.er,Xp.sz]at hM ⊢;omega)),(ih _ (by simp[erK,ksz,Ti.er,Tk.sz,Yp.er,Xp.sz]at hM ⊢;omega))⟩
     |star y A z=>exact cF hk h hm ⟨(ih _ (by simp[erK,ksz,Ti.er,Tk.sz,Yp.er,Xp.sz]at hM ⊢;omega)),(ih _ (by simp[erK,ksz,Ti.er,Tk.sz,Yp.er,Xp.sz]at hM ⊢;omega))⟩
     |may y A z=>exact cF hk h hm ⟨(ih _ (by simp[erK,ksz,Ti.er,Tk.sz,Yp.er,Xp.sz]at hM ⊢;omega)),(ih _ (by simp[erK,ksz,Ti.er,Tk.sz,Yp.er,Xp.sz]at hM ⊢;omega))⟩
     |grp y A n=>exact cF hk h hm (ih _ (by simp[erK,ksz,Ti.er,Tk.sz,Yp.er,Xp.sz]at hM ⊢;omega))
theorem zb {c:SC} (hk:SK c) (K:List Ti):eA c 0 K:=za hk _ 0 (Nat.le_refl _) (Nat.zero_le _) _ K (Nat.le_refl _)
theorem gX (h:i<s.size):(s[i]'h).toNat=bX s i:=by
 unfold bX
 congr 1
 show s.data[i]'h=s.data[i]!
 exact (getElem!_pos s.data i h).symm
def tlB (s:ByteArray) (i:Nat):Bool:=decide (i<s.size)&&(decide (128<=bX s i)&&decide (bX s i<192))
theorem mG (s:ByteArray) (i:Nat) (w:World):Calls Tryz.prog 186 #[.string s,.int .i64 (i:Int)] w fun e w'=>e= .returned (.bool (tlB s i))/\w'=w:=by
 unfold tlB
 by_cases hi:i<s.size
 ·have hii:(i:Int)<(s.size:Int):=by omega
  obtain⟨b,hb⟩:=exq (s[i]'hi)
  have hbn:bX s i=b.toNat:=by rw[hb,gX hi]
  rw[hbn,decide_eq_true hi]
  have hsub:s[i]'hi=b:=hb.symm
  clear hb
  by_cases h1:128<=b.toNat
  ·have h1i:(128:Int)<=(b.toNat:Int):=by omega
   by_cases h2:b.toNat<192
   ·have h2i:(b.toNat:Int)<192:=by omega
    rw[decide_eq_true h1,decide_eq_true h2]
    clear hbn h1 h2
    go_enter Tryz.func186,Tryz.ntmps186
    go_wp2_with fail
    go_ret
    first|exact⟨rfl,rfl⟩|rfl|trivial
   ·have h2i:¬(b.toNat:Int)<192:=by omega
    rw[decide_eq_true h1,decide_eq_false h2]
    clear hbn h1 h2
    go_enter Tryz.func186,Tryz.ntmps186
    go_wp2_with fail
    go_ret
    first|exact⟨rfl,rfl⟩|rfl|trivial
  ·have h1i:¬(128:Int)<=(b.toNat:Int):=by omega
   rw[decide_eq_false h1]
   clear hbn h1
   go_enter Tryz.func186,Tryz.ntmps186
   go_wp2_with fail
   go_ret
   first|exact⟨rfl,rfl⟩|rfl|trivial
 ·have hii:¬(i:Int)<(s.size:Int):=by omega
  rw[decide_eq_false hi]
  go_enter Tryz.func186,Tryz.ntmps186
  go_wp2_with fail
  go_ret
  first|exact⟨rfl,rfl⟩|rfl|trivial
theorem gB (h:true=tlB s i):i<s.size/\128<=bX s i/\bX s i<192:=by
 unfold tlB at h
 simpa using h.symm
theorem jE (h:false=tlB s i):¬(i<s.size/\128<=bX s i/\bX s i<192):=fun h9=>by
 unfold tlB at h
 rw[decide_eq_true h9.1,decide_eq_true h9.2.1,decide_eq_true h9.2.2]at h
 cases h
theorem xD (s:ByteArray) (i:Nat) (w:World) (hi:i<s.size) (hz:s.size<=1048576) (h128:128<=bX s i):Calls Tryz.prog 142 #[.string s,.int .i64 (i:Int)] w fun e w'=>e= .returned (.int .i64 (rzN s i:Int))/\w'=w:=by
 have hii:(i:Int)<(s.size:Int):=by omega
 obtain⟨bb,hbb⟩:=exq (s[i]'hi)
 have hbn:bX s i=bb.toNat:=by rw[hbb,gX hi]
 have hb256:bb.toNat<256:=UInt8.toNat_lt _
 have K1:=aa (mG s (i+1) w)
 have K2:=aa (mG s (i+2) w)
 have K3:=aa (mG s (i+3) w)
 have hr:rzN s i=szN (s.size-i) bb.toNat (bX s (i+1)) (bX s (i+2)) (bX s (i+3)):=by
  unfold rzN
  rw[if_neg (by omega),hbn]
 obtain⟨R,hR⟩:=exq (rzN s i)
 rw[<-hR]
 rw[hr]at hR
 obtain⟨T1,hT1⟩:=exq (tlB s (i+1))
 obtain⟨T2,hT2⟩:=exq (tlB s (i+2))
 obtain⟨T3,hT3⟩:=exq (tlB s (i+3))
 rw[<-hT1]at K1
 rw[<-hT2]at K2
 rw[<-hT3]at K3
 have HR:=aa hR
 have HT1:=aa hT1
 have HT2:=aa hT2
 have HT3:=aa hT3
 have hcat:(194<=bb.toNat/\bb.toNat<=223)\/(bb.toNat=224)\/(bb.toNat=237)\/(225<=bb.toNat/\bb.toNat<=239/\bb.toNat≠237)\/(bb.toNat=240)\/(bb.toNat=244)\/(241<=bb.toNat/\bb.toNat<=243)\/(bb.toNat<194)\/(244<bb.toNat):=by omega
 have hsub:s[i]'hi=bb:=hbb.symm
 clear hr hR hT1 hT2 hT3 hbn h128 hbb
 have e1:((i+1:Nat):Int)=(i:Int)+1:=by omega
 have e2:((i+2:Nat):Int)=(i:Int)+2:=by omega
 have e3:((i+3:Nat):Int)=(i:Int)+3:=by omega
 rw[e1]at K1
 rw[e2]at K2
 rw[e3]at K3
 clear e1 e2 e3
 rcases hcat with hc|hc|hc|hc|hc|hc|hc|hc|hc
 all_goals
  (first|have g194:(194:Int)<=(bb.toNat:Int):=by omega|have g194:¬(194:Int)<=(bb.toNat:Int):=by omega)
  (first|have l223:(bb.toNat:Int)<=(223:Int):=by omega|have l223:¬(bb.toNat:Int)<=(223:Int):=by omega)
  (first|have g225:(225:Int)<=(bb.toNat:Int):=by omega|have g225:¬(225:Int)<=(bb.toNat:Int):=by omega)
  (first|have l239:(bb.toNat:Int)<=(239:Int):=by omega|have l239:¬(bb.toNat:Int)<=(239:Int):=by omega)
  (first|have g241:(241:Int)<=(bb.toNat:Int):=by omega|have g241:¬(241:Int)<=(bb.toNat:Int):=by omega)
  (first|have l243:(bb.toNat:Int)<=(243:Int):=by omega|have l243:¬(bb.toNat:Int)<=(243:Int):=by omega)
  (first|have q224:((bb.toNat:Int)==224)=true:=by rw[beq_iff_eq];omega|have q224:((bb.toNat:Int)==224)=false:=by rw[beq_eq_false_iff_ne];omega)
  (first|have q237:((bb.toNat:Int)==237)=true:=by rw[beq_iff_eq];omega|have q237:((bb.toNat:Int)==237)=false:=by rw[beq_eq_false_iff_ne];omega)
  (first|have q240:((bb.toNat:Int)==240)=true:=by rw[beq_iff_eq];omega|have q240:((bb.toNat:Int)==240)=false:=by rw[beq_eq_false_iff_ne];omega)
  (first|have q244:((bb.toNat:Int)==244)=true:=by rw[beq_iff_eq];omega|have q244:((bb.toNat:Int)==244)=false:=by rw[beq_eq_false_iff_ne];omega)
  (first|have n237:((bb.toNat:Int) !=237)=false:=by rw[bne_eq_false_iff_eq];omega|have n237:((bb.toNat:Int) !=237)=true:=by rw[bne_iff_ne];omega)
  by_cases hi1:i+1<s.size
  ·have hi1i:(i:Int)+1<(s.size:Int):=by omega
   obtain⟨b1,hb1⟩:=exq (s[i+1]'hi1)
   have hn1:bX s (i+1)=b1.toNat:=by rw[hb1,gX hi1]
   rw[hn1]at HR
   have HN1:=aa hn1
   have hsub1:s[i+1]'hi1=b1:=hb1.symm
   have hb1lt:b1.toNat<256:=UInt8.toNat_lt _
   clear hb1 hn1
   cases T1 with
   |false=>
    go_enter Tryz.func142,Tryz.ntmps142
    go_wp2_with fail
    refine K1.O.mono ?_
    rintro e w1 ⟨rfl,rfl⟩
    go_wp2_with fail
    go_ret
    have t1:=(by have h9:=jE HT1.O;rw[HN1.O]at h9;exact h9:¬(i+1<s.size/\128<=b1.toNat/\b1.toNat<192))
    (first|have hres:R=1:=by rw[HR.O];unfold szN;(repeat' split);all_goals omega|have hres:R=2:=by rw[HR.O];unfold szN;(repeat' split);all_goals omega|have hres:R=3:=by rw[HR.O];unfold szN;(repeat' split);all_goals omega|have hres:R=4:=by rw[HR.O];unfold szN;(repeat' split);all_goals omega)
    rw[hres]
    (first|exact⟨rfl,rfl⟩|rfl|trivial)
   |true=>
    cases T2 with
    |false=>
     go_enter Tryz.func142,Tryz.ntmps142
     go_wp2_with fail
     refine K1.O.mono ?_
     rintro e w1 ⟨rfl,rfl⟩
     go_wp2_with fail
     refine K2.O.mono ?_
     rintro e w1 ⟨rfl,rfl⟩
     go_wp2_with fail
     go_ret
     have t1:=(by have h9:=gB HT1.O;rw[HN1.O]at h9;exact h9:i+1<s.size/\128<=b1.toNat/\b1.toNat<192)
     have t2:=jE HT2.O
     (first|have hres:R=1:=by rw[HR.O];unfold szN;(repeat' split);all_goals omega|have hres:R=2:=by rw[HR.O];unfold szN;(repeat' split);all_goals omega|have hres:R=3:=by rw[HR.O];unfold szN;(repeat' split);all_goals omega|have hres:R=4:=by rw[HR.O];unfold szN;(repeat' split);all_goals omega)
     rw[hres]
     (first|exact⟨rfl,rfl⟩|rfl|trivial)
    |true=>
     have hnx3:b1.toNat<144\/(144<=b1.toNat/\b1.toNat<160)\/160<=b1.toNat:=by omega
     rcases hnx3 with hn3|hn3|hn3
     all_goals
      (first|have m160:(160:Int)<=(b1.toNat:Int):=by omega|have m160:¬(160:Int)<=(b1.toNat:Int):=by omega)
      (first|have m159:(b1.toNat:Int)<=(159:Int):=by omega|have m159:¬(b1.toNat:Int)<=(159:Int):=by omega)
      (first|have m144:(144:Int)<=(b1.toNat:Int):=by omega|have m144:¬(144:Int)<=(b1.toNat:Int):=by omega)
      (first|have m143:(b1.toNat:Int)<=(143:Int):=by omega|have m143:¬(b1.toNat:Int)<=(143:Int):=by omega)
      cases T3 with
      |false=>
       go_enter Tryz.func142,Tryz.ntmps142
       go_wp2_with fail
       refine K1.O.mono ?_
       rintro e w1 ⟨rfl,rfl⟩
       go_wp2_with fail
       refine K2.O.mono ?_
       rintro e w1 ⟨rfl,rfl⟩
       go_wp2_with fail
       refine K3.O.mono ?_
       rintro e w1 ⟨rfl,rfl⟩
       go_wp2_with fail
       go_ret
       have t1:=(by have h9:=gB HT1.O;rw[HN1.O]at h9;exact h9:i+1<s.size/\128<=b1.toNat/\b1.toNat<192)
       have t2:=gB HT2.O
       have t3:=jE HT3.O
       (first|have hres:R=1:=by rw[HR.O];unfold szN;(repeat' split);all_goals omega|have hres:R=2:=by rw[HR.O];unfold szN;(repeat' split);all_goals omega|have hres:R=3:=by rw[HR.O];unfold szN;(repeat' split);all_goals omega|have hres:R=4:=by rw[HR.O];unfold szN;(repeat' split);all_goals omega)
       rw[hres]
       (first|exact⟨rfl,rfl⟩|rfl|trivial)
      |true=>
       go_enter Tryz.func142,Tryz.ntmps142
       go_wp2_with fail
       refine K1.O.mono ?_
       rintro e w1 ⟨rfl,rfl⟩
       go_wp2_with fail
       refine K2.O.mono ?_
       rintro e w1 ⟨rfl,rfl⟩
       go_wp2_with fail
       refine K3.O.mono ?_
       rintro e w1 ⟨rfl,rfl⟩
       go_wp2_with fail
       go_ret
       have t1:=(by have h9:=gB HT1.O;rw[HN1.O]at h9;exact h9:i+1<s.size/\128<=b1.toNat/\b1.toNat<192)
       have t2:=gB HT2.O
       have t3:=gB HT3.O
       (first|have hres:R=1:=by rw[HR.O];unfold szN;(repeat' split);all_goals omega|have hres:R=2:=by rw[HR.O];unfold szN;(repeat' split);all_goals omega|have hres:R=3:=by rw[HR.O];unfold szN;(repeat' split);all_goals omega|have hres:R=4:=by rw[HR.O];unfold szN;(repeat' split);all_goals omega)
       rw[hres]
       (first|exact⟨rfl,rfl⟩|rfl|trivial)
  ·have hi1i:¬(i:Int)+1<(s.size:Int):=by omega
   cases T1 with
   |true=>exact absurd (gB HT1.O).1 hi1
   |false=>
    go_enter Tryz.func142,Tryz.ntmps142
    go_wp2_with fail
    refine K1.O.mono ?_
    rintro e w1 ⟨rfl,rfl⟩
    go_wp2_with fail
    go_ret
    have t1:=jE HT1.O
    (first|have hres:R=1:=by rw[HR.O];unfold szN;(repeat' split);all_goals omega|have hres:R=2:=by rw[HR.O];unfold szN;(repeat' split);all_goals omega|have hres:R=3:=by rw[HR.O];unfold szN;(repeat' split);all_goals omega|have hres:R=4:=by rw[HR.O];unfold szN;(repeat' split);all_goals omega)
    rw[hres]
    (first|exact⟨rfl,rfl⟩|rfl|trivial)
theorem wO:(Tryz.prog.info? 274).map (fun i=>(i.zero,i.size,i.bytes))=some (some (.agg #[.int .i64 0,.int .i64 0,.int .i64 0]),3,24):=by kernel_rfl
theorem oJ (l:List (Nat×Nat×Nat)) (x:Nat×Nat×Nat):ni (l++[x])=ni l++[.int .i64 (x.1:Int),.int .i64 (x.2.1:Int),.int .i64 (x.2.2:Int)]:=by simp[ni]
theorem vh (s:ByteArray) (hz:s.size<=1048576) (w:World):Calls Tryz.prog 97 #[.string s] w fun e w'=>∃v,e= .returned v/\w'.ownsRow w.heap.size 274 3 v (b8 s s.size 0).length (ni (b8 s s.size 0))/\Ex [] w w':=by
 obtain⟨t0,hti,hzz0,hzz1,hzz2⟩:=info_parts wO
 obtain⟨R,hR⟩:=exq (b8 s s.size 0)
 rw[<-hR]
 have HR:=aa hR
 clear hR
 go_enter Tryz.func97,Tryz.ntmps97
 go_wp2_with fail
 go_loopg [3,4] s.size (fun gk v3 v4 wr=>∃(a f:Nat) (acc:List (Nat×Nat×Nat)),v4= .int .i64 (a:Int)/\a+gk=s.size/\gk<=f/\acc++b8 s f a=R/\acc.length<=a/\wr.ownsRow w.heap.size 274 3 v3 acc.length (ni acc)/\Ex [] w wr)
 case atStart=>exact⟨0,s.size,[],rfl,by omega,Nat.le_refl _,by rw[HR.O];rfl,Nat.le_refl _,World.ownsRow_nil _ _ _ _,Ex.refl _ _⟩
 case round=>
  obtain⟨a,f,acc,rfl,hag,hgf,hacc,hal,hown,hx⟩:=hrel
  have HO:=aa hown
  have HX:=aa hx
  have HA:=aa hacc
  have hwz:=hx.size
  obtain⟨p3,c3,rfl⟩:=aA hown
  obtain⟨m,hm⟩:=exq (acc.length)
  have HM:=aa hm
  rw[<-hm]at HO hal ⊢
  clear hown hx hacc hm
  cases gk with
  |zero=>
   have h1:¬(a:Int)<(s.size:Int):=by omega
   go_wp2_with fail
   go_ret
   refine⟨_,rfl,?_,HX.O⟩
   have e:R=acc:=by
    rw[<-HA.O]
    cases f with
    |zero=>simp[b8]
    |succ f=>simp only[b8];rw[if_neg (by omega),List.append_nil]
   rw[e,<-HM.O]
   exact HO.O
  |succ g=>
   have ha:a<s.size:=by omega
   have hai:(a:Int)<(s.size:Int):=by omega
   obtain⟨f,rfl⟩:∃f',f=f'+1:=⟨f-1,by omega⟩
   obtain⟨bb,hbb⟩:=exq (s[a]'ha)
   have hbn:bX s a=bb.toNat:=by rw[hbb,gX ha]
   have hsub:s[a]'ha=bb:=hbb.symm
   have hrz:=pB s a ha
   have hrp:=pC s a
   have HA2:Hid (acc++(rcN s a,a,rzN s a)::b8 s f (a+rzN s a)=R):=by show _=_;rw[<-HA.O];simp only[b8];rw[if_pos ha]
   have hb256:bb.toNat<256:=UInt8.toNat_lt _
   clear HA hbb
   by_cases h128:bb.toNat<128
   ·have h1:¬(128:Int)<=(bb.toNat:Int):=by omega
    have hc:rcN s a=bb.toNat:=by unfold rcN;rw[if_pos (by omega),hbn]
    have hs1:rzN s a=1:=by unfold rzN;rw[if_pos (by omega)]
    rw[hc,hs1]at HA2
    rw[hs1]at hrz
    clear hc hs1 hrp hbn
    go_upto_region 8 with fail
    generalize hw2:World.alloc _ _=w2
    have hb2:BK w2 wr.heap.size (.cells #[.int .i64 (bb.toNat:Int),.int .i64 (a:Int),.int .i64 1] 274 (0,0)):=by rw[<-hw2];exact BK.new _ _
    have hx2:Ex [] wr w2:=by rw[<-hw2];exact (Ex.refl _ _).alloc _
    have hz2:w2.heap.size=wr.heap.size+1:=by rw[<-hw2];simp
    obtain⟨b,hb⟩:=exq (wr.heap.size)
    rw[<-hb]at hb2 ⊢
    have c0:w2.cell? ⟨b,0,none⟩=some (.int .i64 (bb.toNat:Int)):=hb2.all.1 0
    have c1:w2.cell? ⟨b,1,none⟩=some (.int .i64 (a:Int)):=hb2.all.1 1
    have c2:w2.cell? ⟨b,2,none⟩=some (.int .i64 1):=hb2.all.1 2
    have hbl:=hb2.lt
    have HO2:=aa (aU HO.O hx2 (by simp))
    have HX2:=aa (HX.O.trans hx2)
    have HB2:=aa hb2
    have hNb:(Value.slice p3 m c3).ownBlock≠some b:=fun e=>by have:=(HO.O.lt b e).2;omega
    have HNB:=aa hNb
    have hbw:w.heap.size<=w2.heap.size:=HX2.O.size
    clear hw2 hx2 hb2 hNb hz2 hb HO HX hwz
    go_wp2_with (at_builtin;refine wpList_append_lies _ rfl (.tmp 25) (.tmp 27) 216 rfl w.heap.size 274 t0 _ 3 24 Tryz.underlying216 hti hzz0 hzz1 hzz2 rfl (by decide) (.slice p3 m c3) m (ni acc) rfl (HO2.O.alloc _) ⟨w2.heap.size,0,none⟩ 1 1 [.int .i64 (bb.toNat:Int),.int .i64 (a:Int),.int .i64 1] rfl rfl (bK _ _ _) (by simp[Value.oneCell']) (by decide) (by unfold maxLen;omega) (by omega) (by simp;omega) (w2.heap.size+1) (by simp) ?_)
    intro gb cap w5 hown5 hgrow hcase hlt5
    have hrow:∀y,(Value.slice p3 m c3).ownBlock=some y ->w.heap.size<=y:=fun y hy=>aG HO2.O y hy
    have hgr:Ex (Value.slice p3 m c3).ownBlock.toList w2 w5:=Ex.grown ((Ex.refl _ _).alloc _) hgrow (fun y hy=>Or.inl (by simpa using hy))
    have hb5:=BK.grown (BK.alloc HB2.O (.cells #[.int .i64 (bb.toNat:Int),.int .i64 (a:Int),.int .i64 1] 274)) hgrow HNB.O
    have HO5:=aa hown5
    have HX5:=aa (((HX2.O.drop (by simp)).trans hgr).drop (l':=[]) (fun y hy hlt=>by have:=hrow y (by simpa using hy);omega))
    have c25:w5.cell? ⟨b,2,none⟩=some (.int .i64 1):=hb5.all.1 2
    have hbl5:=hb5.lt
    clear hown5 hgrow hcase hgr hrow c0 c1 c2 hb5
    go_wp2_with fail
    go_roundg (s.size-(a+1))
    case measure=>omega
    case rel=>
     refine⟨a+1,f,acc++[(bb.toNat,a,1)],by simp,by omega,by omega,by rw[List.append_assoc];exact HA2.O,by rw[List.length_append,<-HM.O];simp;omega,?_,HX5.O⟩
     rw[oJ,List.length_append,<-HM.O]
     exact HO5.O
   ·have h1:(128:Int)<=(bb.toNat:Int):=by omega
    have hc:rcN s a=128:=by unfold rcN;rw[if_neg (by omega)]
    have KS:=aa (fun W=>xD s a W ha hz (by omega))
    obtain⟨q,hq⟩:=exq (rzN s a)
    rw[hc,<-hq]at HA2
    rw[<-hq]at hrz hrp KS
    clear hc hbn hq
    go_wp2_with fail
    refine (KS.O _).mono ?_
    rintro e w9 ⟨rfl,rfl⟩
    go_upto_region 8 with fail
    generalize hw2:World.alloc _ _=w2
    have hb2:BK w2 wr.heap.size (.cells #[.int .i64 128,.int .i64 (a:Int),.int .i64 (q:Int)] 274 (0,0)):=by rw[<-hw2];exact BK.new _ _
    have hx2:Ex [] wr w2:=by rw[<-hw2];exact (Ex.refl _ _).alloc _
    have hz2:w2.heap.size=wr.heap.size+1:=by rw[<-hw2];simp
    obtain⟨b,hb⟩:=exq (wr.heap.size)
    rw[<-hb]at hb2 ⊢
    have c0:w2.cell? ⟨b,0,none⟩=some (.int .i64 128):=hb2.all.1 0
    have c1:w2.cell? ⟨b,1,none⟩=some (.int .i64 (a:Int)):=hb2.all.1 1
    have c2:w2.cell? ⟨b,2,none⟩=some (.int .i64 (q:Int)):=hb2.all.1 2
    have hbl:=hb2.lt
    have HO2:=aa (aU HO.O hx2 (by simp))
    have HX2:=aa (HX.O.trans hx2)
    have HB2:=aa hb2
    have hNb:(Value.slice p3 m c3).ownBlock≠some b:=fun e=>by have:=(HO.O.lt b e).2;omega
    have HNB:=aa hNb
    have hbw:w.heap.size<=w2.heap.size:=HX2.O.size
    clear hw2 hx2 hb2 hNb hz2 hb HO HX hwz
    go_wp2_with (at_builtin;refine wpList_append_lies _ rfl (.tmp 25) (.tmp 27) 216 rfl w.heap.size 274 t0 _ 3 24 Tryz.underlying216 hti hzz0 hzz1 hzz2 rfl (by decide) (.slice p3 m c3) m (ni acc) rfl (HO2.O.alloc _) ⟨w2.heap.size,0,none⟩ 1 1 [.int .i64 128,.int .i64 (a:Int),.int .i64 (q:Int)] rfl rfl (bK _ _ _) (by simp[Value.oneCell']) (by decide) (by unfold maxLen;omega) (by omega) (by simp;omega) (w2.heap.size+1) (by simp) ?_)
    intro gb cap w5 hown5 hgrow hcase hlt5
    have hrow:∀y,(Value.slice p3 m c3).ownBlock=some y ->w.heap.size<=y:=fun y hy=>aG HO2.O y hy
    have hgr:Ex (Value.slice p3 m c3).ownBlock.toList w2 w5:=Ex.grown ((Ex.refl _ _).alloc _) hgrow (fun y hy=>Or.inl (by simpa using hy))
    have hb5:=BK.grown (BK.alloc HB2.O (.cells #[.int .i64 128,.int .i64 (a:Int),.int .i64 (q:Int)] 274)) hgrow HNB.O
    have HO5:=aa hown5
    have HX5:=aa (((HX2.O.drop (by simp)).trans hgr).drop (l':=[]) (fun y hy hlt=>by have:=hrow y (by simpa using hy);omega))
    have c25:w5.cell? ⟨b,2,none⟩=some (.int .i64 (q:Int)):=hb5.all.1 2
    have hbl5:=hb5.lt
    clear hown5 hgrow hcase hgr hrow c0 c1 c2 hb5
    go_wp2_with fail
    go_roundg (s.size-(a+q))
    case measure=>omega
    case rel=>
     refine⟨a+q,f,acc++[(128,a,q)],by simp,by omega,by omega,by rw[List.append_assoc];exact HA2.O,by rw[List.length_append,<-HM.O];simp;omega,?_,HX5.O⟩
     rw[oJ,List.length_append,<-HM.O]
     exact HO5.O
end Go.Proofs.YtfnanjbleifjkaaGreatDoor.G
