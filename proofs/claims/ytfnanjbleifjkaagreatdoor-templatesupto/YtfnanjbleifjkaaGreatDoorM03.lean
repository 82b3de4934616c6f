import Derived.Test.YtfnanjbleifjkaaGreatDoorM02
import Derived.Shelf.Strings.OnBuilder
import Derived.Shelf.Strings.Builder2
import Derived.Shelf.Strconv.Atoi
import Derived.Shelf.Strconv.Itoa1
import Derived.Shelf.Strconv.Itoa2
import Derived.Shelf.Strconv.Itoa3
set_option linter.unusedVariables false
set_option linter.unusedSimpArgs false
set_option maxHeartbeats 4000000
set_option maxRecDepth 100000
namespace Go.Proofs.YtfnanjbleifjkaaGreatDoor
open Go.RowKit
def iJ (v:ByteArray):ByteArray:=if 200<v.size then v.extract 0 200 else v
def c8 (ls:List Lab) (a:ByteArray):List Lab:=if eu ls a then ls.take (fO ls a)++ls.drop (fO ls a+1)else ls
def dY (ls:List Lab) (a v:ByteArray):List Lab:=
 if v.size=0\/(c8 ls a).length=60 then c8 ls a else (c8 ls a).take (fO ls a)++[(a,iJ v)]++(c8 ls a).drop (fO ls a)
structure LT (w:World) (q base:Nat) (ls:List Lab):Prop where
 le:base<=w.heap.size
 ex:∃v,BK w q (.cells #[v] 250 (0,0))/\w.ownsRow base 167 2 v ls.length (aB ls)/\v.ownBlock≠some q
structure LTN (w:World) (q base:Nat) (ls:List Lab) (o:Option Nat) (S:Nat):Prop where
 le:base<=w.heap.size
 ex:∃v,BK w q (.cells #[v] 250 (0,0))/\w.ownsRow base 167 2 v ls.length (aB ls)/\v.ownBlock≠some q/\∀k,v.ownBlock=some k ->o=some k\/S<=k
theorem LTN.lt {w:World} {q base:Nat} {ls:List Lab} {o:Option Nat} {S:Nat} (h:LTN w q base ls o S):LT w q base ls:=by
 obtain⟨v,h1,h2,h3,_⟩:=h.ex
 exact⟨h.le,v,h1,h2,h3⟩
theorem yK (ls:List Lab) (a:ByteArray):fO ls a<=ls.length:=by
 unfold fO
 exact (List.takeWhile_sublist _).length_le
theorem xM {ls:List Lab} {a:ByteArray} (h:eu ls a=true):fO ls a<ls.length:=by
 unfold eu at h
 cases hl:ls[fO ls a]? with
 |none=>rw[hl]at h;cases h
 |some l=>exact (List.getElem?_eq_some_iff.1 hl).1
theorem tw (s:ByteArray) (w:World) (hs:s.size<=281474976710656):
  Calls Tryz.prog 174 #[.string s] w fun e w'=>e= .returned (.string (iJ s))/\Ex [] w w':=by
 unfold iJ
 by_cases h:200<s.size
 ·rw[if_pos h]
  have h1:(200:Int)<s.size:=by omega
  have h2:200<=s.size:=by omega
  go_enter Tryz.func174,Tryz.ntmps174
  go_wp2_with fail
  refine (nK _ _ (by simp;omega)).mono ?_
  rintro e w' ⟨rfl,hx1⟩
  have HX1:=aa hx1
  clear hx1
  go_wp2_with fail
  go_ret
  exact⟨rfl,HX1.O⟩
 ·rw[if_neg h]
  refine (nP s w (by omega)).mono ?_
  rintro e w' ⟨rfl,rfl⟩
  exact⟨rfl,Ex.refl _ _⟩
theorem yp (q base:Nat) (ls:List Lab) (t:ByteArray) (w:World) (hq:LT w q base ls) (hn:ls.length<=1000) (hsrt:eI ls t):
  Calls Tryz.prog 171 #[.pointer (some ⟨q,0,none⟩),.string t] w fun e w'=>e= .returned (.tuple #[.int .i64 (fO ls t),.bool (eu ls t)])/\Ex [] w w':=by
 obtain⟨v,hb,ho,_⟩:=hq.ex
 obtain⟨hc,hf⟩:=hb.all
 have HO:=aa ho
 have HS:=aa hsrt
 clear hq hb ho hsrt
 go_enter Tryz.func171,Tryz.ntmps171
 go_wp2_with fail
 refine (eZ v ls t _ (xl HO.O) hn HS.O).mono ?_
 rintro e w' ⟨rfl,hx1⟩
 have HX1:=aa hx1
 clear hx1
 go_wp2_with fail
 go_ret2
 exact⟨rfl,HX1.O⟩
theorem zT (q base:Nat) (ls:List Lab) (a v:ByteArray) (v0:Value) (w:World) (hle:base<=w.heap.size) (hq:BK w q (.cells #[v0] 250 (0,0))) (ho:w.ownsRow base 167 2 v0 ls.length (aB ls)) (hnq:v0.ownBlock≠some q)
  (hn:ls.length<=60) (hsrt:eI ls a) (hvl:v.size<=281474976710656):
  Calls Tryz.prog 119 #[.pointer (some ⟨q,0,none⟩),.string a,.string v] w fun e w'=>e= .returned (.tuple #[])/\LTN w' q base (dY ls a v) v0.ownBlock w.heap.size/\Ex (q::v0.ownBlock.toList) w w':=by
 have HLT:Hid (LT w q base ls):=⟨hle,v0,hq,ho,hnq⟩
 have HB0:=aa hq
 have HO0:=aa ho
 have HN0:=aa hnq
 have HS:=aa hsrt
 have hql:=hq.lt
 clear hq ho hnq hsrt
 go_enter Tryz.func119,Tryz.ntmps119
 go_wp2_with fail
 refine (yp q base ls a _ HLT.O (by omega) HS.O).mono ?_
 rintro e w1 ⟨rfl,hx1⟩
 obtain⟨pp,hpp⟩:∃pp,fO ls a=pp:=⟨_,rfl⟩
 rw[hpp]
 have hpl:pp<=ls.length:=by rw[<-hpp];exact yK ls a
 have HPP:=aa hpp
 clear hpp
 have hb1:=HB0.O.ex hx1 (by simp)
 have ho1:=aU HO0.O hx1 (by simp)
 have hz1:=hx1.size
 cases ht:eu ls a with
 |false=>
  have hoff:c8 ls a=ls:=by simp[c8,ht]
  obtain⟨p,c,rfl⟩:=aA ho1
  have HXX:Hid (Ex (q::(Value.slice p ls.length c).ownBlock.toList) w w1):=hx1.drop (by simp)
  have HBX:=aa hb1
  have HOX:Hid (w1.ownsRow base 167 2 (.slice p ls.length c) (c8 ls a).length (aB (c8 ls a))):=by rw[hoff];exact ho1
  have HOX':Hid (w1.ownsRow base 167 2 (.slice p ls.length c) ls.length (aB (c8 ls a))):=by rw[hoff];exact ho1
  have HNQ:=HN0
  have HLN:Hid ((c8 ls a).length=ls.length):=by rw[hoff];rfl
  have HPL:=aa hpl
  obtain⟨hc,hf⟩:=hb1.all
  have hq1:=hb1.lt
  clear ht hoff hx1 hb1 ho1
  by_cases hv0:v.size=0
  ·obtain rfl:v=⟨#[]⟩:=by apply ByteArray.ext;exact Array.eq_empty_of_size_eq_zero hv0
   go_wp2_with fail
   refine bodyPost_ret (results_none rfl _ _ _) rfl ⟨rfl,?_,HXX.O⟩
   rw[dY,if_pos (.inl rfl)]
   exact⟨Nat.le_trans hle HXX.O.size,_,HBX.O,HOX.O,HNQ.O,fun k hk=> .inl hk⟩
  have hem:=bD hv0
  by_cases h60:(c8 ls a).length=60
  ·have h60':(((ls.length:Nat):Int)==60)=true:=by have:=af HLN;simp;omega
   go_wp2_with fail
   refine bodyPost_ret (results_none rfl _ _ _) rfl ⟨rfl,?_,HXX.O⟩
   rw[dY,if_pos (.inr h60)]
   exact⟨Nat.le_trans hle HXX.O.size,_,HBX.O,HOX.O,HNQ.O,fun k hk=> .inl hk⟩
  have h60':(((ls.length:Nat):Int)==60)=false:=by have:=af HLN;rw[beq_eq_false_iff_ne];omega
  have hset:dY ls a v=(c8 ls a).take (pp)++[(a,iJ v)]++(c8 ls a).drop (pp):=by rw[dY,if_neg (by simp[hv0,h60]),af HPP]
  have HSET:=aa hset
  have hzx:w.heap.size<=w1.heap.size:=HXX.O.size
  clear hset
  go_wp2_with fail
  go_region_with (first
   |(go_at_call 174;refine (tw v _ hvl).mono ?_;rintro e w4 ⟨rfl,hx4⟩;have hb4:=HBX.O.drew.ex hx4 (by simp);obtain⟨hc4,hf4⟩:=hb4.all;have hl4:=hb4.lt;have hz4:w1.heap.size<=w4.heap.size:=hx4.size)
   |(go_at_call 173;refine (om base ls.length (pp) w4.heap.size _ (aB (c8 ls a)) (a,iJ v) _ ((aU (World.ownsRow.drew HOX'.O) hx4 (by simp)).alloc _) (by have:=af HPL;omega) (by omega) (iO _) (by simp;omega) ((BK.new _ _)) (fun e=>by have:=(HOX'.O.lt _ e).2;omega)).mono ?_;rintro e w5 ⟨v5,rfl,ho5,hx5,hl5⟩;obtain⟨p5,c5,rfl⟩:=aA ho5;have hb5:=BK.ex (hb4.alloc (Obj.cells #[.string a,.string (iJ v)] 167)) hx5 (by simp only[Option.mem_toList];exact HNQ.O);obtain⟨hc5,hf5⟩:=hb5.all))
  all_goals
   have HX4:=aa hx4
   have HX5:=aa hx5
   have HO5:=aa ho5
   have HB5:=aa hb5
   have HL5:=aa hl5
   clear hx4 hx5 ho5 hb5 hl5 hb4 hc4 hf4 hc hf hc5 hf5
   go_end0
   have hz5:w4.heap.size+1<=w5.heap.size:=by have:=HX5.O.size;simpa using this
   refine⟨rfl,?_,?_⟩
   ·rw[af HSET]
    refine⟨by simp;omega,_,BK.self HB5.O 0 _,?_,?_,fun k hk=> ?_⟩
    ·have ho6:=gx HO5.O ((Ex.refl [q] w5).setCell (p:=⟨q,0,none⟩) (.inl (by simp)) (.slice p5 (ls.length+1) c5)) (fun k hk=>by
      rcases HL5.O with h|h
      ·rw[h]at hk;intro hm;simp at hm;subst hm;exact HNQ.O hk
      ·rw[h]at hk;cases hk;simp;omega)
     rw[i7,iL]at ho6
     have e1:(((c8 ls a).take (pp)++[(a,iJ v)]++(c8 ls a).drop (pp)).length)=ls.length+1:=by
      have:=af HLN
      have:=af HPL
      simp;omega
     have e2:aB ((c8 ls a).take (pp)++[(a,iJ v)]++(c8 ls a).drop (pp))=aB ((c8 ls a).take (pp))++[.string a,.string (iJ v)]++aB ((c8 ls a).drop (pp)):=by simp[aB]
     rw[e1,e2]
     exact ho6
    ·rcases HL5.O with h|h
     ·rw[h];exact HNQ.O
     ·rw[h];simp;omega
    ·rcases HL5.O with h|h
     ·exact .inl (h.symm.trans hk)
     ·rw[h]at hk;cases hk;right;simp;omega
   ·refine Ex.setCell (((HXX.O.drew.trans (HX4.O.drop (by simp))).alloc _).trans (HX5.O.drop (fun x hx _=> ?_))) (.inl (by simp)) _
    simp only[Option.mem_toList]at hx
    simp[hx]
 |true=>
  have hlt:pp<ls.length:=by rw[<-af HPP];exact xM ht
  obtain⟨n,hnn⟩:∃n,ls.length=n+1:=⟨ls.length-1,by omega⟩
  have hoff:c8 ls a=ls.take pp++ls.drop (pp+1):=by simp[c8,ht,af HPP]
  obtain⟨g,cap,rfl,hgb⟩:∃g cap,v0= .slice (some ⟨g,0,none⟩) ls.length cap/\base<=g:=by
   rcases ho1.2 with⟨_,h⟩|⟨g,cap,cur,h,hb,_⟩
   ·omega
   ·exact⟨g,cap,h,hb⟩
  have HB1:=aa hb1
  have HO1:=aa ho1
  have HX1:=aa hx1
  have HT:=aa ht
  have hgq:g≠q:=fun e=>HN0.O (by rw[e];rfl)
  obtain⟨hc,hf⟩:=hb1.all
  have hq1:=hb1.lt
  have HNN:=aa hnn
  clear hb1 ho1 hx1 ht hnn
  go_wp2_with fail
  have hnn:=af HNN
  refine (uL base g ls.length cap (pp) (aB ls) _ HO1.O hlt (by omega) (iO ls)).mono ?_
  rintro e w2 ⟨rfl,ho2,hx2⟩
  have hdl:(aB ls).take (pp*2)++(aB ls).drop ((pp+1)*2)=aB (c8 ls a):=by
   rw[i7,iL,hoff];simp[aB]
  rw[hdl,show ls.length-1=n by omega]at ho2
  rw[show ls.length-1=n by omega]
  have hb2:=HB1.O.ex hx2 (by simpa using Ne.symm hgq)
  have HB2:=aa hb2
  have HO2:=aa ho2
  have HX2:=aa hx2
  have hz2:=hx2.size
  clear hc hf hdl
  obtain⟨hc,hf⟩:=hb2.all
  have hq2:=hb2.lt
  have HOFF:=aa hoff
  clear hb2 ho2 hx2 hnn hoff
  obtain⟨w3,hw3⟩:=exq (w2.setCell ⟨q,0,none⟩ (.slice (some ⟨g,0,none⟩) n cap))
  have hlo:(c8 ls a).length=n:=by have:=af HNN;rw[af HOFF];simp;omega
  have hb3:BK w3 q (.cells #[.slice (some ⟨g,0,none⟩) n cap] 250 (0,0)):=by rw[hw3];exact HB2.O.self 0 _
  have ho3:w3.ownsRow base 167 2 (.slice (some ⟨g,0,none⟩) n cap) n (aB (c8 ls a)):=by
   rw[hw3];exact gx HO2.O ((Ex.refl [q] _).setCell (.inl (by simp)) _) (fun k hk=>by cases hk;simpa using hgq)
  have hx3:Ex (q::(Value.slice (some ⟨g,0,none⟩) ls.length cap).ownBlock.toList) w w3:=by
   rw[hw3]
   exact ((HX1.O.drop (by simp)).trans (HX2.O.drop (fun x hx _=>by simp at hx;subst hx;simp[Value.ownBlock]))).setCell (.inl (by simp)) _
  have HXX:=aa hx3
  have HBX:=aa hb3
  have HOX:Hid (w3.ownsRow base 167 2 (.slice (some ⟨g,0,none⟩) n cap) (c8 ls a).length (aB (c8 ls a))):=by rw[hlo];exact ho3
  have HOX':=aa ho3
  have HNQ:Hid ((Value.slice (some ⟨g,0,none⟩) n cap).ownBlock≠some q):=HN0.O
  have HLN:=aa hlo
  have HPL:Hid (pp<=n):=show pp<=n by have:=af HNN;omega
  have HOB:Hid ((Value.slice (some ⟨g,0,none⟩) n cap).ownBlock=(Value.slice (some ⟨g,0,none⟩) ls.length cap).ownBlock):=rfl
  have HW3:=aa hw3
  clear hw3
  have HC3:=aa hb3.all
  have hq3:=hb3.lt
  have hn59:n<=60:=by have:=af HNN;omega
  clear hb3 ho3 hx3 hlo
  by_cases hv0:v.size=0
  ·obtain rfl:v=⟨#[]⟩:=by apply ByteArray.ext;exact Array.eq_empty_of_size_eq_zero hv0
   go_wp2_with fail
   rw[<-af HW3]
   refine bodyPost_ret (results_none rfl _ _ _) rfl ⟨rfl,?_,HXX.O⟩
   rw[dY,if_pos (.inl rfl)]
   exact⟨Nat.le_trans hle HXX.O.size,_,HBX.O,HOX.O,HNQ.O,fun k hk=> .inl hk⟩
  have hem:=bD hv0
  by_cases h60:(c8 ls a).length=60
  ·have h60':(((n:Nat):Int)==60)=true:=by have:=af HLN;simp;omega
   go_wp2_with fail
   rw[<-af HW3]
   refine bodyPost_ret (results_none rfl _ _ _) rfl ⟨rfl,?_,HXX.O⟩
   rw[dY,if_pos (.inr h60)]
   exact⟨Nat.le_trans hle HXX.O.size,_,HBX.O,HOX.O,HNQ.O,fun k hk=> .inl hk⟩
  have h60':(((n:Nat):Int)==60)=false:=by have:=af HLN;rw[beq_eq_false_iff_ne];omega
  have hset:dY ls a v=(c8 ls a).take (pp)++[(a,iJ v)]++(c8 ls a).drop (pp):=by rw[dY,if_neg (by simp[hv0,h60]),af HPP]
  have HSET:=aa hset
  have hzx:w.heap.size<=w3.heap.size:=HXX.O.size
  clear hset
  go_wp2_with fail
  rw[<-af HW3]
  clear hc hf
  obtain⟨hc,hf⟩:=HC3.O
  go_region_with (first
   |(go_at_call 174;refine (tw v _ hvl).mono ?_;rintro e w4 ⟨rfl,hx4⟩;have hb4:=HBX.O.drew.ex hx4 (by simp);obtain⟨hc4,hf4⟩:=hb4.all;have hl4:=hb4.lt;have hz4:w3.heap.size<=w4.heap.size:=hx4.size)
   |(go_at_call 173;refine (om base n (pp) w4.heap.size _ (aB (c8 ls a)) (a,iJ v) _ ((aU (World.ownsRow.drew HOX'.O) hx4 (by simp)).alloc _) (by have:=af HPL;omega) (by omega) (iO _) (by simp;omega) ((BK.new _ _)) (fun e=>by have:=(HOX'.O.lt _ e).2;omega)).mono ?_;rintro e w5 ⟨v5,rfl,ho5,hx5,hl5⟩;obtain⟨p5,c5,rfl⟩:=aA ho5;have hb5:=BK.ex (hb4.alloc (Obj.cells #[.string a,.string (iJ v)] 167)) hx5 (by simp only[Option.mem_toList];exact HNQ.O);obtain⟨hc5,hf5⟩:=hb5.all))
  all_goals
   have HX4:=aa hx4
   have HX5:=aa hx5
   have HO5:=aa ho5
   have HB5:=aa hb5
   have HL5:=aa hl5
   clear hx4 hx5 ho5 hb5 hl5 hb4 hc4 hf4 hc hf hc5 hf5
   go_end0
   have hz5:w4.heap.size+1<=w5.heap.size:=by have:=HX5.O.size;simpa using this
   refine⟨rfl,?_,?_⟩
   ·rw[af HSET]
    refine⟨by simp;omega,_,BK.self HB5.O 0 _,?_,?_,fun k hk=> ?_⟩
    ·have ho6:=gx HO5.O ((Ex.refl [q] w5).setCell (p:=⟨q,0,none⟩) (.inl (by simp)) (.slice p5 (n+1) c5)) (fun k hk=>by
      rcases HL5.O with h|h
      ·rw[h]at hk;intro hm;simp at hm;subst hm;exact HNQ.O hk
      ·rw[h]at hk;cases hk;simp;omega)
     rw[i7,iL]at ho6
     have e1:(((c8 ls a).take (pp)++[(a,iJ v)]++(c8 ls a).drop (pp)).length)=n+1:=by
      have:=af HLN
      have:=af HPL
      simp;omega
     have e2:aB ((c8 ls a).take (pp)++[(a,iJ v)]++(c8 ls a).drop (pp))=aB ((c8 ls a).take (pp))++[.string a,.string (iJ v)]++aB ((c8 ls a).drop (pp)):=by simp[aB]
     rw[e1,e2]
     exact ho6
    ·rcases HL5.O with h|h
     ·rw[h];exact HNQ.O
     ·rw[h];simp;omega
    ·rcases HL5.O with h|h
     ·exact .inl (h.symm.trans hk)
     ·rw[h]at hk;cases hk;right;simp;omega
   ·refine Ex.setCell (((HXX.O.drew.trans (HX4.O.drop (by simp))).alloc _).trans (HX5.O.drop (fun x hx _=> ?_))) (.inl (by simp)) _
    simp only[Option.mem_toList]at hx
    rw[HOB.O]at hx
    simp[hx]
theorem ua (q base:Nat) (ls:List Lab) (a v:ByteArray) (v0:Value) (w:World) (hle:base<=w.heap.size) (hq:BK w q (.cells #[v0] 250 (0,0))) (ho:w.ownsRow base 167 2 v0 ls.length (aB ls)) (hnq:v0.ownBlock≠some q)
  (hn:ls.length<=60) (hsrt:eI ls a) (hvl:v.size<=281474976710656):
  Calls Tryz.prog 119 #[.pointer (some ⟨q,0,none⟩),.string a,.string v] w fun e w'=>e= .returned (.tuple #[])/\LT w' q base (dY ls a v)/\Ex (q::v0.ownBlock.toList) w w':=
 (zT q base ls a v v0 w hle hq ho hnq hn hsrt hvl).mono fun _ _ h=>⟨h.1,h.2.1.lt,h.2.2⟩
def Au (ls:List Lab) (acc:Nat ->List Lab):Prop:=acc 0=[]/\∀j l,ls[j]? =some l ->∀W q base,LS W q base (acc j) ->
 Calls Tryz.prog 119 #[.pointer (some ⟨q,0,none⟩),.string l.1,.string l.2] W fun e w'=>e= .returned (.tuple #[])/\LS w' q base (acc (j+1))/\EB base [q] W w'
def Ap (v:Value) (b:Bool):Value:= .agg #[v,.bool b]
end Go.Proofs.YtfnanjbleifjkaaGreatDoor
namespace Go.Proofs
open Go.Shelf
def Tryz.lays156_ren:Go.Shelf.Ren:=⟨fun|156=>230|165=>255|166=>60|169=>61|240=>105|241=>274|276=>150|277=>288|n=>n,fun|31=>131|9=>9|3=>3|4=>4|0=>0|20=>20|72=>141|76=>145|70=>138|37=>139|75=>144|127=>227|164=>283|5=>5|80=>147|n=>n,fun|n=>n⟩
theorem Tryz.lays156:Go.Proofs.Lays.n156 Tryz.prog Tryz.lays156_ren:={
 mixed:=by kernel_rfl
 f156:=Tryz.func230.trans (congrArg some (by kernel_rfl))
 f165:=Tryz.func255.trans (congrArg some (by kernel_rfl))
 f166:=Tryz.func60.trans (congrArg some (by kernel_rfl))
 f169:=Tryz.func61.trans (congrArg some (by kernel_rfl))
 f240:=Tryz.func105.trans (congrArg some (by kernel_rfl))
 f241:=Tryz.func274.trans (congrArg some (by kernel_rfl))
 f276:=Tryz.func150.trans (congrArg some (by kernel_rfl))
 f277:=Tryz.func288.trans (congrArg some (by kernel_rfl))
 t0:=Tryz.underlying0
 a0:=Tryz.isAgg0
 z0:=Tryz.sizeOf0
 v0:=Tryz.zeroValue0
 t3:=Tryz.underlying3
 a3:=Tryz.isAgg3
 z3:=Tryz.sizeOf3
 v3:=Tryz.zeroValue3
 t4:=Tryz.underlying4
 a4:=Tryz.isAgg4
 z4:=Tryz.sizeOf4
 v4:=Tryz.zeroValue4
 t9:=Tryz.underlying9
 a9:=Tryz.isAgg9
 z9:=Tryz.sizeOf9
 v9:=Tryz.zeroValue9
 t20:=Tryz.underlying20
 a20:=Tryz.isAgg20
 z20:=Tryz.sizeOf20
 v20:=Tryz.zeroValue20
 t31:=Tryz.underlying131
 a31:=Tryz.isAgg131
 z31:=Tryz.sizeOf131
 v31:=Tryz.zeroValue131
 t37:=Tryz.underlying139
 a37:=Tryz.isAgg139
 z37:=Tryz.sizeOf139
 v37:=Tryz.zeroValue139
 t70:=Tryz.underlying138
 a70:=Tryz.isAgg138
 z70:=Tryz.sizeOf138
 v70:=Tryz.zeroValue138
 t72:=Tryz.underlying141
 a72:=Tryz.isAgg141
 z72:=Tryz.sizeOf141
 v72:=Tryz.zeroValue141
 t75:=Tryz.underlying144
 a75:=Tryz.isAgg144
 z75:=Tryz.sizeOf144
 v75:=Tryz.zeroValue144
 t76:=Tryz.underlying145
 a76:=Tryz.isAgg145
 z76:=Tryz.sizeOf145
 v76:=Tryz.zeroValue145
 t127:=Tryz.underlying227
 a127:=Tryz.isAgg227
 z127:=Tryz.sizeOf227
 v127:=Tryz.zeroValue227
 t164:=Tryz.underlying283
 a164:=Tryz.isAgg283
 z164:=Tryz.sizeOf283
 v164:=Tryz.zeroValue283}
theorem Tryz.Builder_Extra_156:Builder.Extra Tryz.prog Tryz.lays156_ren:={
 sizeBuilder:=by kernel_rfl
 liesBuilder:=by kernel_rfl
 t5:=Tryz.underlying5
 a5:=Tryz.isAgg5
 z5:=Tryz.sizeOf5
 v5:=Tryz.zeroValue5
 infoByte:=by kernel_rfl
 cellsByte:=by kernel_rfl
 sizeByte:=by kernel_rfl
 neB5:=by decide}
def Tryz.lays172_ren:Go.Shelf.Ren:=⟨fun|172=>196|244=>228|245=>229|247=>250|279=>251|280=>252|281=>253|282=>254|287=>271|316=>175|171=>273|205=>272|321=>285|322=>286|243=>287|246=>292|283=>256|284=>257|285=>258|286=>259|129=>276|317=>275|318=>277|319=>278|320=>279|337=>289|338=>290|n=>n,fun|9=>9|3=>3|75=>144|76=>145|4=>4|5=>5|167=>331|37=>139|0=>0|85=>332|2=>2|168=>334|53=>37|175=>347|46=>198|210=>350|127=>227|145=>360|143=>358|21=>21|171=>338|173=>341|212=>352|51=>353|20=>20|213=>354|232=>364|233=>365|80=>147|n=>n,fun|15=>5|16=>6|17=>7|18=>8|19=>9|n=>n⟩
theorem Tryz.lays172:Go.Proofs.Lays.n172 Tryz.prog Tryz.lays172_ren:={
 mixed:=by kernel_rfl
 f129:=Tryz.func276.trans (congrArg some (by kernel_rfl))
 f171:=Tryz.func273.trans (congrArg some (by kernel_rfl))
 f172:=Tryz.func196.trans (congrArg some (by kernel_rfl))
 f205:=Tryz.func272.trans (congrArg some (by kernel_rfl))
 f243:=Tryz.func287.trans (congrArg some (by kernel_rfl))
 f244:=Tryz.func228.trans (congrArg some (by kernel_rfl))
 f245:=Tryz.func229.trans (congrArg some (by kernel_rfl))
 f246:=Tryz.func292.trans (congrArg some (by kernel_rfl))
 f247:=Tryz.func250.trans (congrArg some (by kernel_rfl))
 f279:=Tryz.func251.trans (congrArg some (by kernel_rfl))
 f280:=Tryz.func252.trans (congrArg some (by kernel_rfl))
 f281:=Tryz.func253.trans (congrArg some (by kernel_rfl))
 f282:=Tryz.func254.trans (congrArg some (by kernel_rfl))
 f283:=Tryz.func256.trans (congrArg some (by kernel_rfl))
 f284:=Tryz.func257.trans (congrArg some (by kernel_rfl))
 f285:=Tryz.func258.trans (congrArg some (by kernel_rfl))
 f286:=Tryz.func259.trans (congrArg some (by kernel_rfl))
 f287:=Tryz.func271.trans (congrArg some (by kernel_rfl))
 f316:=Tryz.func175.trans (congrArg some (by kernel_rfl))
 f317:=Tryz.func275.trans (congrArg some (by kernel_rfl))
 f318:=Tryz.func277.trans (congrArg some (by kernel_rfl))
 f319:=Tryz.func278.trans (congrArg some (by kernel_rfl))
 f320:=Tryz.func279.trans (congrArg some (by kernel_rfl))
 f321:=Tryz.func285.trans (congrArg some (by kernel_rfl))
 f322:=Tryz.func286.trans (congrArg some (by kernel_rfl))
 f337:=Tryz.func289.trans (congrArg some (by kernel_rfl))
 f338:=Tryz.func290.trans (congrArg some (by kernel_rfl))
 t0:=Tryz.underlying0
 a0:=Tryz.isAgg0
 z0:=Tryz.sizeOf0
 v0:=Tryz.zeroValue0
 t2:=Tryz.underlying2
 a2:=Tryz.isAgg2
 z2:=Tryz.sizeOf2
 v2:=Tryz.zeroValue2
 t3:=Tryz.underlying3
 a3:=Tryz.isAgg3
 z3:=Tryz.sizeOf3
 v3:=Tryz.zeroValue3
 t4:=Tryz.underlying4
 a4:=Tryz.isAgg4
 z4:=Tryz.sizeOf4
 v4:=Tryz.zeroValue4
 t5:=Tryz.underlying5
 a5:=Tryz.isAgg5
 z5:=Tryz.sizeOf5
 v5:=Tryz.zeroValue5
 t9:=Tryz.underlying9
 a9:=Tryz.isAgg9
 z9:=Tryz.sizeOf9
 v9:=Tryz.zeroValue9
 t20:=Tryz.underlying20
 a20:=Tryz.isAgg20
 z20:=Tryz.sizeOf20
 v20:=Tryz.zeroValue20
 t21:=Tryz.underlying21
 a21:=Tryz.isAgg21
 z21:=Tryz.sizeOf21
 v21:=Tryz.zeroValue21
 t37:=Tryz.underlying139
 a37:=Tryz.isAgg139
 z37:=Tryz.sizeOf139
 v37:=Tryz.zeroValue139
 t46:=Tryz.underlying198
 a46:=Tryz.isAgg198
 z46:=Tryz.sizeOf198
 v46:=Tryz.zeroValue198
 t51:=Tryz.underlying353
 a51:=Tryz.isAgg353
 z51:=Tryz.sizeOf353
 v51:=Tryz.zeroValue353
 t53:=Tryz.underlying37
 a53:=Tryz.isAgg37
 z53:=Tryz.sizeOf37
 v53:=Tryz.zeroValue37
 t75:=Tryz.underlying144
 a75:=Tryz.isAgg144
 z75:=Tryz.sizeOf144
 v75:=Tryz.zeroValue144
 t76:=Tryz.underlying145
 a76:=Tryz.isAgg145
 z76:=Tryz.sizeOf145
 v76:=Tryz.zeroValue145
 t85:=Tryz.underlying332
 a85:=Tryz.isAgg332
 z85:=Tryz.sizeOf332
 v85:=Tryz.zeroValue332
 t127:=Tryz.underlying227
 a127:=Tryz.isAgg227
 z127:=Tryz.sizeOf227
 v127:=Tryz.zeroValue227
 t143:=Tryz.underlying358
 a143:=Tryz.isAgg358
 z143:=Tryz.sizeOf358
 v143:=Tryz.zeroValue358
 t145:=Tryz.underlying360
 a145:=Tryz.isAgg360
 z145:=Tryz.sizeOf360
 v145:=Tryz.zeroValue360
 t167:=Tryz.underlying331
 a167:=Tryz.isAgg331
 z167:=Tryz.sizeOf331
 v167:=Tryz.zeroValue331
 t168:=Tryz.underlying334
 a168:=Tryz.isAgg334
 z168:=Tryz.sizeOf334
 v168:=Tryz.zeroValue334
 t171:=Tryz.underlying338
 a171:=Tryz.isAgg338
 z171:=Tryz.sizeOf338
 v171:=Tryz.zeroValue338
 t173:=Tryz.underlying341
 a173:=Tryz.isAgg341
 z173:=Tryz.sizeOf341
 v173:=Tryz.zeroValue341
 t175:=Tryz.underlying347
 a175:=Tryz.isAgg347
 z175:=Tryz.sizeOf347
 v175:=Tryz.zeroValue347
 t210:=Tryz.underlying350
 a210:=Tryz.isAgg350
 z210:=Tryz.sizeOf350
 v210:=Tryz.zeroValue350
 t212:=Tryz.underlying352
 a212:=Tryz.isAgg352
 z212:=Tryz.sizeOf352
 v212:=Tryz.zeroValue352
 t213:=Tryz.underlying354
 a213:=Tryz.isAgg354
 z213:=Tryz.sizeOf354
 t232:=Tryz.underlying364
 a232:=Tryz.isAgg364
 z232:=Tryz.sizeOf364
 v232:=Tryz.zeroValue364
 t233:=Tryz.underlying365
 a233:=Tryz.isAgg365
 z233:=Tryz.sizeOf365
 v233:=Tryz.zeroValue365
 g15:=by kernel_rfl
 g16:=by kernel_rfl
 g17:=by kernel_rfl
 g18:=by kernel_rfl
 g19:=by kernel_rfl}
open Go.RowKit in
theorem Tryz.strconv_Atoi (s:ByteArray) (n:Int) (hl:s.size<=18) (h:Lib.atoi s.data.toList=some n) (w:World):
  Calls Tryz.prog 196 #[.string s] w fun e w'=>e= .returned (.tuple #[.int .i64 n,.nilIface])/\∃t,w'=Lib.bytesWorld w 5 t:=Any.strconv_Atoi Tryz.lays172 s n hl h w
end Go.Proofs
