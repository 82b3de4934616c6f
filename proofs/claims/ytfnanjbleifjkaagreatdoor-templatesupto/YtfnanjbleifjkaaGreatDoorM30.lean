import Derived.Test.YtfnanjbleifjkaaGreatDoorM29
import Derived.Test.YtfnanjbleifjkaaGreatDoorM20
set_option linter.unusedVariables false
set_option linter.unusedSimpArgs false
set_option maxHeartbeats 4000000
set_option maxRecDepth 100000
namespace Go.Proofs.YtfnanjbleifjkaaGreatDoor.G
variable {t:ByteArray} {s s':RS} {q:Pt}
open Go.RowKit
def fJ (n:Int) (b:UInt8):Int:=if n<100000 then 10*n+(b.toNat:Int)-48 else n
theorem yu (l:List UInt8) (h:∀b∈l,48<=b.toNat):∀x:Int,0<=x ->x<=1000300 ->0<=l.foldl fJ x/\l.foldl fJ x<=1000300:=by
 induction l with
 |nil=>intro x h0 h1;exact⟨h0,h1⟩
 |cons b l ih=>
  intro x h0 h1
  rw[List.foldl_cons]
  have hb:=h b (List.mem_cons_self ..)
  have hb2:b.toNat<256:=UInt8.toNat_lt b
  refine ih (fun c hc=>h c (List.mem_cons_of_mem _ hc)) _ ?_ ?_<;>unfold fJ<;>split<;>omega
def ek (a:ByteArray):List ByteArray ->Nat ->Int ->Int
 |[],_,k=>k
 |x::l,i,k=>ek a l (i+1) (if x=a then (i:Int)+1 else k)
theorem rg (a:ByteArray):∀(l:List ByteArray) (i:Nat) (k:Int),-1<=k ->k<=i -> -1<=ek a l i k/\ek a l i k<=(i+l.length:Nat)
 |[],i,k,h0,h1=>⟨h0,by simpa[ek]using h1⟩
 |x::l,i,k,h0,h1=>by
  have:=rg a l (i+1) (if x=a then (i:Int)+1 else k) (by split<;>omega) (by split<;>omega)
  rw[ek,List.length_cons]
  omega
def lO (s:ByteArray) (l:List (Int×Int)) (ns:List ByteArray) (a:ByteArray):ByteArray:=
 if a.data.toList.all (fun b=>cz (b.toNat:Int))then (if 3<a.size then ⟨#[]⟩else dV s l (a.data.toList.foldl fJ 0))else dV s l (ek a ns 0 (-1))
theorem vI {α:Type} (q:α ->Bool) (l:List α) (j:Nat) (a:α) (h:l[j]? =some a):(l.take (j+1)).all q=((l.take j).all q&&q a):=by
 rw[List.take_add_one,h,List.all_append]
 simp
theorem sk {w:World} {b base base':Nat} {av ro gi nv v:Value} (s a:ByteArray) (l:List (Int×Int)) (ns:List ByteArray) (hb:BK w b (.cells #[av,ro,gi,nv] 133 (0,0))) (hn:w.ownsRow base 9 1 nv ns.length (ns.map Value.string)) (hv:w.ownsRow base' 31 2 v l.length (bL l)) (h5:ns.length<=5) (hl1:1<=l.length) (hl6:l.length<=6) (hok:∀y∈l,y.1<0\/(0<=y.1/\y.1<=y.2/\y.2<=(s.size:Int))) (hs:s.size<=9223372036854775807) (ha:a.size<=9223372036854775807) (hw:∀x∈a.data.toList,48<=x.toNat):
  Calls Tryz.prog 63 #[.pointer (some ⟨b,0,none⟩),v,.string s,.string a] w fun e w'=>e= .returned (.string (lO s l ns a))/\Ex [] w w':=by
 obtain⟨pn,cn,rfl⟩:=aA hn
 obtain⟨g,c,rfl,_⟩:=dO hv (by omega)
 have hgl:=(hv.lt g rfl).2
 have HC:Hid (∀j u,(bL l)[j]? =some u ->w.cell? ⟨g,j,none⟩=some u):=fun j u hj=>by
  have hjl:=(List.getElem?_eq_some_iff.1 hj).1
  rw[vl]at hjl
  rw[hv.cellAt j (by omega)];exact hj
 have r3:w.cell? ⟨b,3,none⟩=some (.slice pn ns.length cn):=hb.all.1 3
 have hbl:=hb.lt
 have HNC:Hid (∀j x,ns[j]? =some x ->∃b,pn=some ⟨b,0,none⟩/\b<w.heap.size/\w.cell? ⟨b,j,none⟩=some (.string x)):=fun j x hj=>by
  have hjl:=(List.getElem?_eq_some_iff.1 hj).1
  obtain⟨g,cap,e,_,hg,_,hc,_⟩:=ij hn (by omega)
  injection e with e1 e2 e3
  refine⟨g,e1,hg,?_⟩
  rw[hc j (by omega),List.getElem?_map,hj]
  rfl
 obtain⟨m,hm⟩:=exq (ns.length)
 obtain⟨n,hnn⟩:=exq (l.length)
 obtain⟨R,hR⟩:=exq (lO s l ns a)
 obtain⟨z,hz⟩:=exq (a.size)
 have HOK:=aa hok
 have HW:=aa hw
 have hgb:=fun j=>yu (a.data.toList.take j) (fun x hx=>hw x (List.mem_of_mem_take hx)) 0 (by omega) (by omega)
 have hlb:=rg a ns 0 (-1) (by omega) (by omega)
 have HGB:=aa hgb
 have HLB:=aa hlb
 have hm5:m<=5:=by omega
 have hn6:n<=6:=by omega
 have HM:=aa hm
 have HN:=aa hnn
 have HZ:=aa hz
 have HR:=aa hR
 rw[<-hm]at r3
 rw[<-hnn,<-hR]
 clear hb hn hv hok hw hm hnn hR hgb hlb h5 hl1 hl6 hz
 go_enter Tryz.func63,Tryz.ntmps63
 go_wp2_with fail
 go_loopg [9,10,11] z (fun gk u d i wr=>∃(j:Nat) (x:Int) (D:Bool),j+gk=z/\i= .int .i64 (j:Int)/\u= .int .i64 x/\d= .bool D/\x=(a.data.toList.take j).foldl fJ 0/\D=(a.data.toList.take j).all (fun b=>cz (b.toNat:Int))/\w=wr)
 case atStart=>exact⟨0,0,true,by omega,rfl,rfl,rfl,rfl,rfl,rfl⟩
 case round=>
  obtain⟨j,x,D,hj,rfl,rfl,rfl,hx,hD,rfl⟩:=hrel
  have hbx:=HGB.O j
  rw[<-hx]at hbx
  have HX:=aa hx
  have HD:=aa hD
  clear hx hD
  cases gk with
  |zero=>
   have hjl:¬(j:Int)<(a.size:Int):=by have:=HZ.O;omega
   have hgl':a.data.toList.take j=a.data.toList:=List.take_of_length_le (by rw[aF];have:=HZ.O;omega)
   have hr:R=if D then (if 3<a.size then ⟨#[]⟩else dV s l x)else dV s l (ek a ns 0 (-1)):=by
    rw[HR.O,HX.O,HD.O,hgl'];rfl
   have HRR:=aa hr
   clear hr hgl'
   cases D with
   |true=>
    by_cases h3:(3:Int)<(a.size:Int)
    ·obtain rfl:R=⟨#[]⟩:=by rw[HRR.O,if_pos rfl,if_pos (by omega)]
     go_wp2_with fail
     go_ret
     exact⟨rfl,Ex.refl _ _⟩
    ·have HK:Hid (R=dV s l x):=by show _=_;rw[HRR.O,if_pos rfl,if_neg (by omega)]
     obtain⟨K,rfl⟩:=exq (x)
     clear HRR HX HD
     by_cases h1:K<0
     ·obtain rfl:R=⟨#[]⟩:=by rw[HK.O];unfold dV;rw[if_pos h1]
      go_wp2_with fail
      go_ret
      exact⟨rfl,Ex.refl _ _⟩
     ·by_cases h2:(n:Int)<=K
      ·obtain rfl:R=⟨#[]⟩:=by rw[HK.O];unfold dV;rw[if_neg h1,List.getElem?_eq_none (by have:=HN.O;omega)]
       go_wp2_with fail
       go_ret
       exact⟨rfl,Ex.refl _ _⟩
      ·obtain⟨j,rfl⟩:∃j:Nat,K=j:=⟨K.toNat,by omega⟩
       have hj:j<l.length:=by have:=HN.O;omega
       obtain⟨⟨y1,y2⟩,hy⟩:∃y,l[j]? =some y:=⟨_,List.getElem?_eq_getElem hj⟩
       obtain⟨s1,s2⟩:=mC l j _ hy
       have c1:=HC.O _ _ s1
       have c2:=HC.O _ _ s2
       have hjn:(j:Int)<(n:Int):=by omega
       have ho:=HOK.O _ (List.mem_of_getElem? hy)
       have hre:R=if y1<0 then ⟨#[]⟩else s.extract y1.toNat y2.toNat:=by rw[HK.O];unfold dV;rw[if_neg h1,Int.toNat_natCast,hy]
       have HRE:=aa hre
       dsimp only at ho c1 c2
       clear hy s1 s2 hre h1 h2 hj HK
       by_cases h3:y1<0
       ·obtain rfl:R=⟨#[]⟩:=by rw[HRE.O,if_pos h3]
        clear ho
        go_wp2_with fail
        go_ret
        exact⟨rfl,Ex.refl _ _⟩
       ·obtain⟨o1,o2,o3⟩:0<=y1/\y1<=y2/\y2<=s.size:=by omega
        obtain⟨a1,rfl⟩:∃a:Nat,y1=a:=⟨y1.toNat,by omega⟩
        obtain⟨b1,rfl⟩:∃b:Nat,y2=b:=⟨y2.toNat,by omega⟩
        have hr:R=s.extract a1 b1:=by rw[HRE.O,if_neg h3];rfl
        have HRR:=aa hr
        clear hr ho HRE
        go_wp2_with fail
        go_quiet (fail)
        go_wp2_with fail
        go_ret
        exact⟨by rw[HRR.O];rfl,(Ex.refl _ _).drewN _⟩
   |false=>
    have hlb:=HLB.O
    obtain⟨L,hL⟩:=exq (ek a ns 0 (-1))
    rw[<-hL]at hlb
    have HL:=aa hL
    have HK0:Hid (R=dV s l L):=by show _=_;rw[HRR.O,HL.O];rfl
    clear hL HRR HX HD
    go_wp2_with fail
    go_loopg [9,13] m (fun gk u i wr=>∃(j:Nat) (k:Int),j+gk=m/\i= .int .i64 (j:Int)/\u= .int .i64 k/\ek a (ns.drop j) j k=L/\w=wr)
    case atStart=>exact⟨0,-1,by omega,rfl,rfl,by rw[List.drop_zero,HL.O],rfl⟩
    case round=>
     obtain⟨j,k,hj,rfl,rfl,hd,rfl⟩:=hrel
     have HDD:=aa hd
     clear hd
     cases gk with
     |zero=>
      have hjl:¬(j:Int)<(m:Int):=by omega
      obtain rfl:k=L:=by rw[<-HDD.O,List.drop_eq_nil_of_le (by have:=HM.O;omega)];rfl
      have HK:Hid (R=dV s l k):=HK0
      obtain⟨K,rfl⟩:=exq (k)
      have hbx: -1<=K/\K<=1000:=by have:=HM.O;omega
      clear HK0 hlb HDD HL
      by_cases h1:K<0
      ·obtain rfl:R=⟨#[]⟩:=by rw[HK.O];unfold dV;rw[if_pos h1]
       go_wp2_with fail
       go_ret
       exact⟨rfl,Ex.refl _ _⟩
      ·by_cases h2:(n:Int)<=K
       ·obtain rfl:R=⟨#[]⟩:=by rw[HK.O];unfold dV;rw[if_neg h1,List.getElem?_eq_none (by have:=HN.O;omega)]
        go_wp2_with fail
        go_ret
        exact⟨rfl,Ex.refl _ _⟩
       ·obtain⟨j,rfl⟩:∃j:Nat,K=j:=⟨K.toNat,by omega⟩
        have hj:j<l.length:=by have:=HN.O;omega
        obtain⟨⟨y1,y2⟩,hy⟩:∃y,l[j]? =some y:=⟨_,List.getElem?_eq_getElem hj⟩
        obtain⟨s1,s2⟩:=mC l j _ hy
        have c1:=HC.O _ _ s1
        have c2:=HC.O _ _ s2
        have hjn:(j:Int)<(n:Int):=by omega
        have ho:=HOK.O _ (List.mem_of_getElem? hy)
        have hre:R=if y1<0 then ⟨#[]⟩else s.extract y1.toNat y2.toNat:=by rw[HK.O];unfold dV;rw[if_neg h1,Int.toNat_natCast,hy]
        have HRE:=aa hre
        dsimp only at ho c1 c2
        clear hy s1 s2 hre h1 h2 hj HK
        by_cases h3:y1<0
        ·obtain rfl:R=⟨#[]⟩:=by rw[HRE.O,if_pos h3]
         clear ho
         go_wp2_with fail
         go_ret
         exact⟨rfl,Ex.refl _ _⟩
        ·obtain⟨o1,o2,o3⟩:0<=y1/\y1<=y2/\y2<=s.size:=by omega
         obtain⟨a1,rfl⟩:∃a:Nat,y1=a:=⟨y1.toNat,by omega⟩
         obtain⟨b1,rfl⟩:∃b:Nat,y2=b:=⟨y2.toNat,by omega⟩
         have hr:R=s.extract a1 b1:=by rw[HRE.O,if_neg h3];rfl
         have HRR:=aa hr
         clear hr ho HRE
         go_wp2_with fail
         go_quiet (fail)
         go_wp2_with fail
         go_ret
         exact⟨by rw[HRR.O];rfl,(Ex.refl _ _).drewN _⟩
     |succ g2=>
      have hjl:(j:Int)<(m:Int):=by omega
      have hjm:j<ns.length:=by have:=HM.O;omega
      obtain⟨x2,hx2⟩:∃x,ns[j]? =some x:=⟨_,List.getElem?_eq_getElem hjm⟩
      obtain⟨b2,rfl,hb2,hc2⟩:=HNC.O j x2 hx2
      have hst:ek a (ns.drop j) j k=ek a (ns.drop (j+1)) (j+1) (if x2=a then (j:Int)+1 else k):=by
       rw[List.drop_eq_getElem_cons hjm]
       rw[List.getElem?_eq_getElem hjm]at hx2
       rw[Option.some.inj hx2];rfl
      have HST:=aa hst
      clear hst hx2
      cases he:(x2.toList==a.toList)with
      |true=>
       have HNX:Hid (ek a (ns.drop (j+1)) (j+1) ((j:Int)+1)=L):=by
        show _=_
        rw[<-HDD.O,HST.O,if_pos (of_decide_eq_true (by rw[<-kX,he]))]
       go_wp2_with fail
       go_roundg g2
       case measure=>omega
       case rel=>exact⟨j+1,_,by omega,by simp,rfl,HNX.O,rfl⟩
      |false=>
       have HNX:Hid (ek a (ns.drop (j+1)) (j+1) k=L):=by
        show _=_
        rw[<-HDD.O,HST.O,if_neg (of_decide_eq_false (by rw[<-kX,he]))]
       go_wp2_with fail
       go_roundg g2
       case measure=>omega
       case rel=>exact⟨j+1,_,by omega,by simp,rfl,HNX.O,rfl⟩
  |succ g1=>
   have hjl:(j:Int)<(a.size:Int):=by have:=HZ.O;omega
   have hja:j<a.size:=by omega
   have hst:=iP fJ 0 a.data.toList j _ (cy hja)
   have hsd:=vI (fun b:UInt8=>cz (b.toNat:Int)) a.data.toList j _ (cy hja)
   rw[<-HX.O]at hst
   rw[<-HD.O]at hsd
   have hxb:=HW.O _ (List.mem_of_getElem? (cy hja))
   have hxc:(a[j]'hja).toNat<256:=UInt8.toNat_lt _
   obtain⟨y,hy⟩:∃y:Nat,y=(a[j]'hja).toNat:=⟨_,rfl⟩
   have hg1:fJ x (a[j]'hja)=if x<100000 then 10*x+(y:Int)-48 else x:=by unfold fJ;rw[hy]
   rw[hg1]at hst
   rw[<-hy]at hxb hxc
   have hsd':(a.data.toList.take (j+1)).all (fun b=>cz (b.toNat:Int))=(D&&cz (y:Int)):=by rw[hsd,hy]
   have HST:=aa hst
   have HSD:=aa hsd'
   have HY:=aa hy
   clear hst hsd hsd' hy hg1
   go_wp2_with fail
   refine (dP _ _).mono ?_
   rintro e w' ⟨rfl,rfl⟩
   rw[<-show (y:Int)=((a[j]'hja).toNat:Int) by rw[HY.O]]
   obtain⟨B,hB⟩:=exq (cz (y:Int))
   rw[<-hB]at HSD ⊢
   clear hB
   by_cases hx1:x<100000
   ·have HS1:Hid (10*x+(y:Int)-48=(a.data.toList.take (j+1)).foldl fJ 0):=by show _=_;rw[HST.O,if_pos hx1]
    cases D with
    |true=>
     go_wp2_with fail
     rw[<-HY.O]
     go_wp2_with fail
     go_roundg g1
     case measure=>omega
     case rel=>exact⟨j+1,_,_,by omega,by simp,rfl,rfl,by rw[<-HS1.O];unfold wrap64;omega,by rw[HSD.O];rfl,rfl⟩
    |false=>
     go_wp2_with fail
     rw[<-HY.O]
     go_wp2_with fail
     go_roundg g1
     case measure=>omega
     case rel=>exact⟨j+1,_,_,by omega,by simp,rfl,rfl,by rw[<-HS1.O];unfold wrap64;omega,by rw[HSD.O];rfl,rfl⟩
   ·have HS1:Hid (x=(a.data.toList.take (j+1)).foldl fJ 0):=by show _=_;rw[HST.O,if_neg hx1]
    cases D with
    |true=>
     go_wp2_with fail
     go_roundg g1
     case measure=>omega
     case rel=>exact⟨j+1,_,_,by omega,by simp,rfl,rfl,HS1.O,by rw[HSD.O];rfl,rfl⟩
    |false=>
     go_wp2_with fail
     go_roundg g1
     case measure=>omega
     case rel=>exact⟨j+1,_,_,by omega,by simp,rfl,rfl,HS1.O,by rw[HSD.O];rfl,rfl⟩
structure NI (t:ByteArray) (s:RS):Prop where
 z0:∀x∈s.nm,1<=x.1.size
 z1:∀x∈s.nm,x.1.size<=t.size
 lt:∀x∈s.nm,∀b∈x.1.data.toList,97<=b.toNat
 no:∀x∈s.nm,x.2<=s.g
 un:∀x∈s.nm,∀y∈s.nm,x.1=y.1 ->x.2=y.2
theorem NI.like (h:NI t s) (hl:s.like s'):NI t s':=by
 obtain⟨_,_,hg,hn⟩:=hl
 exact⟨by rw[hn];exact h.z0,by rw[hn];exact h.z1,by rw[hn];exact h.lt,by rw[hn,hg];exact h.no,by rw[hn];exact h.un⟩
theorem NI.same (h:NI t s) (hg:s'.g=s.g) (hn:s'.nm=s.nm):NI t s':=
 ⟨by rw[hn];exact h.z0,by rw[hn];exact h.z1,by rw[hn];exact h.lt,by rw[hn,hg];exact h.no,by rw[hn];exact h.un⟩
theorem zg {i:Nat}:∀(n:Nat) (s s':RS),aZ t i n s= .ok () s' ->s.k<=s'.k/\s.like s'/\∀j,s.k<=j ->j<s'.k ->∃b,ai t j=some b/\97<=b.toNat
 |0,s,s',h=>by cases h;exact⟨Nat.le_refl _,RS.like_refl _,fun j h1 h2=>by omega⟩
 |n+1,s,s',h=>by
  unfold aZ at h
  cases hby:ai t s.k with
  |none=>rw[hby]at h;cases h
  |some y=>
   rw[hby]at h
   simp only at h
   split at h
   ·next hc=>
    split at h
    ·cases h
    ·obtain⟨h1,h2,h3⟩:=zg n _ _ h
     have h1':s.k+1<=s'.k:=h1
     refine⟨by omega,(RS.like_up s).trans h2,fun j g1 g2=> ?_⟩
     rcases Nat.lt_or_ge s.k j with g|g
     ·exact h3 j g g2
     ·obtain rfl:j=s.k:=by omega
      exact⟨y,hby,hc.1⟩
   ·cases h;exact⟨Nat.le_refl _,RS.like_refl _,fun j h1 h2=>by omega⟩
theorem yA {n:ByteArray} (h:ao t s= .ok n s'):s.like s'/\1<=n.size/\n.size<=t.size/\(∀b∈n.data.toList,97<=b.toNat)/\aD s'.nm n=false:=by
 unfold ao at h
 obtain⟨_,s1,ha,hb⟩:=Res.bind_eq_ok h
 obtain⟨h1,h2,h3⟩:=zg 8 _ _ ha
 split at hb
 ·cases hb
 ·next hc=>
  cases hb
  have hk:s.k<s'.k:=by
   rcases Nat.lt_or_ge s.k s'.k with g|g
   ·exact g
   ·exact absurd (Or.inl (by omega)) hc
  have hz:s'.k<=t.size:=by
   obtain⟨b,hb,_⟩:=h3 (s'.k-1) (by omega) (by omega)
   unfold ai at hb
   have:s'.k-1<t.data.size:=(Array.getElem?_eq_some_iff.1 hb).1
   have e:t.data.size=t.size:=rfl
   omega
  have e:(t.extract s.k s'.k).size=s'.k-s.k:=by rw[Lib.size_eq,Lib.extract_data,List.length_take,List.length_drop,aF];omega
  refine⟨h2,by omega,by omega,fun b hb=> ?_,by rw[Bool.eq_false_iff];exact fun e=>hc (Or.inr e)⟩
  obtain⟨i,hi,he⟩:=List.mem_iff_getElem.1 hb
  have hi2:i<s'.k-s.k:=by
   have:(t.extract s.k s'.k).data.toList.length=(t.extract s.k s'.k).size:=aF _
   omega
  obtain⟨y,hy,hy2⟩:=h3 (s.k+i) (by omega) (by omega)
  have hq:(t.extract s.k s'.k).data.toList[i]? =some b:=by rw[List.getElem?_eq_getElem hi,he]
  rw[Lib.extract_data,List.getElem?_take,if_pos hi2,List.getElem?_drop]at hq
  unfold ai at hy
  rw[<-Array.getElem?_toList]at hy
  rw[hy]at hq
  cases hq
  exact hy2
theorem sO {n:Nat} (h:al t s= .ok n s') (hi:NI t s):NI t s':=by
 unfold al at h
 split at h
 ·cases h
  exact⟨hi.z0,hi.z1,hi.lt,fun x hx=>Nat.le_succ_of_le (hi.no x hx),hi.un⟩
 ·obtain⟨_,s1,h1,h2⟩:=Res.bind_eq_ok h
  obtain⟨_,rfl⟩:=bF h1
  split at h2
  ·cases h2;exact hi.like ((RS.like_up s).trans (RS.like_up _))
  ·split at h2
   ·cases h2
   ·obtain⟨_,s2,h3,h4⟩:=Res.bind_eq_ok h2
    obtain⟨_,rfl⟩:=bF h3
    obtain⟨_,s3,h5',h6⟩:=Res.bind_eq_ok h4
    obtain⟨_,rfl⟩:=bF h5'
    obtain⟨nm,s4,h7,h8⟩:=Res.bind_eq_ok h6
    obtain⟨_,s5,h9,h10⟩:=Res.bind_eq_ok h8
    obtain⟨_,rfl⟩:=bF h9
    obtain⟨a1,a2,a3,a4,a5⟩:=yA h7
    have i4:NI t s4:=hi.like ((((RS.like_up s).trans (RS.like_up _)).trans (RS.like_up _)).trans a1)
    cases h10
    have htk:∀x∈s4.nm,x.1≠nm:=fun x hx e=>by
     have:aD s4.nm nm=true:=by unfold aD;rw[List.any_eq_true];exact⟨x,hx,by simpa using e⟩
     rw[a5]at this;cases this
    refine⟨fun x hx=> ?_,fun x hx=> ?_,fun x hx=> ?_,fun x hx=> ?_,fun x hx y hy e=> ?_⟩
    ·rcases List.mem_append.1 hx with hx|hx
     ·exact i4.z0 x hx
     ·rw[List.mem_singleton]at hx;subst hx;exact a2
    ·rcases List.mem_append.1 hx with hx|hx
     ·exact i4.z1 x hx
     ·rw[List.mem_singleton]at hx;subst hx;exact a3
    ·rcases List.mem_append.1 hx with hx|hx
     ·exact i4.lt x hx
     ·rw[List.mem_singleton]at hx;subst hx;exact a4
    ·rcases List.mem_append.1 hx with hx|hx
     ·exact Nat.le_succ_of_le (i4.no x hx)
     ·rw[List.mem_singleton]at hx;subst hx;exact Nat.le_refl _
    ·rcases List.mem_append.1 hx with hx|hx
     ·rcases List.mem_append.1 hy with hy|hy
      ·exact i4.un x hx y hy e
      ·rw[List.mem_singleton]at hy;subst hy;exact absurd e (htk x hx)
     ·rw[List.mem_singleton]at hx;subst hx
      rcases List.mem_append.1 hy with hy|hy
      ·exact absurd e.symm (htk y hy)
      ·rw[List.mem_singleton]at hy;subst hy;rfl
def EN (t:ByteArray) (E:RS ->Res Pt):Prop:=∀a q b,E a= .ok q b ->NI t a ->NI t b
theorem xo {E:RS ->Res Pt} (hE:EN t E) (hi:NI t s) (h:aK t E s= .ok q s'):NI t s':=by
 unfold aK at h
 split at h
 ·cases h
 obtain⟨_,s1,h1,h2⟩:=Res.bind_eq_ok h
 obtain⟨_,rfl⟩:=bF h1
 obtain⟨gn,s2,h3,h4⟩:=Res.bind_eq_ok h2
 obtain⟨p,s3,h5,h6⟩:=Res.bind_eq_ok h4
 obtain⟨_,s4,h7,h8⟩:=Res.bind_eq_ok h6
 obtain⟨_,rfl⟩:=bF h7
 cases h8
 have i2:=sO h3 (hi.same rfl rfl)
 exact (hE _ _ _ h5 i2).same rfl rfl
theorem yd {E:RS ->Res Pt} (hE:EN t E) (hi:NI t s) (h:bp t E s= .ok q s'):NI t s':=by
 unfold bp at h
 cases hb:ai t s.k with
 |none=>rw[hb]at h;cases h
 |some b=>
  rw[hb]at h
  simp only at h
  split at h
  ·exact xo hE hi h
  split at h
  ·obtain⟨c,s1,h1,h2⟩:=Res.bind_eq_ok h
   cases h2
   exact hi.like (t8 h1).2
  split at h
  ·cases h;exact hi.like (RS.like_up s)
  split at h
  ·obtain⟨y,s1,h1,h2⟩:=Res.bind_eq_ok h
   cases h2
   have e1:=iM h1
   subst e1
   exact hi.like ((RS.like_up s).trans (RS.like_up _))
  ·obtain⟨y,s1,h1,h2⟩:=Res.bind_eq_ok h
   cases h2
   obtain⟨_,rfl,_⟩:=eL h1
   exact hi.like (RS.like_up s)
theorem xq {E:RS ->Res Pt} (hE:EN t E) (hi:NI t s) (h:aW t E s= .ok q s'):NI t s':=by
 unfold aW at h
 obtain⟨p,s1,h1,h2⟩:=Res.bind_eq_ok h
 obtain⟨c,s2,h3,h4⟩:=Res.bind_eq_ok h2
 have i1:=yd hE hi h1
 have i2:=i1.like (nO h3).2
 cases c with
 |none=>cases h4;exact i2
 |some y=>
  cases h4
  exact i2.like (RS.took_like s2 t 63)
theorem jN {E:RS ->Res Pt} (hE:EN t E):∀(n:Nat) (acc l:List Pt) (s s':RS),NI t s ->aR t E n acc s= .ok l s' ->NI t s'
 |0,_,_,_,_,_,h=>by cases h
 |n+1,acc,l,s,s',hi,h=>by
  unfold aR at h
  split at h
  ·cases h;exact hi
  ·obtain⟨p,s1,h1,h2⟩:=Res.bind_eq_ok h
   exact jN hE n _ _ _ _ (xq hE hi h1) h2
theorem vL {E:RS ->Res Pt} (hE:EN t E):∀(n:Nat) (acc l:List Pt) (s s':RS),NI t s ->fi t E n acc s= .ok l s' ->NI t s'
 |0,_,_,_,_,_,h=>by cases h
 |n+1,acc,l,s,s',hi,h=>by
  unfold fi at h
  split at h
  ·obtain⟨p,s1,h1,h2⟩:=Res.bind_eq_ok h
   exact vL hE n _ _ _ _ (jN hE _ _ _ _ _ (hi.like (RS.like_up s)) h1) h2
  ·cases h;exact hi
theorem yl {E:RS ->Res Pt} (hE:EN t E):EN t (dm t E):=by
 intro a q b h hi
 unfold dm at h
 obtain⟨p,s1,h1,h2⟩:=Res.bind_eq_ok h
 obtain⟨l,s2,h3,h4⟩:=Res.bind_eq_ok h2
 cases h4
 exact vL hE _ _ _ _ _ (jN hE _ _ _ _ _ hi h1) h3
theorem nV (t:ByteArray):∀n,EN t (ep t n)
 |0=>fun _ _ _ h=>by cases h
 |n+1=>yl (nV t n)
theorem tX {p:Pt} (h:aX t= .ok p s):NI t s:=by
 unfold aX at h
 obtain⟨_,s0,h0,h⟩:=Res.bind_eq_ok h
 obtain⟨q,s1,h1,h⟩:=Res.bind_eq_ok h
 have n0:s0.nm=[]:=by
  unfold dB at h0
  split at h0
  ·obtain⟨_,s2,h9,h8⟩:=Res.bind_eq_ok h0
   obtain⟨_,rfl⟩:=bF h9
   cases h8;rfl
  ·cases h0;rfl
 have i0:NI t s0:=⟨by rw[n0];simp,by rw[n0];simp,by rw[n0];simp,by rw[n0];simp,by rw[n0];simp⟩
 have i1:=nV t 7 _ _ _ h1 i0
 split at h
 ·cases h;exact i1
 ·cases h
theorem jM {a b:ByteArray} (h:a.data.toList=b.data.toList):a=b:=ByteArray.ext (Array.toList_inj.1 h)
theorem hJ (t:ByteArray) (i a:Nat) (hi:i<=t.size):(t.extract i t.size).extract a (t.extract i t.size).size=t.extract (i+a) t.size:=by
 apply jM
 rw[Lib.extract_data,bC,Lib.extract_data,Lib.extract_data]
 rw[List.take_of_length_le (by rw[List.length_drop,List.length_take,List.length_drop,aF];omega)]
 rw[List.take_of_length_le (l:=List.drop i _) (by rw[List.length_drop,aF];omega),List.take_of_length_le (by rw[List.length_drop,aF];omega),List.drop_drop]
theorem tB (t:ByteArray) (i a b:Nat) (hb:i+b<=t.size):(t.extract i t.size).extract a b=t.extract (i+a) (i+b):=by
 apply jM
 rw[Lib.extract_data,Lib.extract_data,Lib.extract_data]
 rw[List.take_of_length_le (l:=List.drop i _) (by rw[List.length_drop,aF];omega),List.drop_drop,show i+b-(i+a)=b-a by omega]
theorem ym (t:ByteArray):t.extract 0 t.size=t:=by
 apply jM
 rw[Lib.extract_data,List.drop_zero,List.take_of_length_le (by rw[aF];omega)]
theorem oP (F:ByteArray ->ByteArray):∀(f g:Nat) (t:ByteArray),t.size<=f ->t.size<=g ->fx F f t=fx F g t
 |0,g,t,hf,_=>by rw[d8 F 0 t (by omega),d8 F g t (by omega)]
 |f+1,0,t,_,hg=>by rw[d8 F _ t (by omega),d8 F 0 t (by omega)]
 |f+1,g+1,t,hf,hg=>by
  unfold fx
  split
  ·rfl
  ·next h=>
   obtain⟨h1,h2⟩:=jP F t (by omega)
   rw[oP F f g _ (by rw[bC];omega) (by rw[bC];omega)]
def fm (F:ByteArray ->ByteArray) (t:ByteArray):List UInt8:=fx F t.size t
theorem xO (F:ByteArray ->ByteArray) (t:ByteArray) (h:t.size=0):fm F t=[]:=d8 F _ t h
theorem kp (F:ByteArray ->ByteArray) (t:ByteArray) (h:1<=t.size):fm F t=(bE F t).1.data.toList++fm F (t.extract (bE F t).2 t.size):=by
 unfold fm
 obtain⟨h1,h2⟩:=jP F t h
 obtain⟨n,hn⟩:∃n,t.size=n+1:=⟨t.size-1,by omega⟩
 have e:fx F t.size t=fx F (n+1) t:=by rw[hn]
 rw[e]
 conv=>lhs;unfold fx
 rw[if_neg (by omega),oP F n (t.extract (bE F t).2 t.size).size _ (by rw[bC];omega) (Nat.le_refl _)]
theorem sD (b:UInt8) (l:List UInt8) (h:b≠36):Lib.indexByte (b::l) 36=if Lib.indexByte l 36= -1 then -1 else Lib.indexByte l 36+1:=by
 rw[Lib.indexByte]
 rw[if_neg (by simpa using h)]
 by_cases h1:Lib.indexByte l 36= -1
 ·rw[if_pos h1,h1];rfl
 ·rw[if_neg h1,if_neg (by simpa using h1)]
theorem td (F:ByteArray ->ByteArray) (t:ByteArray) (h:1<=t.size) (b:UInt8) (hb:t.data.toList[0]? =some b) (hne:b≠36):fm F t=b::fm F (t.extract 1 t.size):=by
 have hl:t.data.toList=b::(t.extract 1 t.size).data.toList:=by
  rw[Lib.extract_data,List.take_of_length_le (by rw[List.length_drop,aF];omega)]
  cases hq:t.data.toList with
  |nil=>rw[hq]at hb;cases hb
  |cons x r=>rw[hq]at hb;simp at hb;rw[hb];rfl
 have hd:t.data.toList.headD 0=b:=by rw[hl];rfl
 have hne':t.data.toList.headD 0≠36:=by rw[hd];exact hne
 obtain⟨u,hu⟩:=exq (t.extract 1 t.size)
 have huz:u.size=t.size-1:=by rw[hu,bC]
 rw[<-hu]at hl ⊢
 have hix:=sD b u.data.toList hne
 rw[<-hl]at hix
 have hge:=Lib.indexByte_ge u.data.toList 36
 have hlt:=lU 36 u.data.toList
 rw[aF]at hlt
 obtain⟨p1,p2⟩:=ft t h hne'
 have hp:bP t=1+bP u\/(u.size≠0/\Lib.indexByte u.data.toList 36=0/\bP t=1):=by
  unfold bP
  rw[hix]
  by_cases h1:Lib.indexByte u.data.toList 36= -1
  ·rw[if_pos h1,h1];left;simp;omega
  ·rw[if_neg h1,if_pos (by omega),if_pos (by omega)];left;omega
 rw[kp F t h]
 have hf:bE F t=(t.extract 0 (bP t).toNat,(bP t).toNat):=by unfold bE;rw[if_pos hne']
 rw[hf]
 dsimp only
 by_cases hz:u.size=0
 ·obtain h1:t.size=1:=by omega
  have h2:(bP t).toNat=1:=by omega
  rw[h2,Lib.extract_data,hl,<-hu,List.drop_zero]
  rfl
 ·by_cases hq:u.data.toList.headD 0=36
  ·have h0:Lib.indexByte u.data.toList 36=0:=by
    cases hul:u.data.toList with
    |nil=>rw[hul]at hq;cases hq
    |cons x r=>rw[hul]at hq;have:x=36:=hq;rw[this];simp[Lib.indexByte]
   have h2:(bP t).toNat=1:=by
    have:bP t=1:=by unfold bP;rw[hix,h0];rfl
    omega
   rw[h2,Lib.extract_data,hl,<-hu,List.drop_zero]
   rfl
  ·obtain⟨q1,q2⟩:=ft u (by omega) hq
   have hpt:bP t=1+bP u:=by
    rcases hp with hp|⟨_,h0,_⟩
    ·exact hp
    ·exfalso;exact oe 36 u.data.toList hq h0
   rw[kp F u (by omega)]
   have hf2:bE F u=(u.extract 0 (bP u).toNat,(bP u).toNat):=by unfold bE;rw[if_pos hq]
   rw[hf2]
   dsimp only
   obtain⟨k,hk⟩:∃k:Nat,bP u=k:=⟨(bP u).toNat,by omega⟩
   have hk2:bP t=((1+k:Nat):Int):=by omega
   rw[hk,hk2,Int.toNat_natCast,Int.toNat_natCast,<-List.cons_append]
   congr 1
   ·rw[Lib.extract_data,Lib.extract_data,hl,List.drop_zero,List.drop_zero,show 1+k-0=k+1 by omega];rfl
   ·rw[hu,hJ t 1 k (by omega)]
theorem qx:∀(l:List UInt8) (acc n:Nat),Lib.decFrom acc l=some n ->(acc+1)*10^l.length<=100000 ->l.foldl fJ (acc:Int)=(n:Int)
 |[],acc,n,h,_=>by simp[Lib.decFrom]at h;simp[h]
 |b::l,acc,n,h,hb=>by
  rw[Lib.decFrom]at h
  cases hd:Lib.digitVal b with
  |none=>rw[hd]at h;cases h
  |some d=>
   rw[hd]at h
   dsimp only at h
   have hdb:b.toNat=d+48/\d<=9:=by
    unfold Lib.digitVal at hd
    split at hd
    ·next hc=>
     have e:=Option.some.inj hd
     omega
    ·cases hd
   have h10:1<=10^l.length:=Nat.one_le_pow _ _ (by omega)
   rw[List.length_cons,Nat.pow_succ]at hb
   have hb2:(acc*10+d+1)*10^l.length<=100000:=by
    have:(acc*10+d+1)*10^l.length<=((acc+1)*10)*10^l.length:=Nat.mul_le_mul_right _ (by omega)
    have e:(acc+1)*(10^l.length*10)=((acc+1)*10)*10^l.length:=by rw[Nat.mul_comm (10^l.length) 10,Nat.mul_assoc]
    omega
   have hacc:acc<100000:=by
    have:(acc+1)*1<=(acc+1)*(10^l.length*10):=Nat.mul_le_mul_left _ (by omega)
    omega
   have ih:=qx l _ n h hb2
   have e:fJ (acc:Int) b=((acc*10+d:Nat):Int):=by
    unfold fJ
    rw[if_pos (by omega)]
    omega
   rw[List.foldl_cons,e,ih]
theorem iU (a:ByteArray):∀(l:List ByteArray) (i:Nat) (k:Int),(∀j:Nat,l[j]? ≠some a) ->ek a l i k=k
 |[],_,_,_=>rfl
 |x::l,i,k,h=>by
  rw[ek,if_neg (fun e=>h 0 (by simp[e]))]
  exact iU a l (i+1) k (fun j hj=>h (j+1) (by simpa using hj))
theorem l9 (a:ByteArray):∀(l:List ByteArray) (i:Nat) (k K:Int),(∀j:Nat,l[j]? =some a ->((i+j:Nat):Int)+1=K) ->(∃j:Nat,l[j]? =some a) ->ek a l i k=K
 |[],_,_,_,_,⟨j,hj⟩=>by simp at hj
 |x::l,i,k,K,h,⟨j,hj⟩=>by
  rw[ek]
  have h':∀j:Nat,l[j]? =some a ->((i+1+j:Nat):Int)+1=K:=fun j hj=>by
   have:=h (j+1) (by simpa using hj);omega
  by_cases hl:∃j:Nat,l[j]? =some a
  ·exact l9 a l (i+1) _ K h' hl
  ·have hn:∀j:Nat,l[j]? ≠some a:=fun j hj=>hl ⟨j,hj⟩
   rw[iU a l (i+1) _ hn]
   cases j with
   |zero=>
    have e:x=a:=by simpa using hj
    rw[if_pos e]
    have:=h 0 (by simp[e])
    omega
   |succ j=>exact absurd ⟨j,by simpa using hj⟩ hl
theorem qN {st:RS} {ns:List ByteArray} (s:ByteArray) (l:List (Int×Int)) (a:ByteArray) (hi:NI t st) (hn:oV st.nm ns) (h1:1<=a.size):lO s l ns a=bH s l st.nm a:=by
 obtain⟨hk,hi2⟩:=hn a (by omega)
 unfold lO bH
 by_cases hd:a.data.toList.all (fun b=>cz (b.toNat:Int))=true
 ·rw[if_pos hd]
  by_cases h3:3<a.size
  ·have hg:gnB a=false:=by unfold gnB;rw[decide_eq_false (by omega)];rfl
   rw[if_pos h3,hg]
   have ht:aD st.nm a=false:=by
    rw[Bool.eq_false_iff]
    intro h
    unfold aD at h
    rw[List.any_eq_true]at h
    obtain⟨x,hx,he⟩:=h
    have he':x.1=a:=by simpa using he
    have hp:0<a.size:=by omega
    have hm:=List.mem_of_getElem? (cy hp)
    have h9:=hi.lt x hx _ (by rw[he'];exact hm)
    rw[List.all_eq_true]at hd
    have h8:=hd _ hm
    unfold cz at h8
    simp at h8
    omega
   simp[rj,ht]
  ·have hg:gnB a=true:=by unfold gnB;rw[decide_eq_true (by omega),hd];rfl
   rw[if_neg h3,hg,if_pos rfl]
   obtain⟨n,hn1,hn2⟩:=jL a.data.toList (by intro e;have:=aF a;rw[e]at this;simp at this;omega) hd
   have e1:gnN a=(n:Int):=by unfold gnN;rw[hn2];rfl
   have h10:(0+1)*10^a.data.toList.length<=100000:=by
    have h4:10^a.data.toList.length<=10^3:=Nat.pow_le_pow_right (by omega) (by rw[aF];omega)
    omega
   rw[e1,<-qx _ 0 n hn1 h10]
   rfl
 ·have hd':a.data.toList.all (fun b=>cz (b.toNat:Int))=false:=by simpa using hd
  have hg:gnB a=false:=by unfold gnB;rw[hd',Bool.and_false]
  rw[if_neg hd,hg]
  unfold rj
  simp only[Bool.false_eq_true,if_false]
  cases hT:aD st.nm a with
  |false=>
   rw[hT]at hk
   have hno:∀j:Nat,ns[j]? ≠some a:=fun j hj=>by
    have:ns.any (fun x=>decide (x=a))=true:=by rw[List.any_eq_true];exact⟨a,List.mem_of_getElem? hj,by simp⟩
    rw[<-hk]at this;cases this
   rw[iU a ns 0 (-1) hno]
   rfl
  |true=>
   rw[hT]at hk
   have hex:∃j:Nat,ns[j]? =some a:=by
    have h2:=hk.symm
    rw[List.any_eq_true]at h2
    obtain⟨x,hx,he⟩:=h2
    obtain⟨j,hj⟩:=List.mem_iff_getElem?.1 hx
    exact⟨j,by rw[hj];simpa using he⟩
   have hf:∃x∈st.nm,x.1=a/\gD st.nm a=x.2:=by
    unfold gD
    cases hq:st.nm.find? (fun x=>decide (x.1=a))with
    |none=>
     rw[List.find?_eq_none]at hq
     unfold aD at hT
     rw[List.any_eq_true]at hT
     obtain⟨x,hx,he⟩:=hT
     exact absurd he (hq x hx)
    |some x=>exact⟨x,List.mem_of_find?_eq_some hq,by simpa using List.find?_some hq,rfl⟩
   obtain⟨x,hx,hxa,hxn⟩:=hf
   rw[if_pos rfl,hxn]
   congr 1
   refine l9 a ns 0 (-1) _ (fun j hj=> ?_) hex
   have h5:=(hi2 j).1 hj
   have h6:=hi.un _ h5 _ hx (by rw[hxa])
   dsimp only at h6
   omega
theorem zN (l:List UInt8) (a:UInt8):Lib.hasPrefix l [a]=(l[0]? ==some a):=by
 cases l with
 |nil=>rfl
 |cons x l=>
  show (a==x&&List.isPrefixOf [] l)=_
  rw[show List.isPrefixOf ([]:List UInt8) l=true by cases l<;>rfl,Bool.and_true]
  simp only[List.getElem?_cons_zero]
  by_cases h:a=x
  ·rw[h];simp
  ·rw[beq_eq_false_iff_ne.2 h,beq_eq_false_iff_ne.2 (fun e=>h (Option.some.inj e).symm)]
theorem At (l:List UInt8) (a b:UInt8):Lib.hasPrefix l [a,b]=(l[0]? ==some a&&l[1]? ==some b):=by
 cases l with
 |nil=>rfl
 |cons x l=>
  show (a==x&&Lib.hasPrefix l [b])=_
  rw[zN]
  simp only[List.getElem?_cons_zero,List.getElem?_cons_succ]
  congr 1
  by_cases h:a=x
  ·rw[h];simp
  ·rw[beq_eq_false_iff_ne.2 h,beq_eq_false_iff_ne.2 (fun e=>h (Option.some.inj e).symm)]
theorem wK (l:List UInt8) (a:UInt8) (h:l[0]? =some a):l.headD 0=a:=by cases l<;>simp_all
section
variable (F:ByteArray ->ByteArray) (t:ByteArray) (i:Nat)
theorem lJ (hi:i<t.size) (h0:t.data.toList[i]? =some 36):bE F (t.extract i t.size)=
  if t.data.toList[i+1]? =some 36 then (⟨#[36]⟩,2)
  else if 0<cj (t.extract (i+1) t.size)then (F (t.extract (i+1) (i+1+cj (t.extract (i+1) t.size))),1+cj (t.extract (i+1) t.size))
  else if t.data.toList[i+1]? =some 123/\t.data.toList[i+2+cj (t.extract (i+2) t.size)]? =some 125/\0<cj (t.extract (i+2) t.size)then (F (t.extract (i+2) (i+2+cj (t.extract (i+2) t.size))),cj (t.extract (i+2) t.size)+3)
  else (⟨#[36]⟩,1):=by
 have e1:(t.extract i t.size).extract 1 (t.extract i t.size).size=t.extract (i+1) t.size:=hJ t i 1 (by omega)
 have e2:(t.extract (i+1) t.size).extract 1 (t.extract (i+1) t.size).size=t.extract (i+2) t.size:=hJ t (i+1) 1 (by omega)
 have hd:(t.extract i t.size).data.toList.headD 0=36:=wK _ _ (by rw[kI];exact h0)
 unfold bE
 rw[e1,if_neg (by rw[hd];simp),At,kI,kI,Nat.add_zero,h0]
 by_cases h1:t.data.toList[i+1]? =some 36
 ·rw[if_pos h1,h1];rfl
 ·rw[if_neg h1]
  have:(some (36:UInt8)==some 36&&t.data.toList[i+1]? ==some 36)=false:=by
   rw[Bool.and_eq_false_iff];right;exact beq_eq_false_iff_ne.2 h1
  rw[this]
  simp only[Bool.false_eq_true,if_false]
  have hle:=eF (t.extract (i+1) t.size)
  rw[bC]at hle
  by_cases h2:0<cj (t.extract (i+1) t.size)
  ·rw[if_pos h2,if_pos h2,tB t i 1 _ (by omega),show i+(1+cj (t.extract (i+1) t.size))=i+1+cj (t.extract (i+1) t.size) by omega]
  ·rw[if_neg h2,if_neg h2]
   have hle2:=eF (t.extract (i+2) t.size)
   rw[bC]at hle2
   have hbr:bZ (t.extract (i+1) t.size)=if t.data.toList[i+1]? =some 123/\t.data.toList[i+2+cj (t.extract (i+2) t.size)]? =some 125 then cj (t.extract (i+2) t.size)else 0:=by
    unfold bZ
    rw[e2,zN,zN,kI,hJ t (i+1) _ (by omega),kI]
    rw[show i+1+(1+cj (t.extract (i+2) t.size))+0=i+2+cj (t.extract (i+2) t.size) by omega,show i+1+0=i+1 by omega]
    by_cases h3:t.data.toList[i+1]? =some 123/\t.data.toList[i+2+cj (t.extract (i+2) t.size)]? =some 125
    ·rw[if_pos h3,h3.1,h3.2];rfl
    ·rw[if_neg h3,if_neg]
     intro h4
     rw[Bool.and_eq_true]at h4
     exact h3 ⟨by simpa using h4.1,by simpa using h4.2⟩
   rw[hbr]
   by_cases h3:t.data.toList[i+1]? =some 123/\t.data.toList[i+2+cj (t.extract (i+2) t.size)]? =some 125
   ·rw[if_pos h3]
    have hlt:i+2+cj (t.extract (i+2) t.size)<t.size:=by
     have:=(List.getElem?_eq_some_iff.1 h3.2).1
     rw[aF]at this
     exact this
    by_cases h4:0<cj (t.extract (i+2) t.size)
    ·rw[if_pos h4,if_pos ⟨h3.1,h3.2,h4⟩,tB t i 2 _ (by omega),show i+(2+cj (t.extract (i+2) t.size))=i+2+cj (t.extract (i+2) t.size) by omega]
    ·rw[if_neg h4,if_neg (fun h=>h4 h.2.2)]
   ·rw[if_neg h3,if_neg (by omega),if_neg (fun h=>h3 ⟨h.1,h.2.1⟩)]
theorem ki (hi:i<t.size) (k:Nat) (g:ByteArray) (hf:bE F (t.extract i t.size)=(g,k)):fm F (t.extract i t.size)=g.data.toList++fm F (t.extract (i+k) t.size):=by
 rw[kp F _ (by rw[bC];omega),hf,hJ t i k (by omega)]
theorem xG (hi:i<t.size) (b:UInt8) (h0:t.data.toList[i]? =some b) (hb:b≠36):fm F (t.extract i t.size)=b::fm F (t.extract (i+1) t.size):=by
 rw[td F _ (by rw[bC];omega) b (by rw[kI];exact h0) hb,hJ t i 1 (by omega)]
end
end Go.Proofs.YtfnanjbleifjkaaGreatDoor.G
