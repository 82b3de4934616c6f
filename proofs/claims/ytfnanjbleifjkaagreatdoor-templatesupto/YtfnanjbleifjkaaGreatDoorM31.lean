import Derived.Test.YtfnanjbleifjkaaGreatDoorM30
import Derived.Laws.Concat
set_option linter.unusedVariables false
set_option linter.unusedSimpArgs false
set_option maxHeartbeats 8000000
set_option maxRecDepth 100000
namespace Go.Proofs.YtfnanjbleifjkaaGreatDoor.G
variable {t:ByteArray} {E:Nat}
open Go.RowKit
theorem rG (t:ByteArray) (i:Nat):∀x∈(t.extract i (i+cj (t.extract i t.size))).data.toList,48<=x.toNat:=by
 intro x hx
 have h1:(t.extract i (i+cj (t.extract i t.size))).data.toList=(t.extract i t.size).data.toList.takeWhile (fun b=>dq (b.toNat:Int)):=by
  have hp:=List.takeWhile_prefix (fun b:UInt8=>dq (b.toNat:Int)) (l:=(t.extract i t.size).data.toList)
  have e:=List.prefix_iff_eq_take.1 hp
  rw[e]
  have hle:=eF (t.extract i t.size)
  rw[bC]at hle
  unfold cj at hle ⊢
  rw[Lib.extract_data,Lib.extract_data,List.take_take]
  rw[Lib.extract_data]at hle
  congr 1
  omega
 rw[h1]at hx
 have h2:dq (x.toNat:Int)=true:=List.all_eq_true.1 (List.all_takeWhile (p:=fun b:UInt8=>dq (b.toNat:Int))) x hx
 unfold dq et cz at h2
 simp at h2
 omega
theorem cH (a b:ByteArray):(a++b).data.toList=a.data.toList++b.data.toList:=by
 rw[ByteArray.data_append,Array.toList_append]
theorem yn (t:ByteArray) (i:Nat) (b:UInt8) (h:t.data.toList[i]? =some b):(t.extract i (i+1)).data.toList=[b]:=by
 rw[Lib.extract_data,show i+1-i=1 by omega]
 have hl:=(List.getElem?_eq_some_iff.1 h).1
 rw[List.drop_eq_getElem_cons hl]
 rw[List.getElem?_eq_getElem hl]at h
 rw[Option.some.inj h]
 rfl
theorem uH {w:World} {b base base':Nat} {av ro gi nv v:Value} (F:ByteArray ->ByteArray) (s t:ByteArray) (l:List (Int×Int)) (ns:List ByteArray) (hF:∀a,1<=a.size ->(∀x∈a.data.toList,48<=x.toNat) ->lO s l ns a=F a) (hb:BK w b (.cells #[av,ro,gi,nv] 133 (0,0))) (hn:w.ownsRow base 9 1 nv ns.length (ns.map Value.string)) (hv:w.ownsRow base' 31 2 v l.length (bL l)) (h5:ns.length<=5) (hl1:1<=l.length) (hl6:l.length<=6) (hok:∀y∈l,y.1<0\/(0<=y.1/\y.1<=y.2/\y.2<=(s.size:Int))) (hs:s.size<=1048576) (ht:t.size<=1048576) (hFz:∀a,(F a).size<=1048576):
  Calls Tryz.prog 27 #[.pointer (some ⟨b,0,none⟩),v,.string s,.string t] w fun e w'=>e= .returned (.string ⟨(fm F t).toArray⟩)/\Ex [] w w':=by
 obtain⟨R,hR⟩:∃R:ByteArray,R=⟨(fm F t).toArray⟩:=⟨_,rfl⟩
 rw[<-hR]
 have HR:Hid (R.data.toList=fm F t):=by show _=_;rw[hR]
 have KG:Hid (∀(W:World) (a:ByteArray),Ex [] w W ->1<=a.size ->a.size<=9223372036854775807 ->(∀x∈a.data.toList,48<=x.toNat) ->Calls Tryz.prog 63 #[.pointer (some ⟨b,0,none⟩),v,.string s,.string a] W fun e w'=>e= .returned (.string (F a))/\Ex [] W w'):=fun W a hx h1 h2 h3=>by
  rw[<-hF a h1 h3]
  exact sk s a l ns (hb.ex hx (by simp)) (aU hn hx (by simp)) (aU hv hx (by simp)) h5 hl1 hl6 hok (by omega) h2 h3
 have KW:Hid (∀(i:Nat) (W:World),i<=t.size ->Calls Tryz.prog 62 #[.string t,.int .i64 (i:Int)] W fun e w'=>e= .returned (.string (t.extract i (i+cj (t.extract i t.size))))/\w'=W):=fun i W hi=>zP t i W hi (by omega)
 obtain⟨n,hnn⟩:=exq (t.size)
 have HN:=aa hnn
 have HFZ:=aa hFz
 clear hF hb hn hv h5 hl1 hl6 hok hR hnn hFz
 go_enter Tryz.func27,Tryz.ntmps27
 go_wp2_with fail
 go_loopg [9,10] n (fun gk u k wr=>∃(i:Nat) (o:ByteArray),u= .string o/\k= .int .i64 (i:Int)/\i<=t.size/\t.size<=i+gk/\o.size<=i*1048576/\o.data.toList++fm F (t.extract i t.size)=R.data.toList/\Ex [] w wr)
 case atStart=>exact⟨0,⟨#[]⟩,rfl,rfl,Nat.zero_le _,by rw[HN.O];omega,Nat.zero_le _,by rw[ym,HR.O];rfl,Ex.refl _ _⟩
 case round=>
  obtain⟨i,o,rfl,rfl,hi,hgk,hoz,ho,hx⟩:=hrel
  have HO:=aa ho
  have HX:=aa hx
  have HOZ:=aa hoz
  have hozz:o.size<=1100000000000:=by omega
  clear ho hx hoz
  have HAD:Hid (∀(W:World) (x:ByteArray),x.size<=1048576 ->(Op.stringOp .add o x).run Tryz.prog W= .ok (.string (o++x)) W):=fun W x hx=>run_string_add_sum (P:=Tryz.prog) W o x (by omega)
  clear hozz
  by_cases hil:i<t.size
  rotate_left
  ·have h1:¬(i:Int)<(t.size:Int):=by omega
   obtain rfl:o=R:=by
    apply jM
    rw[<-HO.O,xO F _ (by rw[bC];omega),List.append_nil]
   clear hgk
   go_wp2_with fail
   go_ret
   exact⟨rfl,HX.O⟩
  ·have h1:(i:Int)<(t.size:Int):=by omega
   obtain⟨gk,rfl⟩:∃g,gk=g+1:=⟨gk-1,by omega⟩
   have hc:=cy hil
   obtain⟨x,hxx⟩:∃x:Nat,x=(t[i]'hil).toNat:=⟨_,rfl⟩
   have HC:=aa hc
   have HXX:=aa hxx
   clear hc hxx
   by_cases h36:((t[i]'hil).toNat:Int)=36
   rotate_left
   ·have hne:(t[i]'hil)≠36:=by intro e;apply h36;rw[e];rfl
    have hst:=xG F t i hil _ HC.O hne
    have hei:=yn t i _ HC.O
    have HNX:Hid ((o++t.extract i (i+1)).data.toList++fm F (t.extract (i+1) t.size)=R.data.toList):=by
     show _=_
     rw[cH,hei,List.append_assoc,<-HO.O,hst];rfl
    have hi1:(i:Int)+1<=(t.size:Int):=by omega
    have hadd:=HAD.O wr (t.extract i (i+1)) (by rw[G.size_extract t i (i+1) (by omega)];omega)
    have hz1:(o++t.extract i (i+1)).size=o.size+1:=by rw[ByteArray.size_append,G.size_extract t i (i+1) (by omega)];omega
    have HZ1:=aa hz1
    clear hst hei hne hz1
    go_wp2_with fail
    go_roundg gk
    case measure=>omega
    case rel=>exact⟨i+1,o++t.extract i (i+1),rfl,by simp,by omega,by omega,by rw[HZ1.O];have:=HOZ.O;omega,HNX.O,HX.O⟩
   ·have hc36:t.data.toList[i]? =some 36:=by
     rw[HC.O];congr 1;exact UInt8.toNat_inj.1 (by simpa using (show (t[i]'hil).toNat=36 by omega))
    have hfe:=lJ F t i hil hc36
    have HFE:=aa hfe
    clear hfe hc36
    by_cases h2:i+1<t.size
    rotate_left
    ·-- a $ at the end
     have hie:¬(i:Int)+1<(t.size:Int):=by omega
     have hz1:cj (t.extract (i+1) t.size)=0:=by have:=eF (t.extract (i+1) t.size);rw[bC]at this;omega
     have hnone:t.data.toList[i+1]? =none:=List.getElem?_eq_none (by rw[aF];omega)
     have hst:=ki F t i hil 1 ⟨#[36]⟩ (by rw[HFE.O,hnone,if_neg (by simp),if_neg (by omega),if_neg (by simp)])
     have HNX:Hid ((o++(⟨#[36]⟩:ByteArray)).data.toList++fm F (t.extract (i+1) t.size)=R.data.toList):=by
      show _=_
      rw[cH,List.append_assoc,<-HO.O,hst]
     have KW1:=aa (fun W=>KW.O (i+1) W (by omega))
     rw[hz1]at KW1
     have he0:t.extract (i+1) (i+1+0)=⟨#[]⟩:=by apply jM;rw[Lib.extract_data];simp
     rw[he0]at KW1
     clear hst hnone hz1 he0
     have hadd:=HAD.O wr ⟨#[36]⟩ (by decide)
     go_wp2_with fail
     refine (KW1.O _).mono ?_
     rintro e w9 ⟨rfl,rfl⟩
     go_wp2_with fail
     go_roundg gk
     case measure=>omega
     case rel=>exact⟨i+1,o++⟨#[36]⟩,rfl,by simp,by omega,by omega,by rw[ByteArray.size_append];have:=HOZ.O;have:(⟨#[36]⟩:ByteArray).size=1:=rfl;omega,HNX.O,HX.O⟩
    ·have hii:(i:Int)+1<(t.size:Int):=by omega
     have hc1:=cy h2
     have HC1:=aa hc1
     clear hc1
     by_cases h36b:((t[i+1]'h2).toNat:Int)=36
     ·have hcc:t.data.toList[i+1]? =some 36:=by
       rw[HC1.O];congr 1;exact UInt8.toNat_inj.1 (by simpa using (show (t[i+1]'h2).toNat=36 by omega))
      have hst:=ki F t i hil 2 ⟨#[36]⟩ (by rw[HFE.O,if_pos hcc])
      have HNX:Hid ((o++(⟨#[36]⟩:ByteArray)).data.toList++fm F (t.extract (i+2) t.size)=R.data.toList):=by
       show _=_
       rw[cH,List.append_assoc,<-HO.O,hst]
      have hadd:=HAD.O wr ⟨#[36]⟩ (by decide)
      clear hst hcc
      go_wp2_with fail
      go_roundg gk
      case measure=>omega
      case rel=>exact⟨i+2,o++⟨#[36]⟩,rfl,by simp,by omega,by omega,by rw[ByteArray.size_append];have:=HOZ.O;have:(⟨#[36]⟩:ByteArray).size=1:=rfl;omega,HNX.O,HX.O⟩
     ·have hn36:¬t.data.toList[i+1]? =some 36:=by
       rw[HC1.O];intro e;apply h36b;rw[Option.some.inj e];rfl
      have hfe2:=HFE.O
      rw[if_neg hn36]at hfe2
      have HF2:=aa hfe2
      have KW1:=aa (fun W=>KW.O (i+1) W (by omega))
      have hle1:=eF (t.extract (i+1) t.size)
      rw[bC]at hle1
      have hwd:=rG t (i+1)
      have HWD:=aa hwd
      obtain⟨N,hN⟩:=exq (cj (t.extract (i+1) t.size))
      rw[<-hN]at hle1
      rw[<-hN]at KW1 HF2 HWD
      clear hfe2 HFE hn36 hwd hN
      by_cases hN0:0<N
      ·have hst:=ki F t i hil _ _ (by rw[HF2.O,if_pos hN0])
       have KG1:=aa (fun W hx h1=>KG.O W (t.extract (i+1) (i+1+N)) hx h1 (by rw[G.size_extract t (i+1) (i+1+N) (by omega)];omega) HWD.O)
       have hsz:(t.extract (i+1) (i+1+N)).size=N:=by rw[G.size_extract t (i+1) (i+1+N) (by omega)];omega
       obtain⟨a,haa⟩:=exq (t.extract (i+1) (i+1+N))
       rw[<-haa]at KW1 KG1 hst hsz
       obtain⟨G,hG⟩:=exq (F a)
       rw[<-hG]at KG1 hst
       have HGZ:Hid (G.size<=1048576):=by show _<=_;rw[hG];exact HFZ.O a
       have HNX:Hid ((o++G).data.toList++fm F (t.extract (i+1+N) t.size)=R.data.toList):=by
        show _=_
        rw[cH,List.append_assoc,<-HO.O,hst,show i+(1+N)=i+1+N by omega]
       have hne:a.toList.isEmpty=false:=bD (by omega)
       have HSZ:=aa hsz
       clear hst haa hG HWD HF2 hsz
       go_wp2_with fail
       refine (KW1.O _).mono ?_
       rintro e w9 ⟨rfl,rfl⟩
       go_wp2_with fail
       refine (KG1.O _ HX.O (by have:=HSZ.O;omega)).mono ?_
       rintro e w2 ⟨rfl,hx2⟩
       have HX2:=aa (HX.O.trans hx2)
       have hsz:=HSZ.O
       have hadd:=HAD.O w2 G HGZ.O
       clear hx2
       go_wp2_with fail
       go_roundg gk
       case measure=>omega
       case rel=>exact⟨i+1+N,o++G,rfl,by simp[HSZ.O],by omega,by omega,by rw[ByteArray.size_append];have:=HOZ.O;have:=HGZ.O;omega,HNX.O,HX2.O⟩
      ·obtain rfl:N=0:=by omega
       have he0:t.extract (i+1) (i+1+0)=⟨#[]⟩:=by apply jM;rw[Lib.extract_data];simp
       rw[he0]at KW1
       have hfe3:=HF2.O
       rw[if_neg (by omega)]at hfe3
       have HF3:=aa hfe3
       clear he0 hfe3 HF2 HWD hN0 hle1
       by_cases h123:((t[i+1]'h2).toNat:Int)=123
       rotate_left
       ·have hno:¬t.data.toList[i+1]? =some 123:=by rw[HC1.O];intro e;apply h123;rw[Option.some.inj e];rfl
        have hst:=ki F t i hil 1 ⟨#[36]⟩ (by rw[HF3.O,if_neg (fun h=>hno h.1)])
        have HNX:Hid ((o++(⟨#[36]⟩:ByteArray)).data.toList++fm F (t.extract (i+1) t.size)=R.data.toList):=by
         show _=_
         rw[cH,List.append_assoc,<-HO.O,hst]
        have hadd:=HAD.O wr ⟨#[36]⟩ (by decide)
        clear hst hno
        go_wp2_with fail
        refine (KW1.O _).mono ?_
        rintro e w9 ⟨rfl,rfl⟩
        go_wp2_with fail
        go_roundg gk
        case measure=>omega
        case rel=>exact⟨i+1,o++⟨#[36]⟩,rfl,by simp,by omega,by omega,by rw[ByteArray.size_append];have:=HOZ.O;have:(⟨#[36]⟩:ByteArray).size=1:=rfl;omega,HNX.O,HX.O⟩
       ·have hyes:t.data.toList[i+1]? =some 123:=by
         rw[HC1.O];congr 1;exact UInt8.toNat_inj.1 (by simpa using (show (t[i+1]'h2).toNat=123 by omega))
        have KW2:=aa (fun W=>KW.O (i+2) W (by omega))
        have hle2:=eF (t.extract (i+2) t.size)
        rw[bC]at hle2
        have hwd:=rG t (i+2)
        have HWD:=aa hwd
        obtain⟨M,hM⟩:=exq (cj (t.extract (i+2) t.size))
        rw[<-hM]at hle2
        rw[<-hM]at KW2 HF3 HWD
        have hsz:(t.extract (i+2) (i+2+M)).size=M:=by rw[G.size_extract t (i+2) (i+2+M) (by omega)];omega
        have HYES:=aa hyes
        have KG1:=aa (fun W hx h1=>KG.O W (t.extract (i+2) (i+2+M)) hx h1 (by omega) HWD.O)
        obtain⟨a,haa⟩:=exq (t.extract (i+2) (i+2+M))
        rw[<-haa]at KW2 KG1 hsz HF3
        have HSZ:=aa hsz
        clear hwd hM hyes HWD haa hsz
        have HNO:Hid (¬(t.data.toList[i+2+M]? =some 125/\0<M) ->(o++(⟨#[36]⟩:ByteArray)).data.toList++fm F (t.extract (i+1) t.size)=R.data.toList):=fun hno=>by
         have hst:=ki F t i hil 1 ⟨#[36]⟩ (by rw[HF3.O,if_neg (fun h=>hno h.2)])
         rw[cH,List.append_assoc,<-HO.O,hst]
        by_cases hM0:0<M
        rotate_left
        ·obtain rfl:M=0:=by omega
         have HNX:=aa (HNO.O (fun h=>hM0 h.2))
         obtain rfl:a=⟨#[]⟩:=by apply ByteArray.ext;exact Array.eq_empty_of_size_eq_zero HSZ.O
         have hadd:=HAD.O wr ⟨#[36]⟩ (by decide)
         clear HNO hM0 hle2 KG1 HF3
         go_wp2_with fail
         refine (KW1.O _).mono ?_
         rintro e w9 ⟨rfl,rfl⟩
         go_wp2_with fail
         refine (KW2.O _).mono ?_
         rintro e w9 ⟨rfl,rfl⟩
         go_wp2_with fail
         go_roundg gk
         case measure=>omega
         case rel=>exact⟨i+1,o++⟨#[36]⟩,rfl,by simp,by omega,by omega,by rw[ByteArray.size_append];have:=HOZ.O;have:(⟨#[36]⟩:ByteArray).size=1:=rfl;omega,HNX.O,HX.O⟩
        ·have hne:a.toList.isEmpty=false:=bD (by have:=HSZ.O;omega)
         by_cases he:i+2+M<t.size
         rotate_left
         ·have hnone:t.data.toList[i+2+M]? =none:=List.getElem?_eq_none (by rw[aF];omega)
          have HNX:=aa (HNO.O (fun h=>by rw[hnone]at h;cases h.1))
          have hsz:=HSZ.O
          have hei:¬(i:Int)+2+(a.size:Int)<(t.size:Int):=by omega
          have hadd:=HAD.O wr ⟨#[36]⟩ (by decide)
          clear HNO hnone KG1 HF3
          go_wp2_with fail
          refine (KW1.O _).mono ?_
          rintro e w9 ⟨rfl,rfl⟩
          go_wp2_with fail
          refine (KW2.O _).mono ?_
          rintro e w9 ⟨rfl,rfl⟩
          go_wp2_with fail
          go_roundg gk
          case measure=>omega
          case rel=>exact⟨i+1,o++⟨#[36]⟩,rfl,by simp,by omega,by omega,by rw[ByteArray.size_append];have:=HOZ.O;have:(⟨#[36]⟩:ByteArray).size=1:=rfl;omega,HNX.O,HX.O⟩
         ·have hce:=cy he
          obtain rfl:M=a.size:=HSZ.O.symm
          have hei:(i:Int)+2+(a.size:Int)<(t.size:Int):=by omega
          have HCE:=aa hce
          clear hce
          by_cases h125:((t[i+2+a.size]'he).toNat:Int)=125
          rotate_left
          ·have HNX:=aa (HNO.O (fun h=>by
            have h9:=h.1
            rw[HCE.O]at h9
            apply h125;rw[Option.some.inj h9];rfl))
           have hadd:=HAD.O wr ⟨#[36]⟩ (by decide)
           clear HNO KG1 HF3
           go_wp2_with fail
           refine (KW1.O _).mono ?_
           rintro e w9 ⟨rfl,rfl⟩
           go_wp2_with fail
           refine (KW2.O _).mono ?_
           rintro e w9 ⟨rfl,rfl⟩
           go_wp2_with fail
           go_roundg gk
           case measure=>omega
           case rel=>exact⟨i+1,o++⟨#[36]⟩,rfl,by simp,by omega,by omega,by rw[ByteArray.size_append];have:=HOZ.O;have:(⟨#[36]⟩:ByteArray).size=1:=rfl;omega,HNX.O,HX.O⟩
          ·have hyy:t.data.toList[i+2+a.size]? =some 125:=by
            rw[HCE.O];congr 1;exact UInt8.toNat_inj.1 (by simpa using (show (t[i+2+a.size]'he).toNat=125 by omega))
           have hst:=ki F t i hil _ _ (by rw[HF3.O,if_pos ⟨HYES.O,hyy,hM0⟩])
           obtain⟨G,hG⟩:=exq (F a)
           rw[<-hG]at KG1 hst
           have HGZ:Hid (G.size<=1048576):=by show _<=_;rw[hG];exact HFZ.O a
           have HNX:Hid ((o++G).data.toList++fm F (t.extract (i+3+a.size) t.size)=R.data.toList):=by
            show _=_
            rw[cH,List.append_assoc,<-HO.O,hst,show i+(a.size+3)=i+3+a.size by omega]
           clear hst hG HNO HF3 hyy
           go_wp2_with fail
           refine (KW1.O _).mono ?_
           rintro e w9 ⟨rfl,rfl⟩
           go_wp2_with fail
           refine (KW2.O _).mono ?_
           rintro e w9 ⟨rfl,rfl⟩
           go_wp2_with fail
           refine (KG1.O _ HX.O (by omega)).mono ?_
           rintro e w2 ⟨rfl,hx2⟩
           have HX2:=aa (HX.O.trans hx2)
           have hadd:=HAD.O w2 G HGZ.O
           clear hx2
           go_wp2_with fail
           go_roundg gk
           case measure=>omega
           case rel=>exact⟨i+3+a.size,o++G,rfl,by congr 1;omega,by omega,by omega,by rw[ByteArray.size_append];have:=HOZ.O;have:=HGZ.O;omega,HNX.O,HX2.O⟩
theorem kJ {g:Nat}:∀(Y:Yp) (ks:List (List Ti)),GLe g Y.er ->(∀k∈ks,∀t∈k,TkG g t.er) ->∀K∈unY Y ks,∀t∈K,TkG g t.er
 |.emp y,ks,hy,hk,K,hK,t,ht=>by
  obtain⟨j,hj,rfl⟩:=List.mem_map.1 (by rw[unY]at hK;exact hK)
  rcases List.mem_cons.1 ht with rfl|ht
  ·exact hy
  ·exact hk j hj t ht
 |.set y c,ks,hy,hk,K,hK,t,ht=>by
  obtain⟨j,hj,rfl⟩:=List.mem_map.1 (by rw[unY]at hK;exact hK)
  rcases List.mem_cons.1 ht with rfl|ht
  ·exact hy
  ·exact hk j hj t ht
 |.cat y a b,ks,hy,hk,K,hK,t,ht=>by
  rw[unY]at hK
  have hb:∀k∈ks.map (.ex b:: ·),∀t∈k,TkG g t.er:=fun k hk' t ht=>by
   obtain⟨j,hj,rfl⟩:=List.mem_map.1 hk'
   rcases List.mem_cons.1 ht with rfl|ht
   ·exact hy.2
   ·exact hk j hj t ht
  rcases List.mem_append.1 hK with hK|hK
  ·obtain⟨j,hj,rfl⟩:=List.mem_map.1 hK
   rcases List.mem_cons.1 ht with rfl|ht
   ·exact hy
   ·exact hk j hj t ht
  ·rcases List.mem_append.1 hK with hK|hK
   ·exact kJ b ks hy.2 hk K hK t ht
   ·exact kJ a _ hy.1 hb K hK t ht
 |.alt y a b,ks,hy,hk,K,hK,t,ht=>by
  rw[unY]at hK
  rcases List.mem_append.1 hK with hK|hK
  ·obtain⟨j,hj,rfl⟩:=List.mem_map.1 hK
   rcases List.mem_cons.1 ht with rfl|ht
   ·exact hy
   ·exact hk j hj t ht
  ·rcases List.mem_append.1 hK with hK|hK
   ·exact kJ a ks hy.1 hk K hK t ht
   ·exact kJ b ks hy.2 hk K hK t ht
 |.star y a z,ks,hy,hk,K,hK,t,ht=>by
  rw[unY]at hK
  have hb:∀k∈ks.map (.rend y a z true:: ·)++ks.map (.rend y a z false:: ·),∀t∈k,TkG g t.er:=fun k hk' t ht=>by
   rcases List.mem_append.1 hk' with hk'|hk'
   all_goals
    obtain⟨j,hj,rfl⟩:=List.mem_map.1 hk'
    rcases List.mem_cons.1 ht with rfl|ht
    ·exact hy
    ·exact hk j hj t ht
  rcases List.mem_append.1 hK with hK|hK
  ·obtain⟨j,hj,rfl⟩:=List.mem_map.1 hK
   rcases List.mem_cons.1 ht with rfl|ht
   ·exact hy
   ·exact hk j hj t ht
  ·rcases List.mem_append.1 hK with hK|hK
   ·exact hb K hK t ht
   ·exact kJ a _ hy hb K hK t ht
 |.may y a z,ks,hy,hk,K,hK,t,ht=>by
  rw[unY]at hK
  rcases List.mem_append.1 hK with hK|hK
  ·obtain⟨j,hj,rfl⟩:=List.mem_map.1 hK
   rcases List.mem_cons.1 ht with rfl|ht
   ·exact hy
   ·exact hk j hj t ht
  ·exact kJ a ks hy hk K hK t ht
 |.grp y a n,ks,hy,hk,K,hK,t,ht=>by
  rw[unY]at hK
  have hb:∀k∈ks.map (.gend n:: ·),∀t∈k,TkG g t.er:=fun k hk' t ht=>by
   obtain⟨j,hj,rfl⟩:=List.mem_map.1 hk'
   rcases List.mem_cons.1 ht with rfl|ht
   ·exact⟨hy.1,hy.2.1⟩
   ·exact hk j hj t ht
  rcases List.mem_append.1 hK with hK|hK
  ·obtain⟨j,hj,rfl⟩:=List.mem_map.1 hK
   rcases List.mem_cons.1 ht with rfl|ht
   ·exact hy
   ·exact hk j hj t ht
  ·rcases List.mem_append.1 hK with hK|hK
   ·exact hb K hK t ht
   ·exact kJ a _ hy.2.2 hb K hK t ht
theorem kh {p:Pt} {s:RS} (h:aX t= .ok p s):s.g<=5:=by
 unfold aX at h
 obtain⟨_,s0,h0,h⟩:=bind_ok h
 obtain⟨q,s1,h1,h⟩:=bind_ok h
 have hg:s0.g<=5:=by
  unfold dB at h0
  split at h0
  ·obtain⟨_,s9,h9,h8⟩:=bind_ok h0
   cases h8
   unfold aw at h9
   split at h9
   ·cases h9;exact Nat.zero_le _
   ·cases h9
  ·cases h0;exact Nat.zero_le _
 have h9:=(g8 t 7 _ _ _ h1 hg).2.2.2
 split at h
 ·cases h;exact h9
 ·cases h
theorem rE (s:ByteArray):∀f a,a<=s.size ->(b8 s f a).length<=s.size-a
 |0,a,_=>Nat.zero_le _
 |f+1,a,h=>by
  rw[b8]
  by_cases ha:a<s.size
  ·rw[if_pos ha]
   have h1:=pC s a
   have h2:=pB s a ha
   have:=rE s f (a+rzN s a) h2
   simp only[List.length_cons]
   omega
  ·rw[if_neg ha];exact Nat.zero_le _
theorem oI (s:ByteArray) (f a:Nat) (h:s.size-a<=f) (ha:a<=s.size):eY (b8 s f a) s.size 0=a:=by
 unfold eY
 cases f with
 |zero=>rw[b8];show s.size=a;omega
 |succ f=>
  rw[b8]
  by_cases h9:a<s.size
  ·rw[if_pos h9];rfl
  ·rw[if_neg h9];show s.size=a;omega
theorem pA (s:ByteArray):∀f a,s.size-a<=f ->a<=s.size ->∀(i:Nat) x,(b8 s f a)[i]? =some x ->x.2.1+x.2.2=eY (b8 s f a) s.size (i+1)/\x.1<=128
 |0,a,_,_,i,x,hx=>by rw[b8]at hx;simp at hx
 |f+1,a,hf,ha,i,x,hx=>by
  have hd:=oI s f
  rw[b8]at hx ⊢
  by_cases h9:a<s.size
  ·rw[if_pos h9]at hx ⊢
   have h1:=pC s a
   have h2:=pB s a h9
   cases i with
   |zero=>
    have hx:(rcN s a,a,rzN s a)=x:=by simpa using hx
    subst hx
    refine⟨?_,?_⟩
    ·show a+rzN s a=eY (b8 s f (a+rzN s a)) s.size 0
     rw[hd _ (by omega) h2]
    ·show rcN s a<=128
     unfold rcN
     split<;>omega
   |succ i=>
    exact pA s f (a+rzN s a) (by omega) h2 i x (by simpa using hx)
  ·rw[if_neg h9]at hx;simp at hx
theorem SK.mk2 {w:World} {S b:Nat} {s:ByteArray} {q:Pt} {st:RS} {Y:Yp} {lv pv ov:Value} (hS:w.heap.size<=S) (hz:s.size<=1048576) (ht:t.size<=60) (hr:aX t= .ok q st) (hY:YT w b Y) (he:Y.er=den q):
  SK ⟨w,S,b,w.heap.size,oY Y,b8 s s.size 0,s.size,st.g,lv,pv,ov⟩:=by
 have hb:=pz ht hr
 refine⟨rfl,hS,kK Y [[]] hY (fun k hk t ht=> ?_),p9 Y,fun K hK t ht=> ?_,?_,?_,fun i x hx=>(pA s s.size 0 (by omega) (Nat.zero_le _) i x hx).1,fun i x hx=>(pA s s.size 0 (by omega) (Nat.zero_le _) i x hx).2,kh hr⟩
 ·rw[List.mem_singleton]at hk;subst hk;cases ht
 ·obtain⟨u,hu,rfl⟩:=List.mem_map.1 ht
  exact kJ Y [[]] (by rw[he];exact hb.2) (fun k hk t ht=>by rw[List.mem_singleton]at hk;subst hk;cases ht) K hK u hu
 ·show (oY Y).length<=_
  rw[vH,he]
  exact hb.1
 ·have:=rE s s.size 0 (Nat.zero_le _)
  show (b8 s s.size 0).length<=_
  omega
def PlC (E:Nat):Nat ->List (Nat×Nat) ->Prop
 |pl,[]=>pl<=E
 |pl,x::l=>pl<=x.2/\PlC E x.2 l
def MkC (E:Nat):Nat ->Mk ->Prop
 |pl,[]=>pl<=E
 |pl,y::m=>pl<=y.2/\MkC E y.2 m
theorem MkC.lower {pl pl':Nat} {m:Mk} (h:MkC E pl m) (hp:pl'<=pl):MkC E pl' m:=by
 cases m with
 |nil=>exact Nat.le_trans hp h
 |cons y m=>exact⟨Nat.le_trans hp h.1,h.2⟩
theorem zw (l:List (Nat×Nat)) (pl:Nat) (k:List Tk):∀ms,ev l pl k=some ms ->PlC E pl l ->MkC E pl ms:=by
 induction l,pl,k using ev.induct
 all_goals intro ms h hp
 all_goals first
  |(rename_i hl;rw[em,if_pos hl]at h;cases h;have hl2:=List.isEmpty_iff.1 hl;subst hl2;exact hp)
  |(rw[em,if_neg (by assumption)]at h;cases h)
  |(rw[eC]at h;obtain⟨m,h1,rfl⟩:=Option.map_eq_some_iff.1 h;next ih=>exact⟨Nat.le_refl _,ih _ h1 hp⟩)
  |(rw[dJ]at h;cases h)
  |(rw[eP]at h;next ih1 ih2=>exact (cA h).elim (fun h=>ih1 _ h hp) (fun h=>ih2 _ h hp))
  |(rw[gc]at h;next ih=>exact ih _ h hp)
  |(rw[gj]at h;cases h)
  |(rename_i hc ih;rw[fB,if_pos hc]at h;exact (ih _ h hp.2).lower hp.1)
  |(rw[fB]at h;split at h;(·next hc ih=>exact (ih _ h hp.2).lower hp.1);(·cases h))
  |(rw[fB]at h;split at h;(·contradiction);(·cases h))
  |(rw[f0]at h;next ih=>exact ih _ h hp)
  |(rw[fA]at h;next ih1 ih2=>exact (py h).elim (fun h=>ih1 _ h hp) (fun h=>ih2 _ h hp))
  |(rw[ed]at h;next ih1 ih2=>exact (cA h).elim (fun h=>ih1 _ h hp) (fun h=>ih2 _ h hp))
  |(rw[gh]at h;next ih1 ih2=>exact (cA h).elim (fun h=>ih1 _ h hp) (fun h=>ih2 _ h hp))
  |(rw[gd]at h;obtain⟨m,h1,rfl⟩:=Option.map_eq_some_iff.1 h;next ih=>exact⟨Nat.le_refl _,ih _ h1 hp⟩)
def SpO (E:Int) (y:Int×Int):Prop:=y.1<0\/(0<=y.1/\y.1<=y.2/\y.2<=E)
theorem SpO.up {E E':Int} {y:Int×Int} (h:SpO E y) (he:E<=E'):SpO E' y:=by unfold SpO at h ⊢;omega
theorem oZ:∀(ms:Mk) (sp:List (Int×Int)) (op:List Int) (pl:Nat),MkC E pl ms ->(∀y∈sp,SpO (pl:Int) y) ->(∀z∈op,0<=z/\z<=(pl:Int)) ->∀y∈(fE sp op ms).1,SpO (E:Int) y
 |[],sp,op,pl,hm,hs,ho,y,hy=>(hs y hy).up (by have:pl<=E:=hm;omega)
 |x::ms,sp,op,pl,hm,hs,ho,y,hy=>by
  have h1:=hm.1
  rw[fE]at hy
  split at hy
  ·refine oZ ms sp _ x.2 hm.2 (fun y hy=>(hs y hy).up (by omega)) (fun z hz=> ?_) y hy
   rcases List.mem_or_eq_of_mem_set hz with hz|rfl
   ·have:=ho z hz;omega
   ·omega
  ·refine oZ ms _ op x.2 hm.2 (fun y hy=> ?_) (fun z hz=>by have:=ho z hz;omega) y hy
   rcases List.mem_or_eq_of_mem_set hy with hy|rfl
   ·exact (hs y hy).up (by omega)
   ·have:0<=op.getD (x.1/2+1) 0/\op.getD (x.1/2+1) 0<=(pl:Int):=by
     rw[List.getD_eq_getElem?_getD]
     cases hq:op[x.1/2+1]? with
     |none=>simp
     |some z=>exact ho z (List.mem_of_getElem? hq)
    exact .inr ⟨this.1,by dsimp only;omega,by dsimp only;omega⟩
theorem rF (s:ByteArray):∀f a,a<=s.size ->PlC s.size a (lR (b8 s f a))
 |0,a,h=>h
 |f+1,a,h=>by
  rw[b8]
  by_cases ha:a<s.size
  ·rw[if_pos ha]
   have h2:=pB s a ha
   exact⟨by show a<=a+rzN s a;omega,rF s f (a+rzN s a) h2⟩
  ·rw[if_neg ha];exact h
theorem rL (ht:t.size<=60) {q:Pt} {st:RS} (hr:aX t= .ok q st) (s:ByteArray) {ms:Mk} (h:ev (lR (b8 s s.size 0)) 0 [.ex (den q)]=some ms):∀y∈bv (s.size:Int) (app bh ms) st.g,y.1<0\/(0<=y.1/\y.1<=y.2/\y.2<=(s.size:Int)):=by
 rw[<-rM (kh hr) (pz ht hr).2 h]
 intro y hy
 have hm:=zw _ _ _ _ h (rF s s.size 0 (Nat.zero_le _))
 rcases List.mem_or_eq_of_mem_set hy with hy|rfl
 ·refine oZ ms _ _ 0 hm (fun y hy=> ?_) (fun z hz=> ?_) y hy
  ·rw[List.mem_replicate]at hy;rw[hy.2];exact .inl (by decide)
  ·rw[List.mem_replicate]at hz;rw[hz.2];omega
 ·exact .inr ⟨by omega,by dsimp only;omega,by dsimp only;omega⟩
theorem xW (a b k:Nat):(a^^^b)%2^(k+1)=(a^^^b)%2^k+(if a/2^k%2=b/2^k%2 then 0 else 2^k):=by
 rw[Nat.mod_pow_succ,Nat.xor_div_two_pow]
 have h:= @Nat.xor_mod_two_pow (a/2^k) (b/2^k) 1
 rw[Nat.pow_one]at h
 rw[h]
 have h1:a/2^k%2=0\/a/2^k%2=1:=by omega
 have h2:b/2^k%2=0\/b/2^k%2=1:=by omega
 rcases h1 with h1|h1<;>rcases h2 with h2|h2<;>rw[h1,h2]<;>simp
theorem zc (a b:Nat) (hb:b<256):a-a%256+(a^^^b)%256=a^^^b:=by
 have h:= @Nat.xor_div_two_pow a b 8
 rw[show (2:Nat)^8=256 from rfl,show b/256=0 by omega,Nat.xor_zero]at h
 omega
theorem xV (hi lo b:Nat) (hl:lo<4294967296) (hb:b<256):(hi*4294967296+lo)^^^b=hi*4294967296+(lo^^^b):=by
 have h1:= @Nat.xor_div_two_pow (hi*4294967296+lo) b 32
 have h2:= @Nat.xor_mod_two_pow (hi*4294967296+lo) b 32
 rw[show (2:Nat)^32=4294967296 from rfl]at h1 h2
 rw[show b/4294967296=0 by omega,Nat.xor_zero,show (hi*4294967296+lo)/4294967296=hi by omega]at h1
 rw[show b%4294967296=b by omega,show (hi*4294967296+lo)%4294967296=lo by omega]at h2
 omega
theorem qO (hi lo:Nat) (b:UInt8) (hl:lo<4294967296) (hh:hi<4294967296):
  eS ((hi*4294967296+lo:Nat):Int) b=(((hi*435+(lo^^^b.toNat)*256+(lo^^^b.toNat)*435/4294967296)%4294967296*4294967296+(lo^^^b.toNat)*435%4294967296:Nat):Int):=by
 have hb:b.toNat<256:=UInt8.toNat_lt b
 have hx:lo^^^b.toNat<4294967296:=Nat.xor_lt_two_pow (n:=32) hl (by omega)
 unfold eS
 rw[show IntKind.u64.wrap (b.toNat:Int)=((b.toNat:Nat):Int) by rw[IntKind.wrap_u64];omega,bits_xor_u64_nat _ _ (by omega) (by omega),xV _ _ _ hl hb,IntKind.wrap_u64]
 generalize lo^^^b.toNat=x at hx
 omega
theorem yO (s:ByteArray) (w:World) (hs:s.size<=9223372036854775807):
  Calls Tryz.prog 15 #[.string s] w fun e w'=>e= .returned (.int .u64 (lQ s))/\Ex [] w w':=by
 obtain⟨R,hR⟩:=exq (lQ s)
 rw[<-hR]
 have HR:=aa hR
 clear hR
 obtain⟨n,hn⟩:=exq (s.size)
 go_enter Tryz.func15,Tryz.ntmps15
 go_wp2_with fail
 go_loopg [3,4,5] n (fun gk lo hi i wr=>∃(j l h:Nat),j+gk=n/\i= .int .i64 j/\lo= .int .i64 l/\hi= .int .i64 h/\l<4294967296/\h<4294967296/\((h*4294967296+l:Nat):Int)=(s.data.toList.take j).foldl eS 14695981039346656037/\Ex [] w wr)
 case atStart=>exact⟨0,2216829733,3421674724,by omega,rfl,rfl,rfl,by omega,by omega,rfl,Ex.refl _ _⟩
 case round=>
  obtain⟨j,l,h,hj,rfl,rfl,rfl,hl,hh,hx,hxx⟩:=hrel
  have HX:=aa hx
  have HXX:=aa hxx
  clear hx hxx
  cases gk with
  |zero=>
   have hr:R=((h*4294967296+l:Nat):Int):=by rw[HR.O,HX.O,List.take_of_length_le (by rw[aF];omega)];rfl
   have h1:¬((j:Int)<(s.size:Int)):=by omega
   have HRR:=aa hr
   clear hr
   go_wp2_with fail
   go_ret
   refine⟨?_,HXX.O⟩
   rw[HRR.O]
   simp only[IntKind.wrap_u64,IntKind.wrap_i64]
   congr 1
  |succ g=>
   have hjl:j<s.size:=by omega
   have h1:(j:Int)<(s.size:Int):=by omega
   have hst:=iP eS 14695981039346656037 s.data.toList j _ (cy hjl)
   rw[<-HX.O,qO h l _ hl hh]at hst
   have hb:(s[j]'hjl).toNat<256:=UInt8.toNat_lt _
   obtain⟨b,hbb⟩:=exq ((s[j]'hjl).toNat)
   rw[<-hbb]at hst hb
   have HST:=aa hst
   have HB:=aa hbb
   clear hst hbb
   go_wp2_with fail
   rw[<-HB.O,show wrap64 (b:Int)=(b:Int) by unfold wrap64;omega]
   go_loopg [7,8] 8 (fun gk m p wq=>∃k:Nat,k+gk=8/\p= .int .i64 ((2^k:Nat):Int)/\m= .int .i64 (((l^^^b)%2^k:Nat):Int)/\Ex [] w wq)
   case atStart=>exact⟨0,rfl,rfl,by simp[Nat.mod_one],HXX.O⟩
   case round=>
    obtain⟨k,hk,rfl,rfl,hxq⟩:=hrel
    have HXQ:=aa hxq
    clear hxq
    obtain⟨P,hP⟩:=exq (2^k)
    have hxs:=xW l b k
    rw[Nat.pow_succ]at hxs
    rw[<-hP]at hxs ⊢
    have hP1:1<=P:=by rw[hP];exact Nat.one_le_two_pow
    obtain⟨M,hM⟩:=exq ((l^^^b)%P)
    have hMP:M<P:=by rw[hM];exact Nat.mod_lt _ hP1
    rw[<-hM]at hxs ⊢
    have HM:=aa hM
    have HP:=aa hP
    have HXS:=aa hxs
    clear hM hP hxs
    cases gk with
    |zero=>
     obtain rfl:k=8:=by omega
     obtain rfl:P=256:=HP.O
     have hlow:=zc l b hb
     have hXl:l^^^b<4294967296:=Nat.xor_lt_two_pow (n:=32) hl (by omega)
     rw[<-HM.O]at hlow
     obtain⟨X,hX⟩:=exq (l^^^b)
     rw[<-hX]at hlow hXl HST
     have hlo2:(l:Int)-(l:Int)%256+(M:Int)=(X:Int):=by omega
     clear hX hP1 HXS HM HP
     go_wp2_with fail
     go_roundg g
     case measure=>omega
     case rel=>
      refine⟨j+1,X*435%4294967296,(h*435+X*256+X*435/4294967296)%4294967296,by omega,by simp,by simp,by simp,by omega,by omega,?_,HXQ.O⟩
      rw[HST.O]
    |succ g2=>
     have hP2:P<256:=by
      rw[HP.O,show (256:Nat)=2^8 from rfl];exact Nat.pow_lt_pow_right (by omega) (by omega)
     have hPz:¬(P:Int)=0:=by omega
     have hPi:(P:Int)<256:=by omega
     have hk1:2^(k+1)=P*2:=by rw[Nat.pow_succ,<-HP.O]
     have HK:=aa hk1
     clear hk1
     have he:∀a:Nat,a<4294967296 ->(wrap64 ((a:Int)/(P:Int))).tmod 2=((a/P%2:Nat):Int):=fun a ha=>by
      have h1:a/P<=a:=Nat.div_le_self _ _
      have h2:(a:Int)/(P:Int)=((a/P:Nat):Int):=by simp
      rw[h2]
      clear h2
      generalize a/P=d at h1 ⊢
      rw[show wrap64 (d:Int)=(d:Int) by unfold wrap64;omega]
      rfl
     have e1:=he l hl
     have e2:=he b (by omega)
     have HE1:=aa e1
     have HE2:=aa e2
     clear he e1 e2
     go_wp2_with fail
     go_quiet (fail)
     rw[HE1.O,HE2.O]
     obtain⟨B,hB⟩:=exq ((((l/P%2:Nat):Int) !=((b/P%2:Nat):Int)))
     rw[<-hB]
     have HBB:=aa hB
     clear hB HE1 HE2
     cases B with
     |false=>
      have hc:l/P%2=b/P%2:=by have:=HBB.O;simp only[Bool.false_eq,bne_eq_false_iff_eq]at this;omega
      have hm:(l^^^b)%2^(k+1)=M:=by rw[Nat.pow_succ,<-HP.O,HXS.O,if_pos hc,Nat.add_zero]
      have HMM:=aa hm
      clear hc hm
      go_wp2_with fail
      go_roundg g2
      case measure=>omega
      case rel=>exact⟨k+1,by omega,by rw[HK.O];congr 1;omega,by rw[HMM.O],HXQ.O.drewN _⟩
     |true=>
      have hc:¬l/P%2=b/P%2:=by have:=HBB.O;simp only[Bool.true_eq,bne_iff_ne,ne_eq]at this;omega
      have hm:(l^^^b)%2^(k+1)=M+P:=by rw[Nat.pow_succ,<-HP.O,HXS.O,if_neg hc]
      have HMM:=aa hm
      clear hc hm
      go_wp2_with fail
      go_roundg g2
      case measure=>omega
      case rel=>exact⟨k+1,by omega,by rw[HK.O];congr 1;omega,by rw[HMM.O];simp,HXQ.O.drewN _⟩
end Go.Proofs.YtfnanjbleifjkaaGreatDoor.G
