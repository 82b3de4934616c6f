import Derived.Test.YtfnanjbleifjkaaGreatDoorM19
set_option linter.unusedVariables false
set_option linter.unusedSimpArgs false
set_option maxHeartbeats 4000000
set_option maxRecDepth 100000
namespace Go.Proofs.YtfnanjbleifjkaaGreatDoor.G
variable {s:ByteArray} {w w':World}
open Go.RowKit
def bP (s:ByteArray):Int:=if 0<=Lib.indexByte s.data.toList 36 then Lib.indexByte s.data.toList 36 else s.size
theorem nf (s:ByteArray) (w:World) (hs:s.size<=9223372036854775807):
  Calls Tryz.prog 100 #[.string s] w fun e w'=>e= .returned (.int .i64 (bP s))/\w'=w:=by
 obtain⟨P,hP⟩:=exq (Lib.indexByte s.data.toList 36)
 have KI:=aa (fun w'=>Tryz.strings_IndexByte s 36 w')
 have e36:(36:Int).toNat.toUInt8=36:=rfl
 rw[e36,<-hP]at KI
 unfold bP
 rw[<-hP]
 clear hP e36
 by_cases h0:0<=P
 ·rw[if_pos h0]
  go_enter Tryz.func100,Tryz.ntmps100
  go_wp2_with (go_at_call 144;refine (KI.O _).mono ?_;rintro e w' ⟨rfl,rfl⟩)
  go_ret
  exact⟨rfl,rfl⟩
 ·rw[if_neg h0]
  go_enter Tryz.func100,Tryz.ntmps100
  go_wp2_with (go_at_call 144;refine (KI.O _).mono ?_;rintro e w' ⟨rfl,rfl⟩)
  go_ret
  exact⟨rfl,rfl⟩
def bZ (s:ByteArray):Nat:=if Lib.hasPrefix s.data.toList [123]&&Lib.hasPrefix (s.extract (1+cj (s.extract 1 s.size)) s.size).data.toList [125]then cj (s.extract 1 s.size)else 0
theorem mx {a:UInt8} (h:Lib.hasPrefix s.data.toList [a]=true):1<=s.size:=by
 rcases Nat.eq_zero_or_pos s.size with h0|h0
 ·exfalso
  rw[<-aF]at h0
  rw[List.length_eq_zero_iff.1 h0]at h
  simp[Lib.hasPrefix]at h
 ·exact h0
theorem bC (s:ByteArray) (a:Nat):(s.extract a s.size).size=s.size-a:=by simp
theorem lA (s:ByteArray) (w:World) (hs:s.size<=9223372036854775807):
  Calls Tryz.prog 104 #[.string s] w fun e w'=>e= .returned (.int .i64 (bZ s))/\w'=w:=by
 have KH:=aa (fun w'=>Tryz.strings_HasPrefix s ⟨#[123]⟩ w')
 obtain⟨b,hb⟩:=exq (Lib.hasPrefix s.data.toList [123])
 rw[show Lib.hasPrefix s.data.toList (⟨#[123]⟩:ByteArray).data.toList=b from hb.symm]at KH
 obtain⟨N,hN⟩:=exq (bZ s)
 rw[<-hN]
 have HN:=aa hN
 have HB:=aa hb
 clear hN hb
 cases b with
 |false=>
  have hr:N=0:=by rw[HN.O];unfold bZ;rw[<-HB.O];rfl
  subst hr
  go_enter Tryz.func104,Tryz.ntmps104
  go_wp2_with (go_at_call 101;refine (KH.O _).mono ?_;rintro e w' ⟨rfl,rfl⟩)
  go_ret
  exact⟨rfl,rfl⟩
 |true=>
  have h1:1<=s.size:=mx HB.O.symm
  have h2:(1:Int)<=(s.size:Int):=by omega
  have hz:=bC s 1
  obtain⟨u,hu⟩:=exq (s.extract 1 s.size)
  rw[<-hu]at hz
  have KR:=aa (fun w'=>kG u w' (by omega))
  have hle:=eF u
  obtain⟨n,hn⟩:=exq (cj u)
  rw[<-hn]at KR hle
  have h3:1+n<=s.size:=by omega
  have h4:(1:Int)+(n:Int)<=(s.size:Int):=by omega
  have KT:=aa (fun w'=>Tryz.strings_HasPrefix (s.extract (1+n) s.size) ⟨#[125]⟩ w')
  obtain⟨q,hq⟩:=exq (Lib.hasPrefix (s.extract (1+n) s.size).data.toList [125])
  rw[show Lib.hasPrefix (s.extract (1+n) s.size).data.toList (⟨#[125]⟩:ByteArray).data.toList=q from hq.symm]at KT
  have hr:N=if q then n else 0:=by rw[HN.O,hq,hn,hu];unfold bZ;rw[<-HB.O,Bool.true_and]
  have HR:=aa hr
  rw[hu]at KR
  clear hu hn hq hr hz hle
  cases q with
  |false=>
   obtain rfl:N=0:=by rw[HR.O];rfl
   go_enter Tryz.func104,Tryz.ntmps104
   go_wp2_with fail
   refine (KH.O _).mono ?_
   rintro e w' ⟨rfl,rfl⟩
   go_wp2_with fail
   refine (KR.O _).mono ?_
   rintro e w' ⟨rfl,rfl⟩
   go_wp2_with fail
   refine (KT.O _).mono ?_
   rintro e w' ⟨rfl,rfl⟩
   go_wp2_with fail
   go_ret
   exact⟨rfl,rfl⟩
  |true=>
   obtain rfl:N=n:=by rw[HR.O];rfl
   go_enter Tryz.func104,Tryz.ntmps104
   go_wp2_with fail
   refine (KH.O _).mono ?_
   rintro e w' ⟨rfl,rfl⟩
   go_wp2_with fail
   refine (KR.O _).mono ?_
   rintro e w' ⟨rfl,rfl⟩
   go_wp2_with fail
   refine (KT.O _).mono ?_
   rintro e w' ⟨rfl,rfl⟩
   go_wp2_with fail
   go_ret
   exact⟨rfl,rfl⟩
def gnB (s:ByteArray):Bool:=decide (s.size<=3)&&s.data.toList.all (fun b=>cz (b.toNat:Int))
def gnN (s:ByteArray):Int:=(Lib.atoi s.data.toList).getD 0
theorem ji:∀(l:List UInt8) (acc:Nat),l.all (fun b=>cz (b.toNat:Int))=true ->∃n,Lib.decFrom acc l=some n
 |[],acc,_=>⟨acc,rfl⟩
 |b::r,acc,h=>by
  rw[List.all_cons,Bool.and_eq_true]at h
  have hb:48<=b.toNat/\b.toNat<=57:=by
   have:=h.1
   simp[cz]at this
   omega
  obtain⟨n,hn⟩:=ji r (acc*10+(b.toNat-48)) h.2
  refine⟨n,?_⟩
  unfold Lib.decFrom Lib.digitVal
  rw[if_pos hb]
  exact hn
theorem jL (l:List UInt8) (h0:l≠[]) (h:l.all (fun b=>cz (b.toNat:Int))=true):∃n:Nat,Lib.decFrom 0 l=some n/\Lib.atoi l=some (n:Int):=by
 obtain⟨n,hn⟩:=ji l 0 h
 refine⟨n,hn,?_⟩
 cases l with
 |nil=>exact absurd rfl h0
 |cons b r=>
  rw[List.all_cons,Bool.and_eq_true]at h
  have hb:48<=b.toNat/\b.toNat<=57:=by
   have:=h.1
   simp[cz]at this
   omega
  have h1:(b==45)=false:=beq_eq_false_iff_ne.2 (by rintro rfl;revert hb;decide)
  have h2:(b==43)=false:=beq_eq_false_iff_ne.2 (by rintro rfl;revert hb;decide)
  simp[Lib.atoi,h1,h2,Lib.decNat,hn]
theorem iA:∀(l:List UInt8) (acc n:Nat),Lib.decFrom acc l=some n ->n<(acc+1)*10^l.length
 |[],acc,n,h=>by simp[Lib.decFrom]at h;simp;omega
 |b::r,acc,n,h=>by
  unfold Lib.decFrom at h
  cases hd:Lib.digitVal b with
  |none=>rw[hd]at h;cases h
  |some d=>
   rw[hd]at h
   have h1:=iA r _ n h
   have h2:d<=9:=by
    unfold Lib.digitVal at hd
    by_cases hb:48<=b.toNat/\b.toNat<=57
    ·rw[if_pos hb]at hd;cases hd;omega
    ·rw[if_neg hb]at hd;cases hd
   refine Nat.lt_of_lt_of_le h1 ?_
   rw[List.length_cons,Nat.pow_succ,Nat.mul_comm (10^r.length) 10,<-Nat.mul_assoc]
   exact Nat.mul_le_mul_right _ (by omega)
theorem mW (w:World) (e:TypeId) (t:ByteArray):Ex [] w (Lib.bytesWorld w e t):=by
 exact⟨rfl,rfl,rfl,by rw[Lib.bytesWorld_size];omega,fun k hk _=>Lib.bytesWorld_at_old w e t k hk⟩
theorem vS (h:∀i (h:i<s.size),i<s.size ->cz ((s[i]'h).toNat:Int)=true):s.data.toList.all (fun b=>cz (b.toNat:Int))=true:=by
 rw[List.all_eq_true]
 intro b hb
 obtain⟨i,hi,rfl⟩:=List.getElem_of_mem hb
 have hi':i<s.size:=by rw[<-aF];exact hi
 have e:=cy hi'
 rw[List.getElem?_eq_getElem hi]at e
 rw[Option.some.inj e];exact h i hi' hi'
theorem vT {j:Nat} (hj:j<s.size) (h:cz ((s[j]'hj).toNat:Int)=false):s.data.toList.all (fun b=>cz (b.toNat:Int))=false:=by
 rw[List.all_eq_false]
 exact⟨s[j]'hj,List.mem_of_getElem? (cy hj),by simpa using h⟩
theorem kN (s:ByteArray) (w:World) (h1:1<=s.size) (hs:s.size<=9223372036854775807):
  Calls Tryz.prog 147 #[.string s] w fun e w'=>e= .returned (.tuple #[.int .i64 (if gnB s then gnN s else 0),.bool (gnB s)])/\Ex [] w w':=by
 obtain⟨G,hG⟩:=exq (gnB s)
 obtain⟨N,hN⟩:=exq (if G then gnN s else 0)
 rw[<-hG,<-hN]
 have HG:=aa hG
 have HN:=aa hN
 clear hG hN
 by_cases h3:3<s.size
 ·obtain rfl:G=false:=by rw[HG.O];unfold gnB;rw[decide_eq_false (by omega),Bool.false_and]
  obtain rfl:N=0:=HN.O
  go_enter Tryz.func147,Tryz.ntmps147
  go_wp2_with fail
  go_ret2
  exact⟨rfl,Ex.refl _ _⟩
 ·have H3:=aa h3
  obtain⟨n,hn⟩:=exq (s.size)
  go_enter Tryz.func147,Tryz.ntmps147
  go_wp2_with fail
  go_loopg [12] n (fun gk i wr=>∃j:Nat,j+gk=n/\i= .int .i64 j/\(∀i (h:i<s.size),i<j ->cz ((s[i]'h).toNat:Int)=true)/\wr=w)
  case atStart=>exact⟨0,by omega,rfl,fun i h hi=>by omega,rfl⟩
  case round=>
   obtain⟨j,hj,rfl,hw,rfl⟩:=hrel
   have HW:=aa hw
   clear hw
   cases gk with
   |zero=>
    obtain rfl:j=s.size:=by omega
    have hall:=vS HW.O
    obtain rfl:G=true:=by rw[HG.O];unfold gnB;rw[hall];simp;have:=H3.O;omega
    obtain⟨m,_,hm⟩:=jL s.data.toList (by intro h;have:=aF s;rw[h]at this;simp at this;omega) hall
    obtain rfl:N=(m:Int):=by rw[HN.O];unfold gnN;rw[hm];rfl
    have KA:=aa (fun w'=>Tryz.strconv_Atoi s m (by have:=H3.O;omega) hm w')
    clear hj hm hall
    go_wp2_with fail
    refine (KA.O _).mono ?_
    rintro e w1 ⟨rfl,t,rfl⟩
    have HX:=aa (mW wr 5 t)
    generalize Lib.bytesWorld wr 5 t=W at HX ⊢
    go_wp2_with fail
    go_quiet (fail)
    go_wp2_with fail
    go_ret2
    exact⟨rfl,by first|exact HX.O.drewN _|exact HX.O|exact HX.O.drew⟩
   |succ g=>
    have hjl:j<s.size:=by omega
    have h4:(j:Int)<(s.size:Int):=by omega
    have hstep:cz ((s[j]'hjl).toNat:Int)=true ->∀i (h:i<s.size),i<j+1 ->cz ((s[i]'h).toNat:Int)=true:=fun hb i hi hlt=>by
     by_cases hij:i=j
     ·subst hij;exact hb
     ·exact HW.O i hi (by omega)
    have HS:=aa hstep
    obtain⟨x,hx⟩:∃x:Int,x=((s[j]'hjl).toNat:Int):=⟨_,rfl⟩
    have HX:=aa hx
    clear hstep hx
    go_wp2_with fail
    refine (mR _ _).mono ?_
    rintro e w' ⟨rfl,rfl⟩
    rw[<-show x=((s[j]'hjl).toNat:Int)from HX.O]
    cases hl:cz x with
    |true=>
     have HL:=aa hl
     clear hl
     go_wp2_with fail
     go_roundg g
     case measure=>omega
     case rel=>exact⟨j+1,by omega,by simp,HS.O (by rw[<-HX.O];exact HL.O),rfl⟩
    |false=>
     have HL:=aa hl
     clear hl
     obtain rfl:G=false:=by
      rw[HG.O];unfold gnB
      rw[vT hjl (by rw[<-HX.O];exact HL.O),Bool.and_false]
     obtain rfl:N=0:=HN.O
     go_wp2_with fail
     go_ret2
     exact⟨rfl,Ex.refl _ _⟩
def bH (s:ByteArray) (l:List (Int×Int)) (nm:List (ByteArray×Nat)) (n:ByteArray):ByteArray:=if gnB n then dV s l (gnN n)else rj s l nm n
theorem oa (n:ByteArray) (h1:1<=n.size) (h:gnB n=true):0<=gnN n/\gnN n<=1000:=by
 unfold gnB at h
 rw[Bool.and_eq_true]at h
 obtain⟨m,hk,hm⟩:=jL n.data.toList (by intro h;have:=aF n;rw[h]at this;simp at this;omega) h.2
 have hl:n.data.toList.length<=3:=by rw[aF];simpa using h.1
 have h2:=iA _ _ _ hk
 have h3:10^n.data.toList.length<=10^3:=Nat.pow_le_pow_right (by omega) hl
 have hb:m<1000:=by omega
 unfold gnN
 rw[hm]
 simp
 omega
theorem nr (s:ByteArray) (mb g c:Nat) (l:List (Int×Int)) (nm:List (ByteArray×Nat)) (n:ByteArray) (w:World) (hm:BK w mb (.map (nmE nm) nm.length)) (hnk:∀x∈nm,x.1.size<=60) (hu:∀x∈nm,∀y∈nm,x.1=y.1 ->x.2=y.2) (hnv:∀x∈nm,x.2<=1000) (h1:1<=n.size) (hn:n.size<=1048576) (hgl:g<w.heap.size) (hcell:∀j u,(bL l)[j]? =some u ->w.cell? ⟨g,j,none⟩=some u) (hl:l.length<=1000) (hs:s.size<=9223372036854775807)
  (hok:∀y∈l,y.1<0\/(0<=y.1/\y.1<=y.2/\y.2<=s.size)):
  Calls Tryz.prog 103 #[.string n,.agg #[.string s,.slice (some ⟨g,0,none⟩) l.length c,.map (some mb)]] w fun e w'=>e= .returned (.string (bH s l nm n))/\Ex [] w w':=by
 obtain⟨R,hR⟩:=exq (bH s l nm n)
 rw[<-hR]
 have HR:=aa hR
 have hxW:Ex [] w (w.alloc (Obj.cells #[.string s,.slice (some ⟨g,0,none⟩) l.length c,.map (some mb)] 56)):=(Ex.refl _ _).alloc _
 have hbW:BK (w.alloc (Obj.cells #[.string s,.slice (some ⟨g,0,none⟩) l.length c,.map (some mb)] 56)) w.heap.size (.cells #[.string s,.slice (some ⟨g,0,none⟩) l.length c,.map (some mb)] 56 (0,0)):=BK.new _ _
 have KG:=aa (fun W=>kN n W h1 (by omega))
 have KN:=aa (fun (W':World) (hx:Ex [] w W')=>so s mb g c l nm n W' (hm.ex hx (by simp)) hnk hu hnv hn (Nat.lt_of_lt_of_le hgl hx.size) (fun j u hj=>(hx.cell0.1 g j hgl).trans (hcell j u hj)) hl hs hok)
 have KM:=aa (fun (W':World) (hx:Ex [] w W') (hg:gnB n=true)=>jr s mb g c l (gnN n) W' (Nat.lt_of_lt_of_le hgl hx.size) (fun j u hj=>(hx.cell0.1 g j hgl).trans (hcell j u hj)) hl hs ⟨by have:=oa n h1 hg;omega,by have:=oa n h1 hg;omega⟩ hok)
 have hr:R=if gnB n then dV s l (gnN n)else rj s l nm n:=hR
 obtain⟨B,hB⟩:=exq (gnB n)
 obtain⟨K,hK⟩:=exq (gnN n)
 obtain⟨V1,hV1⟩:=exq (dV s l K)
 obtain⟨V2,hV2⟩:=exq (rj s l nm n)
 obtain⟨m,hm2⟩:=exq (l.length)
 rw[<-hK]at KG KM hr
 rw[<-hB]at KG KM hr
 rw[<-hV1,<-hV2]at hr
 rw[<-hV1]at KM
 rw[<-hV2]at KN
 rw[<-hm2]at KM KN hbW hxW ⊢
 have HRR:=aa hr
 have HXW:=aa hxW
 have HBW:=aa hbW
 clear hm hnk hu hnv hcell hok hR hr hK hB hV1 hV2 hm2 hxW hbW
 go_enter Tryz.func103,Tryz.ntmps103
 go_wp2_with fail
 refine (KG.O _).mono ?_
 rintro e w1 ⟨rfl,hx1⟩
 have hb1:=HBW.O.ex hx1 (by simp)
 have HX1:=aa (HXW.O.trans hx1)
 have c1:=hb1.all.1 0
 have c2:=hb1.all.1 1
 have c3:=hb1.all.1 2
 clear hx1 hb1
 simp only[List.getElem?_toArray,List.getElem?_cons_zero,List.getElem?_cons_succ]at c1 c2 c3
 cases B with
 |true=>
  obtain rfl:R=V1:=by rw[HRR.O];rfl
  go_wp2_with fail
  refine (KM.O _ HX1.O (by simp)).mono ?_
  rintro e w2 ⟨rfl,hx2⟩
  have HX2:=aa (HX1.O.trans hx2)
  clear hx2
  go_wp2_with fail
  go_ret
  exact⟨rfl,HX2.O⟩
 |false=>
  obtain rfl:R=V2:=by rw[HRR.O];rfl
  go_wp2_with fail
  refine (KN.O _ HX1.O).mono ?_
  rintro e w2 ⟨rfl,hx2⟩
  have HX2:=aa (HX1.O.trans hx2)
  clear hx2
  go_wp2_with fail
  go_ret
  exact⟨rfl,HX2.O⟩
def bE (F:ByteArray ->ByteArray) (t:ByteArray):ByteArray×Nat:=
 if t.data.toList.headD 0≠36 then (t.extract 0 (bP t).toNat,(bP t).toNat)
 else if Lib.hasPrefix t.data.toList [36,36]then (⟨#[36]⟩,2)
 else if 0<cj (t.extract 1 t.size)then (F (t.extract 1 (1+cj (t.extract 1 t.size))),1+cj (t.extract 1 t.size))
 else if 0<bZ (t.extract 1 t.size)then (F (t.extract 2 (2+bZ (t.extract 1 t.size))),bZ (t.extract 1 t.size)+3)
 else (⟨#[36]⟩,1)
theorem lU (c:UInt8):∀(l:List UInt8),Lib.indexByte l c<=l.length
 |[]=>by simp[Lib.indexByte]
 |b::l=>by
  have:=lU c l
  unfold Lib.indexByte
  rw[List.length_cons]
  repeat' split
  all_goals omega
theorem oe (c:UInt8):∀(l:List UInt8),l.headD 0≠c ->Lib.indexByte l c≠0
 |[],h=>by simp[Lib.indexByte]
 |b::l,h=>by
  have h1:(b==c)=false:=beq_eq_false_iff_ne.2 (by simpa using h)
  have:=Lib.indexByte_ge l c
  unfold Lib.indexByte
  rw[h1]
  simp only[Bool.false_eq_true,if_false]
  split
  ·omega
  ·next h2=>
   have:Lib.indexByte l c≠ -1:=fun e=>h2 (by rw[e];rfl)
   omega
theorem ft (t:ByteArray) (h1:1<=t.size) (hh:t.data.toList.headD 0≠36):1<=bP t/\bP t<=t.size:=by
 have h2:=lU 36 t.data.toList
 have h3:=oe 36 t.data.toList hh
 rw[aF]at h2
 unfold bP
 split<;>omega
theorem nI (u:ByteArray) (h:0<bZ u):bZ u+2<=u.size:=by
 unfold bZ at h ⊢
 split at h
 ·next hc=>
  rw[if_pos hc]
  rw[Bool.and_eq_true]at hc
  have h2:=mx hc.2
  rw[G.size_extract u _ u.size (Nat.le_refl _)]at h2
  omega
 ·omega
structure FD (w:World) (s:ByteArray) (mb g:Nat) (l:List (Int×Int)) (nm:List (ByteArray×Nat)):Prop where
 mp:BK w mb (.map (nmE nm) nm.length)
 nk:∀x∈nm,x.1.size<=60
 nu:∀x∈nm,∀y∈nm,x.1=y.1 ->x.2=y.2
 nv:∀x∈nm,x.2<=1000
 gl:g<w.heap.size
 cell:∀j u,(bL l)[j]? =some u ->w.cell? ⟨g,j,none⟩=some u
 ll:l.length<=1000
 sl:s.size<=100000000
 ok:∀y∈l,y.1<0\/(0<=y.1/\y.1<=y.2/\y.2<=s.size)
theorem FD.ex {mb g:Nat} {l:List (Int×Int)} {nm:List (ByteArray×Nat)} (h:FD w s mb g l nm) (hx:Ex [] w w'):FD w' s mb g l nm:=
 ⟨h.mp.ex hx (by simp),h.nk,h.nu,h.nv,Nat.lt_of_lt_of_le h.gl hx.size,fun j u hj=>(hx.cell0.1 g j h.gl).trans (h.cell j u hj),h.ll,h.sl,h.ok⟩
theorem vp (s:ByteArray) (mb g c:Nat) (l:List (Int×Int)) (nm:List (ByteArray×Nat)) (n:ByteArray) (w:World) (h:FD w s mb g l nm) (h1:1<=n.size) (hn:n.size<=1048576):
  Calls Tryz.prog 103 #[.string n,.agg #[.string s,.slice (some ⟨g,0,none⟩) l.length c,.map (some mb)]] w fun e w'=>e= .returned (.string (bH s l nm n))/\Ex [] w w':=
 nr s mb g c l nm n w h.mp h.nk h.nu h.nv h1 hn h.gl h.cell h.ll (by have:=h.sl;omega) h.ok
theorem uO (s:ByteArray) (mb g c:Nat) (l:List (Int×Int)) (nm:List (ByteArray×Nat)) (t:ByteArray) (w:World) (hd:FD w s mb g l nm) (h1:1<=t.size) (ht:t.size<=1048576):
  Calls Tryz.prog 59 #[.string t,.agg #[.string s,.slice (some ⟨g,0,none⟩) l.length c,.map (some mb)]] w fun e w'=>e= .returned (.tuple #[.string (bE (bH s l nm) t).1,.int .i64 ((bE (bH s l nm) t).2:Nat)])/\Ex [] w w':=by
 have hp:0<t.size:=h1
 have hh:=uT hp
 obtain⟨R,hR⟩:=exq ((bE (bH s l nm) t).1)
 obtain⟨N,hN⟩:=exq ((bE (bH s l nm) t).2)
 rw[<-hR,<-hN]
 have KSS:=aa (fun (n:ByteArray) (W:World) (hx:Ex [] w W) (h1:1<=n.size) (hn:n.size<=1048576)=>vp s mb g c l nm n W (hd.ex hx) h1 hn)
 have hxW:Ex [] w (w.alloc (Obj.cells #[.string s,.slice (some ⟨g,0,none⟩) l.length c,.map (some mb)] 56)):=(Ex.refl _ _).alloc _
 have hbW:BK (w.alloc (Obj.cells #[.string s,.slice (some ⟨g,0,none⟩) l.length c,.map (some mb)] 56)) w.heap.size (.cells #[.string s,.slice (some ⟨g,0,none⟩) l.length c,.map (some mb)] 56 (0,0)):=BK.new _ _
 obtain⟨m,hm2⟩:=exq (l.length)
 rw[<-hm2]at KSS hbW hxW ⊢
 have HXW:=aa hxW
 have HBW:=aa hbW
 have HR:=aa hR
 have HN:=aa hN
 clear hm2 hxW hbW hR hN hd
 by_cases h36:((t[0]'hp).toNat:Int)=36
 rotate_left
 ·have hne:t.data.toList.headD 0≠36:=by rw[hh];intro e;apply h36;rw[e];rfl
  obtain⟨p1,p2⟩:=ft t h1 hne
  obtain⟨k,hk⟩:∃k:Nat,bP t=k:=⟨(bP t).toNat,by omega⟩
  have hr:R=t.extract 0 k:=by rw[HR.O];unfold bE;rw[if_pos hne,hk];rfl
  have hn:N=k:=by rw[HN.O];unfold bE;rw[if_pos hne,hk];rfl
  have KP:=aa (fun W=>nf t W (by omega))
  rw[hk]at KP p1 p2
  have HRR:=aa hr
  subst hn
  clear hr hk hh hne
  have hk2:N<=t.size:=by omega
  clear p1
  go_enter Tryz.func59,Tryz.ntmps59
  go_wp2_with fail
  refine (KP.O _).mono ?_
  rintro e w1 ⟨rfl,rfl⟩
  go_wp2_with fail
  go_ret2
  exact⟨by rw[HRR.O];rfl,HXW.O⟩
 have heq:¬t.data.toList.headD 0≠36:=by rw[hh];intro e;apply e;exact UInt8.toNat_inj.1 (by simpa using (show (t[0]'hp).toNat=36 by omega))
 have KH:=aa (fun w'=>Tryz.strings_HasPrefix t ⟨#[36,36]⟩ w')
 obtain⟨B,hB⟩:=exq (Lib.hasPrefix t.data.toList [36,36])
 rw[show Lib.hasPrefix t.data.toList (⟨#[36,36]⟩:ByteArray).data.toList=B from hB.symm]at KH
 have hzx:=bC t 1
 have KR:=aa (fun w'=>kG (t.extract 1 t.size) w' (by omega))
 have KB:=aa (fun w'=>lA (t.extract 1 t.size) w' (by omega))
 have hle:=eF (t.extract 1 t.size)
 have hbe:=nI (t.extract 1 t.size)
 have hr:R=(if B then (⟨#[36]⟩,2)else if 0<cj (t.extract 1 t.size)then (bH s l nm (t.extract 1 (1+cj (t.extract 1 t.size))),1+cj (t.extract 1 t.size))else if 0<bZ (t.extract 1 t.size)then (bH s l nm (t.extract 2 (2+bZ (t.extract 1 t.size))),bZ (t.extract 1 t.size)+3)else (⟨#[36]⟩,1):ByteArray×Nat).1:=by
  rw[HR.O];unfold bE;rw[if_neg heq,hB]
 have hn:N=(if B then (⟨#[36]⟩,2)else if 0<cj (t.extract 1 t.size)then (bH s l nm (t.extract 1 (1+cj (t.extract 1 t.size))),1+cj (t.extract 1 t.size))else if 0<bZ (t.extract 1 t.size)then (bH s l nm (t.extract 2 (2+bZ (t.extract 1 t.size))),bZ (t.extract 1 t.size)+3)else (⟨#[36]⟩,1):ByteArray×Nat).2:=by
  rw[HN.O];unfold bE;rw[if_neg heq,hB]
 obtain⟨n,hnn⟩:=exq (cj (t.extract 1 t.size))
 obtain⟨b,hbb⟩:=exq (bZ (t.extract 1 t.size))
 rw[<-hnn]at KR hle hr hn
 rw[<-hbb]at KB hbe hr hn
 rw[hzx]at hle hbe
 have HH:=aa hh
 clear HR HN hnn hbb hB heq hzx hh
 have HRR:=aa hr
 have HNN:=aa hn
 clear hr hn
 cases B with
 |true=>
  obtain rfl:R=⟨#[36]⟩:=HRR.O
  obtain rfl:N=2:=HNN.O
  clear hbe
  go_enter Tryz.func59,Tryz.ntmps59
  go_wp2_with fail
  refine (KH.O _).mono ?_
  rintro e w1 ⟨rfl,rfl⟩
  go_wp2_with fail
  go_ret2
  exact⟨rfl,HXW.O⟩
 |false=>
  by_cases hn0:0<n
  ·have hn1:n+1<=t.size:=by omega
   have hr:R=bH s l nm (t.extract 1 (1+n)):=by rw[HRR.O];simp[hn0]
   obtain rfl:N=1+n:=by rw[HNN.O];simp[hn0]
   have hz:(t.extract 1 (1+n)).size=n:=by rw[G.size_extract t 1 (1+n) (by omega)];omega
   have KS:=aa (fun W hx=>KSS.O (t.extract 1 (1+n)) W hx (by omega) (by omega))
   rw[<-hr]at KS
   have hi1:(1:Int)+(n:Int)<=(t.size:Int):=by omega
   have hi2:(1:Int)<=(1:Int)+(n:Int):=by omega
   have hi3:(0:Int)<(n:Int):=by omega
   have hi4:IntKind.i64.wrap ((1:Int)+(n:Int))=(1:Int)+(n:Int):=by rw[IntKind.wrap_i64];omega
   clear hbe hr hz hle KSS HRR HNN
   go_enter Tryz.func59,Tryz.ntmps59
   go_wp2_with fail
   refine (KH.O _).mono ?_
   rintro e w1 ⟨rfl,rfl⟩
   go_wp2_with fail
   refine (KR.O _).mono ?_
   rintro e w1 ⟨rfl,rfl⟩
   have hcw:=HBW.O.all.1
   have hlw:=HBW.O.lt
   go_wp2_with fail
   go_region_held3 (fun w'=>∀o,w'.cell? ⟨w.heap.size,o,none⟩= #[Value.string s,.slice (some ⟨g,0,none⟩) m c,.map (some mb)][o]?)
    (first|exact q6|exact hcw)
    (first
     |(go_at_call 103;refine (show Calls _ _ _ _ _ from KS.O _ (HXW.O.drew)).mono ?_;rintro x w6 ⟨rfl,hx6⟩;have q6:=(HBW.O.drew.ex hx6 (by simp)).all.1))
   have hy6:Ex [] w w6:=HXW.O.drew.trans hx6
   clear hx6 q6 hcw
   go_wp2_with fail
   go_ret2
   exact⟨rfl,hy6⟩
  ·obtain rfl:n=0:=by omega
   by_cases hb0:0<b
   ·have hb1:b+3<=t.size:=by have:=hbe hb0;omega
    have hr:R=bH s l nm (t.extract 2 (2+b)):=by rw[HRR.O];simp[hb0]
    obtain rfl:N=b+3:=by rw[HNN.O];simp[hb0]
    have hz:(t.extract 2 (2+b)).size=b:=by rw[G.size_extract t 2 (2+b) (by omega)];omega
    have KS:=aa (fun W hx=>KSS.O (t.extract 2 (2+b)) W hx (by omega) (by omega))
    rw[<-hr]at KS
    have hi1:(2:Int)+(b:Int)<=(t.size:Int):=by omega
    have hi2:(2:Int)<=(2:Int)+(b:Int):=by omega
    have hi3:(0:Int)<(b:Int):=by omega
    have hi4:IntKind.i64.wrap ((2:Int)+(b:Int))=(2:Int)+(b:Int):=by rw[IntKind.wrap_i64];omega
    have hi5:IntKind.i64.wrap ((b:Int)+3)=(b:Int)+3:=by rw[IntKind.wrap_i64];omega
    clear hbe hr hz hle KSS HRR HNN
    go_enter Tryz.func59,Tryz.ntmps59
    go_wp2_with fail
    refine (KH.O _).mono ?_
    rintro e w1 ⟨rfl,rfl⟩
    go_wp2_with fail
    refine (KR.O _).mono ?_
    rintro e w1 ⟨rfl,rfl⟩
    go_wp2_with fail
    refine (KB.O _).mono ?_
    rintro e w1 ⟨rfl,rfl⟩
    have hcw:=HBW.O.all.1
    have hlw:=HBW.O.lt
    go_wp2_with fail
    go_region_held3 (fun w'=>∀o,w'.cell? ⟨w.heap.size,o,none⟩= #[Value.string s,.slice (some ⟨g,0,none⟩) m c,.map (some mb)][o]?)
     (first|exact q6|exact hcw)
     (first
      |(go_at_call 103;refine (show Calls _ _ _ _ _ from KS.O _ (HXW.O.drew)).mono ?_;rintro x w6 ⟨rfl,hx6⟩;have q6:=(HBW.O.drew.ex hx6 (by simp)).all.1))
    have hy6:Ex [] w w6:=HXW.O.drew.trans hx6
    clear hx6 q6 hcw
    go_wp2_with fail
    go_ret2
    exact⟨rfl,hy6⟩
   ·obtain rfl:b=0:=by omega
    obtain rfl:R=⟨#[36]⟩:=HRR.O
    obtain rfl:N=1:=HNN.O
    clear hbe
    go_enter Tryz.func59,Tryz.ntmps59
    go_wp2_with fail
    refine (KH.O _).mono ?_
    rintro e w1 ⟨rfl,rfl⟩
    go_wp2_with fail
    refine (KR.O _).mono ?_
    rintro e w1 ⟨rfl,rfl⟩
    go_wp2_with fail
    refine (KB.O _).mono ?_
    rintro e w1 ⟨rfl,rfl⟩
    go_wp2_with fail
    go_ret2
    exact⟨rfl,HXW.O⟩
def fx (F:ByteArray ->ByteArray):Nat ->ByteArray ->List UInt8
 |0,_=>[]
 |f+1,t=>if t.size=0 then []else (bE F t).1.data.toList++fx F f (t.extract (bE F t).2 t.size)
def nt (F:ByteArray ->ByteArray) (t:ByteArray):ByteArray:=⟨(fx F t.size t).toArray⟩
theorem d8 (F:ByteArray ->ByteArray) (f:Nat) (t:ByteArray) (h:t.size=0):fx F f t=[]:=by
 cases f with
 |zero=>rfl
 |succ f=>simp[fx,h]
theorem xe (s:ByteArray) (l:List (Int×Int)) (k:Int):(dV s l k).size<=s.size:=by
 have h0:(⟨#[]⟩:ByteArray).size<=s.size:=Nat.zero_le _
 unfold dV
 split
 ·exact h0
 ·split
  ·split
   ·exact h0
   ·rw[Lib.size_eq,Lib.extract_data,List.length_take,List.length_drop,<-Lib.size_eq];omega
  ·exact h0
theorem mE (s:ByteArray) (l:List (Int×Int)) (nm:List (ByteArray×Nat)) (n:ByteArray):(bH s l nm n).size<=s.size:=by
 unfold bH rj
 repeat' split
 all_goals first|exact xe _ _ _|exact Nat.zero_le _
theorem jP (F:ByteArray ->ByteArray) (t:ByteArray) (h1:1<=t.size):1<=(bE F t).2/\(bE F t).2<=t.size:=by
 have hzx:=bC t 1
 have hle:=eF (t.extract 1 t.size)
 have hbe:=nI (t.extract 1 t.size)
 unfold bE
 split
 ·next h=>
  have:=ft t h1 h
  dsimp only
  omega
 ·split
  ·next h=>
   have h2:2<=t.size:=by
    rw[<-aF]
    unfold Lib.hasPrefix at h
    exact (List.isPrefixOf_iff_prefix.1 h).length_le
   dsimp only
   omega
  ·split
   ·dsimp only;omega
   ·split
    ·next h=>have:=hbe h;dsimp only;omega
    ·dsimp only;omega
theorem sq (F:ByteArray ->ByteArray) (t:ByteArray) (M:Nat) (hF:∀n,(F n).size<=M) (hM:t.size<=M) (h1:1<=M):(bE F t).1.size<=M:=by
 have h36:(⟨#[36]⟩:ByteArray).size=1:=rfl
 unfold bE
 repeat' split
 all_goals dsimp only
 ·rw[Lib.size_eq,Lib.extract_data,List.length_take,List.length_drop,<-Lib.size_eq];omega
 ·omega
 ·exact hF _
 ·exact hF _
 ·omega
theorem zH {T e:TypeId} {B b:Nat} {bs:List Value} (h:Lib.IsBuilderF T e B b bs w) (hx:Ex [] w w'):Lib.IsBuilderF T e B b bs w':=by
 have key:∀p,Lib.BuilderAtF T e B b p bs w ->Lib.BuilderAtF T e B b p bs w':=by
  rintro p ⟨hB,v,hb,hown,hne⟩
  refine⟨hB,v,(hx.block b (Array.getElem?_eq_some_iff.1 hb).1 (by simp)).trans hb,⟨hown.1,?_⟩,hne⟩
  rcases hown.2 with hn|⟨g,cap,cur,fz,rfl,hb',hgg,rest⟩
  ·exact .inl hn
  ·exact .inr ⟨g,cap,cur,fz,rfl,hb',(hx.block g (Array.getElem?_eq_some_iff.1 hgg).1 (by simp)).trans hgg,rest⟩
 exact h.elim (fun h=> .inl (key _ h)) (fun h=> .inr (key _ h))
theorem _root_.Go.Proofs.YtfnanjbleifjkaaGreatDoor.Ex.trans2 {a:World} (h:Ex [] a w) (hb:Below a.heap.size w w'):Ex [] a w':=
 ⟨hb.os.trans h.os,hb.tape.trans h.tape,hb.output.trans h.output,Nat.le_trans h.size hb.size,fun k hk hn=>(hb.block k hk).trans (h.block k hk hn)⟩
theorem nA (B b:Nat) (bs:List Value) (s:ByteArray) (w:World) (h:Lib.IsBuilderF 141 5 B b bs w) (hlen:bs.length+s.size<=140737488355328) (hBw:B<=w.heap.size):
  Calls Tryz.prog 60 #[.pointer (some ⟨b,0,none⟩),.string s] w fun e w'=>e= .returned (.tuple #[.int .i64 s.size,.nilIface])/\(Lib.BuilderAtF 141 5 B b (.pointer (some ⟨b,0,none⟩)) (bs++Lib.strCells s) w'/\Below B w w'/\Lib.OthersKept 5 (some b) w w'):=
 Any.Builder_WriteString_k {Tryz.lays156 with} Tryz.Builder_Extra_156 B b bs s w h hlen hBw
theorem pI (s:ByteArray) (mb g c:Nat) (l:List (Int×Int)) (nm:List (ByteArray×Nat)) (t:ByteArray) (w:World) (hd:FD w s mb g l nm) (ht:t.size<=1048576):
  Calls Tryz.prog 26 #[.string t,.agg #[.string s,.slice (some ⟨g,0,none⟩) l.length c,.map (some mb)]] w fun e w'=>e= .returned (.string (nt (bH s l nm) t))/\Ex [] w w':=by
 have KF:=aa (fun (r:ByteArray) (W:World) (hx:Ex [] w W) (h1:1<=r.size) (hr:r.size<=1048576)=>uO s mb g c l nm r W (hd.ex hx) h1 hr)
 have hFs:=fun r:ByteArray=>fun hr:r.size<=1048576=>sq (bH s l nm) r 100000100 (fun n=>by have:=mE s l nm n;have:=hd.sl;omega) (by omega) (by omega)
 obtain⟨F,hF⟩:=exq (bH s l nm)
 rw[<-hF]at KF hFs ⊢
 obtain⟨m,hm2⟩:=exq (l.length)
 rw[<-hm2]at KF ⊢
 have HFS:=aa hFs
 obtain⟨R,hR⟩:=exq (nt F t)
 rw[<-hR]
 have HR:=aa hR
 clear hd hF hm2 hFs hR
 obtain⟨W1,hW1⟩:=exq (w.alloc (Obj.cells #[.string s,.slice (some ⟨g,0,none⟩) m c,.map (some mb)] 56))
 have hx1:Ex [] w W1:=by rw[hW1];exact (Ex.refl _ _).alloc _
 have hb1:BK W1 w.heap.size (.cells #[.string s,.slice (some ⟨g,0,none⟩) m c,.map (some mb)] 56 (0,0)):=by rw[hW1];exact BK.new _ _
 have hs1:W1.heap.size=w.heap.size+1:=by rw[hW1];simp
 have HX1:=aa hx1
 have HB1:=aa hb1
 have HS1:=aa hs1
 have HW1:=aa hW1
 clear hx1 hb1 hs1
 obtain⟨n,hn⟩:=exq (t.size)
 have HT:=aa ht
 have HN:=aa hn
 clear ht hn
 go_enter Tryz.func26,Tryz.ntmps26
 go_wp2_with fail
 rw[<-HW1.O]
 clear hW1 HW1
 go_loopg [6] n (fun gk r6 wr=>∃(r:ByteArray) (o:List UInt8),r6= .string r/\r.size<=gk/\r.size<=1048576/\o++fx F gk r=R.data.toList/\o.length+r.size*100000100<=1048576*100000100/\Lib.IsBuilderF 141 5 (w.heap.size+1) (w.heap.size+1) (Lib.byteCells o) wr/\Ex [] W1 wr)
 case atStart=>exact⟨t,[],rfl,by rw[HN.O];exact Nat.le_refl _,HT.O,by rw[HR.O,HN.O];simp[nt],by have:=HT.O;simp;omega,.inl ⟨Nat.le_refl _,_,by have h:=BK.new W1 (.cells #[.pointer none,.slice none 0 0] 141);rw[HS1.O]at h;exact h,World.ownsRowF_nil _ _ _ _,by simp[Value.ownBlock]⟩,(Ex.refl _ _).alloc _⟩
 case round=>
  obtain⟨r,o,rfl,hrg,hr60,hro,hol,hbd,hx⟩:=hrel
  have HRO:=aa hro
  have HBD:=aa hbd
  have HX:=aa hx
  have hzz:w.heap.size+1<=wr.heap.size:=by have:=hx.size;have:=HS1.O;omega
  clear hro hbd hx
  by_cases h0:r.size=0
  ·obtain rfl:r=⟨#[]⟩:=by apply ByteArray.ext;exact Array.eq_empty_of_size_eq_zero h0
   have KS:=aa (fun W h1 h2=>Tryz.Builder_String_any_k (w.heap.size+1) (w.heap.size+1) o W h1 h2)
   have hres:(⟨o.toArray⟩:ByteArray)=R:=by
    have:=HRO.O
    rw[d8 _ _ _ h0,List.append_nil]at this
    apply ByteArray.ext
    show o.toArray=R.data
    rw[this,Array.toArray_toList]
   rw[hres]at KS
   clear hres h0 hol hrg hr60
   go_wp2_with fail
   refine (KS.O _ HBD.O hzz).mono ?_
   rintro e w3 ⟨rfl,_,hbl,_⟩
   have hx3:Ex [] W1 w3:=HX.O.trans2 (by rw[HS1.O];exact hbl)
   have HX3:=aa (HX1.O.trans hx3)
   clear hx3 hbl
   go_wp2_with fail
   go_ret
   exact⟨rfl,HX3.O⟩
  ·have hem:=bD h0
   have hpos:1<=r.size:=by omega
   cases gk with
   |zero=>exfalso;omega
   |succ gk=>
    obtain⟨f1,f2⟩:=jP F r hpos
    have f3:=HFS.O r hr60
    have K1:=aa (fun W hx=>KF.O r W hx hpos hr60)
    have hstep:o++((bE F r).1.data.toList++fx F gk (r.extract (bE F r).2 r.size))=R.data.toList:=by
     have:=HRO.O
     unfold fx at this
     rw[if_neg h0]at this
     exact this
    obtain⟨x,hx⟩:=exq ((bE F r).1)
    obtain⟨k,hk⟩:=exq ((bE F r).2)
    rw[<-hx,<-hk]at K1 hstep
    rw[<-hk]at f1 f2
    rw[<-hx]at f3
    have HST:=aa hstep
    have hcr:=(HB1.O.ex HX.O (by simp)).all.1
    have hlr:=(HB1.O.ex HX.O (by simp)).lt
    have hkk:(k:Int)<=(r.size:Int):=by omega
    clear hx hk hstep HRO h0
    go_wp2_with fail
    refine (K1.O _ (HX1.O.trans HX.O)).mono ?_
    rintro e w3 ⟨rfl,hx3⟩
    have HX3:=aa (HX.O.trans hx3)
    have HBD3:=aa (zH HBD.O hx3)
    have hz3:w.heap.size+1<=w3.heap.size:=by have:=HX3.O.size;have:=HS1.O;omega
    clear hx3 hcr
    go_wp2_with fail
    refine (nA (w.heap.size+1) (w.heap.size+1) (Lib.byteCells o) x _ HBD3.O (by rw[Lib.byteCells_length];omega) hz3).mono ?_
    rintro e w4 ⟨rfl,hat,hbl,_⟩
    have HX4:Hid (Ex [] W1 w4):=HX3.O.trans2 (by rw[HS1.O];exact hbl)
    have HBD4:Hid (Lib.IsBuilderF 141 5 (w.heap.size+1) (w.heap.size+1) (Lib.byteCells (o++x.data.toList)) w4):= .inr (by
     have:Lib.byteCells (o++x.data.toList)=Lib.byteCells o++Lib.strCells x:=by simp[Lib.byteCells,Lib.strCells]
     rw[this];exact hat)
    clear hat hbl
    go_wp2_with fail
    have hse:=G.size_extract r k r.size (Nat.le_refl _)
    go_roundg gk
    case measure=>omega
    case rel=>exact⟨r.extract k r.size,o++x.data.toList,rfl,by omega,by omega,by rw[List.append_assoc];exact HST.O,by rw[List.length_append,aF,hse];omega,HBD4.O,HX4.O⟩
end Go.Proofs.YtfnanjbleifjkaaGreatDoor.G
