import Derived.Test.YtfnanjbleifjkaaGreatDoorM23
set_option linter.unusedVariables false
set_option linter.unusedSimpArgs false
set_option maxHeartbeats 8000000
set_option maxRecDepth 100000
namespace Go.Proofs.YtfnanjbleifjkaaGreatDoor.G
variable {base k p r:Nat} {w:World} {t:ByteArray} {s:RS} {bad:Bool} {hv:Int}
open Go.RowKit
theorem lP (cs:List Bool) (k:Nat) (b:Bool) (hk:k<cs.length) (j:Nat):hB (cs.set k b) j=if j=k then b else hB cs j:=by
 unfold hB
 rw[List.getD_eq_getElem?_getD,List.getD_eq_getElem?_getD,List.getElem?_set]
 by_cases h:k=j
 ·subst h;simp[hk]
 ·rw[if_neg h,if_neg (fun e=>h e.symm)]
theorem wC {cs:List Bool} {b:Bool} (h:cs[k]? =some b):hB cs k=b:=by
 unfold hB
 rw[List.getD_eq_getElem?_getD,h]
 rfl
def fC (k:Nat) (h:Nat ->Bool) (j:Nat):Bool:=if 97<=j/\j<k+32 then h j||h (j-32)else if 65<=j/\j<k then h j||h (j+32)else h j
theorem qI {cs:List Bool} {h:Nat ->Bool} {x y:Bool} (hk:65<=k/\k<91) (hl:cs.length=129) (hc:∀j,j<=128 ->hB cs j=fC k h j) (hx:hB cs (k+32)=x) (hy:hB cs k=y):∀j,j<=128 ->hB ((cs.set (k+32) (x||y)).set k (x||y)) j=fC (k+1) h j:=fun j hj=>by
 rw[lP _ _ _ (by rw[List.length_set];omega),lP _ _ _ (by omega)]
 rw[hc _ (by omega)]at hx hy
 unfold fC at hx hy
 rw[if_neg (by omega),if_neg (by omega)]at hx hy
 unfold fC
 by_cases h1:j=k
 ·subst h1
  rw[if_pos rfl,if_neg (by omega),if_pos (by omega),hx,hy,Bool.or_comm]
 ·rw[if_neg h1]
  by_cases h2:j=k+32
  ·subst h2
   rw[if_pos rfl,if_pos (by omega),hx,show k+32-32=k by omega,hy]
  ·rw[if_neg h2,hc j hj]
   unfold fC
   by_cases h3:97<=j/\j<k+32
   ·rw[if_pos h3,if_pos (by omega)]
   ·rw[if_neg h3,if_neg (show ¬(97<=j/\j<k+1+32) by omega)]
    by_cases h4:65<=j/\j<k
    ·rw[if_pos h4,if_pos (by omega)]
    ·rw[if_neg h4,if_neg (by omega)]
theorem sr (h:Nat ->Bool) (j:Nat):fC 91 h j=dR h j:=by
 unfold fC dR
 by_cases h1:97<=j/\j<=122
 ·rw[if_pos h1,if_pos (by omega)]
 ·rw[if_neg h1,if_neg (by omega)]
  by_cases h2:65<=j/\j<=90
  ·rw[if_pos h2,if_pos (by omega)]
  ·rw[if_neg h2,if_neg (by omega)]
theorem o8 (h:Nat ->Bool) (j:Nat):fC 65 h j=h j:=by
 unfold fC
 rw[if_neg (by omega),if_neg (by omega)]
theorem gm (bs:List Bool) (hb:bs.length=129) (h:RK w p r t s bad hv):
  Calls Tryz.prog 224 #[.pointer (some ⟨p,0,none⟩),.agg (sB bs).toArray] w fun e w'=>∃cs,cs.length=129/\e= .returned (.agg (sB cs).toArray)/\Ex [] w w'/\∀j,j<=128 ->hB cs j=ey s.f (hB bs) j:=by
 have HK:=aa h
 have hpl0:=h.lt
 clear h
 obtain⟨S,hS⟩:=exq (sB bs)
 have hw1:SB (w.alloc (Obj.cells S.toArray 213)) w.heap.size bs:=by rw[hS];exact SB.new w bs hb
 rw[<-hS]
 have HW1:=aa hw1
 clear hw1 hS
 go_enter Tryz.func224,Tryz.ntmps224
 go_upto_region 1 with fail
 generalize hw2:World.alloc _ _=w2
 have hs2:SB w2 w.heap.size bs:=by rw[<-hw2];exact HW1.O.ex ((Ex.refl [] _).alloc _) (by simp)
 have hr2:SB w2 (w.heap.size+1) noB:=by
  have h9:BK w2 (w.alloc (Obj.cells S.toArray 213)).heap.size (.cells (sB noB).toArray 213 (0,0)):=by rw[<-hw2];exact BK.new _ _
  rw[World.size_alloc]at h9
  exact⟨h9,rfl⟩
 have hx2:Ex [] w w2:=by rw[<-hw2];exact ((Ex.refl _ _).alloc _).alloc _
 have c4:w2.cell? ⟨p,4,none⟩=some (.bool s.f):=(HK.O.ex hx2 (by simp)).all.1 4
 have hpl:=(HK.O.ex hx2 (by simp)).lt
 obtain⟨f,hf⟩:=exq (s.f)
 rw[<-hf]at c4
 have HF:=aa hf
 clear hw2 hf
 cases f with
 |false=>
  have HS3:=aa hs2
  have HR3:=aa hr2
  have HX3:=aa hx2
  have hb3:=hb
  obtain⟨w3,hw3⟩:=exq (w2)
  subst hw3
  clear hs2 hr2 hx2
  obtain⟨T,hT⟩:=exq (sB bs)
  have HI:Hid ((Tryz.prog.info? 213).map (·.size)=some T.length):=by rw[hT];exact aC hb3
  have HI2:Hid ((Tryz.prog.info? 213).map (·.size)=some T.toArray.size):=by rw[hT];exact az hb3
  have HAL:Hid (T.toArray.all (·.oneCell')=true):=by rw[hT];exact am (ax _)
  have HT:=aa hT
  have HRG:Hid (World.rangeAt w3 (w.heap.size) 0 T):=by rw[hT];exact HS3.O.1.rangeL
  have HOLD:Hid ((sB noB).toArray.size=T.toArray.size):=by show _=_;rw[List.size_toArray,List.size_toArray,hT,ah,ah,hb3,HR3.O.2]
  clear hT
  go_wp2_with (first
   |(refine wpList_load_mid rfl 213 _ rfl (w.heap.size) 0 rfl T _ HRG.O Tryz.underlying213 rfl HI.O ?_)
   |(refine wpList_store_row rfl 213 _ _ rfl (w.heap.size+1) T.toArray rfl rfl 213 _ HR3.O.1 HI2.O HOLD.O HAL.O ?_))
  have hs4:SB (w3.setRow (w.heap.size+1) T.toArray) (w.heap.size+1) bs:=by rw[HT.O];exact HR3.O.store hb3
  have hl4:=hs4.load
  rw[<-HT.O]at hl4
  refine bodyPost_ret (aq rfl rfl hl4) rfl ⟨_,hb3,by rw[HT.O],HX3.O.setRow (.inr (by omega)) _,fun j _=>by rw[<-HF.O];rfl⟩
 |true=>
  have HS2:=aa hs2
  have HR2:=aa hr2
  have HX2:=aa hx2
  clear hs2 hr2 hx2
  go_wp2_with fail
  go_loopg [5,6] 26 (fun gk i5 s6 wr=>∃(k:Nat) (cs:List Bool),k+gk=91/\65<=k/\i5= .int .i32 ((k:Int)+32)/\SB wr w.heap.size cs/\SB wr (w.heap.size+1) noB/\Ex [] w wr/\∀j,j<=128 ->hB cs j=fC k (hB bs) j)
  case atStart=>exact⟨65,bs,by omega,by omega,rfl,HS2.O,HR2.O,HX2.O,fun j _=>(o8 _ _).symm⟩
  case round=>
   obtain⟨k,cs,hk,hk65,rfl,hs,hr,hx,hct⟩:=hrel
   have HCT:=aa hct
   clear hct
   have hlt:=hs.1.lt
   have hlt2:=hr.1.lt
   have hfz:=hs.1.all.2
   have hb3:=hs.2
   cases gk with
   |zero=>
    have h122:¬((k:Int)+32<=122):=by omega
    have HS3:=aa hs
    have HR3:=aa hr
    have HX3:=aa hx
    obtain⟨w3,hw3⟩:=exq (wr)
    subst hw3
    clear hs hr hx
    obtain⟨T,hT⟩:=exq (sB cs)
    have HI:Hid ((Tryz.prog.info? 213).map (·.size)=some T.length):=by rw[hT];exact aC hb3
    have HI2:Hid ((Tryz.prog.info? 213).map (·.size)=some T.toArray.size):=by rw[hT];exact az hb3
    have HAL:Hid (T.toArray.all (·.oneCell')=true):=by rw[hT];exact am (ax _)
    have HT:=aa hT
    have HRG:Hid (World.rangeAt w3 (w.heap.size) 0 T):=by rw[hT];exact HS3.O.1.rangeL
    have HOLD:Hid ((sB noB).toArray.size=T.toArray.size):=by show _=_;rw[List.size_toArray,List.size_toArray,hT,ah,ah,hb3,HR3.O.2]
    clear hT
    go_wp2_with (first
     |(refine wpList_load_mid rfl 213 _ rfl (w.heap.size) 0 rfl T _ HRG.O Tryz.underlying213 rfl HI.O ?_)
     |(refine wpList_store_row rfl 213 _ _ rfl (w.heap.size+1) T.toArray rfl rfl 213 _ HR3.O.1 HI2.O HOLD.O HAL.O ?_))
    have hs4:SB (w3.setRow (w.heap.size+1) T.toArray) (w.heap.size+1) cs:=by rw[HT.O];exact HR3.O.store hb3
    have hl4:=hs4.load
    rw[<-HT.O]at hl4
    refine bodyPost_ret (aq rfl rfl hl4) rfl ⟨_,hb3,by rw[HT.O],HX3.O.setRow (.inr (by omega)) _,fun j hj=>by
     have hk91:k=91:=by omega
     rw[HCT.O j hj,hk91,<-HF.O]
     exact sr _ _⟩
   |succ g=>
    have h122:(k:Int)+32<=122:=by omega
    have hi1:(k:Int)+32<128:=by omega
    have hi2:(k:Int)<128:=by omega
    have hi3:(0:Int)<=(k:Int)+32:=by omega
    have htn:((k:Int)+32).toNat=k+32:=by omega
    have hsub:(k:Int)+32-32=(k:Int):=by omega
    obtain⟨x,hx1,hcx⟩:=hs.cell (k+32) (by omega)
    obtain⟨y,hy1,hcy⟩:=hs.cell k (by omega)
    have key:∀b:Bool,SB ((wr.setCell ⟨w.heap.size,k+32,none⟩ (.bool b)).setCell ⟨w.heap.size,k,none⟩ (.bool b)) w.heap.size ((cs.set (k+32) b).set k b)/\SB ((wr.setCell ⟨w.heap.size,k+32,none⟩ (.bool b)).setCell ⟨w.heap.size,k,none⟩ (.bool b)) (w.heap.size+1) noB/\Ex [] w ((wr.setCell ⟨w.heap.size,k+32,none⟩ (.bool b)).setCell ⟨w.heap.size,k,none⟩ (.bool b)):=fun b=>⟨(hs.set _ b).set _ b,⟨(hr.1.set (by simp) _).set (by simp) _,hr.2⟩,(hx.setCell (.inr (by simp)) _).setCell (.inr (by simp)) _⟩
    have hcy2:∀b:Bool,∃z,(wr.setCell ⟨w.heap.size,k+32,none⟩ (.bool b)).cell? ⟨w.heap.size,k,none⟩=some (.bool z):=fun b=>by
     obtain⟨z,_,hz⟩:=(hs.set (k+32) b).cell k (by omega)
     exact⟨z,hz⟩
    have KEY:=aa key
    have HCT2:=aa (qI ⟨hk65,by omega⟩ hb3 HCT.O (wC hx1) (wC hy1))
    clear hs hr hx hx1 hy1 key
    cases x
    case false=>
     cases y
     all_goals
      go_wp2_with fail
      go_roundg g
      case measure=>omega
      case rel=>exact⟨k+1,_,by omega,by omega,by simp;omega,(KEY.O _).1,(KEY.O _).2.1,(KEY.O _).2.2,HCT2.O⟩
    case true=>
     go_wp2_with fail
     go_roundg g
     case measure=>omega
     case rel=>exact⟨k+1,_,by omega,by omega,by simp;omega,(KEY.O _).1,(KEY.O _).2.1,(KEY.O _).2.2,HCT2.O⟩
theorem bU {b:UInt8} (hb:b.toNat≠0):ac t s b=decide (aj t s.k=b.toNat):=by
 rw[fQ]
 by_cases h:s.k<t.size
 ·rw[decide_eq_true h,Bool.true_and]
 ·rw[decide_eq_false h,Bool.false_and]
  have:aj t s.k=0:=by unfold aj ai;rw[Array.getElem?_eq_none (by show t.size<=s.k;omega)]
  rw[this]
  exact (decide_eq_false (fun e=>hb e.symm)).symm
theorem d9 (t:ByteArray) (least:Nat) (s:RS):dy t least s=if 48+least<=aj t s.k/\aj t s.k<=57 then .ok (aj t s.k-48) s.up else .bad s:=by
 unfold dy aj
 cases h:ai t s.k with
 |none=>dsimp only;rw[if_neg (by omega)]
 |some b=>
  dsimp only
  by_cases hc:48+least<=b.toNat/\b.toNat<=57
  ·rw[if_neg (by omega),if_pos hc]
  ·rw[if_pos (by omega),if_neg hc]
theorem pJ {d g:Nat} {f:Bool} {nm:List (ByteArray×Nat)} {o:Option (Nat×Int)} {k':Nat} (h:el t k o k'):match o with
  |some x=>bn t ⟨k+1,d,f,g,nm⟩= .ok x ⟨k'+1,d,f,g,nm⟩/\aj t k'=125
  |none=>bn t ⟨k+1,d,f,g,nm⟩= .bad ⟨k',d,f,g,nm⟩:=by
 have s125:∀s:RS,ac t s 125=decide (aj t s.k=125):=fun s=>bU (by decide)
 have s44:∀s:RS,ac t s 44=decide (aj t s.k=44):=fun s=>bU (by decide)
 have hz:∀a:Nat,48+0<=a/\a<=57↔48<=a/\a<=57:=fun a=>by omega
 cases h with
 |noDig h1=>
  have hd:=of_decide_eq_false h1
  simp[bn,d9,Res.bind,hd]
 |one h1 h2=>
  have hd:=of_decide_eq_true h1
  refine⟨?_,h2⟩
  simp[bn,d9,s125,Res.bind,RS.up,hd,h2]
 |oneBad h1 h2 h3=>
  have hd:=of_decide_eq_true h1
  simp[bn,aw,d9,s125,s44,Res.bind,RS.up,hd,h2,h3]
 |more h1 h2 h3=>
  have hd:=of_decide_eq_true h1
  refine⟨?_,h3⟩
  simp[bn,aw,d9,s125,s44,Res.bind,RS.up,hd,h2,h3]
 |twoBad h1 h2 h3 h4=>
  have hd:=of_decide_eq_true h1
  have h5:¬(48+(aj t (k+1)-48)<=aj t (k+3)/\aj t (k+3)<=57):=by
   rcases h4 with h4|h4
   ·have:=of_decide_eq_false h4;omega
   ·omega
  simp[bn,aw,d9,s125,s44,Res.bind,RS.up,hd,h2,h3,h5]
  rw[if_neg (show ¬(aj t (k+1)<=aj t (k+3)/\aj t (k+3)<=57) by omega)]
 |two h1 h2 h3 h4 h5=>
  have hd:=of_decide_eq_true h1
  have hd3:=of_decide_eq_true h3
  refine⟨?_,h5⟩
  have h6:48+(aj t (k+1)-48)<=aj t (k+3)/\aj t (k+3)<=57:=by omega
  have h7:aj t (k+3)≠125:=by omega
  simp[bn,aw,d9,s125,s44,Res.bind,RS.up,hd,h2,h5,h6,h7]
  rw[if_pos (show aj t (k+1)<=aj t (k+3)from h4)]
  dsimp only
  rw[if_pos (show aj t (k+4)=125 from h5)]
 |endBad h1 h2 h3 h4 h5=>
  have hd:=of_decide_eq_true h1
  have hd3:=of_decide_eq_true h3
  have h6:48+(aj t (k+1)-48)<=aj t (k+3)/\aj t (k+3)<=57:=by omega
  have h7:aj t (k+3)≠125:=by omega
  simp[bn,aw,d9,s125,s44,Res.bind,RS.up,hd,h2,h5,h6,h7]
  rw[if_pos (show aj t (k+1)<=aj t (k+3)from h4)]
  dsimp only
  rw[if_neg (show ¬aj t (k+4)=125 from h5)]
def bc (k a b n:Int) (z:Bool) (bs:List Bool):List Value:=[.int .i64 k,.int .i64 a,.int .i64 b,.int .i64 n,.bool z]++sB bs
inductive XT (w:World) (r:Nat):Nat ->Xp ->Prop
 |emp {y}:aL w r y (bc 1 0 0 0 false noB) ->XT w r y .emp
 |set {y c bs}:aL w r y (bc 2 0 0 0 false bs) ->bs.length=129 ->AgC bs c ->XT w r y (.set c)
 |cat {y a b A B}:aL w r y (bc 3 (a:Nat) (b:Nat) 0 false noB) ->XT w r a A ->XT w r b B ->XT w r y (.cat A B)
 |alt {y a b A B}:aL w r y (bc 4 (a:Nat) (b:Nat) 0 false noB) ->XT w r a A ->XT w r b B ->XT w r y (.alt A B)
 |star {y a z A}:aL w r y (bc 5 (a:Nat) 0 0 z noB) ->XT w r a A ->XT w r y (.star A z)
 |may {y a z A}:aL w r y (bc 6 (a:Nat) 0 0 z noB) ->XT w r a A ->XT w r y (.may A z)
 |grp {y a n A}:aL w r y (bc 7 (a:Nat) 0 (n:Nat) false noB) ->XT w r a A ->XT w r y (.grp A n)
theorem XT.mono {w':World} {y:Nat} {X:Xp} (h:XT w r y X) (hr:∀y E,aL w r y E ->aL w' r y E):XT w' r y X:=by
 induction h with
 |emp h1=>exact .emp (hr _ _ h1)
 |set h1 h2 h3=>exact .set (hr _ _ h1) h2 h3
 |cat h1 _ _ i1 i2=>exact .cat (hr _ _ h1) i1 i2
 |alt h1 _ _ i1 i2=>exact .alt (hr _ _ h1) i1 i2
 |star h1 _ i1=>exact .star (hr _ _ h1) i1
 |may h1 _ i1=>exact .may (hr _ _ h1) i1
 |grp h1 _ i1=>exact .grp (hr _ _ h1) i1
theorem XT.fr {w':World} {y:Nat} {X:Xp} (h:XT w r y X) (hf:Fr w w' r base):XT w' r y X:=h.mono hf.ks.rw
theorem bT {n:Nat} (k a b m:Int) (z:Bool) (bs:List Bool) (hb:bs.length=129) (h:RA w p r base t s bad hv n) (hn:n<=100000):
  Calls Tryz.prog 96 #[.pointer (some ⟨p,0,none⟩),.agg (bc k a b m z bs).toArray] w fun e w'=>e= .returned (.int .i64 (n:Int))/\RA w' p r base t s bad hv (n+1)/\Fr w w' r base/\aL w' r n (bc k a b m z bs):=by
 refine (xd (bc k a b m z bs) (by simp[bc,ah,hb]) (fun u hu=> ?_) h hn).mono ?_
 ·unfold bc at hu
  rcases List.mem_append.1 hu with hu|hu
  ·simp at hu
   rcases hu with rfl|rfl|rfl|rfl|rfl<;>rfl
  ·exact ax bs u hu
 ·rintro e w' ⟨h1,h2,h3,h4,h5⟩
  exact⟨h1,h2,⟨h3,h4⟩,h5⟩
theorem cI {n:Nat} (x:Nat) (X:Xp) (le:Nat) (mo:Int) (z:Bool) (hX:XT w r x X) (h:RA w p r base t s bad hv n) (hn:n<=90000) (hle:le<=9) (hmo:mo= -1\/((le:Int)<=mo/\mo<=9)):
  Calls Tryz.prog 185 #[.pointer (some ⟨p,0,none⟩),.int .i64 (x:Int),.int .i64 (le:Int),.int .i64 mo,.bool z] w fun e w'=>∃(y:Nat) (n':Nat),e= .returned (.int .i64 (y:Int))/\n'<=n+30/\RA w' p r base t s bad hv n'/\Fr w w' r base/\XT w' r y (eE X le mo z):=by
 have H:=aa h
 have HX:=aa hX
 clear h hX
 go_enter Tryz.func185,Tryz.ntmps185
 go_wp2_with fail
 refine (bT 1 0 0 0 false noB rfl H.O (by omega)).mono ?_
 rintro e w1 ⟨rfl,h1,fr1,er1⟩
 have H1:=aa h1
 have F1:=aa fr1
 have T1:=aa (XT.emp er1)
 clear h1 fr1 er1
 by_cases hm:mo= -1
 ·subst hm
  go_wp2_with fail
  refine (bT 5 x 0 0 z noB rfl H1.O (by omega)).mono ?_
  rintro e w2 ⟨rfl,h2,fr2,er2⟩
  have H2:=aa h2
  have F2:=aa (F1.O.trans fr2)
  have T2:=aa (XT.star er2 (HX.O.fr F2.O))
  clear h2 fr2 er2
  have hno:¬(le:Int)< -1:=by omega
  go_wp2_with fail
  go_loopg [11,12] 0 (fun gk o i wr=>wr=w2/\i= .int .i64 (le:Int)/\o= .int .i64 ((n+1:Nat):Int))
  case atStart=>exact⟨rfl,rfl,rfl⟩
  case round=>
   obtain⟨rfl,rfl,rfl⟩:=hrel
   go_wp2_with fail
   go_loopg [11,13] le (fun gk o i wr=>∃(j:Nat) (y:Nat),j+gk=le/\i= .int .i64 (j:Int)/\o= .int .i64 (y:Int)/\RA wr p r base t s bad hv (n+2+j)/\Fr w wr r base/\XT wr r y (lC X j (.star X z)))
   case atStart=>exact⟨0,_,by omega,rfl,rfl,H2.O,F2.O,T2.O⟩
   case round=>
    obtain⟨j,y,hj,rfl,rfl,h3,fr3,t3⟩:=hrel
    have H3:=aa h3
    have F3:=aa fr3
    have T3:=aa t3
    clear h3 fr3 t3
    cases gk with
    |zero=>
     have hjl:¬(j:Int)<(le:Int):=by omega
     go_wp2_with fail
     go_ret
     have hjl9:j=le:=by omega
     exact⟨y,rfl,n+2+j,by omega,H3.O,F3.O,by rw[<-hjl9];exact T3.O⟩
    |succ g=>
     have hjl:(j:Int)<(le:Int):=by omega
     go_wp2_with fail
     refine (bT 3 x y 0 false noB rfl H3.O (by omega)).mono ?_
     rintro e w4 ⟨rfl,h4,fr4,er4⟩
     have H4:=aa h4
     have F4:=aa (F3.O.trans fr4)
     have T4:=aa (XT.cat er4 (HX.O.fr F4.O) (T3.O.fr fr4))
     clear h4 fr4 er4
     go_wp2_with fail
     go_roundg g
     case measure=>omega
     case rel=>exact⟨j+1,_,by omega,by simp,rfl,H4.O,F4.O,by rw[eJ];exact T4.O⟩
 ·obtain⟨m,hmm⟩:∃m:Nat,(m:Int)=mo:=⟨mo.toNat,by omega⟩
  subst hmm
  have hlem:le<=m/\m<=9:=by omega
  have hneg:¬(m:Int)<0:=by omega
  go_wp2_with fail
  go_loopg [11,12] (m-le) (fun gk o i wr=>∃(j:Nat) (y:Nat),j+gk=m-le/\i= .int .i64 ((le+j:Nat):Int)/\o= .int .i64 (y:Int)/\RA wr p r base t s bad hv (n+1+2*j)/\Fr w wr r base/\XT wr r y (upX X z j .emp))
  case atStart=>exact⟨0,_,by omega,rfl,rfl,H1.O,F1.O,T1.O⟩
  case round=>
   obtain⟨j,y,hj,rfl,rfl,h2,fr2,t2⟩:=hrel
   have H2:=aa h2
   have F2:=aa fr2
   have T2:=aa t2
   clear h2 fr2 t2
   cases gk with
   |succ g=>
    have hjl:((le+j:Nat):Int)<(m:Int):=by omega
    have hjl2:(le:Int)+(j:Int)<(m:Int):=by omega
    go_wp2_with fail
    refine (bT 3 x y 0 false noB rfl H2.O (by omega)).mono ?_
    rintro e w3 ⟨rfl,h3,fr3,er3⟩
    have H3:=aa h3
    have F3:=aa (F2.O.trans fr3)
    have T3:=aa (XT.cat er3 (HX.O.fr F3.O) (T2.O.fr fr3))
    clear h3 fr3 er3
    go_wp2_with fail
    refine (bT 6 _ 0 0 z noB rfl H3.O (by omega)).mono ?_
    rintro e w4 ⟨rfl,h4,fr4,er4⟩
    have H4:=aa h4
    have F4:=aa (F3.O.trans fr4)
    have T4:=aa (XT.may er4 (T3.O.fr fr4))
    clear h4 fr4 er4
    go_wp2_with fail
    go_roundg g
    case measure=>omega
    case rel=>exact⟨j+1,_,by omega,by simp;omega,rfl,H4.O,F4.O,by rw[gU];exact T4.O⟩
   |zero=>
    have hjl:¬((le+j:Nat):Int)<(m:Int):=by omega
    have hjl2:¬(le:Int)+(j:Int)<(m:Int):=by omega
    go_wp2_with fail
    go_loopg [11,13] le (fun gk o i wr=>∃(i':Nat) (y:Nat),i'+gk=le/\i= .int .i64 (i':Int)/\o= .int .i64 (y:Int)/\RA wr p r base t s bad hv (n+1+2*j+i')/\Fr w wr r base/\XT wr r y (lC X i' (upX X z (m-le) .emp)))
    case atStart=>exact⟨0,_,by omega,rfl,rfl,H2.O,F2.O,(by rw[<-(show j=m-le by omega)];exact T2.O)⟩
    case round=>
     obtain⟨i',y',hj',rfl,rfl,h3,fr3,t3⟩:=hrel
     have H3:=aa h3
     have F3:=aa fr3
     have T3:=aa t3
     clear h3 fr3 t3
     cases gk with
     |zero=>
      have hjl9:¬(i':Int)<(le:Int):=by omega
      go_wp2_with fail
      go_ret
      have hjl8:i'=le:=by omega
      exact⟨y',rfl,n+1+2*j+i',by omega,H3.O,F3.O,by
       unfold eE
       rw[if_neg (by omega),<-hjl8,show ((m:Int)-(i':Int)).toNat=m-i' by omega,hjl8]
       rw[hjl8]at T3
       exact T3.O⟩
     |succ g=>
      have hjl9:(i':Int)<(le:Int):=by omega
      go_wp2_with fail
      refine (bT 3 x y' 0 false noB rfl H3.O (by omega)).mono ?_
      rintro e w4 ⟨rfl,h4,fr4,er4⟩
      have H4:=aa h4
      have F4:=aa (F3.O.trans fr4)
      have T4:=aa (XT.cat er4 (HX.O.fr F4.O) (T3.O.fr fr4))
      clear h4 fr4 er4
      go_wp2_with fail
      go_roundg g
      case measure=>omega
      case rel=>exact⟨i'+1,_,by omega,by simp,rfl,H4.O,F4.O,by rw[eJ];exact T4.O⟩
theorem vM {ns:List ByteArray} {j:Nat} {x:ByteArray} (h:ns[j]? =some x) (a:ByteArray):(ns.drop j).any (fun y=>decide (y=a))=(decide (x=a)||(ns.drop (j+1)).any (fun y=>decide (y=a))):=by
 have hj:j<ns.length:=(List.getElem?_eq_some_iff.1 h).1
 rw[List.drop_eq_getElem_cons hj]
 rw[List.getElem?_eq_getElem hj]at h
 rw[Option.some.inj h,List.any_cons]
theorem kX (x a:ByteArray):(x.toList==a.toList)=decide (x=a):=by
 rw[ByteArray.toList_eq,ByteArray.toList_eq]
 by_cases h:x=a
 ·rw[h];simp
 ·rw[decide_eq_false h,beq_eq_false_iff_ne]
  intro e
  apply h
  apply ByteArray.ext
  exact Array.toList_inj.1 e
theorem oO {n:Nat} (a:ByteArray) (ha:a.size≠0) (h:RA w p r base t s bad hv n) (hg:s.g<=5):
  Calls Tryz.prog 269 #[.pointer (some ⟨p,0,none⟩),.string a] w fun e w'=>e= .returned (.bool (aD s.nm a))/\w'=w:=by
 obtain⟨av,nv,xs,ns,h1,h2,h3,h4,h5⟩:=h.rn.ex
 obtain⟨pn,cn,rfl⟩:=aA h3
 have HT:=aa (h4 a ha)
 have hbp:=h.rk
 unfold RK at hbp
 have c3:w.cell? ⟨p,3,none⟩=some (.pointer (some ⟨r,0,none⟩)):=hbp.all.1 3
 have r3:w.cell? ⟨r,3,none⟩=some (.slice pn ns.length cn):=h1.all.1 3
 have hpl:=hbp.lt
 have hrl:=h1.lt
 have HC:Hid (∀j x,ns[j]? =some x ->∃b,pn=some ⟨b,0,none⟩/\b<w.heap.size/\w.cell? ⟨b,j,none⟩=some (.string x)):=fun j x hj=>by
  have hjl:=(List.getElem?_eq_some_iff.1 hj).1
  obtain⟨g,cap,e,_,hg,_,hc,_⟩:=ij h3 (by omega)
  injection e with e1 e2 e3
  refine⟨g,e1,hg,?_⟩
  rw[hc j (by omega),List.getElem?_map,hj]
  rfl
 obtain⟨m,hm⟩:=exq (ns.length)
 have hm5:m<=5:=by omega
 have HM:=aa hm
 rw[<-hm]at r3
 obtain⟨R,hR⟩:=exq (aD s.nm a)
 rw[<-hR]
 have HR:=aa hR
 clear h h1 h2 h3 h4 h5 hbp hm hR
 go_enter Tryz.func269,Tryz.ntmps269
 go_wp2_with fail
 go_loopg [5] m (fun gk i wr=>∃j:Nat,j+gk=m/\i= .int .i64 (j:Int)/\(ns.drop j).any (fun y=>decide (y=a))=R/\wr=w)
 case atStart=>exact⟨0,by omega,rfl,by rw[List.drop_zero,HR.O];exact HT.O.1.symm,rfl⟩
 case round=>
  obtain⟨j,hj,rfl,hd,rfl⟩:=hrel
  have HD:=aa hd
  clear hd
  cases gk with
  |zero=>
   have hjl:¬(j:Int)<(m:Int):=by omega
   have hr:R=false:=by rw[<-HD.O,List.drop_eq_nil_of_le (by have:=HM.O;omega)];rfl
   subst hr
   go_wp2_with fail
   go_ret
   exact⟨rfl,rfl⟩
  |succ g=>
   have hjl:(j:Int)<(m:Int):=by omega
   obtain⟨x,hx⟩:∃x,ns[j]? =some x:=⟨_,List.getElem?_eq_getElem (by have:=HM.O;omega)⟩
   obtain⟨b,rfl,hb,hc⟩:=HC.O j x hx
   have hst:=vM hx a
   have HST:=aa hst
   clear hst hx
   cases he:(x.toList==a.toList)with
   |true=>
    have hr:R=true:=by rw[<-HD.O,HST.O,<-kX,he];rfl
    subst hr
    go_wp2_with fail
    go_ret
    exact⟨rfl,rfl⟩
   |false=>
    have HN:Hid ((ns.drop (j+1)).any (fun y=>decide (y=a))=R):=aa (by rw[<-HD.O,HST.O,<-kX,he];rfl)
    go_wp2_with fail
    go_roundg g
    case measure=>omega
    case rel=>exact⟨j+1,by omega,by simp,HN.O,rfl⟩
def cR (t:ByteArray) (low:Int) (s:RS):Res (Option Nat):=match ai t s.k with
 |none=> .bad s
 |some b=>
  if 128<=b.toNat then .bad s
  else if b=92 then
   if 125<low then .bad s
   else match an t s.up with
    |.bad s'=> .bad s'
    |.ok x s'=>if 0<=low/\(if x.2.2 then (x.2.1.toNat:Int)else -1)<low then .bad s.up else .ok (if x.2.2 then some x.2.1.toNat else none) s'
  else if b=91\/b=93\/b=94\/b=45\/(b.toNat:Int)<low then .bad s
  else .ok (some b.toNat) s.up
theorem cY {b c:UInt8} (h:ai t s.k=some b):ac t s c=decide (b=c):=by
 unfold ac
 rw[h]
 by_cases e:b=c
 ·rw[e];simp
 ·rw[decide_eq_false e]
  simpa using e
theorem gR {c:UInt8} (h:ai t s.k=none):ac t s c=false:=by
 unfold ac
 rw[h]
 rfl
theorem fo {s':RS} {x:Cls×UInt8×Bool} (h:an t s= .ok x s'):(x.2.2=true ->ai t s.k=some x.2.1/\x.2.1∈eh)/\s'=s.up:=by
 unfold an at h
 split at h
 ·cases h
 ·next b hb=>
  split at h
  ·next hm=>cases h;exact⟨fun _=>⟨hb,hm⟩,rfl⟩
  ·split at h
   ·cases h
   ·cases h;exact⟨fun h9=>absurd h9 (by simp),rfl⟩
theorem vW (t:ByteArray) (s:RS):match cR t (-1) s with
  |.bad s'=>aI t s= .bad s'
  |.ok none s'=>∃c,aI t s= .ok c s'
  |.ok (some n) s'=>∃b:UInt8,b.toNat=n/\aI t s=bg t b s':=by
 unfold cR
 cases hb:ai t s.k with
 |none=>
  dsimp only
  unfold aI aO
  rw[gR hb,hb]
  rfl
 |some b=>
  dsimp only
  by_cases h128:128<=b.toNat
  ·rw[if_pos h128]
   dsimp only
   unfold aI aO
   have h92:b≠92:=fun e=>by subst e;revert h128;decide
   rw[cY hb,decide_eq_false h92,hb]
   simp[h128,Res.bind]
  ·rw[if_neg h128]
   by_cases h92:b=92
   ·rw[if_pos h92,if_neg (by omega)]
    cases he:an t s.up with
    |bad s'=>
     dsimp only
     unfold aI
     rw[cY hb,decide_eq_true h92,if_pos rfl,he]
     rfl
    |ok x s'=>
     dsimp only
     rw[if_neg (by omega)]
     cases hx:x.2.2 with
     |true=>
      simp only[if_true]
      refine⟨x.2.1,rfl,?_⟩
      unfold aI
      rw[cY hb,decide_eq_true h92,if_pos rfl,he,Res.bind_ok,hx,if_pos rfl]
     |false=>
      simp only[Bool.false_eq_true,if_false]
      refine⟨x.1,?_⟩
      unfold aI
      rw[cY hb,decide_eq_true h92,if_pos rfl,he,Res.bind_ok,hx,if_neg (by simp)]
   ·rw[if_neg h92]
    by_cases hs:b=91\/b=93\/b=94\/b=45
    ·rw[if_pos (by rcases hs with h|h|h|h<;>simp[h])]
     dsimp only
     unfold aI aO
     rw[cY hb,decide_eq_false h92,hb]
     have hm:b∈dY:=by rcases hs with h|h|h|h<;>(subst h;decide)
     simp[hm,Res.bind]
    ·have hneg:¬(b=91\/b=93\/b=94\/b=45\/(b.toNat:Int)< -1):=by
      rintro (h|h|h|h|h)
      ·exact hs (.inl h)
      ·exact hs (.inr (.inl h))
      ·exact hs (.inr (.inr (.inl h)))
      ·exact hs (.inr (.inr (.inr h)))
      ·omega
     rw[if_neg hneg]
     dsimp only
     refine⟨b,rfl,?_⟩
     unfold aI aO
     rw[cY hb,decide_eq_false h92,hb]
     have hm:b∉dY:=fun hm=>by
      simp only[dY,List.mem_cons,List.not_mem_nil,or_false]at hm
      rcases hm with h|h|h|h|h
      ·exact h92 h
      ·exact hs (.inl h)
      ·exact hs (.inr (.inl h))
      ·exact hs (.inr (.inr (.inl h)))
      ·exact hs (.inr (.inr (.inr h)))
     simp[hm,h128,Res.bind]
theorem vZ (t:ByteArray) (a:UInt8) (s:RS):match cR t (a.toNat:Int) s with
  |.bad s'=>au t a s= .bad s'
  |.ok none s'=>False
  |.ok (some n) s'=>∃e:UInt8,e.toNat=n/\au t a s= .ok e s':=by
 unfold cR
 cases hb:ai t s.k with
 |none=>
  dsimp only
  unfold au
  dsimp only
  rw[gR hb,Bool.and_false,if_neg (by simp),hb]
 |some b=>
  dsimp only
  by_cases h128:128<=b.toNat
  ·rw[if_pos h128]
   dsimp only
   have h92:b≠92:=fun e=>by subst e;revert h128;decide
   unfold au aO
   dsimp only
   rw[cY hb,decide_eq_false h92,Bool.and_false,if_neg (by simp),hb]
   simp[h128]
  ·rw[if_neg h128]
   by_cases h92:b=92
   ·rw[if_pos h92]
    by_cases hlo:(125:Int)<(a.toNat:Int)
    ·rw[if_pos hlo]
     dsimp only
     unfold au
     dsimp only
     rw[decide_eq_false (by omega),Bool.false_and,if_neg (by simp),hb]
     have h9:b.toNat<a.toNat:=by rw[h92];show 92<a.toNat;omega
     simp[h9]
    ·rw[if_neg hlo]
     have hesc:(decide (a.toNat<=125)&&ac t s 92)=true:=by rw[decide_eq_true (by omega),cY hb,decide_eq_true h92];rfl
     cases he:an t s.up with
     |bad s'=>
      dsimp only
      unfold au
      dsimp only
      rw[if_pos hesc]
      unfold an at he
      cases hb2:ai t s.up.k with
      |none=>rw[hb2]at he;cases he;rfl
      |some c=>
       rw[hb2]at he
       dsimp only at he ⊢
       split at he
       ·cases he
       ·next hm=>
        split at he
        ·cases he
         by_cases hc:c.toNat<a.toNat
         ·rw[if_pos hc]
         ·rw[if_neg hc,if_pos hesc,if_neg hm]
        ·cases he
     |ok x s'=>
      obtain⟨hfl,hs'⟩:=fo he
      have he2:=he
      unfold an at he2
      cases hb2:ai t s.up.k with
      |none=>rw[hb2]at he2;cases he2
      |some c=>
       rw[hb2]at he2
       dsimp only at he2
       have hpair:au t a s=if c.toNat<a.toNat then .bad s.up else if c∈eh then .ok c s.up.up else .bad s.up:=by
        unfold au
        dsimp only
        rw[if_pos hesc,hb2]
        dsimp only
        rw[if_pos hesc]
       dsimp only
       cases hx:x.2.2 with
       |true=>
        obtain⟨h1,h2⟩:=hfl hx
        rw[hb2]at h1
        cases h1
        simp only[if_true]
        by_cases hc:x.2.1.toNat<a.toNat
        ·rw[if_pos ⟨by omega,by omega⟩]
         dsimp only
         rw[hpair,if_pos hc]
        ·rw[if_neg (by omega)]
         dsimp only
         exact⟨_,rfl,by rw[hpair,if_neg hc,if_pos h2,hs']⟩
       |false=>
        simp only[Bool.false_eq_true,if_false]
        rw[if_pos ⟨by omega,by omega⟩]
        dsimp only
        rw[hpair]
        split at he2
        ·cases he2;simp at hx
        ·next hm=>
         rw[if_neg hm]
         split<;>rfl
   ·rw[if_neg h92]
    have hesc:¬(decide (a.toNat<=125)&&ac t s 92)=true:=by rw[cY hb,decide_eq_false h92,Bool.and_false];simp
    have hpair:au t a s=if b.toNat<a.toNat then .bad s else aO t dY s:=by
     unfold au
     dsimp only
     rw[if_neg hesc,hb]
     dsimp only
     rw[if_neg hesc]
    by_cases hbad:b=91\/b=93\/b=94\/b=45\/(b.toNat:Int)<(a.toNat:Int)
    ·rw[if_pos hbad]
     dsimp only
     rw[hpair]
     by_cases hc:b.toNat<a.toNat
     ·rw[if_pos hc]
     ·rw[if_neg hc]
      unfold aO
      rw[hb]
      have hm:b∈dY:=by
       rcases hbad with h|h|h|h|h
       ·subst h;decide
       ·subst h;decide
       ·subst h;decide
       ·subst h;decide
       ·omega
      simp[hm]
    ·rw[if_neg hbad]
     dsimp only
     refine⟨b,rfl,?_⟩
     rw[hpair,if_neg (fun h=>hbad (.inr (.inr (.inr (.inr (by omega))))))]
     unfold aO
     rw[hb]
     have hm:b∉dY:=fun hm=>by
      simp only[dY,List.mem_cons,List.not_mem_nil,or_false]at hm
      rcases hm with h|h|h|h|h
      ·exact h92 h
      ·exact hbad (.inl h)
      ·exact hbad (.inr (.inl h))
      ·exact hbad (.inr (.inr (.inl h)))
      ·exact hbad (.inr (.inr (.inr (.inl h))))
     simp[hm,h128]
end Go.Proofs.YtfnanjbleifjkaaGreatDoor.G
