import Derived.Deep.DeepCutAuto
import Derived.Test.YtfnanjbleifjkaaGreatDoorM19
set_option linter.unusedVariables false
set_option linter.unusedSimpArgs false
set_option maxHeartbeats 4000000
set_option maxRecDepth 100000
namespace Go.Proofs.YtfnanjbleifjkaaGreatDoor.G
variable {E xs:List Value} {bs:List Bool} {w w':World} {b base n p r y:Nat} {t:ByteArray} {s:RS} {bad:Bool} {hv:Int}
open Go.RowKit
def sB (bs:List Bool):List Value:=bs.map Value.bool
theorem ah (bs:List Bool):(sB bs).length=bs.length:=by simp[sB]
theorem ax (bs:List Bool):∀u∈sB bs,u.oneCell'=true:=fun u hu=>by
 simp only[sB,List.mem_map]at hu
 obtain⟨b,_,rfl⟩:=hu
 rfl
theorem Am (bs:List Bool) (j:Nat):(sB bs)[j]? =(bs[j]?).map Value.bool:=by simp[sB]
theorem zS (bs:List Bool) (j:Nat) (b:Bool):(sB bs).set j (.bool b)=sB (bs.set j b):=by simp[sB,List.map_set]
def noB:List Bool:=List.replicate 129 false
theorem am (h:∀u∈xs,u.oneCell'=true):xs.toArray.all (·.oneCell')=true:=by
 rw[List.all_toArray,List.all_eq_true]
 exact h
theorem aC (h:bs.length=129):(Tryz.prog.info? 213).map (·.size)=some (sB bs).length:=by rw[ah,h];kernel_rfl
theorem az (h:bs.length=129):(Tryz.prog.info? 213).map (·.size)=some (sB bs).toArray.size:=by rw[List.size_toArray];exact aC h
def SB (w:World) (b:Nat) (bs:List Bool):Prop:=BK w b (.cells (sB bs).toArray 213 (0,0))/\bs.length=129
theorem SB.ex {l:List Nat} (h:SB w b bs) (hx:Ex l w w') (hn:b∉l):SB w' b bs:=⟨h.1.ex hx hn,h.2⟩
theorem SB.cell (h:SB w b bs) (j:Nat) (hj:j<129):∃x,bs[j]? =some x/\w.cell? ⟨b,j,none⟩=some (.bool x):=by
 refine⟨_,List.getElem?_eq_getElem (by rw[h.2];exact hj),?_⟩
 rw[h.1.all.1 j,List.getElem?_toArray,Am,List.getElem?_eq_getElem (by rw[h.2];exact hj)]
 rfl
theorem SB.set (h:SB w b bs) (j:Nat) (x:Bool):SB (w.setCell ⟨b,j,none⟩ (.bool x)) b (bs.set j x):=⟨by rw[<-zS];exact h.1.selfL j _,by rw[List.length_set];exact h.2⟩
theorem SB.new (w:World) (bs:List Bool) (h:bs.length=129):SB (w.alloc (Obj.cells (sB bs).toArray 213)) w.heap.size bs:=⟨BK.new _ _,h⟩
theorem SB.store (h:SB w b bs) {cs:List Bool} (hc:cs.length=129):SB (w.setRow b (sB cs).toArray) b cs:=⟨setRow_heap _ _ _ _ _ _ h.1,hc⟩
theorem SB.load (h:SB w b bs):(loadVar 213 ⟨b,0,none⟩).run Tryz.prog w= .ok (.agg (sB bs).toArray) w:=run_loadVar_mid w _ 0 _ (sB bs) _ h.1.rangeL Tryz.underlying213 rfl (aC h.2)
def iB (bs:List Bool) (j:Nat):List Bool:=(bs.take j).map (!·)++bs.drop j
theorem lY (bs:List Bool) (j:Nat) (x:Bool) (h:(iB bs j)[j]? =some x) (hj:j<bs.length):(iB bs j).set j (!x)=iB bs (j+1):=by
 have hl:((bs.take j).map (!·)).length=j:=by simp;omega
 unfold iB at h ⊢
 rw[List.getElem?_append_right (by omega),hl,Nat.sub_self,List.getElem?_drop,Nat.add_zero]at h
 rw[List.set_append_right _ _ (by omega),hl,Nat.sub_self,List.drop_eq_getElem_cons hj,List.set_cons_zero,List.take_add_one,List.getElem?_eq_getElem hj]
 rw[List.getElem?_eq_getElem hj]at h
 rw[Option.some.inj h]
 simp
theorem uX (bs:List Bool) (h:bs.length=129) (x:Bool) (hx:(iB bs 128)[128]? =some x):(iB bs 128).set 128 (!x)=bs.map (!·):=by
 rw[lY bs 128 x hx (by omega)]
 unfold iB
 rw[List.take_of_length_le (by omega),List.drop_eq_nil_of_le (by omega),List.append_nil]
theorem dC (bs:List Bool) (w:World) (hb:bs.length=129):
  Calls Tryz.prog 248 #[.agg (sB bs).toArray] w fun e w'=>e= .returned (.agg (sB (bs.map (!·))).toArray)/\Ex [] w w':=by
 obtain⟨S,hS⟩:=exq (sB bs)
 have hw1:SB (w.alloc (Obj.cells S.toArray 213)) w.heap.size bs:=by rw[hS];exact SB.new w bs hb
 rw[<-hS]
 have HW1:=aa hw1
 clear hw1 hS
 go_enter Tryz.func248,Tryz.ntmps248
 go_wp2_with fail
 generalize hw2:World.alloc _ _=w2
 have hs2:SB w2 w.heap.size bs:=by rw[<-hw2];exact HW1.O.ex ((Ex.refl [] _).alloc _) (by simp)
 have hr2:SB w2 (w.heap.size+1) noB:=by
  have h9:BK w2 (w.alloc (Obj.cells S.toArray 213)).heap.size (.cells (sB noB).toArray 213 (0,0)):=by rw[<-hw2];exact BK.new _ _
  rw[World.size_alloc]at h9
  exact⟨h9,rfl⟩
 have hx2:Ex [] w w2:=by rw[<-hw2];exact ((Ex.refl _ _).alloc _).alloc _
 have HS2:=aa hs2
 have HR2:=aa hr2
 have HX2:=aa hx2
 clear hw2 hs2 hr2 hx2
 go_loopg [3] 128 (fun gk i wr=>∃j:Nat,j+gk=128/\i= .int .i64 j/\SB wr w.heap.size (iB bs j)/\SB wr (w.heap.size+1) noB/\Ex [] w wr)
 case atStart=>exact⟨0,by omega,rfl,by simpa[iB]using HS2.O,HR2.O,HX2.O⟩
 case round=>
  obtain⟨j,hj,rfl,hs,hr,hx⟩:=hrel
  have HS:=aa hs
  have HR:=aa hr
  have HX:=aa hx
  have hlt:=hs.1.lt
  have hlt2:=hr.1.lt
  have hfz:=hs.1.all.2
  cases gk with
  |zero=>
   obtain rfl:j=128:=by omega
   obtain⟨x,hx1,hc⟩:=hs.cell 128 (by omega)
   have hend:=uX bs hb x hx1
   have hs3:SB (wr.setCell ⟨w.heap.size,128,none⟩ (.bool (!x))) w.heap.size (bs.map (!·)):=by rw[<-hend];exact hs.set 128 _
   have hr3:SB (wr.setCell ⟨w.heap.size,128,none⟩ (.bool (!x))) (w.heap.size+1) noB:=⟨hr.1.set (by simp) _,hr.2⟩
   have hx3:Ex [] w (wr.setCell ⟨w.heap.size,128,none⟩ (.bool (!x))):=hx.setCell (.inr (by simp)) _
   obtain⟨w3,hw3⟩:=exq (wr.setCell ⟨w.heap.size,128,none⟩ (.bool (!x)))
   rw[<-hw3]at hs3 hr3 hx3
   have HW3:=aa hw3
   have HS3:=aa hs3
   have HR3:=aa hr3
   have HX3:=aa hx3
   have hb2:(bs.map (!·)).length=129:=by simp[hb]
   clear hs hr hx hx1 hend hs3 hr3 hx3 hw3 hj
   obtain⟨T,hT⟩:=exq (sB (bs.map (!·)))
   have HI:Hid ((Tryz.prog.info? 213).map (·.size)=some T.length):=by rw[hT];exact aC hb2
   have HI2:Hid ((Tryz.prog.info? 213).map (·.size)=some T.toArray.size):=by rw[hT];exact az hb2
   have HAL:Hid (T.toArray.all (·.oneCell')=true):=by rw[hT];exact am (ax _)
   have HT:=aa hT
   have HRG:Hid (World.rangeAt w3 (w.heap.size) 0 T):=by rw[hT];exact HS3.O.1.rangeL
   have HOLD:Hid ((sB noB).toArray.size=T.toArray.size):=by show _=_;rw[List.size_toArray,List.size_toArray,hT,ah,ah,hb2,HR3.O.2]
   clear hT
   go_wp2_with (first
    |(rw[<-HW3.O];refine wpList_load_mid rfl 213 _ rfl (w.heap.size) 0 rfl T _ HRG.O Tryz.underlying213 rfl HI.O ?_)
    |(refine wpList_store_row rfl 213 _ _ rfl (w.heap.size+1) T.toArray rfl rfl 213 _ HR3.O.1 HI2.O HOLD.O HAL.O ?_))
   have hs4:SB (w3.setRow (w.heap.size+1) T.toArray) (w.heap.size+1) (bs.map (!·)):=by rw[HT.O];exact HR3.O.store hb2
   have hl4:=hs4.load
   rw[<-HT.O]at hl4
   refine bodyPost_ret (aq rfl rfl hl4) rfl ⟨by rw[HT.O],HX3.O.setRow (.inr (by omega)) _⟩
  |succ g=>
   obtain⟨x,hx1,hc⟩:=hs.cell j (by omega)
   have hj128:(j:Int)<128:=by omega
   have hst:=lY bs j x hx1 (by omega)
   have HS3:Hid (SB (wr.setCell ⟨w.heap.size,j,none⟩ (.bool (!x))) w.heap.size (iB bs (j+1))):=by rw[<-hst];exact hs.set j _
   have HR3:Hid (SB (wr.setCell ⟨w.heap.size,j,none⟩ (.bool (!x))) (w.heap.size+1) noB):=⟨hr.1.set (by simp) _,hr.2⟩
   have HX3:Hid (Ex [] w (wr.setCell ⟨w.heap.size,j,none⟩ (.bool (!x)))):=hx.setCell (.inr (by simp)) _
   clear hs hr hx hx1 hst
   go_wp2_with fail
   go_roundg g
   case measure=>omega
   case rel=>exact⟨j+1,by omega,by simp,HS3.O,HR3.O,HX3.O⟩
def gO (c:Nat):List Bool:=noB.set c true
theorem cC (c:Nat):(gO c).length=129:=by simp[gO,noB]
theorem pw (c:Nat) (w:World) (hc:c<128):
  Calls Tryz.prog 225 #[.int .u8 (c:Int)] w fun e w'=>e= .returned (.agg (sB (gO c)).toArray)/\Ex [] w w':=by
 have hci:(c:Int)<128:=by omega
 go_enter Tryz.func225,Tryz.ntmps225
 go_upto_region 2 with fail
 generalize hw2:World.alloc _ _=w2
 have hr2:SB w2 w.heap.size noB:=by rw[<-hw2];exact SB.ex (⟨BK.new _ _,rfl⟩:SB (w.alloc (Obj.cells (sB noB).toArray 213)) w.heap.size noB) ((Ex.refl [] _).alloc _) (by simp)
 have hs2:SB w2 (w.heap.size+1) noB:=by
  have h9:BK w2 (w.alloc (Obj.cells (sB noB).toArray 213)).heap.size (.cells (sB noB).toArray 213 (0,0)):=by rw[<-hw2];exact BK.new _ _
  rw[World.size_alloc]at h9
  exact⟨h9,rfl⟩
 have hx2:Ex [] w w2:=by rw[<-hw2];exact ((Ex.refl _ _).alloc _).alloc _
 have hlt:=hs2.1.lt
 have hfz:=hs2.1.all.2
 obtain⟨x,hx1,hcl⟩:=hs2.cell c (by omega)
 have hs3:SB (w2.setCell ⟨w.heap.size+1,c,none⟩ (.bool true)) (w.heap.size+1) (gO c):=hs2.set c true
 have hr3:SB (w2.setCell ⟨w.heap.size+1,c,none⟩ (.bool true)) w.heap.size noB:=⟨hr2.1.set (by simp) _,hr2.2⟩
 have hx3:Ex [] w (w2.setCell ⟨w.heap.size+1,c,none⟩ (.bool true)):=hx2.setCell (.inr (by simp)) _
 obtain⟨w3,hw3⟩:=exq (w2.setCell ⟨w.heap.size+1,c,none⟩ (.bool true))
 rw[<-hw3]at hs3 hr3 hx3
 have HW3:=aa hw3
 have HS3:=aa hs3
 have HR3:=aa hr3
 have HX3:=aa hx3
 have hb2:=cC c
 clear hw2 hr2 hs2 hx2 hs3 hr3 hx3 hw3 hx1
 obtain⟨T,hT⟩:=exq (sB (gO c))
 have HI:Hid ((Tryz.prog.info? 213).map (·.size)=some T.length):=by rw[hT];exact aC hb2
 have HI2:Hid ((Tryz.prog.info? 213).map (·.size)=some T.toArray.size):=by rw[hT];exact az hb2
 have HAL:Hid (T.toArray.all (·.oneCell')=true):=by rw[hT];exact am (ax _)
 have HT:=aa hT
 have HRG:Hid (World.rangeAt w3 (w.heap.size+1) 0 T):=by rw[hT];exact HS3.O.1.rangeL
 have HOLD:Hid ((sB noB).toArray.size=T.toArray.size):=by show _=_;rw[List.size_toArray,List.size_toArray,hT,ah,ah,hb2,HR3.O.2]
 clear hT
 go_wp2_with (first
  |(rw[<-HW3.O];refine wpList_load_mid rfl 213 _ rfl (w.heap.size+1) 0 rfl T _ HRG.O Tryz.underlying213 rfl HI.O ?_)
  |(refine wpList_store_row rfl 213 _ _ rfl (w.heap.size) T.toArray rfl rfl 213 _ HR3.O.1 HI2.O HOLD.O HAL.O ?_))
 have hs4:SB (w3.setRow (w.heap.size) T.toArray) (w.heap.size) (gO c):=by rw[HT.O];exact HR3.O.store hb2
 have hl4:=hs4.load
 rw[<-HT.O]at hl4
 refine bodyPost_ret (aq rfl rfl hl4) rfl ⟨by rw[HT.O],HX3.O.setRow (.inr (by omega)) _⟩
theorem wm (w:World):
  Calls Tryz.prog 220 #[] w fun e w'=>e= .returned (.agg (sB (noB.map (!·))).toArray)/\Ex [] w w':=by
 go_enter Tryz.func220,Tryz.ntmps220
 go_upto_region 2 with fail
 generalize hw2:World.alloc _ _=w2
 have hr2:SB w2 w.heap.size noB:=by rw[<-hw2];exact SB.ex (⟨BK.new _ _,rfl⟩:SB (w.alloc (Obj.cells (sB noB).toArray 213)) w.heap.size noB) ((Ex.refl [] _).alloc _) (by simp)
 have hs2:SB w2 (w.heap.size+1) noB:=by
  have h9:BK w2 (w.alloc (Obj.cells (sB noB).toArray 213)).heap.size (.cells (sB noB).toArray 213 (0,0)):=by rw[<-hw2];exact BK.new _ _
  rw[World.size_alloc]at h9
  exact⟨h9,rfl⟩
 have hx2:Ex [] w w2:=by rw[<-hw2];exact ((Ex.refl _ _).alloc _).alloc _
 have HS2:=aa hs2
 have HR2:=aa hr2
 have HX2:=aa hx2
 obtain⟨Z,hZ⟩:=exq (sB noB)
 have HRZ:Hid (World.rangeAt w2 (w.heap.size+1) 0 Z):=by rw[hZ];exact hs2.1.rangeL
 have HIZ:Hid ((Tryz.prog.info? 213).map (·.size)=some Z.length):=by rw[hZ];exact aC rfl
 have KI:=aa (dC noB w2 rfl)
 rw[<-hZ]at KI
 clear hw2 hs2 hr2 hx2 hZ
 go_wp2_with (refine wpList_load_mid rfl 213 _ rfl (w.heap.size+1) 0 rfl Z _ HRZ.O Tryz.underlying213 rfl HIZ.O ?_)
 refine KI.O.mono ?_
 rintro e w3 ⟨rfl,hx⟩
 have HR3:=aa (HR2.O.ex hx (by simp))
 have HX3:=aa (HX2.O.trans hx)
 have hb2:(noB.map (!·)).length=129:=rfl
 clear hx
 obtain⟨T,hT⟩:=exq (sB (noB.map (!·)))
 have HI:Hid ((Tryz.prog.info? 213).map (·.size)=some T.length):=by rw[hT];exact aC hb2
 have HI2:Hid ((Tryz.prog.info? 213).map (·.size)=some T.toArray.size):=by rw[hT];exact az hb2
 have HAL:Hid (T.toArray.all (·.oneCell')=true):=by rw[hT];exact am (ax _)
 have HT:=aa hT
 have HOLD:Hid ((sB noB).toArray.size=T.toArray.size):=by show _=_;rw[List.size_toArray,List.size_toArray,hT,ah,ah,hb2];rfl
 rw[<-hT]
 clear hT
 go_wp2_with (refine wpList_store_row rfl 213 _ _ rfl w.heap.size T.toArray rfl rfl 213 _ HR3.O.1 HI2.O HOLD.O HAL.O ?_)
 have hs4:SB (w3.setRow w.heap.size T.toArray) w.heap.size (noB.map (!·)):=by rw[HT.O];exact HR3.O.store hb2
 have hl4:=hs4.load
 rw[<-HT.O]at hl4
 refine bodyPost_ret (aq rfl rfl hl4) rfl ⟨by rw[HT.O],HX3.O.setRow (.inr (by omega)) _⟩
def mn (us bs:List Bool) (j:Nat):List Bool:=(List.zipWith (·|| ·) us bs).take j++us.drop j
theorem oE (us bs:List Bool) (j:Nat) (x y:Bool) (hl:us.length=bs.length) (h:(mn us bs j)[j]? =some x) (hy:bs[j]? =some y) (hj:j<us.length):(mn us bs j).set j (x||y)=mn us bs (j+1):=by
 have hz:(List.zipWith (·|| ·) us bs).length=us.length:=by simp[hl]
 have hlen:((List.zipWith (·|| ·) us bs).take j).length=j:=by rw[List.length_take,hz];omega
 unfold mn at h ⊢
 rw[List.getElem?_append_right (by omega),hlen,Nat.sub_self,List.getElem?_drop,Nat.add_zero,List.getElem?_eq_getElem hj]at h
 rw[List.set_append_right _ _ (by omega),hlen,Nat.sub_self,List.drop_eq_getElem_cons hj,List.set_cons_zero,List.take_add_one,List.getElem?_eq_getElem (by omega),List.getElem_zipWith]
 rw[List.getElem?_eq_getElem (by omega)]at hy
 rw[Option.some.inj h,Option.some.inj hy]
 simp
theorem xi (us bs:List Bool) (ha:us.length=129) (hb:bs.length=129) (x y:Bool) (hx:(mn us bs 128)[128]? =some x) (hy:bs[128]? =some y):(mn us bs 128).set 128 (x||y)=List.zipWith (·|| ·) us bs:=by
 rw[oE us bs 128 x y (by omega) hx hy (by omega)]
 unfold mn
 rw[List.take_of_length_le (by simp[ha,hb]),List.drop_eq_nil_of_le (by omega),List.append_nil]
theorem oR (us bs:List Bool) (w:World) (ha:us.length=129) (hb:bs.length=129):
  Calls Tryz.prog 247 #[.agg (sB us).toArray,.agg (sB bs).toArray] w fun e w'=>e= .returned (.agg (sB (List.zipWith (·|| ·) us bs)).toArray)/\Ex [] w w':=by
 obtain⟨S,hS⟩:=exq (sB us)
 obtain⟨R,hR⟩:=exq (sB bs)
 have HW1:Hid (∀o1 o2,SB (((w.alloc (Obj.cells S.toArray 213)).alloc o1).alloc o2) w.heap.size us):=fun o1 o2=>by rw[hS];exact (SB.new w us ha).ex (((Ex.refl [] _).alloc _).alloc _) (by simp)
 have HW2:Hid (∀o2,SB (((w.alloc (Obj.cells S.toArray 213)).alloc (Obj.cells R.toArray 213)).alloc o2) (w.heap.size+1) bs):=fun o2=>by
  have h9:=SB.new (w.alloc (Obj.cells S.toArray 213)) bs hb
  rw[World.size_alloc]at h9
  rw[hR]
  exact h9.ex ((Ex.refl [] _).alloc _) (by simp)
 rw[<-hS,<-hR]
 clear hS hR
 go_enter Tryz.func247,Tryz.ntmps247
 go_wp2_with fail
 generalize hw2:World.alloc _ _=w2
 have hs2:SB w2 w.heap.size us:=by rw[<-hw2];exact HW1.O _ _
 have ht2:SB w2 (w.heap.size+1) bs:=by rw[<-hw2];exact HW2.O _
 have hr2:SB w2 (w.heap.size+1+1) noB:=by
  have h9:BK w2 ((w.alloc (Obj.cells S.toArray 213)).alloc (Obj.cells R.toArray 213)).heap.size (.cells (sB noB).toArray 213 (0,0)):=by rw[<-hw2];exact BK.new _ _
  rw[World.size_alloc,World.size_alloc]at h9
  exact⟨h9,rfl⟩
 have hx2:Ex [] w w2:=by rw[<-hw2];exact (((Ex.refl _ _).alloc _).alloc _).alloc _
 have HS2:=aa hs2
 have HT2:=aa ht2
 have HR2:=aa hr2
 have HX2:=aa hx2
 clear hw2 hs2 ht2 hr2 hx2
 go_loopg [5] 128 (fun gk i wr=>∃j:Nat,j+gk=128/\i= .int .i64 j/\SB wr w.heap.size (mn us bs j)/\SB wr (w.heap.size+1) bs/\SB wr (w.heap.size+1+1) noB/\Ex [] w wr)
 case atStart=>exact⟨0,by omega,rfl,by simpa[mn]using HS2.O,HT2.O,HR2.O,HX2.O⟩
 case round=>
  obtain⟨j,hj,rfl,hs,ht,hr,hx⟩:=hrel
  have hlt:=hs.1.lt
  have hlt1:=ht.1.lt
  have hlt2:=hr.1.lt
  have hfz:=hs.1.all.2
  have key:∀(x y:Bool),(mn us bs j)[j]? =some x ->bs[j]? =some y ->j<129 ->SB (wr.setCell ⟨w.heap.size,j,none⟩ (.bool (x||y))) w.heap.size ((mn us bs j).set j (x||y))/\SB (wr.setCell ⟨w.heap.size,j,none⟩ (.bool (x||y))) (w.heap.size+1) bs/\SB (wr.setCell ⟨w.heap.size,j,none⟩ (.bool (x||y))) (w.heap.size+1+1) noB/\Ex [] w (wr.setCell ⟨w.heap.size,j,none⟩ (.bool (x||y))):=fun x y _ _ _=>⟨hs.set j _,⟨ht.1.set (by simp) _,ht.2⟩,⟨hr.1.set (by simp;omega) _,hr.2⟩,hx.setCell (.inr (by simp)) _⟩
  have hjj:j<129:=by omega
  obtain⟨x,hx1,hc⟩:=hs.cell j hjj
  obtain⟨y,hy1,hcy⟩:=ht.cell j hjj
  obtain⟨k1,k2,k3,k4⟩:=key x y hx1 hy1 hjj
  cases gk with
  |zero=>
   obtain rfl:j=128:=by omega
   have hend:=xi us bs ha hb x y hx1 hy1
   rw[hend]at k1
   obtain⟨w3,hw3⟩:=exq (wr.setCell ⟨w.heap.size,128,none⟩ (.bool (x||y)))
   rw[<-hw3]at k1 k2 k3 k4
   have HW3:=aa hw3
   have HS3:=aa k1
   have HR3:=aa k3
   have HX3:=aa k4
   have hb2:(List.zipWith (·|| ·) us bs).length=129:=by simp[ha,hb]
   clear hs ht hr hx hx1 hy1 hend k1 k2 k3 k4 hw3 hj key hjj
   cases x
   all_goals
    simp only[Bool.false_or,Bool.true_or]at HW3
    obtain⟨T,hT⟩:=exq (sB (List.zipWith (·|| ·) us bs))
    have HI:Hid ((Tryz.prog.info? 213).map (·.size)=some T.length):=by rw[hT];exact aC hb2
    have HI2:Hid ((Tryz.prog.info? 213).map (·.size)=some T.toArray.size):=by rw[hT];exact az hb2
    have HAL:Hid (T.toArray.all (·.oneCell')=true):=by rw[hT];exact am (ax _)
    have HT:=aa hT
    have HRG:Hid (World.rangeAt w3 (w.heap.size) 0 T):=by rw[hT];exact HS3.O.1.rangeL
    have HOLD:Hid ((sB noB).toArray.size=T.toArray.size):=by show _=_;rw[List.size_toArray,List.size_toArray,hT,ah,ah,hb2,HR3.O.2]
    clear hT
    go_wp2_with (first
     |(rw[<-HW3.O];refine wpList_load_mid rfl 213 _ rfl (w.heap.size) 0 rfl T _ HRG.O Tryz.underlying213 rfl HI.O ?_)
     |(refine wpList_store_row rfl 213 _ _ rfl (w.heap.size+1+1) T.toArray rfl rfl 213 _ HR3.O.1 HI2.O HOLD.O HAL.O ?_))
    have hs4:SB (w3.setRow (w.heap.size+1+1) T.toArray) (w.heap.size+1+1) (List.zipWith (·|| ·) us bs):=by rw[HT.O];exact HR3.O.store hb2
    have hl4:=hs4.load
    rw[<-HT.O]at hl4
    refine bodyPost_ret (aq rfl rfl hl4) rfl ⟨by rw[HT.O],HX3.O.setRow (.inr (by omega)) _⟩
  |succ g=>
   have hst:=oE us bs j x y (by omega) hx1 hy1 (by omega)
   rw[hst]at k1
   have hj128:(j:Int)<128:=by omega
   have K1:=aa k1
   have K2:=aa k2
   have K3:=aa k3
   have K4:=aa k4
   clear hs ht hr hx hx1 hy1 hst k1 k2 k3 k4 key hjj
   cases x
   all_goals
    simp only[Bool.false_or,Bool.true_or]at K1 K2 K3 K4
    go_wp2_with fail
    go_roundg g
    case measure=>omega
    case rel=>exact⟨j+1,by omega,by simp,K1.O,K2.O,K3.O,K4.O⟩
theorem dP (x:Int) (w:World):
  Calls Tryz.prog 107 #[.int .u8 x] w fun e w'=>e= .returned (.bool (cz x))/\w'=w:=by
 unfold cz
 by_cases h1:48<=x
 ·by_cases h2:x<=57
  ·go_enter Tryz.func107,Tryz.ntmps107
   go_wp2
   go_ret
   exact⟨by simp[h1,h2],rfl⟩
  ·go_enter Tryz.func107,Tryz.ntmps107
   go_wp2
   go_ret
   exact⟨by simp[h1,h2],rfl⟩
 ·go_enter Tryz.func107,Tryz.ntmps107
  go_wp2
  go_ret
  exact⟨by simp;omega,rfl⟩
theorem dD (x:Int) (w:World):
  Calls Tryz.prog 151 #[.int .u8 x] w fun e w'=>e= .returned (.bool (et x))/\w'=w:=by
 unfold et
 by_cases h1:97<=x<;>by_cases h2:x<=122<;>by_cases h3:65<=x<;>by_cases h4:x<=90
 all_goals
  first
  |(exfalso;omega)
  |(go_enter Tryz.func151,Tryz.ntmps151;go_wp2;go_ret;exact⟨by simp[h1,h2,h3,h4],rfl⟩)
def e7:List UInt8:=[92,46,43,42,63,40,41,124,91,93,123,125,94,36]
def plB (c:UInt8):Bool:=decide (c.toNat<128)&& !e7.contains c
theorem vo {j:Nat} (hj:j<14) (c:UInt8):(e7.drop j).contains c=((e7[j]'hj==c)||(e7.drop (j+1)).contains c):=by
 rw[List.drop_eq_getElem_cons hj,List.contains_cons]
 congr 1
 exact Bool.beq_comm
theorem oG (c:UInt8) (w:World):Calls Tryz.prog 222 #[.int .u8 (c.toNat:Int)] w fun e w'=>e= .returned (.bool (plB c))/\w'=w:=by
 go_enter Tryz.func222,Tryz.ntmps222
 go_wp2_with fail
 go_loopg [3] 14 (fun gk i wr=>∃j:Nat,j+gk=14/\i= .int .i64 j/\e7.contains c=(e7.drop j).contains c/\wr=w)
 case atStart=>exact⟨0,by omega,rfl,rfl,rfl⟩
 case round=>
  obtain⟨j,hj,rfl,hsp,rfl⟩:=hrel
  have HSP:=aa hsp
  clear hsp
  cases gk with
  |zero=>
   obtain rfl:j=14:=by omega
   go_wp2_with fail
   go_ret
   refine⟨?_,rfl⟩
   have HR:plB c=decide ((c.toNat:Int)<128):=by
    unfold plB
    rw[HSP.O,show (e7.drop 14).contains c=false from rfl,Bool.not_false,Bool.and_true,decide_eq_decide]
    omega
   rw[HR]
   rfl
  |succ g=>
   have hj14:(j:Int)<14:=by omega
   have hjn:j<14:=by omega
   have hst:=vo hjn c
   have hjs:j<(⟨#[92,46,43,42,63,40,41,124,91,93,123,125,94,36]⟩:ByteArray).size:=hjn
   have hget:(⟨#[92,46,43,42,63,40,41,124,91,93,123,125,94,36]⟩:ByteArray)[j]'hjs=e7[j]'hjn:=rfl
   obtain⟨d,hd⟩:=exq (e7[j]'hjn)
   rw[<-hd]at hst hget
   cases he:(d==c)with
   |true=>
    have hdc:d=c:=by simpa using he
    have he2:((d.toNat:Int)==(c.toNat:Int))=true:=by rw[hdc];simp
    have HR:Hid (plB c=false):=by show plB c=false;unfold plB;rw[HSP.O,hst,he];simp
    clear hst hd
    go_wp2_with fail
    go_ret
    exact⟨by rw[HR.O];rfl,rfl⟩
   |false=>
    have he2:((d.toNat:Int)==(c.toNat:Int))=false:=by
     rw[Bool.eq_false_iff]at he ⊢
     intro h9
     exact he (by have h8:d.toNat=c.toNat:=(by have:=beq_iff_eq.1 h9;omega);exact beq_iff_eq.2 (UInt8.toNat_inj.1 h8))
    have HR:Hid (e7.contains c=(e7.drop (j+1)).contains c):=by show _=_;rw[HSP.O,hst,he];simp
    clear hst hd
    go_wp2_with fail
    go_roundg g
    case measure=>omega
    case rel=>exact⟨j+1,by omega,by simp,HR.O,rfl⟩
theorem yP (x:Int) (w:World):Calls Tryz.prog 106 #[.int .u8 x] w fun e w'=>e= .returned (.bool (dq x))/\w'=w:=by
 unfold dq
 have K1:=aa (fun w=>dD x w)
 have K2:=aa (fun w=>dP x w)
 obtain⟨l,hl⟩:=exq (et x)
 obtain⟨d,hd⟩:=exq (cz x)
 rw[<-hl]at K1 ⊢
 rw[<-hd]at K2 ⊢
 clear hl hd
 go_enter Tryz.func106,Tryz.ntmps106
 go_wp2_with fail
 refine (K1.O _).mono ?_
 rintro e w1 ⟨rfl,rfl⟩
 go_wp2_with fail
 refine (K2.O _).mono ?_
 rintro e w2 ⟨rfl,rfl⟩
 cases l
 ·cases d
  ·go_wp2_with fail
   go_ret
   exact⟨by simp,rfl⟩
  ·go_wp2_with fail
   go_ret
   exact⟨by simp,rfl⟩
 ·go_wp2_with fail
  go_ret
  exact⟨by simp,rfl⟩
theorem kI (s:ByteArray) (i k:Nat):(s.extract i s.size).data.toList[k]? =s.data.toList[i+k]? :=by
 rw[Lib.extract_data,List.getElem?_take]
 by_cases h:k<s.size-i
 ·rw[if_pos h,List.getElem?_drop]
 ·rw[if_neg h,List.getElem?_eq_none]
  rw[aF];omega
theorem zY (s:ByteArray) (i:Nat):(s.extract i s.size).data.toList.length=s.size-i:=by
 rw[Lib.extract_data,List.length_take,List.length_drop,aF];omega
theorem xz (s:ByteArray) (i j:Nat) (h:i<=j) (hj:j<=s.size) (h1:∀k (hk:k<s.size),i<=k ->k<j ->dq ((s[k]'hk).toNat:Int)=true) (h2:∀hk:j<s.size,dq ((s[j]'hk).toNat:Int)=false):cj (s.extract i s.size)=j-i:=by
 refine eH _ _ (j-i) (fun k hk a ha=> ?_) (by rw[zY];omega) (fun a ha=> ?_)
 ·rw[kI,cy (show i+k<s.size by omega)]at ha
  cases ha
  exact h1 _ _ (by omega) (by omega)
 ·rw[kI,show i+(j-i)=j by omega]at ha
  rcases Nat.lt_or_ge j s.size with g|g
  ·rw[cy g]at ha
   cases ha
   exact h2 g
  ·rw[List.getElem?_eq_none (by rw[aF];omega)]at ha;cases ha
theorem zP (s:ByteArray) (i:Nat) (w:World) (hi:i<=s.size) (hs:s.size<=9223372036854775807):
  Calls Tryz.prog 62 #[.string s,.int .i64 (i:Int)] w fun e w'=>e= .returned (.string (s.extract i (i+cj (s.extract i s.size))))/\w'=w:=by
 obtain⟨N,hN⟩:=exq (cj (s.extract i s.size))
 have HN:=aa hN
 rw[<-hN]
 clear hN
 obtain⟨n,hn⟩:=exq (s.size-i)
 go_enter Tryz.func62,Tryz.ntmps62
 go_wp2_with fail
 go_loopg [5] n (fun gk k wr=>∃j:Nat,j+gk=s.size/\i<=j/\k= .int .i64 j/\(∀k (h:k<s.size),i<=k ->k<j ->dq ((s[k]'h).toNat:Int)=true)/\wr=w)
 case atStart=>exact⟨i,by omega,Nat.le_refl _,rfl,fun k h h1 h2=>by omega,rfl⟩
 case round=>
  obtain⟨j,hj,hij,rfl,hw,rfl⟩:=hrel
  have HW:=aa hw
  clear hw
  cases gk with
  |zero=>
   have hr:N=j-i:=by
    rw[HN.O]
    exact xz s i j hij (by omega) HW.O (fun hk=>by omega)
   obtain rfl:j=i+N:=by omega
   have h1:¬(((i+N:Nat):Int)<(s.size:Int)):=by omega
   have h2:((i+N:Nat):Int)<=(s.size:Int):=by omega
   have h3:(i:Int)<=((i+N:Nat):Int):=by omega
   clear hj hr hij
   go_wp2_with fail
   go_ret
   exact⟨by simp,rfl⟩
  |succ g=>
   have hjl:j<s.size:=by omega
   have h1:(j:Int)<(s.size:Int):=by omega
   have hstep:dq ((s[j]'hjl).toNat:Int)=true ->∀k (h:k<s.size),i<=k ->k<j+1 ->dq ((s[k]'h).toNat:Int)=true:=fun hb k hk hle hlt=>by
    by_cases hkj:k=j
    ·subst hkj;exact hb
    ·exact HW.O k hk hle (by omega)
   have HS:=aa hstep
   obtain⟨x,hx⟩:∃x:Int,x=((s[j]'hjl).toNat:Int):=⟨_,rfl⟩
   have HX:=aa hx
   clear hstep hx
   go_wp2_with fail
   refine (yP _ _).mono ?_
   rintro e w' ⟨rfl,rfl⟩
   rw[<-show x=((s[j]'hjl).toNat:Int)from HX.O]
   cases hl:dq x with
   |true=>
    have HL:=aa hl
    clear hl
    go_wp2_with fail
    go_roundg g
    case measure=>omega
    case rel=>exact⟨j+1,by omega,by omega,by simp,HS.O (by rw[<-HX.O];exact HL.O),rfl⟩
   |false=>
    have HL:=aa hl
    clear hl
    have hr:N=j-i:=by
     rw[HN.O]
     exact xz s i j hij (by omega) HW.O (fun hk=>by rw[<-HX.O];exact HL.O)
    obtain rfl:j=i+N:=by omega
    have h2:((i+N:Nat):Int)<=(s.size:Int):=by omega
    have h3:(i:Int)<=((i+N:Nat):Int):=by omega
    clear hj hr hij
    go_wp2_with fail
    go_ret
    exact⟨by simp,rfl⟩
def eS (h:Int) (b:UInt8):Int:=IntKind.wrap .u64 (bits .xor .u64 h (IntKind.wrap .u64 (b.toNat:Int))*1099511628211)
def lQ (s:ByteArray):Int:=s.data.toList.foldl eS 14695981039346656037
theorem iP {α β:Type} (f:β ->α ->β) (b:β) (l:List α) (j:Nat) (a:α) (h:l[j]? =some a):(l.take (j+1)).foldl f b=f ((l.take j).foldl f b) a:=by
 rw[List.take_add_one,h,List.foldl_append]
 rfl
theorem wJ (s:ByteArray) (w:World) (hs:s.size<=9223372036854775807):
  Calls Tryz.prog 28 #[.string s] w fun e w'=>e= .returned (.int .u64 (lQ s))/\w'=w:=by
 obtain⟨R,hR⟩:=exq (lQ s)
 rw[<-hR]
 have HR:=aa hR
 clear hR
 obtain⟨n,hn⟩:=exq (s.size)
 go_enter Tryz.func28,Tryz.ntmps28
 go_wp2_with fail
 go_loopg [3,7] n (fun gk h i wr=>∃(j:Nat) (x:Int),j+gk=n/\i= .int .i64 j/\h= .int .u64 x/\x=(s.data.toList.take j).foldl eS 14695981039346656037/\wr=w)
 case atStart=>exact⟨0,_,by omega,rfl,rfl,rfl,rfl⟩
 case round=>
  obtain⟨j,x,hj,rfl,rfl,hx,rfl⟩:=hrel
  have HX:=aa hx
  clear hx
  cases gk with
  |zero=>
   have hr:R=x:=by rw[HR.O,HX.O,List.take_of_length_le (by rw[aF];omega)];rfl
   subst hr
   have h1:¬((j:Int)<(s.size:Int)):=by omega
   go_wp2_with fail
   go_ret
   exact⟨rfl,rfl⟩
  |succ g=>
   have hjl:j<s.size:=by omega
   have h1:(j:Int)<(s.size:Int):=by omega
   have hst:=iP eS 14695981039346656037 s.data.toList j _ (cy hjl)
   rw[<-HX.O]at hst
   have HST:=aa hst
   clear hst
   go_wp2_with fail
   go_roundg g
   case measure=>omega
   case rel=>exact⟨j+1,_,by omega,by simp,rfl,HST.O.symm,rfl⟩
def oV (nm:List (ByteArray×Nat)) (ns:List ByteArray):Prop:=∀a:ByteArray,a.size≠0 ->(aD nm a=ns.any (fun x=>decide (x=a)))/\∀i,ns[i]? =some a↔(a,i+1)∈nm
def RK (w:World) (p r:Nat) (t:ByteArray) (s:RS) (bad:Bool) (hv:Int):Prop:=
 BK w p (.cells #[.string t,.int .i64 (s.k:Int),.bool bad,.pointer (some ⟨r,0,none⟩),.bool s.f,.int .i64 (s.d:Int),.int .i64 hv] 135 (0,0))
structure RN (w:World) (r base:Nat) (s:RS) (n:Nat):Prop where
 ex:∃av nv xs ns,BK w r (.cells #[av,.int .i64 0,.int .i64 (s.g:Int),nv] 133 (0,0))/\w.ownsRow base 215 134 av n xs/\w.ownsRow base 9 1 nv (ns:List ByteArray).length (ns.map Value.string)/\oV s.nm ns/\ns.length=s.g
structure RA (w:World) (p r base:Nat) (t:ByteArray) (s:RS) (bad:Bool) (hv:Int) (n:Nat):Prop where
 rk:RK w p r t s bad hv
 rn:RN w r base s n
 pb:base<=p
 rb:base<=r
 bw:base<=w.heap.size
def aL (w:World) (r y:Nat) (E:List Value):Prop:=∃base av ro gi nv n xs,BK w r (.cells #[av,ro,gi,nv] 133 (0,0))/\w.ownsRow base 215 134 av n xs/\y<n/\(xs.drop (y*134)).take 134=E
theorem aH {e:TypeId} {size:Nat} {v:Value} (h:w.ownsRow base e size v n xs) (hb:∀g,v.ownBlock=some g ->w'.heap[g]? =w.heap[g]?):w'.ownsRow base e size v n xs:=by
 refine⟨h.1,?_⟩
 rcases h.2 with hn|⟨g,cap,cur,rfl,hg,hgg,rest⟩
 ·exact .inl hn
 ·exact .inr ⟨g,cap,cur,rfl,hg,(hb g rfl).trans hgg,rest⟩
theorem xm {e:TypeId} {size:Nat} {v:Value} (h:w.ownsRow base e size v n xs) {g:Nat} (hg:v.ownBlock=some g):∃cs fz,w.heap[g]? =some (.cells cs e fz):=by
 rcases h.2 with⟨hn,_⟩|⟨g2,cap,cur,hv2,_,hgg,_⟩
 ·rw[hn]at hg;simp[Value.ownBlock]at hg
 ·rw[hv2]at hg
  simp[Value.ownBlock]at hg
  subst hg
  exact⟨_,_,hgg⟩
theorem aL.typed (h:aL w r y E) (hb:∀(g:Nat) (cs:Array Value) (ty:TypeId) (fz:Nat×Nat),w.heap[g]? =some (Obj.cells cs ty fz) ->ty=133\/ty=215 ->w'.heap[g]? =w.heap[g]?):aL w' r y E:=by
 obtain⟨base,av,ro,gi,nv,n,xs,h1,h2,h3,h4⟩:=h
 have k1:BK w' r (.cells #[av,ro,gi,nv] 133 (0,0)):=by
  unfold BK at h1 ⊢
  rw[hb r _ _ _ h1 (.inl rfl)]
  exact h1
 refine⟨base,av,ro,gi,nv,n,xs,k1,aH h2 (fun g hg=> ?_),h3,h4⟩
 obtain⟨cs,fz,hgg⟩:=xm h2 hg
 exact hb _ _ _ _ hgg (.inr rfl)
theorem aL.ex (h:aL w r y E) (hx:Ex [] w w'):aL w' r y E:=h.typed (fun g cs ty fz hg _=>hx.block g (BK.lt (show BK w g _ from hg)) (by simp))
theorem aL.but (h:aL w r y E) {cs:Array Value} {ty:TypeId} {fz:Nat×Nat} (hb:BK w b (.cells cs ty fz)) (h1:ty≠133) (h2:ty≠215) (hx:∀g,g<w.heap.size ->g≠b ->w'.heap[g]? =w.heap[g]?):aL w' r y E:=h.typed (fun g cs' ty' fz' hg hty=>hx g (BK.lt (show BK w g _ from hg)) (fun e=>by
 subst e
 unfold BK at hb
 rw[hb]at hg
 cases hg
 rcases hty with e|e
 ·exact h1 e
 ·exact h2 e))
theorem aL.self (h:aL w r y E) (o:Nat) (u:Value) (ho:0<o/\o<4):aL (w.setCell ⟨r,o,none⟩ u) r y E:=by
 obtain⟨base,av,ro,gi,nv,n,xs,h1,h2,h3,h4⟩:=h
 have k1:=h1.self o u
 have k2:(w.setCell ⟨r,o,none⟩ u).ownsRow base 215 134 av n xs:=aH h2 (fun g hg=>Below.heap_setCell _ _ _ _ (fun e=>by
  obtain⟨cs,fz,hgg⟩:=xm h2 hg
  dsimp only at e
  subst e
  unfold BK at h1
  rw[h1]at hgg
  injection hgg with hgg
  injection hgg with _ h9 _
  exact absurd h9 (by decide)))
 rcases (show o=1\/o=2\/o=3 by omega)with rfl|rfl|rfl
 all_goals
  simp only[List.setIfInBounds_toArray,List.set_cons_zero,List.set_cons_succ]at k1
  exact⟨base,av,_,_,_,n,xs,k1,k2,h3,h4⟩
structure KS (r:Nat) (w w':World):Prop where
 sb:∀b bs,SB w b bs ->SB w' b bs
 rw:∀y E,aL w r y E ->aL w' r y E
instance (r:Nat) (w w':World):CoeFun (KS r w w') (fun _=>∀b bs,SB w b bs ->SB w' b bs):=⟨KS.sb⟩
theorem KS.refl (w:World):KS r w w:=⟨fun _ _ h=>h,fun _ _ h=>h⟩
theorem KS.trans {a b c:World} (h:KS r a b) (k:KS r b c):KS r a c:=⟨fun x bs hx=>k.sb x bs (h.sb x bs hx),fun y E hy=>k.rw y E (h.rw y E hy)⟩
theorem KS.ex (h:Ex [] w w'):KS r w w':=⟨fun x bs hx=>hx.ex h (by simp),fun y E hy=>hy.ex h⟩
theorem RK.drewN (h:RK w p r t s bad hv) (k:Nat):RK (w.drewN k) p r t s bad hv:=h
theorem RA.drewN (h:RA w p r base t s bad hv n) (k:Nat):RA (w.drewN k) p r base t s bad hv n:=⟨h.rk,⟨h.rn.ex⟩,h.pb,h.rb,h.bw⟩
theorem RA.ex (h:RA w p r base t s bad hv n) (hx:Ex [] w w'):RA w' p r base t s bad hv n:=by
 obtain⟨av,nv,xs,ns,h1,h2,h3,h4,h5⟩:=h.rn.ex
 exact⟨h.rk.ex hx (by simp),⟨av,nv,xs,ns,h1.ex hx (by simp),aU h2 hx (by simp),aU h3 hx (by simp),h4,h5⟩,h.pb,h.rb,Nat.le_trans h.bw hx.size⟩
theorem KS.set {cs:Array Value} (h:BK w p (.cells cs 135 (0,0))) (o:Nat) (u:Value):KS r w (w.setCell ⟨p,o,none⟩ u):=⟨fun b bs hb=>by
 have hne:b≠p:=fun e=>by
  subst e
  have h1:=hb.1
  unfold BK at h1 h
  rw[h]at h1
  injection h1 with h1
  injection h1 with _ h2 _
  exact absurd h2 (by decide)
 exact⟨hb.1.set hne _,hb.2⟩,fun y E hy=>hy.but h (by decide) (by decide) (fun g _ hne=>Below.heap_setCell _ _ _ _ hne)⟩
theorem RA.setCell {s':RS} {bad':Bool} {hv':Int} (h:RA w p r base t s bad hv n) (o:Nat) (u:Value)
  (he:(#[.string t,.int .i64 (s.k:Int),.bool bad,.pointer (some ⟨r,0,none⟩),.bool s.f,.int .i64 (s.d:Int),.int .i64 hv]:Array Value).setIfInBounds o u= #[.string t,.int .i64 (s'.k:Int),.bool bad',.pointer (some ⟨r,0,none⟩),.bool s'.f,.int .i64 (s'.d:Int),.int .i64 hv']) (hg:s'.g=s.g) (hnm:s'.nm=s.nm):
  RA (w.setCell ⟨p,o,none⟩ u) p r base t s' bad' hv' n/\KS r w (w.setCell ⟨p,o,none⟩ u)/\EB base [] w (w.setCell ⟨p,o,none⟩ u):=by
 obtain⟨av,nv,xs,ns,h1,h2,h3,h4,h5⟩:=h.rn.ex
 have hk:=h.rk
 unfold RK at hk
 have hpr:r≠p:=fun e=>by
  subst e
  unfold BK at h1 hk
  rw[h1]at hk
  injection hk with hk
  injection hk with _ h9 _
  exact absurd h9 (by decide)
 have hrow:∀{e:TypeId} {size:Nat} {v:Value} {m:Nat} {ys:List Value},e≠135 ->w.ownsRow base e size v m ys ->(w.setCell ⟨p,o,none⟩ u).ownsRow base e size v m ys:=fun {e size v m ys} hne ho=>by
  refine aH ho (fun g hv=>Below.heap_setCell _ _ _ _ (fun e2=> ?_))
  dsimp only at e2
  subst e2
  rcases ho.2 with⟨hn,_⟩|⟨g2,cap,cur,hv2,hb,hgg,_⟩
  ·rw[hn]at hv;simp[Value.ownBlock]at hv
  ·rw[hv2]at hv
   simp[Value.ownBlock]at hv
   subst hv
   unfold BK at hk
   rw[hgg]at hk
   injection hk with hk
   injection hk with _ h9 _
   exact hne h9
 refine⟨⟨?_,⟨av,nv,xs,ns,?_,hrow (by decide) h2,hrow (by decide) h3,by rw[hnm];exact h4,by rw[hg];exact h5⟩,h.pb,h.rb,by simpa[World.setCell]using h.bw⟩,KS.set hk _ _,(EB.refl _ _ _).setCell (.inr h.pb) _⟩
 ·unfold RK
  have:=hk.self o u
  rw[he]at this
  exact this
 ·rw[hg]
  exact h1.set hpr _
def aj (t:ByteArray) (k:Nat):Nat:=match ai t k with
 |some b=>b.toNat
 |none=>0
theorem dh (h:RK w p r t s bad hv):
  Calls Tryz.prog 95 #[.pointer (some ⟨p,0,none⟩)] w fun e w'=>e= .returned (.int .u8 (aj t s.k:Int))/\∃q,w'=w.drewN q:=by
 have h0:w.cell? ⟨p,0,none⟩=some (.string t):=by rw[h.all.1 0];rfl
 have h1:w.cell? ⟨p,1,none⟩=some (.int .i64 (s.k:Int)):=by rw[h.all.1 1];rfl
 have hl:=h.lt
 obtain⟨k,hk⟩:=exq (s.k)
 rw[<-hk]at h1 ⊢
 clear h hk
 by_cases hlt:k<t.size
 ·have hlti:(k:Int)<(t.size:Int):=by omega
  have e:aj t k=(t[k]'hlt).toNat:=by
   unfold aj ai
   rw[Array.getElem?_eq_getElem hlt]
   rfl
  have HE:=aa e
  clear e
  go_enter Tryz.func95,Tryz.ntmps95
  go_wp2_with fail
  go_quiet (fail)
  go_wp2_with fail
  go_quiet (fail)
  go_wp2_with fail
  go_ret
  exact⟨by rw[HE.O];rfl,_,(World.drewN_drewN _ _ _)⟩
 ·have hlti:¬(k:Int)<(t.size:Int):=by omega
  have e:aj t k=0:=by
   unfold aj ai
   rw[Array.getElem?_eq_none (by show t.size<=k;omega)]
  have HE:=aa e
  clear e
  go_enter Tryz.func95,Tryz.ntmps95
  go_wp2_with fail
  go_quiet (fail)
  go_wp2_with fail
  go_ret
  exact⟨by rw[HE.O];rfl,_,rfl⟩
theorem gK (h:RA w p r base t s bad hv n):
  Calls Tryz.prog 223 #[.pointer (some ⟨p,0,none⟩)] w fun e w'=>e= .returned (.int .i64 0)/\RA w' p r base t s true hv n/\KS r w w'/\EB base [] w w':=by
 have hc:=h.rk.all.1 2
 have hf:=h.rk.all.2 2
 have hl:=h.rk.lt
 have H:=aa (h.setCell (s':=s) (bad':=true) (hv':=hv) 2 (.bool true) rfl rfl rfl)
 have hc2:w.cell? ⟨p,2,none⟩=some (.bool bad):=hc
 clear h hc
 go_enter Tryz.func223,Tryz.ntmps223
 go_wp2_with fail
 go_ret
 exact⟨rfl,H.O⟩
end Go.Proofs.YtfnanjbleifjkaaGreatDoor.G
