import Derived.Test.YtfnanjbleifjkaaGreatDoorM24
set_option linter.unusedVariables false
set_option linter.unusedSimpArgs false
set_option maxHeartbeats 8000000
set_option maxRecDepth 100000
namespace Go.Proofs.YtfnanjbleifjkaaGreatDoor.G
variable {cs:List Bool} {c:Nat}
open Go.RowKit
def ej (c:Nat):Bool:=[100,119,115,68,87,83].contains c
theorem sd (c:Nat) (hc:ej c=false) (hc2:c<256) (w:World):
  Calls Tryz.prog 249 #[.int .u8 (c:Int)] w fun e w'=>∃cs,cs.length=129/\e= .returned (.tuple #[.agg (sB cs).toArray,.bool false])/\Ex [] w w':=by
 have hne:∀k:Nat,k∈[100,119,115,68,87,83] ->((c:Int)==(k:Int))=false:=fun k hk=>by
  rw[beq_eq_false_iff_ne]
  intro e
  have:c=k:=by omega
  subst this
  have:ej c=true:=by unfold ej;simpa using hk
  rw[hc]at this
  cases this
 have n1:((c:Int)==100)=false:=hne 100 (by simp)
 have n2:((c:Int)==119)=false:=hne 119 (by simp)
 have n3:((c:Int)==115)=false:=hne 115 (by simp)
 have n4:((c:Int)==68)=false:=hne 68 (by simp)
 have n5:((c:Int)==87)=false:=hne 87 (by simp)
 have n6:((c:Int)==83)=false:=hne 83 (by simp)
 clear hne hc
 go_enter Tryz.func249,Tryz.ntmps249
 go_upto_region 2 with fail
 generalize hw2:World.alloc _ _=w2
 have hr2:SB w2 w.heap.size noB:=by rw[<-hw2];exact SB.ex (⟨BK.new _ _,rfl⟩:SB (w.alloc (Obj.cells (sB noB).toArray 213)) w.heap.size noB) ((Ex.refl [] _).alloc _) (by simp)
 have hs2:SB w2 (w.heap.size+1) noB:=by
  have h9:BK w2 (w.alloc (Obj.cells (sB noB).toArray 213)).heap.size (.cells (sB noB).toArray 213 (0,0)):=by rw[<-hw2];exact BK.new _ _
  rw[World.size_alloc]at h9
  exact⟨h9,rfl⟩
 have hx2:Ex [] w w2:=by rw[<-hw2];exact ((Ex.refl _ _).alloc _).alloc _
 have HS2:=aa hs2
 have HR2:=aa hr2
 have HX2:=aa hx2
 clear hw2 hs2 hr2 hx2
 go_wp2_with fail
 go_loopg [6] 128 (fun gk i wr=>∃(j:Nat) (cs:List Bool),j+gk=128/\j=0/\i= .int .i64 j/\SB wr (w.heap.size+1) cs/\SB wr w.heap.size noB/\Ex [] w wr)
 case atStart=>exact⟨0,noB,by omega,rfl,rfl,HS2.O,HR2.O,HX2.O⟩
 case round=>
  obtain⟨j,cs,hj,hj0,rfl,hs,hr,hx⟩:=hrel
  have hlt:=hs.1.lt
  have hlt2:=hr.1.lt
  have hfz:=hs.1.all.2
  have hb3:=hs.2
  cases gk with
  |zero=>exact absurd hj0 (by omega)
  |succ g=>
   have hj128:(j:Int)<128:=by omega
   have hwr:IntKind.u8.wrap (j:Int)=(j:Int):=by rw[IntKind.wrap_u8];omega
   have HS3:=aa hs
   have HR3:=aa hr
   have HX3:=aa hx
   clear hs hr hx
   go_wp2_with fail
   refine (dP _ _).mono ?_
   rintro e w9 ⟨rfl,rfl⟩
   go_wp2_with fail
   refine (dD _ _).mono ?_
   rintro e w3 ⟨rfl,rfl⟩
   obtain⟨T,hT⟩:=exq (sB cs)
   have HI:Hid ((Tryz.prog.info? 213).map (·.size)=some T.length):=by rw[hT];exact aC hb3
   have HI2:Hid ((Tryz.prog.info? 213).map (·.size)=some T.toArray.size):=by rw[hT];exact az hb3
   have HAL:Hid (T.toArray.all (·.oneCell')=true):=by rw[hT];exact am (ax _)
   have HT:=aa hT
   have HRG:Hid (World.rangeAt w3 (w.heap.size+1) 0 T):=by rw[hT];exact HS3.O.1.rangeL
   have HOLD:Hid ((sB noB).toArray.size=T.toArray.size):=by show _=_;rw[List.size_toArray,List.size_toArray,hT,ah,ah,hb3,HR3.O.2]
   clear hT
   go_wp2_with (first
    |(refine wpList_load_mid rfl 213 _ rfl (w.heap.size+1) 0 rfl T _ HRG.O Tryz.underlying213 rfl HI.O ?_)
    |(refine wpList_store_row rfl 213 _ _ rfl (w.heap.size) T.toArray rfl rfl 213 _ HR3.O.1 HI2.O HOLD.O HAL.O ?_))
   have hs4:SB (w3.setRow (w.heap.size) T.toArray) (w.heap.size) cs:=by rw[HT.O];exact HR3.O.store hb3
   have hl4:=hs4.load
   rw[<-HT.O]at hl4
   refine bodyPost_ret (ap rfl rfl hl4) rfl ⟨_,hb3,by rw[HT.O];rfl,HX3.O.setRow (.inr (by omega)) _⟩
def dj (c i:Nat):Bool:=if c=100 then cz (i:Int)else if c=119 then (cz (i:Int)||et (i:Int)||((i:Int)==95))else ((i:Int)==32||(i:Int)==9||(i:Int)==10||(i:Int)==13)
theorem fV {j:Nat} {b:Bool} (h:∀i,i<=128 ->hB cs i=(decide (i<j)&&dj c i)) (hl:cs.length=129) (hj:j<128) (hb:b=dj c j):∀i,i<=128 ->hB (cs.set j b) i=(decide (i<j+1)&&dj c i):=fun i hi=>by
 rw[lP _ _ _ (by omega)]
 by_cases h1:i=j
 ·subst h1
  rw[if_pos rfl,decide_eq_true (by omega),hb];rfl
 ·rw[if_neg h1,h i hi]
  congr 1
  rw[decide_eq_decide]
  omega
theorem fU (c:Nat):∀i,i<=128 ->hB noB i=(decide (i<0)&&dj c i):=fun i hi=>by
 rw[decide_eq_false (by omega),Bool.false_and]
 unfold hB noB
 rw[List.getD_eq_getElem?_getD,List.getElem?_replicate]
 split<;>rfl
theorem jS (cs:List Bool) (hl:cs.length=129) (i:Nat) (hi:i<=128):hB (cs.map (!·)) i= !hB cs i:=by
 unfold hB
 rw[List.getD_eq_getElem?_getD,List.getD_eq_getElem?_getD,List.getElem?_map,List.getElem?_eq_getElem (by omega)]
 rfl
theorem vO (w:World):
  Calls Tryz.prog 249 #[.int .u8 (100:Int)] w fun e w'=>∃cs,cs.length=129/\e= .returned (.tuple #[.agg (sB cs).toArray,.bool true])/\Ex [] w w'/\∀i,i<=128 ->hB cs i=(decide (i<128)&&dj 100 i):=by
 go_enter Tryz.func249,Tryz.ntmps249
 go_upto_region 2 with fail
 generalize hw2:World.alloc _ _=w2
 have hr2:SB w2 w.heap.size noB:=by rw[<-hw2];exact SB.ex (⟨BK.new _ _,rfl⟩:SB (w.alloc (Obj.cells (sB noB).toArray 213)) w.heap.size noB) ((Ex.refl [] _).alloc _) (by simp)
 have hs2:SB w2 (w.heap.size+1) noB:=by
  have h9:BK w2 (w.alloc (Obj.cells (sB noB).toArray 213)).heap.size (.cells (sB noB).toArray 213 (0,0)):=by rw[<-hw2];exact BK.new _ _
  rw[World.size_alloc]at h9
  exact⟨h9,rfl⟩
 have hx2:Ex [] w w2:=by rw[<-hw2];exact ((Ex.refl _ _).alloc _).alloc _
 have HS2:=aa hs2
 have HR2:=aa hr2
 have HX2:=aa hx2
 clear hw2 hs2 hr2 hx2
 go_wp2_with fail
 go_loopg [6] 128 (fun gk i wr=>∃(j:Nat) (cs:List Bool),j+gk=128/\i= .int .i64 j/\SB wr (w.heap.size+1) cs/\SB wr w.heap.size noB/\Ex [] w wr/\∀i,i<=128 ->hB cs i=(decide (i<j)&&dj 100 i))
 case atStart=>exact⟨0,noB,by omega,rfl,HS2.O,HR2.O,HX2.O,fU 100⟩
 case round=>
  obtain⟨j,cs,hj,rfl,hs,hr,hx,hct⟩:=hrel
  have HCT:=aa hct
  clear hct
  have hlt:=hs.1.lt
  have hlt2:=hr.1.lt
  have hfz:=hs.1.all.2
  have hb3:=hs.2
  cases gk with
  |zero=>
   obtain rfl:j=128:=by omega
   have HS3:=aa hs
   have HR3:=aa hr
   have HX3:=aa hx
   obtain⟨w3,hw3⟩:=exq (wr)
   subst hw3
   clear hs hr hx
   obtain⟨T,hT⟩:=exq (sB cs)
   have HI:Hid ((Tryz.prog.info? 213).map (·.size)=some T.length):=by rw[hT];exact aC hb3
   have HI2:Hid ((Tryz.prog.info? 213).map (·.size)=some T.toArray.size):=by rw[hT];exact az hb3
   have HAL:Hid (T.toArray.all (·.oneCell')=true):=by rw[hT];exact am (ax _)
   have HT:=aa hT
   have HRG:Hid (World.rangeAt w3 (w.heap.size+1) 0 T):=by rw[hT];exact HS3.O.1.rangeL
   have HOLD:Hid ((sB noB).toArray.size=T.toArray.size):=by show _=_;rw[List.size_toArray,List.size_toArray,hT,ah,ah,hb3,HR3.O.2]
   clear hT
   go_wp2_with (first
    |(refine wpList_load_mid rfl 213 _ rfl (w.heap.size+1) 0 rfl T _ HRG.O Tryz.underlying213 rfl HI.O ?_)
    |(refine wpList_store_row rfl 213 _ _ rfl (w.heap.size) T.toArray rfl rfl 213 _ HR3.O.1 HI2.O HOLD.O HAL.O ?_))
   have hs4:SB (w3.setRow (w.heap.size) T.toArray) (w.heap.size) cs:=by rw[HT.O];exact HR3.O.store hb3
   have hl4:=hs4.load
   rw[<-HT.O]at hl4
   refine bodyPost_ret (ap rfl rfl hl4) rfl ⟨_,hb3,by rw[HT.O];rfl,HX3.O.setRow (.inr (by omega)) _,HCT.O⟩
  |succ g=>
   have hj128:(j:Int)<128:=by omega
   have hwr:IntKind.u8.wrap (j:Int)=(j:Int):=by rw[IntKind.wrap_u8];omega
   obtain⟨x,_,hcx⟩:=hs.cell j (by omega)
   have key:∀b:Bool,SB (wr.setCell ⟨w.heap.size+1,j,none⟩ (.bool b)) (w.heap.size+1) (cs.set j b)/\SB (wr.setCell ⟨w.heap.size+1,j,none⟩ (.bool b)) w.heap.size noB/\Ex [] w (wr.setCell ⟨w.heap.size+1,j,none⟩ (.bool b)):=fun b=>⟨hs.set _ b,⟨hr.1.set (by simp) _,hr.2⟩,hx.setCell (.inr (by simp)) _⟩
   have KEY:=aa key
   clear hs hr hx key
   go_wp2_with fail
   refine (dP _ _).mono ?_
   rintro e w9 ⟨rfl,rfl⟩
   go_wp2_with fail
   refine (dD _ _).mono ?_
   rintro e w9 ⟨rfl,rfl⟩
   obtain⟨d,hd⟩:=exq (cz (j:Int))
   obtain⟨l,hl⟩:=exq (et (j:Int))
   try rw[<-hd]
   try rw[<-hl]
   have HD:=aa hd
   have HL:=aa hl
   have HCT2:=aa (fun (b:Bool) (hb:b=dj 100 j)=>fV HCT.O hb3 (by omega) hb)
   clear hd hl
   go_wp2_with fail
   go_roundg g
   case measure=>omega
   case rel=>exact⟨j+1,_,by omega,by simp,(KEY.O _).1,(KEY.O _).2.1,(KEY.O _).2.2,HCT2.O _ (by unfold dj;(first|exact HD.O|simp[<-show _=cz _ from HD.O,<-show _=et _ from HL.O]|simp[*]))⟩
theorem vQ (w:World):
  Calls Tryz.prog 249 #[.int .u8 (119:Int)] w fun e w'=>∃cs,cs.length=129/\e= .returned (.tuple #[.agg (sB cs).toArray,.bool true])/\Ex [] w w'/\∀i,i<=128 ->hB cs i=(decide (i<128)&&dj 119 i):=by
 go_enter Tryz.func249,Tryz.ntmps249
 go_upto_region 2 with fail
 generalize hw2:World.alloc _ _=w2
 have hr2:SB w2 w.heap.size noB:=by rw[<-hw2];exact SB.ex (⟨BK.new _ _,rfl⟩:SB (w.alloc (Obj.cells (sB noB).toArray 213)) w.heap.size noB) ((Ex.refl [] _).alloc _) (by simp)
 have hs2:SB w2 (w.heap.size+1) noB:=by
  have h9:BK w2 (w.alloc (Obj.cells (sB noB).toArray 213)).heap.size (.cells (sB noB).toArray 213 (0,0)):=by rw[<-hw2];exact BK.new _ _
  rw[World.size_alloc]at h9
  exact⟨h9,rfl⟩
 have hx2:Ex [] w w2:=by rw[<-hw2];exact ((Ex.refl _ _).alloc _).alloc _
 have HS2:=aa hs2
 have HR2:=aa hr2
 have HX2:=aa hx2
 clear hw2 hs2 hr2 hx2
 go_wp2_with fail
 go_loopg [6] 128 (fun gk i wr=>∃(j:Nat) (cs:List Bool),j+gk=128/\i= .int .i64 j/\SB wr (w.heap.size+1) cs/\SB wr w.heap.size noB/\Ex [] w wr/\∀i,i<=128 ->hB cs i=(decide (i<j)&&dj 119 i))
 case atStart=>exact⟨0,noB,by omega,rfl,HS2.O,HR2.O,HX2.O,fU 119⟩
 case round=>
  obtain⟨j,cs,hj,rfl,hs,hr,hx,hct⟩:=hrel
  have HCT:=aa hct
  clear hct
  have hlt:=hs.1.lt
  have hlt2:=hr.1.lt
  have hfz:=hs.1.all.2
  have hb3:=hs.2
  cases gk with
  |zero=>
   obtain rfl:j=128:=by omega
   have HS3:=aa hs
   have HR3:=aa hr
   have HX3:=aa hx
   obtain⟨w3,hw3⟩:=exq (wr)
   subst hw3
   clear hs hr hx
   obtain⟨T,hT⟩:=exq (sB cs)
   have HI:Hid ((Tryz.prog.info? 213).map (·.size)=some T.length):=by rw[hT];exact aC hb3
   have HI2:Hid ((Tryz.prog.info? 213).map (·.size)=some T.toArray.size):=by rw[hT];exact az hb3
   have HAL:Hid (T.toArray.all (·.oneCell')=true):=by rw[hT];exact am (ax _)
   have HT:=aa hT
   have HRG:Hid (World.rangeAt w3 (w.heap.size+1) 0 T):=by rw[hT];exact HS3.O.1.rangeL
   have HOLD:Hid ((sB noB).toArray.size=T.toArray.size):=by show _=_;rw[List.size_toArray,List.size_toArray,hT,ah,ah,hb3,HR3.O.2]
   clear hT
   go_wp2_with (first
    |(refine wpList_load_mid rfl 213 _ rfl (w.heap.size+1) 0 rfl T _ HRG.O Tryz.underlying213 rfl HI.O ?_)
    |(refine wpList_store_row rfl 213 _ _ rfl (w.heap.size) T.toArray rfl rfl 213 _ HR3.O.1 HI2.O HOLD.O HAL.O ?_))
   have hs4:SB (w3.setRow (w.heap.size) T.toArray) (w.heap.size) cs:=by rw[HT.O];exact HR3.O.store hb3
   have hl4:=hs4.load
   rw[<-HT.O]at hl4
   refine bodyPost_ret (ap rfl rfl hl4) rfl ⟨_,hb3,by rw[HT.O];rfl,HX3.O.setRow (.inr (by omega)) _,HCT.O⟩
  |succ g=>
   have hj128:(j:Int)<128:=by omega
   have hwr:IntKind.u8.wrap (j:Int)=(j:Int):=by rw[IntKind.wrap_u8];omega
   obtain⟨x,_,hcx⟩:=hs.cell j (by omega)
   have key:∀b:Bool,SB (wr.setCell ⟨w.heap.size+1,j,none⟩ (.bool b)) (w.heap.size+1) (cs.set j b)/\SB (wr.setCell ⟨w.heap.size+1,j,none⟩ (.bool b)) w.heap.size noB/\Ex [] w (wr.setCell ⟨w.heap.size+1,j,none⟩ (.bool b)):=fun b=>⟨hs.set _ b,⟨hr.1.set (by simp) _,hr.2⟩,hx.setCell (.inr (by simp)) _⟩
   have KEY:=aa key
   clear hs hr hx key
   go_wp2_with fail
   refine (dP _ _).mono ?_
   rintro e w9 ⟨rfl,rfl⟩
   go_wp2_with fail
   refine (dD _ _).mono ?_
   rintro e w9 ⟨rfl,rfl⟩
   obtain⟨d,hd⟩:=exq (cz (j:Int))
   obtain⟨l,hl⟩:=exq (et (j:Int))
   try rw[<-hd]
   try rw[<-hl]
   have HD:=aa hd
   have HL:=aa hl
   have HCT2:=aa (fun (b:Bool) (hb:b=dj 119 j)=>fV HCT.O hb3 (by omega) hb)
   clear hd hl
   cases d
   all_goals cases l
   all_goals
    go_wp2_with fail
    go_roundg g
    case measure=>omega
    case rel=>exact⟨j+1,_,by omega,by simp,(KEY.O _).1,(KEY.O _).2.1,(KEY.O _).2.2,HCT2.O _ (by unfold dj;(first|exact HD.O|simp[<-show _=cz _ from HD.O,<-show _=et _ from HL.O]|simp[*]))⟩
theorem vP (w:World):
  Calls Tryz.prog 249 #[.int .u8 (115:Int)] w fun e w'=>∃cs,cs.length=129/\e= .returned (.tuple #[.agg (sB cs).toArray,.bool true])/\Ex [] w w'/\∀i,i<=128 ->hB cs i=(decide (i<128)&&dj 115 i):=by
 go_enter Tryz.func249,Tryz.ntmps249
 go_upto_region 2 with fail
 generalize hw2:World.alloc _ _=w2
 have hr2:SB w2 w.heap.size noB:=by rw[<-hw2];exact SB.ex (⟨BK.new _ _,rfl⟩:SB (w.alloc (Obj.cells (sB noB).toArray 213)) w.heap.size noB) ((Ex.refl [] _).alloc _) (by simp)
 have hs2:SB w2 (w.heap.size+1) noB:=by
  have h9:BK w2 (w.alloc (Obj.cells (sB noB).toArray 213)).heap.size (.cells (sB noB).toArray 213 (0,0)):=by rw[<-hw2];exact BK.new _ _
  rw[World.size_alloc]at h9
  exact⟨h9,rfl⟩
 have hx2:Ex [] w w2:=by rw[<-hw2];exact ((Ex.refl _ _).alloc _).alloc _
 have HS2:=aa hs2
 have HR2:=aa hr2
 have HX2:=aa hx2
 clear hw2 hs2 hr2 hx2
 go_wp2_with fail
 go_loopg [6] 128 (fun gk i wr=>∃(j:Nat) (cs:List Bool),j+gk=128/\i= .int .i64 j/\SB wr (w.heap.size+1) cs/\SB wr w.heap.size noB/\Ex [] w wr/\∀i,i<=128 ->hB cs i=(decide (i<j)&&dj 115 i))
 case atStart=>exact⟨0,noB,by omega,rfl,HS2.O,HR2.O,HX2.O,fU 115⟩
 case round=>
  obtain⟨j,cs,hj,rfl,hs,hr,hx,hct⟩:=hrel
  have HCT:=aa hct
  clear hct
  have hlt:=hs.1.lt
  have hlt2:=hr.1.lt
  have hfz:=hs.1.all.2
  have hb3:=hs.2
  cases gk with
  |zero=>
   obtain rfl:j=128:=by omega
   have HS3:=aa hs
   have HR3:=aa hr
   have HX3:=aa hx
   obtain⟨w3,hw3⟩:=exq (wr)
   subst hw3
   clear hs hr hx
   obtain⟨T,hT⟩:=exq (sB cs)
   have HI:Hid ((Tryz.prog.info? 213).map (·.size)=some T.length):=by rw[hT];exact aC hb3
   have HI2:Hid ((Tryz.prog.info? 213).map (·.size)=some T.toArray.size):=by rw[hT];exact az hb3
   have HAL:Hid (T.toArray.all (·.oneCell')=true):=by rw[hT];exact am (ax _)
   have HT:=aa hT
   have HRG:Hid (World.rangeAt w3 (w.heap.size+1) 0 T):=by rw[hT];exact HS3.O.1.rangeL
   have HOLD:Hid ((sB noB).toArray.size=T.toArray.size):=by show _=_;rw[List.size_toArray,List.size_toArray,hT,ah,ah,hb3,HR3.O.2]
   clear hT
   go_wp2_with (first
    |(refine wpList_load_mid rfl 213 _ rfl (w.heap.size+1) 0 rfl T _ HRG.O Tryz.underlying213 rfl HI.O ?_)
    |(refine wpList_store_row rfl 213 _ _ rfl (w.heap.size) T.toArray rfl rfl 213 _ HR3.O.1 HI2.O HOLD.O HAL.O ?_))
   have hs4:SB (w3.setRow (w.heap.size) T.toArray) (w.heap.size) cs:=by rw[HT.O];exact HR3.O.store hb3
   have hl4:=hs4.load
   rw[<-HT.O]at hl4
   refine bodyPost_ret (ap rfl rfl hl4) rfl ⟨_,hb3,by rw[HT.O];rfl,HX3.O.setRow (.inr (by omega)) _,HCT.O⟩
  |succ g=>
   have hj128:(j:Int)<128:=by omega
   have hwr:IntKind.u8.wrap (j:Int)=(j:Int):=by rw[IntKind.wrap_u8];omega
   obtain⟨x,_,hcx⟩:=hs.cell j (by omega)
   have key:∀b:Bool,SB (wr.setCell ⟨w.heap.size+1,j,none⟩ (.bool b)) (w.heap.size+1) (cs.set j b)/\SB (wr.setCell ⟨w.heap.size+1,j,none⟩ (.bool b)) w.heap.size noB/\Ex [] w (wr.setCell ⟨w.heap.size+1,j,none⟩ (.bool b)):=fun b=>⟨hs.set _ b,⟨hr.1.set (by simp) _,hr.2⟩,hx.setCell (.inr (by simp)) _⟩
   have KEY:=aa key
   clear hs hr hx key
   go_wp2_with fail
   refine (dP _ _).mono ?_
   rintro e w9 ⟨rfl,rfl⟩
   go_wp2_with fail
   refine (dD _ _).mono ?_
   rintro e w9 ⟨rfl,rfl⟩
   obtain⟨d,hd⟩:=exq (cz (j:Int))
   obtain⟨l,hl⟩:=exq (et (j:Int))
   try rw[<-hd]
   try rw[<-hl]
   have HD:=aa hd
   have HL:=aa hl
   have HCT2:=aa (fun (b:Bool) (hb:b=dj 115 j)=>fV HCT.O hb3 (by omega) hb)
   clear hd hl
   cases h1:((j:Int)==32)
   all_goals cases h2:((j:Int)==9)
   all_goals cases h3:((j:Int)==10)
   all_goals
    go_wp2_with fail
    go_roundg g
    case measure=>omega
    case rel=>exact⟨j+1,_,by omega,by simp,(KEY.O _).1,(KEY.O _).2.1,(KEY.O _).2.2,HCT2.O _ (by unfold dj;(first|(rw[if_neg (by decide),if_neg (by decide),h1,h2,h3];(first|rfl|simp))|exact HD.O|simp[<-show _=cz _ from HD.O,<-show _=et _ from HL.O]|simp[*]))⟩
theorem ye (w:World):
  Calls Tryz.prog 249 #[.int .u8 (68:Int)] w fun e w'=>∃cs,cs.length=129/\e= .returned (.tuple #[.agg (sB cs).toArray,.bool true])/\Ex [] w w'/\∀i,i<=128 ->hB cs i= !(decide (i<128)&&dj 100 i):=by
 go_enter Tryz.func249,Tryz.ntmps249
 go_upto_region 2 with fail
 generalize hw2:World.alloc _ _=w2
 have hr2:SB w2 w.heap.size noB:=by rw[<-hw2];exact SB.ex (⟨BK.new _ _,rfl⟩:SB (w.alloc (Obj.cells (sB noB).toArray 213)) w.heap.size noB) ((Ex.refl [] _).alloc _) (by simp)
 have hs2:SB w2 (w.heap.size+1) noB:=by
  have h9:BK w2 (w.alloc (Obj.cells (sB noB).toArray 213)).heap.size (.cells (sB noB).toArray 213 (0,0)):=by rw[<-hw2];exact BK.new _ _
  rw[World.size_alloc]at h9
  exact⟨h9,rfl⟩
 have hx2:Ex [] w w2:=by rw[<-hw2];exact ((Ex.refl _ _).alloc _).alloc _
 have HS2:=aa hs2
 have HR2:=aa hr2
 have HX2:=aa hx2
 clear hw2 hs2 hr2 hx2
 go_wp2_with fail
 go_loopg [6] 128 (fun gk i wr=>∃(j:Nat) (cs:List Bool),j+gk=128/\i= .int .i64 j/\SB wr (w.heap.size+1) cs/\SB wr w.heap.size noB/\Ex [] w wr/\∀i,i<=128 ->hB cs i=(decide (i<j)&&dj 100 i))
 case atStart=>exact⟨0,noB,by omega,rfl,HS2.O,HR2.O,HX2.O,fU 100⟩
 case round=>
  obtain⟨j,cs,hj,rfl,hs,hr,hx,hct⟩:=hrel
  have HCT:=aa hct
  clear hct
  have hlt:=hs.1.lt
  have hlt2:=hr.1.lt
  have hfz:=hs.1.all.2
  have hb3:=hs.2
  cases gk with
  |zero=>
   obtain rfl:j=128:=by omega
   have HS2:=aa hs
   have HR2:=aa hr
   have HX2:=aa hx
   obtain⟨Z,hZ⟩:=exq (sB cs)
   have HRZ:Hid (World.rangeAt wr (w.heap.size+1) 0 Z):=by rw[hZ];exact hs.1.rangeL
   have HIZ:Hid ((Tryz.prog.info? 213).map (·.size)=some Z.length):=by rw[hZ];exact aC hb3
   have KI:=aa (dC cs wr hb3)
   rw[<-hZ]at KI
   have hzl:Z.length=129:=by rw[hZ,ah];exact hb3
   clear hs hr hx hZ
   go_wp2_with (refine wpList_load_mid rfl 213 _ rfl (w.heap.size+1) 0 rfl Z _ HRZ.O Tryz.underlying213 rfl HIZ.O ?_)
   refine KI.O.mono ?_
   rintro e w4 ⟨rfl,hx4⟩
   have hs4:=HS2.O.ex hx4 (by simp)
   have hr4:=HR2.O.ex hx4 (by simp)
   have hx5:=HX2.O.trans hx4
   have hbi:(cs.map (!·)).length=129:=by simp[hb3]
   obtain⟨V,hV⟩:=exq (sB (cs.map (!·)))
   have HIV:Hid ((Tryz.prog.info? 213).map (·.size)=some V.toArray.size):=by rw[hV];exact az hbi
   have HALV:Hid (V.toArray.all (·.oneCell')=true):=by rw[hV];exact am (ax _)
   have HOLDV:Hid ((sB cs).toArray.size=V.toArray.size):=by show _=_;rw[List.size_toArray,List.size_toArray,hV,ah,ah,hbi,hb3]
   have HSV:=aa hs4
   rw[<-hV]
   have hs6:SB (w4.setRow (w.heap.size+1) V.toArray) (w.heap.size+1) (cs.map (!·)):=by rw[hV];exact hs4.store hbi
   have hr6:SB (w4.setRow (w.heap.size+1) V.toArray) w.heap.size noB:=⟨by unfold BK;rw[setRow_other _ _ _ _ (by omega)];exact hr4.1,hr4.2⟩
   have hx6:Ex [] w (w4.setRow (w.heap.size+1) V.toArray):=hx5.setRow (.inr (by omega)) _
   have hl6:=hs6.1.lt
   have hl7:=hr6.1.lt
   obtain⟨w3,hw3⟩:=exq (w4.setRow (w.heap.size+1) V.toArray)
   rw[<-hw3]at hs6 hr6 hx6 hl6 hl7
   have HW3:=aa hw3
   have HS3:=aa hs6
   have HR3:=aa hr6
   have HX3:=aa hx6
   clear hs4 hr4 hx4 hx5 hs6 hr6 hx6 hV hw3
   obtain⟨T,hT⟩:=exq (sB (cs.map (!·)))
   have HI:Hid ((Tryz.prog.info? 213).map (·.size)=some T.length):=by rw[hT];exact aC hbi
   have HI2:Hid ((Tryz.prog.info? 213).map (·.size)=some T.toArray.size):=by rw[hT];exact az hbi
   have HAL:Hid (T.toArray.all (·.oneCell')=true):=by rw[hT];exact am (ax _)
   have HT:=aa hT
   have HRG:Hid (World.rangeAt w3 (w.heap.size+1) 0 T):=by rw[hT];exact HS3.O.1.rangeL
   have HOLD:Hid ((sB noB).toArray.size=T.toArray.size):=by show _=_;rw[List.size_toArray,List.size_toArray,hT,ah,ah,hbi,HR3.O.2]
   clear hT
   go_wp2_with (first
    |(refine wpList_store_row rfl 213 _ _ rfl (w.heap.size+1) V.toArray rfl rfl 213 _ HSV.O.1 HIV.O HOLDV.O HALV.O ?_;rw[<-HW3.O])
    |(refine wpList_load_mid rfl 213 _ rfl (w.heap.size+1) 0 rfl T _ HRG.O Tryz.underlying213 rfl HI.O ?_)
    |(refine wpList_store_row rfl 213 _ _ rfl (w.heap.size) T.toArray rfl rfl 213 _ HR3.O.1 HI2.O HOLD.O HAL.O ?_))
   have hs4:SB (w3.setRow (w.heap.size) T.toArray) (w.heap.size) (cs.map (!·)):=by rw[HT.O];exact HR3.O.store hbi
   have hl4:=hs4.load
   rw[<-HT.O]at hl4
   refine bodyPost_ret (ap rfl rfl hl4) rfl ⟨_,hbi,by rw[HT.O];rfl,HX3.O.setRow (.inr (by omega)) _,fun i hi=>by rw[jS cs hb3 i hi,HCT.O i hi]⟩
  |succ g=>
   have hj128:(j:Int)<128:=by omega
   have hwr:IntKind.u8.wrap (j:Int)=(j:Int):=by rw[IntKind.wrap_u8];omega
   obtain⟨x,_,hcx⟩:=hs.cell j (by omega)
   have key:∀b:Bool,SB (wr.setCell ⟨w.heap.size+1,j,none⟩ (.bool b)) (w.heap.size+1) (cs.set j b)/\SB (wr.setCell ⟨w.heap.size+1,j,none⟩ (.bool b)) w.heap.size noB/\Ex [] w (wr.setCell ⟨w.heap.size+1,j,none⟩ (.bool b)):=fun b=>⟨hs.set _ b,⟨hr.1.set (by simp) _,hr.2⟩,hx.setCell (.inr (by simp)) _⟩
   have KEY:=aa key
   clear hs hr hx key
   go_wp2_with fail
   refine (dP _ _).mono ?_
   rintro e w9 ⟨rfl,rfl⟩
   go_wp2_with fail
   refine (dD _ _).mono ?_
   rintro e w9 ⟨rfl,rfl⟩
   obtain⟨d,hd⟩:=exq (cz (j:Int))
   obtain⟨l,hl⟩:=exq (et (j:Int))
   try rw[<-hd]
   try rw[<-hl]
   have HD:=aa hd
   have HL:=aa hl
   have HCT2:=aa (fun (b:Bool) (hb:b=dj 100 j)=>fV HCT.O hb3 (by omega) hb)
   clear hd hl
   go_wp2_with fail
   go_roundg g
   case measure=>omega
   case rel=>exact⟨j+1,_,by omega,by simp,(KEY.O _).1,(KEY.O _).2.1,(KEY.O _).2.2,HCT2.O _ (by unfold dj;(first|exact HD.O|simp[<-show _=cz _ from HD.O,<-show _=et _ from HL.O]|simp[*]))⟩
theorem yg (w:World):
  Calls Tryz.prog 249 #[.int .u8 (87:Int)] w fun e w'=>∃cs,cs.length=129/\e= .returned (.tuple #[.agg (sB cs).toArray,.bool true])/\Ex [] w w'/\∀i,i<=128 ->hB cs i= !(decide (i<128)&&dj 119 i):=by
 go_enter Tryz.func249,Tryz.ntmps249
 go_upto_region 2 with fail
 generalize hw2:World.alloc _ _=w2
 have hr2:SB w2 w.heap.size noB:=by rw[<-hw2];exact SB.ex (⟨BK.new _ _,rfl⟩:SB (w.alloc (Obj.cells (sB noB).toArray 213)) w.heap.size noB) ((Ex.refl [] _).alloc _) (by simp)
 have hs2:SB w2 (w.heap.size+1) noB:=by
  have h9:BK w2 (w.alloc (Obj.cells (sB noB).toArray 213)).heap.size (.cells (sB noB).toArray 213 (0,0)):=by rw[<-hw2];exact BK.new _ _
  rw[World.size_alloc]at h9
  exact⟨h9,rfl⟩
 have hx2:Ex [] w w2:=by rw[<-hw2];exact ((Ex.refl _ _).alloc _).alloc _
 have HS2:=aa hs2
 have HR2:=aa hr2
 have HX2:=aa hx2
 clear hw2 hs2 hr2 hx2
 go_wp2_with fail
 go_loopg [6] 128 (fun gk i wr=>∃(j:Nat) (cs:List Bool),j+gk=128/\i= .int .i64 j/\SB wr (w.heap.size+1) cs/\SB wr w.heap.size noB/\Ex [] w wr/\∀i,i<=128 ->hB cs i=(decide (i<j)&&dj 119 i))
 case atStart=>exact⟨0,noB,by omega,rfl,HS2.O,HR2.O,HX2.O,fU 119⟩
 case round=>
  obtain⟨j,cs,hj,rfl,hs,hr,hx,hct⟩:=hrel
  have HCT:=aa hct
  clear hct
  have hlt:=hs.1.lt
  have hlt2:=hr.1.lt
  have hfz:=hs.1.all.2
  have hb3:=hs.2
  cases gk with
  |zero=>
   obtain rfl:j=128:=by omega
   have HS2:=aa hs
   have HR2:=aa hr
   have HX2:=aa hx
   obtain⟨Z,hZ⟩:=exq (sB cs)
   have HRZ:Hid (World.rangeAt wr (w.heap.size+1) 0 Z):=by rw[hZ];exact hs.1.rangeL
   have HIZ:Hid ((Tryz.prog.info? 213).map (·.size)=some Z.length):=by rw[hZ];exact aC hb3
   have KI:=aa (dC cs wr hb3)
   rw[<-hZ]at KI
   have hzl:Z.length=129:=by rw[hZ,ah];exact hb3
   clear hs hr hx hZ
   go_wp2_with (refine wpList_load_mid rfl 213 _ rfl (w.heap.size+1) 0 rfl Z _ HRZ.O Tryz.underlying213 rfl HIZ.O ?_)
   refine KI.O.mono ?_
   rintro e w4 ⟨rfl,hx4⟩
   have hs4:=HS2.O.ex hx4 (by simp)
   have hr4:=HR2.O.ex hx4 (by simp)
   have hx5:=HX2.O.trans hx4
   have hbi:(cs.map (!·)).length=129:=by simp[hb3]
   obtain⟨V,hV⟩:=exq (sB (cs.map (!·)))
   have HIV:Hid ((Tryz.prog.info? 213).map (·.size)=some V.toArray.size):=by rw[hV];exact az hbi
   have HALV:Hid (V.toArray.all (·.oneCell')=true):=by rw[hV];exact am (ax _)
   have HOLDV:Hid ((sB cs).toArray.size=V.toArray.size):=by show _=_;rw[List.size_toArray,List.size_toArray,hV,ah,ah,hbi,hb3]
   have HSV:=aa hs4
   rw[<-hV]
   have hs6:SB (w4.setRow (w.heap.size+1) V.toArray) (w.heap.size+1) (cs.map (!·)):=by rw[hV];exact hs4.store hbi
   have hr6:SB (w4.setRow (w.heap.size+1) V.toArray) w.heap.size noB:=⟨by unfold BK;rw[setRow_other _ _ _ _ (by omega)];exact hr4.1,hr4.2⟩
   have hx6:Ex [] w (w4.setRow (w.heap.size+1) V.toArray):=hx5.setRow (.inr (by omega)) _
   have hl6:=hs6.1.lt
   have hl7:=hr6.1.lt
   obtain⟨w3,hw3⟩:=exq (w4.setRow (w.heap.size+1) V.toArray)
   rw[<-hw3]at hs6 hr6 hx6 hl6 hl7
   have HW3:=aa hw3
   have HS3:=aa hs6
   have HR3:=aa hr6
   have HX3:=aa hx6
   clear hs4 hr4 hx4 hx5 hs6 hr6 hx6 hV hw3
   obtain⟨T,hT⟩:=exq (sB (cs.map (!·)))
   have HI:Hid ((Tryz.prog.info? 213).map (·.size)=some T.length):=by rw[hT];exact aC hbi
   have HI2:Hid ((Tryz.prog.info? 213).map (·.size)=some T.toArray.size):=by rw[hT];exact az hbi
   have HAL:Hid (T.toArray.all (·.oneCell')=true):=by rw[hT];exact am (ax _)
   have HT:=aa hT
   have HRG:Hid (World.rangeAt w3 (w.heap.size+1) 0 T):=by rw[hT];exact HS3.O.1.rangeL
   have HOLD:Hid ((sB noB).toArray.size=T.toArray.size):=by show _=_;rw[List.size_toArray,List.size_toArray,hT,ah,ah,hbi,HR3.O.2]
   clear hT
   go_wp2_with (first
    |(refine wpList_store_row rfl 213 _ _ rfl (w.heap.size+1) V.toArray rfl rfl 213 _ HSV.O.1 HIV.O HOLDV.O HALV.O ?_;rw[<-HW3.O])
    |(refine wpList_load_mid rfl 213 _ rfl (w.heap.size+1) 0 rfl T _ HRG.O Tryz.underlying213 rfl HI.O ?_)
    |(refine wpList_store_row rfl 213 _ _ rfl (w.heap.size) T.toArray rfl rfl 213 _ HR3.O.1 HI2.O HOLD.O HAL.O ?_))
   have hs4:SB (w3.setRow (w.heap.size) T.toArray) (w.heap.size) (cs.map (!·)):=by rw[HT.O];exact HR3.O.store hbi
   have hl4:=hs4.load
   rw[<-HT.O]at hl4
   refine bodyPost_ret (ap rfl rfl hl4) rfl ⟨_,hbi,by rw[HT.O];rfl,HX3.O.setRow (.inr (by omega)) _,fun i hi=>by rw[jS cs hb3 i hi,HCT.O i hi]⟩
  |succ g=>
   have hj128:(j:Int)<128:=by omega
   have hwr:IntKind.u8.wrap (j:Int)=(j:Int):=by rw[IntKind.wrap_u8];omega
   obtain⟨x,_,hcx⟩:=hs.cell j (by omega)
   have key:∀b:Bool,SB (wr.setCell ⟨w.heap.size+1,j,none⟩ (.bool b)) (w.heap.size+1) (cs.set j b)/\SB (wr.setCell ⟨w.heap.size+1,j,none⟩ (.bool b)) w.heap.size noB/\Ex [] w (wr.setCell ⟨w.heap.size+1,j,none⟩ (.bool b)):=fun b=>⟨hs.set _ b,⟨hr.1.set (by simp) _,hr.2⟩,hx.setCell (.inr (by simp)) _⟩
   have KEY:=aa key
   clear hs hr hx key
   go_wp2_with fail
   refine (dP _ _).mono ?_
   rintro e w9 ⟨rfl,rfl⟩
   go_wp2_with fail
   refine (dD _ _).mono ?_
   rintro e w9 ⟨rfl,rfl⟩
   obtain⟨d,hd⟩:=exq (cz (j:Int))
   obtain⟨l,hl⟩:=exq (et (j:Int))
   try rw[<-hd]
   try rw[<-hl]
   have HD:=aa hd
   have HL:=aa hl
   have HCT2:=aa (fun (b:Bool) (hb:b=dj 119 j)=>fV HCT.O hb3 (by omega) hb)
   clear hd hl
   cases d
   all_goals cases l
   all_goals
    go_wp2_with fail
    go_roundg g
    case measure=>omega
    case rel=>exact⟨j+1,_,by omega,by simp,(KEY.O _).1,(KEY.O _).2.1,(KEY.O _).2.2,HCT2.O _ (by unfold dj;(first|exact HD.O|simp[<-show _=cz _ from HD.O,<-show _=et _ from HL.O]|simp[*]))⟩
theorem yf (w:World):
  Calls Tryz.prog 249 #[.int .u8 (83:Int)] w fun e w'=>∃cs,cs.length=129/\e= .returned (.tuple #[.agg (sB cs).toArray,.bool true])/\Ex [] w w'/\∀i,i<=128 ->hB cs i= !(decide (i<128)&&dj 115 i):=by
 go_enter Tryz.func249,Tryz.ntmps249
 go_upto_region 2 with fail
 generalize hw2:World.alloc _ _=w2
 have hr2:SB w2 w.heap.size noB:=by rw[<-hw2];exact SB.ex (⟨BK.new _ _,rfl⟩:SB (w.alloc (Obj.cells (sB noB).toArray 213)) w.heap.size noB) ((Ex.refl [] _).alloc _) (by simp)
 have hs2:SB w2 (w.heap.size+1) noB:=by
  have h9:BK w2 (w.alloc (Obj.cells (sB noB).toArray 213)).heap.size (.cells (sB noB).toArray 213 (0,0)):=by rw[<-hw2];exact BK.new _ _
  rw[World.size_alloc]at h9
  exact⟨h9,rfl⟩
 have hx2:Ex [] w w2:=by rw[<-hw2];exact ((Ex.refl _ _).alloc _).alloc _
 have HS2:=aa hs2
 have HR2:=aa hr2
 have HX2:=aa hx2
 clear hw2 hs2 hr2 hx2
 go_wp2_with fail
 go_loopg [6] 128 (fun gk i wr=>∃(j:Nat) (cs:List Bool),j+gk=128/\i= .int .i64 j/\SB wr (w.heap.size+1) cs/\SB wr w.heap.size noB/\Ex [] w wr/\∀i,i<=128 ->hB cs i=(decide (i<j)&&dj 115 i))
 case atStart=>exact⟨0,noB,by omega,rfl,HS2.O,HR2.O,HX2.O,fU 115⟩
 case round=>
  obtain⟨j,cs,hj,rfl,hs,hr,hx,hct⟩:=hrel
  have HCT:=aa hct
  clear hct
  have hlt:=hs.1.lt
  have hlt2:=hr.1.lt
  have hfz:=hs.1.all.2
  have hb3:=hs.2
  cases gk with
  |zero=>
   obtain rfl:j=128:=by omega
   have HS2:=aa hs
   have HR2:=aa hr
   have HX2:=aa hx
   obtain⟨Z,hZ⟩:=exq (sB cs)
   have HRZ:Hid (World.rangeAt wr (w.heap.size+1) 0 Z):=by rw[hZ];exact hs.1.rangeL
   have HIZ:Hid ((Tryz.prog.info? 213).map (·.size)=some Z.length):=by rw[hZ];exact aC hb3
   have KI:=aa (dC cs wr hb3)
   rw[<-hZ]at KI
   have hzl:Z.length=129:=by rw[hZ,ah];exact hb3
   clear hs hr hx hZ
   go_wp2_with (refine wpList_load_mid rfl 213 _ rfl (w.heap.size+1) 0 rfl Z _ HRZ.O Tryz.underlying213 rfl HIZ.O ?_)
   refine KI.O.mono ?_
   rintro e w4 ⟨rfl,hx4⟩
   have hs4:=HS2.O.ex hx4 (by simp)
   have hr4:=HR2.O.ex hx4 (by simp)
   have hx5:=HX2.O.trans hx4
   have hbi:(cs.map (!·)).length=129:=by simp[hb3]
   obtain⟨V,hV⟩:=exq (sB (cs.map (!·)))
   have HIV:Hid ((Tryz.prog.info? 213).map (·.size)=some V.toArray.size):=by rw[hV];exact az hbi
   have HALV:Hid (V.toArray.all (·.oneCell')=true):=by rw[hV];exact am (ax _)
   have HOLDV:Hid ((sB cs).toArray.size=V.toArray.size):=by show _=_;rw[List.size_toArray,List.size_toArray,hV,ah,ah,hbi,hb3]
   have HSV:=aa hs4
   rw[<-hV]
   have hs6:SB (w4.setRow (w.heap.size+1) V.toArray) (w.heap.size+1) (cs.map (!·)):=by rw[hV];exact hs4.store hbi
   have hr6:SB (w4.setRow (w.heap.size+1) V.toArray) w.heap.size noB:=⟨by unfold BK;rw[setRow_other _ _ _ _ (by omega)];exact hr4.1,hr4.2⟩
   have hx6:Ex [] w (w4.setRow (w.heap.size+1) V.toArray):=hx5.setRow (.inr (by omega)) _
   have hl6:=hs6.1.lt
   have hl7:=hr6.1.lt
   obtain⟨w3,hw3⟩:=exq (w4.setRow (w.heap.size+1) V.toArray)
   rw[<-hw3]at hs6 hr6 hx6 hl6 hl7
   have HW3:=aa hw3
   have HS3:=aa hs6
   have HR3:=aa hr6
   have HX3:=aa hx6
   clear hs4 hr4 hx4 hx5 hs6 hr6 hx6 hV hw3
   obtain⟨T,hT⟩:=exq (sB (cs.map (!·)))
   have HI:Hid ((Tryz.prog.info? 213).map (·.size)=some T.length):=by rw[hT];exact aC hbi
   have HI2:Hid ((Tryz.prog.info? 213).map (·.size)=some T.toArray.size):=by rw[hT];exact az hbi
   have HAL:Hid (T.toArray.all (·.oneCell')=true):=by rw[hT];exact am (ax _)
   have HT:=aa hT
   have HRG:Hid (World.rangeAt w3 (w.heap.size+1) 0 T):=by rw[hT];exact HS3.O.1.rangeL
   have HOLD:Hid ((sB noB).toArray.size=T.toArray.size):=by show _=_;rw[List.size_toArray,List.size_toArray,hT,ah,ah,hbi,HR3.O.2]
   clear hT
   go_wp2_with (first
    |(refine wpList_store_row rfl 213 _ _ rfl (w.heap.size+1) V.toArray rfl rfl 213 _ HSV.O.1 HIV.O HOLDV.O HALV.O ?_;rw[<-HW3.O])
    |(refine wpList_load_mid rfl 213 _ rfl (w.heap.size+1) 0 rfl T _ HRG.O Tryz.underlying213 rfl HI.O ?_)
    |(refine wpList_store_row rfl 213 _ _ rfl (w.heap.size) T.toArray rfl rfl 213 _ HR3.O.1 HI2.O HOLD.O HAL.O ?_))
   have hs4:SB (w3.setRow (w.heap.size) T.toArray) (w.heap.size) (cs.map (!·)):=by rw[HT.O];exact HR3.O.store hbi
   have hl4:=hs4.load
   rw[<-HT.O]at hl4
   refine bodyPost_ret (ap rfl rfl hl4) rfl ⟨_,hbi,by rw[HT.O];rfl,HX3.O.setRow (.inr (by omega)) _,fun i hi=>by rw[jS cs hb3 i hi,HCT.O i hi]⟩
  |succ g=>
   have hj128:(j:Int)<128:=by omega
   have hwr:IntKind.u8.wrap (j:Int)=(j:Int):=by rw[IntKind.wrap_u8];omega
   obtain⟨x,_,hcx⟩:=hs.cell j (by omega)
   have key:∀b:Bool,SB (wr.setCell ⟨w.heap.size+1,j,none⟩ (.bool b)) (w.heap.size+1) (cs.set j b)/\SB (wr.setCell ⟨w.heap.size+1,j,none⟩ (.bool b)) w.heap.size noB/\Ex [] w (wr.setCell ⟨w.heap.size+1,j,none⟩ (.bool b)):=fun b=>⟨hs.set _ b,⟨hr.1.set (by simp) _,hr.2⟩,hx.setCell (.inr (by simp)) _⟩
   have KEY:=aa key
   clear hs hr hx key
   go_wp2_with fail
   refine (dP _ _).mono ?_
   rintro e w9 ⟨rfl,rfl⟩
   go_wp2_with fail
   refine (dD _ _).mono ?_
   rintro e w9 ⟨rfl,rfl⟩
   obtain⟨d,hd⟩:=exq (cz (j:Int))
   obtain⟨l,hl⟩:=exq (et (j:Int))
   try rw[<-hd]
   try rw[<-hl]
   have HD:=aa hd
   have HL:=aa hl
   have HCT2:=aa (fun (b:Bool) (hb:b=dj 115 j)=>fV HCT.O hb3 (by omega) hb)
   clear hd hl
   cases h1:((j:Int)==32)
   all_goals cases h2:((j:Int)==9)
   all_goals cases h3:((j:Int)==10)
   all_goals
    go_wp2_with fail
    go_roundg g
    case measure=>omega
    case rel=>exact⟨j+1,_,by omega,by simp,(KEY.O _).1,(KEY.O _).2.1,(KEY.O _).2.2,HCT2.O _ (by unfold dj;(first|(rw[if_neg (by decide),if_neg (by decide),h1,h2,h3];(first|rfl|simp))|exact HD.O|simp[<-show _=cz _ from HD.O,<-show _=et _ from HL.O]|simp[*]))⟩
theorem xP:(List.range 129).all (fun r=>(decide (r<128)&&dj 100 r)==hn dI r)=true:=by decide+kernel
theorem xR:(List.range 129).all (fun r=>(decide (r<128)&&dj 119 r)==hn gV r)=true:=by decide+kernel
theorem xQ:(List.range 129).all (fun r=>(decide (r<128)&&dj 115 r)==hn gT r)=true:=by decide+kernel
theorem lD:CN dI:=CN.range 48 57 (by decide) (by decide)
theorem qr (l:List UInt8):∀c:Cls,CN c ->CN (l.foldl (fun c b=>bQ c (cv b.toNat)) c):=by
 induction l with
 |nil=>intro c h;exact h
 |cons a l ih=>intro c h;exact ih _ (h.with (CN.one _))
theorem tt:CN gV:=(((lD.with (CN.range 97 122 (by decide) (by decide))).with (CN.range 65 90 (by decide) (by decide))).with (qr _ _ (CN.zero _)))
theorem qu:CN gT:=qr _ _ (CN.zero _)
theorem vG {C:Cls} (hC:CN C) (ht:(List.range 129).all (fun r=>(decide (r<128)&&dj c r)==hn C r)=true) (h:∀i,i<=128 ->hB cs i=(decide (i<128)&&dj c i)):AgC cs C:=⟨hC,fun r hr=>by
 have:=List.all_eq_true.1 ht r (List.mem_range.2 (by omega))
 rw[h r hr]
 exact beq_iff_eq.1 this⟩
theorem rX {C:Cls} (hC:CN C) (ht:(List.range 129).all (fun r=>(decide (r<128)&&dj c r)==hn C r)=true) (h:∀i,i<=128 ->hB cs i= !(decide (i<128)&&dj c i)):AgC cs (bI C):=⟨hC.others,fun r hr=>by
 have:=List.all_eq_true.1 ht r (List.mem_range.2 (by omega))
 rw[h r hr,od hC,beq_iff_eq.1 this]⟩
theorem uI (c:Nat) (hc:c<256) (w:World):
  Calls Tryz.prog 249 #[.int .u8 (c:Int)] w fun e w'=>∃cs,cs.length=129/\e= .returned (.tuple #[.agg (sB cs).toArray,.bool (ej c)])/\Ex [] w w'/\∀C,dQ (UInt8.ofNat c)=some C ->AgC cs C:=by
 cases h:ej c with
 |false=>
  refine (sd c h hc w).mono ?_
  rintro e w' ⟨cs,h1,h2,h3⟩
  refine⟨cs,h1,h2,h3,fun C hC=> ?_⟩
  have h9:(List.range 256).all (fun n=>(dQ (UInt8.ofNat n)).isSome==ej n)=true:=by kernel_rfl
  have:=List.all_eq_true.1 h9 c (List.mem_range.2 hc)
  rw[hC,h]at this
  cases this
 |true=>
  unfold ej at h
  simp at h
  rcases h with rfl|rfl|rfl|rfl|rfl|rfl
  ·refine (vO w).mono ?_
   rintro e w' ⟨cs,h1,h2,h3,h4⟩
   exact⟨cs,h1,h2,h3,fun C hC=>by cases hC;exact vG lD xP h4⟩
  ·refine (vQ w).mono ?_
   rintro e w' ⟨cs,h1,h2,h3,h4⟩
   exact⟨cs,h1,h2,h3,fun C hC=>by cases hC;exact vG tt xR h4⟩
  ·refine (vP w).mono ?_
   rintro e w' ⟨cs,h1,h2,h3,h4⟩
   exact⟨cs,h1,h2,h3,fun C hC=>by cases hC;exact vG qu xQ h4⟩
  ·refine (ye w).mono ?_
   rintro e w' ⟨cs,h1,h2,h3,h4⟩
   exact⟨cs,h1,h2,h3,fun C hC=>by cases hC;exact rX lD xP h4⟩
  ·refine (yg w).mono ?_
   rintro e w' ⟨cs,h1,h2,h3,h4⟩
   exact⟨cs,h1,h2,h3,fun C hC=>by cases hC;exact rX tt xR h4⟩
  ·refine (yf w).mono ?_
   rintro e w' ⟨cs,h1,h2,h3,h4⟩
   exact⟨cs,h1,h2,h3,fun C hC=>by cases hC;exact rX qu xQ h4⟩
end Go.Proofs.YtfnanjbleifjkaaGreatDoor.G
