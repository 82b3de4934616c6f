import Derived.Test.YtfnanjbleifjkaaGreatDoorM45
import Derived.Test.YtfnanjbleifjkaaGreatDoorM36
import Derived.Test.YtfnanjbleifjkaaGreatDoorM31
import Derived.ArgAppend
set_option linter.unusedVariables false
set_option linter.unusedSimpArgs false
set_option maxHeartbeats 8000000
set_option maxRecDepth 100000
namespace Go.Proofs.YtfnanjbleifjkaaGreatDoor.G
variable {t:ByteArray} {q:Pt} {w:World} {b root:Nat} {st:RS} {av nv:Value}
open Go.RowKit
theorem jA (w W:World) (t:ByteArray) (hp:BK W (w.heap.size+1) (.cells #[.string t,.int .i64 0,.bool false,.pointer (some ⟨w.heap.size,0,none⟩),.bool false,.int .i64 0,.int .i64 0] 135 (0,0)))
  (hr:BK W w.heap.size (.cells #[.slice none 0 0,.int .i64 0,.int .i64 0,.slice none 0 0] 133 (0,0))):RA W (w.heap.size+1) w.heap.size w.heap.size t fa false 0 0:=
 ⟨hp,⟨.slice none 0 0,.slice none 0 0,[],[],hr,⟨rfl,.inl ⟨rfl,rfl⟩⟩,⟨rfl,.inl ⟨rfl,rfl⟩⟩,fun a _=>⟨rfl,fun i=>by simp[fa]⟩,rfl⟩,by omega,Nat.le_refl _,by have:=hr.lt;omega⟩
def bx (t:ByteArray) (e:Ending):Prop:=match bq t with
 |some k=>e= .returned (.tuple #[.pointer none,.int .i64 4,.int .i64 (k:Int)])
 |none=>∃b,e= .returned (.tuple #[.pointer (some ⟨b,0,none⟩),.int .i64 0,.int .i64 0])
def RX (w:World) (b:Nat) (t:ByteArray):Prop:=∃q s root av nv ns base,aX t= .ok q s/\wt q<=120/\BK w b (.cells #[av,.int .i64 ((root:Nat):Int),.int .i64 (s.g:Int),nv] 133 (0,0))/\w.ownsRow base 9 1 nv (ns:List ByteArray).length (ns.map Value.string)/\oV s.nm ns/\ns.length=s.g/\XT w b root (den q)
theorem t6 {w5 w6:World} {p r base:Nat} {s5:RS} {hv:Int} {n y:Nat} (h:RA w5 p r base t s5 false hv n) (hx:XT w5 r y (den q)) (hw:w5.setCell ⟨r,1,none⟩ (.int .i64 (y:Int))=w6) (hr:aX t= .ok q s5) (hwt:wt q<=120):RX w6 r t:=by
 obtain⟨av,nv,xs,ns,h1,h2,h3,h4,h5⟩:=h.rn.ex
 have k1:=h1.self 1 (.int .i64 (y:Int))
 simp only[List.setIfInBounds_toArray,List.set_cons_zero,List.set_cons_succ]at k1
 subst hw
 exact⟨q,s5,y,av,nv,ns,base,hr,hwt,k1,aH h3 (fun g hg=>Below.heap_setCell _ _ _ _ (fun e=>aE h3 h1 (by decide) (by rw[hg,e]))),h4,h5,hx.mono (fun y E hy=>hy.self 1 _ (by omega))⟩
def ew (t:ByteArray) (e:Ending) (w:World):Prop:=∀b x y,e= .returned (.tuple #[.pointer (Option.some ⟨b,0,Option.none⟩),x,y]) ->RX w b t
theorem ew.no {x y:Value}:ew t (.returned (.tuple #[.pointer Option.none,x,y])) w:=fun b x y h=>by simp at h
theorem ew.yes {x y:Value} (h:RX w b t):ew t (.returned (.tuple #[.pointer (Option.some ⟨b,0,Option.none⟩),x,y])) w:=fun b' x' y' e=>by
 simp at e
 rw[<-e.1]
 exact h
theorem bx.some {k:Nat} {v:Int} (h:bq t= .some k) (hv:v=(k:Int)):bx t (.returned (.tuple #[.pointer none,.int .i64 4,.int .i64 v])):=by
 unfold bx
 rw[h,hv]
theorem bx.none (h:bq t= .none):bx t (.returned (.tuple #[.pointer (Option.some ⟨b,0,Option.none⟩),.int .i64 0,.int .i64 0])):=by
 unfold bx
 rw[h]
 exact⟨b,rfl⟩
theorem rC (ht:t.size<=60) {s0:RS} (hf:dB t= .ok () s0):bq t=match ep t 7 s0 with
  |.bad s=>some s.k
  |.ok p s=>if s.k=t.size then (if 120<wt p then some t.size else none)else some s.k:=by
 unfold bq
 rw[if_neg (by omega)]
 unfold aX
 rw[hf,Res.bind_ok]
 cases ep t 7 s0 with
 |bad s=>rfl
 |ok p s=>
  simp only[Res.bind_ok]
  by_cases h:s.k=t.size
  ·rw[if_pos h,if_pos h]
  ·rw[if_neg h,if_neg h]
theorem kH (h:3<=t.size):(t.extract 0 3).toList=[40,63,105]↔(ai t 0=some 40/\ai t 1=some 63/\ai t 2=some 105):=by
 have e:(t.extract 0 3).toList=[t.data[0]'(by show 0<t.size;omega),t.data[1]'(by show 1<t.size;omega),t.data[2]'(by show 2<t.size;omega)]:=by
  rw[ByteArray.toList_eq,ByteArray.data_extract,Array.toList_extract]
  apply List.ext_getElem?
  intro i
  simp only[List.extract_eq_take_drop,List.drop_zero,Nat.sub_zero,List.getElem?_take]
  match i with
  |0=>simp
  |1=>simp
  |2=>simp
  |i+3=>simp;omega
 rw[e]
 unfold ai
 rw[Array.getElem?_eq_getElem (by show 0<t.size;omega),Array.getElem?_eq_getElem (by show 1<t.size;omega),Array.getElem?_eq_getElem (by show 2<t.size;omega)]
 simp
theorem iR (h:4<=t.size):(t.extract 0 4).toList=[40,63,105,41]↔((t.extract 0 3).toList=[40,63,105]/\ai t 3=some 41):=by
 have e:(t.extract 0 4).toList=(t.extract 0 3).toList++[t.data[3]'(by show 3<t.size;omega)]:=by
  rw[ByteArray.toList_eq,ByteArray.data_extract,Array.toList_extract,ByteArray.toList_eq,ByteArray.data_extract,Array.toList_extract]
  simp only[List.extract_eq_take_drop,List.drop_zero,Nat.sub_zero]
  rw[show (4:Nat)=3+1 from rfl,List.take_succ_eq_append_getElem (by rw[Array.length_toList];show 3<t.size;omega)]
  rfl
 have hl:(t.extract 0 3).toList.length=3:=by
  rw[ByteArray.toList_eq,ByteArray.data_extract,Array.toList_extract]
  simp only[List.extract_eq_take_drop,List.drop_zero,Nat.sub_zero,List.length_take,Array.length_toList]
  have:t.data.size=t.size:=rfl
  omega
 rw[e]
 unfold ai
 rw[Array.getElem?_eq_getElem (by show 3<t.size;omega)]
 constructor
 ·intro h9
  have h10:(t.extract 0 3).toList++[t.data[3]'(by show 3<t.size;omega)]=[40,63,105]++[41]:=h9
  obtain⟨a,b⟩:=List.append_inj h10 (by rw[hl];rfl)
  exact⟨a,by simpa using b⟩
 ·rintro⟨a,b⟩
  rw[a]
  simp at b
  rw[b]
  rfl
theorem Ex.own {w5 w6:World} (h:Ex [] w w5) (k:Ex [w.heap.size] w5 w6):Ex [] w w6:=⟨k.os.trans h.os,k.tape.trans h.tape,k.output.trans h.output,Nat.le_trans h.size k.size,fun b hb hn=>(k.block b (by have:=h.size;omega) (by simp;omega)).trans (h.block b hb hn)⟩
theorem vC (t:ByteArray) (w:World):
  Calls Tryz.prog 23 #[.string t] w fun e w'=>bx t e/\Ex [] w w'/\ew t e w':=by
 by_cases ht:t.size<=60
 rotate_left
 ·have h60:(60:Int)<(t.size:Int):=by omega
  have HP:Hid (bq t=some 60):=by show _=_;unfold bq;rw[if_pos (by omega)]
  go_enter Tryz.func23,Tryz.ntmps23
  go_wp2_with fail
  refine bodyPost_ret (v:= .tuple #[.pointer none,.int .i64 4,.int .i64 60]) (by simp[results,Tryz.results23,go_sem]) rfl ⟨bx.some HP.O rfl,Ex.refl _ _,ew.no⟩
 have h60:¬(60:Int)<(t.size:Int):=by omega
 by_cases h3:3<=t.size/\(t.extract 0 3).toList=[40,63,105]
 ·have hb3:=(kH h3.1).1 h3.2
  have hFM:dB t=(aw t ⟨3,0,false,0,[]⟩ 41).bind fun _ s=> .ok () {s with f:=true}:=by
   unfold dB
   rw[if_pos hb3]
   rfl
  by_cases h41:ai t 3=some 41
  ·-- (?i)
   have h4:4<=t.size:=da h41
   have hFM2:dB t= .ok () ⟨4,0,true,0,[]⟩:=by
    rw[hFM]
    unfold aw ac
    rw[h41]
    rfl
   have HFM:=aa hFM2
   have h4i:(4:Int)<=(t.size:Int):=by omega
   obtain⟨n4,hn4⟩:∃x,t.extract 0 4=x:=⟨_,rfl⟩
   have e4:(n4.toList==[40,63,105,41])=true:=by rw[<-hn4,(iR h4).2 ⟨h3.2,h41⟩];rfl
   clear hFM hFM2 h41 hb3 h3
   go_enter Tryz.func23,Tryz.ntmps23
   go_upto_region 4 with fail
   generalize hw2:World.alloc _ _=w2
   have hx2:Ex [] w w2:=by rw[<-hw2];exact ((Ex.refl _ _).alloc _).alloc _
   have hr2:BK w2 w.heap.size (.cells #[.slice none 0 0,.int .i64 0,.int .i64 0,.slice none 0 0] 133 (0,0)):=by rw[<-hw2];exact (BK.new w _).alloc _
   have hp2:BK w2 (w.heap.size+1) (.cells #[.string t,.int .i64 0,.bool false,.pointer (some ⟨w.heap.size,0,none⟩),.bool false,.int .i64 0,.int .i64 0] 135 (0,0)):=by
    have h9:BK w2 (w.alloc (Obj.cells #[.slice none 0 0,.int .i64 0,.int .i64 0,.slice none 0 0] 133)).heap.size (.cells #[.string t,.int .i64 0,.bool false,.pointer (some ⟨w.heap.size,0,none⟩),.bool false,.int .i64 0,.int .i64 0] 135 (0,0)):=by rw[<-hw2];exact BK.new _ _
    rw[World.size_alloc]at h9
    exact h9
   have H2:=aa (jA w w2 t hp2 hr2)
   have X2:=aa hx2
   clear hw2 hx2 hr2 hp2
   have hp2:=H2.O.rk
   unfold RK at hp2
   have p4:w2.cell? ⟨w.heap.size+1,4,none⟩=some (.bool false):=hp2.all.1 4
   have pf4:w2.frozen? ⟨w.heap.size+1,4,none⟩=false:=hp2.all.2 4
   have hl2:=hp2.lt
   clear hp2
   go_upto_region 6 with fail
   generalize hw9:World.setCell _ _ _=w3a
   have hst:=H2.O.setCell (s':=⟨0,0,true,0,[]⟩) (bad':=false) (hv':=0) 4 (.bool true) rfl rfl rfl
   rw[hw9]at hst
   have H3a:=aa hst.1
   have X3a:Hid (Ex [] w w3a):=EB.toEx ((EB.ofEx X2.O (Nat.le_refl _)).trans hst.2.2)
   clear hw9 hst p4 pf4 hl2
   obtain⟨c0,c1,c2,f1,f2,hl⟩:=H3a.O.facts
   go_upto_region 11 with fail
   generalize hw9:World.setCell _ _ _=w3
   have hup:=H3a.O.ats w3 4 hw9 rfl
   have H3:Hid (RA w3 (w.heap.size+1) w.heap.size w.heap.size t ⟨4,0,true,0,[]⟩ false 0 0):=hup.1
   have hX3:Hid (Ex [] w w3):=by
    have h9:=hup.2.eb
    rw[<-hw9]
    exact X3a.O.setCell (.inr (by simp)) _
   clear hw9 hup c0 c1 c2 f1 f2 hl H3a X3a H2 X2
   have KX:=aa (lI (p:=w.heap.size+1) (r:=w.heap.size) (base:=w.heap.size) ht 7 0 rfl (by decide) _ _ _ _ H3.O rfl (by decide) h4 (by omega))
   go_wp2_with fail
   refine KX.O.mono ?_
   rintro e w5 ⟨hf5,hp5⟩
   obtain⟨y5,hy5,hz5⟩:=hp5.split
   subst hy5
   have F5:=aa (EB.toEx ((EB.ofEx hX3.O (Nat.le_refl _)).trans hf5.eb))
   clear hp5 hf5 KX
   have hPL:=rC ht HFM.O
   rcases hz5 with⟨q,s5,n5,hq5,ra5,hn5,y5',rfl,hty5⟩|⟨s9,s5,hv5,n5,hq5,hk5,hd5,ra5,hn5⟩
   ·rw[hq5]at hPL
    dsimp only at hPL
    have HQ5:=aa hq5
    have T5:=aa hty5
    clear hty5
    have hsz:=(ei ht 7 (by decide) _ _ _ hq5 (by decide) h4).sz h4
    have H5:=aa ra5
    have HPL:=aa hPL
    obtain⟨wq,hwq⟩:=exq (wt q)
    have HWQ:=aa hwq
    rw[<-hwq]at HPL
    obtain⟨m3,m5,m6,g5,g6,mr,gr,hrl⟩:=H5.O.more
    rw[<-hwq]at m6
    obtain⟨c0,c1,c2,f1,f2,hl⟩:=H5.O.facts
    obtain⟨av,nv,xs,ns,hbr,_⟩:=H5.O.rn.ex
    have r1:w5.cell? ⟨w.heap.size,1,none⟩=some (.int .i64 0):=hbr.all.1 1
    have rf1:w5.frozen? ⟨w.heap.size,1,none⟩=false:=hbr.all.2 1
    clear hPL hq5 ra5 hwq hbr
    obtain⟨k5,d5,f5,g5',nm5⟩:=s5
    dsimp only at c1 hsz HPL
    by_cases hk:k5=t.size
    ·have hlt:¬(k5:Int)<(t.size:Int):=by omega
     by_cases h120:120<wq
     ·have h120i:(120:Int)<(wq:Int):=by omega
      have HP:Hid (bq t=some t.size):=by show _=_;rw[HPL.O,if_pos hk,if_pos h120]
      clear hk
      go_wp2_with fail
      refine bodyPost_ret (v:= .tuple #[.pointer none,.int .i64 4,.int .i64 (t.size:Int)]) (by simp[results,Tryz.results23,go_sem]) rfl ⟨bx.some HP.O rfl,F5.O,ew.no⟩
     ·have h120i:¬(120:Int)<(wq:Int):=by omega
      have HP:Hid (bq t=none):=by show _=_;rw[HPL.O,if_pos hk,if_neg h120]
      have HRR:Hid (aX t= .ok q ⟨k5,d5,f5,g5',nm5⟩):=by show _=_;unfold aX;rw[HFM.O,Res.bind_ok,HQ5.O,Res.bind_ok,if_pos hk]
      have HW120:Hid (wt q<=120):=by show _<=_;rw[<-HWQ.O];omega
      clear hk
      go_upto_region 17 with fail
      generalize hw9:World.setCell _ _ _=w6
      have HRX:=aa (t6 H5.O T5.O hw9 HRR.O HW120.O)
      have hx6:Ex [w.heap.size] w5 w6:=by rw[<-hw9];exact (Ex.refl _ _).setCell (.inl (by simp)) _
      have hp6:=H5.O.rk
      unfold RK at hp6
      have hb6:=hp6.ex hx6 (by simp)
      have m36:w6.cell? ⟨w.heap.size+1,3,none⟩=some (.pointer (some ⟨w.heap.size,0,none⟩)):=hb6.all.1 3
      have hl6:=hb6.lt
      have F6:Hid (Ex [] w w6):=Ex.own F5.O hx6
      clear hw9 hx6 hp6 hb6 c0 c1 c2 f1 f2 hl m3 m5 m6 g5 g6 mr gr hrl r1 rf1
      go_wp2_with fail
      refine bodyPost_ret (v:= .tuple #[.pointer (some ⟨w.heap.size,0,none⟩),.int .i64 0,.int .i64 0]) (by simp[results,Tryz.results23,go_sem]) rfl ⟨bx.none HP.O,F6.O,ew.yes HRX.O⟩
    ·have hlt:(k5:Int)<(t.size:Int):=by omega
     have HP:Hid (bq t=some k5):=by show _=_;rw[HPL.O,if_neg hk]
     clear hk
     go_wp2_with fail
     go_quiet (fail)
     go_wp2_with fail
     refine bodyPost_ret (v:= .tuple #[.pointer none,.int .i64 4,.int .i64 (k5:Int)]) (by simp[results,Tryz.results23,go_sem]) rfl ⟨bx.some HP.O rfl,F5.O.drewN _,ew.no⟩
   ·rw[hq5]at hPL
    dsimp only at hPL
    have H5:=aa ra5
    have HP:Hid (bq t=some s5.k):=by show _=_;rw[hPL,hk5]
    obtain⟨c0,c1,c2,f1,f2,hl⟩:=H5.O.facts
    clear hPL hq5 ra5 hk5
    obtain⟨k5,d5,f5,g5',nm5⟩:=s5
    dsimp only at c1 HP
    go_wp2_with fail
    go_quiet (fail)
    go_wp2_with fail
    refine bodyPost_ret (v:= .tuple #[.pointer none,.int .i64 4,.int .i64 (k5:Int)]) (by simp[results,Tryz.results23,go_sem]) rfl ⟨bx.some HP.O rfl,F5.O.drewN _,ew.no⟩
  ·-- (?i, and no )
   have HP:Hid (bq t=some 3):=by
    show _=_
    unfold bq
    rw[if_neg (by omega)]
    unfold aX
    rw[hFM]
    unfold aw ac
    rw[if_neg (by simpa using h41)]
    rfl
   by_cases h4:4<=t.size
   ·have h4i:(4:Int)<=(t.size:Int):=by omega
    have h4l:¬(t.size:Int)<4:=by omega
    obtain⟨n4,hn4⟩:∃x,t.extract 0 4=x:=⟨_,rfl⟩
    have e4:(n4.toList==[40,63,105,41])=false:=by
     rw[beq_eq_false_iff_ne,<-hn4]
     intro h9
     exact h41 ((iR h4).1 h9).2
    obtain⟨n3,hn3⟩:∃x,t.extract 0 3=x:=⟨_,rfl⟩
    have e3:(n3.toList==[40,63,105])=true:=by rw[<-hn3,h3.2];rfl
    clear hFM h41 hb3 h3
    go_enter Tryz.func23,Tryz.ntmps23
    go_upto_region 4 with fail
    generalize hw2:World.alloc _ _=w2
    have hx2:Ex [] w w2:=by rw[<-hw2];exact ((Ex.refl _ _).alloc _).alloc _
    have hr2:BK w2 w.heap.size (.cells #[.slice none 0 0,.int .i64 0,.int .i64 0,.slice none 0 0] 133 (0,0)):=by rw[<-hw2];exact (BK.new w _).alloc _
    have hp2:BK w2 (w.heap.size+1) (.cells #[.string t,.int .i64 0,.bool false,.pointer (some ⟨w.heap.size,0,none⟩),.bool false,.int .i64 0,.int .i64 0] 135 (0,0)):=by
     have h9:BK w2 (w.alloc (Obj.cells #[.slice none 0 0,.int .i64 0,.int .i64 0,.slice none 0 0] 133)).heap.size (.cells #[.string t,.int .i64 0,.bool false,.pointer (some ⟨w.heap.size,0,none⟩),.bool false,.int .i64 0,.int .i64 0] 135 (0,0)):=by rw[<-hw2];exact BK.new _ _
     rw[World.size_alloc]at h9
     exact h9
    have H2:=aa (jA w w2 t hp2 hr2)
    have X2:=aa hx2
    clear hw2 hx2 hr2 hp2
    go_wp2_with fail
    refine bodyPost_ret (v:= .tuple #[.pointer none,.int .i64 4,.int .i64 3]) (by simp[results,Tryz.results23,go_sem]) rfl ⟨bx.some HP.O rfl,X2.O,ew.no⟩
   ·have h4i:¬(4:Int)<=(t.size:Int):=by omega
    have h4l:(t.size:Int)<4:=by omega
    have h2i:(2:Int)<(t.size:Int):=by omega
    have e3:(t.toList==[40,63,105])=true:=by
     have h9:t.extract 0 3=t:=by
      rw[show 3=t.size by omega]
      exact ByteArray.extract_zero_size
     rw[<-h9,h3.2]
     rfl
    clear hFM h41 hb3 h3
    go_enter Tryz.func23,Tryz.ntmps23
    go_upto_region 4 with fail
    generalize hw2:World.alloc _ _=w2
    have hx2:Ex [] w w2:=by rw[<-hw2];exact ((Ex.refl _ _).alloc _).alloc _
    have hr2:BK w2 w.heap.size (.cells #[.slice none 0 0,.int .i64 0,.int .i64 0,.slice none 0 0] 133 (0,0)):=by rw[<-hw2];exact (BK.new w _).alloc _
    have hp2:BK w2 (w.heap.size+1) (.cells #[.string t,.int .i64 0,.bool false,.pointer (some ⟨w.heap.size,0,none⟩),.bool false,.int .i64 0,.int .i64 0] 135 (0,0)):=by
     have h9:BK w2 (w.alloc (Obj.cells #[.slice none 0 0,.int .i64 0,.int .i64 0,.slice none 0 0] 133)).heap.size (.cells #[.string t,.int .i64 0,.bool false,.pointer (some ⟨w.heap.size,0,none⟩),.bool false,.int .i64 0,.int .i64 0] 135 (0,0)):=by rw[<-hw2];exact BK.new _ _
     rw[World.size_alloc]at h9
     exact h9
    have H2:=aa (jA w w2 t hp2 hr2)
    have X2:=aa hx2
    clear hw2 hx2 hr2 hp2
    go_wp2_with fail
    refine bodyPost_ret (v:= .tuple #[.pointer none,.int .i64 4,.int .i64 3]) (by simp[results,Tryz.results23,go_sem]) rfl ⟨bx.some HP.O rfl,X2.O,ew.no⟩
 ·have HFM:Hid (dB t= .ok () fa):=by
   show _=_
   unfold dB
   rw[if_neg]
   intro hb
   have h3s:3<=t.size:=da hb.2.2
   exact h3 ⟨h3s,(kH h3s).2 hb⟩
  by_cases h4:4<=t.size
  case' pos=>
   have h4i:(4:Int)<=(t.size:Int):=by omega
   have h4l:¬(t.size:Int)<4:=by omega
   obtain⟨n4,hn4⟩:∃x,t.extract 0 4=x:=⟨_,rfl⟩
   have e4:(n4.toList==[40,63,105,41])=false:=by
    rw[beq_eq_false_iff_ne,<-hn4]
    intro h9
    exact h3 ⟨by omega,((iR h4).1 h9).1⟩
   obtain⟨n3,hn3⟩:∃x,t.extract 0 3=x:=⟨_,rfl⟩
   have e3:(n3.toList==[40,63,105])=false:=by
    rw[beq_eq_false_iff_ne,<-hn3]
    intro h9
    exact h3 ⟨by omega,h9⟩
   clear h3
  case' neg=>
   have h4i:¬(4:Int)<=(t.size:Int):=by omega
   have h4l:(t.size:Int)<4:=by omega
   by_cases h2:2<t.size
   case' pos=>
    have h2i:(2:Int)<(t.size:Int):=by omega
    have e3:(t.toList==[40,63,105])=false:=by
     rw[beq_eq_false_iff_ne]
     intro h9
     have h10:t.extract 0 3=t:=by
      rw[show 3=t.size by omega]
      exact ByteArray.extract_zero_size
     exact h3 ⟨by omega,by rw[h10];exact h9⟩
    clear h3
   case' neg=>
    have h2i:¬(2:Int)<(t.size:Int):=by omega
    clear h3
  all_goals
   go_enter Tryz.func23,Tryz.ntmps23
   go_upto_region 4 with fail
   generalize hw2:World.alloc _ _=w2
   have hx2:Ex [] w w2:=by rw[<-hw2];exact ((Ex.refl _ _).alloc _).alloc _
   have hr2:BK w2 w.heap.size (.cells #[.slice none 0 0,.int .i64 0,.int .i64 0,.slice none 0 0] 133 (0,0)):=by rw[<-hw2];exact (BK.new w _).alloc _
   have hp2:BK w2 (w.heap.size+1) (.cells #[.string t,.int .i64 0,.bool false,.pointer (some ⟨w.heap.size,0,none⟩),.bool false,.int .i64 0,.int .i64 0] 135 (0,0)):=by
    have h9:BK w2 (w.alloc (Obj.cells #[.slice none 0 0,.int .i64 0,.int .i64 0,.slice none 0 0] 133)).heap.size (.cells #[.string t,.int .i64 0,.bool false,.pointer (some ⟨w.heap.size,0,none⟩),.bool false,.int .i64 0,.int .i64 0] 135 (0,0)):=by rw[<-hw2];exact BK.new _ _
    rw[World.size_alloc]at h9
    exact h9
   have H2:=aa (jA w w2 t hp2 hr2)
   have X2:=aa hx2
   clear hw2 hx2 hr2 hp2
   have H3:=H2
   have hX3:=X2
   clear H2 X2
   have KX:=aa (lI (p:=w.heap.size+1) (r:=w.heap.size) (base:=w.heap.size) ht 7 0 rfl (by decide) _ _ _ _ H3.O rfl (by decide) (Nat.zero_le _) (by omega))
   go_wp2_with fail
   refine KX.O.mono ?_
   rintro e w5 ⟨hf5,hp5⟩
   obtain⟨y5,hy5,hz5⟩:=hp5.split
   subst hy5
   have F5:=aa (EB.toEx ((EB.ofEx hX3.O (Nat.le_refl _)).trans hf5.eb))
   clear hp5 hf5 KX
   have hPL:=rC ht HFM.O
   rcases hz5 with⟨q,s5,n5,hq5,ra5,hn5,y5',rfl,hty5⟩|⟨s9,s5,hv5,n5,hq5,hk5,hd5,ra5,hn5⟩
   ·rw[hq5]at hPL
    dsimp only at hPL
    have HQ5:=aa hq5
    have T5:=aa hty5
    clear hty5
    have hsz:=(ei ht 7 (by decide) _ _ _ hq5 (by decide) (Nat.zero_le _)).sz (Nat.zero_le _)
    have H5:=aa ra5
    have HPL:=aa hPL
    obtain⟨wq,hwq⟩:=exq (wt q)
    have HWQ:=aa hwq
    rw[<-hwq]at HPL
    obtain⟨m3,m5,m6,g5,g6,mr,gr,hrl⟩:=H5.O.more
    rw[<-hwq]at m6
    obtain⟨c0,c1,c2,f1,f2,hl⟩:=H5.O.facts
    obtain⟨av,nv,xs,ns,hbr,_⟩:=H5.O.rn.ex
    have r1:w5.cell? ⟨w.heap.size,1,none⟩=some (.int .i64 0):=hbr.all.1 1
    have rf1:w5.frozen? ⟨w.heap.size,1,none⟩=false:=hbr.all.2 1
    clear hPL hq5 ra5 hwq hbr
    obtain⟨k5,d5,f5,g5',nm5⟩:=s5
    dsimp only at c1 hsz HPL
    by_cases hk:k5=t.size
    ·have hlt:¬(k5:Int)<(t.size:Int):=by omega
     by_cases h120:120<wq
     ·have h120i:(120:Int)<(wq:Int):=by omega
      have HP:Hid (bq t=some t.size):=by show _=_;rw[HPL.O,if_pos hk,if_pos h120]
      clear hk
      go_wp2_with fail
      refine bodyPost_ret (v:= .tuple #[.pointer none,.int .i64 4,.int .i64 (t.size:Int)]) (by simp[results,Tryz.results23,go_sem]) rfl ⟨bx.some HP.O rfl,F5.O,ew.no⟩
     ·have h120i:¬(120:Int)<(wq:Int):=by omega
      have HP:Hid (bq t=none):=by show _=_;rw[HPL.O,if_pos hk,if_neg h120]
      have HRR:Hid (aX t= .ok q ⟨k5,d5,f5,g5',nm5⟩):=by show _=_;unfold aX;rw[HFM.O,Res.bind_ok,HQ5.O,Res.bind_ok,if_pos hk]
      have HW120:Hid (wt q<=120):=by show _<=_;rw[<-HWQ.O];omega
      clear hk
      go_upto_region 17 with fail
      generalize hw9:World.setCell _ _ _=w6
      have HRX:=aa (t6 H5.O T5.O hw9 HRR.O HW120.O)
      have hx6:Ex [w.heap.size] w5 w6:=by rw[<-hw9];exact (Ex.refl _ _).setCell (.inl (by simp)) _
      have hp6:=H5.O.rk
      unfold RK at hp6
      have hb6:=hp6.ex hx6 (by simp)
      have m36:w6.cell? ⟨w.heap.size+1,3,none⟩=some (.pointer (some ⟨w.heap.size,0,none⟩)):=hb6.all.1 3
      have hl6:=hb6.lt
      have F6:Hid (Ex [] w w6):=Ex.own F5.O hx6
      clear hw9 hx6 hp6 hb6 c0 c1 c2 f1 f2 hl m3 m5 m6 g5 g6 mr gr hrl r1 rf1
      go_wp2_with fail
      refine bodyPost_ret (v:= .tuple #[.pointer (some ⟨w.heap.size,0,none⟩),.int .i64 0,.int .i64 0]) (by simp[results,Tryz.results23,go_sem]) rfl ⟨bx.none HP.O,F6.O,ew.yes HRX.O⟩
    ·have hlt:(k5:Int)<(t.size:Int):=by omega
     have HP:Hid (bq t=some k5):=by show _=_;rw[HPL.O,if_neg hk]
     clear hk
     go_wp2_with fail
     go_quiet (fail)
     go_wp2_with fail
     refine bodyPost_ret (v:= .tuple #[.pointer none,.int .i64 4,.int .i64 (k5:Int)]) (by simp[results,Tryz.results23,go_sem]) rfl ⟨bx.some HP.O rfl,F5.O.drewN _,ew.no⟩
   ·rw[hq5]at hPL
    dsimp only at hPL
    have H5:=aa ra5
    have HP:Hid (bq t=some s5.k):=by show _=_;rw[hPL,hk5]
    obtain⟨c0,c1,c2,f1,f2,hl⟩:=H5.O.facts
    clear hPL hq5 ra5 hk5
    obtain⟨k5,d5,f5,g5',nm5⟩:=s5
    dsimp only at c1 HP
    go_wp2_with fail
    go_quiet (fail)
    go_wp2_with fail
    refine bodyPost_ret (v:= .tuple #[.pointer none,.int .i64 4,.int .i64 (k5:Int)]) (by simp[results,Tryz.results23,go_sem]) rfl ⟨bx.some HP.O rfl,F5.O.drewN _,ew.no⟩
def SrP (w:World) (s:ByteArray) (q:Pt) (g:Nat) (e:Ending) (w':World):Prop:=∃v sp,e= .returned (.tuple #[v,.bool (ev (lR (b8 s s.size 0)) 0 [.ex (den q)]).isSome])/\w'.ownsRow w.heap.size 31 2 v (g+1) (bL sp)/\(∀ms,ev (lR (b8 s s.size 0)) 0 [.ex (den q)]=some ms ->sp=bv (s.size:Int) (app bh ms) g)/\Ex [] w w'
theorem uV:(Tryz.prog.info? 31).map (fun i=>(i.zero,i.size,i.bytes))=some (some (.agg #[.int .i64 0,.int .i64 0]),2,16):=by kernel_rfl
theorem xw (j:Nat):bL (List.replicate j (-1,-1))++[.int .i64 (-1),.int .i64 (-1)]=bL (List.replicate (j+1) (-1,-1)):=by rw[List.replicate_succ',mD]
theorem xv (j:Nat):bO (List.replicate j 0)++[.int .i64 0]=bO (List.replicate (j+1) 0):=by rw[List.replicate_succ'];simp[bO]
theorem SG.start {c:SC} (hb:c.base=c.w0.heap.size) (hx:Ex [] c.w0 w) (hblk:BK w c.S (.cells #[.pointer (some ⟨c.rb,0,none⟩),c.lv,.slice none 0 0,c.pv,c.ov,.int .i64 (c.en:Int)] 221 (0,0))) (hr:w.ownsRow c.base 274 3 c.lv c.l3.length (ni c.l3)) (hs:w.ownsRow c.base 31 2 c.pv (c.g+1) (bL (List.replicate (c.g+1) (-1,-1)))) (ho:w.ownsRow c.base 3 1 c.ov (c.g+1) (bO (List.replicate (c.g+1) 0))):
  SG c ⟨.slice none 0 0,[],[],[],List.replicate (c.g+1) (-1,-1),List.replicate (c.g+1) 0⟩ w:=
 ⟨EB.ofEx hx (by rw[hb];exact Nat.le_refl _),hblk,hr,World.ownsRow_nil _ _ _ _,hs,ho,fun k s bs h=>(by simp at h),fun k k' s s' h=>(by simp at h),⟨rfl,rfl,List.nodup_nil,fun K hK=>(by cases hK),fun k s K h=>(by simp at h),fun k K bs h=>(by simp at h)⟩,(by simp),(by simp)⟩
theorem eZ (s:ByteArray) (hz:s.size<=1048576) (ht:t.size<=60) (hr:aX t= .ok q st) (hb:BK w b (.cells #[av,.int .i64 ((root:Nat):Int),.int .i64 (st.g:Int),nv] 133 (0,0))) (hX:XT w b root (den q)):
  Calls Tryz.prog 58 #[.pointer (some ⟨b,0,none⟩),.string s] w (SrP w s q st.g):=by
 obtain⟨Y,hYi,hYe,hY⟩:=hX.toY
 have hg5:=kh hr
 obtain⟨tS,hti,hzz0,hzz1,hzz2⟩:=info_parts uV
 obtain⟨tI,hii,hiz0,hiz1,hiz2⟩:=info_parts kT
 have KR:=aa (vh s hz w)
 have HSK:Hid (∀S lv pv ov,w.heap.size<=S ->SK ⟨w,S,b,w.heap.size,oY Y,b8 s s.size 0,s.size,st.g,lv,pv,ov⟩):=fun S lv pv ov hS=>SK.mk2 hS hz ht hr hY hYe
 have HSE:Hid (∀ms,ev (lR (b8 s s.size 0)) 0 [.ex (den q)]=some ms ->((fE (List.replicate (st.g+1) (-1,-1)) (List.replicate (st.g+1) 0) ms).1.set 0 (0,(s.size:Int)))=bv (s.size:Int) (app bh ms) st.g):=fun ms h=>rM hg5 (pz ht hr).2 h _
 have HEV:Hid (∀S lv pv ov,evK ⟨w,S,b,w.heap.size,oY Y,b8 s s.size 0,s.size,st.g,lv,pv,ov⟩ 0 [.ex Y]=ev (lR (b8 s s.size 0)) 0 [.ex (den q)]):=fun S lv pv ov=>by
  unfold evK
  show ev ((lR (b8 s s.size 0)).drop 0) (eY (b8 s s.size 0) s.size 0) [.ex Y.er]=_
  rw[List.drop_zero,oI s s.size 0 (by omega) (Nat.zero_le _),hYe]
 obtain⟨R,hR⟩:=exq (ev (lR (b8 s s.size 0)) 0 [.ex (den q)])
 obtain⟨g,hg⟩:=exq (st.g)
 rw[<-hg]at hb hg5 HSK HSE HEV ⊢
 rw[<-hR]at HSE HEV
 have HR:=aa hR
 have HB:=aa hb
 have HYI:=aa hYi
 clear hr hb hX hYe hY hR hg ht hYi
 go_enter Tryz.func58,Tryz.ntmps58
 go_wp2_with fail
 refine KR.O.mono ?_
 rintro e w1 ⟨lv,rfl,hrun,hx1⟩
 obtain⟨lp,lc,hlv⟩:=aA hrun
 obtain⟨ln,hln⟩:=exq ((b8 s s.size 0).length)
 rw[<-hln]at hlv
 subst hlv
 have HLN:=aa hln
 clear hln
 obtain⟨S,hS⟩:=exq (w1.heap.size)
 have HRUN:=aa hrun
 have HX1:=aa hx1
 have hz1:=hx1.size
 clear hrun hx1
 go_upto_region 3 with fail
 generalize hw2:World.alloc _ _=w2
 have hb2:BK w2 w1.heap.size (.cells #[.pointer (some ⟨b,0,none⟩),(.slice lp ln lc),.slice none 0 0,.slice none 0 0,.slice none 0 0,.int .i64 (s.size:Int)] 221 (0,0)):=by rw[<-hw2];exact BK.new _ _
 have hx2:Ex [] w1 w2:=by rw[<-hw2];exact (Ex.refl _ _).alloc _
 have HRUN2:=aa (aU HRUN.O hx2 (by simp))
 have HX2:=aa (HX1.O.trans hx2)
 rw[<-hS]at hb2 ⊢
 have HB2:=aa hb2
 have hSw:w.heap.size<=S:=by omega
 clear hw2 hx2 hb2 hS HRUN HX1 hz1 KR
 go_wp2_with fail
 go_loopg [8] (g+1) (fun gk v8 wr=>∃(j:Nat) (pv ov:Value),v8= .int .i64 (j:Int)/\j+gk=g+1/\BK wr S (.cells #[.pointer (some ⟨b,0,none⟩),(.slice lp ln lc),.slice none 0 0,pv,ov,.int .i64 (s.size:Int)] 221 (0,0))/\wr.ownsRow w.heap.size 31 2 pv j (bL (List.replicate j (-1,-1)))/\wr.ownsRow w.heap.size 3 1 ov j (bO (List.replicate j 0))/\wr.ownsRow w.heap.size 274 3 (.slice lp ln lc) (b8 s s.size 0).length (ni (b8 s s.size 0))/\Ex [] w wr)
 case atStart=>exact⟨0,_,_,rfl,by omega,HB2.O,World.ownsRow_nil _ _ _ _,World.ownsRow_nil _ _ _ _,HRUN2.O,HX2.O⟩
 case round=>
  obtain⟨j,pv,ov,rfl,hj,hbS,hsp,hop,hrn,hx⟩:=hrel
  obtain⟨pp,pc,rfl⟩:=aA hsp
  obtain⟨oo,oc,rfl⟩:=aA hop
  have hbb:=HB.O.ex hx (by simp)
  have c2:wr.cell? ⟨b,2,none⟩=some (.int .i64 (g:Int)):=hbb.all.1 2
  have hbl:=hbb.lt
  have hSl:=hbS.lt
  have HBS:=aa hbS
  have HSP:=aa hsp
  have HOP:=aa hop
  have HRN:=aa hrn
  have HX:=aa hx
  have hwz:=hx.size
  cases gk with
  |zero=>
   have e9:j=g+1:=by omega
   subst e9
   have hgl:¬((g:Int)+1<=(g:Int)):=by omega
   have c1:wr.cell? ⟨b,1,none⟩=some (.int .i64 (Y.idx:Int)):=by rw[HYI.O];exact hbb.all.1 1
   have hk:=HSK.O S (.slice lp ln lc) (.slice pp (g+1) pc) (.slice oo (g+1) oc) hSw
   have h0:=SG.start (c:=⟨w,S,b,w.heap.size,oY Y,b8 s s.size 0,s.size,g,(.slice lp ln lc),.slice pp (g+1) pc,.slice oo (g+1) oc⟩) rfl hx hbS hrn hsp hop
   have K1:=aa (jt hk h0 (.ex Y) [] (bJ Y [[]] [] (by simp)) (-1) (.inl ⟨rfl,rfl⟩) 0 (Y.idx:Int) false rfl)
   have HK:=aa hk
   have H0:=aa h0
   clear hk h0 hbS hsp hop hrn hx hbb
   go_wp2_with fail
   refine K1.O.mono ?_
   rintro e w3 ⟨i3,d3,rfl,h3,f3,hi3,hsp3,hop3⟩
   have KV:=aa (zb HK.O [.ex Y] d3 w3 (i3:Int) h3 (NX.at h3 hi3))
   rw[HEV.O]at KV
   have HSP3:=aa (And.intro hsp3 hop3)
   clear K1 c1 c2 hbl hSl h3 f3 hi3 hsp3 hop3 HSP HOP HRN HBS HX hwz
   go_wp2_with fail
   refine KV.O.mono ?_
   rintro e w4 ⟨d4,rfl,h4,f4,ha⟩
   obtain⟨pg,pc',og,oc',e1,_,hpl4,_,⟨y,_,z0,z1⟩,_,fz,_⟩:=h4.grp (x:=0) (by show 0<g+1;omega)
   cases e1
   have z0:w4.cell? ⟨pg,0,none⟩=some (.int .i64 y.1):=z0
   have z1:w4.cell? ⟨pg,1,none⟩=some (.int .i64 y.2):=z1
   have fz0:=fz 0
   have fz1:=fz 1
   have p3:w4.cell? ⟨S,3,none⟩=some (.slice (some ⟨pg,0,none⟩) (g+1) pc):=h4.blk.all.1 3
   have hSl4:S<w4.heap.size:=h4.blk.lt
   have hg1:(0:Int)<(g:Int)+1:=by omega
   have H4:=aa h4
   have HA:=aa ha
   clear KV h4 f4 ha fz
   go_upto_region 11 with fail
   generalize hw5:World.setCell (World.setCell _ _ _) _ _=w5
   have hp5:=SG.span HK.O H4.O (x:=0) (by show 0<g+1;omega) rfl 0 (s.size:Int)
   have h5:=hp5.1
   replace hw5:World.setCell (World.setCell w4 ⟨pg,0*2,none⟩ (.int .i64 0)) ⟨pg,0*2+1,none⟩ (.int .i64 (s.size:Int))=w5:=hw5
   rw[hw5]at h5
   have u3:w5.cell? ⟨S,3,none⟩=some (.slice (some ⟨pg,0,none⟩) (g+1) pc):=h5.blk.all.1 3
   have hSl5:S<w5.heap.size:=h5.blk.lt
   have H5:=aa h5
   clear hp5 h5 hw5 z0 z1 fz0 fz1 p3 hSl4 hpl4
   go_wp2_with fail
   refine bodyPost_ret (v:= .tuple #[.slice (some ⟨pg,0,none⟩) (g+1) pc,.bool R.isSome]) (by simp[results,Tryz.results58,go_sem]) rfl ?_
   refine⟨_,d4.sp.set 0 (0,(s.size:Int)),by rw[<-HR.O],H5.O.spn,fun ms hms=> ?_,⟨H5.O.eb.os,H5.O.eb.tape,H5.O.eb.output,H5.O.eb.size,fun k hk _=>H5.O.eb.block k hk (by simp)⟩⟩
   rw[<-HR.O]at hms
   have ha:=HA.O
   rw[hms]at ha
   rw[ha.1,HSP3.O.1,HSP3.O.2]
   exact HSE.O ms hms
  |succ gk=>
   have hgl:(j:Int)<=(g:Int):=by omega
   have b3:wr.cell? ⟨S,3,none⟩=some (.slice pp j pc):=hbS.all.1 3
   clear hbS hsp hop hrn hx hbb
   go_wp2_with (at_builtin;refine wpList_append_lies _ rfl (.tmp 31) (.tmp 33) 22 rfl w.heap.size 31 tS _ 2 16 Tryz.underlying22 hti hzz0 hzz1 hzz2 rfl (by decide) (.slice pp j pc) j _ rfl (HSP.O.alloc _) ⟨wr.heap.size,0,none⟩ 1 1 [.int .i64 (-1),.int .i64 (-1)] rfl rfl (bK _ _ _) (by simp[Value.oneCell']) (by decide) (by unfold maxLen;omega) (by omega) (by simp;omega) (wr.heap.size+1) (by simp) ?_)
   intro g5 cap5 w5 hown5 hgrow5 hat5 hlt5
   have hbS5:=BK.grown (BK.alloc HBS.O (.cells #[.int .i64 (-1),.int .i64 (-1)] 31)) hgrow5 (aE HSP.O HBS.O (by decide))
   have hop5:=dW (HOP.O.alloc (.cells #[.int .i64 (-1),.int .i64 (-1)] 31)) hgrow5 (cr HSP.O HOP.O (by decide))
   have hrn5:=dW (HRN.O.alloc (.cells #[.int .i64 (-1),.int .i64 (-1)] 31)) hgrow5 (cr HSP.O HRN.O (by decide))
   have hgr5:Ex (Value.slice pp j pc).ownBlock.toList wr w5:=Ex.grown ((Ex.refl _ _).alloc _) hgrow5 (fun y hy=>Or.inl (by simpa using hy))
   have hx5:Ex [] w w5:=((HX.O.drop (by simp)).trans hgr5).drop (l':=[]) (fun y hy hlt=>by have:=aG HSP.O y (by simpa using hy);omega)
   obtain⟨v5,hv5⟩:=exq (Value.slice (some ⟨g5,0,none⟩) (j+1) cap5)
   have hne5:v5.ownBlock≠some S:=by rw[hv5];exact aE hown5 hbS5 (by decide)
   have hbS6:=hbS5.self 3 v5
   simp only[List.setIfInBounds_toArray,List.set_cons_zero,List.set_cons_succ]at hbS6
   have hown6:(w5.setCell ⟨S,3,none⟩ v5).ownsRow w.heap.size 31 2 v5 (j+1) (bL (List.replicate (j+1) (-1,-1))):=by
    rw[<-xw,hv5]
    exact aH hown5 (fun g2 hg2=>Below.heap_setCell _ _ _ _ (fun e=>aE hown5 hbS5 (by decide) (by rw[hg2,e])))
   have hop6:=aH hop5 (w':=w5.setCell ⟨S,3,none⟩ v5) (fun g2 hg2=>Below.heap_setCell _ _ _ _ (fun e=>aE hop5 hbS5 (by decide) (by rw[hg2,e])))
   have hrn6:=aH hrn5 (w':=w5.setCell ⟨S,3,none⟩ v5) (fun g2 hg2=>Below.heap_setCell _ _ _ _ (fun e=>aE hrn5 hbS5 (by decide) (by rw[hg2,e])))
   have hx6:Ex [] w (w5.setCell ⟨S,3,none⟩ v5):=hx5.setCell (.inr hSw) _
   obtain⟨hcs5,hfs5⟩:=hbS5.all
   have hSl5:=hbS5.lt
   obtain⟨w6,hw6⟩:=exq (w5.setCell ⟨S,3,none⟩ v5)
   rw[<-hw6]at hbS6 hown6 hop6 hrn6 hx6
   have BS6:=aa hbS6
   have OS6:=aa hown6
   have OP6:=aa hop6
   have RN6:=aa hrn6
   have X6:=aa hx6
   have HW6:=aa hw6
   have HV5:=aa hv5
   have b4:w6.cell? ⟨S,4,none⟩=some (.slice oo j oc):=hbS6.all.1 4
   have hSl6:=hbS6.lt
   have hz6:=hx6.size
   clear hbS6 hown6 hop6 hrn6 hx6 hw6 hv5 hne5 hbS5 hop5 hrn5 hgr5 hx5 hown5 hgrow5 hat5 hlt5 b3 c2 hbl hSl
   go_upto_region 7 with fail
   rw[<-HV5.O,<-HW6.O]
   clear hcs5 hfs5 hSl5
   go_wp2_with (at_builtin;refine wpList_append_lies _ rfl (.tmp 41) (.tmp 42) 199 rfl w.heap.size 3 tI _ 1 8 Tryz.underlying199 hii hiz0 hiz1 hiz2 rfl (by decide) (.slice oo j oc) j _ rfl (OP6.O.alloc _) ⟨w6.heap.size,0,none⟩ 1 1 [.int .i64 0] rfl rfl (bK _ _ _) (by simp[Value.oneCell']) (by decide) (by unfold maxLen;omega) (by omega) (by simp;omega) (w6.heap.size+1) (by simp) ?_)
   intro g7 cap7 w7 hown7 hgrow7 hat7 hlt7
   have hbS7:=BK.grown (BK.alloc BS6.O (.cells #[.int .i64 0] 3)) hgrow7 (aE OP6.O BS6.O (by decide))
   have hsp7:=dW (OS6.O.alloc (.cells #[.int .i64 0] 3)) hgrow7 (cr OP6.O OS6.O (by decide))
   have hrn7:=dW (RN6.O.alloc (.cells #[.int .i64 0] 3)) hgrow7 (cr OP6.O RN6.O (by decide))
   have hgr7:Ex (Value.slice oo j oc).ownBlock.toList w6 w7:=Ex.grown ((Ex.refl _ _).alloc _) hgrow7 (fun y hy=>Or.inl (by simpa using hy))
   have hx7:Ex [] w w7:=((X6.O.drop (by simp)).trans hgr7).drop (l':=[]) (fun y hy hlt=>by have:=aG OP6.O y (by simpa using hy);omega)
   obtain⟨v7,hv7⟩:=exq (Value.slice (some ⟨g7,0,none⟩) (j+1) cap7)
   have hbS8:=hbS7.self 4 v7
   simp only[List.setIfInBounds_toArray,List.set_cons_zero,List.set_cons_succ]at hbS8
   have hown8:(w7.setCell ⟨S,4,none⟩ v7).ownsRow w.heap.size 3 1 v7 (j+1) (bO (List.replicate (j+1) 0)):=by
    rw[<-xv,hv7]
    exact aH hown7 (fun g2 hg2=>Below.heap_setCell _ _ _ _ (fun e=>aE hown7 hbS7 (by decide) (by rw[hg2,e])))
   have hsp8:=aH hsp7 (w':=w7.setCell ⟨S,4,none⟩ v7) (fun g2 hg2=>Below.heap_setCell _ _ _ _ (fun e=>aE hsp7 hbS7 (by decide) (by rw[hg2,e])))
   have hrn8:=aH hrn7 (w':=w7.setCell ⟨S,4,none⟩ v7) (fun g2 hg2=>Below.heap_setCell _ _ _ _ (fun e=>aE hrn7 hbS7 (by decide) (by rw[hg2,e])))
   have hx8:Ex [] w (w7.setCell ⟨S,4,none⟩ v7):=hx7.setCell (.inr hSw) _
   obtain⟨hcs7,hfs7⟩:=hbS7.all
   have hSl7:=hbS7.lt
   rw[hv7]at hbS8 hown8 hsp8 hrn8 hx8
   have BS8:=aa hbS8
   have OI8:=aa hown8
   have OS8:=aa hsp8
   have RN8:=aa hrn8
   have X8:=aa hx8
   clear hbS8 hown8 hsp8 hrn8 hx8 hbS7 hsp7 hrn7 hgr7 hx7 hown7 hgrow7 hat7 hlt7 b4 hSl6 hv7
   go_wp2_with fail
   go_roundg gk
   case measure=>omega
   case rel=>exact⟨j+1,v5,.slice (some ⟨g7,0,none⟩) (j+1) cap7,by simp,by omega,BS8.O,OS8.O,OI8.O,RN8.O,X8.O⟩
theorem XT.ex {w':World} {r y:Nat} {X:Xp} (h:XT w r y X) (hx:Ex [] w w'):XT w' r y X:=h.mono (fun y E hy=>hy.typed (fun g cs ty fz hg _=>hx.block g (BK.lt (show BK w g _ from hg)) (by simp)))
theorem o5 (s:ByteArray) (hz:s.size<=1048576) (ht:t.size<=60) (hr:aX t= .ok q st) (hb:BK w b (.cells #[av,.int .i64 ((root:Nat):Int),.int .i64 (st.g:Int),nv] 133 (0,0))) (hX:XT w b root (den q)):
  Calls Tryz.prog 24 #[.pointer (some ⟨b,0,none⟩),.string s] w fun e w'=>e= .returned (.bool (ev (lR (b8 s s.size 0)) 0 [.ex (den q)]).isSome)/\Ex [] w w':=by
 have KS:=aa (eZ s hz ht hr hb hX)
 clear hr hb hX ht
 go_enter Tryz.func24,Tryz.ntmps24
 go_wp2_with fail
 refine KS.O.mono ?_
 rintro e w2 ⟨v,sp,rfl,_,_,hx⟩
 have HX:=aa hx
 clear hx KS
 obtain⟨R,hR⟩:=exq ((ev (lR (b8 s s.size 0)) 0 [.ex (den q)]).isSome)
 rw[<-hR]
 have HRR:=aa hR
 clear hR
 go_wp2_with fail
 go_ret
 first|exact⟨congrArg (fun z=>Ending.returned (Value.bool z)) HRR.O,HX.O⟩|exact⟨HRR.O,HX.O⟩
theorem sm (s:ByteArray) (hz:s.size<=1048576) (ht:t.size<=60) (hr:aX t= .ok q st) (hb:BK w b (.cells #[av,.int .i64 ((root:Nat):Int),.int .i64 (st.g:Int),nv] 133 (0,0))) (hX:XT w b root (den q)) {ms:Mk} (hm:ev (lR (b8 s s.size 0)) 0 [.ex (den q)]=some ms):
  Calls Tryz.prog 25 #[.pointer (some ⟨b,0,none⟩),.string s] w fun e w'=>(∃v,e= .returned v/\w'.ownsRow w.heap.size 31 2 v (st.g+1) (bL (bv (s.size:Int) (app bh ms) st.g)))/\Ex [] w w':=by
 have KS:=aa (eZ s hz ht hr hb hX)
 have HMS:=aa hm
 clear hr hb hX ht hm
 go_enter Tryz.func25,Tryz.ntmps25
 go_wp2_with fail
 refine KS.O.mono ?_
 rintro e w2 ⟨v,sp,rfl,ho,hsp,hx⟩
 have hsp:=hsp ms HMS.O
 subst hsp
 have HX:=aa hx
 have HO:=aa ho
 clear hx ho KS
 obtain⟨R,hR⟩:=exq ((ev (lR (b8 s s.size 0)) 0 [.ex (den q)]).isSome)
 rw[<-hR]
 clear hR
 go_wp2_with fail
 refine bodyPost_ret (v:=v) (by simp[results,Tryz.results25,go_sem]) rfl ⟨⟨v,rfl,HO.O⟩,HX.O⟩
theorem rD (h:bq t=none):∃q st,aX t= .ok q st/\t.size<=60:=by
 unfold bq at h
 by_cases h60:60<t.size
 ·rw[if_pos h60]at h;cases h
 ·rw[if_neg h60]at h
  cases hr:aX t with
  |bad s=>rw[hr]at h;cases h
  |ok q st=>exact⟨q,st,rfl,by omega⟩
theorem yF (x:Int) (w:World):Calls Tryz.prog 11 #[.int .i64 x] w fun e w'=>e= .returned (.int .i64 x)/\w'=w:=by
 go_enter Tryz.func11,Tryz.ntmps11
 go_wp2_with fail
 go_ret
 exact⟨rfl,rfl⟩
end Go.Proofs.YtfnanjbleifjkaaGreatDoor.G
