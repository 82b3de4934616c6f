import Derived.Test.YtfnanjbleifjkaaGreatDoorM22
set_option linter.unusedVariables false
set_option linter.unusedSimpArgs false
set_option maxHeartbeats 8000000
namespace Go.Proofs.YtfnanjbleifjkaaGreatDoor.G
variable {w:World} {base p r:Nat} {t:ByteArray} {s:RS} {bad f:Bool} {hv:Int} {d:Cls} {bs:List Bool}
open Go.RowKit
theorem RA.step {n:Nat} (h:RA w p r base t s bad hv n):
  RA (w.setCell ⟨p,1,none⟩ (.int .i64 ((s.k:Int)+1))) p r base t s.up bad hv n/\KS r w (w.setCell ⟨p,1,none⟩ (.int .i64 ((s.k:Int)+1)))/\EB base [] w (w.setCell ⟨p,1,none⟩ (.int .i64 ((s.k:Int)+1))):=
 h.setCell (s':=s.up) (bad':=bad) (hv':=hv) 1 (.int .i64 ((s.k:Int)+1)) (by simp[RS.up]) rfl rfl
theorem RA.gives {n:Nat} (h:RA w p r base t s bad hv n):
  RA (w.setCell ⟨p,2,none⟩ (.bool true)) p r base t s true hv n/\KS r w (w.setCell ⟨p,2,none⟩ (.bool true))/\EB base [] w (w.setCell ⟨p,2,none⟩ (.bool true)):=
 h.setCell (s':=s) (bad':=true) (hv':=hv) 2 (.bool true) rfl rfl rfl
structure Fr (w w':World) (r base:Nat):Prop where
 ks:KS r w w'
 eb:EB base [] w w'
theorem Fr.refl (w:World) (base:Nat):Fr w w r base:=⟨KS.refl _,EB.refl _ _ _⟩
theorem Fr.trans {a b c:World} (h:Fr a b r base) (k:Fr b c r base):Fr a c r base:=⟨h.ks.trans k.ks,h.eb.trans k.eb⟩
theorem Fr.drewN (w:World) (base k:Nat):Fr w (w.drewN k) r base:=⟨KS.ex ((Ex.refl _ _).drewN k),(EB.refl _ _ _).drewN k⟩
theorem Fr.ex {w':World} (h:Ex [] w w') (hb:base<=w.heap.size):Fr w w' r base:=⟨KS.ex h,EB.ofEx h hb⟩
theorem RA.up {n:Nat} (h:RA w p r base t s bad hv n) (W:World) (hW:w.setCell ⟨p,1,none⟩ (.int .i64 ((s.k:Int)+1))=W):RA W p r base t s.up bad hv n/\Fr w W r base:=by
 obtain⟨a,b,c⟩:=h.step
 rw[hW]at a b c
 exact⟨a,b,c⟩
theorem RA.bads {n:Nat} (h:RA w p r base t s bad hv n) (W:World) (hW:w.setCell ⟨p,2,none⟩ (.bool true)=W):RA W p r base t s true hv n/\Fr w W r base:=by
 obtain⟨a,b,c⟩:=h.gives
 rw[hW]at a b c
 exact⟨a,b,c⟩
theorem RA.up2 {n:Nat} (h:RA w p r base t s bad hv n) (W:World) {v:Int} (hW:w.setCell ⟨p,1,none⟩ (.int .i64 v)=W) (e:v=(s.k:Int)+1):RA W p r base t s.up bad hv n/\Fr w W r base:=h.up W (by rw[<-e];exact hW)
theorem RA.facts {n:Nat} (h:RA w p r base t s bad hv n):
  w.cell? ⟨p,0,none⟩=some (.string t)/\w.cell? ⟨p,1,none⟩=some (.int .i64 (s.k:Int))/\w.cell? ⟨p,2,none⟩=some (.bool bad)/\w.frozen? ⟨p,1,none⟩=false/\w.frozen? ⟨p,2,none⟩=false/\p<w.heap.size:=
 ⟨h.rk.all.1 0,h.rk.all.1 1,h.rk.all.1 2,h.rk.all.2 1,h.rk.all.2 2,h.rk.lt⟩
theorem dt (t:ByteArray) (k:Nat):aj t k<256:=by
 unfold aj
 split
 ·exact UInt8.toNat_lt _
 ·decide
def fY (c:Nat):Bool:=decide (48<=c/\c<=57)
inductive el (t:ByteArray) (k:Nat):Option (Nat×Int) ->Nat ->Prop
 |noDig:fY (aj t (k+1))=false ->el t k none (k+1)
 |one:fY (aj t (k+1))=true ->aj t (k+2)=125 ->el t k (some (aj t (k+1)-48,((aj t (k+1)-48:Nat):Int))) (k+2)
 |oneBad:fY (aj t (k+1))=true ->aj t (k+2)≠44 ->aj t (k+2)≠125 ->el t k none (k+2)
 |more:fY (aj t (k+1))=true ->aj t (k+2)=44 ->aj t (k+3)=125 ->el t k (some (aj t (k+1)-48,-1)) (k+3)
 |twoBad:fY (aj t (k+1))=true ->aj t (k+2)=44 ->aj t (k+3)≠125 ->(fY (aj t (k+3))=false\/aj t (k+3)<aj t (k+1)) ->el t k none (k+3)
 |two:fY (aj t (k+1))=true ->aj t (k+2)=44 ->fY (aj t (k+3))=true ->aj t (k+1)<=aj t (k+3) ->aj t (k+4)=125 ->el t k (some (aj t (k+1)-48,((aj t (k+3)-48:Nat):Int))) (k+4)
 |endBad:fY (aj t (k+1))=true ->aj t (k+2)=44 ->fY (aj t (k+3))=true ->aj t (k+1)<=aj t (k+3) ->aj t (k+4)≠125 ->el t k none (k+4)
def uB (w:World) (p r base:Nat) (t:ByteArray) (s:RS) (hv:Int) (n:Nat) (e:Ending) (w':World):Prop:=∃o k',el t s.k o k'/\Fr w w' r base/\match o with
 |some x=>e= .returned (.tuple #[.int .i64 (x.1:Int),.int .i64 x.2])/\RA w' p r base t {s with k:=k'} false hv n
 |none=>(∃a b:Int,e= .returned (.tuple #[.int .i64 a,.int .i64 b]))/\RA w' p r base t {s with k:=k'} true hv n
theorem vt {n:Nat} (h:RA w p r base t s false hv n) (ht:t.size<=60) (hlt:s.k<t.size):
  Calls Tryz.prog 183 #[.pointer (some ⟨p,0,none⟩)] w fun e w'=>uB w p r base t s hv n e w':=by
 obtain⟨k,d,f,g,nm⟩:=s
 dsimp only at hlt
 have Hw:=aa h
 have Fw:=aa (Fr.refl (r:=r) w base)
 clear h
 obtain⟨a,ha⟩:=exq (aj t (k+1))
 have HCa:=aa ha
 have a256:a<256:=by rw[ha];exact dt _ _
 clear ha
 obtain⟨b,hb⟩:=exq (aj t (k+2))
 have HCb:=aa hb
 have b256:b<256:=by rw[hb];exact dt _ _
 clear hb
 obtain⟨c,hc⟩:=exq (aj t (k+3))
 have HCc:=aa hc
 have c256:c<256:=by rw[hc];exact dt _ _
 clear hc
 obtain⟨x,hx⟩:=exq (aj t (k+4))
 have HCx:=aa hx
 have x256:x<256:=by rw[hx];exact dt _ _
 clear hx
 have c1:w.cell? ⟨p,1,none⟩=some (.int .i64 ((k:Int))):=by have h9:=Hw.O.facts.2.1;simpa using h9
 have c2:=Hw.O.facts.2.2.1
 have f1:=Hw.O.facts.2.2.2.1
 have f2:=Hw.O.facts.2.2.2.2.1
 have hl:=Hw.O.facts.2.2.2.2.2
 go_enter Tryz.func183,Tryz.ntmps183
 go_wp2_with fail
 generalize hw9:World.setCell _ _ _=w1
 have Hw1:Hid (RA w1 p r base t ⟨k+1,d,f,g,nm⟩ false hv n):=(Hw.O.up2 w1 hw9 (by simp)).1
 have Fw1:=aa (Fw.O.trans (Hw.O.up2 w1 hw9 (by simp)).2)
 clear hw9
 clear c1 c2 f1 f2 hl
 have KN:=aa (dh Hw1.O.rk)
 dsimp only at KN
 rw[<-show a=aj t (k+1)from HCa.O]at KN
 refine KN.O.mono ?_
 rintro e w2 ⟨rfl,q9,hq9⟩
 have Hw2:Hid (RA w2 p r base t ⟨k+1,d,f,g,nm⟩ false hv n):=by rw[hq9];exact Hw1.O.drewN q9
 have Fw2:Hid (Fr w w2 r base):=Fw1.O.trans (by rw[hq9];exact Fr.drewN (r:=r) _ _ q9)
 clear hq9 KN
 have c1:w2.cell? ⟨p,1,none⟩=some (.int .i64 ((k:Int)+1)):=by have h9:=Hw2.O.facts.2.1;simpa using h9
 have c2:=Hw2.O.facts.2.2.1
 have f1:=Hw2.O.facts.2.2.2.1
 have f2:=Hw2.O.facts.2.2.2.2.1
 have hl:=Hw2.O.facts.2.2.2.2.2
 by_cases ha:48<=a/\a<=57
 ·have HD:Hid (fY (aj t (k+1))=true):=by show _=_;rw[<-HCa.O];unfold fY;exact decide_eq_true ha
  have ha1:¬(a:Int)<48:=by omega
  have ha2:¬(57:Int)<(a:Int):=by omega
  obtain⟨A,hA⟩:=exq (a-48)
  have HA:=aa hA
  have ha3:IntKind.u8.wrap ((a:Int)-48)=(A:Int):=by rw[IntKind.wrap_u8];omega
  go_wp2_with fail
  generalize hw9:World.setCell _ _ _=w3
  have Hw3:Hid (RA w3 p r base t ⟨k+2,d,f,g,nm⟩ false hv n):=(Hw2.O.up2 w3 hw9 (by simp)).1
  have Fw3:=aa (Fw2.O.trans (Hw2.O.up2 w3 hw9 (by simp)).2)
  clear hw9
  clear c1 c2 f1 f2 hl
  have KN:=aa (dh Hw3.O.rk)
  dsimp only at KN
  rw[<-show b=aj t (k+2)from HCb.O]at KN
  refine KN.O.mono ?_
  rintro e w4 ⟨rfl,q9,hq9⟩
  have Hw4:Hid (RA w4 p r base t ⟨k+2,d,f,g,nm⟩ false hv n):=by rw[hq9];exact Hw3.O.drewN q9
  have Fw4:Hid (Fr w w4 r base):=Fw3.O.trans (by rw[hq9];exact Fr.drewN (r:=r) _ _ q9)
  clear hq9 KN
  have c1:w4.cell? ⟨p,1,none⟩=some (.int .i64 ((k:Int)+2)):=by have h9:=Hw4.O.facts.2.1;simpa using h9
  have c2:=Hw4.O.facts.2.2.1
  have f1:=Hw4.O.facts.2.2.2.1
  have f2:=Hw4.O.facts.2.2.2.2.1
  have hl:=Hw4.O.facts.2.2.2.2.2
  by_cases hb1:b=44
  ·have hb44:(((b:Nat):Int)==44)=true:=by rw[beq_iff_eq];omega
   go_wp2_with fail
   generalize hw9:World.setCell _ _ _=w5
   have Hw5:Hid (RA w5 p r base t ⟨k+3,d,f,g,nm⟩ false hv n):=(Hw4.O.up2 w5 hw9 (by simp)).1
   have Fw5:=aa (Fw4.O.trans (Hw4.O.up2 w5 hw9 (by simp)).2)
   clear hw9
   clear c1 c2 f1 f2 hl
   have KN:=aa (dh Hw5.O.rk)
   dsimp only at KN
   rw[<-show c=aj t (k+3)from HCc.O]at KN
   refine KN.O.mono ?_
   rintro e w6 ⟨rfl,q9,hq9⟩
   have Hw6:Hid (RA w6 p r base t ⟨k+3,d,f,g,nm⟩ false hv n):=by rw[hq9];exact Hw5.O.drewN q9
   have Fw6:Hid (Fr w w6 r base):=Fw5.O.trans (by rw[hq9];exact Fr.drewN (r:=r) _ _ q9)
   clear hq9 KN
   have c1:w6.cell? ⟨p,1,none⟩=some (.int .i64 ((k:Int)+3)):=by have h9:=Hw6.O.facts.2.1;simpa using h9
   have c2:=Hw6.O.facts.2.2.1
   have f1:=Hw6.O.facts.2.2.2.1
   have f2:=Hw6.O.facts.2.2.2.2.1
   have hl:=Hw6.O.facts.2.2.2.2.2
   by_cases hcq:c=125
   ·have hc125:(((c:Nat):Int)==125)=true:=by rw[beq_iff_eq];omega
    go_wp2_with fail
    have KN:=aa (dh Hw6.O.rk)
    dsimp only at KN
    rw[<-show c=aj t (k+3)from HCc.O]at KN
    refine KN.O.mono ?_
    rintro e w7 ⟨rfl,q9,hq9⟩
    have Hw7:Hid (RA w7 p r base t ⟨k+3,d,f,g,nm⟩ false hv n):=by rw[hq9];exact Hw6.O.drewN q9
    have Fw7:Hid (Fr w w7 r base):=Fw6.O.trans (by rw[hq9];exact Fr.drewN (r:=r) _ _ q9)
    clear hq9 KN
    clear c1 c2 f1 f2 hl
    go_wp2_with fail
    go_ret2
    have ho:=el.more (t:=t) (k:=k) HD.O (by rw[<-HCb.O];exact hb1) (by rw[<-HCc.O];exact hcq)
    rw[<-show a=aj t (k+1)from HCa.O]at ho
    exact⟨_,_,ho,Fw7.O,rfl,Hw7.O⟩
   ·have hc125:(((c:Nat):Int)==125)=false:=by rw[beq_eq_false_iff_ne];omega
    by_cases hcd:(48<=c/\c<=57)/\a<=c
    ·have hc1:¬(c:Int)<48:=by omega
     have hc2:¬(57:Int)<(c:Int):=by omega
     obtain⟨C,hC⟩:=exq (c-48)
     have HCC:=aa hC
     have hc3:IntKind.u8.wrap ((c:Int)-48)=(C:Int):=by rw[IntKind.wrap_u8];omega
     have hc4:¬(C:Int)<(A:Int):=by omega
     have HD3:Hid (fY (aj t (k+3))=true):=by show _=_;rw[<-HCc.O];unfold fY;exact decide_eq_true hcd.1
     have HLE:Hid (aj t (k+1)<=aj t (k+3)):=by show _<=_;rw[<-HCc.O,<-HCa.O];exact hcd.2
     go_wp2_with fail
     generalize hw9:World.setCell _ _ _=w7
     have Hw7:Hid (RA w7 p r base t ⟨k+4,d,f,g,nm⟩ false hv n):=(Hw6.O.up2 w7 hw9 (by simp)).1
     have Fw7:=aa (Fw6.O.trans (Hw6.O.up2 w7 hw9 (by simp)).2)
     clear hw9
     clear c1 c2 f1 f2 hl
     have KN:=aa (dh Hw7.O.rk)
     dsimp only at KN
     rw[<-show x=aj t (k+4)from HCx.O]at KN
     refine KN.O.mono ?_
     rintro e w8 ⟨rfl,q9,hq9⟩
     have Hw8:Hid (RA w8 p r base t ⟨k+4,d,f,g,nm⟩ false hv n):=by rw[hq9];exact Hw7.O.drewN q9
     have Fw8:Hid (Fr w w8 r base):=Fw7.O.trans (by rw[hq9];exact Fr.drewN (r:=r) _ _ q9)
     clear hq9 KN
     have c1:w8.cell? ⟨p,1,none⟩=some (.int .i64 ((k:Int)+4)):=by have h9:=Hw8.O.facts.2.1;simpa using h9
     have c2:=Hw8.O.facts.2.2.1
     have f1:=Hw8.O.facts.2.2.2.1
     have f2:=Hw8.O.facts.2.2.2.2.1
     have hl:=Hw8.O.facts.2.2.2.2.2
     by_cases hx2:x=125
     ·have hx125:(((x:Nat):Int)==125)=true:=by rw[beq_iff_eq];omega
      clear c1 c2 f1 f2 hl
      go_wp2_with fail
      go_ret2
      have ho:=el.two (t:=t) (k:=k) HD.O (by rw[<-HCb.O];exact hb1) HD3.O HLE.O (by rw[<-HCx.O];exact hx2)
      rw[<-show a=aj t (k+1)from HCa.O,<-show c=aj t (k+3)from HCc.O]at ho
      exact⟨_,_,ho,Fw8.O,rfl,Hw8.O⟩
     ·have hx125:(((x:Nat):Int)==125)=false:=by rw[beq_eq_false_iff_ne];omega
      go_wp2_with fail
      generalize hw9:World.setCell _ _ _=wz
      have HZ:=aa (Hw8.O.bads wz hw9)
      clear hw9
      clear c1 c2 f1 f2 hl
      go_wp2_with fail
      go_ret2
      exact⟨none,_,.endBad HD.O (by rw[<-HCb.O];exact hb1) HD3.O HLE.O (by rw[<-HCx.O];exact hx2),Fw8.O.trans HZ.O.2,⟨_,_,rfl⟩,HZ.O.1⟩
    ·by_cases hq1:c<48
     ·have hc1:(c:Int)<48:=by omega
      go_wp2_with fail
      generalize hw9:World.setCell _ _ _=wz
      have HZ:=aa (Hw6.O.bads wz hw9)
      clear hw9
      clear c1 c2 f1 f2 hl
      go_wp2_with fail
      go_ret2
      exact⟨none,_,.twoBad HD.O (by rw[<-HCb.O];exact hb1) (by rw[<-HCc.O];exact hcq) (by rw[<-HCc.O,<-HCa.O];unfold fY;simp;omega),Fw6.O.trans HZ.O.2,⟨_,_,rfl⟩,HZ.O.1⟩
     ·by_cases hq2:57<c
      ·have hc1:¬(c:Int)<48:=by omega
       have hc2:(57:Int)<(c:Int):=by omega
       go_wp2_with fail
       generalize hw9:World.setCell _ _ _=wz
       have HZ:=aa (Hw6.O.bads wz hw9)
       clear hw9
       clear c1 c2 f1 f2 hl
       go_wp2_with fail
       go_ret2
       exact⟨none,_,.twoBad HD.O (by rw[<-HCb.O];exact hb1) (by rw[<-HCc.O];exact hcq) (by rw[<-HCc.O,<-HCa.O];unfold fY;simp;omega),Fw6.O.trans HZ.O.2,⟨_,_,rfl⟩,HZ.O.1⟩
      ·have hc1:¬(c:Int)<48:=by omega
       have hc2:¬(57:Int)<(c:Int):=by omega
       have hc3:IntKind.u8.wrap ((c:Int)-48)=((c-48:Nat):Int):=by rw[IntKind.wrap_u8];omega
       have hc4:((c-48:Nat):Int)<(A:Int):=by omega
       obtain⟨C,hC⟩:=exq (c-48)
       rw[<-hC]at hc3 hc4
       clear hC
       go_wp2_with fail
       generalize hw9:World.setCell _ _ _=wz
       have HZ:=aa (Hw6.O.bads wz hw9)
       clear hw9
       clear c1 c2 f1 f2 hl
       go_wp2_with fail
       go_ret2
       exact⟨none,_,.twoBad HD.O (by rw[<-HCb.O];exact hb1) (by rw[<-HCc.O];exact hcq) (by rw[<-HCc.O,<-HCa.O];unfold fY;simp;omega),Fw6.O.trans HZ.O.2,⟨_,_,rfl⟩,HZ.O.1⟩
  ·have hb44:(((b:Nat):Int)==44)=false:=by rw[beq_eq_false_iff_ne];omega
   go_wp2_with fail
   have KN:=aa (dh Hw4.O.rk)
   dsimp only at KN
   rw[<-show b=aj t (k+2)from HCb.O]at KN
   refine KN.O.mono ?_
   rintro e w5 ⟨rfl,q9,hq9⟩
   have Hw5:Hid (RA w5 p r base t ⟨k+2,d,f,g,nm⟩ false hv n):=by rw[hq9];exact Hw4.O.drewN q9
   have Fw5:Hid (Fr w w5 r base):=Fw4.O.trans (by rw[hq9];exact Fr.drewN (r:=r) _ _ q9)
   clear hq9 KN
   clear c1 c2 f1 f2 hl
   have c1:w5.cell? ⟨p,1,none⟩=some (.int .i64 ((k:Int)+2)):=by have h9:=Hw5.O.facts.2.1;simpa using h9
   have c2:=Hw5.O.facts.2.2.1
   have f1:=Hw5.O.facts.2.2.2.1
   have f2:=Hw5.O.facts.2.2.2.2.1
   have hl:=Hw5.O.facts.2.2.2.2.2
   by_cases hb2:b=125
   ·have hb125:(((b:Nat):Int)==125)=true:=by rw[beq_iff_eq];omega
    clear c1 c2 f1 f2 hl
    go_wp2_with fail
    go_ret2
    have ho:=el.one (t:=t) (k:=k) HD.O (by rw[<-HCb.O];exact hb2)
    rw[<-show a=aj t (k+1)from HCa.O]at ho
    exact⟨_,_,ho,Fw5.O,rfl,Hw5.O⟩
   ·have hb125:(((b:Nat):Int)==125)=false:=by rw[beq_eq_false_iff_ne];omega
    go_wp2_with fail
    generalize hw9:World.setCell _ _ _=wz
    have HZ:=aa (Hw5.O.bads wz hw9)
    clear hw9
    clear c1 c2 f1 f2 hl
    go_wp2_with fail
    go_ret2
    exact⟨none,_,.oneBad HD.O (by rw[<-HCb.O];exact hb1) (by rw[<-HCb.O];exact hb2),Fw5.O.trans HZ.O.2,⟨_,_,rfl⟩,HZ.O.1⟩
 ·have HD:Hid (fY (aj t (k+1))=false):=by show _=_;rw[<-HCa.O];unfold fY;exact decide_eq_false ha
  by_cases ha1:(a:Int)<48
  ·go_wp2_with fail
   generalize hw9:World.setCell _ _ _=wz
   have HZ:=aa (Hw2.O.bads wz hw9)
   clear hw9
   clear c1 c2 f1 f2 hl
   go_wp2_with fail
   go_ret2
   exact⟨none,_,.noDig HD.O,Fw2.O.trans HZ.O.2,⟨_,_,rfl⟩,HZ.O.1⟩
  ·have ha2:(57:Int)<(a:Int):=by omega
   go_wp2_with fail
   generalize hw9:World.setCell _ _ _=wz
   have HZ:=aa (Hw2.O.bads wz hw9)
   clear hw9
   clear c1 c2 f1 f2 hl
   go_wp2_with fail
   go_ret2
   exact⟨none,_,.noDig HD.O,Fw2.O.trans HZ.O.2,⟨_,_,rfl⟩,HZ.O.1⟩
inductive Xp where
 |emp
 |set (c:Cls)
 |cat (a b:Xp)
 |alt (a b:Xp)
 |star (a:Xp) (z:Bool)
 |may (a:Xp) (z:Bool)
 |grp (a:Xp) (n:Nat)
def Xp.sz:Xp ->Nat
 |.emp=>1
 |.set _=>1
 |.cat a b=>a.sz+b.sz+1
 |.alt a b=>a.sz+b.sz+1
 |.star a _=>a.sz+3
 |.may a _=>a.sz+1
 |.grp a _=>a.sz+3
inductive Tk where
 |ex (x:Xp)
 |gend (n:Nat)
 |rend (x:Xp) (z:Bool) (fresh:Bool)
def Tk.sz:Tk ->Nat
 |.ex x=>x.sz
 |.gend _=>1
 |.rend x _ true=>1
 |.rend x _ false=>x.sz+3
def ksz:List Tk ->Nat
 |[]=>0
 |t::k=>t.sz+ksz k
def Tk.old:Tk ->Tk
 |.rend x z _=> .rend x z false
 |t=>t
def dF (k:List Tk):List Tk:=k.map Tk.old
theorem yG (t:Tk):t.old.old=t.old:=by cases t<;>rfl
theorem mi (k:List Tk):dF (dF k)=dF k:=by simp[dF,List.map_map,Function.comp_def,yG]
abbrev Mk:=List (Nat×Nat)
def bV (z:Bool) (a b:Option Mk):Option Mk:=if z then b.or a else a.or b
def beg (n:Nat):Nat:=2*(n-1)
def ev (l:List (Nat×Nat)) (pl:Nat) (k:List Tk):Option Mk:=
 match k with
 |[]=>if l.isEmpty then some []else none
 |.gend n::k=>(ev l pl k).map ((beg n+1,pl):: ·)
 |.rend x z true::k=>none
 |.rend x z false::k=>bV z (ev l pl (.ex x:: .rend x z true::k)) (ev l pl k)
 |.ex .emp::k=>ev l pl k
 |.ex (.set c)::k=>match l with
  |[]=>none
  |(r,p)::l=>if hasC c r then ev l p (dF k)else none
 |.ex (.cat a b)::k=>ev l pl (.ex a:: .ex b::k)
 |.ex (.alt a b)::k=>(ev l pl (.ex a::k)).or (ev l pl (.ex b::k))
 |.ex (.star a z)::k=>bV z (ev l pl (.ex a:: .rend a z true::k)) (ev l pl k)
 |.ex (.may a z)::k=>bV z (ev l pl (.ex a::k)) (ev l pl k)
 |.ex (.grp a n)::k=>(ev l pl (.ex a:: .gend n::k)).map ((beg n,pl):: ·)
termination_by (l.length,ksz k)
decreasing_by
 all_goals simp_wf
 all_goals first
  |(apply Prod.Lex.left;simp;done)
  |(apply Prod.Lex.right;simp[ksz,Tk.sz,Xp.sz];try omega)
theorem em (l:List (Nat×Nat)) (pl:Nat):ev l pl []=if l.isEmpty then some []else none:=by rw[ev]
theorem eC (l:List (Nat×Nat)) (pl n:Nat) (k:List Tk):ev l pl (.gend n::k)=(ev l pl k).map ((beg n+1,pl):: ·):=by rw[ev]
theorem dJ (l:List (Nat×Nat)) (pl:Nat) (x:Xp) (z:Bool) (k:List Tk):ev l pl (.rend x z true::k)=none:=by rw[ev]
theorem eP (l:List (Nat×Nat)) (pl:Nat) (x:Xp) (z:Bool) (k:List Tk):ev l pl (.rend x z false::k)=bV z (ev l pl (.ex x:: .rend x z true::k)) (ev l pl k):=by rw[ev]
theorem gc (l:List (Nat×Nat)) (pl:Nat) (k:List Tk):ev l pl (.ex .emp::k)=ev l pl k:=by rw[ev]
theorem gj (pl:Nat) (c:Cls) (k:List Tk):ev [] pl (.ex (.set c)::k)=none:=by rw[ev]
theorem fB (r p:Nat) (l:List (Nat×Nat)) (pl:Nat) (c:Cls) (k:List Tk):ev ((r,p)::l) pl (.ex (.set c)::k)=if hasC c r then ev l p (dF k)else none:=by rw[ev]
theorem f0 (l:List (Nat×Nat)) (pl:Nat) (a b:Xp) (k:List Tk):ev l pl (.ex (.cat a b)::k)=ev l pl (.ex a:: .ex b::k):=by rw[ev]
theorem fA (l:List (Nat×Nat)) (pl:Nat) (a b:Xp) (k:List Tk):ev l pl (.ex (.alt a b)::k)=(ev l pl (.ex a::k)).or (ev l pl (.ex b::k)):=by rw[ev]
theorem ed (l:List (Nat×Nat)) (pl:Nat) (a:Xp) (z:Bool) (k:List Tk):ev l pl (.ex (.star a z)::k)=bV z (ev l pl (.ex a:: .rend a z true::k)) (ev l pl k):=by rw[ev]
theorem gh (l:List (Nat×Nat)) (pl:Nat) (a:Xp) (z:Bool) (k:List Tk):ev l pl (.ex (.may a z)::k)=bV z (ev l pl (.ex a::k)) (ev l pl k):=by rw[ev]
theorem gd (l:List (Nat×Nat)) (pl:Nat) (a:Xp) (n:Nat) (k:List Tk):ev l pl (.ex (.grp a n)::k)=(ev l pl (.ex a:: .gend n::k)).map ((beg n,pl):: ·):=by rw[ev]
inductive Eqv:List Tk ->List Tk ->Prop
 |refl (k):Eqv k k
 |fresh {x z k k'}:dF k=dF k' ->Eqv (.rend x z true::k) (.rend x z true::k')
 |ex {x k k'}:Eqv k k' ->Eqv (.ex x::k) (.ex x::k')
 |gend {n k k'}:Eqv k k' ->Eqv (.gend n::k) (.gend n::k')
theorem Eqv.old {k k':List Tk} (h:Eqv k k'):dF k=dF k':=by
 induction h with
 |refl k=>rfl
 |fresh h=>simp only[dF,List.map_cons]at h ⊢;rw[h]
 |ex _ ih=>simp only[dF,List.map_cons]at ih ⊢;rw[ih]
 |gend _ ih=>simp only[dF,List.map_cons]at ih ⊢;rw[ih]
theorem Eqv.ev:∀(n:Nat) {l:List (Nat×Nat)} {pl:Nat} {k k':List Tk},ksz k<=n ->Eqv k k' ->ev l pl k=ev l pl k':=by
 intro n
 induction n with
 |zero=>
  intro l pl k k' hn h
  cases h with
  |refl=>rfl
  |fresh h=>simp[ksz,Tk.sz]at hn
  |@ex x k k' h=>cases x<;>simp[ksz,Tk.sz,Xp.sz]at hn
  |gend h=>simp[ksz,Tk.sz]at hn
 |succ n ih=>
  intro l pl k k' hn h
  cases h with
  |refl=>rfl
  |fresh h=>rw[dJ,dJ]
  |gend h=>rw[eC,eC,ih (by simp[ksz,Tk.sz]at hn;omega) h]
  |@ex x k k' h=>
   cases x with
   |emp=>rw[gc,gc];exact ih (by simp[ksz,Tk.sz,Xp.sz]at hn;omega) h
   |set c=>
    cases l with
    |nil=>rw[gj,gj]
    |cons r l=>obtain⟨r,p⟩:=r;rw[fB,fB,h.old]
   |cat a b=>rw[f0,f0];exact ih (by simp[ksz,Tk.sz,Xp.sz]at hn ⊢;omega) (.ex (.ex h))
   |alt a b=>rw[fA,fA,ih (by simp[ksz,Tk.sz,Xp.sz]at hn ⊢;omega) (Eqv.ex (x:=a) h),ih (by simp[ksz,Tk.sz,Xp.sz]at hn ⊢;omega) (Eqv.ex (x:=b) h)]
   |star a z=>rw[ed,ed,ih (by simp[ksz,Tk.sz,Xp.sz]at hn ⊢;omega) (Eqv.ex (x:=a) (.fresh h.old)),ih (by simp[ksz,Tk.sz,Xp.sz]at hn ⊢;omega) h]
   |may a z=>rw[gh,gh,ih (by simp[ksz,Tk.sz,Xp.sz]at hn ⊢;omega) (Eqv.ex (x:=a) h),ih (by simp[ksz,Tk.sz,Xp.sz]at hn ⊢;omega) h]
   |grp a m=>rw[gd,gd,ih (by simp[ksz,Tk.sz,Xp.sz]at hn ⊢;omega) (Eqv.ex (x:=a) (.gend h))]
theorem Eqv.eq {l:List (Nat×Nat)} {pl:Nat} {k k':List Tk} (h:Eqv k k'):G.ev l pl k=G.ev l pl k':=Eqv.ev _ (Nat.le_refl _) h
def upX (x:Xp) (z:Bool):Nat ->Xp ->Xp
 |0,o=>o
 |n+1,o=>upX x z n (.may (.cat x o) z)
def lC (x:Xp):Nat ->Xp ->Xp
 |0,o=>o
 |n+1,o=>lC x n (.cat x o)
def eE (x:Xp) (le:Nat) (mo:Int) (z:Bool):Xp:=lC x le (if mo<0 then .star x z else upX x z (mo-le).toNat .emp)
mutual
def den:Pt ->Xp
 |.single c=> .set c
 |.seq l=>iw l .emp
 |.alt l=>iv l
 |.wrap p g=>if g=0 then den p else .grp (den p) g
 |.count p le mo z=>eE (den p) le mo z
def iw:List Pt ->Xp ->Xp
 |[],x=>x
 |p::l,x=>iw l (.cat x (den p))
def iv:List Pt ->Xp
 |[]=> .emp
 |p::l=>iK l (den p)
def iK:List Pt ->Xp ->Xp
 |[],x=>x
 |p::l,x=>iK l (.alt x (den p))
end
theorem eJ (x:Xp):∀(m:Nat) (o:Xp),lC x (m+1) o= .cat x (lC x m o)
 |0,o=>rfl
 |m+1,o=>by rw[lC,eJ x m];rfl
theorem gU (x:Xp) (z:Bool):∀(m:Nat) (o:Xp),upX x z (m+1) o= .may (.cat x (upX x z m o)) z
 |0,o=>rfl
 |m+1,o=>by rw[upX,gU x z m];rfl
def CN (c:Cls):Prop:=∃a b:Nat,a<18446744073709551616/\b<18446744073709551616/\c.lo=(a:Int)/\c.hi=(b:Int)
def hn (c:Cls) (r:Nat):Bool:=hasC c (r:Int)
theorem Ak:∀r:Fin 128,(bits BinOp.and IntKind.i32 ((r.val:Nat):Int) 63).toNat=r.val%64:=by decide+kernel
theorem dL (c:Cls) (r:Nat) (h:128<=r):hn c r=c.hg:=by unfold hn hasC;rw[if_pos (by omega)]
theorem zF (c:Cls) (r:Nat) (h:r<128):hn c r=iz (c.word r) (r%64):=by
 unfold hn hasC
 rw[if_neg (by omega),Int.toNat_natCast]
 unfold jn shv iz
 rw[Ak ⟨r,h⟩]
 have:min (r%64) 64=r%64:=by omega
 rw[this]
theorem dU {c:Cls} {a b:Nat} (ha:a<18446744073709551616) (hb:b<18446744073709551616) (e1:c.lo=(a:Int)) (e2:c.hi=(b:Int)) (r:Nat) (h:r<128):hn c r=if r/64=0 then a.testBit (r%64)else b.testBit (r%64):=by
 rw[zF c r h]
 unfold Cls.word
 split
 ·rw[e1,fF _ _ ha]
 ·rw[e2,fF _ _ hb]
theorem rs {a b:Nat} (ha:a<18446744073709551616) (hb:b<18446744073709551616):a|||b<18446744073709551616:=by
 have:a|||b<2^64:=Nat.or_lt_two_pow (by simpa using ha) (by simpa using hb)
 simpa using this
theorem CN.with {c:Cls} (hc:CN c) (hd:CN d):CN (bQ c d):=by
 obtain⟨a,b,ha,hb,e1,e2⟩:=hc
 obtain⟨a',b',ha',hb',e1',e2'⟩:=hd
 refine⟨a|||a',b|||b',rs ha ha',rs hb hb',?_,?_⟩
 ·show bits BinOp.or IntKind.u64 c.lo d.lo=_;rw[e1,e1',u64_or_nat _ _ ha ha']
 ·show bits BinOp.or IntKind.u64 c.hi d.hi=_;rw[e2,e2',u64_or_nat _ _ hb hb']
theorem pk {c:Cls} (hc:CN c) (hd:CN d) (r:Nat):hn (bQ c d) r=(hn c r||hn d r):=by
 obtain⟨a,b,ha,hb,e1,e2⟩:=hc
 obtain⟨a',b',ha',hb',e1',e2'⟩:=hd
 by_cases h:r<128
 ·rw[dU ha hb e1 e2 r h,dU ha' hb' e1' e2' r h,dU (a:=a|||a') (b:=b|||b') (rs ha ha') (rs hb hb') (by show bits BinOp.or IntKind.u64 c.lo d.lo=_;rw[e1,e1',u64_or_nat _ _ ha ha']) (by show bits BinOp.or IntKind.u64 c.hi d.hi=_;rw[e2,e2',u64_or_nat _ _ hb hb']) r h]
  split<;>rw[Nat.testBit_or]
 ·rw[dL _ _ (by omega),dL _ _ (by omega),dL _ _ (by omega)]
  rfl
theorem oH (k:Nat) (hk:k<64):(2:Nat)^k<18446744073709551616:=by
 have:(2:Nat)^k<2^64:=Nat.pow_lt_pow_right (by decide) hk
 simpa using this
theorem gS (b:Nat):fk b=((2^(b%64):Nat):Int):=by
 unfold fk
 have:((2:Int)^(b%64))=((2^(b%64):Nat):Int):=by push_cast;rfl
 rw[this]
 simp only[IntKind.wrap,IntKind.bits,IntKind.signed]
 have h3:((2^(b%64):Nat):Int)%18446744073709551616=((2^(b%64):Nat):Int):=Int.emod_eq_of_lt (Int.natCast_nonneg _) (Int.ofNat_lt.2 (oH _ (Nat.mod_lt _ (by decide))))
 simpa using h3
theorem CN.zero (z:Bool):CN ⟨0,0,z⟩:=⟨0,0,by decide,by decide,rfl,rfl⟩
theorem tQ (b:Nat):bits BinOp.or IntKind.u64 0 (fk b)=((2^(b%64):Nat):Int):=by
 rw[gS,show (0:Int)=((0:Nat):Int)from rfl,u64_or_nat _ _ (by decide) (oH _ (Nat.mod_lt _ (by decide))),Nat.zero_or]
theorem CN.one (b:Nat):CN (cv b):=by
 unfold cv
 split
 ·exact⟨2^(b%64),0,oH _ (Nat.mod_lt _ (by decide)),by decide,tQ b,rfl⟩
 ·exact⟨0,2^(b%64),by decide,oH _ (Nat.mod_lt _ (by decide)),rfl,tQ b⟩
theorem CN.addB {c:Cls} (hc:CN c) (b:Nat):CN (addB c b):=by
 obtain⟨x,y,hx,hy,e1,e2⟩:=hc
 have hp:=oH (b%64) (Nat.mod_lt _ (by decide))
 unfold G.addB
 split
 ·exact⟨x|||2^(b%64),y,rs hx hp,hy,by show bits BinOp.or IntKind.u64 c.lo (fk b)=_;rw[e1,gS,u64_or_nat _ _ hx hp],e2⟩
 ·exact⟨x,y|||2^(b%64),hx,rs hy hp,e1,by show bits BinOp.or IntKind.u64 c.hi (fk b)=_;rw[e2,gS,u64_or_nat _ _ hy hp]⟩
theorem tJ {c:Cls} (hc:CN c) (b:Nat) (hb:b<128) (r:Nat):hn (addB c b) r=(hn c r||decide (r=b)):=by
 obtain⟨x,y,hx,hy,e1,e2⟩:=hc
 have hp:=oH (b%64) (Nat.mod_lt _ (by decide))
 by_cases h:r<128
 ·rw[dU hx hy e1 e2 r h]
  unfold G.addB
  by_cases hd:b/64=0
  ·rw[if_pos hd,dU (c:=⟨bits BinOp.or IntKind.u64 c.lo (fk b),c.hi,c.hg⟩) (a:=x|||2^(b%64)) (b:=y) (rs hx hp) hy (by show bits BinOp.or IntKind.u64 c.lo (fk b)=_;rw[e1,gS,u64_or_nat _ _ hx hp]) e2 r h]
   by_cases hr:r/64=0
   ·rw[if_pos hr,if_pos hr,Nat.testBit_or,Nat.testBit_two_pow]
    congr 1
    rw[decide_eq_decide]
    omega
   ·rw[if_neg hr,if_neg hr,decide_eq_false (by omega),Bool.or_false]
  ·rw[if_neg hd,dU (c:=⟨c.lo,bits BinOp.or IntKind.u64 c.hi (fk b),c.hg⟩) (a:=x) (b:=y|||2^(b%64)) hx (rs hy hp) e1 (by show bits BinOp.or IntKind.u64 c.hi (fk b)=_;rw[e2,gS,u64_or_nat _ _ hy hp]) r h]
   by_cases hr:r/64=0
   ·rw[if_pos hr,if_pos hr,decide_eq_false (by omega),Bool.or_false]
   ·rw[if_neg hr,if_neg hr,Nat.testBit_or,Nat.testBit_two_pow]
    congr 1
    rw[decide_eq_decide]
    omega
 ·rw[dL _ _ (by omega),dL _ _ (by omega),decide_eq_false (by omega),Bool.or_false]
  unfold G.addB
  split<;>rfl
theorem xh (b:Nat):cv b=addB ⟨0,0,false⟩ b:=by
 unfold cv addB
 rfl
theorem pm (z:Bool) (r:Nat):hn ⟨0,0,z⟩ r=(decide (128<=r)&&z):=by
 by_cases h:r<128
 ·rw[dU (a:=0) (b:=0) (by decide) (by decide) rfl rfl r h,decide_eq_false (by omega)]
  simp
 ·rw[dL _ _ (by omega),decide_eq_true (by omega)]
  rfl
theorem sC (b:Nat) (hb:b<128) (r:Nat):hn (cv b) r=decide (r=b):=by
 rw[xh,tJ (CN.zero _) b hb,pm]
 simp
theorem lk:∀(n b:Nat) (c:Cls),CN c ->b+n<=128 ->CN (jd n b c)/\∀r,hn (jd n b c) r=(hn c r||decide (b<=r/\r<b+n))
 |0,b,c,hc,hb=>⟨hc,fun r=>by rw[jd,decide_eq_false (by omega),Bool.or_false]⟩
 |n+1,b,c,hc,hb=>by
  obtain⟨h1,h2⟩:=lk n (b+1) (addB c b) (hc.addB b) (by omega)
  refine⟨h1,fun r=> ?_⟩
  rw[jd,h2,tJ hc b (by omega),Bool.or_assoc]
  congr 1
  by_cases h:r=b
  ·rw[decide_eq_true h,decide_eq_true (show b<=r/\r<b+(n+1) by omega)];rfl
  ·rw[decide_eq_false h,Bool.false_or,decide_eq_decide]
   omega
theorem CN.range (a b:Nat) (hb:b<128) (hab:a<=b):CN (ce a b):=(lk (b+1-a) a _ (CN.zero _) (by omega)).1
theorem wL (a b:Nat) (hb:b<128) (hab:a<=b) (r:Nat):hn (ce a b) r=decide (a<=r/\r<=b):=by
 unfold ce
 rw[(lk (b+1-a) a _ (CN.zero _) (by omega)).2,pm]
 simp only[Bool.and_false,Bool.false_or,decide_eq_decide]
 omega
theorem pL:IntKind.u64.max=((18446744073709551615:Nat):Int):=rfl
theorem ut {a:Nat} (ha:a<18446744073709551616):18446744073709551615^^^a<18446744073709551616:=by
 have:18446744073709551615^^^a<2^64:=Nat.xor_lt_two_pow (by decide) (by simpa using ha)
 simpa using this
theorem z6 (a k:Nat) (hk:k<64):(18446744073709551615^^^a).testBit k= !a.testBit k:=by
 rw[Nat.testBit_xor,show (18446744073709551615:Nat)=2^64-1 by decide,Nat.testBit_two_pow_sub_one,decide_eq_true hk,Bool.true_xor]
theorem CN.others {c:Cls} (hc:CN c):CN (bI c):=by
 obtain⟨x,y,hx,hy,e1,e2⟩:=hc
 exact⟨_,_,ut hx,ut hy,by show bits BinOp.xor IntKind.u64 IntKind.u64.max c.lo=_;rw[e1,pL,u64_xor_nat _ _ (by decide) hx],by show bits BinOp.xor IntKind.u64 IntKind.u64.max c.hi=_;rw[e2,pL,u64_xor_nat _ _ (by decide) hy]⟩
theorem od {c:Cls} (hc:CN c) (r:Nat):hn (bI c) r= !hn c r:=by
 obtain⟨x,y,hx,hy,e1,e2⟩:=hc
 by_cases h:r<128
 ·rw[dU hx hy e1 e2 r h,dU (a:=18446744073709551615^^^x) (b:=18446744073709551615^^^y) (ut hx) (ut hy) (by show bits BinOp.xor IntKind.u64 IntKind.u64.max c.lo=_;rw[e1,pL,u64_xor_nat _ _ (by decide) hx]) (by show bits BinOp.xor IntKind.u64 IntKind.u64.max c.hi=_;rw[e2,pL,u64_xor_nat _ _ (by decide) hy]) r h]
  split<;>rw[z6 _ _ (Nat.mod_lt _ (by decide))]
 ·rw[dL _ _ (by omega),dL _ _ (by omega)]
  rfl
def dR (h:Nat ->Bool) (j:Nat):Bool:=if 97<=j/\j<=122 then h j||h (j-32)else if 65<=j/\j<=90 then h j||h (j+32)else h j
theorem CN.stepB {c:Cls} (hc:CN c) (l:Nat):CN (stepB c l):=by
 unfold G.stepB
 split
 ·exact (hc.with (CN.one _)).with (CN.one _)
 ·exact hc
theorem gM {c:Cls} (hc:CN c) (l:Nat) (h1:97<=l) (h2:l<=122) (r:Nat):hn (stepB c l) r=if r=l then hn c r||hn c (r-32)else if r+32=l then hn c r||hn c (r+32)else hn c r:=by
 have e1:jn c l=hn c l:=by unfold hn hasC;rw[if_neg (by omega),Int.toNat_natCast]
 have e2:jn c (l-32)=hn c (l-32):=by unfold hn hasC;rw[if_neg (by omega),Int.toNat_natCast]
 unfold G.stepB
 rw[e1,e2]
 by_cases hh:(hn c l||hn c (l-32))=true
 ·rw[if_pos hh,pk (hc.with (CN.one _)) (CN.one _),pk hc (CN.one _),sC _ (by omega),sC _ (by omega)]
  by_cases ha:r=l
  ·subst ha
   rw[if_pos rfl,hh]
   simp
  ·rw[if_neg ha]
   by_cases hb:r+32=l
   ·rw[if_pos hb,hb]
    have:r=l-32:=by omega
    rw[this,decide_eq_true rfl,Bool.or_true,Bool.or_comm,hh]
   ·rw[if_neg hb,decide_eq_false ha,decide_eq_false (by omega)]
    simp
 ·rw[if_neg hh]
  simp only[Bool.not_eq_true,Bool.or_eq_false_iff]at hh
  by_cases ha:r=l
  ·subst ha
   rw[if_pos rfl,hh.1,hh.2];rfl
  ·rw[if_neg ha]
   by_cases hb:r+32=l
   ·rw[if_pos hb,hb,hh.1,Bool.or_false]
   ·rw[if_neg hb]
theorem rZ:∀(n l:Nat) (c:Cls),CN c ->97<=l ->l+n<=123 ->CN (bcf n l c)/\∀r,hn (bcf n l c) r=if l<=r/\r<l+n then hn c r||hn c (r-32)else if l<=r+32/\r+32<l+n then hn c r||hn c (r+32)else hn c r
 |0,l,c,hc,h1,h2=>⟨hc,fun r=>by rw[bcf,if_neg (by omega),if_neg (by omega)]⟩
 |n+1,l,c,hc,h1,h2=>by
  obtain⟨g1,g2⟩:=rZ n (l+1) (stepB c l) (hc.stepB l) (by omega) (by omega)
  refine⟨g1,fun r=> ?_⟩
  rw[bcf,g2]
  by_cases ha:l+1<=r/\r<l+1+n
  ·rw[if_pos ha,if_pos (by omega),gM hc l h1 (by omega),gM hc l h1 (by omega),if_neg (by omega),if_neg (by omega),if_neg (by omega),if_neg (by omega)]
  ·rw[if_neg ha]
   by_cases hb:l+1<=r+32/\r+32<l+1+n
   ·rw[if_pos hb,gM hc l h1 (by omega),gM hc l h1 (by omega),if_neg (by omega),if_neg (by omega),if_neg (by omega),if_neg (by omega),if_neg (by omega),if_pos (by omega)]
   ·rw[if_neg hb,gM hc l h1 (by omega)]
    by_cases hd:r=l
    ·rw[if_pos hd,if_pos (by omega)]
    ·rw[if_neg hd,if_neg (show ¬(l<=r/\r<l+(n+1)) by omega)]
     by_cases he:r+32=l
     ·rw[if_pos he,if_pos (by omega)]
     ·rw[if_neg he,if_neg (by omega)]
theorem CN.both {c:Cls} (hc:CN c):CN (lz c):=(rZ 26 97 c hc (by omega) (by omega)).1
theorem yw {c:Cls} (hc:CN c) (r:Nat):hn (lz c) r=dR (hn c) r:=by
 unfold lz dR
 rw[(rZ 26 97 c hc (by omega) (by omega)).2]
 by_cases ha:97<=r/\r<=122
 ·rw[if_pos ha,if_pos (by omega)]
 ·rw[if_neg ha,if_neg (by omega)]
  by_cases hb:65<=r/\r<=90
  ·rw[if_pos hb,if_pos (by omega)]
  ·rw[if_neg hb,if_neg (by omega)]
theorem CN.sing {c:Cls} (hc:CN c) (f:Bool):CN (sing f c):=by
 cases f
 ·exact hc
 ·exact hc.both
def ey (f:Bool) (h:Nat ->Bool):Nat ->Bool:=if f then dR h else h
theorem tK {c:Cls} (hc:CN c) (f:Bool) (r:Nat):hn (sing f c) r=ey f (hn c) r:=by
 cases f
 ·exact rfl
 ·exact yw hc r
theorem qH (h:Nat ->Bool) (r:Nat):dR (dR h) r=dR h r:=by
 unfold dR
 by_cases ha:97<=r/\r<=122
 ·simp only[if_pos ha]
  rw[if_neg (show ¬(97<=r-32/\r-32<=122) by omega),if_pos (show 65<=r-32/\r-32<=90 by omega),show r-32+32=r by omega]
  cases h r<;>cases h (r-32)<;>rfl
 ·simp only[if_neg ha]
  by_cases hb:65<=r/\r<=90
  ·simp only[if_pos hb]
   rw[if_pos (show 97<=r+32/\r+32<=122 by omega),show r+32-32=r by omega]
   cases h r<;>cases h (r+32)<;>rfl
  ·simp only[if_neg hb]
theorem qG (f:Bool) (h:Nat ->Bool) (r:Nat):ey f (ey f h) r=ey f h r:=by
 cases f
 ·exact rfl
 ·exact qH h r
theorem qF (f:Bool) (h k:Nat ->Bool) (r:Nat):ey f (fun j=>h j||k j) r=(ey f h r||ey f k r):=by
 cases f
 ·rfl
 ·show dR (fun j=>h j||k j) r=(dR h r||dR k r)
  unfold dR
  dsimp only
  split
  ·cases h r<;>cases k r<;>cases h (r-32)<;>cases k (r-32)<;>rfl
  ·split
   ·cases h r<;>cases k r<;>cases h (r+32)<;>cases k (r+32)<;>rfl
   ·rfl
theorem kB {h k:Nat ->Bool} (e:∀r,h r=k r) (r:Nat):ey f h r=ey f k r:=by rw[show h=k from funext e]
def hB (bs:List Bool) (r:Nat):Bool:=bs.getD r false
def AgC (bs:List Bool) (c:Cls):Prop:=CN c/\∀r,r<=128 ->hB bs r=hn c r
def AgF (f:Bool) (bs:List Bool) (c:Cls):Prop:=CN c/\∀r,r<=128 ->ey f (hB bs) r=ey f (hn c) r
theorem jl {h k:Nat ->Bool} (e:∀r,r<=128 ->h r=k r):∀r,r<=128 ->ey f h r=ey f k r:=fun r hr=>by
 cases f
 ·exact e r hr
 ·show dR h r=dR k r
  unfold dR
  rw[e r hr]
  split
  ·rw[e (r-32) (by omega)]
  ·split
   ·rw[e (r+32) (by omega)]
   ·rfl
theorem AgC.toF {c:Cls} (h:AgC bs c) (f:Bool):AgF f bs c:=⟨h.1,jl h.2⟩
theorem AgF.toC {bs':List Bool} {c:Cls} (h:AgF f bs c) (e:∀r,r<=128 ->hB bs' r=ey f (hB bs) r):AgC bs' (sing f c):=⟨h.1.sing f,fun r hr=>by rw[e r hr,h.2 r hr,tK h.1]⟩
theorem AgF.union {xs cs:List Bool} {c:Cls} (h:AgF f xs c) (k:AgF f bs d) (e:∀r,r<=128 ->hB cs r=(hB xs r||hB bs r)):AgF f cs (bQ c d):=⟨h.1.with k.1,fun r hr=>by
 rw[jl e r hr,qF,h.2 r hr,k.2 r hr,<-qF]
 exact (kB (pk h.1 k.1) r).symm⟩
theorem AgC.inv {cs:List Bool} {c:Cls} (h:AgC bs c) (e:∀r,r<=128 ->hB cs r= !hB bs r):AgC cs (bI c):=⟨h.1.others,fun r hr=>by rw[e r hr,h.2 r hr,od h.1]⟩
end Go.Proofs.YtfnanjbleifjkaaGreatDoor.G
