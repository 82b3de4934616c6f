import Derived.Test.YtfnanjbleifjkaaGreatDoorM01
import Derived.Carry
import Derived.Handy
import Derived.Deep.RegionHeld3
set_option linter.unusedVariables false
set_option linter.unusedSimpArgs false
set_option maxHeartbeats 2000000
set_option maxRecDepth 100000
namespace Go.Proofs.YtfnanjbleifjkaaGreatDoor.G
variable {w w':World} {k mb r:Nat} {t:ByteArray} {b:UInt8}
open Go.RowKit
structure dv where
 d:Nat
 f:Bool
 g:Nat
 m:Value
def RD (w:World) (r:Nat) (t:ByteArray) (k:Nat) (mv:dv):Prop:=
 w.heap[r]? =some (.cells #[.string t,.int .i64 k,.int .i64 mv.d,.bool mv.f,.int .i64 mv.g,mv.m] 105 (0,0))
theorem RD.c0 {mv:dv} (h:RD w r t k mv):w.cell? ⟨r,0,none⟩=some (.string t):=by
 rw[cell_of_row w r 0 _ 105 (0,0) h];rfl
theorem RD.c1 {mv:dv} (h:RD w r t k mv):w.cell? ⟨r,1,none⟩=some (.int .i64 k):=by
 rw[cell_of_row w r 1 _ 105 (0,0) h];rfl
theorem RD.c3 {mv:dv} (h:RD w r t k mv):w.cell? ⟨r,3,none⟩=some (.bool mv.f):=by
 rw[cell_of_row w r 3 _ 105 (0,0) h];rfl
theorem RD.drew {mv:dv} (h:RD w r t k mv) (n:Nat):RD (w.drewN n) r t k mv:=h
theorem RD.lt {mv:dv} (h:RD w r t k mv):r<w.heap.size:=(Array.getElem?_eq_some_iff.1 h).1
theorem jj (r:Nat) (t:ByteArray) (k:Nat) (mv:dv) (w:World) (hr:RD w r t k mv) (hk:k<t.size):
  Calls Tryz.prog 86 #[.pointer (some ⟨r,0,none⟩)] w fun e w'=>e= .returned (.bool false)/\∃n,w'=w.drewN n:=by
 have h0:=hr.c0;have h1:=hr.c1;clear hr
 have he:((k:Int)==(t.size:Int))=false:=by rw[beq_eq_false_iff_ne];omega
 go_enter Tryz.func86,Tryz.ntmps86
 go_wp2
 go_quiet (fail)
 go_wp2
 go_ret
 exact⟨by simp,_,rfl⟩
theorem nS (r:Nat) (t:ByteArray) (k:Nat) (mv:dv) (w:World) (hr:RD w r t k mv) (hk:k=t.size):
  Calls Tryz.prog 86 #[.pointer (some ⟨r,0,none⟩)] w fun e w'=>e= .returned (.bool true)/\∃n,w'=w.drewN n:=by
 have h0:=hr.c0;have h1:=hr.c1;clear hr
 subst hk
 go_enter Tryz.func86,Tryz.ntmps86
 go_wp2
 go_quiet (fail)
 go_wp2
 go_ret
 exact⟨by simp,_,rfl⟩
theorem rI (r:Nat) (t:ByteArray) (k:Nat) (mv:dv) (w:World) (b:Int) (hr:RD w r t k mv) (hk:k=t.size):
  Calls Tryz.prog 177 #[.pointer (some ⟨r,0,none⟩),.int .u8 b] w fun e w'=>e= .returned (.bool false)/\∃n,w'=w.drewN n:=by
 go_enter Tryz.func177,Tryz.ntmps177
 go_wp2
 go_quiet ((go_at_call 86;exact Calls.quiet_of (nS r t k mv _ (hr.drew _) hk)))
 go_wp2
 go_ret
 exact⟨by simp,_,rfl⟩
theorem t7 (r:Nat) (t:ByteArray) (k:Nat) (mv:dv) (w:World) (b:Int) (hr:RD w r t k mv) (hk:k<t.size) (ht:t.size<=60) (hb:(((t[k]'hk).toNat:Int)==b)=false):
  Calls Tryz.prog 177 #[.pointer (some ⟨r,0,none⟩),.int .u8 b] w fun e w'=>e= .returned (.bool false)/\∃n,w'=w.drewN n:=by
 have h0:=hr.c0;have h1:=hr.c1
 have HR:Hid (RD w r t k mv):=hr
 clear hr
 go_enter Tryz.func177,Tryz.ntmps177
 go_wp2
 go_quiet ((go_at_call 86;exact Calls.quiet_of (jj r t k mv _ (HR.O.drew _) hk)))
 go_wp2
 go_ret
 exact⟨by simp,_,rfl⟩
theorem wT (r:Nat) (t:ByteArray) (k:Nat) (mv:dv) (w:World) (hr:RD w r t k mv) (hk:k<t.size) (ht:t.size<=60):
  Calls Tryz.prog 236 #[.pointer (some ⟨r,0,none⟩)] w fun e w'=>e= .returned (.int .u8 ((t[k]'hk).toNat:Int))/\∃n,w'=w.drewN n:=by
 have h0:=hr.c0;have h1:=hr.c1
 have HR:Hid (RD w r t k mv):=hr
 clear hr
 go_enter Tryz.func236,Tryz.ntmps236
 go_wp2_with (go_at_call 86;refine (jj r t k mv _ HR.O hk).mono ?_;rintro e w' ⟨rfl,n,rfl⟩)
 go_quiet (fail)
 go_wp2
 go_ret
 exact⟨rfl,_,by rw[World.drewN_drewN]⟩
theorem vq (r:Nat) (t:ByteArray) (k:Nat) (mv:dv) (w:World) (b:Int) (hr:RD w r t k mv) (hk:k=t.size):
  Calls Tryz.prog 137 #[.pointer (some ⟨r,0,none⟩),.int .u8 b] w fun e w'=>e= .returned (.bool false)/\∃n,w'=w.drewN n:=by
 go_enter Tryz.func137,Tryz.ntmps137
 go_wp2_with (go_at_call 177;refine (rI r t k mv _ _ hr hk).mono ?_;rintro e w' ⟨rfl,n,rfl⟩)
 go_ret
 exact⟨rfl,_,rfl⟩
theorem xK (r:Nat) (t:ByteArray) (k:Nat) (mv:dv) (w:World) (b:Int) (hr:RD w r t k mv) (hk:k<t.size) (ht:t.size<=60) (hb:(((t[k]'hk).toNat:Int)==b)=false):
  Calls Tryz.prog 137 #[.pointer (some ⟨r,0,none⟩),.int .u8 b] w fun e w'=>e= .returned (.bool false)/\∃n,w'=w.drewN n:=by
 go_enter Tryz.func137,Tryz.ntmps137
 go_wp2_with (go_at_call 177;refine (t7 r t k mv _ _ hr hk ht hb).mono ?_;rintro e w' ⟨rfl,n,rfl⟩)
 go_ret
 exact⟨rfl,_,rfl⟩
theorem RD.ex {l:List Nat} {mv:dv} (h:RD w r t k mv) (hx:Ex l w w') (hn:r∉l):RD w' r t k mv:=by
 unfold RD;rw[hx.block r h.lt hn];exact h
theorem RD.step {mv:dv} (h:RD w r t k mv):RD (w.setCell ⟨r,1,none⟩ (.int .i64 ((k+1:Nat):Int))) r t (k+1) mv:=by
 unfold RD at h ⊢
 simp[World.setCell,Array.getElem?_modify,h]
theorem RD.f1 {mv:dv} (h:RD w r t k mv):w.frozen? ⟨r,1,none⟩=false:=by
 unfold RD at h;simp[World.frozen?,h]
theorem RD.bk {mv:dv} (h:RD w r t k mv):BK w r (.cells #[.string t,.int .i64 k,.int .i64 mv.d,.bool mv.f,.int .i64 mv.g,mv.m] 105 (0,0)):=h
theorem rJ (r:Nat) (t:ByteArray) (k:Nat) (mv:dv) (w:World) (b:Int) (hr:RD w r t k mv) (hk:k<t.size) (ht:t.size<=60) (hb:(((t[k]'hk).toNat:Int)==b)=true):
  Calls Tryz.prog 177 #[.pointer (some ⟨r,0,none⟩),.int .u8 b] w fun e w'=>e= .returned (.bool true)/\∃n,w'=w.drewN n:=by
 have h0:=hr.c0;have h1:=hr.c1
 have HR:Hid (RD w r t k mv):=hr
 clear hr
 go_enter Tryz.func177,Tryz.ntmps177
 go_wp2
 go_quiet ((go_at_call 86;exact Calls.quiet_of (jj r t k mv _ (HR.O.drew _) hk)))
 go_wp2
 go_ret
 exact⟨by simp,_,rfl⟩
theorem vr (r:Nat) (t:ByteArray) (k:Nat) (mv:dv) (w:World) (b:Int) (hr:RD w r t k mv) (hk:k<t.size) (ht:t.size<=60) (hb:(((t[k]'hk).toNat:Int)==b)=true):
  Calls Tryz.prog 137 #[.pointer (some ⟨r,0,none⟩),.int .u8 b] w fun e w'=>e= .returned (.bool true)/\RD w' r t (k+1) mv/\Ex [r] w w':=by
 have HR:Hid (RD w r t k mv):=hr
 have h1:=hr.c1
 have hf1:=hr.f1
 have hlt:=hr.lt
 clear hr
 go_enter Tryz.func137,Tryz.ntmps137
 go_wp2_with (go_at_call 177;refine (rJ r t k mv _ _ HR.O hk ht hb).mono ?_;rintro e w' ⟨rfl,n,rfl⟩)
 go_ret
 refine⟨rfl,?_,?_⟩
 ·have:=(HR.O.drew n).step
  simpa using this
 ·exact ((Ex.refl _ _).drewN _).setCell (Or.inl (by simp)) _
structure Cls where
 lo:Int
 hi:Int
 hg:Bool
def ar (c:Cls):Value:= .agg #[.int .u64 c.lo,.int .u64 c.hi,.bool c.hg]
def Cls.word (c:Cls) (r:Nat):Int:=if r/64=0 then c.lo else c.hi
def shv (x:Int) (r:Int):Int:=x/2^min (bits BinOp.and IntKind.i32 r 63).toNat 64
def jn (c:Cls) (r:Nat):Bool:=bits BinOp.and IntKind.u64 (shv (c.word r) r) 1==1
def hasC (c:Cls) (r:Int):Bool:=if 128<=r then c.hg else jn c r.toNat
theorem lT (c:Cls) (r:Nat) (hr:r<128):[Value.int IntKind.u64 c.lo,Value.int IntKind.u64 c.hi,Value.bool c.hg][r/64]? =some (.int .u64 (c.word r)):=by
 have:r/64=0\/r/64=1:=by omega
 unfold Cls.word
 rcases this with h|h<;>rw[h]<;>rfl
theorem iV:∀r:Fin 128,0<=bits BinOp.and IntKind.i32 ((r.val:Nat):Int) 63:=by decide+kernel
theorem iY (x:Int) (r:Nat) (hr:r<128) (W:World):(Op.shift BinOp.shr IntKind.u64 x IntKind.i32 (bits BinOp.and IntKind.i32 (r:Int) 63)).run Tryz.prog W= .ok (.int .u64 (shv x r)) W:=by
 rw[shift_shr_any _ _ _ _ (iV ⟨r,hr⟩)]
 rfl
theorem pj (c:Cls) (r:Nat) (w:World) (hr:r<128):Calls Tryz.prog 93 #[ar c,.int .i32 r] w fun e w'=>e= .returned (.bool (jn c r))/\Ex [] w w':=by
 have hidx:=lT c r hr
 have hsh:=iY (c.word r) r hr
 unfold ar jn
 go_enter Tryz.func93,Tryz.ntmps93
 go_wp2_with fail
 go_ret
 exact⟨rfl,(Ex.refl _ _).alloc _⟩
theorem has_any (c:Cls) (r:Int) (w:World) (hr:0<=r):Calls Tryz.prog 93 #[ar c,.int .i32 r] w fun e w'=>e= .returned (.bool (hasC c r))/\Ex [] w w':=by
 unfold hasC
 by_cases h:128<=r
 ·rw[if_pos h]
  unfold ar
  go_enter Tryz.func93,Tryz.ntmps93
  go_wp2_with fail
  go_ret
  exact⟨rfl,(Ex.refl _ _).alloc _⟩
 ·rw[if_neg h]
  obtain⟨n,rfl⟩:=Int.eq_ofNat_of_zero_le hr
  exact pj c n w (by omega)
def bQ (c d:Cls):Cls:=⟨bits BinOp.or IntKind.u64 c.lo d.lo,bits BinOp.or IntKind.u64 c.hi d.hi,c.hg||d.hg⟩
theorem fe (c d:Cls) (w:World):Calls Tryz.prog 264 #[ar c,ar d] w fun e w'=>e= .returned (ar (bQ c d))/\Ex [] w w':=by
 obtain⟨c1,c2,c3⟩:=c
 obtain⟨d1,d2,d3⟩:=d
 unfold ar bQ
 cases c3
 all_goals
  go_enter Tryz.func264,Tryz.ntmps264
  go_wp2_with fail
  refine bodyPost_ret (v:=_) (by simp[results,Tryz.results264,go_sem];rfl) rfl ⟨by simp,?_⟩
  repeat (first|exact Ex.refl _ _|refine Ex.setCell ?_ (Or.inr (by simp)) _|refine Ex.alloc ?_ _)
def fk (b:Nat):Int:=IntKind.u64.wrap (2^(b%64))
def cv (b:Nat):Cls:=if b/64=0 then ⟨bits BinOp.or IntKind.u64 0 (fk b),0,false⟩else ⟨0,bits BinOp.or IntKind.u64 0 (fk b),false⟩
theorem dc (b:Nat) (w:World) (hb:b<128):Calls Tryz.prog 243 #[.int .u8 b,.int .u8 b] w fun e w'=>e= .returned (ar (cv b))/\Ex [] w w':=by
 have hd:b/64=0\/b/64=1:=by omega
 unfold ar cv fk
 rcases hd with hd|hd
 all_goals
  go_enter Tryz.func243,Tryz.ntmps243
  go_wp2_with fail
  refine wp_loop_rounds 2 ?_
  rw[rounds_succ]
  go_wp2_with fail
  rw[rounds_succ]
  go_wp2_with fail
  refine bodyPost_ret (v:=_) (by simp[results,Tryz.results243,go_sem];rfl) rfl ⟨by simp[hd],?_⟩
  repeat (first|exact Ex.refl _ _|refine Ex.setCell ?_ (Or.inr (by simp)) _|refine Ex.alloc ?_ _)
def stepB (c:Cls) (l:Nat):Cls:=if jn c l||jn c (l-32)then bQ (bQ c (cv l)) (cv (l-32))else c
def bcf:Nat ->Nat ->Cls ->Cls
 |0,_,c=>c
 |n+1,l,c=>bcf n (l+1) (stepB c l)
def lz (c:Cls):Cls:=bcf 26 97 c
theorem mV (c:Cls) (w:World):Calls Tryz.prog 267 #[ar c] w fun e w'=>e= .returned (ar (lz c))/\Ex [] w w':=by
 unfold ar lz
 go_enter Tryz.func267,Tryz.ntmps267
 go_wp2_with fail
 go_loopg [3] 26 (fun gk l3 wr=>∃(l:Nat) (c':Cls),l+gk=123/\97<=l/\l3= .int .u8 l/\bcf gk l c'=bcf 26 97 c/\BK wr w.heap.size (.cells #[.int .u64 c'.lo,.int .u64 c'.hi,.bool c'.hg] 99 (0,0))/\BK wr (w.heap.size+1) (.cells #[.int .u64 0,.int .u64 0,.bool false] 99 (0,0))/\Ex [] w wr)
 case atStart=>
  refine⟨97,c,by omega,by omega,rfl,rfl,(BK.new _ _).alloc _,?_,((Ex.refl _ _).alloc _).alloc _⟩
  have:=BK.new (w.alloc (Obj.cells #[.int .u64 c.lo,.int .u64 c.hi,.bool c.hg] 99)) (Obj.cells #[.int .u64 0,.int .u64 0,.bool false] 99)
  simpa using this
 case round=>
  obtain⟨l,c',hl,hl97,rfl,hbc,hb0,hb1,hx⟩:=hrel
  have HX:=aa hx
  have HB0:=aa hb0
  have HB1:=aa hb1
  have HBC:=aa hbc
  have hl0:=hb0.lt
  have hl1:=hb1.lt
  obtain⟨hc0,hf0⟩:=hb0.all
  obtain⟨hc1,hf1⟩:=hb1.all
  clear hx hb0 hb1 hbc
  cases gk with
  |zero=>
   have e1:¬(l:Int)<=122:=by omega
   go_wp2_with fail
   refine bodyPost_ret (v:=ar c') (by simp[results,Tryz.results267,go_sem,ar,hc1]) rfl ⟨?_,?_⟩
   ·have h1:=HBC.O
    rw[<-h1];rfl
   ·repeat (refine Ex.setCell ?_ (Or.inr (by simp)) _)
    exact HX.O
  |succ g=>
   have e1:(l:Int)<=122:=by omega
   go_wp2_with fail
   refine (has_any c' l _ (by omega)).mono ?_
   rintro e w1 ⟨rfl,hx1⟩
   have hst:stepB c' l=if hasC c' (l:Int)||hasC c' ((l-32:Nat):Int)then bQ (bQ c' (cv l)) (cv (l-32))else c':=by
    have h1:hasC c' (l:Int)=jn c' l:=by unfold hasC;rw[if_neg (by omega)];rfl
    have h2:hasC c' ((l-32:Nat):Int)=jn c' (l-32):=by unfold hasC;rw[if_neg (by omega)];rfl
    rw[h1,h2];rfl
   have HST:=aa hst
   have hbn:bcf g (l+1) (stepB c' l)=bcf 26 97 c:=HBC.O
   have HBN:=aa hbn
   clear hst hbn
   rw[show ((l:Int)-97+65)=((l-32:Nat):Int) by omega]
   have hub:l-32<128:=by omega
   have hlb:l<128:=by omega
   have HX1:=aa hx1
   obtain⟨hc01,_⟩:=(HB0.O.ex hx1 (by simp)).all
   clear hc0 hf0 hc1 hf1 hx1
   have key:∃O1 O2 W1 W2:Cls,W2=bQ (bQ c' (cv l)) (cv (l-32))/\
     (∀w,Calls Tryz.prog 243 #[.int .u8 l,.int .u8 l] w fun e w'=>e= .returned (ar O1)/\Ex [] w w')/\
     (∀w,Calls Tryz.prog 264 #[ar c',ar O1] w fun e w'=>e= .returned (ar W1)/\Ex [] w w')/\
     (∀w,Calls Tryz.prog 243 #[.int .u8 ((l-32:Nat):Int),.int .u8 ((l-32:Nat):Int)] w fun e w'=>e= .returned (ar O2)/\Ex [] w w')/\
     (∀w,Calls Tryz.prog 264 #[ar W1,ar O2] w fun e w'=>e= .returned (ar W2)/\Ex [] w w'):=
    ⟨cv l,cv (l-32),bQ c' (cv l),bQ (bQ c' (cv l)) (cv (l-32)),rfl,fun w=>dc l w hlb,fun w=>fe _ _ w,fun w=>dc (l-32) w hub,fun w=>fe _ _ w⟩
   obtain⟨O1,O2,W1,W2,hW2,kb1,kw1,kb2,kw2⟩:=key
   rw[<-hW2]at HST
   have KB1:=aa kb1
   have KW1:=aa kw1
   have KB2:=aa kb2
   have KW2:=aa kw2
   clear kb1 kw1 kb2 kw2 hW2
   obtain⟨u,hu⟩:∃u:Nat,l-32=u:=⟨_,rfl⟩
   have hul:u+32=l:=by omega
   rw[hu]at HST KB2 ⊢
   clear hu
   cases hv1:hasC c' (l:Int)with
   |true=>
    rw[hv1]at HST
    simp only[Bool.true_or,if_true]at HST
    go_wp2_with fail
    refine aQ (by kernel_rfl) ?_
    refine tk (i:=1) (v:= ?_) rfl ?_ ?_
    rotate_left
    ·intro w'
     go_simp
     try with_reducible rfl
    simp only[Act.put,List.replicate,Array.replicate,lx]
    refine tk (i:=2) (v:= ?_) rfl ?_ ?_
    rotate_left
    ·intro w'
     go_simp
     try with_reducible rfl
    simp only[Act.put,List.replicate,Array.replicate,lx]
    refine tk (i:=5) (v:= ?_) rfl ?_ ?_
    rotate_left
    ·intro w'
     go_simp
     try with_reducible rfl
    simp only[Act.put,List.replicate,Array.replicate,lx]
    refine tk (i:=6) (v:= ?_) rfl ?_ ?_
    rotate_left
    ·intro w'
     go_simp
     try with_reducible rfl
    simp only[Act.put,List.replicate,Array.replicate,lx]
    refine aV (S:=(fun j w'=>j<9 ->∀o,w'.cell? ⟨w.heap.size,o,none⟩= #[Value.int .u64 c'.lo,.int .u64 c'.hi,.bool c'.hg][o]?)) _ _ _ _ ?_
    refine cG (i:=0) (T:=(fun w'=>∀o,w'.cell? ⟨w.heap.size,o,none⟩= #[Value.int .u64 c'.lo,.int .u64 c'.hi,.bool c'.hg][o]?)) (v:= ?_) (fun j=>decide (j<9)) rfl (by kernel_rfl) (by kernel_rfl) (by kernel_rfl) (by kernel_rfl) (fun j w' hf h=>h (of_decide_eq_true hf)) (fun w' h _=>h) (fun _ _ _ h=>h) hc01 (Or.inl ⟨by rfl,?_⟩) ?_
    rotate_left
    ·intro w' hSw
     go_simp
     try with_reducible rfl
    simp only[Act.put,List.replicate,Array.replicate,lx]
    refine ae (i:=3) rfl rfl (by kernel_rfl) (fun K hK=> ?_)
    go_simp
    refine (KB1.O _).mono ?_
    rintro e w3 ⟨rfl,hx3⟩
    have hy3:=(HX1.O.drew).trans hx3
    obtain⟨q3,hf3⟩:=(HB0.O.ex hy3 (by simp)).all
    unfold ar
    go_wp2_with fail
    refine hK.O _ _ (fun _=>q3) ?_
    clear hK K
    simp only[Act.put,lx]
    refine ae (i:=4) rfl rfl (by kernel_rfl) (fun K hK=> ?_)
    go_simp
    refine (KW1.O _).mono ?_
    rintro e w4 ⟨rfl,hx4⟩
    have hy4:=(hy3).trans hx4
    obtain⟨q4,hf4⟩:=(HB0.O.ex hy4 (by simp)).all
    unfold ar
    go_wp2_with fail
    refine hK.O _ _ (fun _=>q4) ?_
    clear hK K
    simp only[Act.put,lx]
    refine ae (i:=7) rfl rfl (by kernel_rfl) (fun K hK=> ?_)
    go_simp
    refine (KB2.O _).mono ?_
    rintro e w5 ⟨rfl,hx5⟩
    have hy5:=(hy4).trans hx5
    obtain⟨q5,hf5⟩:=(HB0.O.ex hy5 (by simp)).all
    unfold ar
    go_wp2_with fail
    refine hK.O _ _ (fun _=>q5) ?_
    clear hK K
    simp only[Act.put,lx]
    refine ae (i:=8) rfl rfl (by kernel_rfl) (fun K hK=> ?_)
    go_simp
    refine (KW2.O _).mono ?_
    rintro e w6 ⟨rfl,hx6⟩
    have hy6:=(hy5).trans hx6
    obtain⟨q6,hf6⟩:=(HB0.O.ex hy6 (by simp)).all
    unfold ar
    go_wp2_with fail
    refine hK.O _ _ (fun _=>q6) ?_
    clear hK K
    simp only[Act.put,lx]
    refine ae (i:=9) rfl rfl (by kernel_rfl) (fun K hK=> ?_)
    go_simp
    refine hK.O _ _ (fun hj=>by omega) ?_
    clear hK K
    refine aP (by kernel_rfl) ?_ _
    have hb6:=HB0.O.ex hy6 (by simp)
    have hb61:=HB1.O.ex hy6 (by simp)
    have HY6:=aa hy6
    have HB6:=aa hb6
    have HB61:=aa hb61
    clear hx3 hx4 hx5 hx6 hy3 hy4 hy5 hy6 hb6 hb61 q3 q4 q5 q6 hf3 hf4 hf5 hf6
    go_wp2_with fail
    go_roundg g
    case measure=>omega
    case rel=>
     refine⟨l+1,W2,by omega,by omega,by simp,?_,?_,?_,?_⟩
     ·have h1:=HBN.O
      have h2:=HST.O
      rw[h2]at h1
      exact h1
     ·have h1:=((HB6.O.self 0 (.int .u64 W2.lo)).self 1 (.int .u64 W2.hi)).self 2 (.bool W2.hg)
      simpa using h1
     ·repeat (refine BK.set ?_ (by simp) _)
      exact HB61.O
     ·repeat (refine Ex.setCell ?_ (Or.inr (by simp)) _)
      exact HX.O.trans HY6.O
   |false=>
    rw[hv1]at HST
    simp only[Bool.false_or]at HST
    go_wp2_with fail
    refine (has_any c' (u:Int) _ (by omega)).mono ?_
    rintro e w2 ⟨rfl,hx2⟩
    have HX2:=aa (HX1.O.trans hx2)
    obtain⟨hc02,_⟩:=(HB0.O.ex HX2.O (by simp)).all
    clear hc01
    cases hv2:hasC c' (u:Int)with
    |true=>
     go_wp2_with fail
     refine aQ (by kernel_rfl) ?_
     refine tk (i:=1) (v:= ?_) rfl ?_ ?_
     rotate_left
     ·intro w'
      go_simp
      try with_reducible rfl
     simp only[Act.put,List.replicate,Array.replicate,lx]
     refine tk (i:=2) (v:= ?_) rfl ?_ ?_
     rotate_left
     ·intro w'
      go_simp
      try with_reducible rfl
     simp only[Act.put,List.replicate,Array.replicate,lx]
     refine tk (i:=5) (v:= ?_) rfl ?_ ?_
     rotate_left
     ·intro w'
      go_simp
      try with_reducible rfl
     simp only[Act.put,List.replicate,Array.replicate,lx]
     refine tk (i:=6) (v:= ?_) rfl ?_ ?_
     rotate_left
     ·intro w'
      go_simp
      try with_reducible rfl
     simp only[Act.put,List.replicate,Array.replicate,lx]
     refine aV (S:=(fun j w'=>j<9 ->∀o,w'.cell? ⟨w.heap.size,o,none⟩= #[Value.int .u64 c'.lo,.int .u64 c'.hi,.bool c'.hg][o]?)) _ _ _ _ ?_
     refine cG (i:=0) (T:=(fun w'=>∀o,w'.cell? ⟨w.heap.size,o,none⟩= #[Value.int .u64 c'.lo,.int .u64 c'.hi,.bool c'.hg][o]?)) (v:= ?_) (fun j=>decide (j<9)) rfl (by kernel_rfl) (by kernel_rfl) (by kernel_rfl) (by kernel_rfl) (fun j w' hf h=>h (of_decide_eq_true hf)) (fun w' h _=>h) (fun _ _ _ h=>h) hc02 (Or.inl ⟨by rfl,?_⟩) ?_
     rotate_left
     ·intro w' hSw
      go_simp
      try with_reducible rfl
     simp only[Act.put,List.replicate,Array.replicate,lx]
     refine ae (i:=3) rfl rfl (by kernel_rfl) (fun K hK=> ?_)
     go_simp
     refine (KB1.O _).mono ?_
     rintro e w3 ⟨rfl,hx3⟩
     have hy3:=(HX2.O.drew).trans hx3
     obtain⟨q3,hf3⟩:=(HB0.O.ex hy3 (by simp)).all
     unfold ar
     go_wp2_with fail
     refine hK.O _ _ (fun _=>q3) ?_
     clear hK K
     simp only[Act.put,lx]
     refine ae (i:=4) rfl rfl (by kernel_rfl) (fun K hK=> ?_)
     go_simp
     refine (KW1.O _).mono ?_
     rintro e w4 ⟨rfl,hx4⟩
     have hy4:=(hy3).trans hx4
     obtain⟨q4,hf4⟩:=(HB0.O.ex hy4 (by simp)).all
     unfold ar
     go_wp2_with fail
     refine hK.O _ _ (fun _=>q4) ?_
     clear hK K
     simp only[Act.put,lx]
     refine ae (i:=7) rfl rfl (by kernel_rfl) (fun K hK=> ?_)
     go_simp
     refine (KB2.O _).mono ?_
     rintro e w5 ⟨rfl,hx5⟩
     have hy5:=(hy4).trans hx5
     obtain⟨q5,hf5⟩:=(HB0.O.ex hy5 (by simp)).all
     unfold ar
     go_wp2_with fail
     refine hK.O _ _ (fun _=>q5) ?_
     clear hK K
     simp only[Act.put,lx]
     refine ae (i:=8) rfl rfl (by kernel_rfl) (fun K hK=> ?_)
     go_simp
     refine (KW2.O _).mono ?_
     rintro e w6 ⟨rfl,hx6⟩
     have hy6:=(hy5).trans hx6
     obtain⟨q6,hf6⟩:=(HB0.O.ex hy6 (by simp)).all
     unfold ar
     go_wp2_with fail
     refine hK.O _ _ (fun _=>q6) ?_
     clear hK K
     simp only[Act.put,lx]
     refine ae (i:=9) rfl rfl (by kernel_rfl) (fun K hK=> ?_)
     go_simp
     refine hK.O _ _ (fun hj=>by omega) ?_
     clear hK K
     refine aP (by kernel_rfl) ?_ _
     have hb6:=HB0.O.ex hy6 (by simp)
     have hb61:=HB1.O.ex hy6 (by simp)
     have HY6:=aa hy6
     have HB6:=aa hb6
     have HB61:=aa hb61
     clear hx3 hx4 hx5 hx6 hy3 hy4 hy5 hy6 hb6 hb61 q3 q4 q5 q6 hf3 hf4 hf5 hf6
     go_wp2_with fail
     go_roundg g
     case measure=>omega
     case rel=>
      refine⟨l+1,W2,by omega,by omega,by simp,?_,?_,?_,?_⟩
      ·have h1:=HBN.O
       have h2:=HST.O
       rw[hv2]at h2
       simp only[if_true]at h2
       rw[h2]at h1
       exact h1
      ·have h1:=((HB6.O.self 0 (.int .u64 W2.lo)).self 1 (.int .u64 W2.hi)).self 2 (.bool W2.hg)
       simpa using h1
      ·repeat (refine BK.set ?_ (by simp) _)
       exact HB61.O
      ·repeat (refine Ex.setCell ?_ (Or.inr (by simp)) _)
       exact HX.O.trans HY6.O
    |false=>
     go_wp2_with fail
     go_roundg g
     case measure=>omega
     case rel=>
      have hx02:=HX1.O.trans hx2
      refine⟨l+1,c',by omega,by omega,by simp,?_,HB0.O.ex hx02 (by simp),HB1.O.ex hx02 (by simp),HX.O.trans hx02⟩
      have h1:=HBN.O
      have h2:=HST.O
      rw[hv2]at h2
      rw[h2]at h1
      exact h1
structure RS where
 k:Nat
 d:Nat
 f:Bool
 g:Nat
 nm:List (ByteArray×Nat)
inductive Res (α:Type) where
 |ok (a:α) (s:RS)
 |bad (s:RS)
def Res.bind {α β:Type} (m:Res α) (f:α ->RS ->Res β):Res β:=match m with
 |.ok a s=>f a s
 |.bad s=> .bad s
theorem Res.bind_ok {α β:Type} (a:α) (s:RS) (f:α ->RS ->Res β):(Res.ok a s).bind f=f a s:=rfl
theorem Res.bind_bad {α β:Type} (s:RS) (f:α ->RS ->Res β):(Res.bad s:Res α).bind f= .bad s:=rfl
def Res.st {α:Type}:Res α ->RS
 |.ok _ s=>s
 |.bad s=>s
inductive Pt where
 |single (c:Cls)
 |seq (l:List Pt)
 |alt (l:List Pt)
 |wrap (p:Pt) (g:Nat)
 |count (p:Pt) (least:Nat) (most:Int) (lazy:Bool)
def ai (t:ByteArray) (k:Nat):Option UInt8:=t.data[k]?
def RS.up (s:RS):RS:={s with k:=s.k+1}
def ac (t:ByteArray) (s:RS) (b:UInt8):Bool:=ai t s.k==some b
def RS.took (s:RS) (t:ByteArray) (b:UInt8):RS:=if ac t s b then s.up else s
def aw (t:ByteArray) (s:RS) (b:UInt8):Res Unit:=if ac t s b then .ok () s.up else .bad s
def rh (t:ByteArray) (s:RS):Res UInt8:=match ai t s.k with
 |some b=> .ok b s
 |none=> .bad s
def dy (t:ByteArray) (least:Nat) (s:RS):Res Nat:=match ai t s.k with
 |none=> .bad s
 |some b=>if b.toNat<48+least\/57<b.toNat then .bad s else .ok (b.toNat-48) s.up
def bn (t:ByteArray) (s:RS):Res (Nat×Int):=
 (dy t 0 s).bind fun a s1=>
 if ac t s1 125 then .ok (a,(a:Int)) s1.up else
 (aw t s1 44).bind fun _ s2=>
 if ac t s2 125 then .ok (a,-1) s2.up else
 (dy t a s2).bind fun b s3=>
 (aw t s3 125).bind fun _ s4=> .ok (a,(b:Int)) s4
def cM (t:ByteArray) (s:RS):Res (Option (Nat×Int)):=
 if ac t s 42 then .ok (some (0,-1)) s.up
 else if ac t s 43 then .ok (some (1,-1)) s.up
 else if ac t s 63 then .ok (some (0,1)) s.up
 else if ac t s 123 then (bn t s.up).bind fun x s'=> .ok (some x) s'
 else .ok none s
def addB (c:Cls) (b:Nat):Cls:=if b/64=0 then ⟨bits BinOp.or IntKind.u64 c.lo (fk b),c.hi,c.hg⟩else ⟨c.lo,bits BinOp.or IntKind.u64 c.hi (fk b),c.hg⟩
def jd:Nat ->Nat ->Cls ->Cls
 |0,_,c=>c
 |n+1,b,c=>jd n (b+1) (addB c b)
def ce (a b:Nat):Cls:=jd (b+1-a) a ⟨0,0,false⟩
def bI (c:Cls):Cls:=⟨bits BinOp.xor IntKind.u64 IntKind.u64.max c.lo,bits BinOp.xor IntKind.u64 IntKind.u64.max c.hi,!c.hg⟩
def lB (l:List UInt8):Cls:=l.foldl (fun c b=>bQ c (cv b.toNat)) ⟨0,0,false⟩
def o6:Cls:=bI ⟨0,0,false⟩
def dI:Cls:=ce 48 57
def gV:Cls:=bQ (bQ (bQ dI (ce 97 122)) (ce 65 90)) (lB [95])
def gT:Cls:=lB [32,9,10,13]
def dQ (b:UInt8):Option Cls:=
 if b=100 then some dI else if b=119 then some gV else if b=115 then some gT
 else if b=68 then some (bI dI)else if b=87 then some (bI gV)else if b=83 then some (bI gT)else none
def sing (f:Bool) (c:Cls):Cls:=if f then lz c else c
def iF:List UInt8:=[92,46,43,42,63,40,41,124,91,93,123,125,94,36]
def eh:List UInt8:=[92,46,43,42,63,40,41,124,91,93,123,125,94,36,45,34]
def dY:List UInt8:=[92,91,93,94,45]
def aO (t:ByteArray) (but:List UInt8) (s:RS):Res UInt8:=match ai t s.k with
 |none=> .bad s
 |some b=>if 128<=b.toNat\/b∈but then .bad s else .ok b s.up
def an (t:ByteArray) (s:RS):Res (Cls×UInt8×Bool):=match ai t s.k with
 |none=> .bad s
 |some b=>if b∈eh then .ok (cv b.toNat,b,true) s.up else match dQ b with
  |none=> .bad s
  |some c=> .ok (c,0,false) s.up
def au (t:ByteArray) (first:UInt8) (s:RS):Res UInt8:=
 let esc:=decide (first.toNat<=125)&&ac t s 92
 let s1:=if esc then s.up else s
 match ai t s1.k with
 |none=> .bad s1
 |some b=>if b.toNat<first.toNat then .bad s1 else if esc then (if b∈eh then .ok b s1.up else .bad s1)else aO t dY s1
def bg (t:ByteArray) (b:UInt8) (s:RS):Res Cls:=
 if ac t s 45 then (au t b s.up).bind fun e s'=> .ok (ce b.toNat e.toNat) s' else .ok (cv b.toNat) s
def aI (t:ByteArray) (s:RS):Res Cls:=
 if ac t s 92 then (an t s.up).bind fun x s1=>if x.2.2 then bg t x.2.1 s1 else .ok x.1 s1
 else (aO t dY s).bind fun b s1=>bg t b s1
def bW (t:ByteArray):Nat ->Cls ->RS ->Res Cls
 |0,_,s=> .bad s
 |n+1,c,s=>if ac t s 93 then .ok c s.up else (aI t s).bind fun c' s'=>bW t n (bQ c c') s'
def fj (t:ByteArray) (s:RS):Res Cls:=
 (aw t s 91).bind fun _ s1=>
 (aI t (s1.took t 94)).bind fun c s3=>
 (bW t (t.size+1) c s3).bind fun c s4=>
 .ok (if ac t s1 94 then bI (sing s4.f c)else sing s4.f c) s4
def aD (nm:List (ByteArray×Nat)) (n:ByteArray):Bool:=nm.any fun x=>decide (x.1=n)
def aZ (t:ByteArray) (i:Nat):Nat ->RS ->Res Unit
 |0,s=> .ok () s
 |n+1,s=>match ai t s.k with
  |none=> .bad s
  |some b=>if 97<=b.toNat/\b.toNat<=122 then (if n=0/\aD s.nm (t.extract i (s.k+1))=true then .bad s else aZ t i n s.up)else .ok () s
def ao (t:ByteArray) (s:RS):Res ByteArray:=
 (aZ t s.k 8 s).bind fun _ s1=>
 if s1.k=s.k\/aD s1.nm (t.extract s.k s1.k)=true then .bad s1 else .ok (t.extract s.k s1.k) s1
def al (t:ByteArray) (s:RS):Res Nat:=
 if s.g≠5/\ac t s 63=false then .ok (s.g+1) {s with g:=s.g+1}
 else (aw t s 63).bind fun _ s1=>
  if ac t s1 58 then .ok 0 s1.up
  else if s1.g=5 then .bad s1
  else (aw t s1 80).bind fun _ s2=>(aw t s2 60).bind fun _ s3=>(ao t s3).bind fun n s4=>(aw t s4 62).bind fun _ s5=>
   .ok (s5.g+1) {s5 with g:=s5.g+1,nm:=s5.nm++[(n,s5.g+1)]}
section
variable (t:ByteArray) (E:RS ->Res Pt)
def aK (s:RS):Res Pt:=
 if s.d=6 then .bad s else
 (aw t s 40).bind fun _ s1=>
 (al t {s1 with d:=s1.d+1}).bind fun g s2=>
 (E s2).bind fun p s3=>
 (aw t s3 41).bind fun _ s4=> .ok (.wrap p g) {s4 with d:=s4.d-1}
def bp (s:RS):Res Pt:=match ai t s.k with
 |none=> .bad s
 |some b=>
  if b=40 then aK t E s
  else if b=91 then (fj t s).bind fun c s'=> .ok (.single c) s'
  else if b=46 then .ok (.single o6) s.up
  else if b=92 then (an t s.up).bind fun x s'=> .ok (.single (sing s'.f x.1)) s'
  else (aO t iF s).bind fun b s'=> .ok (.single (sing s'.f (cv b.toNat))) s'
def aW (s:RS):Res Pt:=
 (bp t E s).bind fun p s1=>(cM t s1).bind fun c s2=>match c with
  |none=> .ok p s2
  |some x=> .ok (.count p x.1 x.2 (ac t s2 63)) (s2.took t 63)
def aR:Nat ->List Pt ->RS ->Res (List Pt)
 |0,_,s=> .bad s
 |n+1,acc,s=>if s.k=t.size\/ac t s 124=true\/ac t s 41=true then .ok acc s else (aW t E s).bind fun p s'=>aR n (acc++[p]) s'
def fi:Nat ->List Pt ->RS ->Res (List Pt)
 |0,_,s=> .bad s
 |n+1,acc,s=>if ac t s 124 then (aR t E (t.size+1) [] s.up).bind fun l s'=>fi n (acc++[.seq l]) s' else .ok acc s
def dm (s:RS):Res Pt:=
 (aR t E (t.size+1) [] s).bind fun l s1=>(fi t E (t.size+1) [.seq l] s1).bind fun b s2=> .ok (.alt b) s2
end
def ep (t:ByteArray):Nat ->RS ->Res Pt
 |0,s=> .bad s
 |n+1,s=>dm t (ep t n) s
def fa:RS:=⟨0,0,false,0,[]⟩
def dB (t:ByteArray):Res Unit:=
 if ai t 0=some 40/\ai t 1=some 63/\ai t 2=some 105 then (aw t {fa with k:=3} 41).bind fun _ s=> .ok () {s with f:=true}
 else .ok () fa
def aX (t:ByteArray):Res Pt:=
 (dB t).bind fun _ s=>(ep t 7 s).bind fun p s'=>if s'.k=t.size then .ok p s' else .bad s'
def nmE (l:List (ByteArray×Nat)):Array MapEntry:=(l.zipIdx.map fun x=>{key:= .string x.1.1,val:= .int .i64 x.1.2,born:=x.2}).toArray
abbrev EV:=TypeId×Value
structure RG (w:World) (r mb:Nat) (t:ByteArray) (x:EV) (s:RS):Prop where
 rd:RD w r t s.k ⟨s.d,s.f,s.g,.map (some mb)⟩
 mp:BK w mb (.map (nmE s.nm) s.nm.length)
 ev:w.cell? ⟨0,0,none⟩=some (.iface x.1 x.2)
 rm:r≠mb
 re:r≠0
 me:mb≠0
 hk:s.k<=t.size
 ht:t.size<=60
 nk:∀x∈s.nm,x.1.size<=60
theorem eV {b o:Nat} {v:Value} (h:w.cell? ⟨b,o,none⟩=some v):b<w.heap.size:=by
 by_cases hb:b<w.heap.size
 ·exact hb
 ·have h2:w.heap[b]? =none:=Array.getElem?_eq_none (by omega)
  simp[World.cell?,h2]at h
theorem RG.ex {l:List Nat} {x:EV} {s:RS} (h:RG w r mb t x s) (hx:Ex l w w') (h1:r∉l) (h2:mb∉l) (h3:0∉l):RG w' r mb t x s:=
 ⟨h.rd.ex hx h1,h.mp.ex hx h2,(hx.cell.1 _ _ (eV h.ev) h3).trans h.ev,h.rm,h.re,h.me,h.hk,h.ht,h.nk⟩
theorem RG.ex0 {x:EV} {s:RS} (h:RG w r mb t x s) (hx:Ex [] w w'):RG w' r mb t x s:=h.ex hx (by simp) (by simp) (by simp)
theorem RG.alloc {x:EV} {s:RS} (h:RG w r mb t x s) (o:Obj):RG (w.alloc o) r mb t x s:=h.ex0 ((Ex.refl _ _).alloc _)
theorem RG.drewN {x:EV} {s:RS} (h:RG w r mb t x s) (n:Nat):RG (w.drewN n) r mb t x s:=h.ex0 ((Ex.refl _ _).drewN _)
theorem RG.drew {x:EV} {s:RS} (h:RG w r mb t x s):RG w.drew r mb t x s:=h.ex0 ((Ex.refl _ _).drew)
theorem RG.lt {x:EV} {s:RS} (h:RG w r mb t x s):r<w.heap.size:=h.rd.lt
theorem RG.mlt {x:EV} {s:RS} (h:RG w r mb t x s):mb<w.heap.size:=h.mp.lt
theorem RG.elt {x:EV} {s:RS} (h:RG w r mb t x s):0<w.heap.size:=eV h.ev
theorem RG.set {x:EV} {s:RS} (h:RG w r mb t x s) {p:Addr} (h1:p.block≠r) (h2:p.block≠mb) (h3:p.block≠0) (u:Value):RG (w.setCell p u) r mb t x s:=
 h.ex (l:=[p.block]) ((Ex.refl _ _).setCell (Or.inl (by simp)) u) (by simpa using h1.symm) (by simpa using h2.symm) (by simpa using h3.symm)
theorem RG.setN {x:EV} {s:RS} {B:Nat} (h:RG w r mb t x s) {p:Addr} (h1:r<B) (h2:mb<B) (h3:0<B) (hp:B<=p.block) (u:Value):RG (w.setCell p u) r mb t x s:=
 h.set (by omega) (by omega) (by omega) u
theorem RG.own {x:EV} {s s':RS} (h:RG w r mb t x s) {p:Addr} (hp:p.block=r) (u:Value) (hn:s'.nm=s.nm) (hk:s'.k<=t.size) (hrd:RD (w.setCell p u) r t s'.k ⟨s'.d,s'.f,s'.g,.map (some mb)⟩):RG (w.setCell p u) r mb t x s':=by
 have hx:Ex [r] w (w.setCell p u):=(Ex.refl _ _).setCell (Or.inl (by simp[hp])) u
 refine⟨hrd,?_,(hx.cell.1 _ _ h.elt (by simpa using h.re.symm)).trans h.ev,h.rm,h.re,h.me,hk,h.ht,by rw[hn];exact h.nk⟩
 rw[hn];exact h.mp.ex hx (by simpa using h.rm.symm)
theorem RG.up {x:EV} {s:RS} (h:RG w r mb t x s) (hk:s.k<t.size):RG (w.setCell ⟨r,1,none⟩ (.int .i64 ((s.k+1:Nat):Int))) r mb t x s.up:=
 h.own rfl _ rfl hk h.rd.step
def ay {α:Type} (own:List Nat) (r mb:Nat) (t:ByteArray) (x:EV) (w:World) (R:World ->Value ->α ->Prop) (m:Res α) (e:Ending) (w':World):Prop:=
 match m with
 |.ok a s'=>(∃v,e= .returned v/\R w' v a)/\RG w' r mb t x s'/\Ex own w w'
 |.bad s'=>e= .panicked [{v:= .iface x.1 x.2,recovered:=false}]/\RG w' r mb t x s'/\Ex own w w'
theorem gW (h:k<t.size):ai t k=some (t[k]'h):=Array.getElem?_eq_getElem h
theorem fG (h:¬k<t.size):ai t k=none:=Array.getElem?_eq_none (by simp only[ByteArray.size]at h;omega)
theorem cP (h:ai t k=some b):∃hk:k<t.size,(t[k]'hk)=b:=by
 by_cases hk:k<t.size
 ·rw[gW hk]at h;exact⟨hk,Option.some.inj h⟩
 ·rw[fG hk]at h;cases h
theorem yR {s:RS} (h:ac t s b=true):s.k<t.size:=by
 unfold ac at h
 by_cases hk:s.k<t.size
 ·exact hk
 ·rw[fG hk]at h;simp at h
theorem im (a b:UInt8):((a.toNat:Int)==(b.toNat:Int))=(a==b):=by
 by_cases h:a=b
 ·subst h;simp
 ·have h2:(a.toNat:Int)≠(b.toNat:Int):=by
   intro h3;apply h;apply UInt8.toNat_inj.1;omega
  rw[beq_eq_false_iff_ne.2 h2,beq_eq_false_iff_ne.2 h]
theorem su {x:EV} {s:RS} (h:RG w r mb t x s):
  Calls Tryz.prog 86 #[.pointer (some ⟨r,0,none⟩)] w fun e w'=>e= .returned (.bool (decide (s.k=t.size)))/\∃n,w'=w.drewN n:=by
 by_cases hk:s.k=t.size
 ·rw[decide_eq_true hk];exact nS r t s.k _ w h.rd hk
 ·rw[decide_eq_false hk];exact jj r t s.k _ w h.rd (by have:=h.hk;omega)
theorem wv {x:EV} {s:RS} (h:RG w r mb t x s) (bi:Int) (b:UInt8) (hb:(b.toNat:Int)=bi):
  Calls Tryz.prog 177 #[.pointer (some ⟨r,0,none⟩),.int .u8 bi] w fun e w'=>e= .returned (.bool (ac t s b))/\∃n,w'=w.drewN n:=by
 subst hb
 by_cases hk:s.k<t.size
 ·have hs:ac t s b=((t[s.k]'hk)==b):=by simp[ac,gW hk]
  cases hq:ac t s b with
  |true=>exact rJ r t s.k _ w _ h.rd hk h.ht (by rw[im,<-hs,hq])
  |false=>exact t7 r t s.k _ w _ h.rd hk h.ht (by rw[im,<-hs,hq])
 ·have hs:ac t s b=false:=by simp[ac,fG hk]
  rw[hs]
  exact rI r t s.k _ w _ h.rd (by have:=h.hk;omega)
theorem de {x:EV} {s:RS} (h:RG w r mb t x s) (bi:Int) (b:UInt8) (hb:(b.toNat:Int)=bi):
  Calls Tryz.prog 137 #[.pointer (some ⟨r,0,none⟩),.int .u8 bi] w fun e w'=>e= .returned (.bool (ac t s b))/\RG w' r mb t x (s.took t b)/\Ex [r] w w':=by
 subst hb
 by_cases hk:s.k<t.size
 ·have hs:ac t s b=((t[s.k]'hk)==b):=by simp[ac,gW hk]
  cases hq:ac t s b with
  |true=>
   refine (vr r t s.k _ w _ h.rd hk h.ht (by rw[im,<-hs,hq])).mono ?_
   rintro e w' ⟨rfl,hrd,hx⟩
   refine⟨rfl,?_,hx⟩
   unfold RS.took;rw[if_pos hq]
   exact⟨hrd,h.mp.ex hx (by simpa using h.rm.symm),(hx.cell.1 _ _ h.elt (by simpa using h.re.symm)).trans h.ev,h.rm,h.re,h.me,hk,h.ht,h.nk⟩
  |false=>
   refine (xK r t s.k _ w _ h.rd hk h.ht (by rw[im,<-hs,hq])).mono ?_
   rintro e w' ⟨rfl,n,rfl⟩
   refine⟨rfl,?_,(Ex.refl _ _).drewN _⟩
   unfold RS.took;rw[if_neg (by simp[hq])];exact h.drewN _
 ·have hs:ac t s b=false:=by simp[ac,fG hk]
  rw[hs]
  refine (vq r t s.k _ w _ h.rd (by have:=h.hk;omega)).mono ?_
  rintro e w' ⟨rfl,n,rfl⟩
  refine⟨rfl,?_,(Ex.refl _ _).drewN _⟩
  unfold RS.took;rw[if_neg (by simp[hs])];exact h.drewN _
theorem ay.mkOk {α:Type} {own:List Nat} {x:EV} {R:World ->Value ->α ->Prop} {m:Res α} {a:α} {s':RS} {v:Value} (hm:m= .ok a s') (hR:R w' v a) (hg:RG w' r mb t x s') (hx:Ex own w w'):ay own r mb t x w R m (.returned v) w':=by
 subst hm;exact⟨⟨v,rfl,hR⟩,hg,hx⟩
theorem ay.mkBad {α:Type} {own:List Nat} {x:EV} {R:World ->Value ->α ->Prop} {m:Res α} {s':RS} (hm:m= .bad s') (hg:RG w' r mb t x s') (hx:Ex own w w'):ay own r mb t x w R m (.panicked [{v:= .iface x.1 x.2,recovered:=false}]) w':=by
 subst hm;exact⟨rfl,hg,hx⟩
theorem ay.split {α:Type} {own:List Nat} {x:EV} {R:World ->Value ->α ->Prop} {m:Res α} {e:Ending} (h:ay own r mb t x w R m e w'):
  (∃a s' v,m= .ok a s'/\e= .returned v/\R w' v a/\RG w' r mb t x s'/\Ex own w w')\/(∃s',m= .bad s'/\e= .panicked [{v:= .iface x.1 x.2,recovered:=false}]/\RG w' r mb t x s'/\Ex own w w'):=by
 cases m with
 |ok a s'=>obtain⟨⟨v,h1,h2⟩,h3,h4⟩:=h;exact .inl ⟨a,s',v,rfl,h1,h2,h3,h4⟩
 |bad s'=>obtain⟨h1,h3,h4⟩:=h;exact .inr ⟨s',rfl,h1,h3,h4⟩
theorem ab {P:Program} {fn:Func} {R:Ending ->World ->Prop} {a:Act} {ch:List PanicEntry} (hd:a.defers=[]) (h:R (.panicked ch) w):bodyPost P fn R (.panic ch) a w:=⟨hd,h⟩
theorem oy {s:RS} (h:ac t s b=true):aw t s b= .ok () s.up:=by unfold aw;rw[if_pos h]
theorem wY {s:RS} (h:ac t s b=false):aw t s b= .bad s:=by unfold aw;rw[if_neg (by simp[h])]
theorem ck {s:RS} (h:ac t s b=true):s.took t b=s.up:=by unfold RS.took;rw[if_pos h]
theorem cU {s:RS} (h:ac t s b=false):s.took t b=s:=by unfold RS.took;rw[if_neg (by simp[h])]
theorem gL {x:EV} {s:RS} (h:RG w r mb t x s) (bi:Int) (b:UInt8) (hb:(b.toNat:Int)=bi):
  Calls Tryz.prog 135 #[.pointer (some ⟨r,0,none⟩),.int .u8 bi] w fun e w'=>ay [r] r mb t x w (fun _ v _=>v= .tuple #[]) (aw t s b) e w':=by
 have H:=aa h
 clear h
 go_enter Tryz.func135,Tryz.ntmps135
 go_wp2_with fail
 refine (de H.O bi b hb).mono ?_
 rintro e w' ⟨rfl,h1,h2⟩
 cases hq:ac t s b with
 |true=>
  rw[ck hq]at h1
  have HM:=aa (oy hq)
  have H1:=aa h1
  have H2:=aa h2
  clear h1 h2 hq
  go_wp2_with fail
  go_end0
  exact ay.mkOk HM.O rfl H1.O H2.O
 |false=>
  rw[cU hq]at h1
  have HM:=aa (wY hq)
  have hev:=h1.ev
  have H1:=aa h1
  have H2:=aa h2
  clear h1 h2 hq
  go_wp2_with fail
  exact ab rfl (ay.mkBad HM.O H1.O H2.O)
theorem eU {s:RS} (h:ai t s.k=some b):rh t s= .ok b s:=by simp[rh,h]
theorem gv {s:RS} (h:ai t s.k=none):rh t s= .bad s:=by simp[rh,h]
theorem wn {x:EV} {s:RS} (h:RG w r mb t x s):
  Calls Tryz.prog 236 #[.pointer (some ⟨r,0,none⟩)] w fun e w'=>(∃n,w'=w.drewN n)/\ay [] r mb t x w (fun _ v b=>v= .int .u8 b.toNat) (rh t s) e w':=by
 by_cases hk:s.k<t.size
 ·refine (wT r t s.k _ w h.rd hk h.ht).mono ?_
  rintro e w' ⟨rfl,n,rfl⟩
  exact⟨⟨n,rfl⟩,ay.mkOk (eU (gW hk)) rfl (h.drewN _) ((Ex.refl _ _).drewN _)⟩
 ·have HM:=aa (gv (fG hk))
  have hev:=h.ev
  have hkk:s.k=t.size:=by have:=h.hk;omega
  have H:=aa h
  have HK:=aa hkk
  clear h hk hkk
  go_enter Tryz.func236,Tryz.ntmps236
  go_wp2_with fail
  refine (su H.O).mono ?_
  rintro e w' ⟨rfl,n,rfl⟩
  rw[decide_eq_true HK.O]
  go_wp2_with fail
  exact ab rfl ⟨⟨n,rfl⟩,ay.mkBad HM.O (H.O.drewN _) ((Ex.refl _ _).drewN _)⟩
end Go.Proofs.YtfnanjbleifjkaaGreatDoor.G
