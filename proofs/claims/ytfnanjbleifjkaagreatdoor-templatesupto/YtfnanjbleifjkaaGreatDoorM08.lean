import Derived.Test.YtfnanjbleifjkaaGreatDoorM07
import Derived.Test.YtfnanjbleifjkaaGreatDoorM04
set_option linter.unusedVariables false
set_option linter.unusedSimpArgs false
set_option maxHeartbeats 2000000
set_option maxRecDepth 100000
namespace Go.Proofs.YtfnanjbleifjkaaGreatDoor.G
variable {w:World} {t:ByteArray} {mb r:Nat} {x:EV}
open Go.RowKit
def gE (c:Cls):Value:= .agg #[.int .i64 0,.slice none 0 0,.int .u64 c.lo,.int .u64 c.hi,.bool c.hg,.int .i64 0,.int .i64 0,.int .i64 0,.bool false]
theorem gA (r:Nat) (t:ByteArray) (k:Nat) (mv:dv) (c:Cls) (w:World) (hr:RD w r t k mv):
  Calls Tryz.prog 241 #[.pointer (some ⟨r,0,none⟩),ar c] w fun e w'=>e= .returned (gE (sing mv.f c))/\Ex [] w w':=by
 have h3:=hr.c3
 have hlt:=hr.lt
 have KB:=aa (fun w=>mV c w)
 clear hr
 unfold ar sing
 obtain⟨d,f,g,m⟩:=mv
 simp only at h3
 cases f with
 |false=>
  go_enter Tryz.func241,Tryz.ntmps241
  go_wp2_with fail
  refine bodyPost_ret (v:=gE c) (by simp[results,Tryz.results241,go_sem,gE]) rfl ⟨by simp,?_⟩
  repeat (first|exact Ex.refl _ _|refine Ex.setCell ?_ (Or.inr (by simp)) _|refine Ex.alloc ?_ _)
 |true=>
  obtain⟨b,hb⟩:∃b,lz c=b:=⟨_,rfl⟩
  rw[hb]at KB ⊢
  go_enter Tryz.func241,Tryz.ntmps241
  go_wp2_with fail
  refine (KB.O _).mono ?_
  rintro e w1 ⟨rfl,hx1⟩
  have hB0:=BK.ex ((BK.new w (Obj.cells #[.int .u64 c.lo,.int .u64 c.hi,.bool c.hg] 99)).alloc (Obj.cells #[.int .i64 0,.slice none 0 0,.int .u64 0,.int .u64 0,.bool false,.int .i64 0,.int .i64 0,.int .i64 0,.bool false] 101)) hx1 (by simp)
  have hB1:=BK.ex (BK.new (w.alloc (Obj.cells #[.int .u64 c.lo,.int .u64 c.hi,.bool c.hg] 99)) (Obj.cells #[.int .i64 0,.slice none 0 0,.int .u64 0,.int .u64 0,.bool false,.int .i64 0,.int .i64 0,.int .i64 0,.bool false] 101)) hx1 (by simp)
  simp only[World.size_alloc]at hB1
  obtain⟨hc0,hf0⟩:=hB0.all
  obtain⟨hc1,hf1⟩:=hB1.all
  have hl0:=hB0.lt
  have hl1:=hB1.lt
  have HX1:=aa hx1
  clear hB0 hB1 hx1
  unfold ar
  go_wp2_with fail
  refine bodyPost_ret (v:=gE b) (by simp[results,Tryz.results241,go_sem,gE,hc1,hl1]) rfl ⟨by simp,?_⟩
  repeat (refine Ex.setCell ?_ (Or.inr (by simp)) _)
  exact (((Ex.refl _ _).alloc _).alloc _).trans HX1.O
theorem nine {cs:Array Value} (h:cs.size=9):∃x0 x1 x2 x3 x4 x5 x6 x7 x8,cs= #[x0,x1,x2,x3,x4,x5,x6,x7,x8]:=by
 obtain⟨l⟩:=cs
 match l,h with
 |[x0,x1,x2,x3,x4,x5,x6,x7,x8],_=>exact⟨x0,x1,x2,x3,x4,x5,x6,x7,x8,rfl⟩
theorem vy {b:Nat} {cs:Array Value} {e:TypeId} (h:BK w b (.cells cs e (0,0))) (hs:cs.size=9) (a0 a1 a2 a3 a4 a5 a6 a7 a8:Value):
  BK (((((((((w.setCell ⟨b,0,none⟩ a0).setCell ⟨b,1,none⟩ a1).setCell ⟨b,2,none⟩ a2).setCell ⟨b,3,none⟩ a3).setCell ⟨b,4,none⟩ a4).setCell ⟨b,5,none⟩ a5).setCell ⟨b,6,none⟩ a6).setCell ⟨b,7,none⟩ a7).setCell ⟨b,8,none⟩ a8) b (.cells #[a0,a1,a2,a3,a4,a5,a6,a7,a8] e (0,0)):=by
 obtain⟨x0,x1,x2,x3,x4,x5,x6,x7,x8,rfl⟩:=nine hs
 have h0:=h.self 0 a0;simp only[List.setIfInBounds_toArray,List.set_cons_zero]at h0
 have h1:=h0.self 1 a1;simp only[List.setIfInBounds_toArray,List.set_cons_zero,List.set_cons_succ]at h1
 have h2:=h1.self 2 a2;simp only[List.setIfInBounds_toArray,List.set_cons_zero,List.set_cons_succ]at h2
 have h3:=h2.self 3 a3;simp only[List.setIfInBounds_toArray,List.set_cons_zero,List.set_cons_succ]at h3
 have h4:=h3.self 4 a4;simp only[List.setIfInBounds_toArray,List.set_cons_zero,List.set_cons_succ]at h4
 have h5:=h4.self 5 a5;simp only[List.setIfInBounds_toArray,List.set_cons_zero,List.set_cons_succ]at h5
 have h6:=h5.self 6 a6;simp only[List.setIfInBounds_toArray,List.set_cons_zero,List.set_cons_succ]at h6
 have h7:=h6.self 7 a7;simp only[List.setIfInBounds_toArray,List.set_cons_zero,List.set_cons_succ]at h7
 have h8:=h7.self 8 a8;simp only[List.setIfInBounds_toArray,List.set_cons_zero,List.set_cons_succ]at h8
 exact h8
theorem pV (w:World) (b:Nat) (a0 a1 a2 a3 a4 a5 a6 a7 a8:Value):
  Ex [b] w (((((((((w.setCell ⟨b,0,none⟩ a0).setCell ⟨b,1,none⟩ a1).setCell ⟨b,2,none⟩ a2).setCell ⟨b,3,none⟩ a3).setCell ⟨b,4,none⟩ a4).setCell ⟨b,5,none⟩ a5).setCell ⟨b,6,none⟩ a6).setCell ⟨b,7,none⟩ a7).setCell ⟨b,8,none⟩ a8):=by
 repeat (refine Ex.setCell ?_ (Or.inl (by simp)) _)
 exact Ex.refl _ _
theorem iM {s s':RS} {y:Cls×UInt8×Bool} (h:an t s= .ok y s'):s'=s.up:=by
 unfold an at h
 cases hb:ai t s.k with
 |none=>rw[hb]at h;cases h
 |some b=>
  rw[hb]at h
  simp only at h
  by_cases hin:b∈eh
  ·rw[if_pos hin]at h;cases h;rfl
  ·rw[if_neg hin]at h
   cases ho:dQ b with
   |none=>rw[ho]at h;cases h
   |some c=>rw[ho]at h;cases h;rfl
def RS.like (s s':RS):Prop:=s'.d=s.d/\s'.f=s.f/\s'.g=s.g/\s'.nm=s.nm
theorem RS.like_refl (s:RS):s.like s:=⟨rfl,rfl,rfl,rfl⟩
theorem RS.like_up (s:RS):s.like s.up:=⟨rfl,rfl,rfl,rfl⟩
theorem RS.like.trans {a b c:RS} (h:a.like b) (k:b.like c):a.like c:=⟨k.1.trans h.1,k.2.1.trans h.2.1,k.2.2.1.trans h.2.2.1,k.2.2.2.trans h.2.2.2⟩
theorem RS.took_like (s:RS) (t:ByteArray) (b:UInt8):s.like (s.took t b):=by
 unfold RS.took;split
 ·exact RS.like_up s
 ·exact RS.like_refl s
theorem RS.took_le (s:RS) (t:ByteArray) (b:UInt8):s.k<=(s.took t b).k:=by
 unfold RS.took;split
 ·exact Nat.le_succ _
 ·exact Nat.le_refl _
theorem Res.bind_eq_ok {α β:Type} {m:Res α} {f:α ->RS ->Res β} {b:β} {s':RS} (h:m.bind f= .ok b s'):∃a s,m= .ok a s/\f a s= .ok b s':=by
 cases m with
 |ok a s=>exact⟨a,s,rfl,h⟩
 |bad s=>cases h
theorem rx {f b:UInt8} {s s':RS} (h:au t f s= .ok b s'):s.k<s'.k/\s.like s':=by
 by_cases hc:f.toNat<=125/\ac t s 92=true
 ·rw[jx hc.1 hc.2]at h
  cases hb:ai t s.up.k with
  |none=>rw[hb]at h;cases h
  |some b'=>
   rw[hb]at h
   simp only at h
   split at h
   ·cases h
   ·split at h
    ·cases h;exact⟨by show s.k<s.k+1+1;omega,(RS.like_up s).trans (RS.like_up _)⟩
    ·cases h
 ·rw[gy (by
   by_cases h1:f.toNat<=125
   ·right;cases h2:ac t s 92 with
    |false=>rfl
    |true=>exact absurd ⟨h1,h2⟩ hc
   ·exact Or.inl h1)]at h
  cases hb:ai t s.k with
  |none=>rw[hb]at h;cases h
  |some b'=>
   rw[hb]at h
   simp only at h
   split at h
   ·cases h
   ·obtain⟨_,rfl,_⟩:=eL h
    exact⟨by show s.k<s.k+1;omega,RS.like_up s⟩
theorem kD {b:UInt8} {s s':RS} {c:Cls} (h:bg t b s= .ok c s'):s.k<=s'.k/\s.like s':=by
 unfold bg at h
 split at h
 ·obtain⟨e,s1,h1,h2⟩:=Res.bind_eq_ok h
  cases h2
  obtain⟨h3,h4⟩:=rx h1
  exact⟨by have:s.k+1<s'.k:=h3;omega,(RS.like_up s).trans h4⟩
 ·cases h;exact⟨Nat.le_refl _,RS.like_refl s⟩
theorem lZ {s s':RS} {c:Cls} (h:aI t s= .ok c s'):s.k<s'.k/\s.like s':=by
 unfold aI at h
 split at h
 ·obtain⟨y,s1,h1,h2⟩:=Res.bind_eq_ok h
  have h3:=iM h1
  subst h3
  split at h2
  ·obtain⟨h4,h5⟩:=kD h2
   exact⟨by have:s.k+1+1<=s'.k:=h4;omega,((RS.like_up s).trans (RS.like_up _)).trans h5⟩
  ·cases h2;exact⟨by show s.k<s.k+1+1;omega,(RS.like_up s).trans (RS.like_up _)⟩
 ·obtain⟨b,s1,h1,h2⟩:=Res.bind_eq_ok h
  obtain⟨_,rfl,_⟩:=eL h1
  obtain⟨h4,h5⟩:=kD h2
  exact⟨by have:s.k+1<=s'.k:=h4;omega,(RS.like_up s).trans h5⟩
theorem oq:∀(n:Nat) (c c':Cls) (s s':RS),bW t n c s= .ok c' s' ->s.k<s'.k/\s.like s'
 |0,c,c',s,s',h=>by cases h
 |n+1,c,c',s,s',h=>by
  unfold bW at h
  split at h
  ·cases h;exact⟨by show s.k<s.k+1;omega,RS.like_up s⟩
  ·obtain⟨d,s1,h1,h2⟩:=Res.bind_eq_ok h
   obtain⟨h3,h4⟩:=lZ h1
   obtain⟨h5,h6⟩:=oq n _ _ _ _ h2
   exact⟨by omega,h4.trans h6⟩
theorem bz:(Tryz.prog.info? 101).map (·.size)=some 9:=by kernel_rfl
theorem cB {W:World} {b:Nat} {S:List Value} (hb:BK W b (.cells S.toArray 101 (0,0))) (hS:S.length=9):(loadVar 101 ⟨b,0,none⟩).run Tryz.prog W= .ok (.agg S.toArray) W:=
 run_loadVar_mid W b 0 _ S _ hb.rangeL Tryz.underlying101 rfl (by rw[hS];exact bz)
theorem RG.row {s:RS} {B:Nat} (h:RG w r mb t x s) {g:Nat} (h1:r<B) (h2:mb<B) (h3:0<B) (hp:B<=g) (cs:Array Value):RG (w.setRow g cs) r mb t x s:=
 h.ex (l:=[g]) ((Ex.refl _ _).setRow (.inl (by simp)) _) (by simp;omega) (by simp;omega) (by simp;omega)
theorem Ex.row {l:List Nat} {a:World} (h:Ex l a w) {g:Nat} (hp:a.heap.size<=g) (cs:Array Value):Ex l a (w.setRow g cs):=
 h.setRow (.inr hp) _
theorem Aq {s:RS} (h:RG w r mb t x s):
  Calls Tryz.prog 238 #[.pointer (some ⟨r,0,none⟩)] w fun e w'=>ay [r] r mb t x w (fun _ v c=>v=gE c) (fj t s) e w':=by
 have hlt:=h.lt
 have hmlt:=h.mlt
 have helt:=h.elt
 have ht:=h.ht
 have hne:w.heap.size≠r:=by omega
 have H:=aa h
 clear h
 go_enter Tryz.func238,Tryz.ntmps238
 go_wp2_with fail
 refine (gL (H.O.alloc _) 91 91 rfl).mono ?_
 rintro e w1 hp
 rcases hp.split with⟨_,s1,v,hm,rfl,rfl,hg1,hx1⟩|⟨s',hm,rfl,hg,hx⟩
 rotate_left
 ·exact ab rfl (ay.mkBad (by simp only[fj,hm,Res.bind_bad]) hg (((Ex.refl _ _).alloc _).trans hx))
 have M1:=aa hm
 have G1:=aa hg1
 have X1:=aa hx1
 clear hp hm hg1 hx1
 go_wp2_with fail
 refine (de G1.O 94 94 rfl).mono ?_
 rintro e w2 ⟨rfl,hg2,hx2⟩
 have G2:=aa hg2
 have X2:=aa (X1.O.trans hx2)
 clear hg2 hx2
 obtain⟨inv,hinv⟩:∃inv,ac t s1 94=inv:=⟨_,rfl⟩
 have HI:=aa hinv
 rw[hinv]
 clear hinv
 go_wp2_with fail
 refine (zf G2.O).mono ?_
 rintro e w3 hp
 rcases hp.split with⟨c3,s3,v,hm,rfl,rfl,hg3,hx3⟩|⟨s',hm,rfl,hg,hx⟩
 rotate_left
 ·exact ab rfl (ay.mkBad (by simp only[fj,af M1,Res.bind_ok,hm,Res.bind_bad]) hg (((Ex.refl _ _).alloc _).trans (X2.O.trans hx)))
 have M3:=aa hm
 have G3:=aa hg3
 have X3:=aa (X2.O.trans hx3)
 have hsz3:w.heap.size<w3.heap.size:=by have:=X3.O.size;simp at this;omega
 clear hp hm hg3 hx3
 obtain⟨R,hR⟩:∃R,bW t (t.size+1) c3 s3=R:=⟨_,rfl⟩
 have HR:=aa hR
 clear hR
 obtain⟨ib,hib⟩:∃ib,w3.heap.size=ib:=⟨_,rfl⟩
 have hbi:BK (w3.alloc (Obj.cells #[.int .u64 c3.lo,.int .u64 c3.hi,.bool c3.hg] 99)) ib (.cells #[.int .u64 c3.lo,.int .u64 c3.hi,.bool c3.hg] 99 (0,0)):=by rw[<-hib];exact BK.new _ _
 have BI:=aa hbi
 have BP:=aa ((BK.new w (Obj.cells #[.int .i64 0,.slice none 0 0,.int .u64 0,.int .u64 0,.bool false,.int .i64 0,.int .i64 0,.int .i64 0,.bool false] 101)).ex X3.O (by simp;omega))
 have hib2:w.heap.size<ib:=by omega
 have HIB:=aa hib
 clear hbi
 unfold ar
 go_wp2_with fail
 clear hib
 go_loopg [12] t.size (fun gk l12 wr=>∃(c:Cls) (s':RS),bW t (gk+1) c s'=R/\t.size-s'.k<=gk/\RG wr r mb t x s'/\BK wr w.heap.size (.cells #[.int .i64 0,.slice none 0 0,.int .u64 0,.int .u64 0,.bool false,.int .i64 0,.int .i64 0,.int .i64 0,.bool false] 101 (0,0))/\BK wr ib (.cells #[.int .u64 c.lo,.int .u64 c.hi,.bool c.hg] 99 (0,0))/\Ex [r] (w.alloc (Obj.cells #[.int .i64 0,.slice none 0 0,.int .u64 0,.int .u64 0,.bool false,.int .i64 0,.int .i64 0,.int .i64 0,.bool false] 101)) wr)
 case atStart=>exact⟨c3,s3,HR.O,by omega,G3.O.alloc _,BP.O.alloc _,BI.O,X3.O.alloc _⟩
 case round=>
  obtain⟨c,s',hRc,hfu,hg,hb0,hb1,hx⟩:=hrel
  have HX:=aa hx
  have HB0:=aa hb0
  have HB1:=aa hb1
  have HRC:=aa hRc
  have HG:=aa hg
  have hl0:=hb0.lt
  have hl1:=hb1.lt
  obtain⟨hc0,hf0⟩:=hb0.all
  obtain⟨hc1,hf1⟩:=hb1.all
  clear hx hb0 hb1 hRc hg
  go_wp2_with fail
  refine (de HG.O 93 93 rfl).mono ?_
  rintro e w4 ⟨rfl,hg4,hx4⟩
  have hb14:=HB1.O.ex hx4 (by simp;omega)
  have hb04:=HB0.O.ex hx4 (by simp;omega)
  have X4:=aa (HX.O.trans hx4)
  have hle4:=hx4.size
  clear hx4 hc0 hf0 hc1 hf1
  cases hq:ac t s' 93 with
  |true=>
   rw[ck hq]at hg4
   have G4:=aa hg4
   have MR:Hid (bW t (t.size+1) c3 s3= .ok c s'.up):=by
    show bW t (t.size+1) c3 s3=_
    rw[HR.O,<-HRC.O];unfold bW;rw[if_pos hq]
   have B14:=aa hb14
   have B04:=aa hb04
   obtain⟨hc1,hf1⟩:=hb14.all
   have hl14:=hb14.lt
   have hl04:=hb04.lt
   clear hq hg4 hb14 hb04
   obtain⟨cs,hcs⟩:∃cs,sing s'.up.f c=cs:=⟨_,rfl⟩
   have KS:=aa (fun w hr=>gA r t s'.up.k ⟨s'.up.d,s'.up.f,s'.up.g,.map (some mb)⟩ c w hr)
   simp only at KS
   rw[hcs]at KS
   have HCS:=aa hcs
   clear hcs
   go_wp2_with fail
   refine (KS.O _ G4.O.rd).mono ?_
   rintro e w5 ⟨rfl,hx5⟩
   have X5:=aa (X4.O.trans (hx5.drop (by simp)))
   have G5:=aa (G4.O.ex0 hx5)
   have hb05:=B04.O.ex hx5 (by simp)
   have hle5:=hx5.size
   have B05:=aa hb05
   clear hx5 hb05 hc1 hf1
   unfold gE
   cases inv with
   |false=>
    have HM:Hid (fj t s= .ok cs s'.up):=by
     show fj t s=_
     simp only[fj,af M1,Res.bind_ok,af M3,af MR,af HI,Bool.false_eq_true,if_false,af HCS]
    have HAL:Hid ((#[.int .i64 0,.slice none 0 0,.int .u64 cs.lo,.int .u64 cs.hi,.bool cs.hg,.int .i64 0,.int .i64 0,.int .i64 0,.bool false]:Array Value).all (·.oneCell')=true):=by show Array.all _ _=true;simp[Value.oneCell']
    have HSZ:Hid ((Tryz.prog.info? 101).map (·.size)=some (#[.int .i64 0,.slice none 0 0,.int .u64 cs.lo,.int .u64 cs.hi,.bool cs.hg,.int .i64 0,.int .i64 0,.int .i64 0,.bool false]:Array Value).size):=bz
    go_wp2_with (refine wpList_store_row rfl 101 _ _ rfl w.heap.size #[.int .i64 0,.slice none 0 0,.int .u64 cs.lo,.int .u64 cs.hi,.bool cs.hg,.int .i64 0,.int .i64 0,.int .i64 0,.bool false] rfl rfl 101 _ (B05.O.alloc _) HSZ.O rfl HAL.O ?_)
    refine bodyPost_ret (aq rfl rfl (cB (S:=[.int .i64 0,.slice none 0 0,.int .u64 cs.lo,.int .u64 cs.hi,.bool cs.hg,.int .i64 0,.int .i64 0,.int .i64 0,.bool false]) (setRow_heap _ _ _ _ _ _ (B05.O.alloc _)) rfl)) rfl (ay.mkOk (R:=fun _ v c=>v=gE c) HM.O rfl ?_ ?_)
    ·exact (G5.O.alloc _).row hlt hmlt helt (Nat.le_refl _) _
    ·exact Ex.row ((((Ex.refl _ _).alloc _).trans X5.O).alloc _) (Nat.le_refl _) _
   |true=>
    obtain⟨co,hco⟩:∃co,bI cs=co:=⟨_,rfl⟩
    have KO:=aa (fun w=>eX cs w)
    rw[hco]at KO
    have HM:Hid (fj t s= .ok co s'.up):=by
     show fj t s=_
     simp only[fj,af M1,Res.bind_ok,af M3,af MR,af HI,if_true,af HCS,hco]
    clear hco
    go_wp2_with fail
    refine (KO.O _).mono ?_
    rintro e w6 ⟨rfl,hx6⟩
    have hbP:=(BK.new w5 (Obj.cells #[.int .i64 0,.slice none 0 0,.int .u64 cs.lo,.int .u64 cs.hi,.bool cs.hg,.int .i64 0,.int .i64 0,.int .i64 0,.bool false] 101)).ex hx6 (by simp)
    have hb06:=(B05.O.alloc (Obj.cells #[.int .i64 0,.slice none 0 0,.int .u64 cs.lo,.int .u64 cs.hi,.bool cs.hg,.int .i64 0,.int .i64 0,.int .i64 0,.bool false] 101)).ex hx6 (by simp)
    have X6:=aa ((X5.O.alloc (Obj.cells #[.int .i64 0,.slice none 0 0,.int .u64 cs.lo,.int .u64 cs.hi,.bool cs.hg,.int .i64 0,.int .i64 0,.int .i64 0,.bool false] 101)).trans (hx6.drop (by simp)))
    have G6:=aa ((G5.O.alloc (Obj.cells #[.int .i64 0,.slice none 0 0,.int .u64 cs.lo,.int .u64 cs.hi,.bool cs.hg,.int .i64 0,.int .i64 0,.int .i64 0,.bool false] 101)).ex0 hx6)
    have B06:=aa hb06
    have BPP:=aa hbP
    obtain⟨hcp,hfp⟩:=hbP.all
    have hlp:=hbP.lt
    have hl5:w.heap.size<w5.heap.size:=by omega
    clear hbP hb06 hx6
    have hne5:w.heap.size≠w5.heap.size:=by omega
    unfold ar
    have HAL:Hid ((#[.int .i64 0,.slice none 0 0,.int .u64 co.lo,.int .u64 co.hi,.bool co.hg,.int .i64 0,.int .i64 0,.int .i64 0,.bool false]:Array Value).all (·.oneCell')=true):=by show Array.all _ _=true;simp[Value.oneCell']
    have HSZ:Hid ((Tryz.prog.info? 101).map (·.size)=some (#[.int .i64 0,.slice none 0 0,.int .u64 co.lo,.int .u64 co.hi,.bool co.hg,.int .i64 0,.int .i64 0,.int .i64 0,.bool false]:Array Value).size):=bz
    go_wp2_with (refine wpList_store_row rfl 101 _ _ rfl w.heap.size #[.int .i64 0,.slice none 0 0,.int .u64 co.lo,.int .u64 co.hi,.bool co.hg,.int .i64 0,.int .i64 0,.int .i64 0,.bool false] rfl rfl 101 _ (((B06.O.set (p:=⟨w5.heap.size,2,none⟩) hne5 _).set (p:=⟨w5.heap.size,3,none⟩) hne5 _).set (p:=⟨w5.heap.size,4,none⟩) hne5 _) HSZ.O rfl HAL.O ?_)
    refine bodyPost_ret (aq rfl rfl (cB (S:=[.int .i64 0,.slice none 0 0,.int .u64 co.lo,.int .u64 co.hi,.bool co.hg,.int .i64 0,.int .i64 0,.int .i64 0,.bool false]) (setRow_heap _ _ _ _ _ _ (((B06.O.set (p:=⟨w5.heap.size,2,none⟩) hne5 _).set (p:=⟨w5.heap.size,3,none⟩) hne5 _).set (p:=⟨w5.heap.size,4,none⟩) hne5 _)) rfl)) rfl (ay.mkOk (R:=fun _ v c=>v=gE c) HM.O rfl ?_ ?_)
    ·refine RG.row ?_ hlt hmlt helt (Nat.le_refl _) _
     iterate 3 (refine RG.setN (B:=w.heap.size) ?_ hlt hmlt helt (by simp;omega) _)
     exact G6.O
    ·refine Ex.row ?_ (Nat.le_refl _) _
     iterate 3 (refine Ex.setCell ?_ (Or.inr (by simp;omega)) _)
     exact ((Ex.refl _ _).alloc _).trans X6.O
  |false=>
   rw[cU hq]at hg4
   have G4:=aa hg4
   have HQ:=aa hq
   have B14:=aa hb14
   have B04:=aa hb04
   obtain⟨hc1,hf1⟩:=hb14.all
   have hl14:=hb14.lt
   have hl04:=hb04.lt
   clear hq hg4 hb14 hb04
   go_wp2_with fail
   refine aQ (by kernel_rfl) ?_
   refine tk (i:=1) (v:= ?_) rfl ?_ ?_
   rotate_left
   ·intro w'
    go_simp
    try with_reducible rfl
   simp only[Act.put,List.replicate,Array.replicate,lx]
   refine aV (S:=(fun j w'=>j<4 ->∀o,w'.cell? ⟨ib,o,none⟩= #[Value.int .u64 c.lo,.int .u64 c.hi,.bool c.hg][o]?)) _ _ _ _ ?_
   refine cG (i:=0) (T:=(fun w'=>∀o,w'.cell? ⟨ib,o,none⟩= #[Value.int .u64 c.lo,.int .u64 c.hi,.bool c.hg][o]?)) (v:= ?_) (fun j=>decide (j<4)) rfl (by kernel_rfl) (by kernel_rfl) (by kernel_rfl) (by kernel_rfl) (fun j w' hj h=>h (by simpa using hj)) (fun w' h _=>h) (fun _ _ _ h=>h) hc1 (Or.inl ⟨by rfl,?_⟩) ?_
   rotate_left
   ·intro w' hSw
    obtain hSw:=hSw
    go_simp
    try with_reducible rfl
   simp only[Act.put,List.replicate,Array.replicate,lx]
   refine ae (i:=2) rfl rfl (by kernel_rfl) (fun K hK=> ?_)
   go_simp
   refine (zf G4.O.drew).mono ?_
   rintro e w5 hp
   rcases hp.split with⟨c5,s5,v,hm,rfl,rfl,hg5,hx5⟩|⟨s9,hm,rfl,hg,hx⟩
   rotate_left
   ·have MR:bW t (t.size+1) c3 s3= .bad s9:=by
     rw[HR.O,<-HRC.O];unfold bW;rw[if_neg (by simp[HQ.O]),hm];rfl
    exact ab rfl (ay.mkBad (by simp only[fj,af M1,Res.bind_ok,af M3,MR,Res.bind_bad]) hg ((((Ex.refl _ _).alloc _).trans X4.O.drew).trans hx))
   have hpr:=(lZ hm).1
   have hkt:=hg5.hk
   obtain⟨g,rfl⟩:∃g,gk=g+1:=⟨gk-1,by omega⟩
   have HRN:Hid (bW t (g+1) (bQ c c5) s5=R):=by
    show bW t (g+1) (bQ c c5) s5=R
    rw[<-HRC.O]
    conv=>rhs;unfold bW
    rw[if_neg (by simp[HQ.O]),hm];rfl
   have hfu5:t.size-s5.k<=g:=by omega
   obtain⟨W1,hW1⟩:∃W1,bQ c c5=W1:=⟨_,rfl⟩
   have KW:=aa (fun w=>fe c c5 w)
   rw[hW1]at KW HRN
   have G5:=aa hg5
   have hy5:Ex [r] w4 w5:=((Ex.refl [r] w4).drew).trans hx5
   obtain⟨q5,hf5⟩:=(B14.O.ex hy5 (by simp;omega)).all
   clear hp hm hg5 hx5 hW1 hpr hkt
   unfold ar
   go_wp2_with fail
   refine hK.O _ _ (fun _=>q5) ?_
   clear hK K
   simp only[Act.put,lx]
   refine ae (i:=3) rfl rfl (by kernel_rfl) (fun K hK=> ?_)
   go_simp
   refine (KW.O _).mono ?_
   rintro e w6 ⟨rfl,hx6⟩
   have hy6:Ex [r] w4 w6:=hy5.trans (hx6.drop (by simp))
   obtain⟨q6,hf6⟩:=(B14.O.ex hy6 (by simp;omega)).all
   have G6:=aa (G5.O.ex0 hx6)
   unfold ar
   go_wp2_with fail
   refine hK.O _ _ (fun _=>q6) ?_
   clear hK K
   simp only[Act.put,lx]
   refine ae (i:=4) rfl rfl (by kernel_rfl) (fun K hK=> ?_)
   go_simp
   refine hK.O _ _ (fun hj=>by omega) ?_
   clear hK K
   refine aP (by kernel_rfl) ?_ _
   have B16:=aa (B14.O.ex hy6 (by simp;omega))
   have B06:=aa (B04.O.ex hy6 (by simp;omega))
   have X6:=aa (X4.O.trans hy6)
   clear hx6 hy5 hy6 q5 q6 hf5 hf6
   go_wp2_with fail
   go_roundg g
   case measure=>omega
   case rel=>
    refine⟨W1,s5,HRN.O,hfu5,?_,?_,?_,?_⟩
    ·iterate 3 (refine RG.setN (B:=w.heap.size) ?_ hlt hmlt helt (by simp;omega) _)
     exact G6.O
    ·iterate 3 (refine BK.set ?_ (by simp;omega) _)
     exact B06.O
    ·exact wh B16.O rfl _ _ _
    ·iterate 3 (refine Ex.setCell ?_ (Or.inr (by simp;omega)) _)
     exact X6.O
theorem fS:Maps.Keyed Tryz.prog 9:=Maps.string_keyed Tryz.underlying9
theorem jV (s:ByteArray) (h:s.size<=60):∃l,keyOf Tryz.prog 9 (.string s)=some l:=by
 have:s.size<=maxLen:=by unfold maxLen;omega
 exact⟨.string s.data.toList,by simp[keyOf,mapKey,Tryz.underlying9,this]⟩
theorem mc (l:List (ByteArray×Nat)):(nmE l).toList.map (·.key)=l.map fun x=> .string x.1:=by
 unfold nmE
 rw[List.toList_toArray,List.map_map]
 show List.map (fun x:(ByteArray×Nat)×Nat=>Value.string x.1.1) l.zipIdx=_
 have h:l.map (fun x=>Value.string x.1)=(l.zipIdx.map Prod.fst).map fun x=>Value.string x.1:=by rw[List.zipIdx_map_fst]
 rw[h,List.map_map];rfl
theorem jZ {l:List (ByteArray×Nat)} (h:∀x∈l,x.1.size<=60):∀e∈(nmE l).toList,∃k,keyOf Tryz.prog 9 e.key=some k:=fun e he=>by
 have h1:e.key∈l.map fun x=>Value.string x.1:=by rw[<-mc];exact List.mem_map_of_mem he
 obtain⟨x,hx,hk⟩:=List.mem_map.1 h1
 rw[<-hk]
 exact jV x.1 (h x hx)
theorem jq (l:List (ByteArray×Nat)) (n:ByteArray):(∃e∈(nmE l).toList,e.key= .string n)↔aD l n=true:=by
 unfold aD
 rw[List.any_eq_true]
 constructor
 ·rintro⟨e,he,hk⟩
  have h1:e.key∈l.map fun x=>Value.string x.1:=by rw[<-mc];exact List.mem_map_of_mem he
  obtain⟨x,hx,hk'⟩:=List.mem_map.1 h1
  rw[hk]at hk'
  exact⟨x,hx,by injection hk' with h2;simp[h2]⟩
 ·rintro⟨x,hx,hd⟩
  have h1:Value.string x.1∈(nmE l).toList.map (·.key):=by rw[mc];exact List.mem_map_of_mem hx
  obtain⟨e,he,hk⟩:=List.mem_map.1 h1
  exact⟨e,he,by rw[hk,of_decide_eq_true hd]⟩
theorem uu (w:World):(zeroValue 3).run Tryz.prog w= .ok (.int .i64 0) w:=by kernel_rfl
theorem yC {l:List (ByteArray×Nat)} {n:ByteArray} (hm:w.heap[mb]? =some (.map (nmE l) l.length)) (hk:∀x∈l,x.1.size<=60) (hn:n.size<=60):
  ∃v:Int,(Instr.lookup 54 (.map (some mb)) (.string n) true).run Tryz.prog w= .ok (.tuple #[.int .i64 v,.bool (aD l n)]) w:=by
 obtain⟨kl,hl⟩:=jV n hn
 have hg:=MapKept.run_getObj_map (P:=Tryz.prog) hm
 have hc:=fS.check w (nmE l).isEmpty hl
 rcases fS.find w hl (nmE l).toList (jZ hk)with⟨hf,hno⟩|⟨j,e,hf,hj,he⟩
 ·have ht:aD l n=false:=by
   rw[Bool.eq_false_iff]
   intro h
   obtain⟨e,he,hke⟩:=(jq l n).2 h
   exact hno e he hke
  refine⟨0,?_⟩
  rw[ht]
  unfold Instr.lookup
  simp[run_underlying Tryz.underlying54,hg,hc,hf,uu]
 ·have ht:aD l n=true:=(jq l n).1 ⟨e,List.mem_of_getElem? hj,he⟩
  have hv:∃v:Int,e.val= .int .i64 v:=by
   have h1:=List.mem_of_getElem? hj
   simp only[nmE,List.toList_toArray,List.mem_map]at h1
   obtain⟨x,_,rfl⟩:=h1
   exact⟨_,rfl⟩
  obtain⟨v,hv⟩:=hv
  refine⟨v,?_⟩
  rw[ht]
  unfold Instr.lookup
  simp[hv,run_underlying Tryz.underlying54,hg,hc,hf]
theorem xb (l:List (ByteArray×Nat)) (n:ByteArray) (k:Nat):(nmE l).push {key:= .string n,val:= .int .i64 k,born:=l.length}=nmE (l++[(n,k)]):=by
 unfold nmE
 rw[List.zipIdx_append]
 simp
theorem zK {l:List (ByteArray×Nat)} {n:ByteArray} (k:Nat) (hm:w.heap[mb]? =some (.map (nmE l) l.length)) (hk:∀x∈l,x.1.size<=60) (hn:n.size<=60) (hno:aD l n=false):
  (Instr.mapUpdate 54 (.map (some mb)) (.string n) (.int .i64 k)).run Tryz.prog w= .ok () (my w mb (.map (nmE (l++[(n,k)])) (l++[(n,k)]).length)):=by
 obtain⟨kl,hl⟩:=jV n hn
 have hg:=MapKept.run_getObj_map (P:=Tryz.prog) hm
 have hc:=fS.check w false hl
 have hf:(Instr.findKey 9 (.string n) (nmE l).toList).run Tryz.prog w= .ok none w:=by
  rcases fS.find w hl (nmE l).toList (jZ hk)with⟨h,_⟩|⟨j,e,_,hj,he⟩
  ·exact h
  ·have:=(jq l n).1 ⟨e,List.mem_of_getElem? hj,he⟩
   rw[hno]at this;cases this
 unfold Instr.mapUpdate
 have hlen:(l++[(n,k)]).length=l.length+1:=by simp
 rw[<-xb,hlen]
 simp[run_underlying Tryz.underlying54,hg,hc,hf,MapKept.run_setObj_map _ hm,my]
theorem RG.c5 {s:RS} (h:RG w r mb t x s):w.cell? ⟨r,5,none⟩=some (.map (some mb)):=by
 rw[cell_of_row w r 5 _ 105 (0,0) h.rd];rfl
theorem RG.c0 {s:RS} (h:RG w r mb t x s):w.cell? ⟨r,0,none⟩=some (.string t):=by
 rw[cell_of_row w r 0 _ 105 (0,0) h.rd];rfl
theorem RG.c1 {s:RS} (h:RG w r mb t x s):w.cell? ⟨r,1,none⟩=some (.int .i64 s.k):=by
 rw[cell_of_row w r 1 _ 105 (0,0) h.rd];rfl
theorem RG.cf {s:RS} (h:RG w r mb t x s) (o:Nat):w.frozen? ⟨r,o,none⟩=false:=by
 have:=h.rd;unfold RD at this;simp[World.frozen?,this]
theorem pf {s:RS} (h:RG w r mb t x s) (n:ByteArray) (hn:n.size<=60):
  Calls Tryz.prog 291 #[.pointer (some ⟨r,0,none⟩),.string n] w fun e w'=>e= .returned (.bool (aD s.nm n))/\w'=w:=by
 have hlt:=h.lt
 have h5:=h.c5
 obtain⟨v,hlook⟩:=yC h.mp h.nk hn
 clear h
 go_enter Tryz.func291,Tryz.ntmps291
 go_wp2_with fail
 go_ret
 exact⟨rfl,rfl⟩
end Go.Proofs.YtfnanjbleifjkaaGreatDoor.G
