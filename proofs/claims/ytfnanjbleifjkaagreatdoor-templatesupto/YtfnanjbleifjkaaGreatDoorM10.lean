import Derived.Test.YtfnanjbleifjkaaGreatDoorM09
set_option linter.unusedVariables false
set_option linter.unusedSimpArgs false
set_option maxHeartbeats 4000000
set_option maxRecDepth 100000
namespace Go.Proofs.YtfnanjbleifjkaaGreatDoor.G
variable {w w':World} {mb r:Nat} {t:ByteArray} {x:EV} {s:RS}
open Go.RowKit
structure PV where
 kd:Int
 p:Option Addr
 n:Nat
 c:Nat
 lo:Int
 hi:Int
 hg:Bool
 g:Int
 l:Int
 m:Int
 z:Bool
def PV.cells (v:PV):List Value:=[.int .i64 v.kd,.slice v.p v.n v.c,.int .u64 v.lo,.int .u64 v.hi,.bool v.hg,.int .i64 v.g,.int .i64 v.l,.int .i64 v.m,.bool v.z]
def PV.val (v:PV):Value:= .agg #[.int .i64 v.kd,.slice v.p v.n v.c,.int .u64 v.lo,.int .u64 v.hi,.bool v.hg,.int .i64 v.g,.int .i64 v.l,.int .i64 v.m,.bool v.z]
mutual
def PR (w:World) (B:Nat ->Prop):Pt ->PV ->Prop
 |.single c,v=>v=⟨0,none,0,0,c.lo,c.hi,c.hg,0,0,0,false⟩
 |.seq l,v=>∃p n c,v=⟨1,p,n,c,0,0,false,0,0,0,false⟩/\n=l.length/\((p=none/\n=0/\c=0)\/∃g,p=some ⟨g,0,none⟩/\n<=c/\B g/\g<w.heap.size/\PRL w B g l 0)
 |.alt l,v=>∃p n c,v=⟨2,p,n,c,0,0,false,0,0,0,false⟩/\n=l.length/\((p=none/\n=0/\c=0)\/∃g,p=some ⟨g,0,none⟩/\n<=c/\B g/\g<w.heap.size/\PRL w B g l 0)
 |.wrap q k,v=>∃g,v=⟨3,some ⟨g,0,none⟩,1,1,0,0,false,(k:Int),0,0,false⟩/\B g/\g<w.heap.size/\∃u,w.rangeAt g 0 u.cells/\PR w B q u
 |.count q le mo la,v=>∃g,v=⟨4,some ⟨g,0,none⟩,1,1,0,0,false,0,(le:Int),mo,la⟩/\B g/\g<w.heap.size/\∃u,w.rangeAt g 0 u.cells/\PR w B q u
def PRL (w:World) (B:Nat ->Prop) (g:Nat):List Pt ->Nat ->Prop
 |[],_=>True
 |q::l,i=>(∃u,w.rangeAt g (i*9) u.cells/\PR w B q u)/\PRL w B g l (i+1)
end
theorem bu {g o:Nat} {cs:List Value} (h:w.rangeAt g o cs) (hb:w'.heap[g]? =w.heap[g]?):w'.rangeAt g o cs:=fun j v hv=>(World.cell?_of_block hb).trans (h j v hv)
mutual
theorem PR.frame {B B':Nat ->Prop} (hB:∀b,B b ->B' b) (hs:w.heap.size<=w'.heap.size) (hb:∀b,B b ->b<w.heap.size ->w'.heap[b]? =w.heap[b]?):∀(q:Pt) (v:PV),PR w B q v ->PR w' B' q v
 |.single c,v,h=>h
 |.seq l,v,h=>by
  obtain⟨p,n,c,rfl,hn,hr⟩:=h
  refine⟨p,n,c,rfl,hn,?_⟩
  rcases hr with hr|⟨g,hp,hc,hg,hl,hr⟩
  ·exact .inl hr
  ·exact .inr ⟨g,hp,hc,hB _ hg,by omega,PRL.frame hB hs hb g hg hl l 0 hr⟩
 |.alt l,v,h=>by
  obtain⟨p,n,c,rfl,hn,hr⟩:=h
  refine⟨p,n,c,rfl,hn,?_⟩
  rcases hr with hr|⟨g,hp,hc,hg,hl,hr⟩
  ·exact .inl hr
  ·exact .inr ⟨g,hp,hc,hB _ hg,by omega,PRL.frame hB hs hb g hg hl l 0 hr⟩
 |.wrap q k,v,h=>by
  obtain⟨g,rfl,hg,hl,u,hr,hq⟩:=h
  exact⟨g,rfl,hB _ hg,by omega,u,bu hr (hb g hg hl),PR.frame hB hs hb q u hq⟩
 |.count q le mo la,v,h=>by
  obtain⟨g,rfl,hg,hl,u,hr,hq⟩:=h
  exact⟨g,rfl,hB _ hg,by omega,u,bu hr (hb g hg hl),PR.frame hB hs hb q u hq⟩
theorem PRL.frame {B B':Nat ->Prop} (hB:∀b,B b ->B' b) (hs:w.heap.size<=w'.heap.size) (hb:∀b,B b ->b<w.heap.size ->w'.heap[b]? =w.heap[b]?) (g:Nat) (hg:B g) (hl:g<w.heap.size):∀(l:List Pt) (i:Nat),PRL w B g l i ->PRL w' B' g l i
 |[],_,_=>trivial
 |q::l,i,h=>by
  obtain⟨⟨u,hr,hq⟩,ht⟩:=h
  exact⟨⟨u,bu hr (hb g hg hl),PR.frame hB hs hb q u hq⟩,PRL.frame hB hs hb g hg hl l (i+1) ht⟩
end
def Btw (lo hi b:Nat):Prop:=lo<=b/\b<hi
theorem PR.ex {l:List Nat} {lo hi lo' hi':Nat} {q:Pt} {v:PV} (h:PR w (Btw lo hi) q v) (hx:Ex l w w') (hl:∀b,b∈l ->b<lo) (h1:lo'<=lo) (h2:hi<=hi'):PR w' (Btw lo' hi') q v:=
 h.frame (fun b hb=>⟨by have:=hb.1;omega,by have:=hb.2;omega⟩) hx.size (fun b hb hlt=>hx.block b hlt (fun hm=>by have:=hl b hm;have:=hb.1;omega)) q v
def RP (lo:Nat) (w':World) (v:Value) (q:Pt):Prop:=∃u:PV,v=u.val/\PR w' (Btw lo w'.heap.size) q u
theorem nR (h:RG w r mb t x s) (d:Nat) (di:Int) (hdi:di=(d:Int)):RG (w.setCell ⟨r,2,none⟩ (.int .i64 di)) r mb t x {s with d:=d}:=by
 subst hdi
 exact h.own (s':={s with d:=d}) rfl _ rfl h.hk (by
  have h1:=h.rd
  unfold RD at h1 ⊢
  simp[World.setCell,Array.getElem?_modify,h1])
theorem RG.c2 (h:RG w r mb t x s):w.cell? ⟨r,2,none⟩=some (.int .i64 s.d):=by
 rw[cell_of_row w r 2 _ 105 (0,0) h.rd];rfl
theorem bF {s':RS} {b:UInt8} {u:Unit} (h:aw t s b= .ok u s'):ac t s b=true/\s'=s.up:=by
 unfold aw at h
 split at h
 ·rename_i h9;cases h;exact⟨h9,rfl⟩
 ·cases h
theorem Ar (w:World) (p:Addr) (u:Value) (o:Obj):BK ((w.setCell p u).alloc o) w.heap.size o:=by
 have h:=BK.new (w.setCell p u) o
 rw[show (w.setCell p u).heap.size=w.heap.size by simp[World.setCell]]at h
 exact h
def EC (t:ByteArray) (r mb:Nat) (x:EV) (d:Nat) (E:RS ->Res Pt):Prop:=∀(w:World) (s:RS),RG w r mb t x s ->s.g<=5 ->s.d=d ->
 Calls Tryz.prog 85 #[.pointer (some ⟨r,0,none⟩)] w fun e w'=>ay [r,mb] r mb t x w (RP w.heap.size) (E s) e w'
theorem kE {s':RS} {n:Nat} (h:al t s= .ok n s') (hg:s.g<=5):s.k<=s'.k/\s'.d=s.d/\s'.f=s.f/\s'.g<=5/\n<=5:=by
 unfold al at h
 split at h
 ·rename_i h1
  cases h
  exact⟨Nat.le_refl _,rfl,rfl,by simp;omega,by omega⟩
 ·obtain⟨_,s1,h1,h2⟩:=Res.bind_eq_ok h
  obtain⟨_,rfl⟩:=bF h1
  split at h2
  ·cases h2;exact⟨by show s.k<=s.k+1+1;omega,rfl,rfl,hg,by omega⟩
  ·split at h2
   ·cases h2
   ·rename_i h5
    obtain⟨_,s2,h3,h4⟩:=Res.bind_eq_ok h2
    obtain⟨_,rfl⟩:=bF h3
    obtain⟨_,s3,h5',h6⟩:=Res.bind_eq_ok h4
    obtain⟨_,rfl⟩:=bF h5'
    obtain⟨nm,s4,h7,h8⟩:=Res.bind_eq_ok h6
    obtain⟨_,s5,h9,h10⟩:=Res.bind_eq_ok h8
    obtain⟨_,rfl⟩:=bF h9
    have hgn:s.up.up.up.k<=s4.k/\s4.d=s.d/\s4.f=s.f/\s4.g=s.g:=by
     unfold ao at h7
     obtain⟨_,s6,ha,hb⟩:=Res.bind_eq_ok h7
     have hl:∀(n:Nat) (a b:RS),aZ t s.up.up.up.k n a= .ok () b ->a.k<=b.k/\a.like b:=by
      intro n
      induction n with
      |zero=>intro a b hh;cases hh;exact⟨Nat.le_refl _,RS.like_refl _⟩
      |succ n ih=>
       intro a b hh
       unfold aZ at hh
       cases hby:ai t a.k with
       |none=>rw[hby]at hh;cases hh
       |some y=>
        rw[hby]at hh
        simp only at hh
        split at hh
        ·split at hh
         ·cases hh
         ·obtain⟨h1,h2⟩:=ih _ _ hh
          exact⟨by have:a.k+1<=b.k:=h1;omega,(RS.like_up a).trans h2⟩
        ·cases hh;exact⟨Nat.le_refl _,RS.like_refl _⟩
     obtain⟨h1,h2⟩:=hl 8 _ _ ha
     split at hb
     ·cases hb
     ·cases hb
      exact⟨h1,h2.1,h2.2.1,h2.2.2.1⟩
    cases h10
    have hk:s.k+1+1+1<=s4.k:=hgn.1
    have h5'':¬s.g=5:=h5
    refine⟨by show s.k<=s4.k+1;omega,hgn.2.1,hgn.2.2.1,?_,?_⟩
    ·show s4.g+1<=5;rw[hgn.2.2.2];omega
    ·show s4.g+1<=5;rw[hgn.2.2.2];omega
theorem zC {E:RS ->Res Pt} (h:RG w r mb t x s) (hnp:NP t) (hg5:s.g<=5) (hd6:s.d<=6) (hE:s.d<6 ->EC t r mb x (s.d+1) E) (hEi:∀a q b,E a= .ok q b ->a.g<=5 ->b.d=a.d):
  Calls Tryz.prog 237 #[.pointer (some ⟨r,0,none⟩)] w fun e w'=>ay [r,mb] r mb t x w (RP w.heap.size) (aK t E s) e w':=by
 have hlt:=h.lt
 have hmlt:=h.mlt
 have helt:=h.elt
 have ht:=h.ht
 have hne:w.heap.size≠r:=by omega
 have hrm:=h.rm
 have h2:=h.c2
 have hev:=h.ev
 have H:=aa h
 have HNP:=aa hnp
 have HE:=aa hE
 have HEI:=aa hEi
 clear h hnp hE hEi
 by_cases h6:s.d=6
 ·have e6:((s.d:Int)==6)=true:=by simp;omega
  have HM:Hid (aK t E s= .bad s):=by show aK t E s=_;unfold aK;rw[if_pos h6]
  go_enter Tryz.func237,Tryz.ntmps237
  go_wp2_with fail
  exact ab rfl (ay.mkBad HM.O (H.O.alloc _) ((Ex.refl _ _).alloc _))
 have e6:((s.d:Int)==6)=false:=by rw[beq_eq_false_iff_ne];omega
 go_enter Tryz.func237,Tryz.ntmps237
 go_wp2_with fail
 refine (gL (H.O.alloc _) 40 40 rfl).mono ?_
 rintro e w1 hp
 rcases hp.split with⟨_,s1,v,hm,rfl,rfl,hg1,hx1⟩|⟨s',hm,rfl,hg,hx⟩
 rotate_left
 ·exact ab rfl (ay.mkBad (by unfold aK;rw[if_neg h6,hm];rfl) hg (((Ex.refl _ _).alloc _).trans (hx.drop (by simp))))
 have hs1:s1=s.up:=(bF hm).2
 subst hs1
 have M1:=aa hm
 have h12:w1.cell? ⟨r,2,none⟩=some (.int .i64 s.d):=hg1.c2
 have hf12:=hg1.fz 2
 have hl1:=hg1.lt
 have hdd:((s.d:Int)+1)=((s.d+1:Nat):Int):=by omega
 have G1:=aa (nR hg1 (s.d+1) ((s.d:Int)+1) hdd)
 have X1:Hid (Ex [r,mb] (w.alloc (Obj.cells #[.int .i64 0,.slice none 0 0,.int .u64 0,.int .u64 0,.bool false,.int .i64 0,.int .i64 0,.int .i64 0,.bool false] 101)) (w1.setCell ⟨r,2,none⟩ (.int .i64 ((s.d:Int)+1)))):=(hx1.drop (by simp)).setCell (Or.inl (by simp)) _
 clear hp hm hg1 hx1 h2 hev hdd
 go_wp2_with fail
 refine (wo (s:={s.up with d:=s.d+1}) (by exact G1.O) HNP.O hg5).mono ?_
 rintro e w2 hp
 rcases hp.split with⟨gn,s2,v,hm,rfl,rfl,hg2,hx2⟩|⟨s',hm,rfl,hg,hx⟩
 rotate_left
 ·exact ab rfl (ay.mkBad (by unfold aK;rw[if_neg h6,M1.O,Res.bind_ok];show (al t {s.up with d:=s.d+1}).bind _=_;rw[hm];rfl) hg (((Ex.refl _ _).alloc _).trans (X1.O.trans hx)))
 have hok:=kE hm hg5
 have hgn5:=hok.2.2.2.2
 have M2:Hid (aK t E s=(E s2).bind fun p s3=>(aw t s3 41).bind fun _ s4=> .ok (.wrap p gn) {s4 with d:=s4.d-1}):=by
  show aK t E s=_
  unfold aK;rw[if_neg h6,M1.O,Res.bind_ok]
  show (al t {s.up with d:=s.d+1}).bind _=_
  rw[hm];rfl
 have hs2d:s2.d=s.d+1:=hok.2.1
 have hs2g:s2.g<=5:=hok.2.2.2.1
 have HS2D:=aa hs2d
 have G2:=aa hg2
 have X2:=aa (X1.O.trans hx2)
 have hsz2:w.heap.size<w2.heap.size:=by have:=X2.O.size;simp at this;omega
 clear hp hm hg2 hx2 hok hs2d M1 G1 X1 h12 hf12
 go_wp2_with fail
 refine ((HE.O (by omega)) w2 s2 G2.O hs2g HS2D.O).mono ?_
 rintro e w3 hp
 rcases hp.split with⟨q,s3,v,hm,rfl,hRP,hg3,hx3⟩|⟨s',hm,rfl,hg,hx⟩
 rotate_left
 ·exact ab rfl (ay.mkBad (by rw[M2.O,hm];rfl) hg (((Ex.refl _ _).alloc _).trans (X2.O.trans hx)))
 obtain⟨u,rfl,hpr⟩:=hRP
 have hs3d:s3.d=s.d+1:=(HEI.O _ _ _ hm hs2g).trans HS2D.O
 have M3:Hid (aK t E s=(aw t s3 41).bind fun _ s4=> .ok (.wrap q gn) {s4 with d:=s4.d-1}):=by show aK t E s=_;rw[M2.O,hm];rfl
 have HS3D:=aa hs3d
 have G3:=aa hg3
 have X3:=aa (X2.O.trans hx3)
 have hle3:w2.heap.size<=w3.heap.size:=hx3.size
 obtain⟨kd,up,un,uc,ulo,uhi,uhg,ug,ul,um,uz⟩:=u
 obtain⟨S,hS⟩:∃S:List Value,S=[.int .i64 kd,.slice up un uc,.int .u64 ulo,.int .u64 uhi,.bool uhg,.int .i64 ug,.int .i64 ul,.int .i64 um,.bool uz]:=⟨_,rfl⟩
 have HS:=aa hS
 have HPR:=aa hpr
 clear hp hm hg3 hx3 hpr M2 G2 X2 hs3d hS
 unfold PV.val
 go_wp2_with fail
 refine (gL (G3.O.alloc _) 41 41 rfl).mono ?_
 rintro e w4 hp
 rcases hp.split with⟨_,s4,v,hm,rfl,rfl,hg4,hx4⟩|⟨s',hm,rfl,hg,hx⟩
 rotate_left
 ·exact ab rfl (ay.mkBad (by rw[M3.O,hm];rfl) hg (((Ex.refl _ _).alloc _).trans ((X3.O.alloc _).trans (hx.drop (by simp)))))
 have hs4:s4=s3.up:=(bF hm).2
 subst hs4
 have HM:Hid (aK t E s= .ok (.wrap q gn) {s3.up with d:=s.d}):=by
  show aK t E s=_
  rw[M3.O,hm]
  show Res.ok (Pt.wrap q gn) {s3.up with d:=s3.up.d-1}=_
  rw[show s3.up.d-1=s.d by show s3.d-1=s.d;rw[HS3D.O];omega]
 have B4:=aa ((BK.new w3 (Obj.cells #[.int .i64 kd,.slice up un uc,.int .u64 ulo,.int .u64 uhi,.bool uhg,.int .i64 ug,.int .i64 ul,.int .i64 um,.bool uz] 101)).ex hx4 (by simp;omega))
 have X4:=aa ((X3.O.alloc (Obj.cells #[.int .i64 kd,.slice up un uc,.int .u64 ulo,.int .u64 uhi,.bool uhg,.int .i64 ug,.int .i64 ul,.int .i64 um,.bool uz] 101)).trans (hx4.drop (by simp)))
 have BR:=aa ((BK.new w (Obj.cells #[.int .i64 0,.slice none 0 0,.int .u64 0,.int .u64 0,.bool false,.int .i64 0,.int .i64 0,.int .i64 0,.bool false] 101)).ex X4.O (by simp;omega))
 have hle4:w3.heap.size+1<=w4.heap.size:=by have:=hx4.size;simpa using this
 have hc42:=hg4.c2
 rw[show s3.up.d=s.d+1 from HS3D.O]at hc42
 have hf42:=hg4.fz 2
 have hl4:=hg4.lt
 have G4:=aa hg4
 have hr3:r≠w3.heap.size:=by omega
 have hdd:(((s.d+1:Nat):Int)-1)=(s.d:Int):=by omega
 have hPR4:=PR.ex (lo':=w2.heap.size) (hi':=w4.heap.size) (PR.ex (lo':=w2.heap.size) (hi':=w3.heap.size) HPR.O ((Ex.refl [] w3).alloc (Obj.cells #[.int .i64 kd,.slice up un uc,.int .u64 ulo,.int .u64 uhi,.bool uhg,.int .i64 ug,.int .i64 ul,.int .i64 um,.bool uz] 101)) (by simp) (Nat.le_refl _) (Nat.le_refl _)) hx4 (by simp;omega) (Nat.le_refl _) (by omega)
 have HPR4:=aa hPR4
 clear hp hm hg4 hx4 M3 G3 X3 hPR4 HPR
 have HAL:Hid ((#[.int .i64 3,.slice (some ⟨w4.heap.size,0,none⟩) 1 1,.int .u64 0,.int .u64 0,.bool false,.int .i64 (gn:Int),.int .i64 0,.int .i64 0,.bool false]:Array Value).all (·.oneCell')=true):=by show Array.all _ _=true;simp[Value.oneCell']
 have HSZ:Hid ((Tryz.prog.info? 101).map (·.size)=some (#[.int .i64 3,.slice (some ⟨w4.heap.size,0,none⟩) 1 1,.int .u64 0,.int .u64 0,.bool false,.int .i64 (gn:Int),.int .i64 0,.int .i64 0,.bool false]:Array Value).size):=bz
 have RNG:Hid ((w4.setCell ⟨r,2,none⟩ (.int .i64 (s.d:Int))).rangeAt w3.heap.size 0 [.int .i64 kd,.slice up un uc,.int .u64 ulo,.int .u64 uhi,.bool uhg,.int .i64 ug,.int .i64 ul,.int .i64 um,.bool uz]):=(B4.O.set (p:=⟨r,2,none⟩) (Ne.symm hr3) _).rangeL
 go_wp2_with (first
  |(refine wpList_load_mid rfl 101 _ rfl w3.heap.size 0 rfl [.int .i64 kd,.slice up un uc,.int .u64 ulo,.int .u64 uhi,.bool uhg,.int .i64 ug,.int .i64 ul,.int .i64 um,.bool uz] _ RNG.O Tryz.underlying101 rfl bz ?_)
  |(refine wpList_store_row rfl 101 _ _ rfl w.heap.size #[.int .i64 3,.slice (some ⟨w4.heap.size,0,none⟩) 1 1,.int .u64 0,.int .u64 0,.bool false,.int .i64 (gn:Int),.int .i64 0,.int .i64 0,.bool false] rfl rfl 101 _ (BK.alloc (BK.set BR.O hne _) _) HSZ.O rfl HAL.O ?_))
 refine bodyPost_ret (aq rfl rfl (cB (S:=[.int .i64 3,.slice (some ⟨w4.heap.size,0,none⟩) 1 1,.int .u64 0,.int .u64 0,.bool false,.int .i64 (gn:Int),.int .i64 0,.int .i64 0,.bool false]) (setRow_heap _ _ _ _ _ _ (BK.alloc (BK.set BR.O hne _) _)) rfl)) rfl (ay.mkOk HM.O ?_ ?_ ?_)
 ·generalize hW:World.setRow _ _ _=W
  have hWx:Ex [r,w.heap.size] w4 W:=by rw[<-hW];exact (((Ex.refl _ _).setCell (Or.inl (by simp)) _).alloc _).setRow (Or.inl (by simp)) _
  have hWs:W.heap.size=w4.heap.size+1:=by rw[<-hW];simp[World.setCell]
  have hWb:BK W w4.heap.size (.cells #[.int .i64 kd,.slice up un uc,.int .u64 ulo,.int .u64 uhi,.bool uhg,.int .i64 ug,.int .i64 ul,.int .i64 um,.bool uz] 101 (0,0)):=by
   rw[<-hW]
   unfold BK
   rw[setRow_other _ _ _ _ (by omega)]
   exact Ar w4 _ _ _
  refine⟨⟨3,some ⟨w4.heap.size,0,none⟩,1,1,0,0,false,(gn:Int),0,0,false⟩,rfl,w4.heap.size,rfl,⟨by omega,by omega⟩,by omega,⟨kd,up,un,uc,ulo,uhi,uhg,ug,ul,um,uz⟩,hWb.rangeL,?_⟩
  exact PR.ex HPR4.O hWx (by simp;omega) (by omega) (by omega)
 ·exact RG.row ((nR G4.O s.d (s.d:Int) rfl).alloc _) hlt hmlt helt (Nat.le_refl _) _
 ·exact Ex.row (((((Ex.refl _ _).alloc _).trans X4.O).setCell (Or.inl (by simp)) _).alloc _) (Nat.le_refl _) _
theorem Ex.two (h:Ex [r] w w'):Ex [r,mb] w w':=h.drop (by simp)
theorem Ag {E:RS ->Res Pt} (h:RG w r mb t x s) (hnp:NP t) (hg5:s.g<=5) (hd6:s.d<=6) (hE:s.d<6 ->EC t r mb x (s.d+1) E) (hEi:∀a q b,E a= .ok q b ->a.g<=5 ->b.d=a.d):
  Calls Tryz.prog 215 #[.pointer (some ⟨r,0,none⟩)] w fun e w'=>ay [r,mb] r mb t x w (RP w.heap.size) (bp t E s) e w':=by
 have hlt:=h.lt
 have hmlt:=h.mlt
 have helt:=h.elt
 have ht:=h.ht
 have hne:w.heap.size≠r:=by omega
 have hne2:w.heap.size≠mb:=by omega
 have H:=aa h
 have HNP:=aa hnp
 have HE:=aa hE
 have HEI:=aa hEi
 clear h hnp hE hEi
 cases hb:ai t s.k with
 |none=>
  have HM:Hid (bp t E s= .bad s):=by show bp t E s=_;simp[bp,hb]
  have HB:=aa hb
  clear hb
  go_enter Tryz.func215,Tryz.ntmps215
  go_wp2_with fail
  refine (iS (H.O.alloc _) HB.O).mono ?_
  rintro e w1 ⟨rfl,n1,rfl⟩
  exact ab rfl (ay.mkBad HM.O ((H.O.alloc _).drewN _) (((Ex.refl _ _).alloc _).drewN _))
 |some b=>
  have hks:=(cP hb).1
  have HB:=aa hb
  have hAM:bp t E s=if b=40 then aK t E s else if b=91 then (fj t s).bind fun c s'=> .ok (.single c) s' else if b=46 then .ok (.single o6) s.up
   else if b=92 then (an t s.up).bind fun y s'=> .ok (.single (sing s'.f y.1)) s' else (aO t iF s).bind fun b s'=> .ok (.single (sing s'.f (cv b.toNat))) s':=by simp only[bp,hb]
  have HAM:=aa hAM
  obtain⟨n,hn⟩:∃n,b.toNat=n:=⟨_,rfl⟩
  have HN:=aa hn
  have hbn:∀c:UInt8,b=c↔n=c.toNat:=fun c=>by rw[<-hn,UInt8.toNat_inj]
  clear hb hAM hn
  by_cases h40:b=40
  ·have HM:Hid (bp t E s=aK t E s):=by show bp t E s=_;rw[HAM.O,if_pos h40]
   have hn40:n=40:=(hbn 40).1 h40
   clear hbn
   subst hn40
   go_enter Tryz.func215,Tryz.ntmps215
   go_wp2_with fail
   refine (cT (H.O.alloc _) HB.O).mono ?_
   rintro e w1 ⟨rfl,n1,hw1⟩
   have hg1:RG w1 r mb t x s:=by rw[hw1];exact (H.O.alloc _).drewN _
   have hx1:Ex [r,mb] (w.alloc (Obj.cells #[.int .i64 0,.slice none 0 0,.int .u64 0,.int .u64 0,.bool false,.int .i64 0,.int .i64 0,.int .i64 0,.bool false] 101)) w1:=by rw[hw1];exact (Ex.refl _ _).drewN _
   rw[HN.O]
   have G1:=aa hg1
   have X1:=aa hx1
   have h11:=hg1.rd.c1
   have hf11:=hg1.rd.f1
   have hl1:=hg1.lt
   have hle1:w.heap.size+1<=w1.heap.size:=by have:=hx1.size;simpa using this
   clear hg1 hx1 hw1
   go_wp2_with fail
   refine (zC G1.O HNP.O hg5 hd6 HE.O HEI.O).mono ?_
   rintro e w2 hp
   rcases hp.split with⟨q,s2,v,hm,rfl,hRP,hg2,hx2⟩|⟨s',hm,rfl,hg,hx⟩
   rotate_left
   ·exact ab rfl (ay.mkBad (HM.O.trans hm) hg (((Ex.refl _ _).alloc _).trans (X1.O.trans hx)))
   obtain⟨u,rfl,hpr⟩:=hRP
   have HMM:=aa (HM.O.trans hm)
   have G2:=aa hg2
   have X2:=aa (X1.O.trans hx2)
   have BR:=aa ((BK.new w (Obj.cells #[.int .i64 0,.slice none 0 0,.int .u64 0,.int .u64 0,.bool false,.int .i64 0,.int .i64 0,.int .i64 0,.bool false] 101)).ex X2.O (by simp;omega))
   obtain⟨kd,up,un,uc,ulo,uhi,uhg,ug,ul,um,uz⟩:=u
   have HPR:=aa hpr
   clear hp hm hg2 hx2 hpr h11 hf11
   unfold PV.val
   have HAL:Hid ((#[.int .i64 kd,.slice up un uc,.int .u64 ulo,.int .u64 uhi,.bool uhg,.int .i64 ug,.int .i64 ul,.int .i64 um,.bool uz]:Array Value).all (·.oneCell')=true):=by show Array.all _ _=true;simp[Value.oneCell']
   have HSZ:Hid ((Tryz.prog.info? 101).map (·.size)=some (#[.int .i64 kd,.slice up un uc,.int .u64 ulo,.int .u64 uhi,.bool uhg,.int .i64 ug,.int .i64 ul,.int .i64 um,.bool uz]:Array Value).size):=bz
   go_wp2_with (refine wpList_store_row rfl 101 _ _ rfl w.heap.size #[.int .i64 kd,.slice up un uc,.int .u64 ulo,.int .u64 uhi,.bool uhg,.int .i64 ug,.int .i64 ul,.int .i64 um,.bool uz] rfl rfl 101 _ (BR.O) HSZ.O rfl HAL.O ?_)
   refine bodyPost_ret (aq rfl rfl (cB (S:=[.int .i64 kd,.slice up un uc,.int .u64 ulo,.int .u64 uhi,.bool uhg,.int .i64 ug,.int .i64 ul,.int .i64 um,.bool uz]) (setRow_heap _ _ _ _ _ _ (BR.O)) rfl)) rfl (ay.mkOk HMM.O ?_ ?_ ?_)
   ·refine⟨⟨kd,up,un,uc,ulo,uhi,uhg,ug,ul,um,uz⟩,rfl,?_⟩
    exact PR.ex (l:=[w.heap.size]) HPR.O ((Ex.refl _ _).setRow (Or.inl (by simp)) _) (by simp;omega) (by omega) (by simp)
   ·exact RG.row G2.O hlt hmlt helt (Nat.le_refl _) _
   ·exact Ex.row (((Ex.refl _ _).alloc _).trans X2.O) (Nat.le_refl _) _
  by_cases h91:b=91
  ·have HM:Hid (bp t E s=(fj t s).bind fun c s'=> .ok (.single c) s'):=by show bp t E s=_;rw[HAM.O,if_neg h40,if_pos h91]
   have hn91:n=91:=(hbn 91).1 h91
   clear hbn
   subst hn91
   go_enter Tryz.func215,Tryz.ntmps215
   go_wp2_with fail
   refine (cT (H.O.alloc _) HB.O).mono ?_
   rintro e w1 ⟨rfl,n1,hw1⟩
   have hg1:RG w1 r mb t x s:=by rw[hw1];exact (H.O.alloc _).drewN _
   have hx1:Ex [r,mb] (w.alloc (Obj.cells #[.int .i64 0,.slice none 0 0,.int .u64 0,.int .u64 0,.bool false,.int .i64 0,.int .i64 0,.int .i64 0,.bool false] 101)) w1:=by rw[hw1];exact (Ex.refl _ _).drewN _
   rw[HN.O]
   have G1:=aa hg1
   have X1:=aa hx1
   have h11:=hg1.rd.c1
   have hf11:=hg1.rd.f1
   have hl1:=hg1.lt
   have hle1:w.heap.size+1<=w1.heap.size:=by have:=hx1.size;simpa using this
   clear hg1 hx1 hw1
   go_wp2_with fail
   refine (Aq G1.O).mono ?_
   rintro e w2 hp
   rcases hp.split with⟨c,s2,v,hm,rfl,rfl,hg2,hx2⟩|⟨s',hm,rfl,hg,hx⟩
   rotate_left
   ·exact ab rfl (ay.mkBad (by rw[HM.O,hm];rfl) hg (((Ex.refl _ _).alloc _).trans (X1.O.trans (Ex.two hx))))
   have HMM:Hid (bp t E s= .ok (.single c) s2):=by show bp t E s=_;rw[HM.O,hm];rfl
   have G2:=aa hg2
   have X2:=aa (X1.O.trans (Ex.two (mb:=mb) hx2))
   have BR:=aa ((BK.new w (Obj.cells #[.int .i64 0,.slice none 0 0,.int .u64 0,.int .u64 0,.bool false,.int .i64 0,.int .i64 0,.int .i64 0,.bool false] 101)).ex X2.O (by simp;omega))
   clear hp hm hg2 hx2 h11 hf11
   unfold gE
   have HAL:Hid ((#[.int .i64 0,.slice none 0 0,.int .u64 c.lo,.int .u64 c.hi,.bool c.hg,.int .i64 0,.int .i64 0,.int .i64 0,.bool false]:Array Value).all (·.oneCell')=true):=by show Array.all _ _=true;simp[Value.oneCell']
   have HSZ:Hid ((Tryz.prog.info? 101).map (·.size)=some (#[.int .i64 0,.slice none 0 0,.int .u64 c.lo,.int .u64 c.hi,.bool c.hg,.int .i64 0,.int .i64 0,.int .i64 0,.bool false]:Array Value).size):=bz
   go_wp2_with (refine wpList_store_row rfl 101 _ _ rfl w.heap.size #[.int .i64 0,.slice none 0 0,.int .u64 c.lo,.int .u64 c.hi,.bool c.hg,.int .i64 0,.int .i64 0,.int .i64 0,.bool false] rfl rfl 101 _ (BR.O) HSZ.O rfl HAL.O ?_)
   refine bodyPost_ret (aq rfl rfl (cB (S:=[.int .i64 0,.slice none 0 0,.int .u64 c.lo,.int .u64 c.hi,.bool c.hg,.int .i64 0,.int .i64 0,.int .i64 0,.bool false]) (setRow_heap _ _ _ _ _ _ (BR.O)) rfl)) rfl (ay.mkOk HMM.O ?_ ?_ ?_)
   ·exact⟨⟨0,none,0,0,c.lo,c.hi,c.hg,0,0,0,false⟩,rfl,rfl⟩
   ·exact RG.row G2.O hlt hmlt helt (Nat.le_refl _) _
   ·exact Ex.row (((Ex.refl _ _).alloc _).trans X2.O) (Nat.le_refl _) _
  by_cases h46:b=46
  ·have HM:Hid (bp t E s= .ok (.single o6) s.up):=by show bp t E s=_;rw[HAM.O,if_neg h40,if_neg h91,if_pos h46]
   have hn46:n=46:=(hbn 46).1 h46
   clear hbn
   subst hn46
   obtain⟨c,hc⟩:∃c,o6=c:=⟨_,rfl⟩
   have KD:=aa (fun w=>mY w)
   rw[hc]at KD HM
   clear hc
   go_enter Tryz.func215,Tryz.ntmps215
   go_wp2_with fail
   refine (cT (H.O.alloc _) HB.O).mono ?_
   rintro e w1 ⟨rfl,n1,hw1⟩
   have hg1:RG w1 r mb t x s:=by rw[hw1];exact (H.O.alloc _).drewN _
   have hx1:Ex [r,mb] (w.alloc (Obj.cells #[.int .i64 0,.slice none 0 0,.int .u64 0,.int .u64 0,.bool false,.int .i64 0,.int .i64 0,.int .i64 0,.bool false] 101)) w1:=by rw[hw1];exact (Ex.refl _ _).drewN _
   rw[HN.O]
   have G1:=aa hg1
   have X1:=aa hx1
   have h11:=hg1.rd.c1
   have hf11:=hg1.rd.f1
   have hl1:=hg1.lt
   have hle1:w.heap.size+1<=w1.heap.size:=by have:=hx1.size;simpa using this
   clear hg1 hx1 hw1
   go_wp2_with fail
   refine (KD.O _).mono ?_
   rintro e w2 ⟨rfl,hx2⟩
   have hgu:=G1.O.up hks
   have G2:Hid (RG w2 r mb t x s.up):=by
    refine RG.ex0 ?_ hx2
    simpa using hgu
   have X2:Hid (Ex [r,mb] (w.alloc (Obj.cells #[.int .i64 0,.slice none 0 0,.int .u64 0,.int .u64 0,.bool false,.int .i64 0,.int .i64 0,.int .i64 0,.bool false] 101)) w2):=(X1.O.setCell (Or.inl (by simp)) _).trans (hx2.drop (by simp))
   have BR:=aa ((BK.new w (Obj.cells #[.int .i64 0,.slice none 0 0,.int .u64 0,.int .u64 0,.bool false,.int .i64 0,.int .i64 0,.int .i64 0,.bool false] 101)).ex X2.O (by simp;omega))
   clear hx2 hgu h11 hf11
   unfold ar
   have HAL:Hid ((#[.int .i64 0,.slice none 0 0,.int .u64 c.lo,.int .u64 c.hi,.bool c.hg,.int .i64 0,.int .i64 0,.int .i64 0,.bool false]:Array Value).all (·.oneCell')=true):=by show Array.all _ _=true;simp[Value.oneCell']
   have HSZ:Hid ((Tryz.prog.info? 101).map (·.size)=some (#[.int .i64 0,.slice none 0 0,.int .u64 c.lo,.int .u64 c.hi,.bool c.hg,.int .i64 0,.int .i64 0,.int .i64 0,.bool false]:Array Value).size):=bz
   go_wp2_with (refine wpList_store_row rfl 101 _ _ rfl w.heap.size #[.int .i64 0,.slice none 0 0,.int .u64 c.lo,.int .u64 c.hi,.bool c.hg,.int .i64 0,.int .i64 0,.int .i64 0,.bool false] rfl rfl 101 _ (BR.O) HSZ.O rfl HAL.O ?_)
   refine bodyPost_ret (aq rfl rfl (cB (S:=[.int .i64 0,.slice none 0 0,.int .u64 c.lo,.int .u64 c.hi,.bool c.hg,.int .i64 0,.int .i64 0,.int .i64 0,.bool false]) (setRow_heap _ _ _ _ _ _ (BR.O)) rfl)) rfl (ay.mkOk HM.O ?_ ?_ ?_)
   ·exact⟨⟨0,none,0,0,c.lo,c.hi,c.hg,0,0,0,false⟩,rfl,rfl⟩
   ·exact RG.row G2.O hlt hmlt helt (Nat.le_refl _) _
   ·exact Ex.row (((Ex.refl _ _).alloc _).trans X2.O) (Nat.le_refl _) _
  by_cases h92:b=92
  ·have HM:Hid (bp t E s=(an t s.up).bind fun y s'=> .ok (.single (sing s'.f y.1)) s'):=by show bp t E s=_;rw[HAM.O,if_neg h40,if_neg h91,if_neg h46,if_pos h92]
   have hn92:n=92:=(hbn 92).1 h92
   clear hbn
   subst hn92
   go_enter Tryz.func215,Tryz.ntmps215
   go_wp2_with fail
   refine (cT (H.O.alloc _) HB.O).mono ?_
   rintro e w1 ⟨rfl,n1,hw1⟩
   have hg1:RG w1 r mb t x s:=by rw[hw1];exact (H.O.alloc _).drewN _
   have hx1:Ex [r,mb] (w.alloc (Obj.cells #[.int .i64 0,.slice none 0 0,.int .u64 0,.int .u64 0,.bool false,.int .i64 0,.int .i64 0,.int .i64 0,.bool false] 101)) w1:=by rw[hw1];exact (Ex.refl _ _).drewN _
   rw[HN.O]
   have G1:=aa hg1
   have X1:=aa hx1
   have h11:=hg1.rd.c1
   have hf11:=hg1.rd.f1
   have hl1:=hg1.lt
   have hle1:w.heap.size+1<=w1.heap.size:=by have:=hx1.size;simpa using this
   clear hg1 hx1 hw1
   have hgu:=G1.O.up hks
   have G1u:Hid (RG (w1.setCell ⟨r,1,none⟩ (.int .i64 ((s.k:Int)+1))) r mb t x s.up):=by
    show RG _ _ _ _ _ _
    simpa using hgu
   clear hgu
   go_wp2_with fail
   refine (tF G1u.O).mono ?_
   rintro e w2 hp
   rcases hp.split with⟨⟨cc,bb,okk⟩,s2,v,hm,rfl,⟨rfl,_⟩,hg2,hx2⟩|⟨s',hm,rfl,hg,hx⟩
   rotate_left
   ·exact ab rfl (ay.mkBad (by rw[HM.O,hm];rfl) hg ((((Ex.refl _ _).alloc _).trans (X1.O.setCell (Or.inl (by simp)) _)).trans (Ex.two hx)))
   obtain⟨cs,hcs⟩:∃cs,sing s2.f cc=cs:=⟨_,rfl⟩
   have HMM:Hid (bp t E s= .ok (.single cs) s2):=by show bp t E s=_;rw[HM.O,hm];show Res.ok (Pt.single (sing s2.f cc)) s2=_;rw[hcs]
   have KS:=aa (fun w hr=>gA r t s2.k ⟨s2.d,s2.f,s2.g,.map (some mb)⟩ cc w hr)
   simp only at KS
   rw[hcs]at KS
   have G2:=aa hg2
   have X2:Hid (Ex [r,mb] (w.alloc (Obj.cells #[.int .i64 0,.slice none 0 0,.int .u64 0,.int .u64 0,.bool false,.int .i64 0,.int .i64 0,.int .i64 0,.bool false] 101)) w2):=(X1.O.setCell (Or.inl (by simp)) _).trans (Ex.two hx2)
   clear hp hm hg2 hx2 h11 hf11 hcs
   unfold qz ar
   go_wp2_with fail
   refine (KS.O _ (G2.O.alloc _).rd).mono ?_
   rintro e w3 ⟨rfl,hx3⟩
   have G3:=aa ((G2.O.alloc (Obj.cells #[.int .u64 cc.lo,.int .u64 cc.hi,.bool cc.hg] 99)).ex0 hx3)
   have X3:=aa ((X2.O.alloc (Obj.cells #[.int .u64 cc.lo,.int .u64 cc.hi,.bool cc.hg] 99)).trans (hx3.drop (by simp)))
   have BR:=aa ((BK.new w (Obj.cells #[.int .i64 0,.slice none 0 0,.int .u64 0,.int .u64 0,.bool false,.int .i64 0,.int .i64 0,.int .i64 0,.bool false] 101)).ex X3.O (by simp;omega))
   clear hx3
   unfold gE
   have HAL:Hid ((#[.int .i64 0,.slice none 0 0,.int .u64 cs.lo,.int .u64 cs.hi,.bool cs.hg,.int .i64 0,.int .i64 0,.int .i64 0,.bool false]:Array Value).all (·.oneCell')=true):=by show Array.all _ _=true;simp[Value.oneCell']
   have HSZ:Hid ((Tryz.prog.info? 101).map (·.size)=some (#[.int .i64 0,.slice none 0 0,.int .u64 cs.lo,.int .u64 cs.hi,.bool cs.hg,.int .i64 0,.int .i64 0,.int .i64 0,.bool false]:Array Value).size):=bz
   go_wp2_with (refine wpList_store_row rfl 101 _ _ rfl w.heap.size #[.int .i64 0,.slice none 0 0,.int .u64 cs.lo,.int .u64 cs.hi,.bool cs.hg,.int .i64 0,.int .i64 0,.int .i64 0,.bool false] rfl rfl 101 _ (BR.O) HSZ.O rfl HAL.O ?_)
   refine bodyPost_ret (aq rfl rfl (cB (S:=[.int .i64 0,.slice none 0 0,.int .u64 cs.lo,.int .u64 cs.hi,.bool cs.hg,.int .i64 0,.int .i64 0,.int .i64 0,.bool false]) (setRow_heap _ _ _ _ _ _ (BR.O)) rfl)) rfl (ay.mkOk HMM.O ?_ ?_ ?_)
   ·exact⟨⟨0,none,0,0,cs.lo,cs.hi,cs.hg,0,0,0,false⟩,rfl,rfl⟩
   ·exact RG.row G3.O hlt hmlt helt (Nat.le_refl _) _
   ·exact Ex.row (((Ex.refl _ _).alloc _).trans X3.O) (Nat.le_refl _) _
  have HM:Hid (bp t E s=(aO t iF s).bind fun b s'=> .ok (.single (sing s'.f (cv b.toNat))) s'):=by show bp t E s=_;rw[HAM.O,if_neg h40,if_neg h91,if_neg h46,if_neg h92]
  have g1:¬(n:Int)=40:=by have h9:=fun h=>h40 ((hbn 40).2 h);simp at h9;omega
  have g2:¬(n:Int)=91:=by have h9:=fun h=>h91 ((hbn 91).2 h);simp at h9;omega
  have g3:¬(n:Int)=46:=by have h9:=fun h=>h46 ((hbn 46).2 h);simp at h9;omega
  have g4:¬(n:Int)=92:=by have h9:=fun h=>h92 ((hbn 92).2 h);simp at h9;omega
  clear hbn
  go_enter Tryz.func215,Tryz.ntmps215
  go_wp2_with fail
  refine (cT (H.O.alloc _) HB.O).mono ?_
  rintro e w1 ⟨rfl,n1,hw1⟩
  have hg1:RG w1 r mb t x s:=by rw[hw1];exact (H.O.alloc _).drewN _
  have hx1:Ex [r,mb] (w.alloc (Obj.cells #[.int .i64 0,.slice none 0 0,.int .u64 0,.int .u64 0,.bool false,.int .i64 0,.int .i64 0,.int .i64 0,.bool false] 101)) w1:=by rw[hw1];exact (Ex.refl _ _).drewN _
  rw[HN.O]
  have G1:=aa hg1
  have X1:=aa hx1
  have h11:=hg1.rd.c1
  have hf11:=hg1.rd.f1
  have hl1:=hg1.lt
  have hle1:w.heap.size+1<=w1.heap.size:=by have:=hx1.size;simpa using this
  clear hg1 hx1 hw1
  go_wp2_with fail
  refine (pe G1.O iF).mono ?_
  rintro e w2 hp
  rcases hp.split with⟨b2,s2,v,hm,rfl,⟨rfl,hb128⟩,hg2,hx2⟩|⟨s',hm,rfl,hg,hx⟩
  rotate_left
  ·exact ab rfl (ay.mkBad (by rw[HM.O,hm];rfl) hg (((Ex.refl _ _).alloc _).trans (X1.O.trans (Ex.two hx))))
  obtain⟨co,hco⟩:∃co,cv b2.toNat=co:=⟨_,rfl⟩
  obtain⟨cs,hcs⟩:∃cs,sing s2.f co=cs:=⟨_,rfl⟩
  have HMM:Hid (bp t E s= .ok (.single cs) s2):=by show bp t E s=_;rw[HM.O,hm];show Res.ok (Pt.single (sing s2.f (cv b2.toNat))) s2=_;rw[hco,hcs]
  have KB:=aa (fun w=>dc b2.toNat w hb128)
  rw[hco]at KB
  have KS:=aa (fun w hr=>gA r t s2.k ⟨s2.d,s2.f,s2.g,.map (some mb)⟩ co w hr)
  simp only at KS
  rw[hcs]at KS
  have G2:=aa hg2
  have X2:=aa (X1.O.trans (Ex.two (mb:=mb) hx2))
  clear hp hm hg2 hx2 h11 hf11 hcs hco
  go_wp2_with fail
  refine (KB.O _).mono ?_
  rintro e w3 ⟨rfl,hx3⟩
  have G3:=aa (G2.O.ex0 hx3)
  have X3:=aa (X2.O.trans (hx3.drop (by simp)))
  clear hx3
  go_wp2_with fail
  refine (KS.O _ G3.O.rd).mono ?_
  rintro e w4 ⟨rfl,hx4⟩
  have G4:=aa (G3.O.ex0 hx4)
  have X4:=aa (X3.O.trans (hx4.drop (by simp)))
  have BR:=aa ((BK.new w (Obj.cells #[.int .i64 0,.slice none 0 0,.int .u64 0,.int .u64 0,.bool false,.int .i64 0,.int .i64 0,.int .i64 0,.bool false] 101)).ex X4.O (by simp;omega))
  clear hx4
  unfold gE
  have HAL:Hid ((#[.int .i64 0,.slice none 0 0,.int .u64 cs.lo,.int .u64 cs.hi,.bool cs.hg,.int .i64 0,.int .i64 0,.int .i64 0,.bool false]:Array Value).all (·.oneCell')=true):=by show Array.all _ _=true;simp[Value.oneCell']
  have HSZ:Hid ((Tryz.prog.info? 101).map (·.size)=some (#[.int .i64 0,.slice none 0 0,.int .u64 cs.lo,.int .u64 cs.hi,.bool cs.hg,.int .i64 0,.int .i64 0,.int .i64 0,.bool false]:Array Value).size):=bz
  go_wp2_with (refine wpList_store_row rfl 101 _ _ rfl w.heap.size #[.int .i64 0,.slice none 0 0,.int .u64 cs.lo,.int .u64 cs.hi,.bool cs.hg,.int .i64 0,.int .i64 0,.int .i64 0,.bool false] rfl rfl 101 _ (BR.O) HSZ.O rfl HAL.O ?_)
  refine bodyPost_ret (aq rfl rfl (cB (S:=[.int .i64 0,.slice none 0 0,.int .u64 cs.lo,.int .u64 cs.hi,.bool cs.hg,.int .i64 0,.int .i64 0,.int .i64 0,.bool false]) (setRow_heap _ _ _ _ _ _ (BR.O)) rfl)) rfl (ay.mkOk HMM.O ?_ ?_ ?_)
  ·exact⟨⟨0,none,0,0,cs.lo,cs.hi,cs.hg,0,0,0,false⟩,rfl,rfl⟩
  ·exact RG.row G4.O hlt hmlt helt (Nat.le_refl _) _
  ·exact Ex.row (((Ex.refl _ _).alloc _).trans X4.O) (Nat.le_refl _) _
def zp (q:Pt) (t:ByteArray) (s2:RS):Option (Nat×Int) ->Res Pt
 |none=> .ok q s2
 |some y=> .ok (.count q y.1 y.2 (ac t s2 63)) (s2.took t 63)
theorem PV.all_one (u:PV):∀y∈u.cells,y.oneCell'=true:=by
 intro y hy
 simp only[PV.cells,List.mem_cons,List.not_mem_nil,or_false]at hy
 rcases hy with rfl|rfl|rfl|rfl|rfl|rfl|rfl|rfl|rfl<;>rfl
theorem zD {E:RS ->Res Pt} (h:RG w r mb t x s) (hnp:NP t) (hg5:s.g<=5) (hd6:s.d<=6) (hE:s.d<6 ->EC t r mb x (s.d+1) E) (hEi:∀a q b,E a= .ok q b ->a.g<=5 ->b.d=a.d):
  Calls Tryz.prog 178 #[.pointer (some ⟨r,0,none⟩)] w fun e w'=>ay [r,mb] r mb t x w (RP w.heap.size) (aW t E s) e w':=by
 have hlt:=h.lt
 have hmlt:=h.mlt
 have helt:=h.elt
 have ht:=h.ht
 have hne:w.heap.size≠r:=by omega
 have H:=aa h
 have KA:=aa (fun (w:World) (h:RG w r mb t x s)=>Ag h hnp hg5 hd6 hE hEi)
 clear h hnp hE hEi
 go_enter Tryz.func178,Tryz.ntmps178
 go_wp2_with fail
 refine (KA.O _ (H.O.alloc _)).mono ?_
 rintro e w1 hp
 rcases hp.split with⟨q,s1,v,hm,rfl,hRP,hg1,hx1⟩|⟨s',hm,rfl,hg,hx⟩
 rotate_left
 ·exact ab rfl (ay.mkBad (by unfold aW;rw[hm];rfl) hg (((Ex.refl _ _).alloc _).trans hx))
 obtain⟨u,rfl,hpr⟩:=hRP
 have M1:=aa hm
 have G1:=aa hg1
 have X1:=aa hx1
 have hle1:w.heap.size+1<=w1.heap.size:=by have:=hx1.size;simpa using this
 obtain⟨kd,up,un,uc,ulo,uhi,uhg,ug,ul,um,uz⟩:=u
 have HPR:=aa hpr
 clear hp hm hg1 hx1 hpr
 unfold PV.val
 go_wp2_with fail
 refine (zB (G1.O.alloc _)).mono ?_
 rintro e w2 hp
 rcases hp.split with⟨cn,s2,v,hm,rfl,⟨rfl,hcn⟩,hg2,hx2⟩|⟨s',hm,rfl,hg,hx⟩
 rotate_left
 ·exact ab rfl (ay.mkBad (by simp only[aW,af M1,Res.bind_ok,hm,Res.bind_bad]) hg (((Ex.refl _ _).alloc _).trans ((X1.O.alloc _).trans (Ex.two hx))))
 have M2:Hid (aW t E s=zp q t s2 cn):=by show aW t E s=_;simp only[aW,af M1,Res.bind_ok,hm];cases cn<;>rfl
 have G2:=aa hg2
 have X2:=aa ((X1.O.alloc (Obj.cells #[.int .i64 kd,.slice up un uc,.int .u64 ulo,.int .u64 uhi,.bool uhg,.int .i64 ug,.int .i64 ul,.int .i64 um,.bool uz] 101)).trans (Ex.two (mb:=mb) hx2))
 have B1:=aa ((BK.new w1 (Obj.cells #[.int .i64 kd,.slice up un uc,.int .u64 ulo,.int .u64 uhi,.bool uhg,.int .i64 ug,.int .i64 ul,.int .i64 um,.bool uz] 101)).ex hx2 (by simp;omega))
 have hle2:w1.heap.size+1<=w2.heap.size:=by have:=hx2.size;simpa using this
 have hPR2:=PR.ex (lo':=w.heap.size+1) (hi':=w1.heap.size) (PR.ex (lo':=w.heap.size+1) (hi':=w1.heap.size) HPR.O ((Ex.refl [] w1).alloc (Obj.cells #[.int .i64 kd,.slice up un uc,.int .u64 ulo,.int .u64 uhi,.bool uhg,.int .i64 ug,.int .i64 ul,.int .i64 um,.bool uz] 101)) (by simp) (by simp) (Nat.le_refl _)) hx2 (by simp;omega) (Nat.le_refl _) (by omega)
 have HPR2:=aa hPR2
 clear hp hm hg2 hx2 M1 G1 X1 hPR2 HPR
 cases cn with
 |none=>
  have HM:Hid (aW t E s= .ok q s2):=M2.O
  have BR:=aa ((BK.new w (Obj.cells #[.int .i64 0,.slice none 0 0,.int .u64 0,.int .u64 0,.bool false,.int .i64 0,.int .i64 0,.int .i64 0,.bool false] 101)).ex X2.O (by simp;omega))
  have RNG:Hid (w2.rangeAt w1.heap.size 0 [.int .i64 kd,.slice up un uc,.int .u64 ulo,.int .u64 uhi,.bool uhg,.int .i64 ug,.int .i64 ul,.int .i64 um,.bool uz]):=B1.O.rangeL
  have HAL:Hid ((#[.int .i64 kd,.slice up un uc,.int .u64 ulo,.int .u64 uhi,.bool uhg,.int .i64 ug,.int .i64 ul,.int .i64 um,.bool uz]:Array Value).all (·.oneCell')=true):=by show Array.all _ _=true;simp[Value.oneCell']
  have HSZ:Hid ((Tryz.prog.info? 101).map (·.size)=some (#[.int .i64 kd,.slice up un uc,.int .u64 ulo,.int .u64 uhi,.bool uhg,.int .i64 ug,.int .i64 ul,.int .i64 um,.bool uz]:Array Value).size):=bz
  unfold zq
  go_wp2_with (first
   |(refine wpList_load_mid rfl 101 _ rfl w1.heap.size 0 rfl [.int .i64 kd,.slice up un uc,.int .u64 ulo,.int .u64 uhi,.bool uhg,.int .i64 ug,.int .i64 ul,.int .i64 um,.bool uz] _ RNG.O Tryz.underlying101 rfl bz ?_)
   |(refine wpList_store_row rfl 101 _ _ rfl w.heap.size #[.int .i64 kd,.slice up un uc,.int .u64 ulo,.int .u64 uhi,.bool uhg,.int .i64 ug,.int .i64 ul,.int .i64 um,.bool uz] rfl rfl 101 _ BR.O HSZ.O rfl HAL.O ?_))
  refine bodyPost_ret (aq rfl rfl (cB (S:=[.int .i64 kd,.slice up un uc,.int .u64 ulo,.int .u64 uhi,.bool uhg,.int .i64 ug,.int .i64 ul,.int .i64 um,.bool uz]) (setRow_heap _ _ _ _ _ _ BR.O) rfl)) rfl (ay.mkOk HM.O ?_ ?_ ?_)
  ·refine⟨⟨kd,up,un,uc,ulo,uhi,uhg,ug,ul,um,uz⟩,rfl,?_⟩
   exact PR.ex (l:=[w.heap.size]) HPR2.O ((Ex.refl _ _).setRow (Or.inl (by simp)) _) (by simp) (by omega) (by simp;omega)
  ·exact RG.row G2.O hlt hmlt helt (Nat.le_refl _) _
  ·exact Ex.row (((Ex.refl _ _).alloc _).trans X2.O) (Nat.le_refl _) _
 |some y=>
  obtain⟨le,mo⟩:=y
  have HM2:Hid (aW t E s= .ok (.count q le mo (ac t s2 63)) (s2.took t 63)):=M2.O
  obtain⟨la,hla⟩:∃la,ac t s2 63=la:=⟨_,rfl⟩
  have HLA:=aa hla
  rw[hla]at HM2
  clear hla
  unfold zq
  go_wp2_with fail
  refine (de G2.O 63 63 rfl).mono ?_
  rintro e w3 ⟨rfl,hg3,hx3⟩
  rw[HLA.O]
  have G3:=aa hg3
  have X3:=aa (X2.O.trans (Ex.two (mb:=mb) hx3))
  have B3:=aa (B1.O.ex hx3 (by simp;omega))
  have hle3:w2.heap.size<=w3.heap.size:=hx3.size
  have hPR3:=PR.ex (lo':=w.heap.size+1) (hi':=w1.heap.size) HPR2.O hx3 (by simp;omega) (Nat.le_refl _) (Nat.le_refl _)
  have HPR3:=aa hPR3
  have BR:=aa ((BK.new w (Obj.cells #[.int .i64 0,.slice none 0 0,.int .u64 0,.int .u64 0,.bool false,.int .i64 0,.int .i64 0,.int .i64 0,.bool false] 101)).ex X3.O (by simp;omega))
  have RNG:Hid (w3.rangeAt w1.heap.size 0 [.int .i64 kd,.slice up un uc,.int .u64 ulo,.int .u64 uhi,.bool uhg,.int .i64 ug,.int .i64 ul,.int .i64 um,.bool uz]):=B3.O.rangeL
  have HAL:Hid ((#[.int .i64 4,.slice (some ⟨w3.heap.size,0,none⟩) 1 1,.int .u64 0,.int .u64 0,.bool false,.int .i64 0,.int .i64 (le:Int),.int .i64 mo,.bool la]:Array Value).all (·.oneCell')=true):=by show Array.all _ _=true;simp[Value.oneCell']
  have HSZ:Hid ((Tryz.prog.info? 101).map (·.size)=some (#[.int .i64 4,.slice (some ⟨w3.heap.size,0,none⟩) 1 1,.int .u64 0,.int .u64 0,.bool false,.int .i64 0,.int .i64 (le:Int),.int .i64 mo,.bool la]:Array Value).size):=bz
  clear hg3 hx3 hPR3
  go_wp2_with (first
   |(refine wpList_load_mid rfl 101 _ rfl w1.heap.size 0 rfl [.int .i64 kd,.slice up un uc,.int .u64 ulo,.int .u64 uhi,.bool uhg,.int .i64 ug,.int .i64 ul,.int .i64 um,.bool uz] _ RNG.O Tryz.underlying101 rfl bz ?_)
   |(refine wpList_store_row rfl 101 _ _ rfl w.heap.size #[.int .i64 4,.slice (some ⟨w3.heap.size,0,none⟩) 1 1,.int .u64 0,.int .u64 0,.bool false,.int .i64 0,.int .i64 (le:Int),.int .i64 mo,.bool la] rfl rfl 101 _ (BK.alloc BR.O _) HSZ.O rfl HAL.O ?_))
  refine bodyPost_ret (aq rfl rfl (cB (S:=[.int .i64 4,.slice (some ⟨w3.heap.size,0,none⟩) 1 1,.int .u64 0,.int .u64 0,.bool false,.int .i64 0,.int .i64 (le:Int),.int .i64 mo,.bool la]) (setRow_heap _ _ _ _ _ _ (BK.alloc BR.O _)) rfl)) rfl (ay.mkOk HM2.O ?_ ?_ ?_)
  ·generalize hW:World.setRow _ _ _=W
   have hWx:Ex [w.heap.size] w3 W:=by rw[<-hW];exact ((Ex.refl _ _).alloc _).setRow (Or.inl (by simp)) _
   have hWs:W.heap.size=w3.heap.size+1:=by rw[<-hW];simp
   have hWb:BK W w3.heap.size (.cells #[.int .i64 kd,.slice up un uc,.int .u64 ulo,.int .u64 uhi,.bool uhg,.int .i64 ug,.int .i64 ul,.int .i64 um,.bool uz] 101 (0,0)):=by
    rw[<-hW]
    unfold BK
    rw[setRow_other _ _ _ _ (by omega)]
    exact BK.new _ _
   refine⟨⟨4,some ⟨w3.heap.size,0,none⟩,1,1,0,0,false,0,(le:Int),mo,la⟩,rfl,w3.heap.size,rfl,⟨by omega,by omega⟩,by omega,⟨kd,up,un,uc,ulo,uhi,uhg,ug,ul,um,uz⟩,hWb.rangeL,?_⟩
   exact PR.ex HPR3.O hWx (by simp) (by omega) (by omega)
  ·exact RG.row (G3.O.alloc _) hlt hmlt helt (Nat.le_refl _) _
  ·exact Ex.row ((((Ex.refl _ _).alloc _).trans X3.O).alloc _) (Nat.le_refl _) _
end Go.Proofs.YtfnanjbleifjkaaGreatDoor.G
