import Derived.Test.YtfnanjbleifjkaaGreatDoorM10
set_option linter.unusedVariables false
set_option linter.unusedSimpArgs false
set_option maxHeartbeats 4000000
set_option maxRecDepth 100000
namespace Go.Proofs.YtfnanjbleifjkaaGreatDoor.G
variable {t:ByteArray} {s s':RS} {q:Pt} {w:World} {mb r:Nat} {x:EV} {l:List Pt}
open Go.RowKit
def EI (E:RS ->Res Pt):Prop:=∀a q b,E a= .ok q b ->a.g<=5 ->a.k<=b.k/\b.d=a.d/\b.f=a.f/\b.g<=5
theorem oQ {l n:Nat} (h:dy t l s= .ok n s'):s'=s.up:=by
 unfold dy at h
 cases hb:ai t s.k with
 |none=>rw[hb]at h;cases h
 |some b=>
  rw[hb]at h
  simp only at h
  split at h
  ·cases h
  ·cases h;rfl
theorem r5 {y:Nat×Int} (h:bn t s= .ok y s'):s.k<=s'.k/\s.like s':=by
 unfold bn at h
 obtain⟨a,s1,h1,h2⟩:=Res.bind_eq_ok h
 have e1:=oQ h1
 subst e1
 split at h2
 ·cases h2;exact⟨by show s.k<=s.k+1+1;omega,(RS.like_up s).trans (RS.like_up _)⟩
 ·obtain⟨_,s2,h3,h4⟩:=Res.bind_eq_ok h2
  obtain⟨_,rfl⟩:=bF h3
  split at h4
  ·cases h4;exact⟨by show s.k<=s.k+1+1+1;omega,((RS.like_up s).trans (RS.like_up _)).trans (RS.like_up _)⟩
  ·obtain⟨b,s3,h5,h6⟩:=Res.bind_eq_ok h4
   have e3:=oQ h5
   subst e3
   obtain⟨_,s4,h7,h8⟩:=Res.bind_eq_ok h6
   obtain⟨_,rfl⟩:=bF h7
   cases h8
   exact⟨by show s.k<=s.k+1+1+1+1;omega,(((RS.like_up s).trans (RS.like_up _)).trans (RS.like_up _)).trans (RS.like_up _)⟩
theorem nO {y:Option (Nat×Int)} (h:cM t s= .ok y s'):s.k<=s'.k/\s.like s':=by
 unfold cM at h
 split at h
 ·cases h;exact⟨by show s.k<=s.k+1;omega,RS.like_up s⟩
 split at h
 ·cases h;exact⟨by show s.k<=s.k+1;omega,RS.like_up s⟩
 split at h
 ·cases h;exact⟨by show s.k<=s.k+1;omega,RS.like_up s⟩
 split at h
 ·obtain⟨z,s1,h1,h2⟩:=Res.bind_eq_ok h
  cases h2
  obtain⟨h3,h4⟩:=r5 h1
  exact⟨by have:s.k+1<=s'.k:=h3;omega,(RS.like_up s).trans h4⟩
 ·cases h;exact⟨Nat.le_refl _,RS.like_refl s⟩
theorem t8 {c:Cls} (h:fj t s= .ok c s'):s.k<s'.k/\s.like s':=by
 unfold fj at h
 obtain⟨_,s1,h1,h2⟩:=Res.bind_eq_ok h
 obtain⟨_,rfl⟩:=bF h1
 obtain⟨c1,s3,h3,h4⟩:=Res.bind_eq_ok h2
 obtain⟨c2,s4,h5,h6⟩:=Res.bind_eq_ok h4
 cases h6
 obtain⟨a1,a2⟩:=lZ h3
 obtain⟨b1,b2⟩:=oq _ _ _ _ _ h5
 have hk:=RS.took_le s.up t 94
 have hs:s.up.k=s.k+1:=rfl
 exact⟨by omega,(((RS.like_up s).trans (RS.took_like _ _ _)).trans a2).trans b2⟩
theorem vc {E:RS ->Res Pt} (hE:EI E) (hg:s.g<=5) (h:aK t E s= .ok q s'):s.k<s'.k/\s'.d=s.d/\s'.f=s.f/\s'.g<=5:=by
 unfold aK at h
 split at h
 ·cases h
 obtain⟨_,s1,h1,h2⟩:=Res.bind_eq_ok h
 obtain⟨_,rfl⟩:=bF h1
 obtain⟨gn,s2,h3,h4⟩:=Res.bind_eq_ok h2
 obtain⟨p,s3,h5,h6⟩:=Res.bind_eq_ok h4
 obtain⟨_,s4,h7,h8⟩:=Res.bind_eq_ok h6
 obtain⟨_,rfl⟩:=bF h7
 cases h8
 obtain⟨a1,a2,a3,a4,_⟩:=kE h3 (by exact hg)
 obtain⟨b1,b2,b3,b4⟩:=hE _ _ _ h5 a4
 have a1':s.k+1<=s2.k:=a1
 have a2':s2.d=s.d+1:=a2
 have a3':s2.f=s.f:=a3
 refine⟨by show s.k<s3.k+1;omega,?_,?_,b4⟩
 ·show s3.d-1=s.d;omega
 ·show s3.f=s.f;rw[b3,a3']
theorem qg {E:RS ->Res Pt} (hE:EI E) (hg:s.g<=5) (h:bp t E s= .ok q s'):s.k<s'.k/\s'.d=s.d/\s'.f=s.f/\s'.g<=5:=by
 unfold bp at h
 cases hb:ai t s.k with
 |none=>rw[hb]at h;cases h
 |some b=>
  rw[hb]at h
  simp only at h
  split at h
  ·exact vc hE hg h
  split at h
  ·obtain⟨c,s1,h1,h2⟩:=Res.bind_eq_ok h
   cases h2
   obtain⟨a1,a2⟩:=t8 h1
   exact⟨a1,a2.1,a2.2.1,by rw[a2.2.2.1];exact hg⟩
  split at h
  ·cases h;exact⟨by show s.k<s.k+1;omega,rfl,rfl,hg⟩
  split at h
  ·obtain⟨y,s1,h1,h2⟩:=Res.bind_eq_ok h
   cases h2
   have e1:=iM h1
   subst e1
   exact⟨by show s.k<s.k+1+1;omega,rfl,rfl,hg⟩
  ·obtain⟨y,s1,h1,h2⟩:=Res.bind_eq_ok h
   cases h2
   obtain⟨_,rfl,_⟩:=eL h1
   exact⟨by show s.k<s.k+1;omega,rfl,rfl,hg⟩
theorem kc {E:RS ->Res Pt} (hE:EI E) (hg:s.g<=5) (h:aW t E s= .ok q s'):s.k<s'.k/\s'.d=s.d/\s'.f=s.f/\s'.g<=5:=by
 unfold aW at h
 obtain⟨p,s1,h1,h2⟩:=Res.bind_eq_ok h
 obtain⟨c,s2,h3,h4⟩:=Res.bind_eq_ok h2
 obtain⟨a1,a2,a3,a4⟩:=qg hE hg h1
 obtain⟨b1,b2⟩:=nO h3
 cases c with
 |none=>cases h4;exact⟨by omega,by rw[b2.1,a2],by rw[b2.2.1,a3],by rw[b2.2.2.1];exact a4⟩
 |some y=>
  cases h4
  have hk:=RS.took_le s2 t 63
  have hl:=RS.took_like s2 t 63
  exact⟨by omega,by rw[hl.1,b2.1,a2],by rw[hl.2.1,b2.2.1,a3],by rw[hl.2.2.1,b2.2.2.1];exact a4⟩
theorem dw {E:RS ->Res Pt} (hE:EI E):∀(n:Nat) (acc l:List Pt) (s s':RS),s.g<=5 ->aR t E n acc s= .ok l s' ->s.k<=s'.k/\s'.d=s.d/\s'.f=s.f/\s'.g<=5
 |0,_,_,_,_,_,h=>by cases h
 |n+1,acc,l,s,s',hg,h=>by
  unfold aR at h
  split at h
  ·cases h;exact⟨Nat.le_refl _,rfl,rfl,hg⟩
  ·obtain⟨p,s1,h1,h2⟩:=Res.bind_eq_ok h
   obtain⟨a1,a2,a3,a4⟩:=kc hE hg h1
   obtain⟨b1,b2,b3,b4⟩:=dw hE n _ _ _ _ a4 h2
   exact⟨by omega,by rw[b2,a2],by rw[b3,a3],b4⟩
theorem tm {E:RS ->Res Pt} (hE:EI E):∀(n:Nat) (acc l:List Pt) (s s':RS),s.g<=5 ->fi t E n acc s= .ok l s' ->s.k<=s'.k/\s'.d=s.d/\s'.f=s.f/\s'.g<=5
 |0,_,_,_,_,_,h=>by cases h
 |n+1,acc,l,s,s',hg,h=>by
  unfold fi at h
  split at h
  ·obtain⟨p,s1,h1,h2⟩:=Res.bind_eq_ok h
   obtain⟨a1,a2,a3,a4⟩:=dw hE _ _ _ _ _ (by exact hg) h1
   obtain⟨b1,b2,b3,b4⟩:=tm hE n _ _ _ _ a4 h2
   have:s.k+1<=s1.k:=a1
   exact⟨by omega,by rw[b2,a2];rfl,by rw[b3,a3];rfl,b4⟩
  ·cases h;exact⟨Nat.le_refl _,rfl,rfl,hg⟩
theorem we {E:RS ->Res Pt} (hE:EI E):EI (dm t E):=by
 intro a q b h hg
 unfold dm at h
 obtain⟨p,s1,h1,h2⟩:=Res.bind_eq_ok h
 obtain⟨l,s2,h3,h4⟩:=Res.bind_eq_ok h2
 cases h4
 obtain⟨a1,a2,a3,a4⟩:=dw hE _ _ _ _ _ hg h1
 obtain⟨b1,b2,b3,b4⟩:=tm hE _ _ _ _ _ a4 h3
 exact⟨by omega,by rw[b2,a2],by rw[b3,a3],b4⟩
theorem g8 (t:ByteArray):∀n,EI (ep t n)
 |0=>fun _ _ _ h=>by cases h
 |n+1=>we (g8 t n)
def dA (w:World) (B:Nat ->Prop):List Pt ->List PV ->Prop
 |[],[]=>True
 |q::l,u::us=>PR w B q u/\dA w B l us
 |_,_=>False
theorem dA.frame {w':World} {B B':Nat ->Prop} (hB:∀b,B b ->B' b) (hs:w.heap.size<=w'.heap.size) (hb:∀b,B b ->b<w.heap.size ->w'.heap[b]? =w.heap[b]?):∀(l:List Pt) (us:List PV),dA w B l us ->dA w' B' l us
 |[],[],_=>trivial
 |q::l,u::us,h=>⟨PR.frame hB hs hb q u h.1,dA.frame hB hs hb l us h.2⟩
 |[],_::_,h=>h.elim
 |_::_,[],h=>h.elim
theorem dA.snoc {B:Nat ->Prop} {u:PV} (hq:PR w B q u):∀(l:List Pt) (us:List PV),dA w B l us ->dA w B (l++[q]) (us++[u])
 |[],[],_=>⟨hq,trivial⟩
 |_::l,_::us,h=>⟨h.1,dA.snoc hq l us h.2⟩
 |[],_::_,h=>h.elim
 |_::_,[],h=>h.elim
theorem dA.prl {B:Nat ->Prop} {g:Nat}:∀(l:List Pt) (us:List PV) (i:Nat),dA w B l us ->(∀j v,(us.flatMap PV.cells)[j]? =some v ->w.cell? ⟨g,i*9+j,none⟩=some v) ->PRL w B g l i
 |[],[],_,_,_=>trivial
 |q::l,u::us,i,h,hc=>by
  refine⟨⟨u,fun j v hv=> ?_,h.1⟩,dA.prl l us (i+1) h.2 (fun j v hv=> ?_)⟩
  ·refine hc j v ?_
   rw[List.flatMap_cons,List.getElem?_append_left]
   ·exact hv
   ·exact (List.getElem?_eq_some_iff.1 hv).1
  ·have h9:=hc (9+j) v (by
    rw[List.flatMap_cons,List.getElem?_append_right (by simp[PV.cells])]
    simpa[PV.cells]using hv)
   rw[show (i+1)*9+j=i*9+(9+j) by omega]
   exact h9
 |[],_::_,_,h,_=>h.elim
 |_::_,[],_,h,_=>h.elim
theorem qQ:(Tryz.prog.info? 101).map (fun i=>(i.zero,i.size,i.bytes))=some (some (.agg #[.int .i64 0,.slice none 0 0,.int .u64 0,.int .u64 0,.bool false,.int .i64 0,.int .i64 0,.int .i64 0,.bool false]),9,88):=by kernel_rfl
def Bx (lo hi:Nat) (v:Value) (b:Nat):Prop:=lo<=b/\b<hi/\v.ownBlock≠some b
theorem kY {W:World} {lo hi:Nat} {v:Value} {acc:List Pt} {us:List PV} (ho:w.ownsRow lo 101 9 v acc.length (us.flatMap PV.cells)) (ha:dA w (Bx lo hi v) acc us) (hx:∀b,lo<=b ->b<w.heap.size ->W.heap[b]? =w.heap[b]?) (hs:w.heap.size<=W.heap.size) (hhi:hi<=W.heap.size) {lo':Nat} (hl:lo'<=lo):
  ∃p c,v= .slice p acc.length c/\((p=none/\acc.length=0/\c=0)\/∃g,p=some ⟨g,0,none⟩/\acc.length<=c/\Btw lo' W.heap.size g/\g<W.heap.size/\PRL W (Btw lo' W.heap.size) g acc 0):=by
 have ha':dA W (Btw lo' W.heap.size) acc us:=ha.frame (fun b hb=>⟨by have:=hb.1;omega,by have:=hb.2.1;omega⟩) hs (fun b hb hlt=>hx b hb.1 hlt) acc us
 rcases ho.2 with⟨rfl,h0⟩|⟨g,cap,cur,rfl,hb,hg,hnc,hcm,hcs,htk⟩
 ·exact⟨none,0,by rw[h0],.inl ⟨rfl,h0,rfl⟩⟩
 ·have hgl:g<w.heap.size:=(Array.getElem?_eq_some_iff.1 hg).1
  refine⟨_,cap,rfl,.inr ⟨g,rfl,hnc,⟨by omega,by omega⟩,by omega,ha'.prl acc us 0 (fun j y hy=> ?_)⟩⟩
  rw[World.cell?_of_block (hx g hb hgl),cell_of_row w g _ cur 101 (0,0) hg]
  have hj:j<acc.length*9:=by have:=(List.getElem?_eq_some_iff.1 hy).1;rw[ho.1]at this;exact this
  rw[<-htk,List.getElem?_take,if_pos hj]at hy
  simpa using hy
theorem yt {E:RS ->Res Pt} (h:RG w r mb t x s) (hnp:NP t) (hg5:s.g<=5) (hd6:s.d<=6) (hE:s.d<6 ->EC t r mb x (s.d+1) E) (hEi:EI E):
  Calls Tryz.prog 136 #[.pointer (some ⟨r,0,none⟩)] w fun e w'=>ay [r,mb] r mb t x w (fun w' v l=>RP w.heap.size w' v (.seq l)) (aR t E (t.size+1) [] s) e w':=by
 obtain⟨i0,hi,hz0,hz1,hz2⟩:=info_parts qQ
 have hlt:=h.lt
 have hmlt:=h.mlt
 have helt:=h.elt
 have ht:=h.ht
 have hk:=h.hk
 have hne:w.heap.size≠r:=by omega
 have H:=aa h
 have HEI:=aa hEi
 have KP:Hid (∀(w:World) (s':RS),RG w r mb t x s' ->s'.g<=5 ->s'.d=s.d ->Calls Tryz.prog 178 #[.pointer (some ⟨r,0,none⟩)] w fun e w'=>ay [r,mb] r mb t x w (RP w.heap.size) (aW t E s') e w'):=
  fun w s' h hg hd=>zD h hnp hg (by omega) (by rw[hd];exact hE) (fun a q b h1 h2=>(hEi a q b h1 h2).2.1)
 obtain⟨R,hR⟩:∃R,aR t E (t.size+1) [] s=R:=⟨_,rfl⟩
 have HR:=aa hR
 rw[hR]
 clear h hnp hE hEi hR
 go_enter Tryz.func136,Tryz.ntmps136
 go_wp2_with fail
 go_loopg [3] t.size (fun gk v3 wr=>∃(acc:List Pt) (us:List PV) (s':RS),aR t E (gk+1) acc s'=R/\t.size-s'.k<=gk/\acc.length<=s'.k/\RG wr r mb t x s'/\s'.g<=5/\s'.d=s.d/\wr.ownsRow (w.heap.size+1) 101 9 v3 acc.length (us.flatMap PV.cells)/\dA wr (Bx (w.heap.size+1) wr.heap.size v3) acc us/\Ex [r,mb] (w.alloc (Obj.cells #[.int .i64 0,.slice none 0 0,.int .u64 0,.int .u64 0,.bool false,.int .i64 0,.int .i64 0,.int .i64 0,.bool false] 101)) wr)
 case atStart=>exact⟨[],[],s,HR.O,by omega,Nat.zero_le _,H.O.alloc _,hg5,rfl,World.ownsRow_nil _ _ _ _,trivial,Ex.refl _ _⟩
 case round=>
  obtain⟨acc,us,s',hRc,hfu,hal,hg,hsg,hsd,hown,hall,hx⟩:=hrel
  have HX:=aa hx
  have HRC:=aa hRc
  have HG:=aa hg
  have HALL:=aa hall
  have HO:=aa hown
  have HSD:=aa hsd
  have hsk:=hg.hk
  have hzr:w.heap.size+1<=wr.heap.size:=by have:=hx.size;simpa using this
  obtain⟨p3,c3,rfl⟩:=aA hown
  clear hx hRc hg hall hown hsd
  go_wp2_with fail
  refine (su HG.O).mono ?_
  rintro e w1 ⟨rfl,n1,hw1⟩
  have G1:Hid (RG w1 r mb t x s'):=by rw[hw1];exact HG.O.drewN _
  have X1:Hid (Ex [] wr w1):=by rw[hw1];exact (Ex.refl _ _).drewN _
  have hs1:Hid (w1.heap.size=wr.heap.size):=by show w1.heap.size=wr.heap.size;rw[hw1];rfl
  clear hw1
  by_cases hend:s'.k=t.size
  ·rw[decide_eq_true hend]
   have MR:Hid (R= .ok acc s'):=by show R=_;rw[<-HRC.O];unfold aR;rw[if_pos (Or.inl hend)]
   clear hend
   have HXX:=aa (HX.O.trans (X1.O.drop (by simp)))
   have BR:=aa ((BK.new w (Obj.cells #[.int .i64 0,.slice none 0 0,.int .u64 0,.int .u64 0,.bool false,.int .i64 0,.int .i64 0,.int .i64 0,.bool false] 101)).ex HXX.O (by simp;omega))
   have HAL:Hid ((#[.int .i64 1,.slice p3 acc.length c3,.int .u64 0,.int .u64 0,.bool false,.int .i64 0,.int .i64 0,.int .i64 0,.bool false]:Array Value).all (·.oneCell')=true):=by show Array.all _ _=true;simp[Value.oneCell']
   have HSZ:Hid ((Tryz.prog.info? 101).map (·.size)=some (#[.int .i64 1,.slice p3 acc.length c3,.int .u64 0,.int .u64 0,.bool false,.int .i64 0,.int .i64 0,.int .i64 0,.bool false]:Array Value).size):=bz
   go_wp2_with (refine wpList_store_row rfl 101 _ _ rfl w.heap.size #[.int .i64 1,.slice p3 acc.length c3,.int .u64 0,.int .u64 0,.bool false,.int .i64 0,.int .i64 0,.int .i64 0,.bool false] rfl rfl 101 _ BR.O HSZ.O rfl HAL.O ?_)
   refine bodyPost_ret (aq rfl rfl (cB (S:=[.int .i64 1,.slice p3 acc.length c3,.int .u64 0,.int .u64 0,.bool false,.int .i64 0,.int .i64 0,.int .i64 0,.bool false]) (setRow_heap _ _ _ _ _ _ BR.O) rfl)) rfl (ay.mkOk MR.O ?_ ?_ ?_)
   ·generalize hW:World.setRow _ _ _=W
    have hWx:Ex [w.heap.size] wr W:=by rw[<-hW];exact (X1.O.drop (by simp)).setRow (Or.inl (by simp)) _
    obtain⟨p,c,hv,hrow⟩:=kY (W:=W) HO.O HALL.O (fun b hb hlt=>hWx.block b hlt (by simp;omega)) hWx.size hWx.size (lo':=w.heap.size) (by omega)
    cases hv
    exact⟨⟨1,p3,acc.length,c3,0,0,false,0,0,0,false⟩,rfl,p3,acc.length,c3,rfl,rfl,hrow⟩
   ·exact RG.row G1.O hlt hmlt helt (Nat.le_refl _) _
   ·exact Ex.row (((Ex.refl _ _).alloc _).trans HXX.O) (Nat.le_refl _) _
  rw[decide_eq_false hend]
  go_wp2_with fail
  refine (wv G1.O 124 124 rfl).mono ?_
  rintro e w2 ⟨rfl,n2,hw2⟩
  have G2:Hid (RG w2 r mb t x s'):=by rw[hw2];exact G1.O.drewN _
  have X2:Hid (Ex [] wr w2):=by rw[hw2];exact X1.O.drewN _
  have hs2:Hid (w2.heap.size=wr.heap.size):=by show w2.heap.size=wr.heap.size;rw[hw2];exact hs1.O
  clear hw2 G1 X1
  cases hq:ac t s' 124 with
  |true=>
   have MR:Hid (R= .ok acc s'):=by show R=_;rw[<-HRC.O];unfold aR;rw[if_pos (Or.inr (Or.inl hq))]
   clear hq hend
   have HXX:=aa (HX.O.trans (X2.O.drop (by simp)))
   have BR:=aa ((BK.new w (Obj.cells #[.int .i64 0,.slice none 0 0,.int .u64 0,.int .u64 0,.bool false,.int .i64 0,.int .i64 0,.int .i64 0,.bool false] 101)).ex HXX.O (by simp;omega))
   have HAL:Hid ((#[.int .i64 1,.slice p3 acc.length c3,.int .u64 0,.int .u64 0,.bool false,.int .i64 0,.int .i64 0,.int .i64 0,.bool false]:Array Value).all (·.oneCell')=true):=by show Array.all _ _=true;simp[Value.oneCell']
   have HSZ:Hid ((Tryz.prog.info? 101).map (·.size)=some (#[.int .i64 1,.slice p3 acc.length c3,.int .u64 0,.int .u64 0,.bool false,.int .i64 0,.int .i64 0,.int .i64 0,.bool false]:Array Value).size):=bz
   go_wp2_with (refine wpList_store_row rfl 101 _ _ rfl w.heap.size #[.int .i64 1,.slice p3 acc.length c3,.int .u64 0,.int .u64 0,.bool false,.int .i64 0,.int .i64 0,.int .i64 0,.bool false] rfl rfl 101 _ BR.O HSZ.O rfl HAL.O ?_)
   refine bodyPost_ret (aq rfl rfl (cB (S:=[.int .i64 1,.slice p3 acc.length c3,.int .u64 0,.int .u64 0,.bool false,.int .i64 0,.int .i64 0,.int .i64 0,.bool false]) (setRow_heap _ _ _ _ _ _ BR.O) rfl)) rfl (ay.mkOk MR.O ?_ ?_ ?_)
   ·generalize hW:World.setRow _ _ _=W
    have hWx:Ex [w.heap.size] wr W:=by rw[<-hW];exact (X2.O.drop (by simp)).setRow (Or.inl (by simp)) _
    obtain⟨p,c,hv,hrow⟩:=kY (W:=W) HO.O HALL.O (fun b hb hlt=>hWx.block b hlt (by simp;omega)) hWx.size hWx.size (lo':=w.heap.size) (by omega)
    cases hv
    exact⟨⟨1,p3,acc.length,c3,0,0,false,0,0,0,false⟩,rfl,p3,acc.length,c3,rfl,rfl,hrow⟩
   ·exact RG.row G2.O hlt hmlt helt (Nat.le_refl _) _
   ·exact Ex.row (((Ex.refl _ _).alloc _).trans HXX.O) (Nat.le_refl _) _
  |false=>
  have Q1:=aa hq
  clear hq
  go_wp2_with fail
  refine (wv G2.O 41 41 rfl).mono ?_
  rintro e w3 ⟨rfl,n3,hw3⟩
  have G3:Hid (RG w3 r mb t x s'):=by rw[hw3];exact G2.O.drewN _
  have X3:Hid (Ex [] wr w3):=by rw[hw3];exact X2.O.drewN _
  have hs3:Hid (w3.heap.size=wr.heap.size):=by show w3.heap.size=wr.heap.size;rw[hw3];exact hs2.O
  clear hw3 G2 X2
  cases hq:ac t s' 41 with
  |true=>
   have MR:Hid (R= .ok acc s'):=by show R=_;rw[<-HRC.O];unfold aR;rw[if_pos (Or.inr (Or.inr hq))]
   clear hq hend
   have HXX:=aa (HX.O.trans (X3.O.drop (by simp)))
   have BR:=aa ((BK.new w (Obj.cells #[.int .i64 0,.slice none 0 0,.int .u64 0,.int .u64 0,.bool false,.int .i64 0,.int .i64 0,.int .i64 0,.bool false] 101)).ex HXX.O (by simp;omega))
   have HAL:Hid ((#[.int .i64 1,.slice p3 acc.length c3,.int .u64 0,.int .u64 0,.bool false,.int .i64 0,.int .i64 0,.int .i64 0,.bool false]:Array Value).all (·.oneCell')=true):=by show Array.all _ _=true;simp[Value.oneCell']
   have HSZ:Hid ((Tryz.prog.info? 101).map (·.size)=some (#[.int .i64 1,.slice p3 acc.length c3,.int .u64 0,.int .u64 0,.bool false,.int .i64 0,.int .i64 0,.int .i64 0,.bool false]:Array Value).size):=bz
   go_wp2_with (refine wpList_store_row rfl 101 _ _ rfl w.heap.size #[.int .i64 1,.slice p3 acc.length c3,.int .u64 0,.int .u64 0,.bool false,.int .i64 0,.int .i64 0,.int .i64 0,.bool false] rfl rfl 101 _ BR.O HSZ.O rfl HAL.O ?_)
   refine bodyPost_ret (aq rfl rfl (cB (S:=[.int .i64 1,.slice p3 acc.length c3,.int .u64 0,.int .u64 0,.bool false,.int .i64 0,.int .i64 0,.int .i64 0,.bool false]) (setRow_heap _ _ _ _ _ _ BR.O) rfl)) rfl (ay.mkOk MR.O ?_ ?_ ?_)
   ·generalize hW:World.setRow _ _ _=W
    have hWx:Ex [w.heap.size] wr W:=by rw[<-hW];exact (X3.O.drop (by simp)).setRow (Or.inl (by simp)) _
    obtain⟨p,c,hv,hrow⟩:=kY (W:=W) HO.O HALL.O (fun b hb hlt=>hWx.block b hlt (by simp;omega)) hWx.size hWx.size (lo':=w.heap.size) (by omega)
    cases hv
    exact⟨⟨1,p3,acc.length,c3,0,0,false,0,0,0,false⟩,rfl,p3,acc.length,c3,rfl,rfl,hrow⟩
   ·exact RG.row G3.O hlt hmlt helt (Nat.le_refl _) _
   ·exact Ex.row (((Ex.refl _ _).alloc _).trans HXX.O) (Nat.le_refl _) _
  |false=>
  have HRN:Hid (R=(aW t E s').bind fun p s''=>aR t E gk (acc++[p]) s''):=by show R=_;rw[<-HRC.O];(conv=>lhs;unfold aR);rw[if_neg (by simp[hend,Q1.O,hq])]
  clear hq
  go_wp2_with fail
  refine (KP.O _ s' G3.O hsg HSD.O).mono ?_
  rintro e w4 hp
  rcases hp.split with⟨q,s4,v,hm,rfl,hRP,hg4,hx4⟩|⟨s9,hm,rfl,hg,hx⟩
  rotate_left
  ·exact ab rfl (ay.mkBad (by rw[HRN.O,hm];rfl) hg (((Ex.refl _ _).alloc _).trans (HX.O.trans ((X3.O.drop (by simp)).trans hx))))
  obtain⟨u,rfl,hpr⟩:=hRP
  obtain⟨hk4,hd4,_,hg45⟩:=kc HEI.O hsg hm
  have hkt:=hg4.hk
  obtain⟨g,rfl⟩:∃g,gk=g+1:=⟨gk-1,by omega⟩
  have HRB:Hid (aR t E (g+1) (acc++[q]) s4=R):=by show _=R;rw[HRN.O,hm];rfl
  have HD4:=aa (hd4.trans HSD.O)
  have G4:=aa hg4
  have X4:Hid (Ex [r,mb] wr w4):=(X3.O.drop (by simp)).trans hx4
  have hle4:wr.heap.size<=w4.heap.size:=X4.O.size
  have HPR:=aa hpr
  have HU:=aa u.all_one
  obtain⟨xs,hxs⟩:∃xs,us.flatMap PV.cells=xs:=⟨_,rfl⟩
  have HXS:=aa hxs
  rw[hxs]at HO
  have hown4:=aU HO.O X4.O (by simp;omega)
  have hownB:∀k,(Value.slice p3 acc.length c3).ownBlock=some k ->w.heap.size+1<=k/\k<wr.heap.size:=fun k hk=>HO.O.lt k hk
  have HOB:=aa hownB
  obtain⟨n,hn⟩:∃n,acc.length=n:=⟨_,rfl⟩
  have HNN:=aa hn
  rw[hn]at hown4 HO HOB hal ⊢
  have HALL2:=HALL
  rw[hn]at HALL2
  clear hp hm hg4 hx4 hd4 hpr hxs hownB hn HALL
  have HS1:=HPR
  obtain⟨kd,up,un,uc,ulo,uhi,uhg,ug,ul,um,uz⟩:=u
  unfold PV.val
  unfold PV.cells at HU
  have H4:=aa hown4
  clear hown4
  go_wp2_with (at_builtin;refine wpList_append_lies _ rfl (.tmp 17) (.tmp 20) 96 rfl (w.heap.size+1) 101 i0 (.agg #[.int .i64 0,.slice none 0 0,.int .u64 0,.int .u64 0,.bool false,.int .i64 0,.int .i64 0,.int .i64 0,.bool false]) 9 88 Tryz.underlying96 hi hz0 hz1 hz2 rfl (by decide) (.slice p3 n c3) n xs rfl (H4.O.alloc _) ⟨w4.heap.size,0,none⟩ 1 1 [.int .i64 kd,.slice up un uc,.int .u64 ulo,.int .u64 uhi,.bool uhg,.int .i64 ug,.int .i64 ul,.int .i64 um,.bool uz] rfl rfl (bK _ _ _) HU.O (by decide) (by unfold maxLen;omega) (by omega) (by simp;omega) (w4.heap.size+1) (by simp) ?_)
  intro gb cap w5 hown5 hgrow hcase hlt5
  have hob5:=aG hown5
  have HO5:=aa hown5
  have HGR:=aa hgrow
  have HCA:=aa hcase
  clear hown5 hgrow hcase
  go_wp2
  go_roundg g
  case measure=>omega
  case rel=>
   have hx5:∀b,b<w4.heap.size ->(Value.slice p3 n c3).ownBlock≠some b ->w5.heap[b]? =w4.heap[b]? :=fun b hb hn=>by
    rw[HGR.O.block b (by simp;omega) (fun e=>hn e.symm)]
    exact Below.heap_alloc _ _ _ hb
   have hsz5:w4.heap.size+1<=w5.heap.size:=by have:=HGR.O.size;simpa using this
   have hgb:∀b,b<w4.heap.size ->(Value.slice p3 n c3).ownBlock≠some b ->gb≠b:=fun b hb hn e=>by
    rcases HCA.O with h1|h1
    ·exact hn (by rw[h1,e])
    ·omega
   refine⟨acc++[q],us++[⟨kd,up,un,uc,ulo,uhi,uhg,ug,ul,um,uz⟩],s4,HRB.O,by omega,by simp;have:=HNN.O;omega,?_,hg45,HD4.O,?_,?_,?_⟩
   ·have hxg:Ex ((Value.slice p3 n c3).ownBlock).toList w4 w5:=Ex.grown ((Ex.refl _ _).alloc _) HGR.O (fun k hk=>Or.inl (by simp[hk]))
    refine RG.ex G4.O hxg (fun hm=> ?_) (fun hm=> ?_) (fun hm=> ?_)
    all_goals
     have h9:=HOB.O _ (by simpa using hm)
     omega
   ·have h9:=HO5.O
    rw[<-HXS.O]at h9
    rw[List.length_append,HNN.O,List.flatMap_append]
    simpa[PV.cells]using h9
   ·refine dA.snoc ?_ acc us ?_
    ·refine PR.frame ?_ (by omega) ?_ q _ HPR.O
     ·intro b hb
      have h1:=hb.1
      have h2:=hb.2
      rw[hs3.O]at h1
      have hnb:(Value.slice p3 n c3).ownBlock≠some b:=fun e=>by have:=HOB.O b e;omega
      refine⟨by omega,by omega,?_⟩
      intro e
      exact hgb b h2 hnb (Option.some.inj e)
     ·intro b hb hl
      have h1:=hb.1
      rw[hs3.O]at h1
      exact hx5 b hl (fun e=>by have:=HOB.O b e;omega)
    ·refine dA.frame ?_ (by omega) ?_ acc us HALL2.O
     ·intro b hb
      exact⟨hb.1,by have:=hb.2.1;omega,fun e=>hgb b (by have:=hb.2.1;omega) hb.2.2 (Option.some.inj e)⟩
     ·intro b hb hl
      rw[hx5 b (by omega) hb.2.2]
      exact X4.O.block b hl (by have:=hb.1;simp;omega)
   ·exact Ex.grown ((HX.O.trans X4.O).alloc _) HGR.O (fun j hj=>Or.inr (by have:=HOB.O j hj;simp;omega))
theorem Ah {E:RS ->Res Pt} (h:RG w r mb t x s) (hnp:NP t) (hg5:s.g<=5) (hd6:s.d<=6) (hE:s.d<6 ->EC t r mb x (s.d+1) E) (hEi:EI E):
  Calls Tryz.prog 85 #[.pointer (some ⟨r,0,none⟩)] w fun e w'=>ay [r,mb] r mb t x w (RP w.heap.size) (dm t E s) e w':=by
 obtain⟨i0,hi,hz0,hz1,hz2⟩:=info_parts qQ
 have hlt:=h.lt
 have hmlt:=h.mlt
 have helt:=h.elt
 have ht:=h.ht
 have hne:w.heap.size≠r:=by omega
 have H:=aa h
 have HEI:=aa hEi
 have KB:Hid (∀(w:World) (s':RS),RG w r mb t x s' ->s'.g<=5 ->s'.d=s.d ->Calls Tryz.prog 136 #[.pointer (some ⟨r,0,none⟩)] w fun e w'=>ay [r,mb] r mb t x w (fun w' v l=>RP w.heap.size w' v (.seq l)) (aR t E (t.size+1) [] s') e w'):=
  fun w s' h hg hd=>yt h hnp hg (by omega) (by rw[hd];exact hE) hEi
 clear h hnp hE hEi
 go_enter Tryz.func85,Tryz.ntmps85
 go_wp2_with fail
 refine (KB.O _ s (H.O.alloc _) hg5 rfl).mono ?_
 rintro e w1 hp
 rcases hp.split with⟨l0,s1,v,hm,rfl,hRP,hg1,hx1⟩|⟨s9,hm,rfl,hg,hx⟩
 rotate_left
 ·exact ab rfl (ay.mkBad (by unfold dm;rw[hm];rfl) hg (((Ex.refl _ _).alloc _).trans hx))
 obtain⟨u,rfl,hpr⟩:=hRP
 obtain⟨hk1,hd1,_,hg15⟩:=dw HEI.O _ _ _ _ _ hg5 hm
 obtain⟨R,hR⟩:∃R,fi t E (t.size+1) [.seq l0] s1=R:=⟨_,rfl⟩
 have HR:=aa hR
 have HM1:Hid (dm t E s=R.bind fun b s2=> .ok (.alt b) s2):=by show dm t E s=_;unfold dm;rw[hm,Res.bind_ok,hR]
 have HD1:=aa hd1
 have G1:=aa hg1
 have X1:=aa hx1
 have hle1:w.heap.size+1<=w1.heap.size:=by have:=hx1.size;simpa using this
 have HPR:=aa hpr
 have hk1t:=hg1.hk
 obtain⟨kd,up,un,uc,ulo,uhi,uhg,ug,ul,um,uz⟩:=u
 clear hp hm hg1 hx1 hd1 hpr hR
 unfold PV.val
 go_wp2_with fail
 go_loopg [3] t.size (fun gk v3 wr=>∃(acc:List Pt) (us:List PV) (s':RS),fi t E (gk+1) acc s'=R/\t.size-s'.k<=gk/\acc.length<=s'.k+1/\RG wr r mb t x s'/\s'.g<=5/\s'.d=s.d/\wr.ownsRow (w.heap.size+1) 101 9 v3 acc.length (us.flatMap PV.cells)/\dA wr (Bx (w.heap.size+1) wr.heap.size v3) acc us/\Ex [r,mb] (w.alloc (Obj.cells #[.int .i64 0,.slice none 0 0,.int .u64 0,.int .u64 0,.bool false,.int .i64 0,.int .i64 0,.int .i64 0,.bool false] 101)) wr)
 case atStart=>
  refine⟨[.seq l0],[⟨kd,up,un,uc,ulo,uhi,uhg,ug,ul,um,uz⟩],s1,HR.O,by omega,by simp,G1.O.alloc _,hg15,HD1.O,?_,⟨?_,trivial⟩,X1.O.alloc _⟩
  ·refine⟨by simp[PV.cells],.inr ⟨w1.heap.size,1,#[.int .i64 kd,.slice up un uc,.int .u64 ulo,.int .u64 uhi,.bool uhg,.int .i64 ug,.int .i64 ul,.int .i64 um,.bool uz],rfl,by omega,BK.new _ _,by simp,by unfold maxLen;omega,by simp,by simp[PV.cells]⟩⟩
  ·refine PR.frame ?_ (by simp) ?_ _ _ HPR.O
   ·intro b hb
    have h1:=hb.1
    have h2:=hb.2
    simp at h1
    exact⟨h1,by simp;omega,fun e=>by simp[Value.ownBlock]at e;omega⟩
   ·intro b hb hl
    exact Below.heap_alloc _ _ _ hl
 case round=>
  obtain⟨acc,us,s',hRc,hfu,hal,hg,hsg,hsd,hown,hall,hx⟩:=hrel
  have HX:=aa hx
  have HRC:=aa hRc
  have HG:=aa hg
  have HALL:=aa hall
  have HO:=aa hown
  have HSD:=aa hsd
  have hsk:=hg.hk
  have hzr:w.heap.size+1<=wr.heap.size:=by have:=hx.size;simpa using this
  obtain⟨p3,c3,rfl⟩:=aA hown
  clear hx hRc hg hall hown hsd
  go_wp2_with fail
  refine (de HG.O 124 124 rfl).mono ?_
  rintro e w2 ⟨rfl,hg2,hx2⟩
  have X2:Hid (Ex [r] wr w2):=hx2
  have hle2:=hx2.size
  cases hq:ac t s' 124 with
  |false=>
   rw[cU hq]at hg2
   have G2:=aa hg2
   have MR:Hid (dm t E s= .ok (.alt acc) s'):=by show dm t E s=_;rw[HM1.O,<-HRC.O];unfold fi;rw[if_neg (by simp[hq])];rfl
   clear hq hg2 hx2
   have HXX:=aa (HX.O.trans (X2.O.drop (by simp)))
   have BR:=aa ((BK.new w (Obj.cells #[.int .i64 0,.slice none 0 0,.int .u64 0,.int .u64 0,.bool false,.int .i64 0,.int .i64 0,.int .i64 0,.bool false] 101)).ex HXX.O (by simp;omega))
   have HAL:Hid ((#[.int .i64 2,.slice p3 acc.length c3,.int .u64 0,.int .u64 0,.bool false,.int .i64 0,.int .i64 0,.int .i64 0,.bool false]:Array Value).all (·.oneCell')=true):=by show Array.all _ _=true;simp[Value.oneCell']
   have HSZ:Hid ((Tryz.prog.info? 101).map (·.size)=some (#[.int .i64 2,.slice p3 acc.length c3,.int .u64 0,.int .u64 0,.bool false,.int .i64 0,.int .i64 0,.int .i64 0,.bool false]:Array Value).size):=bz
   go_wp2_with (refine wpList_store_row rfl 101 _ _ rfl w.heap.size #[.int .i64 2,.slice p3 acc.length c3,.int .u64 0,.int .u64 0,.bool false,.int .i64 0,.int .i64 0,.int .i64 0,.bool false] rfl rfl 101 _ BR.O HSZ.O rfl HAL.O ?_)
   refine bodyPost_ret (aq rfl rfl (cB (S:=[.int .i64 2,.slice p3 acc.length c3,.int .u64 0,.int .u64 0,.bool false,.int .i64 0,.int .i64 0,.int .i64 0,.bool false]) (setRow_heap _ _ _ _ _ _ BR.O) rfl)) rfl (ay.mkOk MR.O ?_ ?_ ?_)
   ·generalize hW:World.setRow _ _ _=W
    have hWx:Ex [r,w.heap.size] wr W:=by rw[<-hW];exact (X2.O.drop (by simp)).setRow (Or.inl (by simp)) _
    obtain⟨p,c,hv,hrow⟩:=kY (W:=W) HO.O HALL.O (fun b hb hlt=>hWx.block b hlt (by simp;omega)) hWx.size hWx.size (lo':=w.heap.size) (by omega)
    cases hv
    exact⟨⟨2,p3,acc.length,c3,0,0,false,0,0,0,false⟩,rfl,p3,acc.length,c3,rfl,rfl,hrow⟩
   ·exact RG.row G2.O hlt hmlt helt (Nat.le_refl _) _
   ·exact Ex.row (((Ex.refl _ _).alloc _).trans HXX.O) (Nat.le_refl _) _
  |true=>
  rw[ck hq]at hg2
  have hsl:=yR hq
  have G2:=aa hg2
  have HRN:Hid (R=(aR t E (t.size+1) [] s'.up).bind fun l s''=>fi t E gk (acc++[.seq l]) s''):=by
   show R=_
   rw[<-HRC.O]
   conv=>lhs;unfold fi
   rw[if_pos hq]
  clear hq hg2 hx2
  go_wp2_with fail
  refine (KB.O _ s'.up G2.O hsg HSD.O).mono ?_
  rintro e w4 hp
  rcases hp.split with⟨lq,s4,v,hm,rfl,hRP,hg4,hx4⟩|⟨s9,hm,rfl,hg,hx⟩
  rotate_left
  ·exact ab rfl (ay.mkBad (by rw[HM1.O,HRN.O,hm];rfl) hg (((Ex.refl _ _).alloc _).trans (HX.O.trans ((X2.O.drop (by simp)).trans hx))))
  obtain⟨u,rfl,hpr⟩:=hRP
  obtain⟨hk4,hd4,_,hg45⟩:=dw HEI.O _ _ _ _ _ (by exact hsg) hm
  have hk4':s'.k+1<=s4.k:=hk4
  have hkt:=hg4.hk
  obtain⟨g,rfl⟩:∃g,gk=g+1:=⟨gk-1,by omega⟩
  have HRB:Hid (fi t E (g+1) (acc++[.seq lq]) s4=R):=by show _=R;rw[HRN.O,hm];rfl
  have HD4:Hid (s4.d=s.d):=by show s4.d=s.d;rw[hd4];exact HSD.O
  have G4:=aa hg4
  have X4:Hid (Ex [r,mb] wr w4):=(X2.O.drop (by simp)).trans hx4
  have hle4:wr.heap.size<=w4.heap.size:=X4.O.size
  have HPR:=aa hpr
  have HU:=aa u.all_one
  obtain⟨xs,hxs⟩:∃xs,us.flatMap PV.cells=xs:=⟨_,rfl⟩
  have HXS:=aa hxs
  rw[hxs]at HO
  have hown4:=aU HO.O X4.O (by simp;omega)
  have hownB:∀k,(Value.slice p3 acc.length c3).ownBlock=some k ->w.heap.size+1<=k/\k<wr.heap.size:=fun k hk=>HO.O.lt k hk
  have HOB:=aa hownB
  obtain⟨n,hn⟩:∃n,acc.length=n:=⟨_,rfl⟩
  have HNN:=aa hn
  rw[hn]at hown4 HO HOB hal ⊢
  have HALL2:=HALL
  rw[hn]at HALL2
  clear hp hm hg4 hx4 hd4 hpr hxs hownB hn HALL
  obtain⟨kd,up,un,uc,ulo,uhi,uhg,ug,ul,um,uz⟩:=u
  unfold PV.val
  unfold PV.cells at HU
  have H4:=aa hown4
  clear hown4
  go_wp2_with (at_builtin;refine wpList_append_lies _ rfl (.tmp 9) (.tmp 12) 96 rfl (w.heap.size+1) 101 i0 (.agg #[.int .i64 0,.slice none 0 0,.int .u64 0,.int .u64 0,.bool false,.int .i64 0,.int .i64 0,.int .i64 0,.bool false]) 9 88 Tryz.underlying96 hi hz0 hz1 hz2 rfl (by decide) (.slice p3 n c3) n xs rfl (H4.O.alloc _) ⟨w4.heap.size,0,none⟩ 1 1 [.int .i64 kd,.slice up un uc,.int .u64 ulo,.int .u64 uhi,.bool uhg,.int .i64 ug,.int .i64 ul,.int .i64 um,.bool uz] rfl rfl (bK _ _ _) HU.O (by decide) (by unfold maxLen;omega) (by omega) (by simp;omega) (w4.heap.size+1) (by simp) ?_)
  intro gb cap w5 hown5 hgrow hcase hlt5
  have hob5:=aG hown5
  have HO5:=aa hown5
  have HGR:=aa hgrow
  have HCA:=aa hcase
  clear hown5 hgrow hcase
  go_wp2
  go_roundg g
  case measure=>omega
  case rel=>
   have hx5:∀b,b<w4.heap.size ->(Value.slice p3 n c3).ownBlock≠some b ->w5.heap[b]? =w4.heap[b]? :=fun b hb hn=>by
    rw[HGR.O.block b (by simp;omega) (fun e=>hn e.symm)]
    exact Below.heap_alloc _ _ _ hb
   have hsz5:w4.heap.size+1<=w5.heap.size:=by have:=HGR.O.size;simpa using this
   have hgb:∀b,b<w4.heap.size ->(Value.slice p3 n c3).ownBlock≠some b ->gb≠b:=fun b hb hn e=>by
    rcases HCA.O with h1|h1
    ·exact hn (by rw[h1,e])
    ·omega
   refine⟨acc++[.seq lq],us++[⟨kd,up,un,uc,ulo,uhi,uhg,ug,ul,um,uz⟩],s4,HRB.O,by omega,by simp;have:=HNN.O;omega,?_,hg45,HD4.O,?_,?_,?_⟩
   ·have hxg:Ex ((Value.slice p3 n c3).ownBlock).toList w4 w5:=Ex.grown ((Ex.refl _ _).alloc _) HGR.O (fun k hk=>Or.inl (by simp[hk]))
    refine RG.ex G4.O hxg (fun hm=> ?_) (fun hm=> ?_) (fun hm=> ?_)
    all_goals
     have h9:=HOB.O _ (by simpa using hm)
     omega
   ·have h9:=HO5.O
    rw[<-HXS.O]at h9
    rw[List.length_append,HNN.O,List.flatMap_append]
    simpa[PV.cells]using h9
   ·refine dA.snoc ?_ acc us ?_
    ·refine PR.frame ?_ (by omega) ?_ _ _ HPR.O
     ·intro b hb
      have h1:=hb.1
      have h2:=hb.2
      have hnb:(Value.slice p3 n c3).ownBlock≠some b:=fun e=>by have:=HOB.O b e;omega
      refine⟨by omega,by omega,?_⟩
      intro e
      exact hgb b h2 hnb (Option.some.inj e)
     ·intro b hb hl
      have h1:=hb.1
      exact hx5 b hl (fun e=>by have:=HOB.O b e;omega)
    ·refine dA.frame ?_ (by omega) ?_ acc us HALL2.O
     ·intro b hb
      exact⟨hb.1,by have:=hb.2.1;omega,fun e=>hgb b (by have:=hb.2.1;omega) hb.2.2 (Option.some.inj e)⟩
     ·intro b hb hl
      rw[hx5 b (by omega) hb.2.2]
      exact X4.O.block b hl (by have:=hb.1;simp;omega)
   ·exact Ex.grown ((HX.O.trans X4.O).alloc _) HGR.O (fun j hj=>Or.inr (by have:=HOB.O j hj;simp;omega))
theorem tG (hnp:NP t):∀(n d:Nat),d+n=7 ->0<n ->EC t r mb x d (ep t n)
 |0,_,_,h0=>absurd h0 (Nat.lt_irrefl _)
 |n+1,d,hd,_=>by
  intro w s h hg hsd
  refine Ah h hnp hg (by omega) (fun h6=> ?_) (g8 t n)
  rw[hsd]
  exact tG hnp n (d+1) (by omega) (by omega)
mutual
def wt:Pt ->Nat
 |.single _=>1
 |.seq l=>wtL l
 |.alt l=>wtL l+l.length-1
 |.wrap q _=>wt q+1
 |.count q le mo _=>wt q*(if mo= -1 then le+1 else mo.toNat)+1
def wtL:List Pt ->Nat
 |[]=>0
 |q::l=>wt q+wtL l
end
mutual
def WOK:Pt ->Prop
 |.single _=>True
 |.seq l=>oW l/\wtL l<1000000000000000000/\l.length<1000000000000000000
 |.alt l=>oW l/\wtL l<1000000000000000000/\l.length<1000000000000000000/\1<=l.length
 |.wrap q k=>WOK q/\wt q<1000000000000000000/\k<1000000
 |.count q le mo _=>WOK q/\wt q<1000000000000000000/\(le:Int)<1000000000000000000/\ -1<=mo/\mo<1000000000000000000/\wt q*(if mo= -1 then le+1 else mo.toNat)<1000000000000000000
def oW:List Pt ->Prop
 |[]=>True
 |q::l=>WOK q/\oW l
end
theorem dk (a b:List Pt):wtL (a++b)=wtL a+wtL b:=by
 induction a with
 |nil=>simp[wtL]
 |cons q a ih=>simp only[List.cons_append,wtL,ih];omega
theorem jc (h:oW l):∀q,q∈l ->WOK q:=by
 induction l with
 |nil=>simp
 |cons a l ih=>
  intro q hq
  rcases List.mem_cons.1 hq with rfl|hq
  ·exact h.1
  ·exact ih h.2 q hq
theorem xU (l:List Pt) (j:Nat) (hj:j<l.length):wtL (l.take (j+1))=wtL (l.take j)+wt l[j]:=by
 rw[List.take_succ_eq_append_getElem hj,dk]
 simp[wtL]
theorem rS (l:List Pt) (j:Nat):wtL (l.take j)<=wtL l:=by
 have:=dk (l.take j) (l.drop j)
 rw[List.take_append_drop]at this
 omega
def jW:Pt ->List Pt
 |.single _=>[]
 |.seq l=>l
 |.alt l=>l
 |.wrap q _=>[q]
 |.count q _ _ _=>[q]
def zI:Pt ->Int
 |.single _=>0
 |.seq _=>1
 |.alt _=>2
 |.wrap _ _=>3
 |.count _ _ _ _=>4
theorem PRL.at {B:Nat ->Prop} {g:Nat}:∀{l:List Pt} {i:Nat},PRL w B g l i ->∀(j:Nat) (hj:j<l.length),∃u,w.rangeAt g ((i+j)*9) u.cells/\PR w B l[j] u
 |[],_,_,j,hj=>by simp at hj
 |q::l,i,h,0,_=>by simpa using h.1
 |q::l,i,h,j+1,hj=>by
  have:=PRL.at h.2 j (by simpa using hj)
  rw[show i+1+j=i+(j+1) by omega]at this
  simpa using this
def Row (w:World) (B:Nat ->Prop) (v:PV) (l:List Pt):Prop:=v.n=l.length/\((v.p=none/\v.n=0/\v.c=0)\/∃g,v.p=some ⟨g,0,none⟩/\v.n<=v.c/\B g/\g<w.heap.size/\PRL w B g l 0)
theorem Row.frame {w':World} {B:Nat ->Prop} {v:PV} (h:Row w B v l) (hx:Ex [] w w'):Row w' B v l:=by
 refine⟨h.1,h.2.imp id ?_⟩
 rintro⟨g,hp,hc,hg,hl,hr⟩
 exact⟨g,hp,hc,hg,Nat.lt_of_lt_of_le hl hx.size,PRL.frame (fun _ h=>h) hx.size (fun b _ hlt=>hx.block b hlt (by simp)) g hg hl l 0 hr⟩
theorem PR.row {B:Nat ->Prop}:∀{q:Pt} {v:PV},PR w B q v ->Row w B v (jW q)/\v.kd=zI q
 |.single c,v,h=>by
  have h:v=_:=h
  subst h
  exact⟨⟨rfl,.inl ⟨rfl,rfl,rfl⟩⟩,rfl⟩
 |.seq l,v,h=>by
  obtain⟨p,n,c,rfl,hn,hr⟩:=h
  exact⟨⟨hn,hr⟩,rfl⟩
 |.alt l,v,h=>by
  obtain⟨p,n,c,rfl,hn,hr⟩:=h
  exact⟨⟨hn,hr⟩,rfl⟩
 |.wrap q k,v,h=>by
  obtain⟨g,rfl,hg,hl,u,hr,hq⟩:=h
  exact⟨⟨rfl,.inr ⟨g,rfl,Nat.le_refl _,hg,hl,⟨⟨u,by simpa using hr,hq⟩,trivial⟩⟩⟩,rfl⟩
 |.count q le mo la,v,h=>by
  obtain⟨g,rfl,hg,hl,u,hr,hq⟩:=h
  exact⟨⟨rfl,.inr ⟨g,rfl,Nat.le_refl _,hg,hl,⟨⟨u,by simpa using hr,hq⟩,trivial⟩⟩⟩,rfl⟩
theorem Row.at {B:Nat ->Prop} {v:PV} (h:Row w B v l) (j:Nat) (hj:j<l.length):∃g u,v.p=some ⟨g,0,none⟩/\v.n<=v.c/\B g/\g<w.heap.size/\w.rangeAt g (j*9) u.cells/\PR w B l[j] u:=by
 rcases h.2 with⟨_,h0,_⟩|⟨g,hp,hc,hg,hl,hr⟩
 ·have:=h.1
  omega
 ·obtain⟨u,hu,hq⟩:=hr.at j hj
  exact⟨g,u,hp,hc,hg,hl,by simpa using hu,hq⟩
def ec (l m:Int):Int:=if m= -1 then l+1 else m
theorem sg (v:PV) (w:World) (hl:0<=v.l/\v.l<1000000000000000000):
  Calls Tryz.prog 87 #[v.val] w fun e w'=>e= .returned (.int .i64 (ec v.l v.m))/\Ex [] w w':=by
 obtain⟨kd,p,n,c,lo,hi,hg,g,l,m,z⟩:=v
 simp only at hl
 unfold PV.val
 dsimp only
 by_cases hm:m= -1
 ·subst hm
  go_enter Tryz.func87,Tryz.ntmps87
  go_wp2_with fail
  go_ret
  exact⟨by simp[ec],(Ex.refl _ _).alloc _⟩
 ·go_enter Tryz.func87,Tryz.ntmps87
  go_wp2_with fail
  go_ret
  exact⟨by simp[ec,hm],(Ex.refl _ _).alloc _⟩
end Go.Proofs.YtfnanjbleifjkaaGreatDoor.G
