import Derived.Test.YtfnanjbleifjkaaGreatDoorM06
set_option linter.unusedVariables false
set_option linter.unusedSimpArgs false
set_option maxHeartbeats 2000000
set_option maxRecDepth 100000
namespace Go.Proofs.YtfnanjbleifjkaaGreatDoor.G
variable {w:World} {mb r:Nat} {t:ByteArray} {x:EV} {s:RS}
open Go.RowKit
theorem mZ (l:List UInt8) (b:UInt8):0<=Lib.indexByte l b↔b∈l:=by
 induction l with
 |nil=>simp[Lib.indexByte]
 |cons a l ih=>
  have hg:=Lib.indexByte_ge l b
  unfold Lib.indexByte
  by_cases h:a=b
  ·subst h;simp
  ·rw[if_neg (by simpa using h)]
   rw[List.mem_cons,<-ih]
   by_cases h2:Lib.indexByte l b= -1
   ·simp[h2];exact fun e=>h e.symm
   ·rw[if_neg (by simpa using h2)]
    constructor
    ·intro _;right;omega
    ·rintro (e|e)
     ·exact absurd e.symm h
     ·omega
theorem jQ (l:List UInt8) (b:UInt8) (w:World):Calls Tryz.prog 144 #[.string ⟨l.toArray⟩,.int .u8 (b.toNat:Int)] w fun e w'=>(∃ix:Int,e= .returned (.int .i64 ix)/\(0<=ix↔b∈l))/\w'=w:=by
 refine (Tryz.strings_IndexByte _ _ _).mono ?_
 rintro e w' ⟨rfl,rfl⟩
 refine⟨⟨_,rfl,?_⟩,rfl⟩
 simp only[Int.toNat_natCast,UInt8.ofNat_toNat]
 exact mZ l b
theorem cT {b:UInt8} (h:RG w r mb t x s) (hb:ai t s.k=some b):
  Calls Tryz.prog 236 #[.pointer (some ⟨r,0,none⟩)] w fun e w'=>e= .returned (.int .u8 b.toNat)/\∃n,w'=w.drewN n:=by
 refine (wn h).mono ?_
 rintro e w' ⟨hn,hp⟩
 rcases hp.split with⟨b',s',v,hm,rfl,hv,hg,hx⟩|⟨s',hm,rfl,hg,hx⟩
 ·rw[eU hb]at hm;cases hm;exact⟨by rw[hv],hn⟩
 ·rw[eU hb]at hm;cases hm
theorem iS (h:RG w r mb t x s) (hb:ai t s.k=none):
  Calls Tryz.prog 236 #[.pointer (some ⟨r,0,none⟩)] w fun e w'=>e= .panicked [{v:= .iface x.1 x.2,recovered:=false}]/\∃n,w'=w.drewN n:=by
 refine (wn h).mono ?_
 rintro e w' ⟨hn,hp⟩
 rcases hp.split with⟨b',s',v,hm,rfl,hv,hg,hx⟩|⟨s',hm,rfl,hg,hx⟩
 ·rw[gv hb]at hm;cases hm
 ·exact⟨rfl,hn⟩
theorem pe (h:RG w r mb t x s) (but:List UInt8):
  Calls Tryz.prog 242 #[.pointer (some ⟨r,0,none⟩),.string ⟨but.toArray⟩] w fun e w'=>ay [r] r mb t x w (fun _ v (b:UInt8)=>v= .int .u8 (b.toNat:Int)/\b.toNat<128) (aO t but s) e w':=by
 have hlt:=h.lt
 have ht:=h.ht
 obtain⟨ba,hba⟩:∃ba,(⟨but.toArray⟩:ByteArray)=ba:=⟨_,rfl⟩
 have KI:=aa (fun b w=>jQ but b w)
 rw[hba]at KI ⊢
 clear hba
 cases hb:ai t s.k with
 |none=>
  have HM:Hid (aO t but s= .bad s):=by show aO t but s=_;simp[aO,hb]
  have HB:=aa hb
  have H:=aa h
  clear h hb
  go_enter Tryz.func242,Tryz.ntmps242
  go_wp2_with fail
  refine (iS H.O HB.O).mono ?_
  rintro e w1 ⟨rfl,n1,rfl⟩
  exact ab rfl (ay.mkBad HM.O (H.O.drewN _) ((Ex.refl _ _).drewN _))
 |some b=>
  have hks:=(cP hb).1
  have hb256:=b.toNat_lt
  have HB:=aa hb
  have h1:=h.rd.c1
  have hf1:=h.rd.f1
  have hev:=h.ev
  have H:=aa h
  by_cases h128:128<=b.toNat
  ·have HM:Hid (aO t but s= .bad s):=by show aO t but s=_;simp[aO,hb];intro h;omega
   have e1:(128:Int)<=(b.toNat:Int):=by omega
   clear h hb
   go_enter Tryz.func242,Tryz.ntmps242
   go_wp2_with fail
   refine (cT H.O HB.O).mono ?_
   rintro e w1 ⟨rfl,n1,rfl⟩
   go_wp2_with fail
   exact ab rfl (ay.mkBad HM.O (H.O.drewN _) ((Ex.refl _ _).drewN _))
  ·have e1:¬(128:Int)<=(b.toNat:Int):=by omega
   have hb128:b.toNat<128:=by omega
   by_cases hin:b∈but
   ·have HM:Hid (aO t but s= .bad s):=by show aO t but s=_;simp[aO,hb,hin]
    have HIN:=aa hin
    clear h hb hin
    go_enter Tryz.func242,Tryz.ntmps242
    go_wp2_with fail
    refine (cT H.O HB.O).mono ?_
    rintro e w1 ⟨rfl,n1,rfl⟩
    go_wp2_with fail
    refine (KI.O b _).mono ?_
    rintro e w2 ⟨⟨ix,rfl,hix⟩,rfl⟩
    have hix0:0<=ix:=hix.2 HIN.O
    clear hix
    go_wp2_with fail
    exact ab rfl (ay.mkBad HM.O (H.O.drewN _) ((Ex.refl _ _).drewN _))
   ·have HM:Hid (aO t but s= .ok b s.up):=by show aO t but s=_;simp[aO,hb,hin];omega
    have HIN:=aa hin
    clear h hb hin
    go_enter Tryz.func242,Tryz.ntmps242
    go_wp2_with fail
    refine (cT H.O HB.O).mono ?_
    rintro e w1 ⟨rfl,n1,rfl⟩
    go_wp2_with fail
    refine (KI.O b _).mono ?_
    rintro e w2 ⟨⟨ix,rfl,hix⟩,rfl⟩
    have hix0:¬0<=ix:=fun h=>HIN.O (hix.1 h)
    clear hix
    go_wp2_with fail
    go_ret
    refine ay.mkOk HM.O ⟨rfl,hb128⟩ ?_ (((Ex.refl _ _).drewN _).setCell (Or.inl (by simp)) _)
    have:=(H.O.drewN n1).up hks
    simpa using this
theorem An {cs:Array Value} (h:cs.size=3):∃x0 x1 x2,cs= #[x0,x1,x2]:=by
 obtain⟨l⟩:=cs
 match l,h with
 |[x0,x1,x2],_=>exact⟨x0,x1,x2,rfl⟩
theorem wh {b:Nat} {cs:Array Value} {e:TypeId} (h:BK w b (.cells cs e (0,0))) (hs:cs.size=3) (a0 a1 a2:Value):
  BK (((w.setCell ⟨b,0,none⟩ a0).setCell ⟨b,1,none⟩ a1).setCell ⟨b,2,none⟩ a2) b (.cells #[a0,a1,a2] e (0,0)):=by
 obtain⟨x0,x1,x2,rfl⟩:=An hs
 have h0:=h.self 0 a0;simp only[List.setIfInBounds_toArray,List.set_cons_zero]at h0
 have h1:=h0.self 1 a1;simp only[List.setIfInBounds_toArray,List.set_cons_zero,List.set_cons_succ]at h1
 have h2:=h1.self 2 a2;simp only[List.setIfInBounds_toArray,List.set_cons_zero,List.set_cons_succ]at h2
 exact h2
def qz (y:Cls×UInt8×Bool):Value:= .tuple #[ar y.1,.int .u8 (y.2.1.toNat:Int),.bool y.2.2]
theorem wa:∀b∈eh,b.toNat<128:=by decide
theorem tF (h:RG w r mb t x s):
  Calls Tryz.prog 240 #[.pointer (some ⟨r,0,none⟩)] w fun e w'=>ay [r] r mb t x w (fun _ v y=>v=qz y/\(y.2.2=true ->y.2.1.toNat<128)) (an t s) e w':=by
 have hlt:=h.lt
 have hmlt:=h.mlt
 have helt:=h.elt
 have ht:=h.ht
 cases hb:ai t s.k with
 |none=>
  have HM:Hid (an t s= .bad s):=by show an t s=_;simp[an,hb]
  have HB:=aa hb
  have H:=aa h
  clear h hb
  go_enter Tryz.func240,Tryz.ntmps240
  go_wp2_with fail
  refine (iS (H.O.alloc _) HB.O).mono ?_
  rintro e w1 ⟨rfl,n1,rfl⟩
  exact ab rfl (ay.mkBad HM.O ((H.O.alloc _).drewN _) (((Ex.refl _ _).alloc _).drewN _))
 |some b=>
  have hks:=(cP hb).1
  have hb256:=b.toNat_lt
  have HB:=aa hb
  have H:=aa h
  by_cases hin:b∈eh
  ·obtain⟨c,hc⟩:∃c,cv b.toNat=c:=⟨_,rfl⟩
   have hb128:=wa b hin
   have KB:=aa (fun w=>dc b.toNat w hb128)
   rw[hc]at KB
   have HM:Hid (an t s= .ok (c,b,true) s.up):=by show an t s=_;simp[an,hb,hin,hc]
   have HIN:=aa hin
   clear h hb hin hc
   go_enter Tryz.func240,Tryz.ntmps240
   go_wp2_with fail
   refine (cT (H.O.alloc _) HB.O).mono ?_
   rintro e w1 ⟨rfl,n1,hw1⟩
   have hg1:RG w1 r mb t x s:=by rw[hw1];exact (H.O.alloc _).drewN _
   have hx1:Ex [] (w.alloc (Obj.cells #[.int .u64 0,.int .u64 0,.bool false] 99)) w1:=by rw[hw1];exact (Ex.refl _ _).drewN _
   have h1:=hg1.rd.c1
   have hf1:=hg1.rd.f1
   have hl1:=hg1.lt
   have G1:=aa hg1
   have X1:=aa hx1
   clear hg1 hx1 hw1
   go_wp2_with fail
   refine (jQ eh b _).mono ?_
   rintro e w2 ⟨⟨ix,rfl,hix⟩,rfl⟩
   have hix0:0<=ix:=hix.2 HIN.O
   clear hix
   go_wp2_with fail
   refine (KB.O _).mono ?_
   rintro e w3 ⟨rfl,hx3⟩
   have hg3:RG w3 r mb t x s.up:=by
    have h9:=G1.O.up hks
    refine RG.ex0 ?_ hx3
    simpa using h9
   have X3:Hid (Ex [r] (w.alloc (Obj.cells #[.int .u64 0,.int .u64 0,.bool false] 99)) w3):=((X1.O.drop (by simp)).setCell (Or.inl (by simp)) _).trans (hx3.drop (by simp))
   have hb3:=(BK.new w (Obj.cells #[.int .u64 0,.int .u64 0,.bool false] 99)).ex X3.O (by simp;omega)
   obtain⟨hc,hf⟩:=hb3.all
   have hl:=hb3.lt
   have G3:=aa hg3
   clear hb3 hx3 hg3 h1 hf1 G1 X1
   unfold ar
   go_wp2_with fail
   refine bodyPost_ret (v:=qz (c,b,true)) (by simp[results,Tryz.results240,go_sem,ar,qz,hc]) rfl (ay.mkOk HM.O ⟨rfl,fun _=>hb128⟩ ?_ ?_)
   ·repeat (refine RG.setN (B:=w.heap.size) ?_ hlt hmlt helt (by simp) _)
    exact G3.O
   ·repeat (refine Ex.setCell ?_ (Or.inr (by simp)) _)
    exact ((Ex.refl _ _).alloc _).trans X3.O
  ·have KS:=aa (fun w=>nl b w)
   obtain⟨o,ho⟩:∃o,dQ b=o:=⟨_,rfl⟩
   rw[ho]at KS
   have HIN:=aa hin
   cases o with
   |none=>
    have HM:Hid (an t s= .bad s):=by show an t s=_;simp[an,hb,hin,ho]
    clear h hb hin ho
    go_enter Tryz.func240,Tryz.ntmps240
    go_wp2_with fail
    refine (cT (H.O.alloc _) HB.O).mono ?_
    rintro e w1 ⟨rfl,n1,hw1⟩
    have hg1:RG w1 r mb t x s:=by rw[hw1];exact (H.O.alloc _).drewN _
    have hx1:Ex [] (w.alloc (Obj.cells #[.int .u64 0,.int .u64 0,.bool false] 99)) w1:=by rw[hw1];exact (Ex.refl _ _).drewN _
    have G1:=aa hg1
    have X1:=aa hx1
    clear hg1 hx1 hw1
    go_wp2_with fail
    refine (jQ eh b _).mono ?_
    rintro e w2 ⟨⟨ix,rfl,hix⟩,rfl⟩
    have hix0:¬0<=ix:=fun h=>HIN.O (hix.1 h)
    clear hix
    go_wp2_with fail
    refine (KS.O _).mono ?_
    rintro e w3 ⟨rfl,hx3⟩
    have X3:=aa (X1.O.trans hx3)
    have hb3:=(BK.new w (Obj.cells #[.int .u64 0,.int .u64 0,.bool false] 99)).ex X3.O (by simp)
    obtain⟨hc,hf⟩:=hb3.all
    have hl:=hb3.lt
    have hg3:=G1.O.ex0 hx3
    have hev:=hg3.ev
    have hne:w.heap.size≠0:=by omega
    have G3:=aa hg3
    clear hb3 hx3 hg3 G1 X1
    unfold pE ar
    go_wp2_with fail
    refine ab rfl (ay.mkBad HM.O ?_ ?_)
    ·repeat (refine RG.setN (B:=w.heap.size) ?_ hlt hmlt helt (by simp) _)
     exact G3.O
    ·repeat (refine Ex.setCell ?_ (Or.inr (by simp)) _)
     exact (((Ex.refl _ _).alloc _).trans X3.O).drop (by simp)
   |some c=>
    have HM:Hid (an t s= .ok (c,0,false) s.up):=by show an t s=_;simp[an,hb,hin,ho]
    clear h hb hin ho
    go_enter Tryz.func240,Tryz.ntmps240
    go_wp2_with fail
    refine (cT (H.O.alloc _) HB.O).mono ?_
    rintro e w1 ⟨rfl,n1,hw1⟩
    have hg1:RG w1 r mb t x s:=by rw[hw1];exact (H.O.alloc _).drewN _
    have hx1:Ex [] (w.alloc (Obj.cells #[.int .u64 0,.int .u64 0,.bool false] 99)) w1:=by rw[hw1];exact (Ex.refl _ _).drewN _
    have G1:=aa hg1
    have X1:=aa hx1
    clear hg1 hx1 hw1
    go_wp2_with fail
    refine (jQ eh b _).mono ?_
    rintro e w2 ⟨⟨ix,rfl,hix⟩,rfl⟩
    have hix0:¬0<=ix:=fun h=>HIN.O (hix.1 h)
    clear hix
    go_wp2_with fail
    refine (KS.O _).mono ?_
    rintro e w3 ⟨rfl,hx3⟩
    have X3:=aa (X1.O.trans hx3)
    have hb3:=(BK.new w (Obj.cells #[.int .u64 0,.int .u64 0,.bool false] 99)).ex X3.O (by simp)
    obtain⟨hc,hf⟩:=hb3.all
    have hl:=hb3.lt
    have hg3:=G1.O.ex0 hx3
    have h1:=hg3.rd.c1
    have hf1:=hg3.rd.f1
    have hl1:=hg3.lt
    have hne:r≠w.heap.size:=by omega
    have G3:=aa hg3
    have B3:=aa hb3
    clear hb3 hx3 hg3 G1 X1
    unfold pE ar
    go_wp2_with fail
    refine bodyPost_ret (v:=qz (c,0,false)) ?_ rfl (ay.mkOk HM.O ⟨rfl,fun h=>by cases h⟩ ?_ ?_)
    ·have hB:=wh (((wh (af B3) rfl (.int .u64 c.lo) (.int .u64 c.hi) (.bool c.hg))).set (p:=⟨r,1,none⟩) (Ne.symm hne) (.int .i64 ((s.k:Int)+1))) rfl (.int .u64 c.lo) (.int .u64 c.hi) (.bool c.hg)
     generalize World.setCell _ ⟨w.heap.size,2,none⟩ _=W at hB ⊢
     obtain⟨hcW,hfW⟩:=hB.all
     simp[results,Tryz.results240,go_sem,ar,qz,hcW]
    ·iterate 3 (refine RG.setN (B:=w.heap.size) ?_ hlt hmlt helt (by simp) _)
     have h9:RG ((((w3.setCell ⟨w.heap.size,0,none⟩ (.int .u64 c.lo)).setCell ⟨w.heap.size,1,none⟩ (.int .u64 c.hi)).setCell ⟨w.heap.size,2,none⟩ (.bool c.hg))) r mb t x s:=by
      repeat (refine RG.setN (B:=w.heap.size) ?_ hlt hmlt helt (by simp) _)
      exact G3.O
     have h10:=h9.up hks
     simpa using h10
    ·iterate 3 (refine Ex.setCell ?_ (Or.inr (by simp)) _)
     refine Ex.setCell ?_ (Or.inl (by simp)) _
     iterate 3 (refine Ex.setCell ?_ (Or.inr (by simp)) _)
     exact (((Ex.refl _ _).alloc _).trans X3.O).drop (by simp)
theorem eL {but:List UInt8} {s':RS} {b:UInt8} (h:aO t but s= .ok b s'):ai t s.k=some b/\s'=s.up/\b.toNat<128/\b∉but:=by
 unfold aO at h
 cases hb:ai t s.k with
 |none=>rw[hb]at h;cases h
 |some b'=>
  rw[hb]at h
  by_cases hc:128<=b'.toNat\/b'∈but
  ·simp only[if_pos hc]at h;cases h
  ·simp only[if_neg hc]at h
   cases h
   exact⟨rfl,rfl,by omega,fun h=>hc (Or.inr h)⟩
theorem jx {f:UInt8} (h1:f.toNat<=125) (h2:ac t s 92=true):au t f s=match ai t s.up.k with
 |none=> .bad s.up
 |some b=>if b.toNat<f.toNat then .bad s.up else (if b∈eh then .ok b s.up.up else .bad s.up):=by
 unfold au;simp only[decide_eq_true h1,h2,Bool.and_self,if_true];cases ai t s.up.k<;>rfl
theorem gy {f:UInt8} (h:¬f.toNat<=125\/ac t s 92=false):au t f s=match ai t s.k with
 |none=> .bad s
 |some b=>if b.toNat<f.toNat then .bad s else aO t dY s:=by
 have:(decide (f.toNat<=125)&&ac t s 92)=false:=by
  rcases h with h|h
  ·simp[h]
  ·simp[h]
 unfold au;simp only[this,Bool.false_eq_true,if_false];cases ai t s.k<;>rfl
theorem qJ (h:RG w r mb t x s) (f:UInt8) (hf:f.toNat<128):
  Calls Tryz.prog 281 #[.pointer (some ⟨r,0,none⟩),.int .u8 (f.toNat:Int)] w fun e w'=>ay [r] r mb t x w (fun _ v (b:UInt8)=>v= .int .u8 (b.toNat:Int)/\f.toNat<=b.toNat/\b.toNat<128) (au t f s) e w':=by
 have hlt:=h.lt
 have ht:=h.ht
 have H:=aa h
 clear h
 by_cases h125:f.toNat<=125
 ·have e125:(f.toNat:Int)<=125:=by omega
  go_enter Tryz.func281,Tryz.ntmps281
  go_wp2_with fail
  refine (de H.O 92 92 rfl).mono ?_
  rintro e w1 ⟨rfl,hg1,hx1⟩
  cases hq:ac t s 92 with
  |true=>
   rw[ck hq]at hg1
   have PM:=aa (jx h125 hq)
   have G1:=aa hg1
   have X1:=aa hx1
   have hf1:=hg1.rd.f1
   have hc1:=hg1.rd.c1
   have hl1:=hg1.lt
   have hev:=hg1.ev
   clear hq hg1 hx1
   cases hb:ai t s.up.k with
   |none=>
    have HM:Hid (au t f s= .bad s.up):=by show au t f s=_;rw[af PM,hb]
    have HB:=aa hb
    clear hb
    go_wp2_with fail
    refine (iS G1.O HB.O).mono ?_
    rintro e w7 ⟨rfl,n1,rfl⟩
    exact ab rfl (ay.mkBad HM.O (G1.O.drewN _) (X1.O.drewN _))
   |some b=>
    have hks:=(cP hb).1
    have hb256:=b.toNat_lt
    have HB:=aa hb
    by_cases hbf:b.toNat<f.toNat
    ·have HM:Hid (au t f s= .bad s.up):=by show au t f s=_;rw[af PM,hb];simp[hbf]
     have e1:(b.toNat:Int)<(f.toNat:Int):=by omega
     clear hb
     go_wp2_with fail
     refine (cT G1.O HB.O).mono ?_
     rintro e w7 ⟨rfl,n1,rfl⟩
     go_wp2_with fail
     exact ab rfl (ay.mkBad HM.O (G1.O.drewN _) (X1.O.drewN _))
    ·have e1:¬(b.toNat:Int)<(f.toNat:Int):=by omega
     by_cases hin:b∈eh
     ·have HM:Hid (au t f s= .ok b s.up.up):=by show au t f s=_;rw[af PM,hb];simp only[if_neg hbf,if_pos hin]
      have hb128:=wa b hin
      have HIN:=aa hin
      clear hb hin
      go_wp2_with fail
      refine (cT G1.O HB.O).mono ?_
      rintro e w7 ⟨rfl,n1,rfl⟩
      go_wp2_with fail
      refine (jQ eh b _).mono ?_
      rintro e w2 ⟨⟨ix,rfl,hix⟩,rfl⟩
      have hix0:¬ix<0:=by have:=hix.2 HIN.O;omega
      clear hix
      go_wp2_with fail
      go_ret
      refine ay.mkOk HM.O ⟨rfl,by omega,hb128⟩ ?_ ((X1.O.drewN _).setCell (Or.inl (by simp)) _)
      have:=(G1.O.drewN n1).up hks
      simpa using this
     ·have HM:Hid (au t f s= .bad s.up):=by show au t f s=_;rw[af PM,hb];simp only[if_neg hbf,if_neg hin]
      have HIN:=aa hin
      clear hb hin
      go_wp2_with fail
      refine (cT G1.O HB.O).mono ?_
      rintro e w7 ⟨rfl,n1,rfl⟩
      go_wp2_with fail
      refine (jQ eh b _).mono ?_
      rintro e w2 ⟨⟨ix,rfl,hix⟩,rfl⟩
      have hix0:ix<0:=by
       by_cases h0:0<=ix
       ·exact absurd (hix.1 h0) HIN.O
       ·omega
      clear hix
      go_wp2_with fail
      exact ab rfl (ay.mkBad HM.O (G1.O.drewN _) (X1.O.drewN _))
  |false=>
   rw[cU hq]at hg1
   have PM:=aa (gy (f:=f) (Or.inr hq))
   have G1:=aa hg1
   have X1:=aa hx1
   clear hq hg1 hx1
   cases hb:ai t s.k with
   |none=>
    have HM:Hid (au t f s= .bad s):=by show au t f s=_;rw[af PM,hb]
    have HB:=aa hb
    clear hb
    go_wp2_with fail
    refine (iS G1.O HB.O).mono ?_
    rintro e w7 ⟨rfl,n1,rfl⟩
    exact ab rfl (ay.mkBad HM.O (G1.O.drewN _) (X1.O.drewN _))
   |some b=>
    have hb256:=b.toNat_lt
    have HB:=aa hb
    have hev:=G1.O.ev
    by_cases hbf:b.toNat<f.toNat
    ·have HM:Hid (au t f s= .bad s):=by show au t f s=_;rw[af PM,hb];simp[hbf]
     have e1:(b.toNat:Int)<(f.toNat:Int):=by omega
     clear hb
     go_wp2_with fail
     refine (cT G1.O HB.O).mono ?_
     rintro e w7 ⟨rfl,n1,rfl⟩
     go_wp2_with fail
     exact ab rfl (ay.mkBad HM.O (G1.O.drewN _) (X1.O.drewN _))
    ·have HM:Hid (au t f s=aO t dY s):=by show au t f s=_;rw[af PM,hb];simp only[if_neg hbf]
     have e1:¬(b.toNat:Int)<(f.toNat:Int):=by omega
     clear hb hev
     go_wp2_with fail
     refine (cT G1.O HB.O).mono ?_
     rintro e w7 ⟨rfl,n1,rfl⟩
     go_wp2_with fail
     refine (pe (G1.O.drewN _) dY).mono ?_
     rintro e w8 hp
     rcases hp.split with⟨b',s8,v,hm,rfl,⟨rfl,hb8⟩,hg8,hx8⟩|⟨s',hm,rfl,hg,hx⟩
     ·have hbb:b'=b:=by have h3:=(eL hm).1;rw[HB.O]at h3;exact (Option.some.inj h3).symm
      have hfb:f.toNat<=b'.toNat:=by rw[hbb];omega
      have M8:=aa hm
      have G8:=aa hg8
      have X8:=aa (((X1.O.drewN _)).trans hx8)
      clear hp hm hg8 hx8 hbb
      go_wp2_with fail
      go_ret
      exact ay.mkOk (HM.O.trans M8.O) ⟨rfl,hfb,hb8⟩ G8.O X8.O
     ·exact ab rfl (ay.mkBad (HM.O.trans hm) hg ((X1.O.drewN _).trans hx))
 ·have e125:¬(f.toNat:Int)<=125:=by omega
  have PM:=aa (gy (t:=t) (s:=s) (Or.inl h125))
  have X1:=aa (Ex.refl [r] w)
  go_enter Tryz.func281,Tryz.ntmps281
  cases hb:ai t s.k with
  |none=>
   have HM:Hid (au t f s= .bad s):=by show au t f s=_;rw[af PM,hb]
   have HB:=aa hb
   clear hb
   go_wp2_with fail
   refine (iS H.O HB.O).mono ?_
   rintro e w7 ⟨rfl,n1,rfl⟩
   exact ab rfl (ay.mkBad HM.O (H.O.drewN _) (X1.O.drewN _))
  |some b=>
   have hb256:=b.toNat_lt
   have HB:=aa hb
   have hev:=H.O.ev
   by_cases hbf:b.toNat<f.toNat
   ·have HM:Hid (au t f s= .bad s):=by show au t f s=_;rw[af PM,hb];simp[hbf]
    have e1:(b.toNat:Int)<(f.toNat:Int):=by omega
    clear hb
    go_wp2_with fail
    refine (cT H.O HB.O).mono ?_
    rintro e w7 ⟨rfl,n1,rfl⟩
    go_wp2_with fail
    exact ab rfl (ay.mkBad HM.O (H.O.drewN _) (X1.O.drewN _))
   ·have HM:Hid (au t f s=aO t dY s):=by show au t f s=_;rw[af PM,hb];simp only[if_neg hbf]
    have e1:¬(b.toNat:Int)<(f.toNat:Int):=by omega
    clear hb hev
    go_wp2_with fail
    refine (cT H.O HB.O).mono ?_
    rintro e w7 ⟨rfl,n1,rfl⟩
    go_wp2_with fail
    refine (pe (H.O.drewN _) dY).mono ?_
    rintro e w8 hp
    rcases hp.split with⟨b',s8,v,hm,rfl,⟨rfl,hb8⟩,hg8,hx8⟩|⟨s',hm,rfl,hg,hx⟩
    ·have hbb:b'=b:=by have h3:=(eL hm).1;rw[HB.O]at h3;exact (Option.some.inj h3).symm
     have hfb:f.toNat<=b'.toNat:=by rw[hbb];omega
     have M8:=aa hm
     have G8:=aa hg8
     have X8:=aa (((X1.O.drewN _)).trans hx8)
     clear hp hm hg8 hx8 hbb
     go_wp2_with fail
     go_ret
     exact ay.mkOk (HM.O.trans M8.O) ⟨rfl,hfb,hb8⟩ G8.O X8.O
    ·exact ab rfl (ay.mkBad (HM.O.trans hm) hg ((X1.O.drewN _).trans hx))
theorem zf (h:RG w r mb t x s):
  Calls Tryz.prog 263 #[.pointer (some ⟨r,0,none⟩)] w fun e w'=>ay [r] r mb t x w (fun _ v c=>v=ar c) (aI t s) e w':=by
 have hlt:=h.lt
 have hmlt:=h.mlt
 have helt:=h.elt
 have ht:=h.ht
 have hne:w.heap.size≠r:=by omega
 have H:=aa h
 clear h
 go_enter Tryz.func263,Tryz.ntmps263
 go_wp2_with fail
 refine (de (H.O.alloc _) 92 92 rfl).mono ?_
 rintro e w1 ⟨rfl,hg1,hx1⟩
 have X1:=aa hx1
 clear hx1
 cases hq:ac t s 92 with
 |false=>
  rw[cU hq]at hg1
  have G1:=aa hg1
  have HQ:=aa hq
  clear hq hg1
  go_wp2_with fail
  refine (pe G1.O dY).mono ?_
  rintro e w2 hp
  rcases hp.split with⟨b,s2,v,hm,rfl,⟨rfl,hb128⟩,hg2,hx2⟩|⟨s',hm,rfl,hg,hx⟩
  rotate_left
  ·exact ab rfl (ay.mkBad (by simp only[aI,af HQ,Bool.false_eq_true,if_false,hm,Res.bind_bad]) hg (((Ex.refl _ _).alloc _).trans (X1.O.trans hx)))
  have IM:Hid (aI t s=bg t b s2):=by show aI t s=_;simp only[aI,af HQ,Bool.false_eq_true,if_false,hm,Res.bind_ok]
  have G2:=aa hg2
  have X2:=aa (X1.O.trans hx2)
  clear hp hm hg2 hx2
  go_wp2_with fail
  refine (de G2.O 45 45 rfl).mono ?_
  rintro e w5 ⟨rfl,hg5,hx5⟩
  have X5:=aa (X2.O.trans hx5)
  cases hq5:ac t s2 45 with
  |false=>
   rw[cU hq5]at hg5
   have G5:=aa hg5
   obtain⟨c,hcc⟩:∃c,cv b.toNat=c:=⟨_,rfl⟩
   have KB:=aa (fun w=>dc b.toNat w hb128)
   rw[hcc]at KB
   have HM:Hid (aI t s= .ok c s2):=by show aI t s=_;rw[af IM];unfold bg;rw[hq5,hcc];rfl
   clear hq5 hg5 hx5 hcc
   go_wp2_with fail
   refine (KB.O _).mono ?_
   rintro e w6 ⟨rfl,hx6⟩
   have X6:=aa (X5.O.trans (hx6.drop (by simp)))
   have G6:=aa (G5.O.ex0 hx6)
   clear hx6
   have hb9:=(BK.new w (Obj.cells #[.int .u64 0,.int .u64 0,.bool false] 99)).ex X6.O (by simp;omega)
   obtain⟨hc,hf⟩:=hb9.all
   have hl:=hb9.lt
   clear hb9
   unfold ar
   go_wp2_with fail
   refine bodyPost_ret (v:=ar c) (by simp[results,Tryz.results263,go_sem,ar,hc,hl]) rfl (ay.mkOk HM.O rfl ?_ ?_)
   ·iterate 3 (refine RG.setN (B:=w.heap.size) ?_ hlt hmlt helt (by simp) _)
    exact G6.O
   ·iterate 3 (refine Ex.setCell ?_ (Or.inr (by simp)) _)
    exact ((Ex.refl _ _).alloc _).trans X6.O
  |true=>
   rw[ck hq5]at hg5
   have G5:=aa hg5
   have HT:Hid (aI t s=(au t b s2.up).bind fun e s'=> .ok (ce b.toNat e.toNat) s'):=by show aI t s=_;rw[af IM];unfold bg;rw[hq5];rfl
   clear hq5 hg5 hx5
   go_wp2_with fail
   refine (qJ G5.O b hb128).mono ?_
   rintro e w6 hp
   rcases hp.split with⟨en,s6,v,hm,rfl,⟨rfl,hfe,he128⟩,hg6,hx6⟩|⟨s',hm,rfl,hg,hx⟩
   rotate_left
   ·exact ab rfl (ay.mkBad (by rw[HT.O,hm];rfl) hg (((Ex.refl _ _).alloc _).trans (X5.O.trans hx)))
   obtain⟨c,hcc⟩:∃c,ce b.toNat en.toNat=c:=⟨_,rfl⟩
   have KB:=aa (fun w=>ef b.toNat en.toNat w hfe he128)
   rw[hcc]at KB
   have HM:Hid (aI t s= .ok c s6):=by show aI t s=_;rw[HT.O,hm,Res.bind_ok,hcc]
   have G6:=aa hg6
   have X6:=aa (X5.O.trans hx6)
   clear hp hm hg6 hx6 hcc
   go_wp2_with fail
   refine (KB.O _).mono ?_
   rintro e w7 ⟨rfl,hx7⟩
   have X7:=aa (X6.O.trans (hx7.drop (by simp)))
   have G7:=aa (G6.O.ex0 hx7)
   clear hx7
   have hb9:=(BK.new w (Obj.cells #[.int .u64 0,.int .u64 0,.bool false] 99)).ex X7.O (by simp;omega)
   obtain⟨hc,hf⟩:=hb9.all
   have hl:=hb9.lt
   clear hb9
   unfold ar
   go_wp2_with fail
   refine bodyPost_ret (v:=ar c) (by simp[results,Tryz.results263,go_sem,ar,hc,hl]) rfl (ay.mkOk HM.O rfl ?_ ?_)
   ·iterate 3 (refine RG.setN (B:=w.heap.size) ?_ hlt hmlt helt (by simp) _)
    exact G7.O
   ·iterate 3 (refine Ex.setCell ?_ (Or.inr (by simp)) _)
    exact ((Ex.refl _ _).alloc _).trans X7.O
 |true=>
  rw[ck hq]at hg1
  have G1:=aa hg1
  have HQ:=aa hq
  clear hq hg1
  go_wp2_with fail
  refine (tF G1.O).mono ?_
  rintro e w2 hp
  rcases hp.split with⟨⟨cc,b,okk⟩,s2,v,hm,rfl,⟨rfl,hb⟩,hg2,hx2⟩|⟨s',hm,rfl,hg,hx⟩
  rotate_left
  ·exact ab rfl (ay.mkBad (by simp only[aI,af HQ,if_true,hm,Res.bind_bad]) hg (((Ex.refl _ _).alloc _).trans (X1.O.trans hx)))
  cases okk with
  |false=>
   have HM:Hid (aI t s= .ok cc s2):=by show aI t s=_;simp only[aI,af HQ,if_true,hm,Res.bind_ok,Bool.false_eq_true,if_false]
   have G2:=aa hg2
   have X2:=aa (X1.O.trans hx2)
   have hlt2:=hg2.lt
   have hsz2:w.heap.size<w2.heap.size:=by have:=X2.O.size;simp at this;omega
   have hb9:=(BK.new w (Obj.cells #[.int .u64 0,.int .u64 0,.bool false] 99)).ex X2.O (by simp;omega)
   obtain⟨hc,hf⟩:=hb9.all
   have hl:=hb9.lt
   clear hb9 hp hm hg2 hx2 hb
   unfold qz ar
   go_wp2_with fail
   refine bodyPost_ret (v:=ar cc) (by simp[results,Tryz.results263,go_sem,ar,hc,hl]) rfl (ay.mkOk HM.O rfl ?_ ?_)
   ·repeat (first|exact G2.O|refine RG.alloc ?_ _|refine RG.setN (B:=w.heap.size) ?_ hlt hmlt helt (by simp;try omega) _)
   ·repeat (first|exact ((Ex.refl _ _).alloc _).trans X2.O|refine Ex.alloc ?_ _|refine Ex.setCell ?_ (Or.inr (by simp;try omega)) _)
  |true=>
   have hb128:=hb rfl
   have IM:Hid (aI t s=bg t b s2):=by show aI t s=_;simp only[aI,af HQ,if_true,hm,Res.bind_ok]
   have G2:=aa hg2
   have X2:=aa (X1.O.trans hx2)
   clear hp hm hg2 hx2 hb
   unfold qz ar
   go_wp2_with fail
   refine (de (G2.O.alloc _) 45 45 rfl).mono ?_
   rintro e w5 ⟨rfl,hg5,hx5⟩
   have X5:=aa ((X2.O.alloc _).trans hx5)
   cases hq5:ac t s2 45 with
   |false=>
    rw[cU hq5]at hg5
    have G5:=aa hg5
    obtain⟨c,hcc⟩:∃c,cv b.toNat=c:=⟨_,rfl⟩
    have KB:=aa (fun w=>dc b.toNat w hb128)
    rw[hcc]at KB
    have HM:Hid (aI t s= .ok c s2):=by show aI t s=_;rw[af IM];unfold bg;rw[hq5,hcc];rfl
    clear hq5 hg5 hx5 hcc
    go_wp2_with fail
    refine (KB.O _).mono ?_
    rintro e w6 ⟨rfl,hx6⟩
    have X6:=aa (X5.O.trans (hx6.drop (by simp)))
    have G6:=aa (G5.O.ex0 hx6)
    clear hx6
    have hb9:=(BK.new w (Obj.cells #[.int .u64 0,.int .u64 0,.bool false] 99)).ex X6.O (by simp;omega)
    obtain⟨hc,hf⟩:=hb9.all
    have hl:=hb9.lt
    clear hb9
    unfold ar
    go_wp2_with fail
    refine bodyPost_ret (v:=ar c) (by simp[results,Tryz.results263,go_sem,ar,hc,hl]) rfl (ay.mkOk HM.O rfl ?_ ?_)
    ·iterate 3 (refine RG.setN (B:=w.heap.size) ?_ hlt hmlt helt (by simp) _)
     exact G6.O
    ·iterate 3 (refine Ex.setCell ?_ (Or.inr (by simp)) _)
     exact ((Ex.refl _ _).alloc _).trans X6.O
   |true=>
    rw[ck hq5]at hg5
    have G5:=aa hg5
    have HT:Hid (aI t s=(au t b s2.up).bind fun e s'=> .ok (ce b.toNat e.toNat) s'):=by show aI t s=_;rw[af IM];unfold bg;rw[hq5];rfl
    clear hq5 hg5 hx5
    go_wp2_with fail
    refine (qJ G5.O b hb128).mono ?_
    rintro e w6 hp
    rcases hp.split with⟨en,s6,v,hm,rfl,⟨rfl,hfe,he128⟩,hg6,hx6⟩|⟨s',hm,rfl,hg,hx⟩
    rotate_left
    ·exact ab rfl (ay.mkBad (by rw[HT.O,hm];rfl) hg (((Ex.refl _ _).alloc _).trans (X5.O.trans hx)))
    obtain⟨c,hcc⟩:∃c,ce b.toNat en.toNat=c:=⟨_,rfl⟩
    have KB:=aa (fun w=>ef b.toNat en.toNat w hfe he128)
    rw[hcc]at KB
    have HM:Hid (aI t s= .ok c s6):=by show aI t s=_;rw[HT.O,hm,Res.bind_ok,hcc]
    have G6:=aa hg6
    have X6:=aa (X5.O.trans hx6)
    clear hp hm hg6 hx6 hcc
    go_wp2_with fail
    refine (KB.O _).mono ?_
    rintro e w7 ⟨rfl,hx7⟩
    have X7:=aa (X6.O.trans (hx7.drop (by simp)))
    have G7:=aa (G6.O.ex0 hx7)
    clear hx7
    have hb9:=(BK.new w (Obj.cells #[.int .u64 0,.int .u64 0,.bool false] 99)).ex X7.O (by simp;omega)
    obtain⟨hc,hf⟩:=hb9.all
    have hl:=hb9.lt
    clear hb9
    unfold ar
    go_wp2_with fail
    refine bodyPost_ret (v:=ar c) (by simp[results,Tryz.results263,go_sem,ar,hc,hl]) rfl (ay.mkOk HM.O rfl ?_ ?_)
    ·iterate 3 (refine RG.setN (B:=w.heap.size) ?_ hlt hmlt helt (by simp) _)
     exact G7.O
    ·iterate 3 (refine Ex.setCell ?_ (Or.inr (by simp)) _)
     exact ((Ex.refl _ _).alloc _).trans X7.O
end Go.Proofs.YtfnanjbleifjkaaGreatDoor.G
