import Derived.Test.YtfnanjbleifjkaaGreatDoorM34
set_option linter.unusedVariables false
set_option linter.unusedSimpArgs false
set_option maxHeartbeats 8000000
set_option maxRecDepth 100000
namespace Go.Proofs.YtfnanjbleifjkaaGreatDoor.G
variable {c:SC} {i y:Nat} {K':List Ti} {w:World}
open Go.RowKit
theorem mL (hk:SK c) {k:Nat} {A:Yp} {z f:Bool} {d:SD} (h:SG c d w) (hm:d.M[k]? =some (.rend y A z f::K')) (W:f=false ->eA c i (.ex A:: .rend y A z true::K')/\eA c i K'):
  Calls Tryz.prog 143 #[.pointer (some ⟨c.S,0,none⟩),.int .i64 (k:Int),.int .i64 (i:Int)] w (cu c d w (evK c i (.rend y A z f::K'))):=by
 have hOK:aL c.w0 c.rb y (bc 5 (A.idx:Nat) 0 0 z noB):=(hk.ok _ (h.si.inU _ (List.mem_of_getElem? hm)) _ (List.mem_cons_self ..)).1
 have hev:evK c i (.rend y A z f::K')=if f then none else bV z (evK c i (.ex A:: .rend y A z true::K')) (evK c i K'):=by
  unfold evK
  cases f
  ·exact eP _ _ _ _ _
  ·exact dJ _ _ _ _ _
 rw[hev]
 have V:=aa W
 have HOK:=aa hOK
 clear hev W hOK
 obtain⟨s,hs,hso⟩:=h.st hm
 obtain⟨g,cap,hsv,hkl,hgl,hcell,hfz⟩:=h.at hs
 obtain⟨t9,K9,e9,hc,hnx⟩:=hso.hd
 cases e9
 have a0:w.cell? ⟨g,k*8,none⟩=some (.int .i64 s.kind):=hcell 0 (by omega)
 have a1:w.cell? ⟨g,k*8+1,none⟩=some (.int .i64 s.x):=hcell 1 (by omega)
 have a2:w.cell? ⟨g,k*8+2,none⟩=some (.int .i64 s.next):=hcell 2 (by omega)
 have a3:w.cell? ⟨g,k*8+3,none⟩=some (.bool s.fresh):=hcell 3 (by omega)
 obtain⟨nx,hnx9⟩:=exq (s.next)
 have hkd:s.kind= -2:=(Prod.mk.inj hc.symm).1
 have hsx:s.x=(y:Int):=(Prod.mk.inj (Prod.mk.inj hc.symm).2).1
 have hfr:s.fresh=f:=(Prod.mk.inj (Prod.mk.inj hc.symm).2).2
 rw[hkd]at a0
 rw[hsx]at a1
 rw[<-hnx9]at a2 hnx
 rw[hfr]at a3
 have hxw:Ex [] w (w.alloc (Obj.cells #[.int .i64 (-2),.int .i64 (y:Int),.int .i64 nx,.bool f] 224)):=(Ex.refl _ _).alloc _
 have hbx:BK (w.alloc (Obj.cells #[.int .i64 (-2),.int .i64 (y:Int),.int .i64 nx,.bool f] 224)) w.heap.size (.cells #[.int .i64 (-2),.int .i64 (y:Int),.int .i64 nx,.bool f] 224 (0,0)):=BK.new _ _
 obtain⟨w1,hw1⟩:=exq (w.alloc (Obj.cells #[.int .i64 (-2),.int .i64 (y:Int),.int .i64 nx,.bool f] 224))
 rw[<-hw1]at hxw hbx
 obtain⟨h1,f1⟩:=h.ex hk hxw
 have hnb:=h.new hk (Nat.le_refl w.heap.size)
 obtain⟨b,hb⟩:=exq (w.heap.size)
 rw[<-hb]at hbx hnb
 obtain⟨S,hS⟩:=exq (c.S)
 obtain⟨m,hmm⟩:=exq (d.T.length)
 have s2:w.cell? ⟨S,2,none⟩=some (.slice (some ⟨g,0,none⟩) m cap):=by rw[hS,hmm,<-hsv];exact h.blk.all.1 2
 have hSl:S<w.heap.size:=by rw[hS];exact h.blk.lt
 have hkm:(k:Int)<(m:Int):=by omega
 have hSl1:S<w1.heap.size:=by rw[hS];exact h1.blk.lt
 have hbl1:=hbx.lt
 have b0:w1.cell? ⟨b,0,none⟩=some (.int .i64 (-2)):=hbx.all.1 0
 have b1:w1.cell? ⟨b,1,none⟩=some (.int .i64 (y:Int)):=hbx.all.1 1
 have b3:w1.cell? ⟨b,3,none⟩=some (.bool f):=hbx.all.1 3
 have HNX:Hid (NX d.M d.T.length nx K'):=hnx.more (fun _ _ h=>h) (by omega)
 have HM:=aa hm
 have HK:=aa hk
 have H:=aa h
 have H1:=aa h1
 have F1:=aa f1
 have HB:=aa hbx
 have HNB:=aa hnb
 have HW1:=aa hw1
 have HBE:=aa hb
 have HS:=aa hS
 rw[<-hS]
 clear hs hso hsv hkl hcell hfz hnx hxw hbx h1 f1 hnb hw1 hb hS hmm hkd hnx9 hfr h hm hc hsx hk
 go_enter Tryz.func143,Tryz.ntmps143
 go_upto_region 10 with fail
 rw[<-HW1.O,<-HBE.O]
 clear s2 hSl a0 a1 a2 a3 hkm
 cases f with
 |true=>
  go_wp2_with fail
  go_ret
  exact⟨d,rfl,H1.O,F1.O,rfl,rfl⟩
 |false=>
  have KE:=aa ((oN HK.O (i:=i) H1.O HM.O rfl rfl rfl HOK.O (cX _ _ _ _ _ _ (by decide)) (b6 _ _ _ _ _ _) rfl rfl (V.O rfl).1 (V.O rfl).2).mono (fun e w5 h5=>cu.of h5 F1.O rfl rfl))
  rw[<-HS.O]at KE
  go_wp2_with fail
  refine KE.O.mono ?_
  rintro e w5 h5
  obtain⟨d5,rfl,g5,f5,a5⟩:=h5
  have H5:Hid (cu c d w (bV z (evK c i (.ex A:: .rend y A z true::K')) (evK c i K')) (.returned (.bool (bV z (evK c i (.ex A:: .rend y A z true::K')) (evK c i K')).isSome)) w5):=⟨d5,rfl,g5,f5,a5⟩
  clear g5 f5 a5
  go_wp2_with fail
  go_ret
  exact H5.O
section
variable {P:Program} {ops:Array Oper} {Q:Exit ->Act ->World ->Prop} {md:Region.Mode} {S:Nat ->World ->Prop} {T:World ->Prop}
theorem rQ {oi:Oper} {fuel:Nat} {listed:Array Bool} {a:Act} (hi:ops[i]? =some oi) (hg:Region.wanted oi (yielded ops a.tmps)=true)
  (hr:Region.ready md ops listed=[i])
  (h:∀K:Act ->World ->Prop,Hid (∀a' w',S i w' ->dz P md ops Q S fuel (listed.setIfInBounds i true) a' w' ->K a' w') ->oi.wp P a w K Q):dz P md ops Q S (fuel+1) listed a w:=by
 refine⟨fun h0=>absurd (hr▸h0) (by simp),fun j hj=> ?_⟩
 rw[hr,List.mem_singleton]at hj
 subst hj
 unfold wpOp
 simp only[hi]
 rw[if_pos hg]
 exact .inl (h _ (fun a' w' h1 h2=>⟨h1,h2⟩))
end
theorem uM (hk:SK c) {cl:Cls} {x:Nat×Nat×Nat} (hx:c.l3[i]? =some x):evK c i (.ex (.set y cl)::K')=if hasC cl (x.1:Int)then evK c (i+1) (iW K')else none:=by
 have hi:=(List.getElem?_eq_some_iff.1 hx).1
 have hd:(lR c.l3).drop i=(x.1,x.2.1+x.2.2)::(lR c.l3).drop (i+1):=by
  rw[List.drop_eq_getElem_cons (by rw[jX];exact hi)]
  congr 1
  have:(lR c.l3)[i]? =some (x.1,x.2.1+x.2.2):=by unfold lR;rw[List.getElem?_map,hx];rfl
  rw[List.getElem?_eq_getElem (by rw[jX];exact hi)]at this
  exact Option.some.inj this
 unfold evK
 rw[hd,zu,<-hk.ct i x hx]
 exact fB _ _ _ _ _ _
theorem nT {cl:Cls} (hi:c.l3.length<=i):evK c i (.ex (.set y cl)::K')=none:=by
 unfold evK
 rw[List.drop_eq_nil_of_le (by rw[jX];exact hi)]
 exact gj _ _ _
def Aa (c:SC) (i:Nat) (K':List Ti):Yp ->Prop
 |.emp _=>eA c i K'
 |.set _ _=>i<c.l3.length ->eA c (i+1) (iW K')
 |.cat _ A B=>eA c i (.ex A:: .ex B::K')
 |.alt _ A B=>eA c i (.ex A::K')/\eA c i (.ex B::K')
 |.star y A z=>eA c i (.ex A:: .rend y A z true::K')/\eA c i K'
 |.may _ A _=>eA c i (.ex A::K')/\eA c i K'
 |.grp _ A n=>eA c i (.ex A:: .gend n::K')
def Ab (E:List Value):Yp ->Prop
 |.emp _=>E=bc 1 0 0 0 false noB
 |.set _ cl=>∃bs,bs.length=129/\AgC bs cl/\E=bc 2 0 0 0 false bs
 |.cat _ A B=>E=bc 3 (A.idx:Nat) (B.idx:Nat) 0 false noB
 |.alt _ A B=>E=bc 4 (A.idx:Nat) (B.idx:Nat) 0 false noB
 |.star _ A z=>E=bc 5 (A.idx:Nat) 0 0 z noB
 |.may _ A z=>E=bc 6 (A.idx:Nat) 0 0 z noB
 |.grp _ A n=>E=bc 7 (A.idx:Nat) 0 (n:Nat) false noB
theorem zQ {r:Nat} {Y:Yp} (h:YT w r Y):∃E,aL w r Y.idx E/\E.length=134/\(∀u∈E,u.oneCell'=true)/\Ab E Y:=by
 cases Y with
 |emp y=>exact⟨_,h,cX _ _ _ _ _ _ (by decide),b6 _ _ _ _ _ _,rfl⟩
 |set y cl=>
  obtain⟨bs,h1,h2,h3⟩:=h
  exact⟨_,h1,cX _ _ _ _ _ _ h2,b6 _ _ _ _ _ _,bs,h2,h3,rfl⟩
 |cat y A B=>exact⟨_,h.1,cX _ _ _ _ _ _ (by decide),b6 _ _ _ _ _ _,rfl⟩
 |alt y A B=>exact⟨_,h.1,cX _ _ _ _ _ _ (by decide),b6 _ _ _ _ _ _,rfl⟩
 |star y A z=>exact⟨_,h.1,cX _ _ _ _ _ _ (by decide),b6 _ _ _ _ _ _,rfl⟩
 |may y A z=>exact⟨_,h.1,cX _ _ _ _ _ _ (by decide),b6 _ _ _ _ _ _,rfl⟩
 |grp y A n=>exact⟨_,h.1,cX _ _ _ _ _ _ (by decide),b6 _ _ _ _ _ _,rfl⟩
theorem cF (hk:SK c) {k:Nat} {Y:Yp} {d:SD} (h:SG c d w) (hm:d.M[k]? =some (.ex Y::K')) (W:Aa c i K' Y):
  Calls Tryz.prog 143 #[.pointer (some ⟨c.S,0,none⟩),.int .i64 (k:Int),.int .i64 (i:Int)] w (cu c d w (evK c i (.ex Y::K'))):=by
 have hOK:YT c.w0 c.rb Y:=hk.ok _ (h.si.inU _ (List.mem_of_getElem? hm)) _ (List.mem_cons_self ..)
 have HGN:Hid (∀y A n,Y= .grp y A n ->1<=n/\n<=c.g):=fun y A n e=>by
  subst e
  have h9:GLe c.g (Xp.grp A.er n):=(hk.kg _ (h.si.inU _ (List.mem_of_getElem? hm))).head
  exact⟨h9.1,h9.2.1⟩
 obtain⟨E,he,hE,hEP,hEE⟩:=zQ hOK
 obtain⟨y,hyy⟩:=exq (Y.idx)
 rw[<-hyy]at he
 have hy:(Ti.ex Y).code.2.1=(y:Int):=by rw[hyy];rfl
 have HOK:=aa hOK
 have HEE:=aa hEE
 have V:=aa W
 clear hOK hEE hyy W
 obtain⟨s,hs,hso⟩:=h.st hm
 obtain⟨g,cap,hsv,hkl,hgl,hcell,hfz⟩:=h.at hs
 obtain⟨t9,K9,e9,hc,hnx⟩:=hso.hd
 cases e9
 obtain⟨base9,av,ro,gi,nv,na,xs,hr,hav,hyn,hxs⟩:=h.rows hk y E he
 obtain⟨ga,ca,rfl,_⟩:=dO hav (by omega)
 have hsx:s.x=(y:Int):=by rw[<-hy,hc]
 have a0:w.cell? ⟨g,k*8,none⟩=some (.int .i64 s.kind):=hcell 0 (by omega)
 have a1:w.cell? ⟨g,k*8+1,none⟩=some (.int .i64 (y:Int)):=by rw[<-hsx];exact hcell 1 (by omega)
 have a2:w.cell? ⟨g,k*8+2,none⟩=some (.int .i64 s.next):=hcell 2 (by omega)
 have a3:w.cell? ⟨g,k*8+3,none⟩=some (.bool s.fresh):=hcell 3 (by omega)
 have hxw:Ex [] w (w.alloc (Obj.cells #[.int .i64 s.kind,.int .i64 (y:Int),.int .i64 s.next,.bool s.fresh] 224)):=(Ex.refl _ _).alloc _
 have hbx:BK (w.alloc (Obj.cells #[.int .i64 s.kind,.int .i64 (y:Int),.int .i64 s.next,.bool s.fresh] 224)) w.heap.size (.cells #[.int .i64 s.kind,.int .i64 (y:Int),.int .i64 s.next,.bool s.fresh] 224 (0,0)):=BK.new _ _
 obtain⟨w1,hw1⟩:=exq (w.alloc (Obj.cells #[.int .i64 s.kind,.int .i64 (y:Int),.int .i64 s.next,.bool s.fresh] 224))
 rw[<-hw1]at hxw hbx
 obtain⟨h1,f1⟩:=h.ex hk hxw
 have hnb:=h.new hk (Nat.le_refl w.heap.size)
 obtain⟨b,hb⟩:=exq (w.heap.size)
 rw[<-hb]at hbx hnb
 obtain⟨S,hS⟩:=exq (c.S)
 obtain⟨rb,hrb⟩:=exq (c.rb)
 obtain⟨m,hmm⟩:=exq (d.T.length)
 have s2:w.cell? ⟨S,2,none⟩=some (.slice (some ⟨g,0,none⟩) m cap):=by rw[hS,hmm,<-hsv];exact h.blk.all.1 2
 have hSl:S<w.heap.size:=by rw[hS];exact h.blk.lt
 have hkm:(k:Int)<(m:Int):=by omega
 have x1:w1.cell? ⟨S,0,none⟩=some (.pointer (some ⟨rb,0,none⟩)):=by rw[hS,hrb];exact h1.blk.all.1 0
 have hr1:=hr.ex hxw (by simp)
 have x2:w1.cell? ⟨rb,0,none⟩=some (.slice (some ⟨ga,0,none⟩) na ca):=by rw[hrb];exact hr1.all.1 0
 have x3:w1.cell? ⟨b,1,none⟩=some (.int .i64 (y:Int)):=hbx.all.1 1
 have hav1:=aU hav hxw (by simp)
 have x4:w1.rangeAt ga (y*134) E:=fun j v hv=>by
  rw[<-hxs,List.getElem?_take]at hv
  by_cases hj:j<134
  ·rw[if_pos hj,List.getElem?_drop]at hv
   rw[hav1.cellAt (y*134+j) (by have:(y+1)*134<=na*134:=Nat.mul_le_mul_right _ hyn;omega)]
   exact hv
  ·rw[if_neg hj]at hv;cases hv
 have hyna:(y:Int)<(na:Int):=by omega
 have hSl1:S<w1.heap.size:=by rw[hS];exact h1.blk.lt
 have hrl1:rb<w1.heap.size:=by rw[hrb];exact hr1.lt
 have hbl1:=hbx.lt
 have hgl1:ga<w1.heap.size:=(hav1.lt ga rfl).2
 obtain⟨kd,hkd⟩:=exq (s.kind)
 obtain⟨nx,hnx9⟩:=exq (s.next)
 obtain⟨fr,hfr⟩:=exq (s.fresh)
 rw[<-hkd]at a0 hw1 hbx
 rw[<-hnx9]at a2 hw1 hbx hnx
 rw[<-hfr]at a3 hw1 hbx
 have HKD:=aa (And.intro hc (And.intro hkd hfr))
 have HNX:Hid (NX d.M d.T.length nx K'):=hnx.more (fun _ _ h=>h) (by omega)
 have HI:Hid ((Tryz.prog.info? 215).map (·.size)=some E.length):=by show _=_;rw[hE];kernel_rfl
 have HI':Hid ((Tryz.prog.info? 215).map (·.size)=some E.toArray.size):=by show _=_;rw[List.size_toArray];exact HI.O
 have HOLD:Hid (iI.toArray.size=E.toArray.size):=by show _=_;rw[List.size_toArray,List.size_toArray,hE];rfl
 have HAL:=aa (am hEP)
 have HM:=aa hm
 have HK:=aa hk
 have H:=aa h
 have H1:=aa h1
 have F1:=aa f1
 have HB:=aa hbx
 have HNB:=aa hnb
 have HW1:=aa hw1
 have HBE:=aa hb
 have HS:=aa hS
 rw[<-hS]
 have hk0:kd=0:=hkd.trans (Prod.mk.inj hc).1.symm
 subst hk0
 clear hs hso hsv hkl hcell hfz hnx hr hav hyn hxs hxw hbx h1 f1 hnb hw1 hb hS hrb hmm hr1 hav1 hkd hnx9 hfr h hm hc he hE hEP hy hsx hk
 go_enter Tryz.func143,Tryz.ntmps143
 go_upto_region 14 with fail
 rw[<-HW1.O,<-HBE.O]
 clear s2 hSl a0 a1 a2 a3 hkm
 refine aQ (by kernel_rfl) ?_
 refine tk (i:=0) (v:= ?_) rfl ?_ ?_
 rotate_left
 ·intro w'
  go_simp
  try with_reducible rfl
 simp only[Act.put,List.replicate,Array.replicate,lx]
 refine tk (i:=1) (v:= ?_) rfl ?_ ?_
 rotate_left
 ·intro w'
  go_simp
  try with_reducible rfl
 simp only[Act.put,List.replicate,Array.replicate,lx]
 refine tk (i:=2) (v:= ?_) rfl ?_ ?_
 rotate_left
 ·intro w'
  go_simp
  try with_reducible rfl
 simp only[Act.put,List.replicate,Array.replicate,lx]
 refine tk (i:=7) (v:= ?_) rfl ?_ ?_
 rotate_left
 ·intro w'
  go_simp
  try with_reducible rfl
 simp only[Act.put,List.replicate,Array.replicate,lx]
 refine aV (S:=(fun oi w'=>oi<12 ->w'.cell? ⟨S,0,none⟩=some (.pointer (some ⟨rb,0,none⟩))/\w'.cell? ⟨rb,0,none⟩=some (.slice (some ⟨ga,0,none⟩) na ca)/\w'.cell? ⟨b,1,none⟩=some (.int .i64 (y:Int))/\w'.rangeAt ga (y*134) E)) _ _ _ _ ?_
 refine tkJ (i:=3) (v:= ?_) rfl ⟨x1,x2,x3,x4⟩ ?_ ?_
 rotate_left
 ·intro w' hSw
  obtain⟨f1,f2,f3,f4⟩:=hSw
  go_simp
  try with_reducible rfl
 simp only[Act.put,List.replicate,Array.replicate,lx]
 refine tkJ (i:=4) (v:= ?_) rfl ⟨x1,x2,x3,x4⟩ ?_ ?_
 rotate_left
 ·intro w' hSw
  obtain⟨f1,f2,f3,f4⟩:=hSw
  go_simp
  try with_reducible rfl
 simp only[Act.put,List.replicate,Array.replicate,lx]
 refine tkJ (i:=5) (v:= ?_) rfl ⟨x1,x2,x3,x4⟩ ?_ ?_
 rotate_left
 ·intro w' hSw
  obtain⟨f1,f2,f3,f4⟩:=hSw
  go_simp
  try with_reducible rfl
 simp only[Act.put,List.replicate,Array.replicate,lx]
 refine tkJ (i:=6) (v:= ?_) rfl ⟨x1,x2,x3,x4⟩ ?_ ?_
 rotate_left
 ·intro w' hSw
  obtain⟨f1,f2,f3,f4⟩:=hSw
  go_simp
  try with_reducible rfl
 simp only[Act.put,List.replicate,Array.replicate,lx]
 refine tkJ (i:=8) (v:= ?_) rfl ⟨x1,x2,x3,x4⟩ ?_ ?_
 rotate_left
 ·intro w' hSw
  obtain⟨f1,f2,f3,f4⟩:=hSw
  go_simp
  try with_reducible rfl
 simp only[Act.put,List.replicate,Array.replicate,lx]
 refine tkJ (i:=9) (v:= ?_) rfl ⟨x1,x2,x3,x4⟩ ?_ ?_
 rotate_left
 ·intro w' hSw
  obtain⟨f1,f2,f3,f4⟩:=hSw
  go_simp
  try with_reducible rfl
 simp only[Act.put,List.replicate,Array.replicate,lx]
 refine tkR (i:=10) rfl ⟨x1,x2,x3,x4⟩ (yieldsIf_load_mid (by rfl) _ _ rfl _ _ rfl E _ (fun w' h=>h.2.2.2) Tryz.underlying215 rfl HI.O) ?_
 simp only[Act.put,List.replicate,Array.replicate,lx]
 refine ae (i:=11) rfl rfl (by kernel_rfl) (fun K hK=> ?_)
 refine kt rfl ?_
 have X4:Hid (Ex [] w1 (w1.drew.alloc (.cells iI.toArray 215))):=((Ex.refl _ _).drew).alloc _
 refine hK.O _ _ (fun _=>⟨(X4.O.cell0.1 _ _ hSl1).trans x1,(X4.O.cell0.1 _ _ hrl1).trans x2,(X4.O.cell0.1 _ _ hbl1).trans x3,fun j v hv=>(X4.O.cell0.1 _ _ hgl1).trans (x4 j v hv)⟩) ?_
 clear hK K
 simp only[Act.put,List.replicate,Array.replicate,lx]
 refine ae (i:=12) rfl rfl (by kernel_rfl) (fun K hK=> ?_)
 refine wp_store_row 215 _ _ rfl w1.heap.size E.toArray rfl rfl 215 _ (heap_alloc_new _ _) HI'.O HOLD.O HAL.O ?_
 refine hK.O _ _ (fun h=>by omega) ?_
 clear hK K
 refine aP (by kernel_rfl) ?_ _
 generalize hw2:World.setRow _ _ _=w2
 have hx12:Ex [] w1 w2:=by rw[<-hw2];exact (((Ex.refl _ _).drew).alloc _).setRow (.inr (Nat.le_refl _)) _
 have he2:BK w2 w1.heap.size (.cells E.toArray 215 (0,0)):=by rw[<-hw2];exact setRow_heap _ _ _ _ _ _ (heap_alloc_new _ _)
 obtain⟨b2,hb2⟩:=exq (w1.heap.size)
 rw[show w1.drew.heap.size=w1.heap.size from rfl,<-hb2]
 rw[<-hb2]at he2
 obtain⟨h2,f12⟩:=H1.O.ex HK.O hx12
 have HT2:=aa (BK.ex HB.O hx12 (by simp))
 have HE2:=aa he2
 have HNE:Hid (¬Mg c d b2):=H1.O.new HK.O (by omega)
 have H2:=aa h2
 have F2:=aa (F1.O.trans f12)
 have hbl2:=HT2.O.lt
 have hel2:=HE2.O.lt
 clear hw2 hx12 he2 hb2 h2 f12 x1 x2 x3 x4 hSl1 hrl1 hbl1 hgl1
 have n2:w2.cell? ⟨b,2,none⟩=some (.int .i64 nx):=HT2.O.all.1 2
 cases Y with
 |emp y=>
  have hEe:=HEE.O
  have E0:Hid (E[0]? =some (.int .i64 1)):=by show _=_;rw[hEe];rfl
  have HEV:Hid (evK c i (.ex (.emp y)::K')=evK c i K'):=by
   show _=_
   unfold evK;exact gc _ _ _
  have k0:w2.cell? ⟨b2,0,none⟩=some (.int .i64 1):=by rw[HE2.O.all.1 0,List.getElem?_toArray];exact E0.O
  clear hEe
  have KE:=aa ((V.O d w2 nx H2.O HNX.O).mono (fun e w5 h5=>cu.of h5 F2.O rfl rfl))
  rw[<-HS.O]at KE
  go_wp2_with fail
  refine KE.O.mono ?_
  rintro e w5 h5
  obtain⟨d5,rfl,g5,f5,a5⟩:=h5
  have H5:Hid (cu c d w (evK c i K') (.returned (.bool (evK c i K').isSome)) w5):=⟨d5,rfl,g5,f5,a5⟩
  clear g5 f5 a5
  go_wp2_with fail
  go_ret
  rw[HEV.O]
  exact H5.O
 |set y cl=>
  obtain⟨bs,hbs129,hag0,hEe⟩:=HEE.O
  have HAG:=aa hag0
  clear hag0
  have E0:Hid (E[0]? =some (.int .i64 2)):=by show _=_;rw[hEe];rfl
  have ES:Hid (∀(j:Nat) v,(sB bs)[j]? =some v ->E[5+j]? =some v):=fun j v hv=>by rw[hEe,Nat.add_comm];exact hv
  have k0:w2.cell? ⟨b2,0,none⟩=some (.int .i64 2):=by rw[HE2.O.all.1 0,List.getElem?_toArray];exact E0.O
  clear hEe
  obtain⟨n,hn⟩:=exq (c.l3.length)
  obtain⟨lp,lc,hlv⟩:=aA H2.O.run
  have g1:w2.cell? ⟨S,1,none⟩=some (.slice lp n lc):=by rw[HS.O,hn,<-hlv];exact H2.O.blk.all.1 1
  have hSl2:S<w2.heap.size:=by rw[HS.O];exact H2.O.blk.lt
  have HN:=aa hn
  have HLV:=aa hlv
  clear hlv hn
  by_cases hin:i<n
  rotate_left
  ·have hq:decide ((n:Int)<=(i:Int))=true:=decide_eq_true (by omega)
   have hqn:decide (n<=i)=true:=decide_eq_true (by omega)
   have hev:=nT (c:=c) (i:=i) (y:=y) (cl:=cl) (K':=K') (by have:=HN.O;omega)
   have HW:Hid (cu c d w (evK c i (.ex (.set y cl)::K')) (.returned (.bool false)) w2.drew):=by
    rw[hev]
    exact⟨d,rfl,H2.O.drewN 1,F2.O.drewN 1,rfl,rfl⟩
   clear hev
   go_upto_region 19 with fail
   go_quiet (fail)
   go_wp2_with fail
   go_ret
   first|exact HW.O|exact (by rw[nT (c:=c) (i:=i) (y:=y) (cl:=cl) (K':=K') (by have:=HN.O;omega)];exact⟨d,rfl,H2.O.drewN _,F2.O.drewN _,rfl,rfl⟩)
  ·obtain⟨x,hx⟩:∃x,c.l3[i]? =some x:=⟨_,List.getElem?_eq_getElem (by have:=HN.O;omega)⟩
   obtain⟨lg,lc',e,_⟩:=dO H2.O.run (by have:=HN.O;omega)
   have hrun:=H2.O.run
   have e2:=HLV.O.symm.trans e
   injection e2 with e3 _ e4
   subst e3
   rw[e]at hrun
   have hlg2:lg<w2.heap.size:=(hrun.lt lg rfl).2
   obtain⟨r,hr⟩:=exq (x.1)
   have g3:w2.cell? ⟨lg,i*3,none⟩=some (.int .i64 (r:Int)):=by
    rw[hrun.cellAt (i*3) (by have:=HN.O;omega),hr]
    exact eD tY c.l3 i x 0 hx (by decide)
   have hr128:r<=128:=by rw[hr];exact HK.O.rc i x hx
   have hev:=uM HK.O (y:=y) (cl:=cl) (K':=K') hx
   rw[<-hr]at hev
   have hag:hB bs r=hasC cl (r:Int):=(HAG.O.2 r hr128)
   have KL:=aa (fun w=>wS bs hbs129 r hr128 w)
   rw[hag]at KL
   obtain⟨t,ht⟩:=exq (hasC cl (r:Int))
   rw[<-ht]at KL hev
   have HEV:=aa hev
   have HVX:Hid (eA c (i+1) (iW K')):=V.O (by have:=HN.O;omega)
   have g2:w2.rangeAt b2 5 (sB bs):=fun j v hv=>by have h9:=HE2.O.rangeL (5+j) v (ES.O j v hv);rw[Nat.zero_add]at h9;exact h9
   have HI9:Hid ((Tryz.prog.info? 213).map (·.size)=some (sB bs).length):=by show _=_;rw[ah,hbs129];kernel_rfl
   have hii:(i:Int)<(n:Int):=by omega
   have hq:decide ((n:Int)<=(i:Int))=false:=decide_eq_false (by omega)
   have hqn:decide (n<=i)=false:=decide_eq_false (by omega)
   have hiw:(i:Int)+1<=9223372036854775807:=by have:=HK.O.ln;have:=HN.O;omega
   have hin1:i<9223372036854775807:=by omega
   clear hev ht hag hr hrun e e4 hx
   go_upto_region 19 with fail
   refine aQ (by kernel_rfl) ?_
   refine tk (i:=0) (v:= ?_) rfl ?_ ?_
   rotate_left
   ·intro w'
    go_simp
    try with_reducible rfl
   simp only[Act.put,List.replicate,Array.replicate,lx]
   refine tk (i:=1) (v:= ?_) rfl ?_ ?_
   rotate_left
   ·intro w'
    go_simp
    try with_reducible rfl
   simp only[Act.put,List.replicate,Array.replicate,lx]
   refine tk (i:=2) (v:= ?_) rfl ?_ ?_
   rotate_left
   ·intro w'
    go_simp
    try with_reducible rfl
   simp only[Act.put,List.replicate,Array.replicate,lx]
   refine tk (i:=3) (v:= ?_) rfl ?_ ?_
   rotate_left
   ·intro w'
    go_simp
    try with_reducible rfl
   simp only[Act.put,List.replicate,Array.replicate,lx]
   refine aV (S:=(fun oi w'=>oi<21 ->w'.cell? ⟨S,1,none⟩=some (.slice (some ⟨lg,0,none⟩) n lc)/\w'.rangeAt b2 5 (sB bs)/\w'.cell? ⟨lg,i*3,none⟩=some (.int .i64 (r:Int)))) _ _ _ _ ?_
   refine tkJ (i:=4) (v:= ?_) rfl ⟨g1,g2,g3⟩ ?_ ?_
   rotate_left
   ·intro w' hSw
    obtain⟨f1,f2,f3⟩:=hSw
    go_simp
    try with_reducible rfl
   simp only[Act.put,List.replicate,Array.replicate,lx]
   refine tkJ (i:=5) (v:= ?_) rfl ⟨g1,g2,g3⟩ ?_ ?_
   rotate_left
   ·intro w' hSw
    obtain⟨f1,f2,f3⟩:=hSw
    go_simp
    try with_reducible rfl
   simp only[Act.put,List.replicate,Array.replicate,lx]
   refine tkJ (i:=6) (v:= ?_) rfl ⟨g1,g2,g3⟩ ?_ ?_
   rotate_left
   ·intro w' hSw
    obtain⟨f1,f2,f3⟩:=hSw
    go_simp
    try with_reducible rfl
   simp only[Act.put,List.replicate,Array.replicate,lx]
   refine tkJ (i:=7) (v:= ?_) rfl ⟨g1,g2,g3⟩ ?_ ?_
   rotate_left
   ·intro w' hSw
    obtain⟨f1,f2,f3⟩:=hSw
    go_simp
    try with_reducible rfl
   simp only[Act.put,List.replicate,Array.replicate,lx]
   refine tkJ (i:=8) (v:= ?_) rfl ⟨g1,g2,g3⟩ ?_ ?_
   rotate_left
   ·intro w' hSw
    obtain⟨f1,f2,f3⟩:=hSw
    go_simp
    try with_reducible rfl
   simp only[Act.put,List.replicate,Array.replicate,lx]
   refine tkR (i:=9) rfl ⟨g1,g2,g3⟩ (yieldsIf_load_mid (by rfl) _ _ rfl _ _ rfl (sB bs) _ (fun w' h=>h.2.1) Tryz.underlying213 rfl HI9.O) ?_
   simp only[Act.put,List.replicate,Array.replicate,lx]
   refine tkJ (i:=10) (v:= ?_) rfl ⟨g1,g2,g3⟩ ?_ ?_
   rotate_left
   ·intro w' hSw
    obtain⟨f1,f2,f3⟩:=hSw
    go_simp
    try with_reducible rfl
   simp only[Act.put,List.replicate,Array.replicate,lx]
   refine tkJ (i:=11) (v:= ?_) rfl ⟨g1,g2,g3⟩ ?_ ?_
   rotate_left
   ·intro w' hSw
    obtain⟨f1,f2,f3⟩:=hSw
    go_simp
    try with_reducible rfl
   simp only[Act.put,List.replicate,Array.replicate,lx]
   refine tkJ (i:=12) (v:= ?_) rfl ⟨g1,g2,g3⟩ ?_ ?_
   rotate_left
   ·intro w' hSw
    obtain⟨f1,f2,f3⟩:=hSw
    go_simp
    try with_reducible rfl
   simp only[Act.put,List.replicate,Array.replicate,lx]
   refine tkJ (i:=13) (v:= ?_) rfl ⟨g1,g2,g3⟩ ?_ ?_
   rotate_left
   ·intro w' hSw
    obtain⟨f1,f2,f3⟩:=hSw
    go_simp
    try with_reducible rfl
   simp only[Act.put,List.replicate,Array.replicate,lx]
   refine tkJ (i:=14) (v:= ?_) rfl ⟨g1,g2,g3⟩ ?_ ?_
   rotate_left
   ·intro w' hSw
    obtain⟨f1,f2,f3⟩:=hSw
    go_simp
    try with_reducible rfl
   simp only[Act.put,List.replicate,Array.replicate,lx]
   refine tkJ (i:=15) (v:= ?_) rfl ⟨g1,g2,g3⟩ ?_ ?_
   rotate_left
   ·intro w' hSw
    obtain⟨f1,f2,f3⟩:=hSw
    go_simp
    try with_reducible rfl
   simp only[Act.put,List.replicate,Array.replicate,lx]
   refine tkJ (i:=16) (v:= ?_) rfl ⟨g1,g2,g3⟩ ?_ ?_
   rotate_left
   ·intro w' hSw
    obtain⟨f1,f2,f3⟩:=hSw
    go_simp
    try with_reducible rfl
   simp only[Act.put,List.replicate,Array.replicate,lx]
   refine tkJ (i:=17) (v:= ?_) rfl ⟨g1,g2,g3⟩ ?_ ?_
   rotate_left
   ·intro w' hSw
    obtain⟨f1,f2,f3⟩:=hSw
    go_simp
    try with_reducible rfl
   simp only[Act.put,List.replicate,Array.replicate,lx]
   refine rQ (i:=18) rfl (by rfl) (by kernel_rfl) (fun K hK=> ?_)
   go_simp
   refine (KL.O _).mono ?_
   rintro e w9 ⟨rfl,hx9⟩
   go_simp
   have g1:=(hx9.cell0.1 _ _ hSl2).trans g1
   have g3:=(hx9.cell0.1 _ _ hlg2).trans g3
   have g2:w9.rangeAt b2 5 (sB bs):=fun j v hv=>(hx9.cell0.1 _ _ hel2).trans (g2 j v hv)
   refine hK.O _ _ (fun _=>⟨g1,g2,g3⟩) ?_
   clear hK K
   simp only[Act.put,List.replicate,Array.replicate,lx]
   refine tkJ (i:=19) (v:= ?_) rfl ⟨g1,g2,g3⟩ ?_ ?_
   rotate_left
   ·intro w' hSw
    obtain⟨f1,f2,f3⟩:=hSw
    go_simp
    try with_reducible rfl
   simp only[Act.put,List.replicate,Array.replicate,lx]
   refine tkJ (i:=20) (v:= ?_) rfl ⟨g1,g2,g3⟩ ?_ ?_
   rotate_left
   ·intro w' hSw
    obtain⟨f1,f2,f3⟩:=hSw
    go_simp
    try with_reducible rfl
   simp only[Act.put,List.replicate,Array.replicate,lx]
   refine aP (by kernel_rfl) ?_ _
   obtain⟨h9,f9⟩:=(H2.O.drewN 1).ex HK.O hx9
   have ht9:=BK.ex (BK.drewN HT2.O 1) hx9 (by simp)
   have H9:=aa h9
   have F9:=aa ((F2.O.drewN 1).trans f9)
   have n9:w9.cell? ⟨b,2,none⟩=some (.int .i64 nx):=ht9.all.1 2
   have hbl9:=ht9.lt
   have KP:=aa (rA HK.O d.T.length H9.O nx K' HNX.O)
   rw[<-HS.O]at KP
   clear h9 f9 ht9 hx9 g1 g2 g3 k0 n2
   clear g1 g2 g3 hq hqn
   cases t with
   |false=>
    have HW:Hid (cu c d w (evK c i (.ex (.set y cl)::K')) (.returned (.bool false)) w9):=by
     rw[HEV.O]
     exact⟨d,rfl,H9.O,F9.O,rfl,rfl⟩
    simp only[Bool.not_false]
    go_wp2_with fail
    go_ret
    exact HW.O
   |true=>
    simp only[Bool.not_true]
    go_wp2_with fail
    refine KP.O.mono ?_
    rintro e w3 ⟨r3,d3,rfl,h3,f3,x3,hsp3,hop3⟩
    have KE:=aa ((HVX.O d3 w3 r3 h3 x3).mono (fun e w5 h5=>cu.of h5 (F9.O.trans f3) hsp3 hop3))
    rw[<-HS.O]at KE
    have e1:((i+1:Nat):Int)=(i:Int)+1:=by omega
    rw[e1]at KE
    clear h3 f3 x3 hsp3 hop3 e1 KP n9
    go_wp2_with fail
    refine KE.O.mono ?_
    rintro e w5 h5
    obtain⟨d5,rfl,g5,f5,a5⟩:=h5
    have H5:Hid (cu c d w (evK c i (.ex (.set y cl)::K')) (.returned (.bool (evK c (i+1) (iW K')).isSome)) w5):=by rw[HEV.O];exact⟨d5,rfl,g5,f5,a5⟩
    clear g5 f5 a5
    go_wp2_with fail
    go_ret
    exact H5.O
 |cat y A B=>
  have hEe:=HEE.O
  have E0:Hid (E[0]? =some (.int .i64 3)):=by show _=_;rw[hEe];rfl
  have E1:Hid (E[1]? =some (.int .i64 (A.idx:Int))):=by show _=_;rw[hEe];rfl
  have E2:Hid (E[2]? =some (.int .i64 (B.idx:Int))):=by show _=_;rw[hEe];rfl
  have HEV:Hid (evK c i (.ex (.cat y A B)::K')=evK c i (.ex A:: .ex B::K')):=by
   show _=_
   unfold evK;exact f0 _ _ _ _ _
  have k0:w2.cell? ⟨b2,0,none⟩=some (.int .i64 3):=by rw[HE2.O.all.1 0,List.getElem?_toArray];exact E0.O
  clear hEe
  have K1:=aa (eQ HK.O H2.O HM.O _ _ rfl nx HNX.O 0 (B.idx:Int) false rfl)
  rw[<-HS.O]at K1
  have q1:w2.cell? ⟨b2,2,none⟩=some (.int .i64 (B.idx:Int)):=by rw[HE2.O.all.1 2,List.getElem?_toArray];exact E2.O
  go_wp2_with fail
  refine K1.O.mono ?_
  rintro e w3 ⟨i3,d3,rfl,h3,f3,hi3,hsp3,hop3⟩
  clear K1 q1 n2 k0
  have ht3:=BK.sf HT2.O f3 HNB.O
  have he3:=BK.sf HE2.O f3 HNE.O
  have HNB3:Hid (¬Mg c d3 b):=fun hm=>HNB.O (f3.mg b hbl2 hm)
  have HNE3:Hid (¬Mg c d3 b2):=fun hm=>HNE.O (f3.mg b2 hel2 hm)
  have HNX3:=aa (NX.sf HNX.O f3 h3)
  have K2:=aa (fw HK.O h3 (f3.mor _ _ HM.O) _ _ rfl i3 (NX.at h3 hi3) 0 (A.idx:Int) false rfl)
  rw[<-HS.O]at K2
  have q1:w3.cell? ⟨b2,1,none⟩=some (.int .i64 (A.idx:Int)):=by rw[he3.all.1 1,List.getElem?_toArray];exact E1.O
  have n2:w3.cell? ⟨b,2,none⟩=some (.int .i64 nx):=ht3.all.1 2
  have F3:=aa (F2.O.trans f3)
  have HT3:=aa ht3
  have HE3:=aa he3
  have HM3:=aa (f3.mor _ _ HM.O)
  have HI3:=aa hi3
  have HSP3:=aa (And.intro hsp3 hop3)
  have hbl3:=ht3.lt
  have hel3:=he3.lt
  clear ht3 he3 h3 f3 hi3 hsp3 hop3
  go_wp2_with fail
  refine K2.O.mono ?_
  rintro e w4 ⟨i4,d4,rfl,h4,f4,hi4,hsp4,hop4⟩
  clear K2 q1 n2
  have KE:=aa ((V.O d4 w4 (i4:Int) h4 (NX.at h4 hi4)).mono (fun e w5 h5=>cu.of h5 (F3.O.trans f4) (hsp4.trans HSP3.O.1) (hop4.trans HSP3.O.2)))
  rw[<-HS.O]at KE
  clear h4 f4 hi4 hsp4 hop4
  go_wp2_with fail
  refine KE.O.mono ?_
  rintro e w5 h5
  obtain⟨d5,rfl,g5,f5,a5⟩:=h5
  have H5:Hid (cu c d w (evK c i (.ex A:: .ex B::K')) (.returned (.bool (evK c i (.ex A:: .ex B::K')).isSome)) w5):=⟨d5,rfl,g5,f5,a5⟩
  clear g5 f5 a5
  go_wp2_with fail
  go_ret
  rw[HEV.O]
  exact H5.O
 |alt y A B=>
  have hEe:=HEE.O
  have E0:Hid (E[0]? =some (.int .i64 4)):=by show _=_;rw[hEe];rfl
  have E1:Hid (E[1]? =some (.int .i64 (A.idx:Int))):=by show _=_;rw[hEe];rfl
  have E2:Hid (E[2]? =some (.int .i64 (B.idx:Int))):=by show _=_;rw[hEe];rfl
  have HEV:Hid (evK c i (.ex (.alt y A B)::K')=(evK c i (.ex A::K')).or (evK c i (.ex B::K'))):=by
   show _=_
   unfold evK;exact fA _ _ _ _ _
  have k0:w2.cell? ⟨b2,0,none⟩=some (.int .i64 4):=by rw[HE2.O.all.1 0,List.getElem?_toArray];exact E0.O
  clear hEe
  have V1:=aa V.O.1
  have V2:=aa V.O.2
  have K1:=aa (eQ HK.O H2.O HM.O _ _ rfl nx HNX.O 0 (A.idx:Int) false rfl)
  rw[<-HS.O]at K1
  have q1:w2.cell? ⟨b2,1,none⟩=some (.int .i64 (A.idx:Int)):=by rw[HE2.O.all.1 1,List.getElem?_toArray];exact E1.O
  go_wp2_with fail
  refine K1.O.mono ?_
  rintro e w3 ⟨i3,d3,rfl,h3,f3,hi3,hsp3,hop3⟩
  clear K1 q1 n2 k0
  have ht3:=BK.sf HT2.O f3 HNB.O
  have he3:=BK.sf HE2.O f3 HNE.O
  have HNB3:Hid (¬Mg c d3 b):=fun hm=>HNB.O (f3.mg b hbl2 hm)
  have HNE3:Hid (¬Mg c d3 b2):=fun hm=>HNE.O (f3.mg b2 hel2 hm)
  have HNX3:=aa (NX.sf HNX.O f3 h3)
  have K2:=aa (fw HK.O h3 (f3.mor _ _ HM.O) _ _ rfl nx HNX3.O 0 (B.idx:Int) false rfl)
  rw[<-HS.O]at K2
  have q1:w3.cell? ⟨b2,2,none⟩=some (.int .i64 (B.idx:Int)):=by rw[he3.all.1 2,List.getElem?_toArray];exact E2.O
  have n2:w3.cell? ⟨b,2,none⟩=some (.int .i64 nx):=ht3.all.1 2
  have F3:=aa (F2.O.trans f3)
  have HT3:=aa ht3
  have HE3:=aa he3
  have HM3:=aa (f3.mor _ _ HM.O)
  have HI3:=aa hi3
  have HSP3:=aa (And.intro hsp3 hop3)
  have hbl3:=ht3.lt
  have hel3:=he3.lt
  clear ht3 he3 h3 f3 hi3 hsp3 hop3
  go_wp2_with fail
  refine K2.O.mono ?_
  rintro e w4 ⟨i4,d4,rfl,h4,f4,hi4,hsp4,hop4⟩
  clear K2 q1 n2
  have F4:=aa (F3.O.trans f4)
  have HSP4:=aa (And.intro (hsp4.trans HSP3.O.1) (hop4.trans HSP3.O.2))
  have KA:=aa (V1.O d4 w4 (i3:Int) h4 (NX.at h4 (f4.mor _ _ HI3.O)))
  have KB:Hid (∀d' w',SG c d' w' ->SF c d4 d' w4 w' ->Calls Tryz.prog 99 #[.pointer (some ⟨c.S,0,none⟩),.int .i64 (i4:Int),.int .i64 (i:Int)] w' (cu c d' w' (evK c i (.ex B::K')))):=fun d' w' g f=>V2.O d' w' (i4:Int) g (NX.at g (f.mor _ _ hi4))
  rw[<-HS.O]at KA KB
  clear h4 f4 hi4 hsp4 hop4
  obtain⟨R1,hR1⟩:=exq (evK c i (.ex A::K'))
  obtain⟨R2,hR2⟩:=exq (evK c i (.ex B::K'))
  rw[<-hR1]at KA
  rw[<-hR2]at KB
  have HR1:=aa hR1
  have HR2:=aa hR2
  clear hR1 hR2
  go_wp2_with fail
  refine KA.O.mono ?_
  rintro e w5 ⟨d5,rfl,h5,f5,ha⟩
  cases R1 with
  |some ms=>
   have H5:Hid (cu c d w ((evK c i (.ex A::K')).or (evK c i (.ex B::K'))) (.returned (.bool true)) w5):=by
    rw[<-HR1.O]
    exact cu.of ⟨d5,rfl,h5,f5,ha⟩ F4.O HSP4.O.1 HSP4.O.2
   clear h5 f5 ha
   go_wp2_with fail
   go_ret
   rw[HEV.O]
   exact H5.O
  |none=>
   have K5:=aa ((KB.O d5 w5 h5 f5).mono (fun e w6 h6=>(cu.of h6 (F4.O.trans f5) (ha.1.trans HSP4.O.1) (ha.2.trans HSP4.O.2))))
   clear h5 f5 ha
   go_wp2_with fail
   refine K5.O.mono ?_
   rintro e w6 h6
   obtain⟨d6,rfl,g6,f6,a6⟩:=h6
   have H6:Hid (cu c d w ((evK c i (.ex A::K')).or (evK c i (.ex B::K'))) (.returned (.bool R2.isSome)) w6):=by
    rw[<-HR1.O,<-HR2.O]
    exact⟨d6,rfl,g6,f6,a6⟩
   clear g6 f6 a6
   go_wp2_with fail
   go_ret
   rw[HEV.O]
   exact H6.O
 |star y A z=>
  have hEe:=HEE.O
  have E0:Hid (E[0]? =some (.int .i64 5)):=by show _=_;rw[hEe];rfl
  have E1:Hid (E[1]? =some (.int .i64 (A.idx:Int))):=by show _=_;rw[hEe];rfl
  have HEV:Hid (evK c i (.ex (.star y A z)::K')=bV z (evK c i (.ex A:: .rend y A z true::K')) (evK c i K')):=by
   show _=_
   unfold evK;exact ed _ _ _ _ _
  have k0:w2.cell? ⟨b2,0,none⟩=some (.int .i64 5):=by rw[HE2.O.all.1 0,List.getElem?_toArray];exact E0.O
  clear hEe
  have V1:=aa V.O.1
  have V2:=aa V.O.2
  have KE:=aa ((oN HK.O (i:=i) H2.O HM.O rfl rfl rfl HOK.O.1 (cX _ _ _ _ _ _ (by decide)) (b6 _ _ _ _ _ _) rfl rfl V1.O V2.O).mono (fun e w5 h5=>cu.of h5 F2.O rfl rfl))
  rw[<-HS.O]at KE
  go_wp2_with fail
  refine KE.O.mono ?_
  rintro e w5 h5
  obtain⟨d5,rfl,g5,f5,a5⟩:=h5
  have H5:Hid (cu c d w (bV z (evK c i (.ex A:: .rend y A z true::K')) (evK c i K')) (.returned (.bool (bV z (evK c i (.ex A:: .rend y A z true::K')) (evK c i K')).isSome)) w5):=⟨d5,rfl,g5,f5,a5⟩
  clear g5 f5 a5
  go_wp2_with fail
  go_ret
  rw[HEV.O]
  exact H5.O
 |may y A z=>
  have hEe:=HEE.O
  have E0:Hid (E[0]? =some (.int .i64 6)):=by show _=_;rw[hEe];rfl
  have E1:Hid (E[1]? =some (.int .i64 (A.idx:Int))):=by show _=_;rw[hEe];rfl
  have HEV:Hid (evK c i (.ex (.may y A z)::K')=bV z (evK c i (.ex A::K')) (evK c i K')):=by
   show _=_
   unfold evK;exact gh _ _ _ _ _
  have k0:w2.cell? ⟨b2,0,none⟩=some (.int .i64 6):=by rw[HE2.O.all.1 0,List.getElem?_toArray];exact E0.O
  clear hEe
  have V1:=aa V.O.1
  have V2:=aa V.O.2
  have KE:=aa ((wW HK.O (i:=i) H2.O HM.O rfl rfl HOK.O.1 (cX _ _ _ _ _ _ (by decide)) (b6 _ _ _ _ _ _) rfl rfl V1.O V2.O).mono (fun e w5 h5=>cu.of h5 F2.O rfl rfl))
  rw[<-HS.O]at KE
  go_wp2_with fail
  refine KE.O.mono ?_
  rintro e w5 h5
  obtain⟨d5,rfl,g5,f5,a5⟩:=h5
  have H5:Hid (cu c d w (bV z (evK c i (.ex A::K')) (evK c i K')) (.returned (.bool (bV z (evK c i (.ex A::K')) (evK c i K')).isSome)) w5):=⟨d5,rfl,g5,f5,a5⟩
  clear g5 f5 a5
  go_wp2_with fail
  go_ret
  rw[HEV.O]
  exact H5.O
 |grp y A n=>
  have hgn:=HGN.O _ _ _ rfl
  have hEe:=HEE.O
  have E0:Hid (E[0]? =some (.int .i64 7)):=by show _=_;rw[hEe];rfl
  have E1:Hid (E[1]? =some (.int .i64 (A.idx:Int))):=by show _=_;rw[hEe];rfl
  have E3:Hid (E[3]? =some (.int .i64 (n:Int))):=by show _=_;rw[hEe];rfl
  have HEV:Hid (evK c i (.ex (.grp y A n)::K')=(evK c i (.ex A:: .gend n::K')).map ((beg n,eY c.l3 c.en i):: ·)):=by
   show _=_
   unfold evK;exact gd _ _ _ _ _
  have k0:w2.cell? ⟨b2,0,none⟩=some (.int .i64 7):=by rw[HE2.O.all.1 0,List.getElem?_toArray];exact E0.O
  clear hEe
  have K1:=aa (eQ HK.O H2.O HM.O _ _ rfl nx HNX.O (-1) (n:Int) false rfl)
  rw[<-HS.O]at K1
  have q1:w2.cell? ⟨b2,3,none⟩=some (.int .i64 (n:Int)):=by rw[HE2.O.all.1 3,List.getElem?_toArray];exact E3.O
  go_wp2_with fail
  refine K1.O.mono ?_
  rintro e w3 ⟨i3,d3,rfl,h3,f3,hi3,hsp3,hop3⟩
  clear K1 q1 n2 k0
  have ht3:=BK.sf HT2.O f3 HNB.O
  have he3:=BK.sf HE2.O f3 HNE.O
  have HNB3:Hid (¬Mg c d3 b):=fun hm=>HNB.O (f3.mg b hbl2 hm)
  have HNE3:Hid (¬Mg c d3 b2):=fun hm=>HNE.O (f3.mg b2 hel2 hm)
  have HNX3:=aa (NX.sf HNX.O f3 h3)
  have K2:=aa (fw HK.O h3 (f3.mor _ _ HM.O) _ _ rfl i3 (NX.at h3 hi3) 0 (A.idx:Int) false rfl)
  rw[<-HS.O]at K2
  have q1:w3.cell? ⟨b2,1,none⟩=some (.int .i64 (A.idx:Int)):=by rw[he3.all.1 1,List.getElem?_toArray];exact E1.O
  have n2:w3.cell? ⟨b,2,none⟩=some (.int .i64 nx):=ht3.all.1 2
  have F3:=aa (F2.O.trans f3)
  have HT3:=aa ht3
  have HE3:=aa he3
  have HM3:=aa (f3.mor _ _ HM.O)
  have HI3:=aa hi3
  have HSP3:=aa (And.intro hsp3 hop3)
  have hbl3:=ht3.lt
  have hel3:=he3.lt
  clear ht3 he3 h3 f3 hi3 hsp3 hop3
  go_wp2_with fail
  refine K2.O.mono ?_
  rintro e w4 ⟨i4,d4,rfl,h4,f4,hi4,hsp4,hop4⟩
  clear K2 q1 n2
  have ht4:=BK.sf HT3.O f4 HNB3.O
  have he4:=BK.sf HE3.O f4 HNE3.O
  have HNE4:Hid (¬Mg c d4 b2):=fun hm=>HNE3.O (f4.mg b2 hel3 hm)
  have F4:=aa (F3.O.trans f4)
  have HSP4:=aa (And.intro (hsp4.trans HSP3.O.1) (hop4.trans HSP3.O.2))
  have HI4:=aa hi4
  obtain⟨pg,pc,og,oc,_,eov,_,hol,_,o0,_,fzo⟩:=h4.grp (x:=n) (by omega)
  obtain⟨G,hG⟩:=exq (c.g)
  have hnG:(n:Int)<(G:Int)+1:=by omega
  have p4:w4.cell? ⟨S,4,none⟩=some (.slice (some ⟨og,0,none⟩) (G+1) oc):=by rw[HS.O,hG,<-eov];exact h4.blk.all.1 4
  have n3:w4.cell? ⟨b2,3,none⟩=some (.int .i64 (n:Int)):=by rw[he4.all.1 3,List.getElem?_toArray];exact E3.O
  obtain⟨ov,hov⟩:=exq (d4.op.getD n 0)
  rw[<-hov]at o0
  have hSl4:S<w4.heap.size:=by rw[HS.O];exact h4.blk.lt
  have hel4:=he4.lt
  have fz0:=fzo n
  have HG:=aa hG
  have HOV:=aa eov
  have HOVV:=aa hov
  have H4:=aa h4
  have HE4:=aa he4
  have KW:=aa (kr HK.O (H4.O.drewN 1) i)
  obtain⟨pl,hpl⟩:=exq (eY c.l3 c.en i)
  rw[<-HS.O,<-hpl]at KW
  have HPL:=aa hpl
  clear hG eov hov h4 f4 hsp4 hop4 hi4 ht4 he4 fzo hpl hbl2 hel2 hbl3 hel3
  go_upto_region 41 with fail
  go_quiet (fail)
  go_upto_region 42 with fail
  generalize hw5:World.drewN _ _=w5
  have h5:SG c d4 w5:=by rw[<-hw5];exact H4.O.drewN _
  have f5:SF c d d4 w w5:=by rw[<-hw5];exact F4.O.drewN _
  have he5:BK w5 b2 (.cells E.toArray 215 (0,0)):=by rw[<-hw5];exact BK.drewN HE4.O _
  have cw:∀a,w5.cell? a=w4.cell? a:=fun a=>by rw[<-hw5];rfl
  replace p4:=(cw _).trans p4
  replace n3:=(cw _).trans n3
  replace o0:=(cw _).trans o0
  replace fz0:w5.frozen? ⟨og,n,none⟩=false:=by rw[<-hw5];exact fz0
  replace hSl4:S<w5.heap.size:=by rw[HS.O];exact h5.blk.lt
  replace hel4:=he5.lt
  replace hol:og<w5.heap.size:=by rw[<-hw5];exact hol
  replace KW:=aa (kr HK.O (h5.drewN 1) i)
  rw[<-HS.O,<-HPL.O]at KW
  have H5:=aa h5
  have F5:=aa f5
  have HE5:=aa he5
  clear hw5 h5 f5 he5 cw
  refine aQ (by kernel_rfl) ?_
  refine tk (i:=0) (v:= ?_) rfl ?_ ?_
  rotate_left
  ·intro w'
   go_simp
   try with_reducible rfl
  simp only[Act.put,List.replicate,Array.replicate,lx]
  refine tk (i:=1) (v:= ?_) rfl ?_ ?_
  rotate_left
  ·intro w'
   go_simp
   try with_reducible rfl
  simp only[Act.put,List.replicate,Array.replicate,lx]
  refine tk (i:=2) (v:= ?_) rfl ?_ ?_
  rotate_left
  ·intro w'
   go_simp
   try with_reducible rfl
  simp only[Act.put,List.replicate,Array.replicate,lx]
  refine tk (i:=4) (v:= ?_) rfl ?_ ?_
  rotate_left
  ·intro w'
   go_simp
   try with_reducible rfl
  simp only[Act.put,List.replicate,Array.replicate,lx]
  refine tk (i:=6) (v:= ?_) rfl ?_ ?_
  rotate_left
  ·intro w'
   go_simp
   try with_reducible rfl
  simp only[Act.put,List.replicate,Array.replicate,lx]
  refine tk (i:=7) (v:= ?_) rfl ?_ ?_
  rotate_left
  ·intro w'
   go_simp
   try with_reducible rfl
  simp only[Act.put,List.replicate,Array.replicate,lx]
  refine aV (S:=(fun oi w'=>oi<10 ->w'.cell? ⟨S,4,none⟩=some (.slice (some ⟨og,0,none⟩) (G+1) oc)/\w'.cell? ⟨b2,3,none⟩=some (.int .i64 (n:Int)))) _ _ _ _ ?_
  refine tkJ (i:=3) (v:= ?_) rfl ⟨p4,n3⟩ ?_ ?_
  rotate_left
  ·intro w' hSw
   obtain⟨f1,f2⟩:=hSw
   go_simp
   try with_reducible rfl
  simp only[Act.put,List.replicate,Array.replicate,lx]
  refine tkJ (i:=5) (v:= ?_) rfl ⟨p4,n3⟩ ?_ ?_
  rotate_left
  ·intro w' hSw
   obtain⟨f1,f2⟩:=hSw
   go_simp
   try with_reducible rfl
  simp only[Act.put,List.replicate,Array.replicate,lx]
  refine ae (i:=8) rfl rfl (by kernel_rfl) (fun K hK=> ?_)
  go_simp
  refine KW.O.mono ?_
  rintro e w9 ⟨rfl,rfl⟩
  go_simp
  refine hK.O _ _ (fun _=>⟨p4,n3⟩) ?_
  clear hK K
  simp only[Act.put,List.replicate,Array.replicate,lx]
  refine tkJ (i:=9) (v:= ?_) rfl ⟨p4,n3⟩ ?_ ?_
  rotate_left
  ·intro w' hSw
   obtain⟨f1,f2⟩:=hSw
   go_simp
   try with_reducible rfl
  simp only[Act.put,List.replicate,Array.replicate,lx]
  refine ae (i:=10) rfl rfl (by kernel_rfl) (fun K hK=> ?_)
  go_simp
  refine hK.O _ _ (fun h=>by omega) ?_
  clear hK K
  refine aP (by kernel_rfl) ?_ _
  generalize hw6:World.setCell _ _ _=w6
  have hp6:=SG.opens HK.O (H5.O.drewN 1) (x:=n) HOV.O (pl:Int)
  have he6:=(BK.drewN HE5.O 1).set (p:=⟨og,n,none⟩) (fun e=>HNE4.O (.inr (.inr (.inr (.inl (by rw[HOV.O];exact congrArg some e.symm)))))) (.int .i64 (pl:Int))
  rw[hw6]at hp6 he6
  obtain⟨h6,f6⟩:=hp6
  have KV:=aa (V.O _ w6 (i4:Int) h6 (NX.at h6 HI4.O))
  rw[<-HS.O]at KV
  have HE6:=aa he6
  have F6:=aa ((F5.O.drewN 1).trans f6)
  have hel6:=he6.lt
  clear hw6 h6 f6 he6 p4 n3 o0 fz0 hSl4 hel4 hol KW
  go_wp2_with fail
  refine KV.O.mono ?_
  rintro e w7 ⟨d7,rfl,h7,f7,ha⟩
  obtain⟨R,hR⟩:=exq (evK c i (.ex A:: .gend n::K'))
  rw[<-hR]at ha ⊢
  clear KV
  cases R with
  |some ms=>
   have HW:Hid (cu c d w ((evK c i (.ex A:: .gend n::K')).map ((beg n,eY c.l3 c.en i):: ·)) (.returned (.bool true)) w7):=by
    rw[<-hR]
    refine⟨d7,rfl,h7,F6.O.trans f7,?_⟩
    show d7.sp=(fE d.sp d.op ((beg n,eY c.l3 c.en i)::ms)).1/\d7.op=(fE d.sp d.op ((beg n,eY c.l3 c.en i)::ms)).2
    rw[lu _ _ _ _ _ hgn.1,<-HPL.O,<-HSP4.O.1,<-HSP4.O.2]
    exact ha
   clear h7 f7 ha hR
   go_wp2_with fail
   go_ret
   rw[HEV.O]
   exact HW.O
  |none=>
   have he7:=BK.sf HE6.O f7 (fun hm=>HNE4.O hm)
   have hp8:=SG.opens HK.O h7 (x:=n) HOV.O ov
   have hop8:d7.op.set n ov=d.op:=by
    rw[ha.2]
    show (d4.op.set n (pl:Int)).set n ov=d.op
    rw[List.set_set,<-HSP4.O.2]
    refine iD ?_
    have hl:n<d4.op.length:=by rw[H4.O.opl];omega
    rw[HOVV.O,List.getD_eq_getElem?_getD,List.getElem?_eq_getElem hl]
    rfl
   have hsp8:d7.sp=d.sp:=ha.1.trans HSP4.O.1
   have p4:w7.cell? ⟨S,4,none⟩=some (.slice (some ⟨og,0,none⟩) (G+1) oc):=by rw[HS.O,HG.O,<-HOV.O];exact h7.blk.all.1 4
   have n3:w7.cell? ⟨b2,3,none⟩=some (.int .i64 (n:Int)):=by rw[he7.all.1 3,List.getElem?_toArray];exact E3.O
   obtain⟨_,_,og',oc',_,e1,_,hol7,_,z0,_,fz⟩:=h7.grp (x:=n) (by omega)
   rw[HOV.O]at e1
   cases e1
   have fz0:=fz n
   have hSl7:S<w7.heap.size:=by rw[HS.O];exact h7.blk.lt
   have hel7:=he7.lt
   have HP8:=aa hp8
   have HSP8:=aa (And.intro hsp8 hop8)
   have F7:=aa (F6.O.trans f7)
   have HR:=aa hR
   clear hp8 hop8 hsp8 ha f7 h7 he7 fz hR
   go_upto_region 45 with fail
   refine aQ (by kernel_rfl) ?_
   refine tk (i:=0) (v:= ?_) rfl ?_ ?_
   rotate_left
   ·intro w'
    go_simp
    try with_reducible rfl
   simp only[Act.put,List.replicate,Array.replicate,lx]
   refine tk (i:=1) (v:= ?_) rfl ?_ ?_
   rotate_left
   ·intro w'
    go_simp
    try with_reducible rfl
   simp only[Act.put,List.replicate,Array.replicate,lx]
   refine tk (i:=2) (v:= ?_) rfl ?_ ?_
   rotate_left
   ·intro w'
    go_simp
    try with_reducible rfl
   simp only[Act.put,List.replicate,Array.replicate,lx]
   refine tk (i:=4) (v:= ?_) rfl ?_ ?_
   rotate_left
   ·intro w'
    go_simp
    try with_reducible rfl
   simp only[Act.put,List.replicate,Array.replicate,lx]
   refine tk (i:=6) (v:= ?_) rfl ?_ ?_
   rotate_left
   ·intro w'
    go_simp
    try with_reducible rfl
   simp only[Act.put,List.replicate,Array.replicate,lx]
   refine aV (S:=(fun oi w'=>oi<8 ->w'.cell? ⟨S,4,none⟩=some (.slice (some ⟨og,0,none⟩) (G+1) oc)/\w'.cell? ⟨b2,3,none⟩=some (.int .i64 (n:Int)))) _ _ _ _ ?_
   refine tkJ (i:=3) (v:= ?_) rfl ⟨p4,n3⟩ ?_ ?_
   rotate_left
   ·intro w' hSw
    obtain⟨f1,f2⟩:=hSw
    go_simp
    try with_reducible rfl
   simp only[Act.put,List.replicate,Array.replicate,lx]
   refine tkJ (i:=5) (v:= ?_) rfl ⟨p4,n3⟩ ?_ ?_
   rotate_left
   ·intro w' hSw
    obtain⟨f1,f2⟩:=hSw
    go_simp
    try with_reducible rfl
   simp only[Act.put,List.replicate,Array.replicate,lx]
   refine tkJ (i:=7) (v:= ?_) rfl ⟨p4,n3⟩ ?_ ?_
   rotate_left
   ·intro w' hSw
    obtain⟨f1,f2⟩:=hSw
    go_simp
    try with_reducible rfl
   simp only[Act.put,List.replicate,Array.replicate,lx]
   refine ae (i:=8) rfl rfl (by kernel_rfl) (fun K hK=> ?_)
   go_simp
   refine hK.O _ _ (fun h=>by omega) ?_
   clear hK K
   refine aP (by kernel_rfl) ?_ _
   generalize hw8:World.drew (World.setCell _ _ _)=w8
   have HW8:Hid (cu c d w ((evK c i (.ex A:: .gend n::K')).map ((beg n,eY c.l3 c.en i):: ·)) (.returned (.bool false)) w8):=by
    rw[<-hw8,<-HR.O]
    exact⟨_,rfl,SG.drewN HP8.O.1 1,SF.drewN (F7.O.trans HP8.O.2) 1,HSP8.O.1,HSP8.O.2⟩
   clear HP8 HSP8 F7 hw8 p4 n3 z0 fz0
   go_wp2_with fail
   go_ret
   rw[HEV.O]
   exact HW8.O
end Go.Proofs.YtfnanjbleifjkaaGreatDoor.G
