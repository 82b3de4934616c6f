import Derived.Test.YtfnanjbleifjkaaGreatDoorM21
set_option linter.unusedVariables false
set_option linter.unusedSimpArgs false
set_option maxHeartbeats 4000000
set_option maxRecDepth 100000
namespace Go.Proofs.YtfnanjbleifjkaaGreatDoor.G
variable {t:ByteArray} {s s':RS} {b:UInt8} {base m n p r size:Nat} {w:World} {hv:Int} {e:TypeId} {v:Value} {ys:List Value} {c:Cls} {l:List Pt}
open Go.RowKit
theorem ma {k:Nat} (h:k<t.size):aj t k=(t[k]'h).toNat:=by
 unfold aj ai
 rw[Array.getElem?_eq_getElem h]
 rfl
theorem fQ:ac t s b=(decide (s.k<t.size)&&decide (aj t s.k=b.toNat)):=by
 unfold ac
 by_cases h:s.k<t.size
 ·rw[ma h]
  unfold ai
  rw[Array.getElem?_eq_getElem h,decide_eq_true h,Bool.true_and]
  show (some (t.data[s.k]'h)==some b)=decide ((t.data[s.k]'h).toNat=b.toNat)
  rw[Bool.eq_iff_iff]
  simp[UInt8.toNat_inj]
 ·unfold ai
  rw[Array.getElem?_eq_none (by show t.size<=s.k;omega),decide_eq_false h,Bool.false_and]
  rfl
theorem lG {p:Nat} {X:World} {q:Nat} {A:Prop} (h:A/\KS r (w.drewN q) X/\EB base [] (w.drewN q) X):A/\KS r w X/\EB base [] w X:=
 ⟨h.1,⟨fun b bs hb=>h.2.1.sb b bs hb,fun y E hy=>h.2.1.rw y E hy⟩,h.2.2.os,h.2.2.tape,h.2.2.output,h.2.2.size,h.2.2.block⟩
theorem qy (c:Int) (h:RA w p r base t s true hv n):
  Calls Tryz.prog 184 #[.pointer (some ⟨p,0,none⟩),.int .u8 c] w fun e w'=>e= .returned (.tuple #[])/\w'=w:=by
 have hc2:w.cell? ⟨p,2,none⟩=some (.bool true):=h.rk.all.1 2
 have hl:=h.rk.lt
 clear h
 go_enter Tryz.func184,Tryz.ntmps184
 go_wp2_with fail
 refine bodyPost_ret (results_none rfl _ _ _) rfl ⟨rfl,rfl⟩
theorem vV (c:Nat) (h:RA w p r base t s false hv n) (ht:t.size<=60) (hlt:s.k<t.size) (hc:aj t s.k=c):
  Calls Tryz.prog 184 #[.pointer (some ⟨p,0,none⟩),.int .u8 (c:Int)] w fun e w'=>e= .returned (.tuple #[])/\RA w' p r base t s.up false hv n/\KS r w w'/\EB base [] w w':=by
 have hc0:w.cell? ⟨p,0,none⟩=some (.string t):=h.rk.all.1 0
 have hc1:w.cell? ⟨p,1,none⟩=some (.int .i64 (s.k:Int)):=h.rk.all.1 1
 have hc2:w.cell? ⟨p,2,none⟩=some (.bool false):=h.rk.all.1 2
 have hf1:w.frozen? ⟨p,1,none⟩=false:=h.rk.all.2 1
 have hl:=h.rk.lt
 have H:=aa (fun q=>lG (p:=p) ((h.drewN q).setCell (s':=s.up) (bad':=false) (hv':=hv) 1 (.int .i64 ((s.k:Int)+1)) (by simp[RS.up]) rfl rfl))
 have hd:decide (t.size<=s.k)=false:=decide_eq_false (by omega)
 have hget:(((t[s.k]'hlt).toNat:Int) !=(c:Int))=false:=by rw[ma hlt]at hc;rw[hc];simp
 have hki:(s.k:Int)<(t.size:Int):=by omega
 obtain⟨k,d,f,g,nm⟩:=s
 dsimp only at hc1 H hd hget hki hlt
 clear h hc
 go_enter Tryz.func184,Tryz.ntmps184
 go_wp2_with fail
 go_quiet (fail)
 go_wp2_with fail
 go_end0
 exact⟨rfl,H.O _⟩
theorem tx (c:Nat) (h:RA w p r base t s false hv n) (hno:t.size<=s.k\/aj t s.k≠c):
  Calls Tryz.prog 184 #[.pointer (some ⟨p,0,none⟩),.int .u8 (c:Int)] w fun e w'=>e= .returned (.tuple #[])/\RA w' p r base t s true hv n/\KS r w w'/\EB base [] w w':=by
 have hc0:w.cell? ⟨p,0,none⟩=some (.string t):=h.rk.all.1 0
 have hc1:w.cell? ⟨p,1,none⟩=some (.int .i64 (s.k:Int)):=h.rk.all.1 1
 have hc2:w.cell? ⟨p,2,none⟩=some (.bool false):=h.rk.all.1 2
 have hf2:w.frozen? ⟨p,2,none⟩=false:=h.rk.all.2 2
 have hl:=h.rk.lt
 have H:=aa (fun q=>lG (p:=p) ((h.drewN q).setCell (s':=s) (bad':=true) (hv':=hv) 2 (.bool true) rfl rfl rfl))
 by_cases hlt:s.k<t.size
 ·have hne:aj t s.k≠c:=hno.resolve_left (by omega)
  have hd:decide (t.size<=s.k)=false:=decide_eq_false (by omega)
  have hget:(((t[s.k]'hlt).toNat:Int) !=(c:Int))=true:=by rw[ma hlt]at hne;rw[bne_iff_ne];omega
  have hki:(s.k:Int)<(t.size:Int):=by omega
  obtain⟨k,d,f,g,nm⟩:=s
  dsimp only at hc1 H hd hget hki hlt
  clear h hno hne
  go_enter Tryz.func184,Tryz.ntmps184
  go_wp2_with fail
  go_quiet (fail)
  go_wp2_with fail
  refine bodyPost_ret (results_none rfl _ _ _) rfl ⟨rfl,H.O _⟩
 ·have hd:decide (t.size<=s.k)=true:=decide_eq_true (by omega)
  obtain⟨k,d,f,g,nm⟩:=s
  dsimp only at hc1 H hd
  clear h hno hlt
  go_enter Tryz.func184,Tryz.ntmps184
  go_wp2_with fail
  go_quiet (fail)
  go_wp2_with fail
  refine bodyPost_ret (results_none rfl _ _ _) rfl ⟨rfl,H.O _⟩
theorem vU (c:UInt8) (h:RA w p r base t s false hv n) (ht:t.size<=60):
  Calls Tryz.prog 184 #[.pointer (some ⟨p,0,none⟩),.int .u8 (c.toNat:Int)] w fun e w'=>e= .returned (.tuple #[])/\(if ac t s c then RA w' p r base t s.up false hv n else RA w' p r base t s true hv n)/\KS r w w'/\EB base [] w w':=by
 rw[fQ]
 by_cases hlt:s.k<t.size
 ·by_cases hc:aj t s.k=c.toNat
  ·rw[decide_eq_true hlt,decide_eq_true hc]
   exact vV c.toNat h ht hlt hc
  ·rw[decide_eq_true hlt,decide_eq_false hc]
   exact tx c.toNat h (.inr hc)
 ·rw[decide_eq_false hlt]
  exact tx c.toNat h (.inl (by omega))
def iI:List Value:=[.int .i64 0,.int .i64 0,.int .i64 0,.int .i64 0,.bool false]++sB noB
theorem qP:(Tryz.prog.info? 215).map (fun i=>(i.zero,i.size,i.bytes))=some (some (.agg iI.toArray),134,168):=by kernel_rfl
theorem aE {b:Nat} {e':TypeId} {cs:Array Value} {fz:Nat×Nat} (ho:w.ownsRow base e size v m ys) (hb:BK w b (.cells cs e' fz)) (hne:e≠e'):v.ownBlock≠some b:=fun hv=>by
 rcases ho.2 with⟨hn,_⟩|⟨g2,cap,cur,hv2,_,hgg,_⟩
 ·rw[hn]at hv;simp[Value.ownBlock]at hv
 ·rw[hv2]at hv
  simp[Value.ownBlock]at hv
  subst hv
  unfold BK at hb
  rw[hgg]at hb
  injection hb with hb
  injection hb with _ h9 _
  exact hne h9
theorem dW {w':World} {xs:List Value} {row:Option Nat} (h:w.ownsRow base e size v n xs) (hg:w.grownBy w' row) (hne:∀g,v.ownBlock=some g ->row≠some g):w'.ownsRow base e size v n xs:=by
 refine⟨h.1,?_⟩
 rcases h.2 with hn|⟨g,cap,cur,rfl,hb,hgg,rest⟩
 ·exact .inl hn
 ·exact .inr ⟨g,cap,cur,rfl,hb,BK.grown (w:=w) (b:=g) hgg hg (hne g rfl),rest⟩
theorem cr {base':Nat} {e':TypeId} {size':Nat} {v':Value} {m':Nat} {ys':List Value} (ho:w.ownsRow base e size v m ys) (ho':w.ownsRow base' e' size' v' m' ys') (hne:e≠e'):∀g,v'.ownBlock=some g ->v.ownBlock≠some g:=fun g hg=>by
 rcases ho'.2 with⟨hn,_⟩|⟨g2,cap,cur,hv2,_,hgg,_⟩
 ·rw[hn]at hg;simp[Value.ownBlock]at hg
 ·rw[hv2]at hg
  simp[Value.ownBlock]at hg
  subst hg
  exact aE ho hgg hne
theorem mA {b b':Nat} {bs:List Bool} {cs:Array Value} {fz:Nat×Nat} (h:SB w b bs) (hb:BK w b' (.cells cs e fz)) (hne:e≠213):b≠b':=fun e2=>by
 subst e2
 have h1:=h.1
 unfold BK at h1 hb
 rw[hb]at h1
 injection h1 with h1
 injection h1 with _ h2 _
 exact hne h2
theorem ru {b1 b2:Nat} {xs:List Value} (h:w.ownsRow b1 e size v n xs) (k:w.ownsRow b2 e size v m ys):n=m/\xs=ys:=by
 obtain⟨hl,hh⟩:=h
 obtain⟨kl,kk⟩:=k
 rcases hh with⟨hv,hn⟩|⟨g,cap,cur,hv,_,hg,_,_,_,hx⟩
 ·rcases kk with⟨kv,km⟩|⟨g',cap',cur',kv,_⟩
  ·subst hn;subst km
   rw[Nat.zero_mul]at hl kl
   rw[List.length_eq_zero_iff.1 hl,List.length_eq_zero_iff.1 kl]
   exact⟨rfl,rfl⟩
  ·rw[hv]at kv;cases kv
 ·rcases kk with⟨kv,km⟩|⟨g',cap',cur',kv,_,kg,_,_,_,ky⟩
  ·rw[hv]at kv;cases kv
  ·rw[hv]at kv
   cases kv
   rw[hg]at kg
   cases kg
   exact⟨rfl,by rw[<-hx,<-ky]⟩
theorem xd {bad:Bool} (S:List Value) (hS:S.length=134) (hSP:∀u∈S,u.oneCell'=true) (h:RA w p r base t s bad hv n) (hn:n<=100000):
  Calls Tryz.prog 96 #[.pointer (some ⟨p,0,none⟩),.agg S.toArray] w fun e w'=>e= .returned (.int .i64 (n:Int))/\RA w' p r base t s bad hv (n+1)/\KS r w w'/\EB base [] w w'/\aL w' r n S:=by
 obtain⟨ti,hti,hzz0,hzz1,hzz2⟩:=info_parts qP
 obtain⟨av,nv,xs,ns,h1,h2,h3,h4,h5⟩:=h.rn.ex
 obtain⟨pa,ca,rfl⟩:=aA h2
 have hxw:Ex [] w (w.alloc (Obj.cells S.toArray 215)):=(Ex.refl _ _).alloc _
 obtain⟨w1,hw1⟩:=exq (w.alloc (Obj.cells S.toArray 215))
 have hbx:BK w1 w.heap.size (.cells S.toArray 215 (0,0)):=by rw[hw1];exact BK.new _ _
 rw[<-hw1]at hxw
 have hbp:=h.rk
 unfold RK at hbp
 have hbp1:=hbp.ex hxw (by simp)
 have hbr1:=h1.ex hxw (by simp)
 have hrow1:=aU h2 hxw (by simp)
 have hnm1:=aU h3 hxw (by simp)
 have r0:=hbx.rangeL
 have c3:w1.cell? ⟨p,3,none⟩=some (.pointer (some ⟨r,0,none⟩)):=hbp1.all.1 3
 have c0:w1.cell? ⟨r,0,none⟩=some (.slice pa n ca):=hbr1.all.1 0
 have hpl1:=hbp1.lt
 have hrl1:=hbr1.lt
 have hxl1:=hbx.lt
 have HI:Hid ((Tryz.prog.info? 215).map (·.size)=some S.length):=by show _=_;rw[hS];kernel_rfl
 have HS:=aa hS
 have HSP:=aa hSP
 have HBX:=aa hbx
 have HBP:=aa hbp1
 have HBR:=aa hbr1
 have HROW:=aa hrow1
 have HNMR:=aa hnm1
 have HX1:=aa hxw
 have HNX:Hid ((Value.slice pa n ca).ownBlock≠some w.heap.size):=fun e=>by have:=(h2.lt _ e).2;omega
 have HNP:Hid ((Value.slice pa n ca).ownBlock≠some p):=aE h2 hbp (by decide)
 have HNR:Hid ((Value.slice pa n ca).ownBlock≠some r):=aE h2 h1 (by decide)
 have hle:base<=w1.heap.size:=Nat.le_trans h.bw hxw.size
 have H:=aa h
 have HW1:=aa hw1
 have HNS:=aa h4
 have HNL:=aa h5
 clear h h1 h2 h3 h4 h5 hbp hbp1 hbr1 hrow1 hnm1 hbx hxw hS hSP hw1
 go_enter Tryz.func96,Tryz.ntmps96
 go_upto_region 1 with fail
 rw[<-HW1.O]
 refine aQ (by kernel_rfl) ?_
 refine tk (i:=0) (v:= ?_) rfl ?_ ?_
 rotate_left
 ·intro w'
  go_simp
  try with_reducible rfl
 simp only[Act.put,List.replicate,Array.replicate,lx]
 refine tk (i:=1) (v:= ?_) rfl ?_ ?_
 rotate_left
 ·intro w'
  go_simp
  try with_reducible rfl
 simp only[Act.put,List.replicate,Array.replicate,lx]
 refine tk (i:=2) (v:= ?_) rfl ?_ ?_
 rotate_left
 ·intro w'
  go_simp
  try with_reducible rfl
 simp only[Act.put,List.replicate,Array.replicate,lx]
 refine tk (i:=4) (v:= ?_) rfl ?_ ?_
 rotate_left
 ·intro w'
  go_simp
  try with_reducible rfl
 simp only[Act.put,List.replicate,Array.replicate,lx]
 refine tk (i:=5) (v:= ?_) rfl ?_ ?_
 rotate_left
 ·intro w'
  go_simp
  try with_reducible rfl
 simp only[Act.put,List.replicate,Array.replicate,lx]
 refine tk (i:=6) (v:= ?_) rfl ?_ ?_
 rotate_left
 ·intro w'
  go_simp
  try with_reducible rfl
 simp only[Act.put,List.replicate,Array.replicate,lx]
 refine aV (S:=(fun oi w'=>oi<16 ->w'.rangeAt w.heap.size 0 S/\w'.cell? ⟨p,3,none⟩=some (.pointer (some ⟨r,0,none⟩))/\w'.cell? ⟨r,0,none⟩=some (.slice pa n ca))) _ _ _ _ ?_
 refine tkJ (i:=3) (v:= ?_) rfl ⟨r0,c3,c0⟩ ?_ ?_
 rotate_left
 ·intro w' hSw
  obtain⟨f1,f2,f3⟩:=hSw
  go_simp
  try with_reducible rfl
 simp only[Act.put,List.replicate,Array.replicate,lx]
 refine tkJ (i:=7) (v:= ?_) rfl ⟨r0,c3,c0⟩ ?_ ?_
 rotate_left
 ·intro w' hSw
  obtain⟨f1,f2,f3⟩:=hSw
  go_simp
  try with_reducible rfl
 simp only[Act.put,List.replicate,Array.replicate,lx]
 refine tkJ (i:=8) (v:= ?_) rfl ⟨r0,c3,c0⟩ ?_ ?_
 rotate_left
 ·intro w' hSw
  obtain⟨f1,f2,f3⟩:=hSw
  go_simp
  try with_reducible rfl
 simp only[Act.put,List.replicate,Array.replicate,lx]
 refine tkJ (i:=9) (v:= ?_) rfl ⟨r0,c3,c0⟩ ?_ ?_
 rotate_left
 ·intro w' hSw
  obtain⟨f1,f2,f3⟩:=hSw
  go_simp
  try with_reducible rfl
 simp only[Act.put,List.replicate,Array.replicate,lx]
 refine tkJ (i:=10) (v:= ?_) rfl ⟨r0,c3,c0⟩ ?_ ?_
 rotate_left
 ·intro w' hSw
  obtain⟨f1,f2,f3⟩:=hSw
  go_simp
  try with_reducible rfl
 simp only[Act.put,List.replicate,Array.replicate,lx]
 refine tkR (i:=11) rfl ⟨r0,c3,c0⟩ (yieldsIf_load_mid (by rfl) _ _ rfl _ _ rfl S _ (fun w' h=>h.1) Tryz.underlying215 rfl HI.O) ?_
 simp only[Act.put,List.replicate,Array.replicate,lx]
 refine ae (i:=12) rfl rfl (by kernel_rfl) (fun K hK=> ?_)
 refine wp_buildSlice 130 215 1 _ rfl S.toArray ti _ Tryz.underlying130 hti hzz0 (by rw[hzz1];decide) (by rw[hzz1];decide) (by rw[hzz1];simp only[List.map_toArray,List.map_cons,List.map_nil,Act.eval,List.getElem?_toArray,Array.getD_eq_getD_getElem?,List.getElem?_cons_succ,List.getElem?_cons_zero,Option.getD_some];refine qD HS.O ?_;rw[Array.size_map,Array.size_range]) ?_
 have r2:(w1.drew.alloc (.cells S.toArray 215)).rangeAt w.heap.size 0 S:=(HBX.O.drew.alloc _).rangeL
 have c32:(w1.drew.alloc (.cells S.toArray 215)).cell? ⟨p,3,none⟩=some (.pointer (some ⟨r,0,none⟩)):=(HBP.O.drew.alloc _).all.1 3
 have c02:(w1.drew.alloc (.cells S.toArray 215)).cell? ⟨r,0,none⟩=some (.slice pa n ca):=(HBR.O.drew.alloc _).all.1 0
 refine hK.O _ _ (fun _=>⟨r2,c32,c02⟩) ?_
 clear hK K
 simp only[Act.put,List.replicate,Array.replicate,lx]
 refine ae (i:=13) rfl rfl (by kernel_rfl) (fun K hK=> ?_)
 refine wp_append_lies _ (.tmp 15) (.tmp 17) 130 rfl base 215 ti _ 134 168 Tryz.underlying130 hti hzz0 hzz1 hzz2 rfl (by decide) (.slice pa n ca) n xs rfl ((World.ownsRow.drew HROW.O).alloc _) ⟨w1.heap.size,0,none⟩ 1 1 S rfl (by rw[HS.O]) (bK _ _ _) HSP.O (by decide) (by unfold maxLen;omega) (by omega) (by simp;omega) _ rfl ?_
 intro g cap w3 hown3 hgrow3 hat3 hlt3
 have hbx3:=BK.grown (HBX.O.drew.alloc (.cells S.toArray 215)) hgrow3 HNX.O
 have hbp3:=BK.grown (HBP.O.drew.alloc (.cells S.toArray 215)) hgrow3 HNP.O
 have hbr3:=BK.grown (HBR.O.drew.alloc (.cells S.toArray 215)) hgrow3 HNR.O
 refine hK.O _ _ (fun _=>⟨hbx3.rangeL,hbp3.all.1 3,hbr3.all.1 0⟩) ?_
 clear hK K
 obtain⟨hcr3,hfr3⟩:=hbr3.all
 have hrl3:=hbr3.lt
 simp only[Act.put,List.replicate,Array.replicate,lx]
 refine ae (i:=14) rfl rfl (by kernel_rfl) (fun K hK=> ?_)
 go_simp
 refine hK.O _ _ (fun _=>⟨hbx3.rangeL,hbp3.all.1 3,hbr3.all.1 0⟩) ?_
 clear hK K
 simp only[Act.put,List.replicate,Array.replicate,lx]
 refine ae (i:=15) rfl rfl (by kernel_rfl) (fun K hK=> ?_)
 go_simp
 refine hK.O _ _ (fun _=>⟨hbx3.rangeL,hbp3.all.1 3,hbr3.all.1 0⟩) ?_
 clear hK K
 simp only[Act.put,List.replicate,Array.replicate,lx]
 refine ae (i:=16) rfl rfl (by kernel_rfl) (fun K hK=> ?_)
 go_simp
 refine hK.O _ _ (fun h=>by omega) ?_
 clear hK K
 refine aP (by kernel_rfl) ?_ _
 have hrow3:=aE hown3 hbr3 (by decide)
 have hnm3:=dW ((World.ownsRow.drew HNMR.O).alloc (.cells S.toArray 215)) hgrow3 (cr HROW.O HNMR.O (by decide))
 have hnmr3:=aE hnm3 hbr3 (by decide)
 have hks3:∀b bs,SB w b bs ->SB w3 b bs:=fun b bs hb=>by
  have hb1:=(hb.ex HX1.O (by simp)).1
  exact⟨BK.grown (hb1.drew.alloc (.cells S.toArray 215)) hgrow3 (aE HROW.O hb1 (by decide)),hb.2⟩
 have heb3:EB base [] w w3:=(((EB.ofEx HX1.O H.O.bw).drew).alloc (by simp;omega) _).grown hgrow3 (by simp;omega) (fun k hk=> .inr (aG HROW.O k hk))
 obtain⟨w4,hw4⟩:=exq (w3.setCell ⟨r,0,none⟩ (.slice (some ⟨g,0,none⟩) (n+1) cap))
 have hpr:p≠r:=fun e=>by
  subst e
  unfold BK at hbp3 hbr3
  rw[hbp3]at hbr3
  injection hbr3 with h9
  injection h9 with _ h9 _
  exact absurd h9 (by decide)
 have hbp4:=hbp3.set (p:=⟨r,0,none⟩) hpr (.slice (some ⟨g,0,none⟩) (n+1) cap)
 have hbr4:=hbr3.self 0 (.slice (some ⟨g,0,none⟩) (n+1) cap)
 simp only[List.setIfInBounds_toArray,List.set_cons_zero]at hbr4
 have hown4:(w3.setCell ⟨r,0,none⟩ (.slice (some ⟨g,0,none⟩) (n+1) cap)).ownsRow base 215 134 (.slice (some ⟨g,0,none⟩) (n+1) cap) (n+1) (xs++S):=aH hown3 (fun g2 hg2=>Below.heap_setCell _ _ _ _ (fun e=>hrow3 (by rw[hg2,e])))
 have hnm4:(w3.setCell ⟨r,0,none⟩ (.slice (some ⟨g,0,none⟩) (n+1) cap)).ownsRow base 9 1 nv ns.length (ns.map Value.string):=aH hnm3 (fun g2 hg2=>Below.heap_setCell _ _ _ _ (fun e=>hnmr3 (by rw[hg2,e])))
 have hks4:KS r w (w3.setCell ⟨r,0,none⟩ (.slice (some ⟨g,0,none⟩) (n+1) cap)):=⟨fun b bs hb=>⟨(hks3 b bs hb).1.set (mA (hks3 b bs hb) hbr3 (by decide)) _,hb.2⟩,fun y E hy=>by
  have hy1:=hy.ex HX1.O
  obtain⟨b9,av9,ro9,gi9,nv9,n9,xs9,y1,y2,y3,y4⟩:=hy1
  have hb9:=HBR.O
  unfold BK at y1 hb9
  rw[hb9]at y1
  cases y1
  obtain⟨e9,e8⟩:=ru y2 HROW.O
  subst e9;subst e8
  refine⟨base,_,_,_,_,n9+1,xs9++S,hbr4,hown4,by omega,?_⟩
  have hl9:=HROW.O.1
  rw[List.drop_append_of_le_length (by rw[hl9];exact Nat.mul_le_mul_right _ (by omega)),List.take_append_of_le_length (by rw[List.length_drop,hl9];have:(y+1)*134<=n9*134:=Nat.mul_le_mul_right _ (by omega);omega)]
  exact y4⟩
 have hrow4:aL (w3.setCell ⟨r,0,none⟩ (.slice (some ⟨g,0,none⟩) (n+1) cap)) r n S:=⟨base,_,_,_,_,n+1,xs++S,hbr4,hown4,by omega,by
  have hl9:=HROW.O.1
  rw[List.drop_append_of_le_length (by rw[hl9];omega),List.drop_eq_nil_of_le (by rw[hl9];omega),List.nil_append,List.take_of_length_le (by rw[HS.O];omega)]⟩
 have heb4:EB base [] w (w3.setCell ⟨r,0,none⟩ (.slice (some ⟨g,0,none⟩) (n+1) cap)):=heb3.setCell (.inr H.O.rb) _
 have hsz4:base<=(w3.setCell ⟨r,0,none⟩ (.slice (some ⟨g,0,none⟩) (n+1) cap)).heap.size:=Nat.le_trans H.O.bw heb4.size
 rw[<-hw4]at hbp4 hbr4 hown4 hnm4 hks4 heb4 hsz4 hrow4 ⊢
 have HRA:Hid (RA w4 p r base t s bad hv (n+1)):=⟨hbp4,⟨_,_,_,_,hbr4,hown4,hnm4,HNS.O,HNL.O⟩,H.O.pb,H.O.rb,hsz4⟩
 have k3:w4.cell? ⟨p,3,none⟩=some (.pointer (some ⟨r,0,none⟩)):=hbp4.all.1 3
 have k0:w4.cell? ⟨r,0,none⟩=some (.slice (some ⟨g,0,none⟩) (n+1) cap):=hbr4.all.1 0
 have kl:=hbp4.lt
 have krl:=hbr4.lt
 have HKS:=aa hks4
 have HEB:=aa heb4
 have HROW4:=aa hrow4
 clear hrow4 hw4 hbp4 hbr4 hown4 hnm4 hks4 heb4 hsz4 hks3 heb3 hnm3 hnmr3 hrow3 hown3 hgrow3 hat3 hbx3 hbp3 hbr3 hcr3 hfr3 r2 c32 c02 r0 c3 c0 hti hzz0 hzz1 hzz2
 go_wp2_with fail
 go_ret
 exact⟨by simp,HRA.O,HKS.O,HEB.O,HROW4.O⟩
structure Mv (t:ByteArray) (s s':RS):Prop where
 le:s.k<=s'.k
 sz:s.k<=t.size ->s'.k<=t.size
 g:s'.g=s.g
theorem Mv.refl (t:ByteArray) (s:RS):Mv t s s:=⟨Nat.le_refl _,id,rfl⟩
theorem Mv.trans {a b c:RS} (h:Mv t a b) (h':Mv t b c):Mv t a c:=⟨Nat.le_trans h.le h'.le,fun x=>h'.sz (h.sz x),h'.g.trans h.g⟩
theorem da {k:Nat} (h:ai t k=some b):k<t.size:=by
 unfold ai at h
 exact (Array.getElem?_eq_some_iff.1 h).1
theorem aS (h:ac t s b=true):s.k<t.size:=da (by unfold ac at h;simpa using h)
theorem cV (h:s.k<t.size):Mv t s s.up/\s.k<s.up.k:=⟨⟨Nat.le_succ _,fun _=>h,rfl⟩,Nat.lt_succ_self _⟩
theorem pK (t:ByteArray) (s:RS) (b:UInt8):Mv t s (s.took t b):=by
 unfold RS.took
 split
 ·next h=>exact (cV (aS h)).1
 ·exact Mv.refl _ _
theorem cL {u:Unit} (h:aw t s b= .ok u s'):Mv t s s'/\s.k<s'.k:=by
 unfold aw at h
 split at h
 ·next h1=>cases h;exact cV (aS h1)
 ·cases h
theorem bind_ok {α β:Type} {m:Res α} {f:α ->RS ->Res β} {b:β} (h:m.bind f= .ok b s'):∃a s1,m= .ok a s1/\f a s1= .ok b s':=by
 cases m with
 |ok a s=>exact⟨a,s,rfl,h⟩
 |bad s=>cases h
theorem rP {least:Nat} {a:Nat} (h:dy t least s= .ok a s'):Mv t s s'/\s.k<s'.k/\a<=9/\least<=a:=by
 unfold dy at h
 split at h
 ·cases h
 ·next b hb=>
  split at h
  ·cases h
  ·next hc=>
   cases h
   have:=cV (da hb)
   exact⟨this.1,this.2,by omega,by omega⟩
def th (x:Nat×Int):Prop:=x.1<=9/\(x.2= -1\/((x.1:Int)<=x.2/\x.2<=9))
theorem uG {x:Nat×Int} (h:bn t s= .ok x s'):Mv t s s'/\th x:=by
 unfold bn at h
 obtain⟨a,s1,h1,h⟩:=bind_ok h
 have m1:=rP h1
 split at h
 ·next hs=>
  cases h
  exact⟨m1.1.trans (cV (aS hs)).1,m1.2.2.1,.inr ⟨Int.le_refl _,by have:=m1.2.2.1;show (a:Int)<=9;omega⟩⟩
 ·obtain⟨_,s2,h2,h⟩:=bind_ok h
  have m2:=cL h2
  split at h
  ·next hs=>
   cases h
   exact⟨m1.1.trans (m2.1.trans (cV (aS hs)).1),m1.2.2.1,.inl rfl⟩
  ·obtain⟨b,s3,h3,h⟩:=bind_ok h
   have m3:=rP h3
   obtain⟨_,s4,h4,h⟩:=bind_ok h
   have m4:=cL h4
   cases h
   exact⟨m1.1.trans (m2.1.trans (m3.1.trans m4.1)),m1.2.2.1,.inr ⟨by have:=m3.2.2.2;show (a:Int)<=(b:Int);omega,by have:=m3.2.2.1;show (b:Int)<=9;omega⟩⟩
theorem lE {c:Option (Nat×Int)} (h:cM t s= .ok c s'):Mv t s s'/\∀x,c=some x ->th x:=by
 unfold cM at h
 split at h
 ·next hs=>cases h;exact⟨(cV (aS hs)).1,fun x hx=>by cases hx;exact⟨by decide,.inl rfl⟩⟩
 ·split at h
  ·next hs=>cases h;exact⟨(cV (aS hs)).1,fun x hx=>by cases hx;exact⟨by decide,.inl rfl⟩⟩
  ·split at h
   ·next hs=>cases h;exact⟨(cV (aS hs)).1,fun x hx=>by cases hx;exact⟨by decide,.inr (by decide)⟩⟩
   ·split at h
    ·next hs=>
     obtain⟨x,s1,h1,h⟩:=bind_ok h
     have m1:=uG h1
     cases h
     exact⟨(cV (aS hs)).1.trans m1.1,fun y hy=>by cases hy;exact m1.2⟩
    ·cases h;exact⟨Mv.refl _ _,fun x hx=>by cases hx⟩
theorem fN {but:List UInt8} (h:aO t but s= .ok b s'):Mv t s s'/\s.k<s'.k:=by
 unfold aO at h
 split at h
 ·cases h
 ·next hb=>
  split at h
  ·cases h
  ·cases h;exact cV (da hb)
theorem gZ {x:Cls×UInt8×Bool} (h:an t s= .ok x s'):Mv t s s'/\s.k<s'.k:=by
 unfold an at h
 split at h
 ·cases h
 ·next hb=>
  split at h
  ·cases h;exact cV (da hb)
  ·split at h
   ·cases h
   ·cases h;exact cV (da hb)
theorem sQ {f:UInt8} (h:au t f s= .ok b s'):Mv t s s'/\s.k<s'.k:=by
 unfold au at h
 dsimp only at h
 by_cases he:(decide (f.toNat<=125)&&ac t s 92)=true
 ·rw[if_pos he]at h
  rw[Bool.and_eq_true]at he
  have m1:=cV (aS he.2)
  split at h
  ·cases h
  ·next hb=>
   split at h
   ·cases h
   ·split at h
    ·split at h
     ·cases h
      have m2:=cV (da hb)
      exact⟨m1.1.trans m2.1,Nat.lt_of_lt_of_le m1.2 m2.1.le⟩
     ·cases h
    ·have m2:=fN h
     exact⟨m1.1.trans m2.1,Nat.lt_of_lt_of_le m1.2 m2.1.le⟩
 ·rw[if_neg he]at h
  split at h
  ·cases h
  ·next hb=>
   split at h
   ·cases h
   ·exact fN h
theorem fs (h:bg t b s= .ok c s'):Mv t s s':=by
 unfold bg at h
 split at h
 ·next hs=>
  obtain⟨e,s1,h1,h⟩:=bind_ok h
  cases h
  exact (cV (aS hs)).1.trans (sQ h1).1
 ·cases h;exact Mv.refl _ _
theorem kV (h:aI t s= .ok c s'):Mv t s s':=by
 unfold aI at h
 split at h
 ·next hs=>
  obtain⟨x,s1,h1,h⟩:=bind_ok h
  have m1:=(cV (aS hs)).1.trans (gZ h1).1
  split at h
  ·exact m1.trans (fs h)
  ·cases h;exact m1
 ·obtain⟨b,s1,h1,h⟩:=bind_ok h
  exact (fN h1).1.trans (fs h)
theorem qX:∀(n:Nat) (c c':Cls) (s s':RS),bW t n c s= .ok c' s' ->Mv t s s'
 |0,c,c',s,s',h=>by cases h
 |n+1,c,c',s,s',h=>by
  unfold bW at h
  split at h
  ·next hs=>cases h;exact (cV (aS hs)).1
  ·obtain⟨x,s1,h1,h⟩:=bind_ok h
   exact (kV h1).trans (qX n _ _ _ _ h)
theorem sZ (h:fj t s= .ok c s'):Mv t s s'/\s.k<s'.k:=by
 unfold fj at h
 obtain⟨_,s1,h1,h⟩:=bind_ok h
 obtain⟨c1,s2,h2,h⟩:=bind_ok h
 obtain⟨c2,s3,h3,h⟩:=bind_ok h
 cases h
 have m1:=cL h1
 have m:=(pK t s1 94).trans ((kV h2).trans (qX _ _ _ _ _ h3))
 exact⟨m1.1.trans m,Nat.lt_of_lt_of_le m1.2 m.le⟩
theorem nY (i:Nat):∀(n:Nat) (u:Unit) (s s':RS),aZ t i n s= .ok u s' ->Mv t s s'
 |0,u,s,s',h=>by cases h;exact Mv.refl _ _
 |n+1,u,s,s',h=>by
  unfold aZ at h
  split at h
  ·cases h
  ·next hb=>
   split at h
   ·split at h
    ·cases h
    ·exact (cV (da hb)).1.trans (nY i n u _ _ h)
   ·cases h;exact Mv.refl _ _
theorem jm {n:ByteArray} (h:ao t s= .ok n s'):Mv t s s':=by
 unfold ao at h
 obtain⟨_,s1,h1,h⟩:=bind_ok h
 split at h
 ·cases h
 ·cases h;exact nY _ _ _ _ _ h1
theorem ml {g:Nat} (h:al t s= .ok g s') (h5:s.g<=5):s.k<=s'.k/\(s.k<=t.size ->s'.k<=t.size)/\s'.g<=5/\g<=5:=by
 unfold al at h
 split at h
 ·next hc=>
  cases h
  exact⟨Nat.le_refl _,id,by show s.g+1<=5;omega,by omega⟩
 ·obtain⟨_,s1,h1,h⟩:=bind_ok h
  have m1:=cL h1
  split at h
  ·next hs=>
   cases h
   have m2:=m1.1.trans (cV (aS hs)).1
   exact⟨m2.le,m2.sz,by rw[m2.g];exact h5,by omega⟩
  ·split at h
   ·cases h
   ·next hg5=>
    obtain⟨_,s2,h2,h⟩:=bind_ok h
    obtain⟨_,s3,h3,h⟩:=bind_ok h
    obtain⟨n,s4,h4,h⟩:=bind_ok h
    obtain⟨_,s5,h6,h⟩:=bind_ok h
    cases h
    have m2:=m1.1.trans ((cL h2).1.trans ((cL h3).1.trans ((jm h4).trans (cL h6).1)))
    have e:s5.g=s.g:=m2.g
    have e1:s1.g=s.g:=m1.1.g
    exact⟨m2.le,m2.sz,by show s5.g+1<=5;omega,by omega⟩
mutual
def POK:Pt ->Prop
 |.single _=>True
 |.seq l=>jb l
 |.alt l=>jb l/\1<=l.length
 |.wrap q g=>POK q/\g<=5
 |.count q le mo _=>POK q/\1<=wt q/\th (le,mo)
def jb:List Pt ->Prop
 |[]=>True
 |q::l=>POK q/\jb l
end
theorem nC {p:Pt} (h:jb l) (hp:POK p):jb (l++[p]):=by
 induction l with
 |nil=>exact⟨hp,trivial⟩
 |cons a l ih=>exact⟨h.1,ih h.2⟩
theorem nD {p:Pt} (h:oW l) (hp:WOK p):oW (l++[p]):=by
 induction l with
 |nil=>exact⟨hp,trivial⟩
 |cons a l ih=>exact⟨h.1,ih h.2⟩
structure pW (t:ByteArray) (n:Nat) (s:RS) (p:Pt) (s':RS):Prop where
 le:s.k<=s'.k
 sz:s.k<=t.size ->s'.k<=t.size
 g5:s'.g<=5
 wt:wt p<=(s'.k-s.k)*11^n
 wok:WOK p
 pok:POK p
structure nB (t:ByteArray) (n:Nat) (s:RS) (x:Nat) (l:List Pt) (s':RS):Prop where
 le:s.k<=s'.k
 sz:s.k<=t.size ->s'.k<=t.size
 g5:s'.g<=5
 wt:wtL l+x<=(s'.k-s.k)*11^n
 len:l.length<=s'.k-s.k+1
 wok:oW l
 pok:jb l
theorem ke (n:Nat):1<=11^n:=Nat.one_le_pow _ _ (by decide)
theorem big (ht:t.size<=60) {a b:Nat} (hb:b<=t.size) (n:Nat) (hn:n<=7):(b-a)*11^n<=1169230260:=by
 have h1:11^n<=11^7:=Nat.pow_le_pow_right (by decide) hn
 have h2:(b-a)*11^n<=60*11^7:=Nat.mul_le_mul (by omega) h1
 have h3:60*11^7=1169230260:=by decide
 omega
section
variable {t:ByteArray} {E:RS ->Res Pt} {n:Nat} (ht:t.size<=60) (hn:n+1<=7) (hE:∀s p s',E s= .ok p s' ->s.g<=5 ->s.k<=t.size ->pW t n s p s')
include ht hn hE
theorem nH {p:Pt} (h:bp t E s= .ok p s') (h5:s.g<=5) (hk:s.k<=t.size):pW t n s p s'/\s.k<s'.k/\1<=G.wt p:=by
 have hp1:=ke n
 have single:∀(c:Cls) (s':RS),Mv t s s'/\s.k<s'.k ->pW t n s (.single c) s'/\s.k<s'.k/\1<=G.wt (.single c):=fun c s' m=>
  ⟨⟨m.1.le,m.1.sz,by rw[m.1.g];exact h5,by
   show 1<=_
   have h2:1*1<=(s'.k-s.k)*11^n:=Nat.mul_le_mul (by have:=m.2;omega) hp1
   omega,trivial,trivial⟩,m.2,Nat.le_refl _⟩
 unfold bp at h
 split at h
 ·cases h
 ·next b hb=>
  split at h
  ·unfold aK at h
   split at h
   ·cases h
   ·obtain⟨_,s1,h1,h⟩:=bind_ok h
    obtain⟨g,s2,h2,h⟩:=bind_ok h
    obtain⟨q,s3,h3,h⟩:=bind_ok h
    obtain⟨_,s4,h4,h⟩:=bind_ok h
    cases h
    have m1:=cL h1
    have m2:=ml h2 (by show s1.g<=5;rw[m1.1.g];exact h5)
    have hk2:s2.k<=t.size:=m2.2.1 (m1.1.sz hk)
    have f:=hE _ _ _ h3 m2.2.2.1 hk2
    have m4:=cL h4
    have l1:s.k<s1.k:=m1.2
    have l2:s1.k<=s2.k:=m2.1
    have l3:=f.le
    have l4:=m4.2
    have hk4:s4.k<=t.size:=m4.1.sz (f.sz hk2)
    have hw:=f.wt
    have hmul:(s3.k-s2.k)*11^n+1<=(s4.k-s.k)*11^n:=by
     have h9:(s3.k-s2.k+1)*11^n<=(s4.k-s.k)*11^n:=Nat.mul_le_mul_right _ (by omega)
     rw[Nat.add_mul]at h9
     omega
    have hbig:=big (a:=s2.k) ht (f.sz hk2) n (by omega)
    refine⟨⟨by show s.k<=s4.k;omega,fun _=>hk4,by show s4.g<=5;rw[m4.1.g];exact f.g5,?_,⟨f.wok,by omega,by have:=m2.2.2.2;omega⟩,⟨f.pok,m2.2.2.2⟩⟩,by show s.k<s4.k;omega,?_⟩
    ·show G.wt q+1<=(s4.k-s.k)*11^n
     omega
    ·show 1<=G.wt q+1
     omega
  ·split at h
   ·obtain⟨c,s1,h1,h⟩:=bind_ok h
    cases h
    exact single _ _ (sZ h1)
   ·split at h
    ·cases h
     exact single _ _ (cV (da hb))
    ·split at h
     ·obtain⟨x,s1,h1,h⟩:=bind_ok h
      cases h
      have m1:=cV (da hb)
      have m2:=gZ h1
      exact single _ _ ⟨m1.1.trans m2.1,Nat.lt_trans m1.2 m2.2⟩
     ·obtain⟨x,s1,h1,h⟩:=bind_ok h
      cases h
      exact single _ _ (fN h1)
theorem mw {p:Pt} (h:aW t E s= .ok p s') (h5:s.g<=5) (hk:s.k<=t.size):pW t (n+1) s p s'/\s.k<s'.k:=by
 unfold aW at h
 obtain⟨q,s1,h1,h⟩:=bind_ok h
 obtain⟨c,s2,h2,h⟩:=bind_ok h
 obtain⟨f,hlt,hq1⟩:=nH ht hn hE h1 h5 hk
 have m2:=lE h2
 have hp1:=ke n
 have hw:=f.wt
 have hk1:=f.sz hk
 have hpow:11^(n+1)=11^n*11:=Nat.pow_succ ..
 cases c with
 |none=>
  cases h
  have l2:=m2.1.le
  refine⟨⟨Nat.le_trans f.le m2.1.le,fun x=>m2.1.sz (f.sz x),by rw[m2.1.g];exact f.g5,?_,f.wok,f.pok⟩,Nat.lt_of_lt_of_le hlt m2.1.le⟩
  have h9:(s1.k-s.k)*11^n<=(s'.k-s.k)*11^(n+1):=Nat.mul_le_mul (by omega) (by omega)
  omega
 |some x=>
  cases h
  obtain⟨le,mo⟩:=x
  obtain⟨c1,c2⟩:=m2.2 _ rfl
  have m3:=pK t s2 63
  have l2:=m2.1.le
  have l3:=m3.le
  have hle:(if mo= -1 then le+1 else mo.toNat)<=10:=by
   dsimp only at c1 c2
   split
   ·omega
   ·omega
  have hbig:=big (a:=s.k) ht hk1 n (by omega)
  have hmul:G.wt q*(if mo= -1 then le+1 else mo.toNat)<=G.wt q*10:=Nat.mul_le_mul_left _ hle
  refine⟨⟨by omega,fun _=>m3.sz (m2.1.sz hk1),by rw[m3.g,m2.1.g];exact f.g5,?_,⟨f.wok,by omega,by dsimp only at c1;omega,by dsimp only at c2;show -1<=mo;omega,by dsimp only at c2;show mo<_;omega,by show G.wt q*(if mo= -1 then le+1 else mo.toNat)<_;omega⟩,⟨f.pok,hq1,c1,c2⟩⟩,by omega⟩
  show G.wt q*(if mo= -1 then le+1 else mo.toNat)+1<=_
  have h9:(s1.k-s.k)*11^n*11<=((s2.took t 63).k-s.k)*11^(n+1):=by
   rw[hpow,<-Nat.mul_assoc]
   exact Nat.mul_le_mul_right _ (Nat.mul_le_mul_right _ (by omega))
  have h10:G.wt q*11<=(s1.k-s.k)*11^n*11:=Nat.mul_le_mul_right _ hw
  omega
theorem kx:∀(f:Nat) (acc l:List Pt) (s0 s s':RS),aR t E f acc s= .ok l s' ->nB t (n+1) s0 0 acc s ->s0.k<=t.size ->nB t (n+1) s0 0 l s'
 |0,acc,l,s0,s,s',h,_,_=>by cases h
 |f+1,acc,l,s0,s,s',h,ha,hk=>by
  unfold aR at h
  split at h
  ·cases h;exact ha
  ·obtain⟨p,s1,h1,h⟩:=bind_ok h
   obtain⟨fp,hlt⟩:=mw ht hn hE h1 ha.g5 (ha.sz hk)
   refine kx f _ _ s0 _ _ h ?_ hk
   have l1:=ha.le
   have l2:=ha.len
   have hw:=ha.wt
   have hw2:=fp.wt
   have e:(s1.k-s0.k)*11^(n+1)=(s.k-s0.k)*11^(n+1)+(s1.k-s.k)*11^(n+1):=by
    rw[<-Nat.add_mul]
    congr 1
    omega
   refine⟨by omega,fun x=>fp.sz (ha.sz x),fp.g5,?_,by rw[List.length_append];show acc.length+1<=_;omega,nD ha.wok fp.wok,nC ha.pok fp.pok⟩
   rw[dk]
   show wtL acc+(G.wt p+0)+0<=_
   omega
theorem mB {f:Nat} (h:aR t E f [] s= .ok l s') (h5:s.g<=5) (hk:s.k<=t.size):pW t (n+1) s (.seq l) s':=by
 have h0:nB t (n+1) s 0 [] s:=⟨Nat.le_refl _,id,h5,by show 0<=_;omega,by simp,trivial,trivial⟩
 have fl:=kx ht hn hE f [] l s s s' h h0 hk
 have hb:=big (a:=s.k) ht (fl.sz hk) (n+1) hn
 have h1:=fl.wt
 have h2:=fl.len
 have h3:=fl.sz hk
 exact⟨fl.le,fl.sz,fl.g5,by show wtL l<=_;omega,⟨fl.wok,by omega,by omega⟩,fl.pok⟩
theorem qd:∀(f:Nat) (acc l:List Pt) (s0 s s':RS),fi t E f acc s= .ok l s' ->nB t (n+1) s0 (acc.length-1) acc s ->1<=acc.length ->s0.k<=t.size ->nB t (n+1) s0 (l.length-1) l s'/\1<=l.length
 |0,acc,l,s0,s,s',h,_,_,_=>by cases h
 |f+1,acc,l,s0,s,s',h,ha,h1,hk=>by
  unfold fi at h
  split at h
  ·next hs=>
   obtain⟨q,s1,h2,h⟩:=bind_ok h
   have m1:=cV (aS hs)
   have fp:=mB ht hn hE h2 (by rw[m1.1.g];exact ha.g5) (m1.1.sz (ha.sz hk))
   have hku:s.up.k=s.k+1:=rfl
   refine qd f _ _ s0 _ _ h ?_ (by simp) hk
   have l1:=ha.le
   have l2:=ha.len
   have hw:=ha.wt
   have hw2:=fp.wt
   have l3:=fp.le
   have hp1:=ke (n+1)
   have e:(s1.k-s0.k)*11^(n+1)=(s.k-s0.k)*11^(n+1)+(s1.k-s.up.k)*11^(n+1)+1*11^(n+1):=by
    rw[<-Nat.add_mul,<-Nat.add_mul]
    congr 1
    omega
   refine⟨by omega,fun x=>fp.sz (m1.1.sz (ha.sz x)),fp.g5,?_,by rw[List.length_append];show acc.length+1<=_;omega,nD ha.wok fp.wok,nC ha.pok fp.pok⟩
   rw[dk,List.length_append]
   show wtL acc+(G.wt (.seq q)+0)+(acc.length+1-1)<=_
   omega
  ·cases h;exact⟨ha,h1⟩
theorem uN {p:Pt} (h:dm t E s= .ok p s') (h5:s.g<=5) (hk:s.k<=t.size):pW t (n+1) s p s':=by
 unfold dm at h
 obtain⟨l,s1,h1,h⟩:=bind_ok h
 obtain⟨b,s2,h2,h⟩:=bind_ok h
 cases h
 have f1:=mB ht hn hE h1 h5 hk
 have h0:nB t (n+1) s (([Pt.seq l]:List Pt).length-1) [Pt.seq l] s1:=⟨f1.le,f1.sz,f1.g5,by have:=f1.wt;show (G.wt (.seq l)+0)+0<=_;omega,by simp,⟨f1.wok,trivial⟩,⟨f1.pok,trivial⟩⟩
 obtain⟨fl,hl⟩:=qd ht hn hE _ _ _ s _ _ h2 h0 (by simp) hk
 have hb:=big (a:=s.k) ht (fl.sz hk) (n+1) hn
 have w1:=fl.wt
 have w2:=fl.len
 have w3:=fl.sz hk
 exact⟨fl.le,fl.sz,fl.g5,by show wtL b+b.length-1<=_;omega,⟨fl.wok,by omega,by omega,hl⟩,⟨fl.pok,hl⟩⟩
end
theorem ei (ht:t.size<=60):∀n,n<=7 ->∀s p s',ep t n s= .ok p s' ->s.g<=5 ->s.k<=t.size ->pW t n s p s'
 |0,_,s,p,s',h,_,_=>by cases h
 |n+1,hn,s,p,s',h,h5,hk=>uN ht hn (fun s p s' h h5 hk=>ei ht n (by omega) s p s' h h5 hk) h h5 hk
theorem fP (ht:t.size<=60) {p:Pt} (h:aX t= .ok p s):WOK p/\POK p/\s.g<=5:=by
 unfold aX at h
 obtain⟨_,s0,h0,h⟩:=bind_ok h
 obtain⟨q,s1,h1,h⟩:=bind_ok h
 have hs0:s0.g=0/\s0.k<=t.size:=by
  unfold dB at h0
  split at h0
  ·next hb=>
   obtain⟨_,s2,h2,h0⟩:=bind_ok h0
   cases h0
   have m:=(cL h2).1
   exact⟨m.g,m.sz (by show 3<=t.size;have:=da hb.2.2;omega)⟩
  ·cases h0;exact⟨rfl,Nat.zero_le _⟩
 split at h
 ·cases h
  have f:=ei ht 7 (Nat.le_refl _) _ _ _ h1 (by omega) hs0.2
  exact⟨f.wok,f.pok,f.g5⟩
 ·cases h
end Go.Proofs.YtfnanjbleifjkaaGreatDoor.G
