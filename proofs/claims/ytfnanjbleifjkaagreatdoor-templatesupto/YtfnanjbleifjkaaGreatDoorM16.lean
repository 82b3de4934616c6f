import Derived.Test.YtfnanjbleifjkaaGreatDoorM15
set_option linter.unusedVariables false
set_option linter.unusedSimpArgs false
set_option maxHeartbeats 2000000
set_option maxRecDepth 100000
namespace Go.Proofs.YtfnanjbleifjkaaGreatDoor.G
variable {t:ByteArray} {x:EV} {w:World}
open Go.RowKit
def RFP (t:ByteArray) (x:EV) (w:World) (r mb:Nat) (m:Res Pt) (e:Ending) (w':World):Prop:=match m with
 |.ok p s'=>(∃u:PV,e= .returned (.tuple #[.pointer (some ⟨r,0,none⟩),u.val,.bool true])/\PR w' (Btw w.heap.size w'.heap.size) p u)/\RG w' r mb t x s'/\Ex [] w w'
 |.bad s'=>e= .returned (.tuple #[.pointer (some ⟨r,0,none⟩),.agg #[.int .i64 0,.slice none 0 0,.int .u64 0,.int .u64 0,.bool false,.int .i64 0,.int .i64 0,.int .i64 0,.bool false],.bool false])/\RG w' r mb t x s'/\Ex [] w w'
theorem RFP.mkBad {w':World} {r mb:Nat} {m:Res Pt} {s':RS} (hm:m= .bad s') (hg:RG w' r mb t x s') (hx:Ex [] w w'):RFP t x w r mb m (.returned (.tuple #[.pointer (some ⟨r,0,none⟩),.agg #[.int .i64 0,.slice none 0 0,.int .u64 0,.int .u64 0,.bool false,.int .i64 0,.int .i64 0,.int .i64 0,.bool false],.bool false])) w':=by
 subst hm;exact⟨rfl,hg,hx⟩
theorem RFP.mkOk {w':World} {r mb:Nat} {m:Res Pt} {p:Pt} {s':RS} {u:PV} (hm:m= .ok p s') (hp:PR w' (Btw w.heap.size w'.heap.size) p u) (hg:RG w' r mb t x s') (hx:Ex [] w w'):RFP t x w r mb m (.returned (.tuple #[.pointer (some ⟨r,0,none⟩),u.val,.bool true])) w':=by
 subst hm;exact⟨⟨u,rfl,hp⟩,hg,hx⟩
theorem yV (hev:w.cell? ⟨0,0,none⟩=some (.iface x.1 x.2)) (ht:t.size<=60):
  RG ((((w.alloc (Obj.cells #[.int .i64 0,.slice none 0 0,.int .u64 0,.int .u64 0,.bool false,.int .i64 0,.int .i64 0,.int .i64 0,.bool false] 101)).alloc (Obj.cells #[.bool false] 4)).alloc (Obj.map #[] 0)).alloc (Obj.cells #[.string t,.int .i64 0,.int .i64 0,.bool false,.int .i64 0,.map (some (w.heap.size+1+1))] 105)) (w.heap.size+1+1+1) (w.heap.size+1+1) t x fa:=by
 have hlt:=eV hev
 refine⟨?_,?_,?_,by omega,by omega,by omega,Nat.zero_le _,ht,fun _ hx=>by simp[fa]at hx⟩
 ·have:=heap_alloc_new (((w.alloc (Obj.cells #[.int .i64 0,.slice none 0 0,.int .u64 0,.int .u64 0,.bool false,.int .i64 0,.int .i64 0,.int .i64 0,.bool false] 101)).alloc (Obj.cells #[.bool false] 4)).alloc (Obj.map #[] 0)) (Obj.cells #[.string t,.int .i64 0,.int .i64 0,.bool false,.int .i64 0,.map (some (w.heap.size+1+1))] 105)
  simpa[RD,fa]using this
 ·have:=BK.alloc (BK.new ((w.alloc (Obj.cells #[.int .i64 0,.slice none 0 0,.int .u64 0,.int .u64 0,.bool false,.int .i64 0,.int .i64 0,.int .i64 0,.bool false] 101)).alloc (Obj.cells #[.bool false] 4)) (Obj.map #[] 0)) (Obj.cells #[.string t,.int .i64 0,.int .i64 0,.bool false,.int .i64 0,.map (some (w.heap.size+1+1))] 105)
  simp only[World.size_alloc]at this
  exact this
 ·have hx:Ex [] w ((((w.alloc (Obj.cells #[.int .i64 0,.slice none 0 0,.int .u64 0,.int .u64 0,.bool false,.int .i64 0,.int .i64 0,.int .i64 0,.bool false] 101)).alloc (Obj.cells #[.bool false] 4)).alloc (Obj.map #[] 0)).alloc (Obj.cells #[.string t,.int .i64 0,.int .i64 0,.bool false,.int .i64 0,.map (some (w.heap.size+1+1))] 105)):=((((Ex.refl _ _).alloc _).alloc _).alloc _).alloc _
  exact (hx.cell0.1 _ _ hlt).trans hev
theorem jR (hev:w.cell? ⟨0,0,none⟩=some (.iface x.1 x.2)) (ht:t.size<=60) (hnp:NP t):
  Calls Tryz.prog 45 #[.string t] w fun e w'=>∃r mb,w.heap.size<=min r mb/\RFP t x w r mb (aX t) e w':=by
 have hmf:∀(fn:Fn) (first cap:Array Value) (w:World),(Instr.makeFunc fn first cap).run Tryz.prog w= .ok (.func fn first cap) w:=fun _ _ _ _=>rfl
 have hmm:= @run_makeMap Tryz.prog
 have helt:=eV hev
 have HNP:=aa hnp
 have HRG:=aa (yV hev ht)
 clear hev hnp
 go_enter_defers Tryz.func45,Tryz.ntmps45
 go_wp2_with fail
 refine (Ai HRG.O).mono ?_
 rintro e w1 hp
 rcases hp.split with⟨_,s1,v,hm,rfl,rfl,hg1,hx1⟩|⟨s1,hm,rfl,hg1,hx1⟩
 all_goals
  have hA1:BK w1 w.heap.size (.cells #[.int .i64 0,.slice none 0 0,.int .u64 0,.int .u64 0,.bool false,.int .i64 0,.int .i64 0,.int .i64 0,.bool false] 101 (0,0)):=((((BK.new _ _).alloc _).alloc _).alloc _).ex hx1 (by simp;omega)
  have hB1:BK w1 (w.heap.size+1) (.cells #[.bool false] 4 (0,0)):=(((by simpa using BK.new (w.alloc (Obj.cells #[.int .i64 0,.slice none 0 0,.int .u64 0,.int .u64 0,.bool false,.int .i64 0,.int .i64 0,.int .i64 0,.bool false] 101)) (.cells #[.bool false] 4):BK _ _ _).alloc _).alloc _).ex hx1 (by simp)
  have hX1:Ex [w.heap.size+1+1+1] w w1:=((((((Ex.refl _ _).alloc _).alloc _).alloc _).alloc _)).trans hx1
  have hz1:w.heap.size+1+1+1<w1.heap.size:=by have:=hx1.size;simp at this;omega
 rotate_left
 ·have MM:aX t= .bad s1:=by unfold aX;rw[hm];rfl
  refine leaves_cons (f:=83) (args:= #[.pointer (some ⟨w.heap.size,0,none⟩),.pointer (some ⟨w.heap.size+1,0,none⟩)]) (by simp) (by simp[go_sem]) ?_
  refine (gJ hA1 rfl hB1 (by omega)).mono ?_
  rintro e u' w9 ⟨rfl,rfl,hA9,hB9,hx9⟩
  obtain⟨hcA,hfA⟩:=hA9.all
  obtain⟨hcB,hfB⟩:=hB9.all
  refine⟨.tuple #[.pointer (some ⟨w.heap.size+1+1+1,0,none⟩),.agg #[.int .i64 0,.slice none 0 0,.int .u64 0,.int .u64 0,.bool false,.int .i64 0,.int .i64 0,.int .i64 0,.bool false],.bool false],?_,w.heap.size+1+1+1,w.heap.size+1+1,by omega,RFP.mkBad MM (hg1.ex hx9 (by simp only[List.mem_cons,List.not_mem_nil,or_false];omega) (by simp only[List.mem_cons,List.not_mem_nil,or_false];omega) (by simp only[List.mem_cons,List.not_mem_nil,or_false];omega)) ?_⟩
  ·simp[results,Tryz.results45,go_sem,hcA,hcB]
  ·refine Ex.drop (l:=[w.heap.size+1+1+1,w.heap.size+1+1,w.heap.size,w.heap.size+1]) ?_ (by simp;omega)
   exact (hX1.drop (by simp)).trans (hx9.drop (by simp))
 have M1:=aa hm
 have G1:=aa hg1
 have A1:=aa hA1
 have B1:=aa hB1
 have X1:=aa hX1
 have hs1:s1.g<=5/\s1.d=0:=by
  unfold dB at hm
  split at hm
  ·obtain⟨_,s2,h1,h2⟩:=Res.bind_eq_ok hm
   obtain⟨_,rfl⟩:=bF h1
   cases h2;exact⟨Nat.zero_le _,rfl⟩
  ·cases hm;exact⟨Nat.zero_le _,rfl⟩
 clear hp hm hg1 hx1 hA1 hB1 hX1 HRG
 go_wp2_with fail
 refine ((tG HNP.O 7 0 (by omega) (by omega)) w1 s1 G1.O hs1.1 hs1.2).mono ?_
 rintro e w2 hp
 rcases hp.split with⟨q,s2,v,hm,rfl,hRP,hg1,hx1⟩|⟨s2,hm,rfl,hg1,hx1⟩
 all_goals
  have hA1:=A1.O.ex hx1 (by simp;omega)
  have hB1:=B1.O.ex hx1 (by simp)
  have hX1:Ex [w.heap.size+1+1+1,w.heap.size+1+1] w w2:=(X1.O.drop (by simp)).trans hx1
  have hz2:w1.heap.size<=w2.heap.size:=hx1.size
 rotate_left
 ·have MM:aX t= .bad s2:=by unfold aX;rw[M1.O,Res.bind_ok,hm];rfl
  refine leaves_cons (f:=83) (args:= #[.pointer (some ⟨w.heap.size,0,none⟩),.pointer (some ⟨w.heap.size+1,0,none⟩)]) (by simp) (by simp[go_sem]) ?_
  refine (gJ hA1 rfl hB1 (by omega)).mono ?_
  rintro e u' w9 ⟨rfl,rfl,hA9,hB9,hx9⟩
  obtain⟨hcA,hfA⟩:=hA9.all
  obtain⟨hcB,hfB⟩:=hB9.all
  refine⟨.tuple #[.pointer (some ⟨w.heap.size+1+1+1,0,none⟩),.agg #[.int .i64 0,.slice none 0 0,.int .u64 0,.int .u64 0,.bool false,.int .i64 0,.int .i64 0,.int .i64 0,.bool false],.bool false],?_,w.heap.size+1+1+1,w.heap.size+1+1,by omega,RFP.mkBad MM (hg1.ex hx9 (by simp only[List.mem_cons,List.not_mem_nil,or_false];omega) (by simp only[List.mem_cons,List.not_mem_nil,or_false];omega) (by simp only[List.mem_cons,List.not_mem_nil,or_false];omega)) ?_⟩
  ·simp[results,Tryz.results45,go_sem,hcA,hcB]
  ·refine Ex.drop (l:=[w.heap.size+1+1+1,w.heap.size+1+1,w.heap.size,w.heap.size+1]) ?_ (by simp;omega)
   exact (hX1.drop (by simp)).trans (hx9.drop (by simp))
 obtain⟨u,rfl,hpr⟩:=hRP
 have M2:Hid (aX t=if s2.k=t.size then .ok q s2 else .bad s2):=by show aX t=_;unfold aX;rw[M1.O,Res.bind_ok,hm];rfl
 have HPR:=aa hpr
 have G2:=aa hg1
 have A2:=aa hA1
 have B2:=aa hB1
 have X2:=aa hX1
 obtain⟨kd,up,un,uc,ulo,uhi,uhg,ug,ul,um,uz⟩:=u
 have HAL:Hid ((#[.int .i64 kd,.slice up un uc,.int .u64 ulo,.int .u64 uhi,.bool uhg,.int .i64 ug,.int .i64 ul,.int .i64 um,.bool uz]:Array Value).all (·.oneCell')=true):=by show Array.all _ _=true;simp[Value.oneCell']
 have HSZ:Hid ((Tryz.prog.info? 101).map (·.size)=some (#[.int .i64 kd,.slice up un uc,.int .u64 ulo,.int .u64 uhi,.bool uhg,.int .i64 ug,.int .i64 ul,.int .i64 um,.bool uz]:Array Value).size):=bz
 clear hp hm hg1 hx1 hA1 hB1 hX1 hpr G1 A1 B1 X1 M1
 unfold PV.val
 go_wp2_with (refine wpList_store_row rfl 101 _ _ rfl w.heap.size #[.int .i64 kd,.slice up un uc,.int .u64 ulo,.int .u64 uhi,.bool uhg,.int .i64 ug,.int .i64 ul,.int .i64 um,.bool uz] rfl rfl 101 _ A2.O HSZ.O rfl HAL.O ?_)
 have hX3:Ex [w.heap.size] w2 (w2.setRow w.heap.size #[.int .i64 kd,.slice up un uc,.int .u64 ulo,.int .u64 uhi,.bool uhg,.int .i64 ug,.int .i64 ul,.int .i64 um,.bool uz]):=(Ex.refl _ _).setRow (Or.inl (by simp)) _
 have G3:=aa (G2.O.ex hX3 (by simp only[List.mem_cons,List.not_mem_nil,or_false];omega) (by simp only[List.mem_cons,List.not_mem_nil,or_false];omega) (by simp only[List.mem_cons,List.not_mem_nil,or_false];omega))
 have A3:=aa (setRow_heap w2 w.heap.size #[.int .i64 0,.slice none 0 0,.int .u64 0,.int .u64 0,.bool false,.int .i64 0,.int .i64 0,.int .i64 0,.bool false] #[.int .i64 kd,.slice up un uc,.int .u64 ulo,.int .u64 uhi,.bool uhg,.int .i64 ug,.int .i64 ul,.int .i64 um,.bool uz] 101 (0,0) A2.O)
 have B3:=aa (B2.O.ex hX3 (by simp))
 have X3:=aa hX3
 clear hX3
 refine (su G3.O).mono ?_
 rintro e w4 ⟨rfl,n4,hw4⟩
 have X4:Hid (Ex [w.heap.size] w2 w4):=by rw[hw4];exact X3.O.drewN _
 have G4:Hid (RG w4 (w.heap.size+1+1+1) (w.heap.size+1+1) t x s2):=by rw[hw4];exact G3.O.drewN _
 have A4:Hid (BK w4 w.heap.size (.cells #[.int .i64 kd,.slice up un uc,.int .u64 ulo,.int .u64 uhi,.bool uhg,.int .i64 ug,.int .i64 ul,.int .i64 um,.bool uz] 101 (0,0))):=by rw[hw4];exact BK.drewN A3.O _
 have B4:Hid (BK w4 (w.heap.size+1) (.cells #[.bool false] 4 (0,0))):=by rw[hw4];exact BK.drewN B3.O _
 clear hw4 X3 G3 A3 B3
 by_cases hend:s2.k=t.size
 rotate_left
 ·rw[decide_eq_false hend]
  have MM:aX t= .bad s2:=by rw[M2.O,if_neg hend]
  have hev4:=G4.O.ev
  have hA1:=A4.O
  have hB1:=B4.O
  have hg1:=G4.O
  have hX1:Ex [w.heap.size+1+1+1,w.heap.size+1+1,w.heap.size] w w4:=(X2.O.drop (by simp)).trans (X4.O.drop (by simp))
  have HMM:=aa MM
  have HA1:=aa hA1
  have HB1:=aa hB1
  have HG1:=aa hg1
  have HX1:=aa hX1
  clear MM hA1 hB1 hg1 hX1
  go_wp2_with fail
  have MM:=HMM.O
  have hA1:=HA1.O
  have hB1:=HB1.O
  have hg1:=HG1.O
  have hX1:=HX1.O
  refine leaves_cons (f:=83) (args:= #[.pointer (some ⟨w.heap.size,0,none⟩),.pointer (some ⟨w.heap.size+1,0,none⟩)]) (by simp) (by simp[go_sem]) ?_
  refine (gJ hA1 rfl hB1 (by omega)).mono ?_
  rintro e u' w9 ⟨rfl,rfl,hA9,hB9,hx9⟩
  obtain⟨hcA,hfA⟩:=hA9.all
  obtain⟨hcB,hfB⟩:=hB9.all
  refine⟨.tuple #[.pointer (some ⟨w.heap.size+1+1+1,0,none⟩),.agg #[.int .i64 0,.slice none 0 0,.int .u64 0,.int .u64 0,.bool false,.int .i64 0,.int .i64 0,.int .i64 0,.bool false],.bool false],?_,w.heap.size+1+1+1,w.heap.size+1+1,by omega,RFP.mkBad MM (hg1.ex hx9 (by simp only[List.mem_cons,List.not_mem_nil,or_false];omega) (by simp only[List.mem_cons,List.not_mem_nil,or_false];omega) (by simp only[List.mem_cons,List.not_mem_nil,or_false];omega)) ?_⟩
  ·simp[results,Tryz.results45,go_sem,hcA,hcB]
  ·refine Ex.drop (l:=[w.heap.size+1+1+1,w.heap.size+1+1,w.heap.size,w.heap.size+1]) ?_ (by simp;omega)
   exact (hX1.drop (by simp)).trans (hx9.drop (by simp))
 rw[decide_eq_true hend]
 have MM:Hid (aX t= .ok q s2):=by show aX t=_;rw[M2.O,if_pos hend]
 have hPR4:=PR.ex (lo':=w.heap.size+1+1) (hi':=w4.heap.size) HPR.O X4.O (by simp;omega) (by omega) X4.O.size
 have HPR4:=aa hPR4
 have hz4:w2.heap.size<=w4.heap.size:=X4.O.size
 obtain⟨hcA,hfA⟩:=A4.O.all
 obtain⟨hcB,hfB⟩:=B4.O.all
 have hlA:=A4.O.lt
 have hlB:=B4.O.lt
 clear hend hPR4 HPR M2 G2 A2 B2
 go_wp2_with fail
 go_region
 go_wp2_with fail
 refine leaves_cons (f:=83) (args:= #[.pointer (some ⟨w.heap.size,0,none⟩),.pointer (some ⟨w.heap.size+1,0,none⟩)]) (by simp) (by simp[go_sem]) ?_
 refine (r8 ⟨w.heap.size,0,none⟩ ⟨w.heap.size+1,0,none⟩ _).mono ?_
 rintro e u' w5 ⟨rfl,rfl,hw5⟩
 have hA5:BK w5 w.heap.size (.cells #[.int .i64 kd,.slice up un uc,.int .u64 ulo,.int .u64 uhi,.bool uhg,.int .i64 ug,.int .i64 ul,.int .i64 um,.bool uz] 101):=by
  have h:=vy (af A4) rfl (.int .i64 kd) (.slice up un uc) (.int .u64 ulo) (.int .u64 uhi) (.bool uhg) (.int .i64 ug) (.int .i64 ul) (.int .i64 um) (.bool uz)
  rw[hw5];exact BK.drew (BK.set h (by simp) _)
 have hB5:BK w5 (w.heap.size+1) (.cells #[.bool true] 4):=by
  have h:=BK.ex (af B4) (pV w4 w.heap.size (.int .i64 kd) (.slice up un uc) (.int .u64 ulo) (.int .u64 uhi) (.bool uhg) (.int .i64 ug) (.int .i64 ul) (.int .i64 um) (.bool uz)) (by simp)
  have h':=BK.self h 0 (.bool true)
  simp only[List.setIfInBounds_toArray,List.set_cons_zero]at h'
  rw[hw5];exact BK.drew h'
 have hx5:Ex [w.heap.size,w.heap.size+1] w4 w5:=by
  rw[hw5]
  refine Ex.drew (Ex.setCell ?_ (Or.inl (by simp)) _)
  exact (pV w4 w.heap.size (.int .i64 kd) (.slice up un uc) (.int .u64 ulo) (.int .u64 uhi) (.bool uhg) (.int .i64 ug) (.int .i64 ul) (.int .i64 um) (.bool uz)).drop (by simp)
 clear hw5 hcA hfA hcB hfB
 obtain⟨hcA,hfA⟩:=hA5.all
 obtain⟨hcB,hfB⟩:=hB5.all
 refine⟨.tuple #[.pointer (some ⟨w.heap.size+1+1+1,0,none⟩),.agg #[.int .i64 kd,.slice up un uc,.int .u64 ulo,.int .u64 uhi,.bool uhg,.int .i64 ug,.int .i64 ul,.int .i64 um,.bool uz],.bool true],?_,w.heap.size+1+1+1,w.heap.size+1+1,by omega,RFP.mkOk (u:=⟨kd,up,un,uc,ulo,uhi,uhg,ug,ul,um,uz⟩) MM.O ?_ (G4.O.ex hx5 (by simp only[List.mem_cons,List.not_mem_nil,or_false];omega) (by simp only[List.mem_cons,List.not_mem_nil,or_false];omega) (by simp only[List.mem_cons,List.not_mem_nil,or_false];omega)) ?_⟩
 ·simp[results,Tryz.results45,go_sem,hcA,hcB]
 ·exact PR.ex HPR4.O hx5 (by simp;omega) (by omega) hx5.size
 ·refine Ex.drop (l:=[w.heap.size+1+1+1,w.heap.size+1+1,w.heap.size,w.heap.size+1]) ?_ (by simp;omega)
  exact ((X2.O.drop (by simp)).trans (X4.O.drop (by simp))).trans (hx5.drop (by simp))
end Go.Proofs.YtfnanjbleifjkaaGreatDoor.G
namespace Go.Proofs.YtfnanjbleifjkaaGreatDoor.Rx.Q
variable {w:World} {k r:Nat} {t:ByteArray}
open Go.RowKit
structure dv where
 d:Nat
 f:Bool
 g:Nat
 m:Value
def RD (w:World) (r:Nat) (t:ByteArray) (k:Nat) (mv:dv):Prop:=
 w.heap[r]? =some (.cells #[.string t,.int .i64 k,.int .i64 mv.d,.bool mv.f,.int .i64 mv.g,mv.m] 105 (0,0))
theorem RD.c0 {mv:dv} (h:RD w r t k mv):w.cell? ⟨r,0,none⟩=some (.string t):=by
 rw[cell_of_row w r 0 _ 105 (0,0) h];rfl
theorem RD.c1 {mv:dv} (h:RD w r t k mv):w.cell? ⟨r,1,none⟩=some (.int .i64 k):=by
 rw[cell_of_row w r 1 _ 105 (0,0) h];rfl
theorem RD.c3 {mv:dv} (h:RD w r t k mv):w.cell? ⟨r,3,none⟩=some (.bool mv.f):=by
 rw[cell_of_row w r 3 _ 105 (0,0) h];rfl
theorem RD.drew {mv:dv} (h:RD w r t k mv) (n:Nat):RD (w.drewN n) r t k mv:=h
theorem RD.lt {mv:dv} (h:RD w r t k mv):r<w.heap.size:=(Array.getElem?_eq_some_iff.1 h).1
theorem RD.ex {l:List Nat} {w':World} {mv:dv} (h:RD w r t k mv) (hx:Ex l w w') (hn:r∉l):RD w' r t k mv:=by
 unfold RD;rw[hx.block r h.lt hn];exact h
theorem RD.step {mv:dv} (h:RD w r t k mv):RD (w.setCell ⟨r,1,none⟩ (.int .i64 ((k+1:Nat):Int))) r t (k+1) mv:=by
 unfold RD at h ⊢
 simp[World.setCell,Array.getElem?_modify,h]
theorem RD.f1 {mv:dv} (h:RD w r t k mv):w.frozen? ⟨r,1,none⟩=false:=by
 unfold RD at h;simp[World.frozen?,h]
theorem RD.bk {mv:dv} (h:RD w r t k mv):BK w r (.cells #[.string t,.int .i64 k,.int .i64 mv.d,.bool mv.f,.int .i64 mv.g,mv.m] 105 (0,0)):=h
end Go.Proofs.YtfnanjbleifjkaaGreatDoor.Rx.Q
namespace Go.Proofs.YtfnanjbleifjkaaGreatDoor.Rx
open Go.RowKit
section
variable {P:Program} {ops:Array Oper} {Q:Exit ->Act ->World ->Prop} {md:Region.Mode} {S:Nat ->World ->Prop} {T:World ->Prop}
end
end Go.Proofs.YtfnanjbleifjkaaGreatDoor.Rx
namespace Go.Proofs.YtfnanjbleifjkaaGreatDoor.Rx.Q
open Go.RowKit
structure Cls where
 lo:Int
 hi:Int
 hg:Bool
def ar (c:Cls):Value:= .agg #[.int .u64 c.lo,.int .u64 c.hi,.bool c.hg]
def Cls.word (c:Cls) (r:Nat):Int:=if r/64=0 then c.lo else c.hi
def shv (x:Int) (r:Int):Int:=x/2^min (bits BinOp.and IntKind.i32 r 63).toNat 64
def jn (c:Cls) (r:Nat):Bool:=bits BinOp.and IntKind.u64 (shv (c.word r) r) 1==1
def hasC (c:Cls) (r:Int):Bool:=if 128<=r then c.hg else jn c r.toNat
theorem lT (c:Cls) (r:Nat) (hr:r<128):[Value.int IntKind.u64 c.lo,Value.int IntKind.u64 c.hi,Value.bool c.hg][r/64]? =some (.int .u64 (c.word r)):=by
 have:r/64=0\/r/64=1:=by omega
 unfold Cls.word
 rcases this with h|h<;>rw[h]<;>rfl
theorem iV:∀r:Fin 128,0<=bits BinOp.and IntKind.i32 ((r.val:Nat):Int) 63:=by decide+kernel
theorem iY (x:Int) (r:Nat) (hr:r<128) (W:World):(Op.shift BinOp.shr IntKind.u64 x IntKind.i32 (bits BinOp.and IntKind.i32 (r:Int) 63)).run Tryz.prog W= .ok (.int .u64 (shv x r)) W:=by
 rw[shift_shr_any _ _ _ _ (iV ⟨r,hr⟩)]
 rfl
theorem pj (c:Cls) (r:Nat) (w:World) (hr:r<128):Calls Tryz.prog 93 #[ar c,.int .i32 r] w fun e w'=>e= .returned (.bool (jn c r))/\Ex [] w w':=by
 have hidx:=lT c r hr
 have hsh:=iY (c.word r) r hr
 unfold ar jn
 go_enter Tryz.func93,Tryz.ntmps93
 go_wp2_with fail
 go_ret
 exact⟨rfl,(Ex.refl _ _).alloc _⟩
theorem has_any (c:Cls) (r:Int) (w:World) (hr:0<=r):Calls Tryz.prog 93 #[ar c,.int .i32 r] w fun e w'=>e= .returned (.bool (hasC c r))/\Ex [] w w':=by
 unfold hasC
 by_cases h:128<=r
 ·rw[if_pos h]
  unfold ar
  go_enter Tryz.func93,Tryz.ntmps93
  go_wp2_with fail
  go_ret
  exact⟨rfl,(Ex.refl _ _).alloc _⟩
 ·rw[if_neg h]
  obtain⟨n,rfl⟩:=Int.eq_ofNat_of_zero_le hr
  exact pj c n w (by omega)
end Go.Proofs.YtfnanjbleifjkaaGreatDoor.Rx.Q
namespace Go.Proofs.YtfnanjbleifjkaaGreatDoor.Rx
open Go.RowKit
theorem RD.bk {w:World} {r:Nat} {t:ByteArray} {k:Nat} {mv:Value} (h:RD w r t k mv):BK w r (.cells #[.string t,.int .i64 k,.int .i64 0,.bool false,.int .i64 0,mv] 105 (0,0)):=h
end Go.Proofs.YtfnanjbleifjkaaGreatDoor.Rx
namespace Go.Proofs.YtfnanjbleifjkaaGreatDoor.Rx.Q
open Go.RowKit
end Go.Proofs.YtfnanjbleifjkaaGreatDoor.Rx.Q
namespace Go.Proofs.YtfnanjbleifjkaaGreatDoor.G
variable {w:World} {t:ByteArray} {x:EV}
open Go.RowKit
theorem nX {s:RS} (hev:w.cell? ⟨0,0,none⟩=some (.iface x.1 x.2)) (ht:t.size<=60) (hnp:NP t) (hb:aX t= .bad s):
  Calls Tryz.prog 20 #[.string t] w fun e w'=>e= .returned (.tuple #[.pointer none,.int .i64 (s.k:Int),.bool false])/\Ex [] w w':=by
 have HEV:=aa hev
 have HNP:=aa hnp
 have HB:=aa hb
 have ht':¬(t.size:Int)>60:=by omega
 clear hev hnp hb
 go_enter Tryz.func20,Tryz.ntmps20
 go_wp2_with fail
 refine (jR HEV.O ht HNP.O).mono ?_
 rintro e w1 ⟨r,mb,hr,hp⟩
 rw[HB.O]at hp
 obtain⟨rfl,hg,hx⟩:=hp
 have hc1:=hg.rd.c1
 have hl1:=hg.lt
 have G1:=aa hg
 have X1:=aa hx
 clear hg hx
 go_wp2_with fail
 go_region
 go_wp2_with fail
 go_ret3
 exact⟨rfl,(X1.O.alloc _).drew⟩
structure PG (w:World) (q base:Nat) (code:List Ins) (ng:Nat) (nm:List (ByteArray×Nat)):Prop where
 le:base<=w.heap.size
 ql:base<=q
 ex:∃cp cc sp sc B mb,BK w q (.cells #[.slice cp code.length cc,.slice sp (bM code (0,0)).length sc,.slice (some ⟨B,0,none⟩) code.length code.length,.int .i64 (ng:Int),.map (some mb)] 116 (0,0))/\
  w.ownsRow base 192 7 (.slice cp code.length cc) code.length (bY code)/\w.ownsRow base 204 2 (.slice sp (bM code (0,0)).length sc) (bM code (0,0)).length (ez (bM code (0,0)))/\BHG w B (B+1) code code.length/\base<=B/\BK w mb (.map (nmE nm) nm.length)/\base<=mb
theorem rt {base cc:Nat} {cp:Option Addr} {code:List Ins} (h:w.ownsRow base 192 7 (.slice cp code.length cc) code.length (bY code)) (hl:0<code.length):∃cg,cp=some ⟨cg,0,none⟩/\code.length<=cc/\base<=cg/\cg<w.heap.size/\w.rangeAt cg 0 (bY code):=by
 rcases h.2 with⟨_,hn⟩|⟨g,cap,cur,hv,hb,hgg,hnc,hcm,hcs,htake⟩
 ·omega
 ·cases hv
  refine⟨g,rfl,hnc,hb,BK.lt hgg,fun o v hv=> ?_⟩
  rw[Nat.zero_add,(BK.all hgg).1,<-Array.getElem?_toList]
  rw[<-htake,List.getElem?_take]at hv
  split at hv
  ·exact hv
  ·cases hv
theorem sA {s:RS} {p:Pt} (hev:w.cell? ⟨0,0,none⟩=some (.iface x.1 x.2)) (ht:t.size<=60) (hnp:NP t) (hb:aX t= .ok p s) (hw:WOK p) (hwt:wt p<=120) (hsz:isz p<=98000) (hok:cZ (bB p)) (htk:eN (bB p)):
  Calls Tryz.prog 20 #[.string t] w fun e w'=>∃q,e= .returned (.tuple #[.pointer (some ⟨q,0,none⟩),.int .i64 0,.bool true])/\PG w' q w.heap.size (bB p) s.g s.nm/\Ex [] w w':=by
 have HEV:=aa hev
 have HNP:=aa hnp
 have HB:=aa hb
 have ht':¬(t.size:Int)>60:=by omega
 clear hev hnp hb
 go_enter Tryz.func20,Tryz.ntmps20
 go_wp2_with fail
 refine (jR HEV.O ht HNP.O).mono ?_
 rintro e w1 ⟨r,mb,hr,hp⟩
 rw[HB.O]at hp
 obtain⟨⟨u,rfl,hpr⟩,hg,hx⟩:=hp
 have HPR:=aa hpr
 have HG:=aa hg
 have HX:=aa hx
 have hz1:=hx.size
 have hrlt:=hg.lt
 clear hpr hg hx
 obtain⟨kd',p',n',c',lo',hi',hg',gr',l',m',z'⟩:=u
 have HWT:=aa (fun (w':World) (hx:Ex [] w1 w')=>mO (Btw w.heap.size w1.heap.size) p ⟨kd',p',n',c',lo',hi',hg',gr',l',m',z'⟩ w' (HPR.O.frame (fun _ h=>h) hx.size (fun b _ hlt=>hx.block b hlt (by simp)) _ _) hw)
 have HPO:=aa (fun (w':World) (hx:Ex [] w1 w')=>nh p ⟨kd',p',n',c',lo',hi',hg',gr',l',m',z'⟩ (Btw w.heap.size w1.heap.size) w' (HPR.O.frame (fun _ h=>h) hx.size (fun b _ hlt=>hx.block b hlt (by simp)) _ _) (fun g hg=>Nat.lt_of_lt_of_le hg.2 hx.size) hw hsz)
 unfold PV.val at HWT HPO ⊢
 dsimp only at HWT HPO ⊢
 go_wp2_with fail
 refine (HWT.O _ ((Ex.refl _ _).alloc _)).mono ?_
 rintro e w2 ⟨rfl,hx2⟩
 have hx12:Ex [] w1 w2:=((Ex.refl _ _).alloc _).trans hx2
 have hA:=BK.ex (BK.new w1 (Obj.cells #[.int .i64 kd',.slice p' n' c',.int .u64 lo',.int .u64 hi',.bool hg',.int .i64 gr',.int .i64 l',.int .i64 m',.bool z'] 101)) hx2 (by simp)
 obtain⟨hcA,hfA⟩:=hA.all
 have HX12:=aa hx12
 have hz2:=hx12.size
 have hwt':¬((wt p:Int)>120):=by omega
 clear hx2 hx12 hA
 go_wp2_with fail
 refine (HPO.O _ HX12.O).mono ?_
 rintro e w3 ⟨cp,cc,rfl,ho3,hx3⟩
 have hz3:=hx3.size
 have HX13:=aa (HX12.O.trans hx3)
 have HO3:=aa (dX ho3 (show w.heap.size<=_ by omega))
 have hr3:=(HG.O.rd.ex HX13.O (by simp)).bk
 obtain⟨hcR,hfR⟩:=hr3.all
 have k4:=hcR 4
 have k5:=hcR 5
 simp at k4 k5
 have hrl3:=hr3.lt
 have HR3:=aa hr3
 obtain⟨cg,rfl,hcap,hcgb,hcgl,hrg⟩:=rt HO3.O (by rw[ik];omega)
 have HRG:=aa hrg
 obtain⟨code,hcd⟩:=exq (bB p)
 have hcn:code.length<=100000:=by rw[hcd,ik];omega
 have hcp:0<code.length:=by rw[hcd,ik];omega
 rw[<-hcd]at HO3 hcap HRG hok htk
 rw[<-hcd]
 have KF:=aa (fun (w':World) (hx:Ex [] w3 w')=>jG code hcn hok cg cc (0,0) w' (Nat.lt_of_lt_of_le hcgl hx.size) hcap (bu HRG.O (hx.block cg hcgl (by simp))) hcp (by simp))
 have KB:=aa (fun (w':World) (hx:Ex [] w3 w')=>mN code hcn hok htk cg cc w' (Nat.lt_of_lt_of_le hcgl hx.size) hcap (bu HRG.O (hx.block cg hcgl (by simp))))
 have HCD:=aa hcd
 clear hcA hfA ho3 hx3 hcR hfR hr3 hrg hcd
 unfold cJ at KF
 dsimp only at KF
 go_wp2_with fail
 go_region_held3 (fun w'=>w'.cell? ⟨r,4,none⟩=some (.int .i64 (s.g:Int))/\w'.cell? ⟨r,5,none⟩=some (.map (some mb))) (simp[*,go_sem])
  (first
   |(go_at_call 48;refine (show Calls _ _ _ _ _ from KF.O _ ((Ex.refl [] w3).drewN 1)).mono ?_;rintro e w4 ⟨ps,cps,rfl,ho4,hx4⟩;have e4:=hx4.cell0.1 r 4 hrl3;have e5:=hx4.cell0.1 r 5 hrl3)
   |(go_at_call 49;refine (KB.O _ (((Ex.refl [] w3).drewN 1).trans hx4)).mono ?_;rintro e w5 ⟨rfl,hb5,hx5⟩;have f4:=hx5.cell0.1 r 4 (Nat.lt_of_lt_of_le hrl3 hx4.size);have f5:=hx5.cell0.1 r 5 (Nat.lt_of_lt_of_le hrl3 hx4.size);have hr5:r<w5.heap.size:=Nat.lt_of_lt_of_le (Nat.lt_of_lt_of_le hrl3 hx4.size) hx5.size))
 have HX4:=aa hx4
 have HX5:=aa hx5
 have HO4:=aa ho4
 have HB5:=aa hb5
 have hz4:w3.heap.size<=w4.heap.size:=hx4.size
 have hz5:=hx5.size
 clear hx4 hx5 ho4 hb5 k4 k5
 go_wp2_with fail
 go_ret3
 have hx35:Ex [] w3 w5:=((Ex.refl [] w3).drewN 1).trans (HX4.O.trans HX5.O)
 rw[<-HCD.O]
 refine⟨w5.heap.size,rfl,⟨by simp;omega,by omega,some ⟨cg,0,none⟩,cc,ps,cps,w4.heap.size,mb,BK.new _ _,?_,?_,?_,by omega,?_,by omega⟩,?_⟩
 ·exact (aU HO3.O hx35 (by simp)).alloc _
 ·have h1:=dX HO4.O (show w.heap.size<=_ from (by show w.heap.size<=w3.heap.size;omega))
  exact (aU h1 HX5.O (by simp)).alloc _
 ·exact HB5.O.ex' ((Ex.refl [] _).alloc _)
 ·exact ((HG.O.mp.ex HX13.O (by simp)).ex hx35 (by simp)).alloc _
 ·exact (HX.O.trans (HX13.O.trans hx35)).alloc _
def po (n k:Nat) (i:Ins):Bool:=
 i.op==0||i.op==6||(i.op==1&&decide (0<=i.t0)&&decide (i.t0<n)&&decide (0<=i.t1)&&decide (i.t1<n))||(i.op==2&&decide (0<=i.t0)&&decide (i.t0<n))||
 (i.op==3&&decide (k+1<n)&&decide (0<=i.sl)&&decide (i.sl<64))||(i.op==4&&decide (k+1<n))||(i.op==5&&decide (k+1<n))
def kR (code:List Ins):Bool:=(List.range code.length).all fun k=>match code[k]? with
 |none=>true
 |some i=>po code.length k i&&(i.op !=0||decide (k+1<code.length))
theorem nN {code:List Ins} (h:kR code=true):cZ code/\eN code:=by
 have key:∀k i,code[k]? =some i ->po code.length k i=true/\(i.op=0 ->k+1<code.length):=by
  intro k i hi
  have hk:k<code.length:=(List.getElem?_eq_some_iff.1 hi).1
  have h1:=List.all_eq_true.1 h k (List.mem_range.2 hk)
  rw[hi]at h1
  simp only[Bool.and_eq_true,Bool.or_eq_true,bne_iff_ne,decide_eq_true_eq]at h1
  exact⟨h1.1,fun h0=>h1.2.resolve_left (fun hn=>hn h0)⟩
 refine⟨fun k i hi=> ?_,fun k i hi h0=>(key k i hi).2 h0⟩
 have h1:=(key k i hi).1
 simp only[po,Bool.or_eq_true,Bool.and_eq_true,beq_iff_eq,decide_eq_true_eq]at h1
 rcases h1 with (((((h1|h1)|h1)|h1)|h1)|h1)|h1
 ·exact .inl h1
 ·exact .inr (.inl h1)
 ·exact .inr (.inr (.inl ⟨h1.1.1.1.1,⟨i.t0.toNat,by omega,by omega⟩,i.t1.toNat,by omega,by omega⟩))
 ·exact .inr (.inr (.inr (.inl ⟨h1.1.1,i.t0.toNat,by omega,by omega⟩)))
 ·exact .inr (.inr (.inr (.inr (.inl ⟨h1.1.1.1,h1.1.1.2,i.sl.toNat,by omega,by omega⟩))))
 ·exact .inr (.inr (.inr (.inr (.inr (.inl h1)))))
 ·exact .inr (.inr (.inr (.inr (.inr (.inr h1)))))
mutual
def jH:Pt ->Bool
 |.single _=>true
 |.seq l=>mP l&&decide (wtL l<1000000000000000000)&&decide (l.length<1000000000000000000)
 |.alt l=>mP l&&decide (wtL l<1000000000000000000)&&decide (l.length<1000000000000000000)&&decide (1<=l.length)
 |.wrap q k=>jH q&&decide (wt q<1000000000000000000)&&decide (k<1000000)
 |.count q le mo _=>jH q&&decide (wt q<1000000000000000000)&&decide ((le:Int)<1000000000000000000)&&decide (-1<=mo)&&decide (mo<1000000000000000000)&&decide (wt q*(if mo= -1 then le+1 else mo.toNat)<1000000000000000000)
def mP:List Pt ->Bool
 |[]=>true
 |q::l=>jH q&&mP l
end
mutual
theorem pR:∀q:Pt,jH q=true ->WOK q
 |.single _,_=>trivial
 |.seq l,h=>by
  simp only[jH,Bool.and_eq_true,decide_eq_true_eq]at h
  exact⟨pP l h.1.1,h.1.2,h.2⟩
 |.alt l,h=>by
  simp only[jH,Bool.and_eq_true,decide_eq_true_eq]at h
  exact⟨pP l h.1.1.1,h.1.1.2,h.1.2,h.2⟩
 |.wrap q k,h=>by
  simp only[jH,Bool.and_eq_true,decide_eq_true_eq]at h
  exact⟨pR q h.1.1,h.1.2,h.2⟩
 |.count q le mo z,h=>by
  simp only[jH,Bool.and_eq_true,decide_eq_true_eq]at h
  exact⟨pR q h.1.1.1.1.1,h.1.1.1.1.2,h.1.1.1.2,h.1.1.2,h.1.2,h.2⟩
theorem pP:∀l:List Pt,mP l=true ->oW l
 |[],_=>trivial
 |q::l,h=>by
  simp only[mP,Bool.and_eq_true]at h
  exact⟨pR q h.1,pP l h.2⟩
end
def qM (t:ByteArray):Bool:=match aX t with
 |.ok p _=>jH p&&decide (wt p<=120)&&decide (isz p<=98000)&&kR (bB p)
 |.bad _=>false
theorem wu (hev:w.cell? ⟨0,0,none⟩=some (.iface x.1 x.2)) (ht:t.size<=60) (hnp:NP t) (hg:qM t=true):
  ∃p s,aX t= .ok p s/\Calls Tryz.prog 20 #[.string t] w fun e w'=>∃q,e= .returned (.tuple #[.pointer (some ⟨q,0,none⟩),.int .i64 0,.bool true])/\PG w' q w.heap.size (bB p) s.g s.nm/\Ex [] w w':=by
 unfold qM at hg
 cases hr:aX t with
 |bad s=>rw[hr]at hg;simp at hg
 |ok p s=>
  rw[hr]at hg
  simp only[Bool.and_eq_true,decide_eq_true_eq]at hg
  obtain⟨h1,h2⟩:=nN hg.2
  exact⟨p,s,rfl,sA hev ht hnp hr (pR p hg.1.1.1) hg.1.1.2 hg.1.2 h1 h2⟩
def plL (l:List Int):List Value:=l.map fun (z:Int)=>Value.int .i64 z
def RLG (w:World) (g n j:Nat):Prop:=∃cs:Array Value,BK w g (.cells cs 3 (0,0))/\cs.size=n/\∀i,i<j ->i<n ->cs[i]? =some (.int .i64 (-1))
theorem RLG.next {g n j:Nat} (h:RLG w g n j) (hj:j<n):RLG (w.setCell ⟨g,j,none⟩ (.int .i64 (-1))) g n (j+1):=by
 obtain⟨cs,h1,h2,h3⟩:=h
 refine⟨_,BK.self h1 j _,by simpa using h2,fun i hi hn=> ?_⟩
 by_cases e:i=j
 ·subst e
  simp[Array.getElem?_setIfInBounds,h2,hj]
 ·rw[Array.getElem?_setIfInBounds_ne (by omega)]
  exact h3 i (by omega) hn
theorem RLG.all {g n:Nat} (h:RLG w g n n):BK w g (.cells (plL (List.replicate n (-1))).toArray 3 (0,0)):=by
 obtain⟨cs,h1,h2,h3⟩:=h
 have:cs=(plL (List.replicate n (-1))).toArray:=by
  apply Array.ext_getElem?
  intro i
  by_cases hi:i<n
  ·rw[h3 i hi hi]
   simp[plL,hi]
  ·rw[Array.getElem?_eq_none (by omega),Array.getElem?_eq_none (by simp[plL];omega)]
 rw[<-this]
 exact h1
theorem sL (q base:Nat) (code:List Ins) (ng:Nat) (nm:List (ByteArray×Nat)) (w:World) (hp:PG w q base code ng nm) (hn:code.length<=100000):
  Calls Tryz.prog 50 #[.pointer (some ⟨q,0,none⟩)] w fun e w'=>∃u gr,e= .returned (.pointer (some ⟨u,0,none⟩))/\w.heap.size<=gr/\gr<u/\u<w'.heap.size/\
   BK w' u (.cells #[.pointer (some ⟨q,0,none⟩),.slice none 0 0,.slice none 0 0,.slice (some ⟨gr,0,none⟩) code.length code.length] 202 (0,0))/\BK w' gr (.cells (plL (List.replicate code.length (-1))).toArray 3 (0,0))/\Ex [] w w':=by
 obtain⟨i0,hi,hz0,hz1,hz2⟩:=info_parts kT
 obtain⟨cp,cc,sp,sc,B,mb,hq,hoc,hos,hbh,hbB,hnm⟩:=hp.ex
 obtain⟨hcq,hfq⟩:=hq.all
 have hql:=hq.lt
 obtain⟨n,hnn⟩:=exq (code.length)
 obtain⟨m,hmm⟩:=exq ((bM code (0,0)).length)
 rw[<-hnn,<-hmm]at hcq
 rw[<-hnn]at hn ⊢
 clear hoc hos hbh hnm hq hp hnn hmm
 go_enter Tryz.func50,Tryz.ntmps50
 go_wp2_with (at_make;refine wpList_make_full _ rfl _ _ 199 rfl w.heap.size 3 i0 (.int .i64 0) 1 Tryz.underlying199 hi hz0 hz1 .i64 .i64 _ _ n rfl rfl (by simp) (by simp) (by rw[hz2];omega) (by unfold maxLen;omega) (Nat.le_refl _) ?_)
 intro w1 hown1 hg1
 have hx1:Ex [] w w1:=(Ex.refl _ _).grown hg1 (by simp)
 have hrl:RLG w1 w.heap.size n 0:=by
  rcases hown1.2 with⟨hv,_⟩|⟨g',cap',cur,hv,hb',hgg,h1,h2,h3,h4⟩
  ·cases hv
  ·cases hv
   exact⟨cur,hgg,by omega,fun i hi=>by omega⟩
 have hl1:w.heap.size<w1.heap.size:=by obtain⟨cs,hb,_⟩:=hrl;exact hb.lt
 have HX1:=aa hx1
 have HRL:=aa hrl
 clear hx1 hrl hown1 hg1 hcq hfq
 go_wp2_with fail
 go_loopg [19] n (fun gk i wr=>∃j:Nat,j+gk=n/\i= .int .i64 j/\RLG wr w.heap.size n j/\BK wr w1.heap.size (.cells #[.pointer (some ⟨q,0,none⟩),.slice none 0 0,.slice none 0 0,.slice (some ⟨w.heap.size,0,none⟩) n n] 202 (0,0))/\Ex [] w wr)
 case atStart=>
  refine⟨0,by omega,rfl,?_,BK.new _ _,HX1.O.alloc _⟩
  obtain⟨cs,h1,h2,h3⟩:=HRL.O
  exact⟨cs,h1.alloc _,h2,h3⟩
 case round=>
  obtain⟨j,hj,rfl,hrl,hbu,hx⟩:=hrel
  have HX:=aa hx
  have HR:=aa hrl
  have HU:=aa hbu
  obtain⟨hcu,hfu⟩:=hbu.all
  cases gk with
  |zero=>
   obtain rfl:j=n:=by omega
   clear hx hj hrl hbu
   go_wp2_with fail
   go_ret
   exact⟨w1.heap.size,w.heap.size,rfl,Nat.le_refl _,hl1,HU.O.lt,HU.O,HR.O.all,HX.O⟩
  |succ g=>
   have hj':((j:Int)<(n:Int)):=by omega
   obtain⟨cs,hbk,hcs,_⟩:=hrl
   obtain⟨hcB,hfB⟩:=hbk.all
   have kj:wr.cell? ⟨w.heap.size,j,none⟩=some (cs[j]'(by omega)):=by rw[hcB,Array.getElem?_eq_getElem (by omega)]
   have kf:=hfB j
   clear hx hcB hfB hbk hbu
   go_wp2_with fail
   go_roundg g
   case measure=>omega
   case rel=>exact⟨j+1,by omega,by simp,HR.O.next (by omega),HU.O.set (by simp;omega) _,HX.O.setCell (Or.inr (by simp)) _⟩
end Go.Proofs.YtfnanjbleifjkaaGreatDoor.G
