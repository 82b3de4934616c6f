import Derived.Test.YtfnanjbleifjkaaGreatDoorM01
import Derived.Lib.SliceRun
import Derived.Great.BuildSlice
import Derived.Lib.AppendZeros
import Derived.Lib.Overlaps
import Derived.Laws.Externs
import Derived.Deep.RegionHeld3
set_option linter.unusedVariables false
set_option linter.unusedSimpArgs false
set_option maxHeartbeats 2000000
set_option maxRecDepth 100000
namespace Go.Proofs.YtfnanjbleifjkaaGreatDoor
variable {w:World} {v:Value} {xs:List Value}
open Go.RowKit
theorem oh (base n vb:Nat) (v:Value) (xs:List Value) (l:Lab) (w:World) (hown:w.ownsRow base 167 2 v n xs) (hn:n<=1000) (hb:base<=w.heap.size)
  (hv:BK w vb (.cells #[.string l.1,.string l.2] 167 (0,0))):
  Calls Tryz.prog 173 #[v,.int .i64 n,.slice (some ⟨vb,0,none⟩) 1 1] w fun e w'=>∃v',e= .returned v'/\
   w'.ownsRow base 167 2 v' (n+1) (xs++[.string l.1,.string l.2])/\w.grownBy w' v.ownBlock/\(v.ownBlock=v'.ownBlock\/v'.ownBlock=some w.heap.size):=by
 obtain⟨t0,hti,hzz0,hzz1,hzz2⟩:=info_parts kU
 have HO:=aa hown
 obtain⟨p,c,rfl⟩:=aA hown
 obtain⟨hc,hf⟩:=hv.all
 have hnc:n<=c:=by
  rcases hown.2 with⟨h,h2⟩|⟨g',cap',cur,h,hbg,hg,hnc,hcm,_⟩
  ·cases h;omega
  ·cases h;exact hnc
 have hce:c=n ->n<=c:=fun _=>hnc
 have HN:Hid (∀j u,[Value.string l.1,.string l.2][j]? =some u ->w.cell? ((⟨vb,0,none⟩:Addr).add j)=some u):=by
  intro j u hj
  rw[Addr.add_lit,Nat.zero_add,hc]
  simpa using hj
 clear hown hv hc hf hce
 have hpn:(p=none ->n=0):=by
  intro h;subst h
  rcases HO.O.2 with⟨h,h2⟩|⟨g',cap',cur,h,_⟩
  ·exact h2
  ·cases h
 go_enter Tryz.func173,Tryz.ntmps173
 go_wp2_with (at_builtin;refine wpList_append_lies _ rfl _ _ 41 rfl base 167 t0 _ 2 32 Tryz.underlying41 hti hzz0 hzz1 hzz2 rfl (by decide) _ n xs rfl HO.O ⟨vb,0,none⟩ 1 1 [.string l.1,.string l.2] rfl rfl HN.O (by simp[Value.oneCell']) (by decide) (by unfold maxLen;omega) (by omega) hb _ rfl ?_)
 all_goals
  intro g cap w' hown' hgrow hloc hlt
  have HO1:=aa hown'
  have HG:=aa hgrow
  have HL:=aa hloc
  clear hown' hgrow hloc hlt
  go_wp2_with fail
  go_ret
  have e:∀c,(Value.slice p n c).ownBlock=p.map (·.block):=fun c=>by cases p<;>rfl
  refine⟨_,rfl,HO1.O,by have:=HG.O;rw[e]at this ⊢;exact this,?_⟩
  have:=HL.O
  rw[e]at this ⊢
  exact this.imp id (fun h=>by rw[h];rfl)
theorem nP (s:ByteArray) (w:World) (hs:s.size<=200):
  Calls Tryz.prog 174 #[.string s] w fun e w'=>e= .returned (.string s)/\w'=w:=by
 have h1:(s.size:Int)<=200:=by omega
 go_enter Tryz.func174,Tryz.ntmps174
 go_wp2_with fail
 go_ret
 exact⟨rfl,rfl⟩
theorem iO (ls:List Lab):∀u∈(ls.flatMap fun l=>[Value.string l.1,Value.string l.2]),u.oneCell'=true:=by
 intro u hu
 obtain⟨l,_,hl⟩:=List.mem_flatMap.1 hu
 simp only[List.mem_cons,List.not_mem_nil,or_false]at hl
 rcases hl with rfl|rfl<;>rfl
theorem iG {P:Program} {ops:Array Oper} {o:Oper} {a:Act} {K:Act ->World ->Prop} {Q:Exit ->Act ->World ->Prop} {E:Prop}
  (hg:o.guard=none) (s x:Operand) (t t':TypeId) (hop:o.op=Op.call {callee:=Callee.builtin Builtin.copy,args:= #[s,x],argTypes:= #[t,t']})
  (v u:Value) (hd:a.eval s=v) (hx:a.eval x=u) {v':Value} {w':World} (hr:(Builtin.copy_ #[t,t'] o.type #[v,u]).run P w= .ok v' w') (hK:K (a.put o.dst v') w'):
  if Region.wanted o (yielded ops a.tmps)=true then Oper.wp P o a w K Q else E:=by
 have hw:Region.wanted o (yielded ops a.tmps)=true:=by simp[Region.wanted,hg]
 rw[if_pos hw]
 unfold Oper.wp
 simp[execOp,hop,resolve,invoke,builtin,hd,hx,hr,Result.andThen]
 exact hK
theorem aq {P:Program} {fn:Func} {tmps:Array Value} {a:Tmp} {t:TypeId} {ad:Addr} (hf:fn.results= #[.cell a t]) (ha:tmps.getD a undef= .pointer (some ad)) (hl:(loadVar t ad).run P w= .ok v w):
  (results fn tmps).run P w= .ok v w:=by
 have ha':tmps[a]?.getD undef= .pointer (some ad):=by rw[<-ha];simp
 unfold results
 rw[hf]
 simp[ha',hl,asAddr]
theorem ap {P:Program} {fn:Func} {tmps:Array Value} {a k:Tmp} {t:TypeId} {ad:Addr} (hf:fn.results= #[.cell a t,.tmp k]) (ha:tmps.getD a undef= .pointer (some ad)) (hl:(loadVar t ad).run P w= .ok v w):
  (results fn tmps).run P w= .ok (.tuple #[v,tmps.getD k undef]) w:=by
 have ha':tmps[a]?.getD undef= .pointer (some ad):=by rw[<-ha];simp
 unfold results
 rw[hf]
 simp[ha',hl,asAddr]
theorem qE:∀(S:List Value) (k:Nat) (C:Array Value),k+S.length<=C.size ->(S.zipIdx k).foldl (fun (cs:Array Value) (x:Value×Nat)=>cs.setIfInBounds (0+x.2) x.1) C=(C.toList.take k++S++C.toList.drop (k+S.length)).toArray
 |[],k,C,h=>by simp
 |v::r,k,C,h=>by
  have e:=list_seg_step C.toList k v r (by simp at h ⊢;omega)
  rw[List.zipIdx_cons,List.foldl_cons,qE r (k+1) _ (by simp at h ⊢;omega)]
  congr 1
  simpa[Array.toList_setIfInBounds,Nat.add_assoc]using e
theorem qD {S:List Value} {n:Nat} {C:Array Value} (hS:S.length=n) (hC:C.size=n):Instr.fill (fun i=>some (i*n,n)) C [(0,.agg S.toArray)]=some S.toArray:=by
 have h:=qE S 0 C (by omega)
 unfold Instr.fill
 simp only[Nat.zero_mul,Value.cells,List.size_toArray,hS,hC]
 rw[if_neg (by simp)]
 unfold Instr.fill
 congr 1
 rw[<-Array.foldl_toList,Array.toList_zipIdx]
 simp only[List.take_zero,List.nil_append,Nat.zero_add]at h
 rw[List.drop_of_length_le (by rw[Array.length_toList];omega),List.append_nil]at h
 simpa using h
theorem m7 {need cap:Nat} (hc:cap<=200) (hn:need<=400):Builtin.nextslicecap need cap<=400:=by
 unfold Builtin.nextslicecap
 split
 ·omega
 ·split<;>omega
theorem gI {P:Program} (w:World) (t tn ty e:TypeId) (i:TypeInfo) (z:Value) (k kn:IntKind) (ht:P.underlying t=some (.slice e)) (htn:P.underlying tn=some (.int kn)) (hi:P.info? e=some i) (hz:i.zero=some z)
  (base g n cap m:Nat) (xs:List Value) (hown:w.ownsRow base e i.size (.slice (some ⟨g,0,none⟩) n cap) n xs) (hm:0<m) (hs:0<i.size) (hneed:cap<n+m) (hc:cap<=200) (hn4:n+m<=400) (hb:i.bytes<=1000):
  (Builtin.append_ #[t,tn] ty #[.slice (some ⟨g,0,none⟩) n cap,.int k m]).run P w=
   .ok (.slice (some ⟨w.heap.size,0,none⟩) (n+m) (grownCap w (n+m) cap e)) (w.drew.alloc (.cells (xs.toArray++Builtin.zeroCells z.cells m++Builtin.zeroCells z.cells (grownCap w (n+m) cap e-(n+m))) e)):=by
 have hw:IntKind.i64.wrap (m:Int)=m:=by rw[IntKind.wrap_i64];omega
 have h63':¬(9223372036854775807<(n:Int)+(m:Int)):=by omega
 have hnx:=m7 hc hn4
 have h48':¬(281474976710656<Builtin.nextslicecap (n+m) cap*i.bytes):=by
  have:=Nat.mul_le_mul hnx hb
  omega
 have h48i:¬(281474976710656<(m:Int)*(i.bytes:Int)):=by
  rw[<-Int.natCast_mul]
  have:=Nat.mul_le_mul (show m<=400 by omega) hb
  omega
 have hneg:¬((m:Int)<0):=by omega
 have hm0:m≠0:=by omega
 have hms:¬(m*i.size=0):=Nat.mul_ne_zero hm0 (by omega)
 have hnc:¬(n+m<=cap):=by omega
 have hl:(loadCells ⟨g,0,none⟩ (n*i.size)).run P w.drew= .ok xs.toArray w.drew:=by
  rw[<-hown.1]
  exact run_loadCells_list (P:=P) w.drew ⟨g,0,none⟩ xs (fun j u hj=>by rw[Addr.add_lit,Nat.zero_add];exact jv hown.drew hj)
 simp[Builtin.append_,run_underlying ht,run_underlying htn,sizeOf,typeInfo,zeroValue,hi,hz,asInt,asIntOf,hw,hm0,hneg,hms,h63',h48',h48i,hnc,Builtin.firstCells,hl,Question.forced,newRow,grownCap]
theorem fu {P:Program} (w:World) (dT sT ty elem:TypeId) (i:TypeInfo) (sz:Nat) (d o dLen dCap:Nat) (a:Addr) (sLen sCap n:Nat) (cur:Array Value) (t:TypeId) (cs:List Value)
  (hu:P.underlying dT=some (.slice elem)) (hi:P.info? elem=some i) (hsz:i.size=sz) (hd:w.heap[d]? =some (.cells cur t (0,0))) (hn:Nat.min sLen dLen=n) (hc:cs.length=n*sz)
  (hsrc:∀j v,cs[j]? =some v ->w.cell? (a.add j)=some v) (hfit:o+cs.length<=cur.size) (h1:∀v∈cs,v.oneCell'=true):
  (Builtin.copy_ #[dT,sT] ty #[.slice (some ⟨d,o,none⟩) dLen dCap,.slice (some a) sLen sCap]).run P w= .ok (goInt n) (w.setRow d (cur.toList.take o++cs++cur.toList.drop (o+cs.length)).toArray):=by
 subst hsz
 have hl:(loadCells a cs.length).run P w= .ok cs.toArray w:=run_loadCells_list (P:=P) w a cs hsrc
 have hst:=run_storeCells_at P d o t cs 0 cur w hd (by simpa using hfit) h1
 simp only[Nat.add_zero]at hst
 rw[hc]at hl
 simp[Builtin.copy_,run_underlying hu,Builtin.lenOf,Builtin.firstCells,sizeOf,typeInfo,hi,hn,hl,hst]
theorem gG {P:Program} (w:World) {ops:Array Oper} {rest:List Oper} {o:Oper} {a:Act} {Q:Exit ->Act ->World ->Prop} (hgd:o.guard=none) (s x:Operand) (t t':TypeId)
  (ho:o.op= .call {callee:= .builtin .copy,args:= #[s,x],argTypes:= #[t,t']}) (v u:Value) (hs:a.eval s=v) (hx:a.eval x=u) {v':Value} {w':World}
  (hr:(Builtin.copy_ #[t,t'] o.type #[v,u]).run P w= .ok v' w') (h:wpList P ops Q rest (a.put o.dst v') w'):wpList P ops Q (o::rest) a w:=by
 refine wpList_plain hgd fun K hK=> ?_
 unfold Oper.wp
 simp[execOp,ho,resolve,invoke,builtin,hs,hx,hr,Result.andThen]
 exact hK _ _ h
theorem yq {new cur:List Value} {a l m:Nat} (hx:cur.take l=xs) (hl:xs.length=l) (ha:a<=l) (hn:new.length=m) (hc:l+m<=cur.length):
  ((cur.take (a+m)++xs.drop a++cur.drop (a+m+(l-a))).take a++new++(cur.take (a+m)++xs.drop a++cur.drop (a+m+(l-a))).drop (a+m)).take (l+m)=xs.take a++new++xs.drop a:=by
 have h1:(cur.take (a+m)++xs.drop a++cur.drop (a+m+(l-a))).take a=xs.take a:=by
  rw[List.append_assoc,List.take_append_of_le_length (by simp;omega),List.take_take,Nat.min_eq_left (by omega),<-hx,List.take_take,Nat.min_eq_left ha]
 have h2:(cur.take (a+m)++xs.drop a++cur.drop (a+m+(l-a))).drop (a+m)=xs.drop a++cur.drop (a+m+(l-a)):=by
  rw[List.append_assoc,List.drop_append_of_le_length (by simp;omega),List.drop_of_length_le (by simp;omega),List.nil_append]
 rw[h1,h2,<-List.append_assoc,List.take_append_of_le_length (by simp;omega),List.take_of_length_le (by simp;omega)]
theorem yU (w:World):(Go.sizeOf 167).run Tryz.prog w= .ok 2 w:=by kernel_rfl
theorem qT (base g n cap i vb:Nat) (xs:List Value) (l:Lab) (w:World) (hown:w.ownsRow base 167 2 (.slice (some ⟨g,0,none⟩) n cap) n xs) (hi:i<n) (hr:n+1<=cap) (hn:n<=200) (hp:tl xs)
  (hv:BK w vb (.cells #[.string l.1,.string l.2] 167 (0,0))) (hne:vb≠g):
  Calls Tryz.prog 173 #[.slice (some ⟨g,0,none⟩) n cap,.int .i64 i,.slice (some ⟨vb,0,none⟩) 1 1] w fun e w'=>e= .returned (.slice (some ⟨g,0,none⟩) (n+1) cap)/\
   w'.ownsRow base 167 2 (.slice (some ⟨g,0,none⟩) (n+1) cap) (n+1) (xs.take (i*2)++[.string l.1,.string l.2]++xs.drop (i*2))/\Ex [g] w w':=by
 obtain⟨t0,hti,hzz0,hzz1,hzz2⟩:=info_parts kU
 have hlen:=hown.1
 obtain⟨cur,hbg,hg,hcm,hcs,htake⟩:∃cur,base<=g/\BK w g (.cells cur 167 (0,0))/\cap<=maxLen/\cur.size=cap*2/\cur.toList.take (n*2)=xs:=by
  rcases hown.2 with⟨h,_⟩|⟨g',cap',cur,h,hbg,hg,hnc,hcm,hcs,htake⟩
  ·cases h
  ·cases h;exact⟨cur,hbg,hg,hcm,hcs,htake⟩
 have hcm':cap<=9223372036854775807:=hcm
 have hov:∀lb cb,(callFunc 213 #[.slice (some ⟨vb,0,none⟩) 1 1,.slice (some ⟨g,(i+1)*2,none⟩) lb cb]).run Tryz.prog w= .ok (.value (.bool false)) w:=fun lb cb=>by
  rw[run_callFunc_extern Tryz.func213 (by kernel_rfl) (by kernel_rfl) (by kernel_rfl) (e:=Extern.SlicesOverlaps.overlaps #[41,41] #[4]) (by kernel_rfl),
   Lib.run_overlaps_apart w 41 4 167 Tryz.underlying41 2 yU ⟨vb,0,none⟩ ⟨g,(i+1)*2,none⟩ 1 1 lb cb hne 167 167 2 (cap*2) (by unfold World.shape?;rw[show w.heap[vb]? =_ from hv];rfl) (by unfold World.shape?;rw[show w.heap[g]? =_ from hg];simp[hcs]) (by omega) (hv.all.2 0) (hv.all.2 2)]
  rfl
 have hcp1:=fu (P:=Tryz.prog) w.drew 41 41 3 167 t0 2 g ((i+1)*2) (n+1-(i+1)) (cap-(i+1)) ⟨g,i*2,none⟩ (n+1-i) (cap-i) (n-i) cur 167 (xs.drop (i*2))
  Tryz.underlying41 hti hzz1 hg.drew (by simp only[Nat.min_def];split<;>omega) (by rw[List.length_drop,hlen];omega)
  (fun j u hj=>by rw[Addr.add_lit];exact jv hown.drew (by rwa [List.getElem?_drop]at hj)) (by rw[List.length_drop,hlen,hcs];omega) (fun u hu=>hp u (List.mem_of_mem_drop hu))
 obtain⟨w1,hw1⟩:=exq (w.drew.setRow g (cur.toList.take ((i+1)*2)++xs.drop (i*2)++cur.toList.drop ((i+1)*2+(xs.drop (i*2)).length)).toArray)
 rw[<-hw1]at hcp1
 rw[show n+1-(i+1)=n-i by omega]at hcp1
 have hg1:BK w1 g (.cells (cur.toList.take ((i+1)*2)++xs.drop (i*2)++cur.toList.drop ((i+1)*2+(xs.drop (i*2)).length)).toArray 167 (0,0)):=by rw[hw1];exact setRow_heap _ _ _ _ _ _ hg.drew
 have hv1:BK w1 vb (.cells #[.string l.1,.string l.2] 167 (0,0)):=by rw[hw1];unfold BK;rw[setRow_other _ _ _ _ hne];exact hv.drew
 have hcp2:=fu (P:=Tryz.prog) w1 41 41 3 167 t0 2 g (i*2) (n+1-i) (cap-i) ⟨vb,0,none⟩ 1 1 1 _ 167 [.string l.1,.string l.2]
  Tryz.underlying41 hti hzz1 hg1 (by simp only[Nat.min_def];split<;>omega) rfl
  (fun j u hj=>by rw[Addr.add_lit,Nat.zero_add,hv1.all.1];simpa using hj) (by simp[hlen,hcs];omega) (by simp[Value.oneCell'])
 have HX1:Hid (Ex [g] w w1):=aa (by rw[hw1];exact ((Ex.refl _ _).drew).setRow (.inl (by simp)) _)
 have HO:=aa hown
 have HG1:=aa hg1
 have HT:=aa htake
 have HCS:=aa hcs
 have HL:=aa hlen
 have hbg':=hbg
 have h1:(i:Int)<(n:Int):=by omega
 have h2:¬((i:Int)=(n:Int)):=by omega
 have h3:¬((cap:Int)<(n:Int)+1):=by omega
 have h4:(n:Int)+1<=(cap:Int):=by omega
 have h5:(i:Int)+1<=(n:Int)+1:=by omega
 have h6:((i:Int)+1).toNat=i+1:=by omega
 have h7:((n:Int)+1).toNat=n+1:=by omega
 have h8:¬cap=i+1:=by omega
 have h9:¬cap=i:=by omega
 have h10:i+1<=n+1:=by omega
 have h11:(0:Int)<=(i:Int)+1:=by omega
 have h12:(0:Int)<=(n:Int)+1:=by omega
 have h13:(i:Int)<=(n:Int)+1:=by omega
 have h14:i<=n+1:=by omega
 have h15:IntKind.i64.wrap ((i:Int)+1)=(i:Int)+1:=by rw[IntKind.wrap_i64];omega
 have h16:(i:Int)<=(n:Int):=by omega
 have h17:i<=n:=by omega
 clear hown hv hg hg1 hv1 hw1 htake hcs hlen hcm hp
 go_enter Tryz.func173,Tryz.ntmps173
 go_wp2_with (simp only[hov])
 go_region_law (refine iG rfl _ _ 41 41 rfl (.slice (some ⟨g,(i+1)*2,none⟩) (n-i) (cap-(i+1))) (.slice (some ⟨g,i*2,none⟩) (n+1-i) (cap-i)) (by simp[Act.eval,Act.put]) (by simp[Act.eval,Act.put]) hcp1 ?_)
 obtain⟨w2,hw2⟩:=exq (w1.setRow g ((cur.toList.take ((i+1)*2)++xs.drop (i*2)++cur.toList.drop ((i+1)*2+(xs.drop (i*2)).length)).take (i*2)++[Value.string l.1,Value.string l.2]++(cur.toList.take ((i+1)*2)++xs.drop (i*2)++cur.toList.drop ((i+1)*2+(xs.drop (i*2)).length)).drop (i*2+[Value.string l.1,.string l.2].length)).toArray)
 have hcp2':=hcp2
 rw[<-hw2]at hcp2'
 have HW2:=aa hw2
 clear hcp1 hcp2 hw2
 go_wp2_with (at_builtin;refine gG _ rfl _ _ 41 41 rfl _ _ rfl rfl hcp2' ?_)
 go_ret
 have hfr:=yq (xs:=xs) (new:=[Value.string l.1,.string l.2]) (cur:=cur.toList) (a:=i*2) (l:=n*2) (m:=2) HT.O HL.O (by omega) rfl (by rw[Array.length_toList,HCS.O];omega)
 have hdl:(xs.drop (i*2)).length=n*2-i*2:=by rw[List.length_drop,HL.O]
 refine⟨rfl,⟨?_,.inr ⟨g,cap,_,rfl,hbg',by rw[af HW2];exact setRow_heap _ _ _ _ _ _ HG1.O,hr,hcm',?_,?_⟩⟩,?_⟩
 ·have:=HL.O
  simp;omega
 ·have:=HL.O
  have:=HCS.O
  simp;omega
 ·rw[List.toList_toArray,hdl,show (i+1)*2=i*2+2 by omega,show (n+1)*2=n*2+2 by omega]
  exact hfr
 ·rw[af HW2]
  exact HX1.O.setRow (.inl (by simp)) _
theorem wi {new zs rest:List Value} {a l m:Nat} (hl:xs.length=l) (ha:a<=l) (hn:new.length=m) (hz:zs.length=l-a+m):
  ((xs.take a++zs++rest).take a++new++(xs.take a++zs++rest).drop (a+m)).take (a+m)++xs.drop a++((xs.take a++zs++rest).take a++new++(xs.take a++zs++rest).drop (a+m)).drop (a+m+(l-a))=xs.take a++new++xs.drop a++rest:=by
 have hta:(xs.take a).length=a:=by simp;omega
 have h1:(xs.take a++zs++rest).take a=xs.take a:=by
  rw[List.append_assoc,List.take_append_of_le_length (by omega),List.take_of_length_le (by omega)]
 have h2:(xs.take a++zs++rest).drop (a+m)=zs.drop m++rest:=by
  rw[List.append_assoc,List.drop_append,List.drop_of_length_le (by omega),List.nil_append,hta,Nat.add_sub_cancel_left,List.drop_append_of_le_length (by omega)]
 rw[h1,h2]
 have h3:(xs.take a++new++(zs.drop m++rest)).take (a+m)=xs.take a++new:=by
  rw[List.take_append_of_le_length (by simp;omega),List.take_of_length_le (by simp;omega)]
 have h4:(xs.take a++new++(zs.drop m++rest)).drop (a+m+(l-a))=rest:=by
  rw[<-List.append_assoc,List.drop_append,List.drop_of_length_le (by simp;omega),List.nil_append]
  have:a+m+(l-a)-(xs.take a++new++zs.drop m).length=0:=by simp;omega
  rw[this,List.drop_zero]
 rw[h3,h4]
theorem iH (z:Array Value) (n:Nat):(Builtin.zeroCells z n).size=n*z.size:=by simp[Builtin.zeroCells]
theorem qS (base g n i vb:Nat) (xs:List Value) (l:Lab) (w:World) (hown:w.ownsRow base 167 2 (.slice (some ⟨g,0,none⟩) n n) n xs) (hi:i<n) (hn:n<=200) (hp:tl xs) (hb:base<=w.heap.size)
  (hv:BK w vb (.cells #[.string l.1,.string l.2] 167 (0,0))):
  Calls Tryz.prog 173 #[.slice (some ⟨g,0,none⟩) n n,.int .i64 i,.slice (some ⟨vb,0,none⟩) 1 1] w fun e w'=>∃G,e= .returned (.slice (some ⟨w.heap.size,0,none⟩) (n+1) G)/\
   w'.ownsRow base 167 2 (.slice (some ⟨w.heap.size,0,none⟩) (n+1) G) (n+1) (xs.take (i*2)++[.string l.1,.string l.2]++xs.drop (i*2))/\Ex [] w w':=by
 obtain⟨t0,hti,hzz0,hzz1,hzz2⟩:=info_parts kU
 have hlen:=hown.1
 have hgl:g<w.heap.size:=(hown.lt g rfl).2
 have hvl:=hv.lt
 have hown':w.ownsRow base 167 t0.size (.slice (some ⟨g,0,none⟩) n n) n xs:=by rw[hzz1];exact hown
 have hless:w.ownsRow base 167 t0.size (.slice (some ⟨g,0,none⟩) i n) i (xs.take (i*2)):=by rw[hzz1];exact mq hown (by omega)
 have hap:=gI (P:=Tryz.prog) w 41 3 41 167 t0 _ .i64 .i64 Tryz.underlying41 Tryz.underlying3 hti hzz0 base g i n (n+1-i) (xs.take (i*2)) hless (by omega) (by rw[hzz1];decide) (by omega) hn (by omega) (by rw[hzz2];decide)
 rw[show i+(n+1-i)=n+1 by omega]at hap
 obtain⟨G,hG⟩:∃G,grownCap w (n+1) n 167=G:=⟨_,rfl⟩
 have hGge:n+1<=G:=by rw[<-hG];exact grownCap_ge _ _ _ _
 have hGle:G<=maxLen:=by rw[<-hG];exact grownCap_le_maxLen _ _ _ _ (by unfold maxLen;omega)
 have hGle':G<=9223372036854775807:=hGle
 rw[hG]at hap
 obtain⟨Z,hZ⟩:=exq (Builtin.zeroCells (Value.agg #[.string ⟨#[]⟩,.string ⟨#[]⟩]).cells (n+1-i))
 obtain⟨Y,hY⟩:=exq (Builtin.zeroCells (Value.agg #[.string ⟨#[]⟩,.string ⟨#[]⟩]).cells (G-(n+1)))
 have hZl:Z.toList.length=n*2-i*2+2:=by rw[hZ,Array.length_toList,iH];show (n+1-i)*2=_;omega
 have hYl:Y.toList.length=(G-(n+1))*2:=by rw[hY,Array.length_toList,iH];rfl
 rw[<-hZ,<-hY]at hap
 obtain⟨w1,hw1⟩:=exq (w.drew.alloc (.cells ((xs.take (i*2)).toArray++Z++Y) 167))
 rw[<-hw1]at hap
 obtain⟨C1,hC1⟩:=exq ((xs.take (i*2)).toArray++Z++Y)
 have hC1l:C1.toList=xs.take (i*2)++Z.toList++Y.toList:=by rw[hC1];simp
 have hC1s:C1.size=G*2:=by rw[<-Array.length_toList,hC1l];simp[hlen]at*;omega
 have hb1:BK w1 w.heap.size (.cells C1 167 (0,0)):=by rw[hw1,hC1];exact BK.new _ _
 have hv1:BK w1 vb (.cells #[.string l.1,.string l.2] 167 (0,0)):=by rw[hw1];exact hv.drew.alloc _
 have hx1:Ex [] w w1:=by rw[hw1];exact ((Ex.refl _ _).drew).alloc _
 have ho1:w1.ownsRow base 167 2 (.slice (some ⟨g,0,none⟩) n n) n xs:=by rw[hw1];exact hown.drew.alloc _
 have hcp1:=fu (P:=Tryz.prog) w1 41 41 3 167 t0 2 w.heap.size (i*2) (n+1-i) (G-i) ⟨vb,0,none⟩ 1 1 1 C1 167 [.string l.1,.string l.2]
  Tryz.underlying41 hti hzz1 hb1 (by simp only[Nat.min_def];split<;>omega) rfl
  (fun j u hj=>by rw[Addr.add_lit,Nat.zero_add,hv1.all.1];simpa using hj) (by simp[hC1s];omega) (by simp[Value.oneCell'])
 obtain⟨C2,hC2⟩:=exq (C1.toList.take (i*2)++[Value.string l.1,Value.string l.2]++C1.toList.drop (i*2+[Value.string l.1,Value.string l.2].length))
 rw[<-hC2]at hcp1
 obtain⟨w2,hw2⟩:=exq (w1.setRow w.heap.size C2.toArray)
 rw[<-hw2]at hcp1
 have hC2s:C2.toArray.size=G*2:=by rw[hC2];simp[hC1s];omega
 have hb2:BK w2 w.heap.size (.cells C2.toArray 167 (0,0)):=by rw[hw2];exact setRow_heap _ _ _ _ _ _ hb1
 have hx2:Ex [] w w2:=by rw[hw2];exact hx1.setRow (.inr (Nat.le_refl _)) _
 have ho2:w2.ownsRow base 167 2 (.slice (some ⟨g,0,none⟩) n n) n xs:=by
  rw[hw2]
  exact gx ho1 ((Ex.refl _ _).setRow (l:=[w.heap.size]) (.inl (by simp)) _) (fun k hk=>by cases hk;simp;omega)
 have hcp2:=fu (P:=Tryz.prog) w2.drew 41 41 3 167 t0 2 w.heap.size ((i+1)*2) (n-i) (G-(i+1)) ⟨g,i*2,none⟩ (n-i) (n-i) (n-i) C2.toArray 167 (xs.drop (i*2))
  Tryz.underlying41 hti hzz1 hb2.drew (by simp only[Nat.min_def];split<;>omega) (by rw[List.length_drop,hlen];omega)
  (fun j u hj=>by rw[Addr.add_lit];exact jv ho2.drew (by rwa [List.getElem?_drop]at hj)) (by rw[List.length_drop,hlen,hC2s];omega) (fun u hu=>hp u (List.mem_of_mem_drop hu))
 obtain⟨w3,hw3⟩:=exq (w2.drew.setRow w.heap.size (C2.toArray.toList.take ((i+1)*2)++xs.drop (i*2)++C2.toArray.toList.drop ((i+1)*2+(xs.drop (i*2)).length)).toArray)
 rw[<-hw3]at hcp2
 have hb3:BK w3 w.heap.size (.cells (C2.toArray.toList.take ((i+1)*2)++xs.drop (i*2)++C2.toArray.toList.drop ((i+1)*2+(xs.drop (i*2)).length)).toArray 167 (0,0)):=by rw[hw3];exact setRow_heap _ _ _ _ _ _ hb2.drew
 have hx3:Ex [] w w3:=by rw[hw3];exact hx2.drew.setRow (.inr (Nat.le_refl _)) _
 have hrow:(C2.toArray.toList.take ((i+1)*2)++xs.drop (i*2)++C2.toArray.toList.drop ((i+1)*2+(xs.drop (i*2)).length))=xs.take (i*2)++[.string l.1,.string l.2]++xs.drop (i*2)++Y.toList:=by
  have h:=wi (xs:=xs) (new:=[Value.string l.1,.string l.2]) (zs:=Z.toList) (rest:=Y.toList) (a:=i*2) (l:=n*2) (m:=2) hlen (by omega) rfl hZl
  rw[List.toList_toArray,hC2,hC1l,List.length_drop,hlen,show (i+1)*2=i*2+2 by omega]
  exact h
 rw[hrow]at hb3
 have HB3:=aa hb3
 have HX3:=aa hx3
 have HYL:=aa hYl
 have HL:=aa hlen
 have hC:¬((i:Int)=(n:Int)):=by omega
 have h1:(i:Int)<(n:Int):=by omega
 have h3:(n:Int)<(n:Int)+1:=by omega
 have h4:i<=n:=by omega
 have h5:(i:Int)<=(n:Int)+1:=by omega
 have h6:((i:Int)+1).toNat=i+1:=by omega
 have h8:¬G=i:=by omega
 have h9:¬G=i+1:=by omega
 have h10:¬n=i:=by omega
 have h11:(0:Int)<=(i:Int)+1:=by omega
 have h12:i<=n+1:=by omega
 have h15:IntKind.i64.wrap ((i:Int)+1)=(i:Int)+1:=by rw[IntKind.wrap_i64];omega
 have h16:(i:Int)<=(n:Int):=by omega
 have h17:IntKind.i64.wrap ((n:Int)+1-(i:Int))=((n+1-i:Nat):Int):=by rw[IntKind.wrap_i64];omega
 have h18:(n:Int)+1-(i:Int)=((n+1-i:Nat):Int):=by omega
 clear hown hown' hless hv hv1 hb1 hx1 ho1 hb2 hx2 ho2 hb3 hx3 hw1 hw2 hw3 hC1 hC1l hC1s hC2 hC2s hZ hY hZl hYl hlen hp hrow hG
 go_enter Tryz.func173,Tryz.ntmps173
 go_wp2_with (first
  |(at_builtin;refine Lib.wpList_append_run _ rfl _ _ 41 3 rfl _ _ rfl rfl _ _ hap ?_)
  |(at_builtin;refine gG _ rfl _ _ 41 41 rfl _ _ rfl rfl hcp1 ?_))
 go_region_law (refine iG rfl _ _ 41 41 rfl (.slice (some ⟨w.heap.size,(i+1)*2,none⟩) (n-i) (G-(i+1))) (.slice (some ⟨g,i*2,none⟩) (n-i) (n-i)) (by simp[Act.eval,Act.put]) (by simp[Act.eval,Act.put]) hcp2 ?_)
 go_wp2_with fail
 go_ret
 have hyl:=af HYL
 have hl:=af HL
 refine⟨G,rfl,⟨by simp;omega,.inr ⟨w.heap.size,G,_,rfl,hb,HB3.O,hGge,hGle,?_,?_⟩⟩,HX3.O⟩
 ·rw[List.size_toArray,List.length_append,hyl]
  simp
  omega
 ·rw[List.toList_toArray,List.take_append_of_le_length (by simp;omega),List.take_of_length_le (by simp;omega)]
theorem om (base n i vb:Nat) (v:Value) (xs:List Value) (l:Lab) (w:World) (hown:w.ownsRow base 167 2 v n xs) (hi:i<=n) (hn:n<=200) (hp:tl xs) (hb:base<=w.heap.size)
  (hv:BK w vb (.cells #[.string l.1,.string l.2] 167 (0,0))) (hne:v.ownBlock≠some vb):
  Calls Tryz.prog 173 #[v,.int .i64 i,.slice (some ⟨vb,0,none⟩) 1 1] w fun e w'=>∃v',e= .returned v'/\
   w'.ownsRow base 167 2 v' (n+1) (xs.take (i*2)++[.string l.1,.string l.2]++xs.drop (i*2))/\Ex v.ownBlock.toList w w'/\(v'.ownBlock=v.ownBlock\/v'.ownBlock=some w.heap.size):=by
 by_cases hin:i=n
 ·subst hin
  refine (oh base i vb v xs l w hown (by omega) hb hv).mono ?_
  rintro e w' ⟨v',rfl,ho,hg,hl⟩
  refine⟨v',rfl,?_,(Ex.refl _ _).grown hg (fun k hk=> .inl (by rw[hk];simp)),hl.imp Eq.symm id⟩
  rw[List.take_of_length_le (by rw[hown.1];exact Nat.le_refl _),List.drop_of_length_le (by rw[hown.1];exact Nat.le_refl _),List.append_nil]
  exact ho
 ·rcases hown.2 with⟨_,h0⟩|⟨g,cap,cur,rfl,hbg,hg,hnc,hcm,hcs,ht⟩
  ·omega
  by_cases hr:n+1<=cap
  ·refine (qT base g n cap i vb xs l w hown (by omega) hr hn hp hv (fun e=>hne (by rw[e];rfl))).mono ?_
   rintro e w' ⟨rfl,ho,hx⟩
   exact⟨_,rfl,ho,hx,.inl rfl⟩
  ·obtain rfl:cap=n:=by omega
   refine (qS base g cap i vb xs l w hown (by omega) hn hp hb hv).mono ?_
   rintro e w' ⟨G,rfl,ho,hx⟩
   exact⟨_,rfl,ho,hx.drop (by simp),.inr rfl⟩
abbrev aB (ls:List Lab):List Value:=ls.flatMap fun l=>[.string l.1,.string l.2]
theorem r9 (ls:List Lab) (l:Lab):aB ls++[.string l.1,.string l.2]=aB (ls++[l]):=by simp[aB]
theorem LS.mk' {q base n:Nat} {ls:List Lab} (hlt:q<base) (hle:base<=w.heap.size) (hb:BK w q (.cells #[v] 250 (0,0)))
  (ho:w.ownsRow base 167 2 v n xs) (hn:n=ls.length) (hx:xs=aB ls):LS w q base ls:=by
 subst hn;subst hx;exact⟨hlt,hle,v,hb,ho⟩
theorem eG (q base:Nat) (ls:List Lab) (a v:ByteArray) (w:World) (hq:LS w q base ls) (hn:ls.length<60) (hsrt:eI ls a) (hp:fO ls a=ls.length) (hv0:¬v.size=0) (hv:v.size<=200):
  Calls Tryz.prog 119 #[.pointer (some ⟨q,0,none⟩),.string a,.string v] w fun e w'=>e= .returned (.tuple #[])/\LS w' q base (ls++[(a,v)])/\EB base [q] w w':=by
 have ht:eu ls a=false:=by simp[eu,hp]
 have HQ:=aa hq
 have HS:=aa hsrt
 have hqb:=hq.lt
 have hle:=hq.le
 have hem:=bD hv0
 clear hq hsrt
 go_enter Tryz.func119,Tryz.ntmps119
 go_wp2_with fail
 refine (wk q base ls a _ HQ.O (by omega) HS.O).mono ?_
 rintro e w1 ⟨rfl,hx1⟩
 rw[ht,hp]
 have hb1:∃v0,BK w1 q (.cells #[v0] 250 (0,0))/\w1.ownsRow base 167 2 v0 ls.length (aB ls):=by
  obtain⟨v0,hb,ho⟩:=HQ.O.ex
  exact⟨v0,hb.ex hx1 (by simp),aU ho hx1 (by simp)⟩
 obtain⟨v0,hb1,ho1⟩:=hb1
 have hz1:=hx1.size
 have HX1:=aa hx1
 have HB1:=aa hb1
 have HO1:=aa ho1
 have hql:=hb1.lt
 obtain⟨p,c,rfl⟩:=aA ho1
 obtain⟨hc,hf⟩:=hb1.all
 clear hx1 hb1 ho1 ht hp
 have hn':¬((ls.length:Int)=60):=by omega
 have hn'':((ls.length:Int)==60)=false:=by simpa using hn'
 go_wp2_with fail
 go_region_with (first
  |(go_at_call 174;refine (nP v _ hv).mono ?_;rintro e w2 ⟨rfl,rfl⟩)
  |(go_at_call 173;refine (oh base ls.length w1.heap.size _ (aB ls) (a,v) _ (HO1.O.drew.alloc _) (by omega) (by simp;omega) ((BK.new _ _))).mono ?_;rintro e w3 ⟨v3,rfl,ho3,hg3,hl3⟩;obtain⟨p3,c3,rfl⟩:=aA ho3;have hb3:=BK.grown ((HB1.O.drew.alloc (Obj.cells #[.string a,.string v] 167))) hg3 (fun e=>by have h9:=aG HO1.O q e;omega);obtain⟨hc3,hf3⟩:=hb3.all))
 all_goals
  have HG3:=aa hg3
  have HO3:=aa ho3
  have HB3:=aa hb3
  clear hg3 ho3 hb3 hl3 hc hf hc3 hf3
  go_end0
  have hz3:w1.heap.size+1<=w3.heap.size:=by have:=HG3.O.size;simpa using this
  refine⟨rfl,LS.mk' hqb (by simp;omega) (BK.self HB3.O 0 _) (du HO3.O hqb _) (by simp) (r9 ls (a,v)),?_⟩
  exact (((((EB.ofEx HX1.O hle).mono (Nat.le_refl _) (by simp):EB base [q] w w1).drew.alloc (by simp;omega) _).grown HG3.O (by simp;omega) (fun k hk=> .inr (aG HO1.O k hk))).setCell (.inl (by simp)) _)
theorem i7 (ls:List Lab) (i:Nat):(aB ls).take (i*2)=aB (ls.take i):=by
 induction ls generalizing i with
 |nil=>simp[aB]
 |cons a r ih=>
  cases i with
  |zero=>simp[aB]
  |succ i=>
   have:=ih i
   simp only[aB,List.flatMap_cons,List.take_succ_cons,List.cons_append,List.nil_append]at this ⊢
   rw[show (i+1)*2=i*2+1+1 by omega,List.take_succ_cons,List.take_succ_cons,this]
theorem iL (ls:List Lab) (i:Nat):(aB ls).drop (i*2)=aB (ls.drop i):=by
 induction ls generalizing i with
 |nil=>simp[aB]
 |cons a r ih=>
  cases i with
  |zero=>simp[aB]
  |succ i=>
   have:=ih i
   simp only[aB,List.flatMap_cons,List.drop_succ_cons,List.cons_append,List.nil_append]at this ⊢
   rw[show (i+1)*2=i*2+1+1 by omega,List.drop_succ_cons,List.drop_succ_cons,this]
end Go.Proofs.YtfnanjbleifjkaaGreatDoor
