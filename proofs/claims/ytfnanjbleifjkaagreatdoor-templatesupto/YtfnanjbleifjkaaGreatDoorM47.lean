import Derived.Test.YtfnanjbleifjkaaGreatDoorM46
import Derived.Lib.LaidU8
import Derived.ProofKit
import Derived.MakeChecks
import Derived.OpenShut
import Derived.SliceStrings
import Derived.Deep.SlicePairs
import Derived.Test.YtfnanjbleifjkaaGreatDoorCards
import Derived.Test.YtfnanjbleifjkaaGreatDoorTie
import Derived.LaidMore
import Derived.Stop.Joined
set_option linter.unusedVariables false
set_option linter.unusedSimpArgs false
set_option maxHeartbeats 4000000
set_option maxRecDepth 100000
namespace Go.Proofs.YtfnanjbleifjkaaGreatDoor.G
variable {s t u:ByteArray}
open Go.RowKit
def iy (t s u:ByteArray):ByteArray×Int:=match bq t with
 |some _=>(⟨#[]⟩,4)
 |none=>match dN (gH t) s with
  |none=>(⟨#[]⟩,0)
  |some sl=>(nt (bH s (bv (s.size:Int) sl (kb t)) (nb t)) u,0)
theorem qB {k:Nat} (h:bq t=some k):iy t s u=(⟨#[]⟩,4):=by unfold iy;rw[h]
theorem tA (h:bq t=none) (hm:dN (gH t) s=none):iy t s u=(⟨#[]⟩,0):=by unfold iy;rw[h,hm]
theorem qC {sl:List Int} (h:bq t=none) (hm:dN (gH t) s=some sl):iy t s u=(nt (bH s (bv (s.size:Int) sl (kb t)) (nb t)) u,0):=by unfold iy;rw[h,hm]
theorem yo {q:Pt} {st:RS} (ht:t.size<=60) (hr:aX t= .ok q st) (hs:s.size<=1048576) {ms:Mk} (hm:ev (lR (b8 s s.size 0)) 0 [.ex (den q)]=some ms) {v:Value} {mb base:Nat} {W:World} (ho:W.ownsRow base 31 2 v (st.g+1) (bL (bv (s.size:Int) (app bh ms) st.g))) (hmb:BK W mb (.map (nmE st.nm) st.nm.length)):
  ∃g cap,v= .slice (some ⟨g,0,none⟩) (st.g+1) cap/\FD W s mb g (bv (s.size:Int) (app bh ms) st.g) st.nm:=by
 have hi:=tX hr
 have h5:=kh hr
 obtain⟨g,cap,rfl,_,hgl,_,hc,_⟩:=ij ho (by omega)
 refine⟨g,cap,rfl,hmb,fun x hx=>Nat.le_trans (hi.z1 x hx) ht,hi.un,fun x hx=>by have:=hi.no x hx;omega,hgl,fun j u hj=> ?_,by rw[iZ];omega,by omega,rL ht hr s hm⟩
 rw[hc j (by have:=(List.getElem?_eq_some_iff.1 hj).1;rw[<-ho.1];exact this)]
 exact hj
theorem uw (t s u:ByteArray) (k:Nat) (w:World) (hr:Calls Tryz.prog 20 #[.string t] w fun e w'=>e= .returned (.tuple #[.pointer none,.int .i64 (k:Int),.bool false])/\Ex [] w w'):
  Calls Tryz.prog 12 #[.string t,.string s,.string u] w fun e w'=>e= .returned (.tuple #[.string ⟨#[]⟩,.int .i64 4])/\Ex [] w w':=by
 have KR:=aa hr
 clear hr
 go_enter Tryz.func12,Tryz.ntmps12
 go_wp2_with fail
 refine KR.O.mono ?_
 rintro e w1 ⟨rfl,hx1⟩
 have HX1:=aa hx1
 clear hx1
 go_wp2_with fail
 refine bodyPost_ret (v:= .tuple #[.string ⟨#[]⟩,.int .i64 4]) (by simp[results,Tryz.results12,go_sem]) rfl ⟨rfl,HX1.O⟩
theorem yN {x:EV} {k:Nat} {w:World} (hev:w.cell? ⟨0,0,none⟩=some (.iface x.1 x.2)) (hk:bq t=some k):Calls Tryz.prog 20 #[.string t] w fun e w'=>e= .returned (.tuple #[.pointer none,.int .i64 (k:Int),.bool false])/\Ex [] w w':=by
 unfold bq at hk
 by_cases h60:60<t.size
 ·rw[if_pos h60]at hk
  cases hk
  exact lM h60
 ·rw[if_neg h60]at hk
  cases hr:aX t with
  |bad s'=>
   rw[hr]at hk
   cases hk
   exact nX hev (by omega) (NP.all t) hr
  |ok p s'=>
   rw[hr]at hk
   dsimp only at hk
   split at hk
   ·next hw=>
    cases hk
    exact kC hev (by omega) (NP.all t) hr (fP (by omega) hr).1 hw
   ·cases hk
theorem rT (t s u:ByteArray) (hs:s.size<=1048576) (hu:u.size<=1048576) (x:EV) (w:World) (hev:w.cell? ⟨0,0,none⟩=some (.iface x.1 x.2)) (hg:Lib.Utf8Tabs 2 3 w):
  Calls Tryz.prog 12 #[.string t,.string s,.string u] w fun e w'=>e= .returned (.tuple #[.string (iy t s u).1,.int .i64 (iy t s u).2])/\Ex [] w w':=by
 cases hp:bq t with
 |some k=>
  rw[qB hp]
  exact uw t s u k w (yN hev hp)
 |none=>
  obtain⟨q,st,hr,ht⟩:=rD hp
  have hgp:=sR hp
  have KR:=aa (zO hev hgp w (Ex.refl _ _))
  have HG:=aa hg
  have hf:=zz hgp
  have HF:=aa hf
  have hpok:POK q:=(fP ht hr).2.1
  have hmd:=ox q hpok s
  have e1:gH t=bB q:=by unfold gH;rw[hr]
  have e2:kb t=st.g:=by unfold kb;rw[hr]
  have e3:nb t=st.nm:=by unfold nb;rw[hr]
  obtain⟨m,hm⟩:=exq (dN (gH t) s)
  have hr0:m=none ->iy t s u=(⟨#[]⟩,0):=fun h=>tA hp (by rw[<-hm,h])
  have hr1:∀sl,m=some sl ->iy t s u=(nt (bH s (bv (s.size:Int) sl (kb t)) (nb t)) u,0):=fun sl h=>qC hp (by rw[<-hm,h])
  have hr2:∀sl,m=some sl ->∃ms,ev (lR (b8 s s.size 0)) 0 [.ex (den q)]=some ms/\sl=app bh ms:=fun sl h=>by
   rw[hm,e1,hmd]at h
   obtain⟨ms,a1,a2⟩:=Option.map_eq_some_iff.1 h
   exact⟨ms,a1,a2.symm⟩
  have HM:=aa hm
  have HR0:=aa hr0
  have HR1:=aa hr1
  have HR2:=aa hr2
  have HRD:=aa hr
  rw[e2,e3]at KR HR1
  rw[e2]at HF
  have h5:=kh hr
  clear hev hgp hg hf hm hr0 hr1 hr2 hpok hmd e2 e3 hp hr
  go_enter Tryz.func12,Tryz.ntmps12
  go_wp2_with fail
  refine KR.O.mono ?_
  rintro e w1 ⟨b,rfl,hpg,hx1⟩
  have KM:=aa (uy b w.heap.size (gH t) st.g st.nm s w1 hpg HF.O.ok HF.O.tk HF.O.le HF.O.pos HF.O.ng5 (by omega) (yW HG.O hx1))
  rw[<-HM.O]at KM
  have HX1:=aa hx1
  clear hpg hx1 e1
  go_wp2_with fail
  refine KM.O.mono ?_
  rintro e w2 ⟨hpost,hx2⟩
  have HX2:=aa (HX1.O.trans hx2)
  clear hx2
  cases m with
  |none=>
   obtain rfl:=hpost
   have HRZ:=aa (HR0.O rfl)
   go_wp2_with fail
   refine bodyPost_ret (v:= .tuple #[.string ⟨#[]⟩,.int .i64 0]) (by simp[results,Tryz.results12,go_sem]) rfl ⟨by rw[HRZ.O],?_⟩
   exact HX2.O.trans ((Ex.refl _ _).alloc _)
  |some sl=>
   obtain⟨v,mb,rfl,ho,hmb,_⟩:=hpost
   obtain⟨ms,hev2,rfl⟩:=HR2.O sl rfl
   obtain⟨g,cap,rfl,hfd⟩:=yo ht HRD.O hs hev2 ho hmb
   have HRZ:=aa (HR1.O _ rfl)
   have KT:=aa (fun o=>pI s mb g cap (bv (s.size:Int) (app bh ms) st.g) st.nm u (w2.alloc o) (hfd.ex ((Ex.refl _ _).alloc o)) hu)
   rw[iZ]at KT
   obtain⟨X,hX⟩:=exq (nt (bH s (bv (s.size:Int) (app bh ms) st.g) st.nm) u)
   rw[<-hX]at HRZ KT
   unfold pd
   clear ho hmb hfd hX hev2
   go_wp2_with fail
   refine (KT.O _).mono ?_
   rintro e w3 ⟨rfl,hx3⟩
   have HX3:=aa (HX2.O.trans (((Ex.refl _ _).alloc _).trans hx3))
   clear hx3
   go_wp2_with fail
   refine bodyPost_ret (v:= .tuple #[.string X,.int .i64 0]) (by simp[results,Tryz.results12,go_sem]) rfl ⟨by rw[HRZ.O],HX3.O⟩
theorem pU (t s u:ByteArray) (hs:s.size<=1048576) (hu:u.size<=1048576) (w:World):
  Calls Tryz.prog 13 #[.string t,.string s,.string u] w fun e w'=>e= .returned (.tuple #[.string (iy t s u).1,.int .i64 (iy t s u).2])/\Ex [] w w':=by
 have KR:=aa (vC t w)
 cases hp:bq t with
 |some k=>
  have HP:=aa hp
  rw[qB hp]
  clear hp
  go_enter Tryz.func13,Tryz.ntmps13
  go_wp2_with fail
  refine KR.O.mono ?_
  rintro e w1 ⟨h1,hx1,_⟩
  unfold bx at h1
  rw[HP.O]at h1
  dsimp only at h1
  subst h1
  have HX:=aa hx1
  clear hx1 KR
  go_wp2_with fail
  refine bodyPost_ret (v:= .tuple #[.string ⟨#[]⟩,.int .i64 4]) (by simp[results,Tryz.results13,go_sem]) rfl ⟨rfl,HX.O⟩
 |none=>
  obtain⟨q,st,hr,ht⟩:=rD hp
  have hpok:POK q:=(fP ht hr).2.1
  have hmd:=ox q hpok s
  have hmc:dN (gH t) s=(ev (lR (b8 s s.size 0)) 0 [.ex (den q)]).map (app bh):=by unfold gH;rw[hr];exact hmd
  have e2:kb t=st.g:=by unfold kb;rw[hr]
  have e3:nb t=st.nm:=by unfold nb;rw[hr]
  obtain⟨R,hR⟩:=exq (ev (lR (b8 s s.size 0)) 0 [.ex (den q)])
  rw[<-hR]at hmc
  have hr0:R=none ->iy t s u=(⟨#[]⟩,0):=fun h=>tA hp (by rw[hmc,h];rfl)
  have hr1:∀ms,R=some ms ->iy t s u=(nt (bH s (bv (s.size:Int) (app bh ms) st.g) st.nm) u,0):=fun ms h=>by
   rw[qC hp (sl:=app bh ms) (by rw[hmc,h];rfl),e2,e3]
  have HP:=aa hp
  have HRD:=aa hr
  have HR:=aa hR
  have HR0:=aa hr0
  have HR1:=aa hr1
  have h5:=kh hr
  have hni:=tX hr
  clear hp hr hpok hmd hmc e2 e3 hR hr0 hr1
  go_enter Tryz.func13,Tryz.ntmps13
  go_wp2_with fail
  refine KR.O.mono ?_
  rintro e w1 ⟨h1,hx1,hrx⟩
  unfold bx at h1
  rw[HP.O]at h1
  dsimp only at h1
  obtain⟨b,rfl⟩:=h1
  obtain⟨q',st',root,av,nv,ns,base,hr',_,hbk,hns,hnm,hnl,hXT⟩:=hrx b _ _ rfl
  rw[HRD.O]at hr'
  cases hr'
  have KM:=aa (o5 s hs ht HRD.O hbk hXT)
  rw[<-HR.O]at KM
  have HBK:=aa hbk
  have HXT:=aa hXT
  have HNS:=aa hns
  have HNM:=aa hnm
  have HNL:=aa hnl
  have HX1:=aa hx1
  clear hx1 hrx hbk hXT KR hns hnm hnl
  go_wp2_with fail
  refine KM.O.mono ?_
  rintro e w2 ⟨rfl,hx2⟩
  have HX2:=aa hx2
  clear hx2 KM
  cases R with
  |none=>
   have HRZ:=aa (HR0.O rfl)
   go_wp2_with fail
   refine bodyPost_ret (v:= .tuple #[.string ⟨#[]⟩,.int .i64 0]) (by simp[results,Tryz.results13,go_sem]) rfl ⟨by rw[HRZ.O],HX1.O.trans HX2.O⟩
  |some ms=>
   have HRZ:=aa (HR1.O ms rfl)
   have KS:=aa (sm s hs ht HRD.O (HBK.O.ex HX2.O (by simp)) (HXT.O.ex HX2.O) HR.O.symm)
   go_wp2_with fail
   refine KS.O.mono ?_
   rintro e w3 ⟨⟨v,rfl,ho⟩,hx3⟩
   have hx23:=HX2.O.trans hx3
   have hll:(bv (s.size:Int) (app bh ms) st.g).length=st.g+1:=iZ _ _ _
   have KB:=aa (uH (bH s (bv (s.size:Int) (app bh ms) st.g) st.nm) s u (bv (s.size:Int) (app bh ms) st.g) ns (fun a ha _=>qN s _ a hni HNM.O ha) (HBK.O.ex hx23 (by simp)) (aU HNS.O hx23 (by simp)) (by rw[hll];exact ho) (by have:=HNL.O;omega) (by omega) (by omega) (rL ht HRD.O s HR.O.symm) hs hu (fun a=>Nat.le_trans (mE s _ st.nm a) hs))
   have hte:(⟨(fm (bH s (bv (s.size:Int) (app bh ms) st.g) st.nm) u).toArray⟩:ByteArray)=nt (bH s (bv (s.size:Int) (app bh ms) st.g) st.nm) u:=rfl
   rw[hte]at KB
   obtain⟨X,hX⟩:=exq (nt (bH s (bv (s.size:Int) (app bh ms) st.g) st.nm) u)
   rw[<-hX]at HRZ KB
   have HX3:=aa (HX1.O.trans hx23)
   clear hx3 ho KS hx23 hll hte hX
   go_wp2_with fail
   refine KB.O.mono ?_
   rintro e w4 ⟨rfl,hx4⟩
   have HX4:=aa (HX3.O.trans hx4)
   clear hx4
   go_wp2_with fail
   refine bodyPost_ret (v:= .tuple #[.string X,.int .i64 0]) (by simp[results,Tryz.results13,go_sem]) rfl ⟨by rw[HRZ.O],HX4.O⟩
theorem vg (s:ByteArray) (w:World) (hs:s.size<=1048576):
  Calls Tryz.prog 14 #[.string s] w fun e w'=>e= .returned (.int .u64 (lQ s))/\w'=w:=by
 have K:=aa (wJ s w (by omega))
 obtain⟨H,hH⟩:=exq (lQ s)
 rw[<-hH]at K ⊢
 clear hH
 go_enter Tryz.func14,Tryz.ntmps14
 go_wp2_with fail
 refine K.O.mono ?_
 rintro e w1 ⟨rfl,rfl⟩
 clear K
 go_wp2_with fail
 go_ret
 exact⟨rfl,rfl⟩
theorem templatesLaw_any (t s u:ByteArray) (hs:s.size<=1048576) (hu:u.size<=1048576) (x:EV) (w:World) (hev:w.cell? ⟨0,0,none⟩=some (.iface x.1 x.2)) (hg:Lib.Utf8Tabs 2 3 w):
  Calls Tryz.prog 4 #[.string t,.string s,.string u] w fun e w'=>e= .returned (.bool true)/\Ex [] w w':=by
 have K1:=aa (rT t s u hs hu x w hev hg)
 have K2:=aa (fun W=>pU t s u hs hu W)
 have K3:=aa (fun W=>vg s W hs)
 have K4:=aa (fun W=>yO s W (by omega))
 obtain⟨X,hX⟩:=exq ((iy t s u).1)
 obtain⟨c,hc⟩:=exq ((iy t s u).2)
 obtain⟨H,hH⟩:=exq (lQ s)
 rw[<-hX,<-hc]at K1 K2
 rw[<-hH]at K3 K4
 clear hX hc hH hev hg
 go_enter Tryz.func4,Tryz.ntmps4
 go_wp2_with fail
 refine K1.O.mono ?_
 rintro e w1 ⟨rfl,hx1⟩
 have HX1:=aa hx1
 clear hx1 K1
 go_wp2_with fail
 refine (K2.O _).mono ?_
 rintro e w2 ⟨rfl,hx2⟩
 have HX2:=aa (HX1.O.trans hx2)
 clear hx2 K2
 go_wp2_with fail
 refine (K3.O _).mono ?_
 rintro e w3 ⟨rfl,rfl⟩
 clear K3
 go_wp2_with fail
 refine (K4.O _).mono ?_
 rintro e w3 ⟨rfl,hx3⟩
 have HX3:=aa (HX2.O.trans hx3)
 clear hx3 K4
 go_wp2_with fail
 refine (yF c _).mono ?_
 rintro e w4 ⟨rfl,rfl⟩
 go_wp2_with fail
 go_ret
 exact⟨rfl,HX3.O⟩
end Go.Proofs.YtfnanjbleifjkaaGreatDoor.G
namespace Go.Proofs.YtfnanjbleifjkaaGreatDoor
open Go.RowKit
theorem wM {H:Type} {enc:TypeId×Value ->H} {P:Program} {w:World} {base:Nat} {sp:Nat ->Bool} {held:Bool} {fuel:Nat} {t:TypeId} {cs:List Value} {n:String} {d:DataW H} {p:List MemPlace} (ht:∃ms,P.underlying t=some (.interface ms))
  (h:DataW.trod enc P w base sp held fuel t cs=some (.iface n d,p)):∃u v,cs=[.iface u v]:=by
 obtain⟨ms,ht⟩:=ht
 cases fuel with
 |zero=>simp[DataW.trod]at h
 |succ fuel=>
  unfold DataW.trod at h
  rw[ht]at h
  split at h<;>first|cases h|(rename_i heq;exact⟨_,_,rfl⟩)|simp_all
theorem qA {W : World} (h : Lib.VarReads Tryz.prog W "retag/regex.errForm" Rows.laid_retag_regex_errForm) : ∃ x : G.EV, W.cell? ⟨0, 0, none⟩ = some (.iface x.1 x.2) := by
 obtain⟨g,t,cs,fuel,p,hg,hty,hvar,hd⟩:=h
 obtain rfl : g = 0 := (Option.some.inj ((show Tryz.prog.globalNamed "retag/regex.errForm" = some 0 by kernel_rfl).symm.trans hg)).symm
 obtain rfl:t=144:=(Option.some.inj ((show (Tryz.prog.globals[0]?).map (·.type)=some 144 by kernel_rfl).symm.trans hty)).symm
 obtain⟨u,v,hcs⟩:=wM ⟨_,Tryz.underlying144⟩ hd
 refine⟨(u,v),?_⟩
 rw[World.var?_cell hg hvar 0,<-Array.getElem?_toList,hcs]
 rfl
end Go.Proofs.YtfnanjbleifjkaaGreatDoor
namespace Go.Proofs.YtfnanjbleifjkaaGreatDoor.G
open Go.RowKit
end Go.Proofs.YtfnanjbleifjkaaGreatDoor.G
namespace Go.Proofs.YtfnanjbleifjkaaGreatDoor
open Go.ChangeShapes Go.WideShapes Go.ChangeAt Go.ChangeMaps Go.RowKit
theorem lJ:Rows.laid_unicode_utf8_first=Lib.firstData:=by kernel_rfl
theorem uC:(Rows.laid_unicode_utf8_acceptRanges:DataW Unit)=Lib.acceptData:=by kernel_rfl
theorem qK {W : World} (h1 : Lib.VarReads Tryz.prog W "unicode/utf8.first" Rows.laid_unicode_utf8_first) (h2 : Lib.VarReads Tryz.prog W "unicode/utf8.acceptRanges" Rows.laid_unicode_utf8_acceptRanges) : Lib.Utf8Tabs 2 3 W := by
 rw[uC]at h2
 rw[lJ]at h1
 exact utf8Tabs_of_reads Tryz.lays260 ⟨by kernel_rfl,by kernel_rfl,by kernel_rfl,by kernel_rfl,by kernel_rfl,by kernel_rfl,by kernel_rfl⟩ h1 h2
theorem own:ownKnob Tryz.prog.godebug=none:=by kernel_rfl
theorem kQ (os:Os) (H:Type) (enc:TypeId×Value ->H):∃w0:World,w0.os=os/\(w0.forCall (fun _ _=>0) ⟨#[],#[.string ⟨#[]⟩,.string ⟨#[]⟩,.string ⟨#[]⟩],[]⟩).Shaped Tryz.prog/\
  Input.okWideB Tryz.prog (w0.forCall (fun _ _=>0) ⟨#[],#[.string ⟨#[]⟩,.string ⟨#[]⟩,.string ⟨#[]⟩],[]⟩) 4 ⟨#[],#[.string ⟨#[]⟩,.string ⟨#[]⟩,.string ⟨#[]⟩],[]⟩=true/\
  (∃places,DataW.whole enc Tryz.prog (w0.forCall (fun _ _=>0) ⟨#[],#[.string ⟨#[]⟩,.string ⟨#[]⟩,.string ⟨#[]⟩],[]⟩).memory Tryz.f4.params.toList Rows.templatesSpec.vars false #[Value.string ⟨#[]⟩,.string ⟨#[]⟩,.string ⟨#[]⟩].toList 8=some ([.lit (.string []),.lit (.string []),.lit (.string [])],[],places))/\
  Rows.templatesSpec.sizedB enc Tryz.prog Tryz.f4 false (w0.forCall (fun _ _=>0) ⟨#[],#[.string ⟨#[]⟩,.string ⟨#[]⟩,.string ⟨#[]⟩],[]⟩).memory #[.string ⟨#[]⟩,.string ⟨#[]⟩,.string ⟨#[]⟩] 8=true/\
  laidMetH Tryz.prog Rows.templatesUptoRow.laid (w0.forCall (fun _ _=>0) ⟨#[],#[.string ⟨#[]⟩,.string ⟨#[]⟩,.string ⟨#[]⟩],[]⟩).memory:=by
 refine⟨{World.doorLaid Tryz.prog 400 os with heap:=(World.doorLaid Tryz.prog 400 os).heap.modify 2 fun
   |.cells _ t frozen=> .cells ⟨Go.Pinned.utf8FirstZ.map fun (z:Nat)=> .int .u8 (z:Int)⟩ t frozen
   |o=>o},rfl,World.shaped_of_RefB (by kernel_rfl) (by kernel_rfl),by kernel_rfl,⟨[],by kernel_rfl⟩,by kernel_rfl,?_⟩
 exact laidMetH_of_parts3 (fuel:=8) (laidMet_of_run' 8 (by kernel_rfl) (by kernel_rfl)) (by kernel_rfl) (by kernel_rfl)
theorem mH {W:World} (h:laidMetH Tryz.prog Rows.templatesUptoRow.laid W):∃x:G.EV,W.cell? ⟨0,0,none⟩=some (.iface x.1 x.2)/\Lib.Utf8Tabs 2 3 W:=by
 rw[MakeChecks.laidMetH_plain _ _ _ (by kernel_rfl)]at h
 obtain ⟨x, hx⟩ := qA (Lib.laidMet.reads h (n := "retag/regex.errForm") (d := Rows.laid_retag_regex_errForm) (by simp [Rows.templatesUptoRow]))
 exact ⟨x, hx, qK (Lib.laidMet.reads h (n := "unicode/utf8.first") (d := Rows.laid_unicode_utf8_first) (by simp [Rows.templatesUptoRow])) (Lib.laidMet.reads h (n := "unicode/utf8.acceptRanges") (d := Rows.laid_unicode_utf8_acceptRanges) (by simp [Rows.templatesUptoRow]))⟩
end Go.Proofs.YtfnanjbleifjkaaGreatDoor
