import Derived.Test.YtfnanjbleifjkaaGreatDoorM18
import Derived.Lib.ItoaMem
set_option linter.unusedVariables false
set_option linter.unusedSimpArgs false
set_option maxHeartbeats 8000000
set_option maxRecDepth 100000
namespace Go.Proofs.YtfnanjbleifjkaaGreatDoor.G
open Go.RowKit
def pd (s:ByteArray) (v:Value) (mb:Nat):Value:= .agg #[.string s,v,.map (some mb)]
def ux (w:World) (s:ByteArray) (ng:Nat) (nm:List (ByteArray×Nat)) (m:Option (List Int)) (e:Ending) (w':World):Prop:=
 match m with
 |some sl=>∃v mb,e= .returned (.tuple #[pd s v mb,.bool true])/\w'.ownsRow w.heap.size 31 2 v (ng+1) (bL (bv s.size sl ng))/\BK w' mb (.map (nmE nm) nm.length)/\sl.length=10
 |none=>e= .returned (.tuple #[.agg #[.string ⟨#[]⟩,.slice none 0 0,.map none],.bool false])
theorem uy (q base:Nat) (code:List Ins) (ng:Nat) (nm:List (ByteArray×Nat)) (s:ByteArray) (w:World) (hp:PG w q base code ng nm) (hok:cZ code) (htk:eN code) (hcl:code.length<=100000) (hpos:0<code.length) (hng:ng<=5) (hs:s.size<=9223372036854775807) (hT:Lib.Utf8Tabs 2 3 w):
  Calls Tryz.prog 21 #[.pointer (some ⟨q,0,none⟩),.string s] w fun e w'=>ux w s ng nm (dN code s) e w'/\Ex [] w w':=by
 have HPG:=aa hp
 have HT:=aa hT
 have H1:=aa (sX s)
 have htl:=yX hT
 obtain⟨cg,cc,sp,sc,B,mb,hpx⟩:=hp.px hpos
 have HPX:=aa hpx
 have HOK:=aa hok
 have HTK:=aa htk
 obtain⟨res,hres⟩:=exq (dN code s)
 have HRES0:=aa hres
 rw[<-hres]
 clear hp hT hpx hok htk hres
 go_enter Tryz.func21,Tryz.ntmps21
 go_wp2_with fail
 refine (sL q base code ng nm _ (HPG.O.ex' ((Ex.refl _ _).alloc _)) hcl).mono ?_
 rintro e w1 ⟨u,gr,rfl,hgl,hgu,hul,hbu,hrc,hx1⟩
 simp only[World.size_alloc]at hgl
 have hx01:Ex [] w w1:=((Ex.refl _ _).alloc _).trans hx1
 have hz1:=hx01.size
 have hp1:=HPX.O.eb (EB.ofEx hx01 (Nat.le_refl _))
 have hfo:BK w1 w.heap.size (.cells #[.string ⟨#[]⟩,.slice none 0 0,.map none] 56 (0,0)):=(BK.new _ _).ex hx1 (by simp)
 obtain⟨l,hl⟩:=exq (bM code (0,0))
 obtain⟨ln,hln⟩:=exq (l.length)
 obtain⟨cn,hcn⟩:=exq (code.length)
 have hwk:=pO code HOK.O (0,0) hpos (by simp)
 have s1:w1.cell? ⟨q,1,none⟩=some (.slice sp ln sc):=by rw[hln,hl];exact hp1.blk.all.1 1
 have hwa:=hp1.start
 rw[<-hl,<-hcn]at hwk
 rw[<-hl]at hwa
 obtain⟨gw,hgw,hpa,hwc⟩:∃gw,gw<w.heap.size/\(wys l≠[] ->sp=some ⟨gw,0,none⟩)/\∀j,j<(wys l).length*2 ->w1.cell? ⟨gw,j,none⟩=(pN (wys l))[j]? :=by
  by_cases hnil:l=[]
  ·subst hnil
   exact⟨q,hp1.qt,fun h=>absurd rfl h,fun j hj=>by simp[wys]at hj⟩
  ·obtain⟨gw,h1,h2,h3⟩:=hwa hnil
   exact⟨gw,h2,fun _=>h1,fun j hj=>by rw[zh];exact h3 j (by rwa [io]at hj)⟩
 have hrc':BK w1 gr (.cells (bO (List.replicate cn (-1))).toArray 3 (0,0)):=by rw[hcn];exact hrc
 rw[<-hcn]at hbu
 have HX1:=aa hx01
 have HP1:=aa hp1
 have HU1:=aa hbu
 have HG1:=aa hrc'
 have HFO:=aa hfo
 have HPA:=aa hpa
 have HWC:=aa hwc
 have HWK:=aa hwk
 have HCN:=aa hcn
 have HL:=aa hl
 have HLN:=aa hln
 have hqt:=hp1.qt
 have hcl':cn<=100000:=by omega
 clear hx1 hx01 hp1 hfo hbu hrc hrc' hwa hwk hpa hwc hcn hl hln
 have hwl:l.length<=2*cn:=HWK.O.2
 have KF:=aa (fun (w2:World) (hx2:Ex [] w1.drew w2)=>lK u gr gw sc cn w1.heap.size sp 0 (.pointer (some ⟨q,0,none⟩)) (.slice none 0 0) (.slice none 0 0) w2 (List.replicate cn (-1)) [] (wys l) bh rfl (World.ownsRow_nil _ _ _ _) (HU1.O.drew.ex hx2 (by simp)) (HG1.O.drew.ex hx2 (by simp)) (by simp) hcl' (by rw[io];simp;omega) (mQ HWK.O.1) hul (by omega) (by omega) hx2.size HPA.O (fun j hj=>(hx2.cell0.1 gw j (show gw<w1.heap.size by omega)).trans (HWC.O j hj)) (by omega) (by omega) (by omega))
 rw[io,<-HLN.O]at KF
 go_wp2_with fail
 go_region_held3 (fun w'=>w'.cell? ⟨q,1,none⟩=some (.slice sp ln sc))
  (first|exact q3|exact q2|exact s1)
  (first
   |(go_at_call 52;refine (vu _).mono ?_;rintro e w2 ⟨rfl,hx2⟩;have q2:=(hx2.cell0.1 q 1 (show q<w1.heap.size by omega)).trans s1)
   |(go_at_call 51;refine (KF.O _ hx2).mono ?_;rintro e w3 ⟨rfl,nowV',hu3,ho3,hg3,hx3,hor3⟩;have q3:=(hx3.cell.1 q 1 (by have h0:w1.heap.size<=w2.heap.size:=hx2.size;omega) (by simp[Value.ownBlock];omega)).trans q2))
 have hz2:w1.heap.size<=w2.heap.size:=hx2.size
 have hz3:=hx3.size
 have e13:EB (w.heap.size+1) [] w1 w3:=(((EB.refl (w.heap.size+1) [] w1).drew).trans (EB.ofEx hx2 (show w.heap.size+1<=w1.heap.size by omega))).trans ((EB.ofEx hx3 (by omega)).mono (Nat.le_refl _) (fun x hx hlt=>by simp[Value.ownBlock]at hx;omega))
 have hfok:=eR bh rfl 0 cn (wys l) ([],List.replicate cn (-1)) (mQ HWK.O.1) (by simp) (fun _ h=>by simp at h) (by simp)
 obtain⟨st,hst⟩:=exq (aY bh 0 (wys l) ([],List.replicate cn (-1)))
 rw[<-hst]at hfok ho3 hg3
 have rn3:rU w3 u gr w1.heap.size q cn nowV' (.slice none 0 0) st.1 st.2:=⟨hu3,ho3,⟨0,[],World.ownsRow_nil _ _ _ _⟩,fun b _ h=>by simp[Value.ownBlock]at h,hg3,hfok.1,hfok.2.1,by have h1:=List.count_le_length (a:=(0:Int)) (l:=st.2);have h2:=hfok.2.2;have h3:=hfok.1;omega,hul,by omega,by omega,by omega⟩
 have hrm:mz code s s.size 0 st=res:=by rw[HRES0.O,hst,HL.O,HCN.O];rfl
 have E13:=aa e13
 have RN3:=aa rn3
 have HRM:=aa hrm
 have HPX':=aa (HP1.O.up (show w.heap.size<=w.heap.size+1 by omega))
 clear e13 rn3 hu3 ho3 hg3 hx3 hx2 hor3 q2 q3 s1 hfok hst hrm
 go_wp2_with fail
 go_loopg [7] s.size (fun gk at7 wr=>∃(a f:Nat) (nowV nextV:Value) (ts:List Th) (rc:List Int),a+gk=s.size/\at7= .int .i64 a/\gk<=f/\mz code s f a (ts,rc)=res/\rU wr u gr w1.heap.size q cn nowV nextV ts rc/\EB (w.heap.size+1) [] w1 wr)
 case atStart=>exact⟨0,s.size,_,_,st.1,st.2,by omega,rfl,by omega,HRM.O,RN3.O,E13.O⟩
 case round=>
  obtain⟨a,f,nowV,nextV,ts,rc,hga,rfl,hgf,hrun,hrn,heb⟩:=hrel
  have HRN:=aa hrn
  have HEB:=aa heb
  have HRUN:=aa hrun
  have hzr:w1.heap.size<=wr.heap.size:=heb.size
  clear hrn heb hrun
  cases gk with
  |zero=>
   obtain rfl:a=s.size:=by omega
   have hacc:cQ code ts=res:=by have h1:=HRUN.O;rw[xy]at h1;exact h1
   have hten:∀sl,res=some sl ->sl.length=10:=fun sl h=>lj code cn ts HRN.O.tok sl (by rw[hacc];exact h)
   have hpr:=HPX'.O.eb HEB.O
   have hrr:BK wr w.heap.size (.cells #[.string ⟨#[]⟩,.slice none 0 0,.map none] 56 (0,0)):=HFO.O.eb HEB.O (by omega) (by simp)
   obtain⟨p0,c0,hnv⟩:=aA HRN.O.now
   have hbr:=HRN.O.blk
   have hnow:=HRN.O.now
   rw[hnv]at hbr hnow
   have hpb:=hpr.blk
   have KA:=aa (oX code u q cg cc w1.heap.size p0 c0 nextV (.slice (some ⟨gr,0,none⟩) cn cn) _ _ _ _ ts wr hbr hpb (by have:=hpr.cgt;omega) hpr.cap hpr.cls hnow (by have:=HRN.O.tlen;omega) (fun t ht=>(HRN.O.tok t ht).1) (fun t ht=>by have:=(HRN.O.tok t ht).2;rw[<-HCN.O];exact this))
   rw[hacc]at KA
   have HTEN:=aa hten
   have HPR:=aa hpr
   have HRR:=aa hrr
   clear hga hacc hten hpr hrr hbr hnow hpb hnv hgf
   cases res with
   |some sl=>
    have hsl:=HTEN.O sl rfl
    obtain⟨y0,y1,y2,y3,y4,y5,y6,y7,y8,y9,hy⟩:=ten hsl
    subst hy
    go_wp2_with fail
    refine KA.O.mono ?_
    rintro e w4 ⟨rfl,hx4⟩
    have hr4:=HRR.O.ex hx4 (by simp)
    have hp4:=HPR.O.eb (EB.ofEx hx4 (by omega))
    have HX4:=aa hx4
    have HR4:=aa hr4
    have HP4:=aa hp4
    have hl4:=hr4.lt
    have hz4:=hx4.size
    have h90:=Tryz.underlying121
    have hs90:=pF [y0,y1,y2,y3,y4,y5,y6,y7,y8,y9] hsl
    clear hx4 hr4 hp4
    rw[show zk (some [y0,y1,y2,y3,y4,y5,y6,y7,y8,y9])= .tuple #[.agg #[.int .i64 y0,.int .i64 y1,.int .i64 y2,.int .i64 y3,.int .i64 y4,.int .i64 y5,.int .i64 y6,.int .i64 y7,.int .i64 y8,.int .i64 y9],.bool true]from rfl]
    go_wp2_with fail
    generalize hw5:World.alloc w4 _=w5
    have hx5:Ex [] w4 w5:=by rw[<-hw5];exact (Ex.refl _ _).alloc _
    have hb5:BK w5 w4.heap.size (.cells (bO [y0,y1,y2,y3,y4,y5,y6,y7,y8,y9]).toArray 121 (0,0)):=by rw[<-hw5];exact BK.new _ _
    have hp5:=HP4.O.eb (EB.ofEx hx5 (by omega))
    have t1:w5.rangeAt w4.heap.size 0 (bO [y0,y1,y2,y3,y4,y5,y6,y7,y8,y9]):=BK.rangeL hb5
    have t2:w5.cell? ⟨q,4,none⟩=some (.map (some mb)):=hp5.blk.all.1 4
    have hz5:=hx5.size
    have hl5:=hb5.lt
    have HX5:=aa hx5
    have HB5:=aa hb5
    have HP5:=aa hp5
    have HR5:=aa (HR4.O.ex hx5 (by simp))
    have KS:=aa (vn q _ _ _ _ ng hng [y0,y1,y2,y3,y4,y5,y6,y7,y8,y9] hsl (s.size:Int) w5.drew hp5.blk.drew)
    clear hw5 hx5 hb5 hp5
    go_region_held3 (fun w'=>w'.rangeAt w4.heap.size 0 (bO [y0,y1,y2,y3,y4,y5,y6,y7,y8,y9])/\w'.cell? ⟨q,4,none⟩=some (.map (some mb)))
     (first|exact⟨BK.rangeL (((hb6.set (by simp;omega) _).set (by simp;omega) _).set (by simp;omega) _),(((hq6.set (by simp;omega) _).set (by simp;omega) _).set (by simp;omega) _).all.1 4⟩|exact⟨BK.rangeL hb6,hq6.all.1 4⟩|exact⟨t1,t2⟩)
     (first
      |(go_at_call 56;refine KS.O.mono ?_;rintro e w6 ⟨v6,rfl,ho6,hx6⟩;obtain⟨p6,c6,rfl⟩:=aA ho6;have hb6:=HB5.O.drew.ex hx6 (by simp);have hq6:=HP5.O.blk.drew.ex hx6 (by simp);have hr6:=HR5.O.drew.ex hx6 (by simp);obtain⟨hc6,hf6⟩:=hr6.all))
    have HO6:=aa ho6
    have HX6:=aa hx6
    have HN6:=aa ((HP5.O.names.drew).ex hx6 (by simp))
    clear hb6 hq6 hr6 hx6 ho6 t1 t2 h90 hs90
    go_wp2_with fail
    refine bodyPost_ret (v:= .tuple #[pd s (.slice p6 (ng+1) c6) mb,.bool true]) (by simp[results,Tryz.results21,go_sem,hc6,pd]) rfl ⟨⟨.slice p6 (ng+1) c6,mb,rfl,?_,?_,hsl⟩,?_⟩
    ·have hmm:w.heap.size<w5.heap.size:=by omega
     have h1:w6.ownsRow w5.heap.size 31 2 (.slice p6 (ng+1) c6) (ng+1) (bL (bv s.size [y0,y1,y2,y3,y4,y5,y6,y7,y8,y9] ng)):=HO6.O
     exact dX (du (du (du h1 (by simpa using hmm) _) (by simpa using hmm) _) (by simpa using hmm) _) (by omega)
    ·have hm2:=HPX.O.mt
     exact ((HN6.O.set (by simp;omega) _).set (by simp;omega) _).set (by simp;omega) _
    ·repeat (refine Ex.setCell ?_ (Or.inr (by simp)) _)
     exact (EB.toEx ((EB.ofEx HX1.O (Nat.le_refl _)).trans (HEB.O.mono (by omega) (by simp)))).trans (HX4.O.trans (HX5.O.trans (((Ex.refl _ _).drew).trans HX6.O)))
   |none=>
    go_wp2_with fail
    refine KA.O.mono ?_
    rintro e w4 ⟨rfl,hx4⟩
    have hr4:=HRR.O.ex hx4 (by simp)
    obtain⟨hc4,hf4⟩:=hr4.all
    have HX4:=aa hx4
    have hl4:=hr4.lt
    clear hx4 hr4
    rw[show zk none= .tuple #[.agg #[.int .i64 0,.int .i64 0,.int .i64 0,.int .i64 0,.int .i64 0,.int .i64 0,.int .i64 0,.int .i64 0,.int .i64 0,.int .i64 0],.bool false]from rfl]
    go_wp2_with fail
    refine bodyPost_ret (v:= .tuple #[.agg #[.string ⟨#[]⟩,.slice none 0 0,.map none],.bool false]) (by simp[results,Tryz.results21,go_sem,hc4,hl4]) rfl ⟨rfl,?_⟩
    refine Ex.alloc ?_ _
    repeat (refine Ex.setCell ?_ (Or.inr (by simp)) _)
    exact (EB.toEx ((EB.ofEx HX1.O (Nat.le_refl _)).trans (HEB.O.mono (by omega) (by simp)))).trans HX4.O
  |succ g=>
   have ha:a<s.size:=by omega
   have ha':(a:Int)<(s.size:Int):=by omega
   have ha2:(a:Int)<=(s.size:Int):=by omega
   have hz:=H1.O a ha
   obtain⟨f,rfl⟩:∃f',f=f'+1:=⟨f-1,by omega⟩
   go_wp2_with fail
   refine (Tryz.utf8_DecodeRuneInString _ _ (uf HT.O ((EB.ofEx HX1.O (Nat.le_refl _)).trans (HEB.O.mono (by omega) (by simp))) htl)).mono ?_
   rintro e w4 ⟨rfl,hb4⟩
   rw[show (Lib.decodeGo (s.extract a s.size)).2=rsz s a from rfl]
   obtain⟨rn,hrn⟩:∃rn,(Lib.decodeGo (s.extract a s.size)).1=rn:=⟨_,rfl⟩
   have HRNE:=aa hrn
   rw[hrn]
   clear hrn
   have hx4:=Ex.below hb4
   have hp4:=HPX'.O.eb (HEB.O.trans (EB.ofEx hx4 (by omega)))
   have HE4:=aa (HEB.O.trans (EB.ofEx hx4 (by omega)))
   have HR4:=aa (HRN.O.ex hx4)
   have HP4:=aa hp4
   have hrun':(if (cK code rn ((a+rsz s a:Nat):Int) ts ([],rc)).1.length=0 then none else mz code s f (a+rsz s a) (cK code rn ((a+rsz s a:Nat):Int) ts ([],rc)))=res:=by
    have h1:=HRUN.O
    rw[mz,if_pos ha,show sY s a=rn from HRNE.O]at h1
    exact h1
   have HRUN':=aa hrun'
   clear hb4 hx4 hp4 hrun'
   obtain⟨rz,hrz⟩:=exq (rsz s a)
   rw[<-hrz]at hz HRUN' ⊢
   have hpl:((a+rz:Nat):Int)=(a:Int)+(rz:Int):=by simp
   rw[hpl]at HRUN'
   have hcn4:=HCN.O
   have hR4:=HR4.O
   rw[hcn4]at hR4
   have KS:=aa (xI code HOK.O HTK.O hcl u gr w1.heap.size q (w.heap.size+1) ng cg cc sc B mb sp nm (rn:Int) ((a:Int)+(rz:Int)) nowV nextV w4 ts rc HP4.O hR4 (by omega) (by omega) (by omega))
   obtain⟨st',hst'⟩:∃st',st'=cK code (rn:Int) ((a:Int)+(rz:Int)) ts ([],rc):=⟨_,rfl⟩
   rw[<-hst']at KS HRUN'
   rw[<-hcn4]at KS
   clear hrz hcn4 hR4 hst'
   go_wp2_with fail
   refine KS.O.mono ?_
   rintro e w5 ⟨rfl,⟨nowV5,nextV5,hrn5⟩,he5⟩
   have HR5:=aa hrn5
   have HE5:=aa (HE4.O.trans he5)
   have hr5:BK w5 w.heap.size (.cells #[.string ⟨#[]⟩,.slice none 0 0,.map none] 56 (0,0)):=HFO.O.eb (HE4.O.trans he5) (by omega) (by simp)
   obtain⟨hc5,hf5⟩:=hr5.all
   have hl5:=hr5.lt
   clear hrn5 he5 hr5
   by_cases h0:st'.1.length=0
   ·have hd:decide (0<st'.1.length)=false:=by simp[h0]
    rw[hd]
    have hn:res=none:=by have h1:=HRUN'.O;rw[if_pos h0]at h1;exact h1.symm
    subst hn
    clear h0 hd
    go_wp2_with fail
    refine bodyPost_ret (v:= .tuple #[.agg #[.string ⟨#[]⟩,.slice none 0 0,.map none],.bool false]) (by simp[results,Tryz.results21,go_sem,hc5]) rfl ⟨rfl,?_⟩
    repeat (refine Ex.setCell ?_ (Or.inr (by simp)) _)
    exact EB.toEx ((EB.ofEx HX1.O (Nat.le_refl _)).trans (HE5.O.mono (by omega) (by simp)))
   ·have hd:decide (0<st'.1.length)=true:=by simp;omega
    rw[hd]
    have hn:mz code s f (a+rz) st'=res:=by have h1:=HRUN'.O;rw[if_neg h0]at h1;exact h1
    have HN:=aa hn
    clear h0 hd hn hc5 hf5
    go_wp2_with fail
    go_roundg (s.size-(a+rz))
    case measure=>omega
    case rel=>exact⟨a+rz,f,_,_,st'.1,st'.2,by omega,by simp,by omega,HN.O,HR5.O,HE5.O⟩
def PT (w : World) : Prop := Lib.TabIs Tryz.prog w "internal/strconv.uint64pow10" .u64 Lib.pow10Tab
def GL (w:World):Prop:=Lib.Utf8Tabs 2 3 w/\PT w
def KB (lo hi:Nat) (w w1:World):Prop:=w.heap.size<=w1.heap.size/\∀b,lo<=b ->b<hi ->w1.heap[b]? =w.heap[b]?
def Av (lo hi:Nat) (w:World) (fv:Value) (F:List Lab ->List Lab×Bool):Prop:=
 hi<=w.heap.size/\(∃f a b,fv= .func f a b)/\∀w1,KB lo hi w w1 ->GL w1 ->∀q base ls v0,hi<=base ->base<=w1.heap.size ->base<=q ->BK w1 q (.cells #[v0] 250 (0,0)) ->w1.ownsRow base 167 2 v0 ls.length (aB ls) ->v0.ownBlock≠some q ->LOK ls ->
  Calls Tryz.prog 124 #[.agg #[fv],.pointer (some ⟨q,0,none⟩)] w1 fun x w'=>x= .returned (.bool (F ls).2)/\LT w' q base (F ls).1/\LOK (F ls).1/\EB base [] w1 w'
structure Fit (code:List Ins) (ng:Nat):Prop where
 ok:cZ code
 tk:eN code
 le:code.length<=100000
 pos:0<code.length
 ng5:ng<=5
def eqB (a b:ByteArray):Bool:=a.toList==b.toList
def zJ (l:Lab):Value:= .agg #[.string l.1,.string l.2]
end Go.Proofs.YtfnanjbleifjkaaGreatDoor.G
namespace Go.Proofs.YtfnanjbleifjkaaGreatDoor
open Go.RowKit
end Go.Proofs.YtfnanjbleifjkaaGreatDoor
namespace Go.Proofs.YtfnanjbleifjkaaGreatDoor.G
open Go.RowKit
end Go.Proofs.YtfnanjbleifjkaaGreatDoor.G
namespace Go.Proofs.YtfnanjbleifjkaaGreatDoor
open Go.RowKit
end Go.Proofs.YtfnanjbleifjkaaGreatDoor
namespace Go.Proofs.YtfnanjbleifjkaaGreatDoor.G
open Go.RowKit
def gH (t:ByteArray):List Ins:=match aX t with| .ok p _=>bB p| .bad _=>[]
def kb (t:ByteArray):Nat:=match aX t with| .ok _ s=>s.g| .bad _=>0
def nb (t:ByteArray):List (ByteArray×Nat):=match aX t with| .ok _ s=>s.nm| .bad _=>[]
def lN (t:ByteArray):Bool:=qM t&&decide (kb t<=5)&&decide (t.size<=60)
theorem zz {t:ByteArray} (h:lN t=true):Fit (gH t) (kb t):=by
 simp only[lN,Bool.and_eq_true,decide_eq_true_eq]at h
 obtain⟨⟨h1,h2⟩,h3⟩:=h
 unfold qM at h1
 unfold gH
 cases hr:aX t with
 |bad s=>rw[hr]at h1;simp at h1
 |ok p s=>
  rw[hr]at h1
  simp only[Bool.and_eq_true,decide_eq_true_eq]at h1
  obtain⟨c1,c2⟩:=nN h1.2
  have hl:=ik p
  exact⟨c1,c2,by show (bB p).length<=100000;have:=h1.1.2;omega,by show 0<(bB p).length;omega,h2⟩
theorem zO {w:World} {t:ByteArray} {x:EV} (hev:w.cell? ⟨0,0,none⟩=some (.iface x.1 x.2)) (h:lN t=true) (w1:World) (hx:Ex [] w w1):
  Calls Tryz.prog 20 #[.string t] w1 fun e w'=>∃q,e= .returned (.tuple #[.pointer (some ⟨q,0,none⟩),.int .i64 0,.bool true])/\PG w' q w1.heap.size (gH t) (kb t) (nb t)/\Ex [] w1 w':=by
 simp only[lN,Bool.and_eq_true,decide_eq_true_eq]at h
 obtain⟨p,s,hr,hc⟩:=wu (w:=w1) (x:=x) ((hx.cell0.1 _ _ (eV hev)).trans hev) h.2 (NP.all t) h.1.1
 have e1:gH t=bB p:=by unfold gH;rw[hr]
 have e2:kb t=s.g:=by unfold kb;rw[hr]
 have e3:nb t=s.nm:=by unfold nb;rw[hr]
 rw[e1,e2,e3]
 exact hc
def F1 (ss:List ByteArray) (se re:ByteArray):List Lab ->List Lab×Bool:=fun ls=>(ls,(dN (gH re) (uj ls ss se)).isSome)
def F2 (ss:List ByteArray) (se re:ByteArray):List Lab ->List Lab×Bool:=fun ls=>(ls,!(dN (gH re) (uj ls ss se)).isSome)
def F3 (ss:List ByteArray) (se ta:ByteArray):List Lab ->List Lab×Bool:=fun ls=>(ls,eqB (uj ls ss se) (zZ ls ta))
def F4 (ss:List ByteArray) (se ta:ByteArray):List Lab ->List Lab×Bool:=fun ls=>(ls,!eqB (uj ls ss se) (zZ ls ta))
def F7 (re:ByteArray):List Lab ->List Lab×Bool:=fun ls=>(ls.filter fun l=> !(dN (gH re) l.1).isSome,true)
def F8 (re:ByteArray):List Lab ->List Lab×Bool:=fun ls=>(ls.filter fun l=>(dN (gH re) l.1).isSome,true)
end Go.Proofs.YtfnanjbleifjkaaGreatDoor.G
namespace Go.Proofs.YtfnanjbleifjkaaGreatDoor
open Go.RowKit
end Go.Proofs.YtfnanjbleifjkaaGreatDoor
namespace Go.Proofs.YtfnanjbleifjkaaGreatDoor.G
open Go.RowKit
theorem vl (l:List (Int×Int)):(bL l).length=l.length*2:=by
 induction l with
 |nil=>rfl
 |cons x l ih=>
  have h:bL (x::l)=[.int .i64 x.1,.int .i64 x.2]++bL l:=rfl
  rw[h,List.length_append,ih]
  simp;omega
def dV (s:ByteArray) (l:List (Int×Int)) (k:Int):ByteArray:=
 if k<0 then ⟨#[]⟩else match l[k.toNat]? with
 |some y=>if y.1<0 then ⟨#[]⟩else s.extract y.1.toNat y.2.toNat
 |none=>⟨#[]⟩
theorem mC (l:List (Int×Int)) (j:Nat) (y:Int×Int) (h:l[j]? =some y):(bL l)[j*2]? =some (.int .i64 y.1)/\(bL l)[j*2+1]? =some (.int .i64 y.2):=by
 induction l generalizing j with
 |nil=>simp at h
 |cons x l ih=>
  have e:bL (x::l)= .int .i64 x.1:: .int .i64 x.2::bL l:=rfl
  cases j with
  |zero=>simp at h;subst h;rw[e];simp
  |succ j=>
   have h1:=ih j (by simpa using h)
   rw[e,show (j+1)*2=j*2+1+1 by omega]
   simpa using h1
theorem jr (s:ByteArray) (mb g c:Nat) (l:List (Int×Int)) (k:Int) (w:World) (hgl:g<w.heap.size) (hcell:∀j u,(bL l)[j]? =some u ->w.cell? ⟨g,j,none⟩=some u) (hl:l.length<=1000) (hs:s.size<=9223372036854775807)
  (hk: -9223372036854775808<=k/\k<=9223372036854775807) (hok:∀y∈l,y.1<0\/(0<=y.1/\y.1<=y.2/\y.2<=s.size)):
  Calls Tryz.prog 148 #[.agg #[.string s,.slice (some ⟨g,0,none⟩) l.length c,.map (some mb)],.int .i64 k] w fun e w'=>e= .returned (.string (dV s l k))/\Ex [] w w':=by
 obtain⟨R,hR⟩:=exq (dV s l k)
 rw[<-hR]
 have HR:=aa hR
 obtain⟨n,hn⟩:=exq (l.length)
 have HN:=aa hn
 have HC:=aa hcell
 have HOK:=aa hok
 rw[<-hn]at hl ⊢
 clear hR hcell hok
 by_cases h1:k<0
 ·obtain rfl:R=⟨#[]⟩:=by rw[HR.O];unfold dV;rw[if_pos h1]
  clear hn
  go_enter Tryz.func148,Tryz.ntmps148
  go_wp2_with fail
  go_ret
  exact⟨rfl,(Ex.refl _ _).alloc _⟩
 ·by_cases h2:(n:Int)<=k
  ·obtain rfl:R=⟨#[]⟩:=by rw[HR.O];unfold dV;rw[if_neg h1,List.getElem?_eq_none (by omega)]
   clear hn
   go_enter Tryz.func148,Tryz.ntmps148
   go_wp2_with fail
   go_ret
   exact⟨rfl,(Ex.refl _ _).alloc _⟩
  ·obtain⟨j,rfl⟩:∃j:Nat,k=j:=⟨k.toNat,by omega⟩
   have hj:j<l.length:=by omega
   obtain⟨⟨y1,y2⟩,hy⟩:∃y,l[j]? =some y:=⟨_,List.getElem?_eq_getElem hj⟩
   obtain⟨s1,s2⟩:=mC l j _ hy
   have c1:=(((Ex.refl [] w).alloc (Obj.cells #[.string s,.slice (some ⟨g,0,none⟩) n c,.map (some mb)] 56)).cell0.1 g _ hgl).trans (HC.O _ _ s1)
   have c2:=(((Ex.refl [] w).alloc (Obj.cells #[.string s,.slice (some ⟨g,0,none⟩) n c,.map (some mb)] 56)).cell0.1 g _ hgl).trans (HC.O _ _ s2)
   have hjn:(j:Int)<(n:Int):=by omega
   have ho:=HOK.O _ (List.mem_of_getElem? hy)
   dsimp only at ho c1 c2
   by_cases h3:y1<0
   ·obtain rfl:R=⟨#[]⟩:=by rw[HR.O];unfold dV;rw[if_neg h1,Int.toNat_natCast,hy];exact if_pos h3
    clear hn hy s1 s2 ho
    go_enter Tryz.func148,Tryz.ntmps148
    go_wp2_with fail
    go_ret
    exact⟨rfl,(Ex.refl _ _).alloc _⟩
   ·have ho':0<=y1/\y1<=y2/\y2<=s.size:=by omega
    obtain⟨a,rfl⟩:∃a:Nat,y1=a:=⟨y1.toNat,by omega⟩
    obtain⟨b,rfl⟩:∃b:Nat,y2=b:=⟨y2.toNat,by omega⟩
    have hr:R=s.extract a b:=by rw[HR.O];unfold dV;rw[if_neg h1,Int.toNat_natCast,hy];exact if_neg h3
    obtain⟨o1,o2,o3⟩:=ho'
    have HRR:=aa hr
    clear hn hy s1 s2 ho hr
    go_enter Tryz.func148,Tryz.ntmps148
    go_wp2_with fail
    go_quiet (fail)
    go_wp2_with fail
    go_ret
    exact⟨by rw[HRR.O];rfl,by first|exact ((Ex.refl _ _).alloc _).drewN _|exact (Ex.refl _ _).alloc _|exact ((Ex.refl _ _).alloc _).drew⟩
def gD (l:List (ByteArray×Nat)) (n:ByteArray):Nat:=match l.find? (fun x=>decide (x.1=n))with|some x=>x.2|none=>0
theorem sG (s:ByteArray) (h:s.size<=1048576):∃l,keyOf Tryz.prog 9 (.string s)=some l:=by
 have:s.size<=maxLen:=by unfold maxLen;omega
 exact⟨.string s.data.toList,by simp[keyOf,mapKey,Tryz.underlying9,this]⟩
theorem xc {w:World} {mb:Nat} {l:List (ByteArray×Nat)} {n:ByteArray} (hm:w.heap[mb]? =some (.map (nmE l) l.length)) (hk:∀x∈l,x.1.size<=60) (hu:∀x∈l,∀y∈l,x.1=y.1 ->x.2=y.2) (hn:n.size<=1048576):
  (Instr.lookup 54 (.map (some mb)) (.string n) true).run Tryz.prog w= .ok (.tuple #[.int .i64 (gD l n),.bool (aD l n)]) w:=by
 obtain⟨kl,hl⟩:=sG n hn
 have hg:=MapKept.run_getObj_map (P:=Tryz.prog) hm
 have hc:=fS.check w (nmE l).isEmpty hl
 rcases fS.find w hl (nmE l).toList (jZ hk)with⟨hf,hno⟩|⟨j,e,hf,hj,he⟩
 ·have ht:aD l n=false:=by
   rw[Bool.eq_false_iff]
   intro h
   obtain⟨e,he,hke⟩:=(jq l n).2 h
   exact hno e he hke
  have hz:gD l n=0:=by
   unfold gD
   cases h:l.find? (fun x=>decide (x.1=n))with
   |none=>rfl
   |some x=>
    exfalso
    have h1:=List.mem_of_find?_eq_some h
    have h2:=List.find?_some h
    have h3:aD l n=true:=by unfold aD;rw[List.any_eq_true];exact⟨x,h1,by simpa using h2⟩
    rw[ht]at h3;cases h3
  rw[ht,hz]
  unfold Instr.lookup
  simp[run_underlying Tryz.underlying54,hg,hc,hf,uu]
 ·have ht:aD l n=true:=(jq l n).1 ⟨e,List.mem_of_getElem? hj,he⟩
  have hv:e.val= .int .i64 (gD l n):=by
   have h1:=List.mem_of_getElem? hj
   simp only[nmE,List.toList_toArray,List.mem_map]at h1
   obtain⟨x,hx,rfl⟩:=h1
   have hxl:x.1∈l:=by
    have:=List.mem_map_of_mem (f:=Prod.fst) hx
    rwa [List.zipIdx_map_fst]at this
   have hxn:x.1.1=n:=by simpa using he
   unfold gD
   cases h:l.find? (fun x=>decide (x.1=n))with
   |none=>
    rw[List.find?_eq_none]at h
    exact absurd (decide_eq_true hxn) (h _ hxl)
   |some y=>
    have h2:y.1=n:=by simpa using List.find?_some h
    have h3:=hu x.1 hxl y (List.mem_of_find?_eq_some h) (hxn.trans h2.symm)
    simp[h3]
  rw[ht]
  unfold Instr.lookup
  simp[hv,run_underlying Tryz.underlying54,hg,hc,hf]
def rj (s:ByteArray) (l:List (Int×Int)) (nm:List (ByteArray×Nat)) (n:ByteArray):ByteArray:=if aD nm n then dV s l (gD nm n)else ⟨#[]⟩
theorem so (s:ByteArray) (mb g c:Nat) (l:List (Int×Int)) (nm:List (ByteArray×Nat)) (n:ByteArray) (w:World) (hm:w.heap[mb]? =some (.map (nmE nm) nm.length)) (hnk:∀x∈nm,x.1.size<=60) (hu:∀x∈nm,∀y∈nm,x.1=y.1 ->x.2=y.2) (hnv:∀x∈nm,x.2<=1000) (hn:n.size<=1048576) (hgl:g<w.heap.size) (hcell:∀j u,(bL l)[j]? =some u ->w.cell? ⟨g,j,none⟩=some u) (hl:l.length<=1000) (hs:s.size<=9223372036854775807)
  (hok:∀y∈l,y.1<0\/(0<=y.1/\y.1<=y.2/\y.2<=s.size)):
  Calls Tryz.prog 149 #[.agg #[.string s,.slice (some ⟨g,0,none⟩) l.length c,.map (some mb)],.string n] w fun e w'=>e= .returned (.string (rj s l nm n))/\Ex [] w w':=by
 obtain⟨R,hR⟩:=exq (rj s l nm n)
 rw[<-hR]
 have HR:=aa hR
 obtain⟨W,hW⟩:=exq (w.alloc (Obj.cells #[.string s,.slice (some ⟨g,0,none⟩) l.length c,.map (some mb)] 56))
 have hmb:mb<w.heap.size:=by
  rcases Nat.lt_or_ge mb w.heap.size with h|h
  ·exact h
  ·rw[Array.getElem?_eq_none h]at hm;cases hm
 have hxW:Ex [] w W:=by rw[hW];exact (Ex.refl _ _).alloc _
 have hbW:BK W w.heap.size (.cells #[.string s,.slice (some ⟨g,0,none⟩) l.length c,.map (some mb)] 56 (0,0)):=by rw[hW];exact BK.new _ _
 have hlook:=xc (w:=W) (n:=n) ((show BK w mb (.map (nmE nm) nm.length)from hm).ex hxW (by simp)) hnk hu hn
 have hb:gD nm n<=1000:=by
  unfold gD
  cases h:nm.find? (fun x=>decide (x.1=n))with
  |none=>simp
  |some x=>exact hnv x (List.mem_of_find?_eq_some h)
 have KN:=aa (fun (W':World) (hx:Ex [] w W')=>jr s mb g c l (gD nm n) W' (Nat.lt_of_lt_of_le hgl hx.size) (fun j u hj=>(hx.cell0.1 g j hgl).trans (hcell j u hj)) hl hs ⟨by omega,by omega⟩ hok)
 obtain⟨k,hk⟩:=exq (gD nm n)
 obtain⟨b,hbb⟩:=exq (aD nm n)
 rw[<-hk,<-hbb]at hlook
 rw[<-hk]at KN
 have hr:R=if b then dV s l k else ⟨#[]⟩:=by rw[hR,hbb,hk];rfl
 have HRR:=aa hr
 obtain⟨V,hV⟩:=exq (dV s l k)
 obtain⟨m,hm2⟩:=exq (l.length)
 rw[<-hV]at KN HRR
 rw[<-hm2]at KN hbW hW ⊢
 have HXW:=aa hxW
 subst hW
 clear hm hnk hu hnv hcell hok hR hr hk hbb hV hm2 hxW hb hbW
 cases b with
 |false=>
  obtain rfl:R=⟨#[]⟩:=by rw[HRR.O];rfl
  go_enter Tryz.func149,Tryz.ntmps149
  go_wp2_with fail
  go_ret
  exact⟨rfl,HXW.O⟩
 |true=>
  obtain rfl:R=V:=by rw[HRR.O];rfl
  go_enter Tryz.func149,Tryz.ntmps149
  go_wp2_with fail
  refine (KN.O _ HXW.O).mono ?_
  rintro e w1 ⟨rfl,hx1⟩
  have HX1:=aa (HXW.O.trans hx1)
  clear hx1
  go_wp2_with fail
  go_ret
  exact⟨rfl,HX1.O⟩
theorem mR (x:Int) (w:World):
  Calls Tryz.prog 195 #[.int .u8 x] w fun e w'=>e= .returned (.bool (cz x))/\w'=w:=by
 unfold cz
 by_cases h1:48<=x
 ·by_cases h2:x<=57
  ·go_enter Tryz.func195,Tryz.ntmps195
   go_wp2
   go_ret
   exact⟨by simp[h1,h2],rfl⟩
  ·go_enter Tryz.func195,Tryz.ntmps195
   go_wp2
   go_ret
   exact⟨by simp[h1,h2],rfl⟩
 ·go_enter Tryz.func195,Tryz.ntmps195
  go_wp2
  go_ret
  exact⟨by simp;omega,rfl⟩
theorem uU (x:Int) (w:World):
  Calls Tryz.prog 146 #[.int .u8 x] w fun e w'=>e= .returned (.bool (dq x))/\w'=w:=by
 by_cases h1:97<=x<;>by_cases h2:x<=122<;>by_cases h3:65<=x<;>by_cases h4:x<=90<;>by_cases h5:x=95
 all_goals
  first
  |(exfalso;omega)
  |skip
 all_goals (go_enter Tryz.func146,Tryz.ntmps146;go_wp2_with fail)
 all_goals
  first
  |(go_ret;exact⟨by simp[dq,et,h1,h2,h3,h4,h5],rfl⟩)
  |(refine (mR x _).mono ?_;rintro e w1 ⟨rfl,rfl⟩;have hl:et x=false:=(by simp[et];omega);have hu:(x==95)=false:=beq_eq_false_iff_ne.2 h5;go_wp2_with fail;go_ret;exact⟨by simp[dq,hl,hu],rfl⟩)
def cj (s:ByteArray):Nat:=(s.data.toList.takeWhile fun b=>dq (b.toNat:Int)).length
theorem eH {α:Type} (q:α ->Bool):∀(l:List α) (j:Nat),(∀i,i<j ->∀a,l[i]? =some a ->q a=true) ->j<=l.length ->(∀a,l[j]? =some a ->q a=false) ->(l.takeWhile q).length=j
 |[],0,_,_,_=>rfl
 |[],j+1,_,h,_=>by simp at h
 |a::l,0,_,_,h=>by
  have:=h a (by simp)
  simp[List.takeWhile_cons,this]
 |a::l,j+1,h1,h2,h3=>by
  have h4:=h1 0 (by omega) a (by simp)
  rw[List.takeWhile_cons,if_pos h4]
  have:=eH q l j (fun i hi b hb=>h1 (i+1) (by omega) b (by simpa using hb)) (by simpa using h2) (fun b hb=>h3 b (by simpa using hb))
  simp[this]
theorem eF (s:ByteArray):cj s<=s.size:=by
 unfold cj
 rw[<-aF]
 exact (List.takeWhile_sublist _).length_le
theorem kG (s:ByteArray) (w:World) (hs:s.size<=9223372036854775807):
  Calls Tryz.prog 102 #[.string s] w fun e w'=>e= .returned (.int .i64 (cj s))/\w'=w:=by
 obtain⟨N,hN⟩:=exq (cj s)
 have HN:=aa hN
 rw[<-hN]
 clear hN
 obtain⟨n,hn⟩:=exq (s.size)
 go_enter Tryz.func102,Tryz.ntmps102
 go_wp2_with fail
 go_loopg [3] n (fun gk i wr=>∃j:Nat,j+gk=n/\i= .int .i64 j/\(∀i (h:i<s.size),i<j ->dq ((s[i]'h).toNat:Int)=true)/\wr=w)
 case atStart=>exact⟨0,by omega,rfl,fun i h hi=>by omega,rfl⟩
 case round=>
  obtain⟨j,hj,rfl,hw,rfl⟩:=hrel
  have HW:=aa hw
  clear hw
  cases gk with
  |zero=>
   have hjs:j=s.size:=by omega
   have hr:N=j:=by
    rw[HN.O]
    refine eH _ _ j (fun i hi a ha=> ?_) (by rw[aF];omega) (fun a ha=> ?_)
    ·have hi':i<s.size:=by omega
     rw[cy hi']at ha
     cases ha
     exact HW.O i hi' hi
    ·rw[List.getElem?_eq_none (by rw[aF];omega)]at ha;cases ha
   subst hr
   have h1:¬((N:Int)<(s.size:Int)):=by omega
   clear hj hjs
   go_wp2_with fail
   go_ret
   exact⟨rfl,rfl⟩
  |succ g=>
   have hjl:j<s.size:=by omega
   have h1:(j:Int)<(s.size:Int):=by omega
   have hstep:dq ((s[j]'hjl).toNat:Int)=true ->∀i (h:i<s.size),i<j+1 ->dq ((s[i]'h).toNat:Int)=true:=fun hb i hi hlt=>by
    by_cases hij:i=j
    ·subst hij;exact hb
    ·exact HW.O i hi (by omega)
   have HS:=aa hstep
   obtain⟨x,hx⟩:∃x:Int,x=((s[j]'hjl).toNat:Int):=⟨_,rfl⟩
   have HX:=aa hx
   clear hstep hx
   go_wp2_with fail
   refine (uU _ _).mono ?_
   rintro e w' ⟨rfl,rfl⟩
   rw[<-show x=((s[j]'hjl).toNat:Int)from HX.O]
   cases hl:dq x with
   |true=>
    have HL:=aa hl
    clear hl
    go_wp2_with fail
    go_roundg g
    case measure=>omega
    case rel=>exact⟨j+1,by omega,by simp,HS.O (by rw[<-HX.O];exact HL.O),rfl⟩
   |false=>
    have HL:=aa hl
    clear hl
    have hr:N=j:=by
     rw[HN.O]
     refine eH _ _ j (fun i hi a ha=> ?_) (by rw[aF];omega) (fun a ha=> ?_)
     ·have hi':i<s.size:=by omega
      rw[cy hi']at ha
      cases ha
      exact HW.O i hi' hi
     ·rw[cy hjl]at ha
      cases ha
      rw[<-HX.O];exact HL.O
    subst hr
    go_wp2_with fail
    go_ret
    exact⟨rfl,rfl⟩
end Go.Proofs.YtfnanjbleifjkaaGreatDoor.G
