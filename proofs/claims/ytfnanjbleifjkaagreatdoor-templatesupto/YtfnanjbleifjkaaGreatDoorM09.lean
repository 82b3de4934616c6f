import Derived.Test.YtfnanjbleifjkaaGreatDoorM08
set_option linter.unusedVariables false
set_option linter.unusedSimpArgs false
set_option maxHeartbeats 8000000
set_option maxRecDepth 100000
namespace Go.Proofs.YtfnanjbleifjkaaGreatDoor.G
variable {w:World} {mb r:Nat} {t:ByteArray} {x:EV} {s s':RS}
open Go.RowKit
theorem fI (t:ByteArray) (a e:Nat) (ha:a<=e) (he:e<=t.size):(t.extract a e).size=e-a:=by
 rw[ByteArray.size_extract];omega
theorem ig (s:ByteArray):s.toList=[]↔s.size=0:=by
 by_cases h:s.size=0
 ·obtain rfl:s=⟨#[]⟩:=by apply ByteArray.ext;exact Array.eq_empty_of_size_eq_zero h
  simp;rfl
 ·have h1:=bD h
  constructor
  ·intro h2;rw[h2]at h1;cases h1
  ·intro h2;exact absurd h2 h
theorem sw (h:RG w r mb t x s):
  Calls Tryz.prog 280 #[.pointer (some ⟨r,0,none⟩)] w fun e w'=>ay [r] r mb t x w (fun _ v (n:ByteArray)=>v= .string n) (ao t s) e w':=by
 have hlt:=h.lt
 have ht:=h.ht
 have hk:=h.hk
 have c1:=h.c1
 obtain⟨k0,hk0⟩:=exq (s.k)
 obtain⟨R,hR⟩:=exq (aZ t k0 8 s)
 have HM:Hid (ao t s=R.bind fun _ s1=>if s1.k=k0\/aD s1.nm (t.extract k0 s1.k)=true then .bad s1 else .ok (t.extract k0 s1.k) s1):=by
  show ao t s=_
  rw[hR,hk0];rfl
 have H:=aa h
 have HR:=aa hR
 rw[<-hk0]at c1
 have HK0:=aa hk0
 clear h hR hk0
 go_enter Tryz.func280,Tryz.ntmps280
 go_wp2_with fail
 go_loopg [15] 8 (fun gk l15 wr=>∃s':RS,aZ t k0 gk s'=R/\s'.k+gk=k0+8/\k0<=s'.k/\RG wr r mb t x s'/\Ex [r] w wr)
 case atStart=>exact⟨s,HR.O.symm,by rw[HK0.O],by rw[HK0.O];exact Nat.le_refl _,H.O,Ex.refl _ _⟩
 case round=>
  obtain⟨s',hgn,hkk,hk0',hg,hx⟩:=hrel
  have HGN:=aa hgn
  have HG:=aa hg
  have HX:=aa hx
  have c1':=hg.c1
  have c0':=hg.c0
  have f1':=hg.cf 1
  have hlt':=hg.lt
  have hk':=hg.hk
  have hev:=hg.ev
  have helt:=hg.elt
  obtain⟨k,hkv⟩:=exq (s'.k)
  rw[<-hkv]at c1' hkk hk0' hk'
  have HKV:=aa hkv
  clear c1 hgn hg hx hkv
  have k1:(0:Int)<=(k:Int)-(k0:Int):=by omega
  cases gk with
  |zero=>
   have hR:R= .ok () s':=by rw[<-HGN.O];rfl
   have k2:¬((k:Int)-(k0:Int)<8):=by omega
   have k3:(k0:Int)<=(k:Int):=by omega
   have k4:(k:Int)<=(t.size:Int):=by omega
   obtain⟨nv,hnv⟩:∃nv,t.extract k0 k=nv:=⟨_,rfl⟩
   have hnsz:nv.size=k-k0:=by rw[<-hnv];exact fI t k0 k hk0' hk'
   have HNV:=aa hnv
   have HRR:=aa hR
   have HNS:=aa hnsz
   clear hR
   by_cases hsz:nv.size=0
   ·have hE:nv.toList=[]:=(ig nv).2 hsz
    have hE2:nv.toList.isEmpty=true:=by rw[hE];rfl
    have HF:Hid (ao t s= .bad s'):=by
     show ao t s=_
     rw[HM.O,HRR.O]
     show (if s'.k=k0\/aD s'.nm (t.extract k0 s'.k)=true then Res.bad s' else Res.ok (t.extract k0 s'.k) s')=_
     rw[if_pos (Or.inl (by rw[<-HKV.O];omega))]
    clear hsz hnsz
    go_wp2_with fail
    go_quiet (fail)
    go_wp2_with fail
    exact ab rfl (ay.mkBad HF.O (by first|exact HG.O|exact HG.O.drewN _|exact (HG.O.drewN _).drewN _|exact ((HG.O.drewN _).drewN _).drewN _|exact (((HG.O.drewN _).drewN _).drewN _).drewN _) (by first|exact HX.O|exact HX.O.drewN _|exact (HX.O.drewN _).drewN _|exact ((HX.O.drewN _).drewN _).drewN _|exact (((HX.O.drewN _).drewN _).drewN _).drewN _))
   ·have hE:¬nv.toList=[]:=fun h=>hsz ((ig nv).1 h)
    have hE2:nv.toList.isEmpty=false:=bD hsz
    have KT:=aa (fun (w':World) (h:RG w' r mb t x s')=>pf h nv (by have:=HNS.O;omega))
    cases htk:aD s'.nm nv with
    |true=>
     have HF:Hid (ao t s= .bad s'):=by
      show ao t s=_
      rw[HM.O,HRR.O]
      show (if s'.k=k0\/aD s'.nm (t.extract k0 s'.k)=true then Res.bad s' else Res.ok (t.extract k0 s'.k) s')=_
      rw[if_pos (Or.inr (by rw[<-HKV.O,HNV.O];exact htk))]
     rw[htk]at KT
     clear hsz hnsz htk
     go_wp2_with fail
     go_quiet (fail)
     go_wp2_with fail
     refine (KT.O _ (by first|exact HG.O|exact HG.O.drewN _|exact (HG.O.drewN _).drewN _|exact ((HG.O.drewN _).drewN _).drewN _|exact (((HG.O.drewN _).drewN _).drewN _).drewN _)).mono ?_
     rintro e w9 ⟨rfl,rfl⟩
     go_wp2_with fail
     exact ab rfl (ay.mkBad HF.O (by first|exact HG.O|exact HG.O.drewN _|exact (HG.O.drewN _).drewN _|exact ((HG.O.drewN _).drewN _).drewN _|exact (((HG.O.drewN _).drewN _).drewN _).drewN _) (by first|exact HX.O|exact HX.O.drewN _|exact (HX.O.drewN _).drewN _|exact ((HX.O.drewN _).drewN _).drewN _|exact (((HX.O.drewN _).drewN _).drewN _).drewN _))
    |false=>
     have HF:Hid (ao t s= .ok nv s'):=by
      show ao t s=_
      rw[HM.O,HRR.O]
      show (if s'.k=k0\/aD s'.nm (t.extract k0 s'.k)=true then Res.bad s' else Res.ok (t.extract k0 s'.k) s')=_
      rw[<-HKV.O,HNV.O,if_neg (by rintro (h|h);(·omega);·rw[htk]at h;cases h)]
     rw[htk]at KT
     clear hsz hnsz htk
     go_wp2_with fail
     go_quiet (fail)
     go_wp2_with fail
     refine (KT.O _ (by first|exact HG.O|exact HG.O.drewN _|exact (HG.O.drewN _).drewN _|exact ((HG.O.drewN _).drewN _).drewN _|exact (((HG.O.drewN _).drewN _).drewN _).drewN _)).mono ?_
     rintro e w9 ⟨rfl,rfl⟩
     go_wp2_with fail
     go_ret
     exact ay.mkOk HF.O rfl (by first|exact HG.O|exact HG.O.drewN _|exact (HG.O.drewN _).drewN _|exact ((HG.O.drewN _).drewN _).drewN _|exact (((HG.O.drewN _).drewN _).drewN _).drewN _) (by first|exact HX.O|exact HX.O.drewN _|exact (HX.O.drewN _).drewN _|exact ((HX.O.drewN _).drewN _).drewN _|exact (((HX.O.drewN _).drewN _).drewN _).drewN _)
  |succ g=>
   have k2:((k:Int)-(k0:Int)<8):=by omega
   cases hb:ai t s'.k with
   |none=>
    have hR:R= .bad s':=by rw[<-HGN.O,aZ,hb]
    have HRR:=aa hR
    have KL:=aa (iS HG.O hb)
    clear hR hb
    go_wp2_with fail
    refine KL.O.mono ?_
    rintro e w2 ⟨rfl,n2,rfl⟩
    refine ab rfl (ay.mkBad (by rw[HM.O,HRR.O];rfl) (HG.O.drewN _) (HX.O.drewN _))
   |some b=>
    have KL:=aa (fun (w':World) (h:RG w' r mb t x s')=>cT h hb)
    have hstep:R=if 97<=b.toNat/\b.toNat<=122 then (if g=0/\aD s'.nm (t.extract k0 (s'.k+1))=true then .bad s' else aZ t k0 g s'.up)else .ok () s':=by rw[<-HGN.O,aZ,hb]
    have HST:=aa hstep
    have hkt:k<t.size:=by rw[HKV.O];exact (cP hb).1
    clear hstep hb
    by_cases h97:97<=b.toNat
    ·have h97':((b.toNat:Int)≥97):=by omega
     by_cases h122:b.toNat<=122
     ·have h122':((b.toNat:Int)<=122):=by omega
      have hst2:R=if g=0/\aD s'.nm (t.extract k0 (s'.k+1))=true then .bad s' else aZ t k0 g s'.up:=by rw[HST.O,if_pos ⟨h97,h122⟩]
      have HS2:=aa hst2
      have kw:IntKind.i64.wrap ((k:Int)+1)=(k:Int)+1:=wrap_small _ (by omega) (by omega)
      clear hst2
      by_cases hg0:g=0
      ·have hk8:IntKind.i64.wrap ((k:Int)+1-(k0:Int))=8:=by rw[show (k:Int)+1-(k0:Int)=8 by omega];rfl
       have k3:(k0:Int)<=(k:Int)+1:=by omega
       have k4:(k:Int)+1<=(t.size:Int):=by omega
       obtain⟨nv,hnv⟩:∃nv,t.extract k0 (k+1)=nv:=⟨_,rfl⟩
       have hnsz:nv.size=k+1-k0:=by rw[<-hnv];exact fI t k0 (k+1) (by omega) (by omega)
       have HNV:=aa hnv
       have HNS:=aa hnsz
       have KT:=aa (fun (w':World) (h:RG w' r mb t x s')=>pf h nv (by have:=HNS.O;omega))
       cases htk:aD s'.nm nv with
       |true=>
        have HF:Hid (ao t s= .bad s'):=by
         show ao t s=_
         rw[HM.O,HS2.O,if_pos ⟨hg0,by rw[<-HKV.O,HNV.O];exact htk⟩]
         rfl
        rw[htk]at KT
        clear htk hnsz
        go_wp2_with fail
        refine (KL.O wr HG.O).mono ?_
        rintro e w2 ⟨rfl,n2,rfl⟩
        go_wp2_with fail
        refine (KL.O _ (by first|exact HG.O|exact HG.O.drewN _|exact (HG.O.drewN _).drewN _|exact ((HG.O.drewN _).drewN _).drewN _|exact (((HG.O.drewN _).drewN _).drewN _).drewN _)).mono ?_
        rintro e w3 ⟨rfl,n3,rfl⟩
        go_wp2_with fail
        go_quiet ((refine (KT.O _ (HG.O.drewN _)).mono ?_;rintro e w9 ⟨rfl,rfl⟩;exact⟨rfl,_,rfl⟩))
        go_wp2_with fail
        exact ab rfl (ay.mkBad HF.O (by first|exact HG.O|exact HG.O.drewN _|exact (HG.O.drewN _).drewN _|exact ((HG.O.drewN _).drewN _).drewN _|exact (((HG.O.drewN _).drewN _).drewN _).drewN _) (by first|exact HX.O|exact HX.O.drewN _|exact (HX.O.drewN _).drewN _|exact ((HX.O.drewN _).drewN _).drewN _|exact (((HX.O.drewN _).drewN _).drewN _).drewN _))
       |false=>
        have hst3:aZ t k0 g s'.up=R:=by rw[HS2.O,if_neg (by rintro⟨_,h⟩;rw[<-HKV.O,HNV.O,htk]at h;cases h)]
        have HS3:=aa hst3
        rw[htk]at KT
        clear htk hnsz hst3
        go_wp2_with fail
        refine (KL.O wr HG.O).mono ?_
        rintro e w2 ⟨rfl,n2,rfl⟩
        go_wp2_with fail
        refine (KL.O _ (by first|exact HG.O|exact HG.O.drewN _|exact (HG.O.drewN _).drewN _|exact ((HG.O.drewN _).drewN _).drewN _|exact (((HG.O.drewN _).drewN _).drewN _).drewN _)).mono ?_
        rintro e w3 ⟨rfl,n3,rfl⟩
        go_wp2_with fail
        go_quiet ((refine (KT.O _ (HG.O.drewN _)).mono ?_;rintro e w9 ⟨rfl,rfl⟩;exact⟨rfl,_,rfl⟩))
        go_wp2_with fail
        go_roundg g
        case measure=>omega
        case rel=>exact⟨s'.up,HS3.O,by simp only[RS.up];rw[<-HKV.O];omega,by simp only[RS.up];rw[<-HKV.O];omega,(by rw[<-(show ((s'.k+1:Nat):Int)=(k:Int)+1 by rw[<-HKV.O];simp)];exact RG.up (HG.O.drewN _) (by rw[<-HKV.O];exact hkt)),Ex.setCell (HX.O.drewN _) (Or.inl (by simp)) _⟩
      ·have hk8:(((k:Int)+1-(k0:Int))==8)=false:=by rw[beq_eq_false_iff_ne];omega
       have hst3:aZ t k0 g s'.up=R:=by rw[HS2.O,if_neg (by simp[hg0])]
       have HS3:=aa hst3
       clear hst3
       go_wp2_with fail
       refine (KL.O wr HG.O).mono ?_
       rintro e w2 ⟨rfl,n2,rfl⟩
       go_wp2_with fail
       refine (KL.O _ (by first|exact HG.O|exact HG.O.drewN _|exact (HG.O.drewN _).drewN _|exact ((HG.O.drewN _).drewN _).drewN _|exact (((HG.O.drewN _).drewN _).drewN _).drewN _)).mono ?_
       rintro e w3 ⟨rfl,n3,rfl⟩
       go_wp2_with fail
       go_quiet (fail)
       go_wp2_with fail
       go_roundg g
       case measure=>omega
       case rel=>exact⟨s'.up,HS3.O,by simp only[RS.up];rw[<-HKV.O];omega,by simp only[RS.up];rw[<-HKV.O];omega,(by rw[<-(show ((s'.k+1:Nat):Int)=(k:Int)+1 by rw[<-HKV.O];simp)];exact RG.up (HG.O.drewN _) (by rw[<-HKV.O];exact hkt)),Ex.setCell (HX.O.drewN _) (Or.inl (by simp)) _⟩
     ·have h122':¬((b.toNat:Int)<=122):=by omega
      have hR:R= .ok () s':=by rw[HST.O,if_neg (by omega)]
      have k3:(k0:Int)<=(k:Int):=by omega
      have k4:(k:Int)<=(t.size:Int):=by omega
      obtain⟨nv,hnv⟩:∃nv,t.extract k0 k=nv:=⟨_,rfl⟩
      have hnsz:nv.size=k-k0:=by rw[<-hnv];exact fI t k0 k hk0' hk'
      have HNV:=aa hnv
      have HRR:=aa hR
      have HNS:=aa hnsz
      clear hR
      by_cases hsz:nv.size=0
      ·have hE:nv.toList=[]:=(ig nv).2 hsz
       have hE2:nv.toList.isEmpty=true:=by rw[hE];rfl
       have HF:Hid (ao t s= .bad s'):=by
        show ao t s=_
        rw[HM.O,HRR.O]
        show (if s'.k=k0\/aD s'.nm (t.extract k0 s'.k)=true then Res.bad s' else Res.ok (t.extract k0 s'.k) s')=_
        rw[if_pos (Or.inl (by rw[<-HKV.O];omega))]
       clear hsz hnsz
       go_wp2_with fail
       refine (KL.O wr HG.O).mono ?_
       rintro e w2 ⟨rfl,n2,rfl⟩
       go_wp2_with fail
       refine (KL.O _ (by first|exact HG.O|exact HG.O.drewN _|exact (HG.O.drewN _).drewN _|exact ((HG.O.drewN _).drewN _).drewN _|exact (((HG.O.drewN _).drewN _).drewN _).drewN _)).mono ?_
       rintro e w3 ⟨rfl,n3,rfl⟩
       go_wp2_with fail
       go_quiet (fail)
       go_wp2_with fail
       exact ab rfl (ay.mkBad HF.O (by first|exact HG.O|exact HG.O.drewN _|exact (HG.O.drewN _).drewN _|exact ((HG.O.drewN _).drewN _).drewN _|exact (((HG.O.drewN _).drewN _).drewN _).drewN _) (by first|exact HX.O|exact HX.O.drewN _|exact (HX.O.drewN _).drewN _|exact ((HX.O.drewN _).drewN _).drewN _|exact (((HX.O.drewN _).drewN _).drewN _).drewN _))
      ·have hE:¬nv.toList=[]:=fun h=>hsz ((ig nv).1 h)
       have hE2:nv.toList.isEmpty=false:=bD hsz
       have KT:=aa (fun (w':World) (h:RG w' r mb t x s')=>pf h nv (by have:=HNS.O;omega))
       cases htk:aD s'.nm nv with
       |true=>
        have HF:Hid (ao t s= .bad s'):=by
         show ao t s=_
         rw[HM.O,HRR.O]
         show (if s'.k=k0\/aD s'.nm (t.extract k0 s'.k)=true then Res.bad s' else Res.ok (t.extract k0 s'.k) s')=_
         rw[if_pos (Or.inr (by rw[<-HKV.O,HNV.O];exact htk))]
        rw[htk]at KT
        clear hsz hnsz htk
        go_wp2_with fail
        refine (KL.O wr HG.O).mono ?_
        rintro e w2 ⟨rfl,n2,rfl⟩
        go_wp2_with fail
        refine (KL.O _ (by first|exact HG.O|exact HG.O.drewN _|exact (HG.O.drewN _).drewN _|exact ((HG.O.drewN _).drewN _).drewN _|exact (((HG.O.drewN _).drewN _).drewN _).drewN _)).mono ?_
        rintro e w3 ⟨rfl,n3,rfl⟩
        go_wp2_with fail
        go_quiet (fail)
        go_wp2_with fail
        refine (KT.O _ (by first|exact HG.O|exact HG.O.drewN _|exact (HG.O.drewN _).drewN _|exact ((HG.O.drewN _).drewN _).drewN _|exact (((HG.O.drewN _).drewN _).drewN _).drewN _)).mono ?_
        rintro e w9 ⟨rfl,rfl⟩
        go_wp2_with fail
        exact ab rfl (ay.mkBad HF.O (by first|exact HG.O|exact HG.O.drewN _|exact (HG.O.drewN _).drewN _|exact ((HG.O.drewN _).drewN _).drewN _|exact (((HG.O.drewN _).drewN _).drewN _).drewN _) (by first|exact HX.O|exact HX.O.drewN _|exact (HX.O.drewN _).drewN _|exact ((HX.O.drewN _).drewN _).drewN _|exact (((HX.O.drewN _).drewN _).drewN _).drewN _))
       |false=>
        have HF:Hid (ao t s= .ok nv s'):=by
         show ao t s=_
         rw[HM.O,HRR.O]
         show (if s'.k=k0\/aD s'.nm (t.extract k0 s'.k)=true then Res.bad s' else Res.ok (t.extract k0 s'.k) s')=_
         rw[<-HKV.O,HNV.O,if_neg (by rintro (h|h);(·omega);·rw[htk]at h;cases h)]
        rw[htk]at KT
        clear hsz hnsz htk
        go_wp2_with fail
        refine (KL.O wr HG.O).mono ?_
        rintro e w2 ⟨rfl,n2,rfl⟩
        go_wp2_with fail
        refine (KL.O _ (by first|exact HG.O|exact HG.O.drewN _|exact (HG.O.drewN _).drewN _|exact ((HG.O.drewN _).drewN _).drewN _|exact (((HG.O.drewN _).drewN _).drewN _).drewN _)).mono ?_
        rintro e w3 ⟨rfl,n3,rfl⟩
        go_wp2_with fail
        go_quiet (fail)
        go_wp2_with fail
        refine (KT.O _ (by first|exact HG.O|exact HG.O.drewN _|exact (HG.O.drewN _).drewN _|exact ((HG.O.drewN _).drewN _).drewN _|exact (((HG.O.drewN _).drewN _).drewN _).drewN _)).mono ?_
        rintro e w9 ⟨rfl,rfl⟩
        go_wp2_with fail
        go_ret
        exact ay.mkOk HF.O rfl (by first|exact HG.O|exact HG.O.drewN _|exact (HG.O.drewN _).drewN _|exact ((HG.O.drewN _).drewN _).drewN _|exact (((HG.O.drewN _).drewN _).drewN _).drewN _) (by first|exact HX.O|exact HX.O.drewN _|exact (HX.O.drewN _).drewN _|exact ((HX.O.drewN _).drewN _).drewN _|exact (((HX.O.drewN _).drewN _).drewN _).drewN _)
    ·have h97':¬((b.toNat:Int)≥97):=by omega
     have hR:R= .ok () s':=by rw[HST.O,if_neg (by omega)]
     have k3:(k0:Int)<=(k:Int):=by omega
     have k4:(k:Int)<=(t.size:Int):=by omega
     obtain⟨nv,hnv⟩:∃nv,t.extract k0 k=nv:=⟨_,rfl⟩
     have hnsz:nv.size=k-k0:=by rw[<-hnv];exact fI t k0 k hk0' hk'
     have HNV:=aa hnv
     have HRR:=aa hR
     have HNS:=aa hnsz
     clear hR
     by_cases hsz:nv.size=0
     ·have hE:nv.toList=[]:=(ig nv).2 hsz
      have hE2:nv.toList.isEmpty=true:=by rw[hE];rfl
      have HF:Hid (ao t s= .bad s'):=by
       show ao t s=_
       rw[HM.O,HRR.O]
       show (if s'.k=k0\/aD s'.nm (t.extract k0 s'.k)=true then Res.bad s' else Res.ok (t.extract k0 s'.k) s')=_
       rw[if_pos (Or.inl (by rw[<-HKV.O];omega))]
      clear hsz hnsz
      go_wp2_with fail
      refine (KL.O wr HG.O).mono ?_
      rintro e w2 ⟨rfl,n2,rfl⟩
      go_wp2_with fail
      go_quiet (fail)
      go_wp2_with fail
      exact ab rfl (ay.mkBad HF.O (by first|exact HG.O|exact HG.O.drewN _|exact (HG.O.drewN _).drewN _|exact ((HG.O.drewN _).drewN _).drewN _|exact (((HG.O.drewN _).drewN _).drewN _).drewN _) (by first|exact HX.O|exact HX.O.drewN _|exact (HX.O.drewN _).drewN _|exact ((HX.O.drewN _).drewN _).drewN _|exact (((HX.O.drewN _).drewN _).drewN _).drewN _))
     ·have hE:¬nv.toList=[]:=fun h=>hsz ((ig nv).1 h)
      have hE2:nv.toList.isEmpty=false:=bD hsz
      have KT:=aa (fun (w':World) (h:RG w' r mb t x s')=>pf h nv (by have:=HNS.O;omega))
      cases htk:aD s'.nm nv with
      |true=>
       have HF:Hid (ao t s= .bad s'):=by
        show ao t s=_
        rw[HM.O,HRR.O]
        show (if s'.k=k0\/aD s'.nm (t.extract k0 s'.k)=true then Res.bad s' else Res.ok (t.extract k0 s'.k) s')=_
        rw[if_pos (Or.inr (by rw[<-HKV.O,HNV.O];exact htk))]
       rw[htk]at KT
       clear hsz hnsz htk
       go_wp2_with fail
       refine (KL.O wr HG.O).mono ?_
       rintro e w2 ⟨rfl,n2,rfl⟩
       go_wp2_with fail
       go_quiet (fail)
       go_wp2_with fail
       refine (KT.O _ (by first|exact HG.O|exact HG.O.drewN _|exact (HG.O.drewN _).drewN _|exact ((HG.O.drewN _).drewN _).drewN _|exact (((HG.O.drewN _).drewN _).drewN _).drewN _)).mono ?_
       rintro e w9 ⟨rfl,rfl⟩
       go_wp2_with fail
       exact ab rfl (ay.mkBad HF.O (by first|exact HG.O|exact HG.O.drewN _|exact (HG.O.drewN _).drewN _|exact ((HG.O.drewN _).drewN _).drewN _|exact (((HG.O.drewN _).drewN _).drewN _).drewN _) (by first|exact HX.O|exact HX.O.drewN _|exact (HX.O.drewN _).drewN _|exact ((HX.O.drewN _).drewN _).drewN _|exact (((HX.O.drewN _).drewN _).drewN _).drewN _))
      |false=>
       have HF:Hid (ao t s= .ok nv s'):=by
        show ao t s=_
        rw[HM.O,HRR.O]
        show (if s'.k=k0\/aD s'.nm (t.extract k0 s'.k)=true then Res.bad s' else Res.ok (t.extract k0 s'.k) s')=_
        rw[<-HKV.O,HNV.O,if_neg (by rintro (h|h);(·omega);·rw[htk]at h;cases h)]
       rw[htk]at KT
       clear hsz hnsz htk
       go_wp2_with fail
       refine (KL.O wr HG.O).mono ?_
       rintro e w2 ⟨rfl,n2,rfl⟩
       go_wp2_with fail
       go_quiet (fail)
       go_wp2_with fail
       refine (KT.O _ (by first|exact HG.O|exact HG.O.drewN _|exact (HG.O.drewN _).drewN _|exact ((HG.O.drewN _).drewN _).drewN _|exact (((HG.O.drewN _).drewN _).drewN _).drewN _)).mono ?_
       rintro e w9 ⟨rfl,rfl⟩
       go_wp2_with fail
       go_ret
       exact ay.mkOk HF.O rfl (by first|exact HG.O|exact HG.O.drewN _|exact (HG.O.drewN _).drewN _|exact ((HG.O.drewN _).drewN _).drewN _|exact (((HG.O.drewN _).drewN _).drewN _).drewN _) (by first|exact HX.O|exact HX.O.drewN _|exact (HX.O.drewN _).drewN _|exact ((HX.O.drewN _).drewN _).drewN _|exact (((HX.O.drewN _).drewN _).drewN _).drewN _)
def NP (t:ByteArray):Prop:=t=t
theorem NP.all (t:ByteArray):NP t:=rfl
theorem RG.g1 (h:RG w r mb t x s):RG (w.setCell ⟨r,4,none⟩ (.int .i64 ((s.g+1:Nat):Int))) r mb t x {s with g:=s.g+1}:=
 h.own (s':={s with g:=s.g+1}) rfl _ rfl h.hk (by
  have h1:=h.rd
  unfold RD at h1 ⊢
  simp[World.setCell,Array.getElem?_modify,h1])
theorem RG.c4 (h:RG w r mb t x s):w.cell? ⟨r,4,none⟩=some (.int .i64 s.g):=by
 rw[cell_of_row w r 4 _ 105 (0,0) h.rd];rfl
theorem RG.fz (h:RG w r mb t x s) (o:Nat):w.frozen? ⟨r,o,none⟩=false:=by
 have:=h.rd;unfold RD at this;simp[World.frozen?,this]
theorem pu {b:UInt8} {u:Unit} (h:aw t s b= .ok u s'):s'.g=s.g:=by
 unfold aw at h
 split at h
 ·cases h;rfl
 ·cases h
theorem wX {b:UInt8} {u:Unit} (h:aw t s b= .ok u s'):s'.nm=s.nm:=by
 unfold aw at h
 split at h
 ·cases h;rfl
 ·cases h
theorem nZ {i:Nat}:∀(n:Nat) (s s':RS),aZ t i n s= .ok () s' ->s'.nm=s.nm/\s'.g=s.g/\s.k<=s'.k/\s'.k<=max s.k t.size
 |0,s,s',h=>by cases h;exact⟨rfl,rfl,Nat.le_refl _,by omega⟩
 |n+1,s,s',h=>by
  unfold aZ at h
  split at h
  ·cases h
  ·next b hb=>
   split at h
   ·split at h
    ·cases h
    ·have h1:=nZ n s.up s' h
     have h2:=(cP hb).1
     simp only[RS.up]at h1
     exact⟨h1.1,h1.2.1,by omega,by omega⟩
   ·cases h;exact⟨rfl,rfl,Nat.le_refl _,by omega⟩
theorem pi {n:ByteArray} (h:ao t s= .ok n s'):aD s'.nm n=false/\n.size<=t.size/\s'.g=s.g:=by
 unfold ao at h
 obtain⟨_,s1,h1,h2⟩:=Res.bind_eq_ok h
 split at h2
 ·cases h2
 ·next hc=>
  cases h2
  refine⟨by rw[Bool.eq_false_iff];exact fun e=>hc (Or.inr e),?_,(nZ 8 s _ h1).2.1⟩
  rw[ByteArray.size_extract];omega
theorem wo (h:RG w r mb t x s) (hnp:NP t) (hg5:s.g<=5):
  Calls Tryz.prog 262 #[.pointer (some ⟨r,0,none⟩)] w fun e w'=>ay [r,mb] r mb t x w (fun _ v (n:Nat)=>v= .int .i64 (n:Int)) (al t s) e w':=by
 have hlt:=h.lt
 have ht:=h.ht
 have h4:=h.c4
 have hf4:=h.fz 4
 have H:=aa h
 have HNP:=aa hnp
 clear h hnp
 by_cases h5:s.g=5
 ·have e5:((s.g:Int)==5)=true:=by simp;omega
  go_enter Tryz.func262,Tryz.ntmps262
  go_wp2_with fail
  refine (gL H.O 63 63 rfl).mono ?_
  rintro e w1 hp
  rcases hp.split with⟨_,s1,v,hm,rfl,rfl,hg1,hx1⟩|⟨s',hm,rfl,hg,hx⟩
  rotate_left
  ·exact ab rfl (ay.mkBad (by unfold al;rw[if_neg (by simp[h5]),hm];rfl) hg (hx.drop (by simp)))
  have HS1:Hid (s1=s.up):=by
   show s1=s.up
   unfold aw at hm
   split at hm
   ·cases hm;rfl
   ·cases hm
  have M1:Hid (al t s=if ac t s1 58 then .ok 0 s1.up else if s1.g=5 then .bad s1 else (aw t s1 80).bind fun _ s2=>(aw t s2 60).bind fun _ s3=>(ao t s3).bind fun n s4=>(aw t s4 62).bind fun _ s5=>
   .ok (s5.g+1) {s5 with g:=s5.g+1,nm:=s5.nm++[(n,s5.g+1)]}):=by show al t s=_;unfold al;rw[if_neg (by simp[h5]),hm];rfl
  have G1:=aa hg1
  have X1:=aa hx1
  clear hp hm hg1 hx1 h4 hf4
  go_wp2_with fail
  refine (de G1.O 58 58 rfl).mono ?_
  rintro e w2 ⟨rfl,hg2,hx2⟩
  cases hq:ac t s1 58 with
  |true=>
   rw[ck hq]at hg2
   have HM:Hid (al t s= .ok 0 s1.up):=by show al t s=_;rw[M1.O,if_pos hq]
   have G2:=aa hg2
   have X2:=aa (X1.O.trans hx2)
   clear hq hg2 hx2
   go_wp2_with fail
   go_ret
   exact ay.mkOk HM.O rfl G2.O (X2.O.drop (by simp))
  |false=>
   rw[cU hq]at hg2
   have HM:Hid (al t s= .bad s1):=by show al t s=_;rw[M1.O,if_neg (by simp[hq]),if_pos (by rw[HS1.O];exact h5)]
   have hev:=hg2.ev
   have G2:=aa hg2
   have X2:=aa (X1.O.trans hx2)
   clear hq hg2 hx2
   go_wp2_with fail
   exact ab rfl (ay.mkBad HM.O G2.O (X2.O.drop (by simp)))
 ·have e5:((s.g:Int)==5)=false:=by rw[beq_eq_false_iff_ne];omega
  go_enter Tryz.func262,Tryz.ntmps262
  go_wp2_with fail
  refine (wv H.O 63 63 rfl).mono ?_
  rintro e w0 ⟨rfl,n0,hw0⟩
  have hg0:RG w0 r mb t x s:=by rw[hw0];exact H.O.drewN _
  have hx0:Ex [r,mb] w w0:=by rw[hw0];exact (Ex.refl _ _).drewN _
  have h04:=hg0.c4
  have hf04:=hg0.fz 4
  have hl0:=hg0.lt
  have G0:=aa hg0
  have X0:=aa hx0
  clear hw0 hg0 hx0 h4 hf4
  cases hq0:ac t s 63 with
  |false=>
   have HM:Hid (al t s= .ok (s.g+1) {s with g:=s.g+1}):=by show al t s=_;unfold al;rw[if_pos ⟨h5,hq0⟩]
   clear hq0
   go_wp2_with fail
   go_ret
   refine ay.mkOk HM.O (by simp) ?_ (X0.O.setCell (Or.inl (by simp)) _)
   have:=G0.O.g1
   simpa using this
  |true=>
   have HQ0:=aa hq0
   have HM0:Hid (aw t s 63= .ok () s.up):=oy hq0
   clear hq0
   go_wp2_with fail
   refine (gL G0.O 63 63 rfl).mono ?_
   rintro e w1 hp
   rcases hp.split with⟨_,s1,v,hm,rfl,rfl,hg1,hx1⟩|⟨s',hm,rfl,hg,hx⟩
   rotate_left
   ·rw[HM0.O]at hm;cases hm
   have hs1:s.up=s1:=by rw[HM0.O]at hm;cases hm;rfl
   have M1:Hid (al t s=if ac t s1 58 then .ok 0 s1.up else if s1.g=5 then .bad s1 else (aw t s1 80).bind fun _ s2=>(aw t s2 60).bind fun _ s3=>(ao t s3).bind fun n s4=>(aw t s4 62).bind fun _ s5=>
    .ok (s5.g+1) {s5 with g:=s5.g+1,nm:=s5.nm++[(n,s5.g+1)]}):=by show al t s=_;unfold al;rw[if_neg (by simp[HQ0.O]),hm];rfl
   have hs1g:¬s1.g=5:=by rw[<-hs1];exact h5
   have hs1g2:s1.g=s.g:=by rw[<-hs1];rfl
   have G1:=aa hg1
   have X1:=aa (X0.O.trans (hx1.drop (by simp)))
   clear hp hm hg1 hx1 h04 hf04 hs1
   go_wp2_with fail
   refine (de G1.O 58 58 rfl).mono ?_
   rintro e w2 ⟨rfl,hg2,hx2⟩
   cases hq:ac t s1 58 with
   |true=>
    rw[ck hq]at hg2
    have HM:Hid (al t s= .ok 0 s1.up):=by show al t s=_;rw[M1.O,if_pos hq]
    have G2:=aa hg2
    have X2:=aa (X1.O.trans (hx2.drop (by simp)))
    clear hq hg2 hx2
    go_wp2_with fail
    go_ret
    exact ay.mkOk HM.O rfl G2.O X2.O
   |false=>
    rw[cU hq]at hg2
    have M2:Hid (al t s=(aw t s1 80).bind fun _ s2=>(aw t s2 60).bind fun _ s3=>(ao t s3).bind fun n s4=>(aw t s4 62).bind fun _ s5=>
     .ok (s5.g+1) {s5 with g:=s5.g+1,nm:=s5.nm++[(n,s5.g+1)]}):=by show al t s=_;rw[M1.O,if_neg (by simp[hq]),if_neg hs1g]
    have G2:=aa hg2
    have X2:=aa (X1.O.trans (hx2.drop (by simp)))
    clear hq hg2 hx2
    go_wp2_with fail
    refine (gL G2.O 80 80 rfl).mono ?_
    rintro e w3 hp
    rcases hp.split with⟨_,s3,v,hm,rfl,rfl,hg3,hx3⟩|⟨s',hm,rfl,hg,hx⟩
    rotate_left
    ·exact ab rfl (ay.mkBad (by rw[M2.O,hm];rfl) hg (X2.O.trans (hx.drop (by simp))))
    have M3:Hid (al t s=(aw t s3 60).bind fun _ s3=>(ao t s3).bind fun n s4=>(aw t s4 62).bind fun _ s5=>
     .ok (s5.g+1) {s5 with g:=s5.g+1,nm:=s5.nm++[(n,s5.g+1)]}):=by show al t s=_;rw[M2.O,hm,Res.bind_ok]
    have G3:=aa hg3
    have X3:=aa (X2.O.trans (hx3.drop (by simp)))
    have hg3':s3.g=s1.g:=pu hm
    clear hp hm hg3 hx3
    go_wp2_with fail
    refine (gL G3.O 60 60 rfl).mono ?_
    rintro e w4 hp
    rcases hp.split with⟨_,s4,v,hm,rfl,rfl,hg4,hx4⟩|⟨s',hm,rfl,hg,hx⟩
    rotate_left
    ·exact ab rfl (ay.mkBad (by rw[M3.O,hm];rfl) hg (X3.O.trans (hx.drop (by simp))))
    have M4:Hid (al t s=(ao t s4).bind fun n s4=>(aw t s4 62).bind fun _ s5=>
     .ok (s5.g+1) {s5 with g:=s5.g+1,nm:=s5.nm++[(n,s5.g+1)]}):=by show al t s=_;rw[M3.O,hm,Res.bind_ok]
    have G4:=aa hg4
    have X4:=aa (X3.O.trans (hx4.drop (by simp)))
    have hg4':s4.g=s3.g:=pu hm
    clear hp hm hg4 hx4
    go_wp2_with fail
    refine (sw G4.O).mono ?_
    rintro e w5 hp
    rcases hp.split with⟨nv,s5,v,hm,rfl,rfl,hg5',hx5⟩|⟨s',hm,rfl,hg,hx⟩
    rotate_left
    ·exact ab rfl (ay.mkBad (by rw[M4.O,hm];rfl) hg (X4.O.trans (hx.drop (by simp))))
    have M5:Hid (al t s=(aw t s5 62).bind fun _ s6=> .ok (s6.g+1) {s6 with g:=s6.g+1,nm:=s6.nm++[(nv,s6.g+1)]}):=by show al t s=_;rw[M4.O,hm,Res.bind_ok]
    have G5:=aa hg5'
    have X5:=aa (X4.O.trans (hx5.drop (by simp)))
    have hgn:=pi hm
    have HGN:=aa hgn
    clear hp hm hg5' hx5 hgn
    go_wp2_with fail
    refine (gL G5.O 62 62 rfl).mono ?_
    rintro e w6 hp
    rcases hp.split with⟨_,s6,v,hm,rfl,rfl,hg6,hx6⟩|⟨s',hm,rfl,hg,hx⟩
    rotate_left
    ·exact ab rfl (ay.mkBad (by rw[M5.O,hm];rfl) hg (X5.O.trans (hx.drop (by simp))))
    have M6:Hid (al t s= .ok (s6.g+1) {s6 with g:=s6.g+1,nm:=s6.nm++[(nv,s6.g+1)]}):=by show al t s=_;rw[M5.O,hm,Res.bind_ok]
    have hnm6:s6.nm=s5.nm:=wX hm
    have hnsz:nv.size<=60:=by have h1:=HGN.O.2.1;have h2:=G5.O.ht;omega
    have htk:aD s6.nm nv=false:=by rw[hnm6];exact HGN.O.1
    have h64:=hg6.c4
    have h65:=hg6.c5
    have hf64:=hg6.fz 4
    have hl6:=hg6.lt
    have hmrm:=hg6.rm
    have G6:=aa hg6
    have X6:=aa (X5.O.trans (hx6.drop (by simp)))
    have HTK:=aa htk
    have hgb:(s6.g:Int)+1<=1000000:=by have h1:=HGN.O.2.2;have h2:=pu hm;omega
    obtain⟨gg,hgg⟩:=exq (s6.g)
    rw[<-hgg]at h64 hgb
    have HGG:=aa hgg
    clear hp hm hg6 hx6 htk hgg hnm6
    go_wp2_with fail
    generalize hW:World.setCell w6 _ _=W
    have hgW:RG W r mb t x {s6 with g:=s6.g+1}:=by
     have h1:=G6.O.g1
     rw[<-HGG.O]at h1 ⊢
     rw[<-hW]
     simpa using h1
    have hxW:Ex [r,mb] w W:=by rw[<-hW];exact X6.O.setCell (Or.inl (by simp)) _
    have HGW:=aa hgW
    have HXW:=aa hxW
    have hlW:=hgW.lt
    have hmW:=hgW.mlt
    have t5:=hgW.c5
    have t4:W.cell? ⟨r,4,none⟩=some (.int .i64 ((gg:Int)+1)):=by have h1:=hgW.c4;simp only[<-HGG.O]at h1;simpa using h1
    have KC:=aa (fun (w':World)=>nK nv w' (by omega))
    clear hW hgW hxW h64 h65 hf64
    go_region_held3 (fun w'=>w'.cell? ⟨r,5,none⟩=some (.map (some mb))/\w'.cell? ⟨r,4,none⟩=some (.int .i64 ((gg:Int)+1)))
     (first|exact⟨q5',q4'⟩|exact⟨q5,q4⟩|exact⟨t5,t4⟩)
     (first
      |(go_at_call 120;refine (KC.O _).mono ?_;rintro e w7 ⟨rfl,hx7⟩;have hg7:=HGW.O.drew.ex0 hx7;have q5:=hg7.c5;have q4:w7.cell? ⟨r,4,none⟩=some (.int .i64 ((gg:Int)+1)):=(by have h1:=hg7.c4;simp only[<-HGG.O]at h1;simpa using h1);have hput:=zK (gg+1) hg7.mp hg7.nk hnsz HTK.O;rw[show ((gg+1:Nat):Int)=(gg:Int)+1 by simp]at hput;obtain⟨w8,hw8⟩:∃w8,w8=my w7 mb (.map (nmE (s6.nm++[(nv,gg+1)])) (s6.nm++[(nv,gg+1)]).length):=⟨_,rfl⟩;rw[<-hw8]at hput;have hx8:Ex [mb] w7 w8:=(by rw[hw8];exact tW _ _ _);have HW8:=aa hw8;clear hw8;have q5':=(hx8.cell.1 r 5 hg7.lt (by simpa using hmrm)).trans q5;have q4':=(hx8.cell.1 r 4 hg7.lt (by simpa using hmrm)).trans q4))
    have hg8:RG w8 r mb t x {s6 with g:=s6.g+1,nm:=s6.nm++[(nv,s6.g+1)]}:=by
     refine⟨hg7.rd.ex hx8 (by simpa using hmrm),?_,(hx8.cell.1 _ _ hg7.elt (by simpa using hg7.me.symm)).trans hg7.ev,hg7.rm,hg7.re,hg7.me,hg7.hk,hg7.ht,fun y hy=> ?_⟩
     ·rw[HW8.O,<-HGG.O];exact tV hg7.mp
     ·rcases List.mem_append.1 hy with hy|hy
      ·exact hg7.nk y hy
      ·simp at hy;subst hy;exact hnsz
    have G8:=aa hg8
    have X8:=aa (HXW.O.trans ((((Ex.refl [r,mb] W).drew).trans (hx7.drop (by simp))).trans (hx8.drop (by simp))))
    have hl8:=hg8.lt
    clear hg7 hx7 hx8 hput hg8 q5 q4 t5 t4
    go_wp2_with fail
    go_ret
    exact ay.mkOk M6.O (by rw[HGG.O];simp) G8.O X8.O
end Go.Proofs.YtfnanjbleifjkaaGreatDoor.G
