import Derived.Test.YtfnanjbleifjkaaGreatDoorM26
import Derived.Test.YtfnanjbleifjkaaGreatDoorM28
set_option linter.unusedVariables false
set_option linter.unusedSimpArgs false
set_option maxHeartbeats 4000000
set_option maxRecDepth 100000
namespace Go.Proofs.YtfnanjbleifjkaaGreatDoor.G
variable {g i k n pl:Nat} {sp:List (Int×Int)} {op sl:List Int} {K:List Ti} {w w':World} {e:TypeId}
def fE:List (Int×Int) ->List Int ->Mk ->List (Int×Int)×List Int
 |sp,op,[]=>(sp,op)
 |sp,op,y::m=>if y.1%2=0 then fE sp (op.set (y.1/2+1) (y.2:Int)) m else fE (sp.set (y.1/2+1) (op.getD (y.1/2+1) 0,(y.2:Int))) op m
theorem lu (sp:List (Int×Int)) (op:List Int) (n pl:Nat) (m:Mk) (hn:1<=n):fE sp op ((beg n,pl)::m)=fE sp (op.set n (pl:Int)) m:=by
 rw[fE]
 unfold beg
 dsimp only
 rw[if_pos (by omega),show 2*(n-1)/2+1=n by omega]
theorem lw (sp:List (Int×Int)) (op:List Int) (n pl:Nat) (m:Mk) (hn:1<=n):fE sp op ((beg n+1,pl)::m)=fE (sp.set n (op.getD n 0,(pl:Int))) op m:=by
 rw[fE]
 unfold beg
 dsimp only
 rw[if_neg (by omega),show (2*(n-1)+1)/2+1=n by omega]
def TkG (g:Nat):Tk ->Prop
 |.ex x=>GLe g x
 |.gend n=>1<=n/\n<=g
 |.rend x _ _=>GLe g x
def KG (g:Nat) (k:List Tk):Prop:=∀t∈k,TkG g t
theorem KG.tail {t:Tk} {k:List Tk} (h:KG g (t::k)):KG g k:=fun x hx=>h x (List.mem_cons_of_mem _ hx)
theorem KG.head {t:Tk} {k:List Tk} (h:KG g (t::k)):TkG g t:=h t (List.mem_cons_self ..)
theorem KG.cons {t:Tk} {k:List Tk} (h:TkG g t) (hk:KG g k):KG g (t::k):=fun x hx=>by
 rcases List.mem_cons.1 hx with rfl|hx
 ·exact h
 ·exact hk x hx
theorem KG.old {k:List Tk} (h:KG g k):KG g (dF k):=fun t ht=>by
 obtain⟨u,hu,rfl⟩:=List.mem_map.1 ht
 have:=h u hu
 cases u<;>exact this
theorem wx {k:List Tk}:Tk.gend n∈dF k↔Tk.gend n∈k:=by
 unfold dF
 rw[List.mem_map]
 constructor
 ·rintro⟨t,ht,e⟩
  cases t with
  |ex x=>cases e
  |gend m=>cases e;exact ht
  |rend x z f=>cases e
 ·intro h
  exact⟨_,h,rfl⟩
structure lh (g:Nat) (K:List Tk) (sp:List (Int×Int)) (op sl:List Int):Prop where
 l1:sp.length=g+1
 l2:op.length=g+1
 l3:sl.length=10
 rel:∀n,1<=n ->n<=g ->(sp.getD n (0,0)).2=sl.getD (2*n-1) 0/\(Tk.gend n∈K ->op.getD n 0=sl.getD (2*n-2) 0)/\(Tk.gend n∉K ->(sp.getD n (0,0)).1=sl.getD (2*n-2) 0)
theorem lh.congr {K K':List Tk} (h:lh g K sp op sl) (e:∀n,Tk.gend n∈K'↔Tk.gend n∈K):lh g K' sp op sl:=
 ⟨h.l1,h.l2,h.l3,fun n h1 h2=>by
  obtain⟨a,b,c⟩:=h.rel n h1 h2
  exact⟨a,fun hm=>b ((e n).1 hm),fun hm=>c (fun hm2=>hm ((e n).2 hm2))⟩⟩
theorem fK {α:Type} (l:List α) (i j:Nat) (x d:α) (hi:i<l.length):(l.set i x).getD j d=if i=j then x else l.getD j d:=by
 rw[List.getD_eq_getElem?_getD,List.getElem?_set]
 by_cases h:i=j
 ·subst h;simp[hi]
 ·rw[if_neg h,if_neg h,List.getD_eq_getElem?_getD]
theorem lh.beg {k:List Tk} {a:Xp} (hg:g<=5) (hn:1<=n/\n<=g) (h:lh g (.ex (.grp a n)::k) sp op sl):lh g (.ex a:: .gend n::k) sp (op.set n (pl:Int)) (sl.set (beg n) (pl:Int)):=by
 have l1:=h.l1
 have l2:=h.l2
 have l3:=h.l3
 unfold G.beg
 refine⟨l1,by rw[List.length_set];exact l2,by rw[List.length_set];exact l3,fun m h1 h2=> ?_⟩
 obtain⟨r1,r2,r3⟩:=h.rel m h1 h2
 simp only[List.mem_cons,reduceCtorEq,false_or]at r2 r3 ⊢
 rw[fK _ _ _ _ _ (by omega),fK _ _ _ _ _ (by omega),fK _ _ _ _ _ (by omega),if_neg (by omega)]
 refine⟨r1,fun hm=> ?_,fun hm=> ?_⟩
 ·by_cases e:n=m
  ·rw[if_pos e,if_pos (by omega)]
  ·rw[if_neg e,if_neg (by omega)]
   rcases hm with hm|hm
   ·exact absurd (by injection hm with hm;exact hm.symm) e
   ·exact r2 hm
 ·have e:¬n=m:=fun e=>hm (.inl (by rw[e]))
  rw[if_neg (by omega)]
  exact r3 (fun h9=>hm (.inr h9))
theorem lh.fin {k:List Tk} (hg:g<=5) (hn:1<=n/\n<=g) (h:lh g (.gend n::k) sp op sl):lh g k (sp.set n (op.getD n 0,(pl:Int))) op (sl.set (G.beg n+1) (pl:Int)):=by
 have l1:=h.l1
 have l2:=h.l2
 have l3:=h.l3
 unfold G.beg
 refine⟨by rw[List.length_set];exact l1,l2,by rw[List.length_set];exact l3,fun m h1 h2=> ?_⟩
 obtain⟨r1,r2,r3⟩:=h.rel m h1 h2
 simp only[List.mem_cons,Tk.gend.injEq]at r2 r3
 rw[fK _ _ _ _ _ (by omega),fK _ _ _ _ _ (by omega),fK _ _ _ _ _ (by omega)]
 by_cases e:n=m
 ·subst e
  rw[if_pos rfl,if_pos (by omega),if_neg (by omega)]
  exact⟨rfl,fun _=>r2 (.inl rfl),fun _=>r2 (.inl rfl)⟩
 ·rw[if_neg e,if_neg (by omega),if_neg (by omega)]
  exact⟨r1,fun hm=>r2 (.inr hm),fun hm=>r3 (fun h9=>by
   rcases h9 with h9|h9
   ·exact e h9.symm
   ·exact hm h9)⟩
theorem cA {z:Bool} {a b:Option Mk} {m:Mk} (h:bV z a b=some m):a=some m\/b=some m:=by
 unfold bV at h
 cases z with
 |false=>
  cases a with
  |none=>simp at h;exact .inr h
  |some x=>simp at h;exact .inl (by rw[h])
 |true=>
  cases b with
  |none=>simp at h;exact .inl h
  |some x=>simp at h;exact .inr (by rw[h])
theorem py {a b:Option Mk} {m:Mk} (h:a.or b=some m):a=some m\/b=some m:=by
 cases a with
 |none=>simp at h;exact .inr h
 |some x=>simp at h;exact .inl (by rw[h])
theorem zx (hg:g<=5):∀(N:Nat) (l:List (Nat×Nat)),l.length<=N ->∀(M:Nat) (K:List Tk),ksz K<=M ->∀(pl:Nat) (ms:Mk) (sp:List (Int×Int)) (op sl:List Int),ev l pl K=some ms ->KG g K ->lh g K sp op sl ->lh g [] (fE sp op ms).1 (fE sp op ms).2 (app sl ms):=by
 intro N
 induction N with
 |zero=>
  intro l hl
  have e:l=[]:=List.length_eq_zero_iff.1 (by omega)
  subst e
  intro M
  induction M with
  |zero=>
   intro K hK pl ms sp op sl h hk hr
   match K,hK with
   |[],_=>rw[em]at h;simp at h;subst h;exact hr
   |t::k,hK=>exfalso;cases t with
    |ex x=>cases x<;>simp[ksz,Tk.sz,Xp.sz]at hK
    |gend n=>simp[ksz,Tk.sz]at hK
    |rend x z f=>cases f<;>simp[ksz,Tk.sz]at hK
  |succ M ih=>
   intro K hK pl ms sp op sl h hk hr
   match K,hK,h,hk,hr with
   |[],_,h,_,hr=>rw[em]at h;simp at h;subst h;exact hr
   |.gend n::k,hK,h,hk,hr=>
    rw[eC]at h
    obtain⟨m,h1,rfl⟩:=Option.map_eq_some_iff.1 h
    have hn:=hk.head
    rw[lw _ _ _ _ _ hn.1,je]
    exact ih k (by simp[ksz,Tk.sz]at hK;omega) pl m _ _ _ h1 hk.tail (hr.fin hg hn)
   |.rend x z true::k,hK,h,hk,hr=>rw[dJ]at h;cases h
   |.rend x z false::k,hK,h,hk,hr=>
    rw[eP]at h
    rcases cA h with h|h
    ·exact ih _ (by simp[ksz,Tk.sz]at hK ⊢;omega) pl ms _ _ _ h (.cons hk.head (.cons hk.head hk.tail)) (hr.congr (fun n=>by simp))
    ·exact ih _ (by simp[ksz,Tk.sz]at hK ⊢;omega) pl ms _ _ _ h hk.tail (hr.congr (fun n=>by simp))
   |.ex .emp::k,hK,h,hk,hr=>
    rw[gc]at h
    exact ih _ (by simp[ksz,Tk.sz,Xp.sz]at hK ⊢;omega) pl ms _ _ _ h hk.tail (hr.congr (fun n=>by simp))
   |.ex (.set c)::k,hK,h,hk,hr=>rw[gj]at h;cases h
   |.ex (.cat a b)::k,hK,h,hk,hr=>
    rw[f0]at h
    exact ih _ (by simp[ksz,Tk.sz,Xp.sz]at hK ⊢;omega) pl ms _ _ _ h (.cons hk.head.1 (.cons hk.head.2 hk.tail)) (hr.congr (fun n=>by simp))
   |.ex (.alt a b)::k,hK,h,hk,hr=>
    rw[fA]at h
    rcases py h with h|h
    ·exact ih _ (by simp[ksz,Tk.sz,Xp.sz]at hK ⊢;omega) pl ms _ _ _ h (.cons hk.head.1 hk.tail) (hr.congr (fun n=>by simp))
    ·exact ih _ (by simp[ksz,Tk.sz,Xp.sz]at hK ⊢;omega) pl ms _ _ _ h (.cons hk.head.2 hk.tail) (hr.congr (fun n=>by simp))
   |.ex (.star a z)::k,hK,h,hk,hr=>
    rw[ed]at h
    rcases cA h with h|h
    ·exact ih _ (by simp[ksz,Tk.sz,Xp.sz]at hK ⊢;omega) pl ms _ _ _ h (.cons hk.head (.cons hk.head hk.tail)) (hr.congr (fun n=>by simp))
    ·exact ih _ (by simp[ksz,Tk.sz,Xp.sz]at hK ⊢;omega) pl ms _ _ _ h hk.tail (hr.congr (fun n=>by simp))
   |.ex (.may a z)::k,hK,h,hk,hr=>
    rw[gh]at h
    rcases cA h with h|h
    ·exact ih _ (by simp[ksz,Tk.sz,Xp.sz]at hK ⊢;omega) pl ms _ _ _ h (.cons hk.head hk.tail) (hr.congr (fun n=>by simp))
    ·exact ih _ (by simp[ksz,Tk.sz,Xp.sz]at hK ⊢;omega) pl ms _ _ _ h hk.tail (hr.congr (fun n=>by simp))
   |.ex (.grp a n)::k,hK,h,hk,hr=>
    rw[gd]at h
    obtain⟨m,h1,rfl⟩:=Option.map_eq_some_iff.1 h
    have hn:1<=n/\n<=g:=⟨hk.head.1,hk.head.2.1⟩
    rw[lu _ _ _ _ _ hn.1,je]
    exact ih _ (by simp[ksz,Tk.sz,Xp.sz]at hK ⊢;omega) pl m _ _ _ h1 (.cons hk.head.2.2 (.cons (show TkG g (.gend n)from hn) hk.tail)) (hr.beg hg hn)
 |succ N IH=>
  intro l hl M
  induction M with
  |zero=>
   intro K hK pl ms sp op sl h hk hr
   match K,hK with
   |[],_=>
    rw[em]at h
    split at h
    ·cases h;exact hr
    ·cases h
   |t::k,hK=>exfalso;cases t with
    |ex x=>cases x<;>simp[ksz,Tk.sz,Xp.sz]at hK
    |gend n=>simp[ksz,Tk.sz]at hK
    |rend x z f=>cases f<;>simp[ksz,Tk.sz]at hK
  |succ M ih=>
   intro K hK pl ms sp op sl h hk hr
   match K,hK,h,hk,hr with
   |[],_,h,_,hr=>
    rw[em]at h
    split at h
    ·cases h;exact hr
    ·cases h
   |.gend n::k,hK,h,hk,hr=>
    rw[eC]at h
    obtain⟨m,h1,rfl⟩:=Option.map_eq_some_iff.1 h
    have hn:=hk.head
    rw[lw _ _ _ _ _ hn.1,je]
    exact ih k (by simp[ksz,Tk.sz]at hK;omega) pl m _ _ _ h1 hk.tail (hr.fin hg hn)
   |.rend x z true::k,hK,h,hk,hr=>rw[dJ]at h;cases h
   |.rend x z false::k,hK,h,hk,hr=>
    rw[eP]at h
    rcases cA h with h|h
    ·exact ih _ (by simp[ksz,Tk.sz]at hK ⊢;omega) pl ms _ _ _ h (.cons hk.head (.cons hk.head hk.tail)) (hr.congr (fun n=>by simp))
    ·exact ih _ (by simp[ksz,Tk.sz]at hK ⊢;omega) pl ms _ _ _ h hk.tail (hr.congr (fun n=>by simp))
   |.ex .emp::k,hK,h,hk,hr=>
    rw[gc]at h
    exact ih _ (by simp[ksz,Tk.sz,Xp.sz]at hK ⊢;omega) pl ms _ _ _ h hk.tail (hr.congr (fun n=>by simp))
   |.ex (.set c)::k,hK,h,hk,hr=>
    cases l with
    |nil=>rw[gj]at h;cases h
    |cons x l=>
     obtain⟨r,p⟩:=x
     rw[fB]at h
     split at h
     ·exact IH l (by simp at hl;omega) _ _ (Nat.le_refl _) p ms _ _ _ h hk.tail.old (hr.congr (fun n=>by rw[wx];simp))
     ·cases h
   |.ex (.cat a b)::k,hK,h,hk,hr=>
    rw[f0]at h
    exact ih _ (by simp[ksz,Tk.sz,Xp.sz]at hK ⊢;omega) pl ms _ _ _ h (.cons hk.head.1 (.cons hk.head.2 hk.tail)) (hr.congr (fun n=>by simp))
   |.ex (.alt a b)::k,hK,h,hk,hr=>
    rw[fA]at h
    rcases py h with h|h
    ·exact ih _ (by simp[ksz,Tk.sz,Xp.sz]at hK ⊢;omega) pl ms _ _ _ h (.cons hk.head.1 hk.tail) (hr.congr (fun n=>by simp))
    ·exact ih _ (by simp[ksz,Tk.sz,Xp.sz]at hK ⊢;omega) pl ms _ _ _ h (.cons hk.head.2 hk.tail) (hr.congr (fun n=>by simp))
   |.ex (.star a z)::k,hK,h,hk,hr=>
    rw[ed]at h
    rcases cA h with h|h
    ·exact ih _ (by simp[ksz,Tk.sz,Xp.sz]at hK ⊢;omega) pl ms _ _ _ h (.cons hk.head (.cons hk.head hk.tail)) (hr.congr (fun n=>by simp))
    ·exact ih _ (by simp[ksz,Tk.sz,Xp.sz]at hK ⊢;omega) pl ms _ _ _ h hk.tail (hr.congr (fun n=>by simp))
   |.ex (.may a z)::k,hK,h,hk,hr=>
    rw[gh]at h
    rcases cA h with h|h
    ·exact ih _ (by simp[ksz,Tk.sz,Xp.sz]at hK ⊢;omega) pl ms _ _ _ h (.cons hk.head hk.tail) (hr.congr (fun n=>by simp))
    ·exact ih _ (by simp[ksz,Tk.sz,Xp.sz]at hK ⊢;omega) pl ms _ _ _ h hk.tail (hr.congr (fun n=>by simp))
   |.ex (.grp a n)::k,hK,h,hk,hr=>
    rw[gd]at h
    obtain⟨m,h1,rfl⟩:=Option.map_eq_some_iff.1 h
    have hn:1<=n/\n<=g:=⟨hk.head.1,hk.head.2.1⟩
    rw[lu _ _ _ _ _ hn.1,je]
    exact ih _ (by simp[ksz,Tk.sz,Xp.sz]at hK ⊢;omega) pl m _ _ _ h1 (.cons hk.head.2.2 (.cons (show TkG g (.gend n)from hn) hk.tail)) (hr.beg hg hn)
theorem rM (hg:g<=5) {X:Xp} (hX:GLe g X) {l:List (Nat×Nat)} {ms:Mk} (h:ev l pl [.ex X]=some ms) (len:Int):
  ((fE (List.replicate (g+1) (-1,-1)) (List.replicate (g+1) 0) ms).1.set 0 (0,len))=bv len (app bh ms) g:=by
 have hr:=zx hg l.length l (Nat.le_refl _) _ _ (Nat.le_refl _) pl ms (List.replicate (g+1) (-1,-1)) (List.replicate (g+1) 0) bh h (KG.cons hX (fun t ht=>by cases ht)) ⟨by simp,by simp,rfl,fun n h1 h2=>by
  have e1:(List.replicate (g+1) ((-1:Int),(-1:Int))).getD n (0,0)=(-1,-1):=by
   rw[List.getD_eq_getElem?_getD,List.getElem?_replicate,if_pos (by omega)];rfl
  have e2:∀j,j<10 ->bh.getD j 0= -1:=by decide
  rw[e1,e2 _ (by omega),e2 _ (by omega)]
  exact⟨rfl,fun hm=>by simp at hm,fun _=>rfl⟩⟩
 obtain⟨l1,l2,l3,rel⟩:=hr
 apply List.ext_getElem?
 intro i
 unfold bv
 cases i with
 |zero=>
  rw[List.getElem?_set_self (by rw[l1];omega)]
  rfl
 |succ i=>
  rw[List.getElem?_set_ne (by omega),List.getElem?_cons_succ,List.getElem?_map]
  by_cases hi:i<g
  ·rw[List.getElem?_range hi,List.getElem?_eq_getElem (by rw[l1];omega)]
   obtain⟨r1,_,r3⟩:=rel (i+1) (by omega) (by omega)
   have r4:=r3 (by simp)
   have e:∀(L:List (Int×Int)) (hL:i+1<L.length),L.getD (i+1) (0,0)=L[i+1]:=fun L hL=>by
    rw[List.getD_eq_getElem?_getD,List.getElem?_eq_getElem hL];rfl
   rw[e _ (by rw[l1];omega)]at r1 r4
   simp only[Option.map_some,pG]
   rw[show 2*(i+1)-1=2*i+1 by omega]at r1
   rw[show 2*(i+1)-2=2*i by omega]at r4
   rw[<-r1,<-r4]
  ·rw[List.getElem?_eq_none (by rw[l1];omega),List.getElem?_eq_none (by simp;omega)]
   rfl
open Go.Lib
def szN (n b0 b1 b2 b3:Nat):Nat:=
 if (194<=b0/\b0<=223)/\(1<n/\128<=b1/\b1<192)then 2
 else if (1<n/\128<=b1/\b1<192)/\(2<n/\128<=b2/\b2<192)/\((b0=224/\160<=b1)\/(b0=237/\b1<=159)\/(225<=b0/\b0<=239/\b0≠237))then 3
 else if (1<n/\128<=b1/\b1<192)/\(2<n/\128<=b2/\b2<192)/\(3<n/\128<=b3/\b3<192)/\((b0=240/\144<=b1)\/(b0=244/\b1<=143)\/(241<=b0/\b0<=243))then 4
 else 1
theorem vR (n b0 b1 b2 b3:Nat) (h0:128<=b0) (g0:b0<256) (g1:b1<256) (g2:b2<256) (g3:b3<256):(decodeN n b0 b1 b2 b3).2=szN n b0 b1 b2 b3/\128<=(decodeN n b0 b1 b2 b3).1:=by
 unfold decodeN szN
 rw[if_neg (by omega)]
 by_cases c1:b0/32=6/\(1<n/\b1/64=2)
 ·rw[if_pos c1]
  by_cases d1:b0%32*64+b1%64≥128
  ·rw[if_pos d1,if_pos (by omega)]
   exact⟨rfl,by dsimp only;omega⟩
  ·rw[if_neg d1,if_neg (by omega),if_neg (by omega),if_neg (by omega)]
   exact⟨rfl,by decide⟩
 ·rw[if_neg c1]
  by_cases c2:b0/16=14/\(1<n/\b1/64=2)/\(2<n/\b2/64=2)
  ·rw[if_pos c2]
   by_cases d2:b0%16*4096+b1%64*64+b2%64≥2048/\(b0%16*4096+b1%64*64+b2%64<55296\/(57344<=b0%16*4096+b1%64*64+b2%64/\b0%16*4096+b1%64*64+b2%64<=1114111))
   ·rw[if_pos d2,if_neg (by omega),if_pos (by omega)]
    exact⟨rfl,by dsimp only;omega⟩
   ·rw[if_neg d2,if_neg (by omega),if_neg (by omega),if_neg (by omega)]
    exact⟨rfl,by decide⟩
  ·rw[if_neg c2]
   by_cases c3:b0/8=30/\(1<n/\b1/64=2)/\(2<n/\b2/64=2)/\(3<n/\b3/64=2)
   ·rw[if_pos c3]
    by_cases d3:b0%8*262144+b1%64*4096+b2%64*64+b3%64≥65536/\(b0%8*262144+b1%64*4096+b2%64*64+b3%64<55296\/(57344<=b0%8*262144+b1%64*4096+b2%64*64+b3%64/\b0%8*262144+b1%64*4096+b2%64*64+b3%64<=1114111))
    ·rw[if_pos d3,if_neg (by omega),if_neg (by omega),if_pos (by omega)]
     exact⟨rfl,by dsimp only;omega⟩
    ·rw[if_neg d3,if_neg (by omega),if_neg (by omega),if_neg (by omega)]
     exact⟨rfl,by decide⟩
   ·rw[if_neg c3,if_neg (by omega),if_neg (by omega),if_neg (by omega)]
    exact⟨rfl,by decide⟩
def bX (s:ByteArray) (i:Nat):Nat:=(s.get! i).toNat
theorem jg (s:ByteArray) (i:Nat):bX s i<256:=UInt8.toNat_lt _
theorem tH (s:ByteArray) (i:Nat):s.data.toList.getD i 0=s.get! i:=by
 cases s with
 |mk d=>
  show d.toList.getD i 0=d[i]!
  by_cases h:i<d.size
  ·rw[getElem!_pos d i h];simp[List.getD,h]
  ·rw[getElem!_neg d i h];simp[List.getD,h];rfl
theorem ph (s:ByteArray) (a j:Nat):(s.extract a s.size).get! j=s.get! (a+j):=by
 by_cases h:a+j<s.size
 ·rw[<-tH,<-tH,Lib.extract_data]
  simp only[List.getD,List.getElem?_take,List.getElem?_drop]
  rw[if_pos (by omega)]
 ·rw[<-tH,<-tH,Lib.extract_data]
  have hz:s.data.toList.length=s.size:=(Lib.size_eq s).symm
  simp only[List.getD,List.getElem?_take,List.getElem?_drop]
  rw[if_neg (by omega),List.getElem?_eq_none (by omega)]
theorem zr (s:ByteArray) (a:Nat) (h:a<s.size):Lib.decodeGo (s.extract a s.size)=decodeN (s.size-a) (bX s a) (bX s (a+1)) (bX s (a+2)) (bX s (a+3)):=by
 have hz:=size_extract s a s.size (Nat.le_refl _)
 unfold decodeGo
 rw[if_neg (by omega),decode_at,hz,ph,ph,ph,ph]
 rfl
def rcN (s:ByteArray) (a:Nat):Nat:=if bX s a<128 then bX s a else 128
def rzN (s:ByteArray) (a:Nat):Nat:=if bX s a<128 then 1 else szN (s.size-a) (bX s a) (bX s (a+1)) (bX s (a+2)) (bX s (a+3))
theorem tZ (s:ByteArray) (a:Nat) (h:a<s.size):rsz s a=rzN s a/\(∀c:Cls,hasC c (sY s a:Int)=hn c (rcN s a)):=by
 unfold rsz sY rcN rzN
 rw[zr s a h]
 by_cases hl:bX s a<128
 ·rw[if_pos hl,if_pos hl]
  unfold decodeN
  rw[if_pos hl]
  exact⟨rfl,fun c=>rfl⟩
 ·rw[if_neg hl,if_neg hl]
  obtain⟨h1,h2⟩:=vR (s.size-a) (bX s a) (bX s (a+1)) (bX s (a+2)) (bX s (a+3)) (by omega) (jg _ _) (jg _ _) (jg _ _) (jg _ _)
  refine⟨h1,fun c=> ?_⟩
  rw[dL _ _ (Nat.le_refl _)]
  exact dL c _ h2
def b8 (s:ByteArray):Nat ->Nat ->List (Nat×Nat×Nat)
 |0,_=>[]
 |f+1,a=>if a<s.size then (rcN s a,a,rzN s a)::b8 s f (a+rzN s a)else []
def lR (l:List (Nat×Nat×Nat)):List (Nat×Nat):=l.map fun x=>(x.1,x.2.1+x.2.2)
inductive pX:List (Nat×Nat) ->List (Nat×Nat) ->Prop
 |nil:pX [] []
 |cons {x y:Nat×Nat} {a b:List (Nat×Nat)}:(x.2=y.2/\∀c:Cls,hasC c (x.1:Int)=hasC c (y.1:Int)) ->pX a b ->pX (x::a) (y::b)
theorem yj:∀(N:Nat) (l l':List (Nat×Nat)),l.length<=N ->pX l l' ->∀(M:Nat) (K:List Tk),ksz K<=M ->∀pl,ev l pl K=ev l' pl K:=by
 intro N
 induction N with
 |zero=>
  intro l l' hl hs M K _ pl
  cases hs with
  |nil=>rfl
  |cons h hs=>simp at hl
 |succ N IH=>
  intro l l' hl hs M
  induction M with
  |zero=>
   intro K hK pl
   match K,hK with
   |[],_=>
    rw[em,em]
    cases hs<;>rfl
   |t::k,hK=>exfalso;cases t with
    |ex x=>cases x<;>simp[ksz,Tk.sz,Xp.sz]at hK
    |gend n=>simp[ksz,Tk.sz]at hK
    |rend x z f=>cases f<;>simp[ksz,Tk.sz]at hK
  |succ M ih=>
   intro K hK pl
   match K,hK with
   |[],_=>
    rw[em,em]
    cases hs<;>rfl
   |.gend n::k,hK=>rw[eC,eC,ih k (by simp[ksz,Tk.sz]at hK;omega)]
   |.rend x z true::k,hK=>rw[dJ,dJ]
   |.rend x z false::k,hK=>rw[eP,eP,ih (.ex x:: .rend x z true::k) (by simp[ksz,Tk.sz]at hK ⊢;omega),ih k (by simp[ksz,Tk.sz]at hK ⊢;omega)]
   |.ex .emp::k,hK=>rw[gc,gc];exact ih _ (by simp[ksz,Tk.sz,Xp.sz]at hK ⊢;omega) pl
   |.ex (.set c)::k,hK=>
    cases hs with
    |nil=>rfl
    |@cons x y l l' h hs=>
     obtain⟨r,p⟩:=x
     obtain⟨r',p'⟩:=y
     obtain⟨rfl,h2⟩:=h
     rw[fB,fB,h2 c]
     dsimp only
     rw[IH l l' (by simp at hl;omega) hs _ _ (Nat.le_refl _)]
   |.ex (.cat a b)::k,hK=>rw[f0,f0];exact ih _ (by simp[ksz,Tk.sz,Xp.sz]at hK ⊢;omega) pl
   |.ex (.alt a b)::k,hK=>rw[fA,fA,ih (.ex a::k) (by simp[ksz,Tk.sz,Xp.sz]at hK ⊢;omega),ih (.ex b::k) (by simp[ksz,Tk.sz,Xp.sz]at hK ⊢;omega)]
   |.ex (.star a z)::k,hK=>rw[ed,ed,ih (.ex a:: .rend a z true::k) (by simp[ksz,Tk.sz,Xp.sz]at hK ⊢;omega),ih k (by simp[ksz,Tk.sz,Xp.sz]at hK ⊢;omega)]
   |.ex (.may a z)::k,hK=>rw[gh,gh,ih (.ex a::k) (by simp[ksz,Tk.sz,Xp.sz]at hK ⊢;omega),ih k (by simp[ksz,Tk.sz,Xp.sz]at hK ⊢;omega)]
   |.ex (.grp a n)::k,hK=>rw[gd,gd,ih (.ex a:: .gend n::k) (by simp[ksz,Tk.sz,Xp.sz]at hK ⊢;omega)]
theorem oK (s:ByteArray):∀f a,pX (rns s f a) (lR (b8 s f a))
 |0,a=> .nil
 |f+1,a=>by
  unfold rns b8
  by_cases h:a<s.size
  ·obtain⟨h1,h2⟩:=tZ s a h
   rw[if_pos h,if_pos h,h1]
   exact .cons ⟨rfl,fun c=>h2 c⟩ (oK s f _)
  ·rw[if_neg h,if_neg h]
   exact .nil
theorem ox (q:Pt) (hq:POK q) (s:ByteArray):dN (bB q) s=(ev (lR (b8 s s.size 0)) 0 [.ex (den q)]).map (app bh):=by
 rw[wV q hq s,yj _ _ _ (Nat.le_refl _) (oK s s.size 0) _ _ (Nat.le_refl _)]
theorem pC (s:ByteArray) (a:Nat):1<=rzN s a:=by
 unfold rzN szN
 repeat' split
 all_goals omega
theorem pB (s:ByteArray) (a:Nat) (h:a<s.size):a+rzN s a<=s.size:=by
 have h1:=tZ s a h
 rw[<-h1.1]
 exact (sX s a h).2
structure St where
 kind:Int
 x:Int
 next:Int
 fresh:Bool
 first:Int
 second:Int
 later:Int
 lb:Nat
def St.task (s:St):Int×Int×Int×Bool:=(s.kind,s.x,s.next,s.fresh)
def NX (M:List (List Ti)) (k:Nat) (next:Int) (K:List Ti):Prop:=(next= -1/\K=[])\/∃j:Nat,next=(j:Int)/\j<k/\M[j]? =some K
def CI (M:List (List Ti)) (c:Int) (K:List Ti):Prop:=c= -1\/∃j:Nat,c=(j:Int)/\M[j]? =some K
theorem CI.more {M N:List (List Ti)} {c:Int} (h:CI M c K) (hN:∀(j:Nat) K,M[j]? =some K ->N[j]? =some K):CI N c K:=by
 rcases h with h|⟨j,h1,h2⟩
 ·exact .inl h
 ·exact .inr ⟨j,h1,hN _ _ h2⟩
theorem NX.more {M N:List (List Ti)} {c:Int} (h:NX M k c K) (hN:∀(j:Nat) K,M[j]? =some K ->N[j]? =some K) {k':Nat} (hk:k<=k'):NX N k' c K:=by
 rcases h with h|⟨j,h1,h2,h3⟩
 ·exact .inl h
 ·exact .inr ⟨j,h1,by omega,hN _ _ h3⟩
structure Ac (M:List (List Ti)) (k:Nat) (s:St) (K:List Ti):Prop where
 hd:∃t K',K=t::K'/\t.code=(s.kind,s.x,s.fresh)/\NX M k s.next K'
 fst:CI M s.first (iN K)
 snd:CI M s.second (il K)
 ltr:CI M s.later (iW K)
structure SI (U:List (List Ti)) (l:List (Nat×Nat)) (pls:Nat ->Nat) (T:List St) (M:List (List Ti)) (Ls:List (List Bool)):Prop where
 lenM:M.length=T.length
 lenL:Ls.length=T.length
 nd:M.Nodup
 inU:∀K∈M,K∈U
 st:∀(k:Nat) s K,T[k]? =some s ->M[k]? =some K ->Ac M k s K
 lost:∀(k:Nat) K bs,M[k]? =some K ->Ls[k]? =some bs ->bs.length=l.length+1/\∀i:Nat,bs[i]? =some true ->ev (l.drop i) (pls i) (erK K)=none
theorem oz {α:Type}:∀{l:List α} {i j:Nat} {x:α},l.Nodup ->l[i]? =some x ->l[j]? =some x ->i=j
 |[],i,j,x,_,h,_=>by simp at h
 |a::l,i,j,x,hn,hi,hj=>by
  rw[List.nodup_cons]at hn
  cases i with
  |zero=>
   cases j with
   |zero=>rfl
   |succ j=>
    simp at hi hj
    exact absurd (by rw[hi];exact List.mem_of_getElem? hj) hn.1
  |succ i=>
   cases j with
   |zero=>
    simp at hi hj
    exact absurd (by rw[hj];exact List.mem_of_getElem? hi) hn.1
   |succ j=>
    simp at hi hj
    rw[oz hn.2 hi hj]
section
variable {U:List (List Ti)} {l:List (Nat×Nat)} {pls:Nat ->Nat} {T:List St} {M:List (List Ti)} {Ls:List (List Bool)} {w:World} {r:Nat}
theorem SI.find (h:SI U l pls T M Ls) (hU:∀K∈U,ClU U [[]] K) (hok:∀K∈U,∀t∈K,t.OK w r) {t:Ti} {K':List Ti} (hK:(t::K')∈U) {next:Int} (hx:NX M T.length next K') {s:St} (hs:T[i]? =some s) (hm:M[i]? =some K):
  (s.kind,s.x,s.fresh)=t.code/\s.next=next↔K=t::K':=by
 have ho:=h.st i s K hs hm
 obtain⟨t2,K2,e,hc,hn⟩:=ho.hd
 subst e
 have hKU:=h.inU _ (List.mem_of_getElem? hm)
 constructor
 ·rintro⟨e1,e2⟩
  have ht:t2=t:=Ti.det (hok _ hKU t2 (List.mem_cons_self ..)) (hok _ hK t (List.mem_cons_self ..)) (hc.trans e1)
  have hk:K2=K':=by
   rw[e2]at hn
   rcases hn with⟨a1,a2⟩|⟨j,a1,a2,a3⟩
   ·rcases hx with⟨b1,b2⟩|⟨j',b1,b2,b3⟩
    ·rw[a2,b2]
    ·omega
   ·rcases hx with⟨b1,b2⟩|⟨j',b1,b2,b3⟩
    ·omega
    ·have:j=j':=by omega
     subst this
     rw[a3]at b3
     cases b3
     rfl
  rw[ht,hk]
 ·intro e
  injection e with e1 e2
  subst e1;subst e2
  refine⟨hc.symm,?_⟩
  have hne:∀j:Nat,M[j]? ≠some []:=fun j hj=>by
   obtain⟨t9,k9,e9,_⟩:=(hU _ (h.inU _ (List.mem_of_getElem? hj))).ne
   cases e9
  rcases hn with⟨a1,a2⟩|⟨j,a1,a2,a3⟩
  ·rcases hx with⟨b1,b2⟩|⟨j',b1,b2,b3⟩
   ·rw[a1,b1]
   ·rw[a2]at b3;exact absurd b3 (hne _)
  ·rcases hx with⟨b1,b2⟩|⟨j',b1,b2,b3⟩
   ·rw[b2]at a3;exact absurd a3 (hne _)
   ·rw[a1,b1,oz h.nd a3 b3]
theorem SI.push (h:SI U l pls T M Ls) {t:Ti} {K':List Ti} (hK:(t::K')∈U) (hnew:(t::K')∉M) {next:Int} (hx:NX M T.length next K') {kind x:Int} {fresh:Bool} (hc:(kind,x,fresh)=t.code) (lb:Nat):
  SI U l pls (T++[⟨kind,x,next,fresh,-1,-1,-1,lb⟩]) (M++[t::K']) (Ls++[List.replicate (l.length+1) false]):=by
 have up:∀(j:Nat) K,M[j]? =some K ->(M++[t::K'])[j]? =some K:=fun j K hj=>by
  rw[List.getElem?_append_left (List.getElem?_eq_some_iff.1 hj).1];exact hj
 refine⟨by simp[h.lenM],by simp[h.lenL],?_,fun K hk=> ?_,fun k s K hs hk=> ?_,fun k K bs hk hb=> ?_⟩
 ·rw[List.nodup_append]
  refine⟨h.nd,by simp,fun a ha b hb=> ?_⟩
  rw[List.mem_singleton]at hb
  subst hb
  exact fun e=>hnew (by rw[<-e];exact ha)
 ·rcases List.mem_append.1 hk with hk|hk
  ·exact h.inU K hk
  ·rw[List.mem_singleton]at hk;rw[hk];exact hK
 ·rcases Nat.lt_or_ge k T.length with hlt|hge
  ·rw[List.getElem?_append_left hlt]at hs
   rw[List.getElem?_append_left (by rw[h.lenM];exact hlt)]at hk
   obtain⟨⟨t2,K2,e,hc2,hn⟩,h2,h3,h4⟩:=h.st k s K hs hk
   exact⟨⟨t2,K2,e,hc2,hn.more up (Nat.le_refl _)⟩,h2.more up,h3.more up,h4.more up⟩
  ·have hkl:k=T.length:=by
    have:=(List.getElem?_eq_some_iff.1 hs).1
    simp at this
    omega
   subst hkl
   rw[List.getElem?_append_right (Nat.le_refl _),Nat.sub_self]at hs
   rw[<-h.lenM,List.getElem?_append_right (Nat.le_refl _),Nat.sub_self]at hk
   simp at hs hk
   subst hs;subst hk
   exact⟨⟨t,K',rfl,hc.symm,hx.more up (Nat.le_refl _)⟩,.inl rfl,.inl rfl,.inl rfl⟩
 ·rcases Nat.lt_or_ge k T.length with hlt|hge
  ·rw[List.getElem?_append_left (by rw[h.lenL];exact hlt)]at hb
   rw[List.getElem?_append_left (by rw[h.lenM];exact hlt)]at hk
   exact h.lost k K bs hk hb
  ·have hkl:k=T.length:=by
    have:=(List.getElem?_eq_some_iff.1 hk).1
    simp[h.lenM]at this
    omega
   subst hkl
   rw[<-h.lenL,List.getElem?_append_right (Nat.le_refl _),Nat.sub_self]at hb
   simp at hb
   subst hb
   refine⟨by simp,fun i hi=> ?_⟩
   rw[List.getElem?_replicate]at hi
   split at hi<;>simp at hi
theorem SI.upd (h:SI U l pls T M Ls) {s s':St} (hs:T[k]? =some s) (hm:M[k]? =some K) (ht:s'.task=s.task) (h1:CI M s'.first (iN K)) (h2:CI M s'.second (il K)) (h3:CI M s'.later (iW K)):SI U l pls (T.set k s') M Ls:=by
 refine⟨by rw[List.length_set];exact h.lenM,by rw[List.length_set];exact h.lenL,h.nd,h.inU,fun j sj Kj hsj hmj=> ?_,h.lost⟩
 by_cases e:k=j
 ·subst e
  rw[List.getElem?_set_self (List.getElem?_eq_some_iff.1 hs).1]at hsj
  cases hsj
  rw[hm]at hmj
  cases hmj
  obtain⟨t,K',e1,e2,e3⟩:=(h.st k s K hs hm).hd
  simp only[St.task,Prod.mk.injEq]at ht
  exact⟨⟨t,K',e1,by rw[ht.1,ht.2.1,ht.2.2.2];exact e2,by rw[ht.2.2.1];exact e3⟩,h1,h2,h3⟩
 ·rw[List.getElem?_set_ne e]at hsj
  exact h.st j sj Kj hsj hmj
theorem SI.lose (h:SI U l pls T M Ls) {bs:List Bool} (hm:M[k]? =some K) (hb:Ls[k]? =some bs) (he:ev (l.drop i) (pls i) (erK K)=none):SI U l pls T M (Ls.set k (bs.set i true)):=by
 refine⟨h.lenM,by rw[List.length_set];exact h.lenL,h.nd,h.inU,h.st,fun j Kj bj hmj hbj=> ?_⟩
 by_cases e:k=j
 ·subst e
  rw[List.getElem?_set_self (List.getElem?_eq_some_iff.1 hb).1]at hbj
  cases hbj
  rw[hm]at hmj
  cases hmj
  obtain⟨a1,a2⟩:=h.lost k K bs hm hb
  refine⟨by rw[List.length_set];exact a1,fun j hj=> ?_⟩
  by_cases e:i=j
  ·subst e;exact he
  ·rw[List.getElem?_set_ne e]at hj
   exact a2 j hj
 ·rw[List.getElem?_set_ne e]at hbj
  exact h.lost j Kj bj hmj hbj
theorem SI.len_le (h:SI U l pls T M Ls):T.length<=U.length:=by
 classical
 rw[<-h.lenM]
 exact oA h.nd h.inU
end
open Go.RowKit
structure SC where
 w0:World
 S:Nat
 rb:Nat
 base:Nat
 U:List (List Ti)
 l3:List (Nat×Nat×Nat)
 en:Nat
 g:Nat
 lv:Value
 pv:Value
 ov:Value
structure SD where
 sv:Value
 T:List St
 M:List (List Ti)
 Ls:List (List Bool)
 sp:List (Int×Int)
 op:List Int
def eY (l3:List (Nat×Nat×Nat)) (en i:Nat):Nat:=match l3[i]? with
 |some x=>x.2.1
 |none=>en
def St.cells (n:Nat) (s:St):List Value:=[.int .i64 s.kind,.int .i64 s.x,.int .i64 s.next,.bool s.fresh,.int .i64 s.first,.int .i64 s.second,.int .i64 s.later,.slice (some ⟨s.lb,0,none⟩) (n+1) (n+1)]
def stL (n:Nat) (T:List St):List Value:=T.flatMap (St.cells n)
def ni (l3:List (Nat×Nat×Nat)):List Value:=l3.flatMap fun x=>[.int .i64 (x.1:Int),.int .i64 (x.2.1:Int),.int .i64 (x.2.2:Int)]
theorem eD {α:Type} {f:α ->List Value} {m:Nat} (hf:∀a,(f a).length=m):∀(l:List α) (k:Nat) (a:α) (o:Nat),l[k]? =some a ->o<m ->(l.flatMap f)[k*m+o]? =(f a)[o]?
 |[],k,a,o,h,_=>by simp at h
 |b::l,0,a,o,h,ho=>by
  simp at h
  subst h
  rw[List.flatMap_cons,Nat.zero_mul,Nat.zero_add,List.getElem?_append_left (by rw[hf];exact ho)]
 |b::l,k+1,a,o,h,ho=>by
  rw[List.flatMap_cons,List.getElem?_append_right (by rw[hf,Nat.add_mul];omega),hf,show (k+1)*m+o-m=k*m+o by rw[Nat.add_mul];omega]
  exact eD hf l k a o (by simpa using h) ho
theorem jk {α:Type} {f:α ->List Value} {m:Nat} (hf:∀a,(f a).length=m):∀(l:List α) (k:Nat) (a b:α) (o:Nat) (u:Value),l[k]? =some a ->o<m ->(f a).set o u=f b ->(l.flatMap f).set (k*m+o) u=(l.set k b).flatMap f
 |[],k,a,b,o,u,h,_,_=>by simp at h
 |c::l,0,a,b,o,u,h,ho,e=>by
  simp at h
  subst h
  rw[List.flatMap_cons,Nat.zero_mul,Nat.zero_add,List.set_append_left _ _ (by rw[hf];exact ho),e]
  rfl
 |c::l,k+1,a,b,o,u,h,ho,e=>by
  rw[List.flatMap_cons,List.set_append_right _ _ (by rw[hf,Nat.add_mul];omega),hf,show (k+1)*m+o-m=k*m+o by rw[Nat.add_mul];omega,jk hf l k a b o u (by simpa using h) ho e]
  rfl
structure SK (c:SC):Prop where
 bw:c.w0.heap.size=c.base
 bS:c.base<=c.S
 ok:∀K∈c.U,∀t∈K,t.OK c.w0 c.rb
 cl:∀K∈c.U,ClU c.U [[]] K
 kg:∀K∈c.U,KG c.g (erK K)
 ul:c.U.length<=315000000000
 ln:c.l3.length<=1048576
 ct:∀(i:Nat) x,c.l3[i]? =some x ->x.2.1+x.2.2=eY c.l3 c.en (i+1)
 rc:∀(i:Nat) x,c.l3[i]? =some x ->x.1<=128
 gl:c.g<=5
structure SG (c:SC) (d:SD) (w:World):Prop where
 eb:EB c.base [] c.w0 w
 blk:BK w c.S (.cells #[.pointer (some ⟨c.rb,0,none⟩),c.lv,d.sv,c.pv,c.ov,.int .i64 (c.en:Int)] 221 (0,0))
 run:w.ownsRow c.base 274 3 c.lv c.l3.length (ni c.l3)
 sts:w.ownsRow c.base 278 8 d.sv d.T.length (stL c.l3.length d.T)
 spn:w.ownsRow c.base 31 2 c.pv (c.g+1) (bL d.sp)
 opn:w.ownsRow c.base 3 1 c.ov (c.g+1) (bO d.op)
 lst:∀(k:Nat) s bs,d.T[k]? =some s ->d.Ls[k]? =some bs ->c.base<=s.lb/\BK w s.lb (.cells (sB bs).toArray 4 (0,0))
 ld:∀(k k':Nat) s s',d.T[k]? =some s ->d.T[k']? =some s' ->s.lb=s'.lb ->k=k'
 si:SI c.U (lR c.l3) (eY c.l3 c.en) d.T d.M d.Ls
 spl:d.sp.length=c.g+1
 opl:d.op.length=c.g+1
def Mg (c:SC) (d:SD) (k:Nat):Prop:=k=c.S\/d.sv.ownBlock=some k\/c.pv.ownBlock=some k\/c.ov.ownBlock=some k\/∃s∈d.T,s.lb=k
theorem SG.lens {c:SC} {d:SD} (h:SG c d w):d.Ls.length=d.T.length/\d.M.length=d.T.length:=⟨h.si.lenL,h.si.lenM⟩
theorem SG.mg {c:SC} {d:SD} (hk:SK c) (h:SG c d w) (hm:Mg c d k):c.base<=k/\k<w.heap.size:=by
 rcases hm with rfl|hm|hm|hm|⟨s,hs,rfl⟩
 ·exact⟨hk.bS,h.blk.lt⟩
 ·exact h.sts.lt k hm
 ·exact h.spn.lt k hm
 ·exact h.opn.lt k hm
 ·obtain⟨j,hj,e⟩:=List.getElem_of_mem hs
  have hl:j<d.Ls.length:=by rw[h.lens.1];exact hj
  obtain⟨a,b⟩:=h.lst j s d.Ls[j] (by rw[List.getElem?_eq_getElem hj,e]) (List.getElem?_eq_getElem hl)
  exact⟨a,b.lt⟩
structure SF (c:SC) (d d':SD) (w w':World):Prop where
 os:w'.os=w.os
 tape:w'.tape=w.tape
 output:w'.output=w.output
 size:w.heap.size<=w'.heap.size
 blk:∀k,k<w.heap.size ->¬Mg c d k ->w'.heap[k]? =w.heap[k]?
 mg:∀k,k<w.heap.size ->Mg c d' k ->Mg c d k
 mor:∀(j:Nat) K,d.M[j]? =some K ->d'.M[j]? =some K
theorem SF.refl (c:SC) (d:SD) (w:World):SF c d d w w:=⟨rfl,rfl,rfl,Nat.le_refl _,fun _ _ _=>rfl,fun _ _ h=>h,fun _ _ h=>h⟩
theorem SF.trans {c:SC} {d d1 d2:SD} {w1 w2:World} (h:SF c d d1 w w1) (k:SF c d1 d2 w1 w2):SF c d d2 w w2:=
 ⟨k.os.trans h.os,k.tape.trans h.tape,k.output.trans h.output,Nat.le_trans h.size k.size,fun b hb hn=>(k.blk b (Nat.lt_of_lt_of_le hb h.size) (fun hm=>hn (h.mg b hb hm))).trans (h.blk b hb hn),fun b hb hm=>h.mg b hb (k.mg b (Nat.lt_of_lt_of_le hb h.size) hm),fun j K hj=>k.mor j K (h.mor j K hj)⟩
theorem BK.sf {c:SC} {d d':SD} {b:Nat} {o:Obj} (h:BK w b o) (hf:SF c d d' w w') (hn:¬Mg c d b):BK w' b o:=by
 unfold BK
 rw[hf.blk b h.lt hn]
 exact h
theorem sP {base:Nat} {size:Nat} {v:Value} {xs:List Value} (h:w.ownsRow base e size v n xs) (hg:v.ownBlock=some g):∃cs,BK w g (.cells cs e (0,0)):=by
 rcases h.2 with⟨hn,_⟩|⟨g2,cap,cur,hv2,_,hgg,_⟩
 ·rw[hn]at hg;simp[Value.ownBlock]at hg
 ·rw[hv2]at hg
  simp[Value.ownBlock]at hg
  subst hg
  exact⟨_,hgg⟩
theorem zd {cs cs':Array Value} {e':TypeId} {f f':Nat×Nat} (h:BK w k (.cells cs e f)) (h':BK w k (.cells cs' e' f')):e=e':=by
 unfold BK at h h'
 rw[h]at h'
 cases h'
 rfl
theorem SG.stays {c:SC} {d:SD} (h:SG c d w) (he:EB c.base [] w w') (hs:∀k,(Mg c d k\/c.lv.ownBlock=some k) ->w'.heap[k]? =w.heap[k]?):SG c d w':=
 ⟨h.eb.trans he,by have:=h.blk;unfold BK at this ⊢;rw[hs c.S (.inl (.inl rfl))];exact this,aH h.run (fun g hg=>hs g (.inr hg)),aH h.sts (fun g hg=>hs g (.inl (.inr (.inl hg)))),aH h.spn (fun g hg=>hs g (.inl (.inr (.inr (.inl hg))))),aH h.opn (fun g hg=>hs g (.inl (.inr (.inr (.inr (.inl hg)))))),
  fun k s bs h1 h2=>⟨(h.lst k s bs h1 h2).1,by have:=(h.lst k s bs h1 h2).2;unfold BK at this ⊢;rw[hs s.lb (.inl (.inr (.inr (.inr (.inr ⟨s,List.mem_of_getElem? h1,rfl⟩)))))];exact this⟩,h.ld,h.si,h.spl,h.opl⟩
theorem SG.exu {c:SC} {d:SD} (hk:SK c) (h:SG c d w) {l:List Nat} (hx:Ex l w w') (hl:∀x∈l,¬Mg c d x/\c.lv.ownBlock≠some x/\c.base<=x):SG c d w':=by
 have hbw:c.base<=w.heap.size:=by have:=h.eb.size;rw[hk.bw]at this;exact this
 refine h.stays ⟨hx.os,hx.tape,hx.output,hx.size,fun k hk' _=>hx.block k (by omega) (fun hm=>by have:=(hl k hm).2.2;omega)⟩ (fun k hm=> ?_)
 rcases hm with hm|hm
 ·exact hx.block k (h.mg hk hm).2 (fun hx'=>(hl k hx').1 hm)
 ·exact hx.block k (h.run.lt k hm).2 (fun hx'=>(hl k hx').2.1 hm)
theorem SG.ex {c:SC} {d:SD} (hk:SK c) (h:SG c d w) (hx:Ex [] w w'):SG c d w'/\SF c d d w w':=by
 have hbw:c.base<=w.heap.size:=by have:=h.eb.size;rw[hk.bw]at this;exact this
 exact⟨h.stays ⟨hx.os,hx.tape,hx.output,hx.size,fun k hk' _=>hx.block k (by omega) (by simp)⟩ (fun k hm=>hx.block k (by
  rcases hm with hm|hm
  ·exact (h.mg hk hm).2
  ·exact (h.run.lt k hm).2) (by simp)),⟨hx.os,hx.tape,hx.output,hx.size,fun k hk' _=>hx.block k hk' (by simp),fun _ _ h=>h,fun _ _ h=>h⟩⟩
theorem SG.new {c:SC} {d:SD} (hk:SK c) (h:SG c d w) (hn:w.heap.size<=k):¬Mg c d k:=fun hm=>by have:=(h.mg hk hm).2;omega
theorem SG.rows {c:SC} {d:SD} (hk:SK c) (h:SG c d w):∀y E,aL c.w0 c.rb y E ->aL w c.rb y E:=fun y E hy=>hy.typed (fun g cs ty fz hg _=>h.eb.block g (by have:=BK.lt (show BK c.w0 g _ from hg);rw[hk.bw]at this;exact this) (by simp))
theorem dO {base:Nat} {size:Nat} {v:Value} {xs:List Value} (h:w.ownsRow base e size v n xs) (hn:0<n):∃g cap,v= .slice (some ⟨g,0,none⟩) n cap/\n<=cap:=by
 rcases h.2 with⟨_,h0⟩|⟨g,cap,cur,hv,_,_,hc,_⟩
 ·omega
 ·exact⟨g,cap,hv,hc⟩
theorem tY (x:Nat×Nat×Nat):([.int .i64 (x.1:Int),.int .i64 (x.2.1:Int),.int .i64 (x.2.2:Int)]:List Value).length=3:=rfl
theorem xF (n:Nat) (s:St):(s.cells n).length=8:=rfl
theorem SG.at {c:SC} {d:SD} (h:SG c d w) {s:St} (hs:d.T[k]? =some s):∃g cap,d.sv= .slice (some ⟨g,0,none⟩) d.T.length cap/\k<d.T.length/\g<w.heap.size/\(∀o,o<8 ->w.cell? ⟨g,k*8+o,none⟩=(s.cells c.l3.length)[o]?)/\∀o,w.frozen? ⟨g,o,none⟩=false:=by
 have hk:=(List.getElem?_eq_some_iff.1 hs).1
 obtain⟨g,cap,e,_⟩:=dO h.sts (by omega)
 have h1:=h.sts
 rw[e]at h1
 refine⟨g,cap,e,hk,(h1.lt g rfl).2,fun o ho=> ?_,fun o=>h1.frozenAt o⟩
 rw[h1.cellAt (k*8+o) (by have:(k+1)*8<=d.T.length*8:=Nat.mul_le_mul_right _ hk;omega)]
 exact eD (xF _) d.T k s o hs ho
theorem kr {c:SC} {d:SD} (hk:SK c) (h:SG c d w) (i:Nat):
  Calls Tryz.prog 187 #[.pointer (some ⟨c.S,0,none⟩),.int .i64 (i:Int)] w fun e w'=>e= .returned (.int .i64 (eY c.l3 c.en i:Int))/\w'=w:=by
 have hl:=h.blk.lt
 obtain⟨p,cc,hlv⟩:=aA h.run
 have c1:w.cell? ⟨c.S,1,none⟩=some (.slice p c.l3.length cc):=by rw[<-hlv];exact h.blk.all.1 1
 have c5:w.cell? ⟨c.S,5,none⟩=some (.int .i64 (c.en:Int)):=h.blk.all.1 5
 obtain⟨n,hn⟩:=exq (c.l3.length)
 rw[<-hn]at c1
 unfold eY
 by_cases hi:i<n
 ·have hii:(i:Int)<(n:Int):=by omega
  obtain⟨x,hx⟩:∃x,c.l3[i]? =some x:=⟨_,List.getElem?_eq_getElem (by omega)⟩
  obtain⟨g,cap,e,_⟩:=dO h.run (by omega)
  have h1:=h.run
  rw[e]at h1
  have e2:=hlv.symm.trans e
  have hg:g<w.heap.size:=(h1.lt g rfl).2
  have cg:w.cell? ⟨g,i*3+1,none⟩=some (.int .i64 (x.2.1:Int)):=by
   rw[h1.cellAt (i*3+1) (by have:(i+1)*3<=c.l3.length*3:=Nat.mul_le_mul_right _ (by omega);omega)]
   exact eD tY c.l3 i x 1 hx (by omega)
  injection e2 with e3 _ e4
  subst e3
  rw[hx]
  dsimp only
  obtain⟨S,hS⟩:=exq (c.S)
  obtain⟨v,hv⟩:=exq (x.2.1)
  rw[<-hS]at c1 c5 hl ⊢
  rw[<-hv]at cg ⊢
  clear h1 h hk e e4 hlv hx hn hS hv
  go_enter Tryz.func187,Tryz.ntmps187
  go_wp2_with fail
  go_ret
  first|exact⟨rfl,rfl⟩|rfl|trivial
 ·have hii:¬(i:Int)<(n:Int):=by omega
  rw[List.getElem?_eq_none (by omega)]
  dsimp only
  obtain⟨S,hS⟩:=exq (c.S)
  rw[<-hS]at c1 c5 hl ⊢
  clear h hk hlv hn hS
  go_enter Tryz.func187,Tryz.ntmps187
  go_wp2_with fail
  go_ret
  first|exact⟨rfl,rfl⟩|rfl|trivial
theorem wS (bs:List Bool) (hb:bs.length=129) (r:Nat) (hr:r<=128) (w:World):
  Calls Tryz.prog 189 #[.agg (sB bs).toArray,.int .i64 (r:Int)] w fun e w'=>e= .returned (.bool (hB bs r))/\Ex [] w w':=by
 obtain⟨S,hS⟩:=exq (sB bs)
 have hw1:SB (w.alloc (Obj.cells S.toArray 213)) w.heap.size bs:=by rw[hS];exact SB.new w bs hb
 have hx1:Ex [] w (w.alloc (Obj.cells S.toArray 213)):=(Ex.refl _ _).alloc _
 rw[<-hS]
 obtain⟨W,hW⟩:=exq (w.alloc (Obj.cells S.toArray 213))
 rw[<-hW]at hw1 hx1
 obtain⟨x,e1,e2⟩:=hw1.cell r (by omega)
 have hx:hB bs r=x:=wC e1
 rw[hx]
 have hl:=hw1.1.lt
 have HX:=aa hx1
 have HW:=aa hW
 clear hS hx e1 hx1 hw1 hW
 by_cases h128:128<=r
 ·have h128i:(128:Int)<=(r:Int):=by omega
  obtain rfl:r=128:=by omega
  go_enter Tryz.func189,Tryz.ntmps189
  go_upto_region 1 with fail
  rw[<-HW.O]
  go_wp2_with fail
  go_ret
  first|exact⟨rfl,HX.O⟩|exact HX.O
 ·have h128i:¬(128:Int)<=(r:Int):=by omega
  have hlt:(r:Int)<128:=by omega
  go_enter Tryz.func189,Tryz.ntmps189
  go_upto_region 1 with fail
  rw[<-HW.O]
  go_wp2_with fail
  go_ret
  first|exact⟨rfl,HX.O⟩|exact HX.O
end Go.Proofs.YtfnanjbleifjkaaGreatDoor.G
