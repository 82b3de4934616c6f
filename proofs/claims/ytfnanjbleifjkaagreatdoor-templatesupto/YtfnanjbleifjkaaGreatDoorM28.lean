import Derived.Test.YtfnanjbleifjkaaGreatDoorM27
set_option linter.unusedVariables false
set_option linter.unusedSimpArgs false
namespace Go.Proofs.YtfnanjbleifjkaaGreatDoor.G
variable {code l:List Ins} {n pl:Nat} {i:Ins} {sl:List Int}
theorem tP (b k:Nat) (hb:b<18446744073709551616) (hk:k<64):orM (b:Int) (k:Int)=((b|||2^k:Nat):Int)/\(b|||2^k)<18446744073709551616:=by
 have h2:(2:Nat)^k<18446744073709551616:=by
  have:(2:Nat)^k<2^64:=Nat.pow_lt_pow_right (by decide) hk
  simpa using this
 refine⟨?_,?_⟩
 ·unfold orM
  have hw:IntKind.u64.wrap (2^(k:Int).toNat)=((2^k:Nat):Int):=by
   rw[Int.toNat_natCast]
   have:((2:Int)^k)=((2^k:Nat):Int):=by push_cast;rfl
   rw[this]
   simp only[IntKind.wrap,IntKind.bits,IntKind.signed]
   have h3:((2^k:Nat):Int)%18446744073709551616=((2^k:Nat):Int):=Int.emod_eq_of_lt (Int.natCast_nonneg _) (Int.ofNat_lt.2 h2)
   simpa using h3
  rw[hw,u64_or_nat _ _ hb h2]
 ·have:b|||2^k<2^64:=Nat.or_lt_two_pow (by simpa using hb) (Nat.pow_lt_pow_right (by decide) hk)
  simpa using this
theorem yz (b k:Nat) (hb:b<18446744073709551616) (hk:k<10) (pl:Int) (sl:List Int) (hl:sl.length=10):dg (orM (b:Int) (k:Int)) pl sl=(dg (b:Int) pl sl).set k pl:=by
 obtain⟨e,hlt⟩:=tP b k hb (by omega)
 rw[e]
 apply List.ext_getElem?
 intro i
 by_cases hi:i<10
 ·unfold dg
  rw[jp _ _ _ _ _ (by omega),List.getElem?_set,jp _ _ _ _ _ (by omega),fF _ _ hlt,fF _ _ hb,Nat.testBit_or,Nat.testBit_two_pow,eK,hl]
  by_cases hki:k=i
  ·subst hki
   simp[hk]
  ·simp[hki,hi]
 ·rw[List.getElem?_eq_none (by rw[fL,hl];omega),List.getElem?_eq_none (by rw[List.length_set,fL,hl];omega)]
theorem uY (pl:Int) (sl:List Int) (hl:sl.length=10):dg 0 pl sl=sl:=by
 apply List.ext_getElem?
 intro i
 by_cases hi:i<10
 ·unfold dg
  rw[jp _ _ _ _ _ (by omega),show (0:Int)=((0:Nat):Int)from rfl,fF _ _ (by decide)]
  simp
 ·rw[List.getElem?_eq_none (by rw[fL,hl];omega),List.getElem?_eq_none (by omega)]
def app (sl:List Int) (m:Mk):List Int:=m.foldl (fun s y=>s.set y.1 (y.2:Int)) sl
theorem je (sl:List Int) (y:Nat×Nat) (m:Mk):app sl (y::m)=app (sl.set y.1 (y.2:Int)) m:=rfl
open Classical in
noncomputable def fut (code:List Ins) (l:List (Nat×Nat)) (pl:Nat) (h:Nat×Nat):Option Mk:=if e:∃n v,VEv code l pl h n v then Classical.choose (Classical.choose_spec e)else none
theorem VEv.fut {l:List (Nat×Nat)} {h:Nat×Nat} {v:Option Mk} (e:VEv code l pl h n v):G.fut code l pl h=v:=by
 have hx:∃n v,VEv code l pl h n v:=⟨n,v,e⟩
 unfold G.fut
 rw[dif_pos hx]
 exact (Classical.choose_spec (Classical.choose_spec hx)).det e|>.2
theorem VEv.any_m {l:List (Nat×Nat)} {pc m:Nat} {v:Option Mk} (hc:code[pc]? =some i) (ho:i.op=0\/i.op=6) (e:VEv code l pl (pc,m) n v) (m':Nat):VEv code l pl (pc,m') n v:=by
 cases e with
 |take0 h1 h2=>exact .take0 h1 h2
 |takeN h1 h2 h3=>exact .takeN h1 h2 h3
 |takeY h1 h2 h3 h4=>exact .takeY h1 h2 h3 h4
 |acc h1 h2=>exact .acc h1 h2
 |split h1 h2=>simp_all
 |jump h1 h2=>simp_all
 |note h1 h2=>simp_all
 |start h1 h2=>simp_all
 |endN h1 h2=>simp_all
 |endY h1 h2=>simp_all
noncomputable def fstW (code:List Ins) (l:List (Nat×Nat)) (pl:Nat) (sl:List Int) (ws:List (Nat×Int)):Option (List Int):=ws.findSome? fun y=>(fut code l pl (y.1,1)).map fun m=>app (dg y.2 pl sl) m
theorem uR (code:List Ins) (l:List (Nat×Nat)) (pl:Nat) (sl:List Int) (ws:List (Nat×Int)) (y:Nat×Int):fstW code l pl sl (ws++[y])=(fstW code l pl sl ws).or ((fut code l pl (y.1,1)).map fun m=>app (dg y.2 pl sl) m):=by
 unfold fstW
 rw[List.findSome?_append]
 congr 1
 simp
def ya (code:List Ins) (l:List (Nat×Nat)) (pl:Nat) (y:Nat×Int):Prop:=(∃i,code[y.1]? =some i/\(i.op=0\/i.op=6))/\∃n v,VEv code l pl (y.1,1) n v
def lf (code:List Ins) (l:List (Nat×Nat)) (pl:Nat) (sl:List Int) (s:WS) (g:Nat×Nat):Prop:=fstW code l pl sl s.2=none ->∃n,VEv code l pl g n none
def li (code:List Ins):Prop:=∀(k:Nat) (i:Ins),code[k]? =some i ->i.op=3 ->∃a:Nat,(a:Int)=i.sl/\a<10
theorem lf.up {l:List (Nat×Nat)} {s s':WS} {g:Nat×Nat} {x:Option (List Int)} (h:lf code l pl sl s g) (e:fstW code l pl sl s'.2=(fstW code l pl sl s.2).or x):lf code l pl sl s' g:=fun hn=>by
 rw[e]at hn
 cases h9:fstW code l pl sl s.2 with
 |none=>exact h h9
 |some v=>rw[h9]at hn;simp at hn
structure Vis (code:List Ins) (l:List (Nat×Nat)) (pl:Nat) (sl:List Int) (s:WS) (h:Nat×Nat) (b:Nat) (v:Option Mk) (s':WS):Prop where
 fst:fstW code l pl sl s'.2=(fstW code l pl sl s.2).or (v.map fun m=>app (dg b pl sl) m)
 new:∀g∈s'.1,g∈s.1\/lf code l pl sl s' g
 ways:∀y∈s'.2,y∈s.2\/ya code l pl y
theorem yZ (hok:cZ code) (hso:li code) {l:List (Nat×Nat)} (hl:sl.length=10):∀(f:Nat) (s:WS) (h:Nat×Nat) (b n:Nat) (v:Option Mk),VEv code l pl h n v ->h.1<code.length ->h.2<2 ->b<18446744073709551616 ->left code.length s.1<f ->
  (∀g∈s.1,(∃n' v',VEv code l pl g n' v'/\n<n')\/lf code l pl sl s g) ->Vis code l pl sl s h b v (bm code f s h b):=by
 intro f
 induction f with
 |zero=>intro s h b n v e h1 h2 hb hf;omega
 |succ f ih=>
  intro s h b n v e h1 h2 hb hf hs
  unfold bm
  by_cases hm:h∈s.1
  ·rw[if_pos hm]
   have hd:lf code l pl sl s h:=by
    rcases hs h hm with⟨n',v',e',hlt⟩|hd
    ·have:=(e.det e').1;omega
    ·exact hd
   refine⟨?_,fun g hg=> .inl hg,fun y hy=> .inl hy⟩
   cases h9:fstW code l pl sl s.2 with
   |some x=>simp
   |none=>
    obtain⟨n',e'⟩:=hd h9
    rw[(e.det e').2]
    rfl
  ·rw[if_neg hm]
   have hlf:left code.length (s.1++[h])<f:=by have:=pt (n:=code.length) hm h1 h2;omega
   have go:∀(s2:WS) (h':Nat×Nat) (b' n':Nat) (v':Option Mk),VEv code l pl h' n' v' ->n'<n ->h'.1<code.length ->h'.2<2 ->b'<18446744073709551616 ->(∀x,x∈s.1++[h] ->x∈s2.1) ->(∃x,fstW code l pl sl s2.2=(fstW code l pl sl s.2).or x) ->
     (∀g∈s2.1,g∈s.1++[h]\/lf code l pl sl s2 g) ->Vis code l pl sl s2 h' b' v' (bm code f s2 h' b'):=by
    intro s2 h' b' n' v' e' hn g1 g2 hb' hsub hx hnew
    obtain⟨x,hx⟩:=hx
    refine ih s2 h' b' n' v' e' g1 g2 hb' (Nat.lt_of_le_of_lt (ow hsub) hlf) (fun g hg=> ?_)
    rcases hnew g hg with h9|h9
    ·rcases List.mem_append.1 h9 with h9|h9
     ·rcases hs g h9 with⟨a,c,d,hlt⟩|hd
      ·exact .inl ⟨a,c,d,by omega⟩
      ·exact .inr (hd.up hx)
     ·rw[List.mem_singleton]at h9
      subst h9
      exact .inl ⟨n,v,e,hn⟩
    ·exact .inr h9
   have single:∀(h':Nat×Nat) (b' n':Nat) (v':Option Mk),VEv code l pl h' n' v' ->n'<n ->h'.1<code.length ->h'.2<2 ->b'<18446744073709551616 ->(v'.map fun m=>app (dg b' pl sl) m)=(v.map fun m=>app (dg b pl sl) m) ->(v'=none ->v=none) ->Vis code l pl sl s h b v (bm code f (s.1++[h],s.2) h' b'):=by
    intro h' b' n' v' e' hn g1 g2 hb' hv hv0
    have hv1:=go (s.1++[h],s.2) h' b' n' v' e' hn g1 g2 hb' (fun x hx=>hx) ⟨none,by simp⟩ (fun g hg=> .inl hg)
    refine⟨by rw[hv1.fst,hv],fun g hg=> ?_,hv1.ways⟩
    rcases hv1.new g hg with h9|h9
    ·rcases List.mem_append.1 h9 with h9|h9
     ·exact .inl h9
     ·rw[List.mem_singleton]at h9
      subst h9
      refine .inr (fun hn0=> ?_)
      rw[hv1.fst]at hn0
      have:v'=none:=by
       cases v' with
       |none=>rfl
       |some m=>simp at hn0
      rw[hv0 this]at e
      exact⟨n,e⟩
    ·exact .inr h9
   have noway:v=none ->Vis code l pl sl s h b v (s.1++[h],s.2):=by
    intro hv
    subst hv
    refine⟨by simp,fun g hg=> ?_,fun y hy=> .inl hy⟩
    rcases List.mem_append.1 hg with h9|h9
    ·exact .inl h9
    ·rw[List.mem_singleton]at h9
     subst h9
     exact .inr (fun _=>⟨n,e⟩)
   obtain⟨pc,m⟩:=h
   cases hc:code[pc]? with
   |none=>rw[List.getElem?_eq_none_iff]at hc;simp only at h1;omega
   |some i=>
    have hk:=hok pc i hc
    have last:i.op=0\/i.op=6 ->VEv code l pl (pc,1) n v ->Vis code l pl sl s (pc,m) b v (s.1++[(pc,m)],s.2++[(pc,(b:Int))]):=by
     intro ho e1
     have h3:fstW code l pl sl (s.2++[(pc,(b:Int))])=(fstW code l pl sl s.2).or (v.map fun m=>app (dg b pl sl) m):=by
      rw[uR,e1.fut]
     refine⟨h3,fun g hg=> ?_,fun y hy=> ?_⟩
     ·rcases List.mem_append.1 hg with h9|h9
      ·exact .inl h9
      ·rw[List.mem_singleton]at h9
       subst h9
       refine .inr (fun hn0=> ?_)
       have hn1:fstW code l pl sl (s.2++[(pc,(b:Int))])=none:=hn0
       rw[h3]at hn1
       have:v=none:=by
        cases v with
        |none=>rfl
        |some m=>simp at hn1
       subst this
       exact⟨n,e⟩
     ·rcases List.mem_append.1 hy with h9|h9
      ·exact .inl h9
      ·rw[List.mem_singleton]at h9
       subst h9
       exact .inr ⟨⟨i,hc,ho⟩,n,v,e1⟩
    dsimp only
    by_cases ho:i.op=0\/i.op=6
    ·rw[if_pos ho]
     exact last ho (e.any_m hc ho 1)
    ·rw[if_neg ho]
     have e0:=e
     cases e with
     |take0 k1 k2=>rw[hc]at k1;cases k1;exact absurd (.inl k2) ho
     |takeN k1 k2 k3=>rw[hc]at k1;cases k1;exact absurd (.inl k2) ho
     |takeY k1 k2 k3 k4=>rw[hc]at k1;cases k1;exact absurd (.inl k2) ho
     |acc k1 k2=>rw[hc]at k1;cases k1;exact absurd (.inr k2) ho
     |@split _ _ _ _ _ n0 n1 v0 v1 k1 k2 k3 k4=>
      rw[hc]at k1;cases k1
      rw[if_pos k2]
      have p0:=k3.pos
      have p1:=k4.pos
      obtain⟨⟨a0,ea0,la0⟩,⟨a1,ea1,la1⟩⟩:(∃a:Nat,(a:Int)=i.t0/\a<code.length)/\∃a:Nat,(a:Int)=i.t1/\a<code.length:=by
       rcases hk with h9|h9|⟨_,h9,h10⟩|⟨h9,_⟩|⟨h9,_⟩|⟨h9,_⟩|⟨h9,_⟩
       ·omega
       ·omega
       ·exact⟨h9,h10⟩
       all_goals omega
      have hv0:=go (s.1++[(pc,m)],s.2) (i.t0.toNat,m) b n0 v0 k3 (by omega) (by show i.t0.toNat<_;omega) h2 hb (fun x hx=>hx) ⟨none,by simp⟩ (fun g hg=> .inl hg)
      have hv1:=go (bm code f (s.1++[(pc,m)],s.2) (i.t0.toNat,m) b) (i.t1.toNat,m) b n1 v1 k4 (by omega) (by show i.t1.toNat<_;omega) h2 hb (fun x hx=>fb code f _ _ _ x hx) ⟨_,hv0.fst⟩ hv0.new
      have hf3:fstW code l pl sl (bm code f (bm code f (s.1++[(pc,m)],s.2) (i.t0.toNat,m) b) (i.t1.toNat,m) b).2=(fstW code l pl sl s.2).or ((v0.or v1).map fun m=>app (dg b pl sl) m):=by
       rw[hv1.fst,hv0.fst,Option.or_assoc]
       congr 1
       cases v0<;>rfl
      refine⟨hf3,fun g hg=> ?_,fun y hy=> ?_⟩
      ·rcases hv1.new g hg with h9|h9
       ·rcases hv0.new g h9 with h10|h10
        ·rcases List.mem_append.1 h10 with h10|h10
         ·exact .inl h10
         ·rw[List.mem_singleton]at h10
          subst h10
          refine .inr (fun hn0=> ?_)
          rw[hf3]at hn0
          have:v0.or v1=none:=by
           cases h11:v0.or v1 with
           |none=>rfl
           |some m=>rw[h11]at hn0;simp at hn0
          rw[this]at e0
          exact⟨_,e0⟩
        ·exact .inr (h10.up hv1.fst)
       ·exact .inr h9
      ·rcases hv1.ways y hy with h9|h9
       ·exact hv0.ways y h9
       ·exact .inr h9
     |@jump _ _ _ _ _ n0 v0 k1 k2 k3=>
      rw[hc]at k1;cases k1
      rw[if_neg (by omega),if_pos k2]
      obtain⟨a0,ea0,la0⟩:∃a:Nat,(a:Int)=i.t0/\a<code.length:=by
       rcases hk with h9|h9|⟨h9,_⟩|⟨_,h9⟩|⟨h9,_⟩|⟨h9,_⟩|⟨h9,_⟩
       ·omega
       ·omega
       ·omega
       ·exact h9
       all_goals omega
      exact single _ b n0 _ k3 (by omega) (by show i.t0.toNat<_;omega) h2 hb rfl id
     |@note _ _ _ _ _ n0 v0 k1 k2 k3=>
      rw[hc]at k1;cases k1
      rw[if_neg (by omega),if_neg (by omega),if_pos k2]
      have hk1:pc+1<code.length:=by
       rcases hk with h9|h9|⟨h9,_⟩|⟨h9,_⟩|⟨_,h9,_⟩|⟨h9,_⟩|⟨h9,_⟩
       ·omega
       ·omega
       ·omega
       ·omega
       ·exact h9
       all_goals omega
      obtain⟨a,ea,la⟩:=hso pc i hc k2
      obtain⟨eo,ol⟩:=tP b a hb (by omega)
      have eo2:orM (b:Int) i.sl=((b|||2^a:Nat):Int):=by rw[<-ea];exact eo
      rw[eo2]
      refine single _ _ n0 _ k3 (by omega) hk1 h2 ol ?_ (fun h9=>by rw[h9];rfl)
      rw[<-eo,yz b a hb la pl sl hl,<-ea,Option.map_map]
      congr 1
     |@start _ _ _ _ _ n0 v0 k1 k2 k3=>
      rw[hc]at k1;cases k1
      rw[if_neg (by omega),if_neg (by omega),if_neg (by omega),if_pos k2]
      have hk1:pc+1<code.length:=by
       rcases hk with h9|h9|⟨h9,_⟩|⟨h9,_⟩|⟨h9,_⟩|⟨_,h9⟩|⟨h9,_⟩
       ·omega
       ·omega
       ·omega
       ·omega
       ·omega
       ·exact h9
       ·omega
      exact single _ b n0 _ k3 (by omega) hk1 (by show 0<2;omega) hb rfl id
     |endN k1 k2 k3=>
      rw[hc]at k1;cases k1
      rw[if_neg (by omega),if_neg (by omega),if_neg (by omega),if_neg (by omega),if_pos k2,if_neg k3]
      exact noway rfl
     |@endY _ _ _ _ _ n0 v0 k1 k2 k3 k4=>
      rw[hc]at k1;cases k1
      rw[if_neg (by omega),if_neg (by omega),if_neg (by omega),if_neg (by omega),if_pos k2,if_pos k3]
      have hk1:pc+1<code.length:=by
       rcases hk with h9|h9|⟨h9,_⟩|⟨h9,_⟩|⟨h9,_⟩|⟨h9,_⟩|⟨_,h9⟩
       ·omega
       ·omega
       ·omega
       ·omega
       ·omega
       ·omega
       ·exact h9
      exact single _ b n0 _ k4 (by omega) hk1 (by show 1<2;omega) hb rfl id
theorem ur (hok:cZ code) (hso:li code) {l:List (Nat×Nat)} (hl:sl.length=10) {h:Nat×Nat} {v:Option Mk} (e:VEv code l pl h n v) (h1:h.1<code.length) (h2:h.2<2):
  fstW code l pl sl (bM code h)=v.map (app sl)/\∀y∈bM code h,ya code l pl y:=by
 have hv:=yZ hok hso (pl:=pl) hl (2*code.length+1) ([],[]) h 0 n v e h1 h2 (by decide) (by have:=kW code.length [];show left code.length []<_;omega) (fun g hg=>by cases hg)
 refine⟨?_,fun y hy=> ?_⟩
 ·have:=hv.fst
  unfold bM
  rw[show ((0:Int))=((0:Nat):Int)from rfl,this]
  rw[show (((0:Nat):Int))=0 from rfl]
  simp only[uY _ _ hl]
  rfl
 ·rcases hv.ways y hy with h9|h9
  ·cases h9
  ·exact h9
mutual
theorem pq:∀p:Pt,POK p ->isz p<=6*wt p/\(1<=wt p ->isz p+1<=6*wt p)
 |.single c,_=>⟨by show 1<=6*1;decide,fun _=>by show 2<=6*1;decide⟩
 |.seq l,h=>pr l h
 |.alt l,h=>by
  obtain⟨h1,h2⟩:=pr l h.1
  have h3:=h.2
  show cx l+2*(l.length-1)<=6*(wtL l+l.length-1)/\(1<=wtL l+l.length-1 ->cx l+2*(l.length-1)+1<=6*(wtL l+l.length-1))
  by_cases h0:wtL l=0
  ·omega
  ·have:=h2 (by omega)
   omega
 |.wrap q g,h=>by
  obtain⟨h1,h2⟩:=pq q h.1
  show (if g=0 then isz q else isz q+2)<=6*(wt q+1)/\(1<=wt q+1 ->(if g=0 then isz q else isz q+2)+1<=6*(wt q+1))
  split<;>omega
 |.count q le mo z,h=>by
  obtain⟨h1,h2⟩:=pq q h.1
  have h3:=h2 h.2.1
  obtain⟨_,c2⟩:=h.2.2
  dsimp only at c2
  show (if mo= -1 then isz q*le+(isz q+4)else isz q*le+(isz q+1)*more le mo)<=6*(wt q*(if mo= -1 then le+1 else mo.toNat)+1)/\(1<=wt q*(if mo= -1 then le+1 else mo.toNat)+1 ->(if mo= -1 then isz q*le+(isz q+4)else isz q*le+(isz q+1)*more le mo)+1<=6*(wt q*(if mo= -1 then le+1 else mo.toNat)+1))
  by_cases hm:mo= -1
  ·rw[if_pos hm,if_pos hm]
   have h4:=Nat.mul_le_mul_right (le+1) h3
   simp only[Nat.add_mul,Nat.mul_add,Nat.mul_one,Nat.one_mul,Nat.mul_assoc]at h4 ⊢
   omega
  ·rw[if_neg hm,if_neg hm]
   obtain⟨d,hd⟩:=exq (more le mo)
   have e:mo.toNat=le+d:=by rw[hd];unfold more;omega
   rw[<-hd,e]
   have h4:=Nat.mul_le_mul_right d h3
   have h5:=Nat.mul_le_mul_right le h3
   simp only[Nat.add_mul,Nat.mul_add,Nat.mul_one,Nat.one_mul,Nat.mul_assoc]at h4 h5 ⊢
   omega
theorem pr:∀l:List Pt,jb l ->cx l<=6*wtL l/\(1<=wtL l ->cx l+1<=6*wtL l)
 |[],_=>⟨Nat.zero_le _,fun h=>absurd h (by show ¬1<=0;omega)⟩
 |p::l,h=>by
  obtain⟨h1,h2⟩:=pq p h.1
  obtain⟨h3,h4⟩:=pr l h.2
  show isz p+cx l<=6*(wt p+wtL l)/\(1<=wt p+wtL l ->isz p+cx l+1<=6*(wt p+wtL l))
  by_cases h0:wt p=0
  ·by_cases h5:wtL l=0
   ·omega
   ·have:=h4 (by omega);omega
  ·have:=h2 (by omega);omega
end
structure IOK (n:Nat) (i:Ins):Prop where
 t0:0<=i.t0/\i.t0<=n
 t1:0<=i.t1/\i.t1<=n
 sl:0<=i.sl/\i.sl<64
 op:i.op=0\/i.op=1\/i.op=2\/i.op=3\/i.op=4\/i.op=5
def COK (l:List Ins):Prop:=∀(j:Nat) (i:Ins),l[j]? =some i ->IOK l.length i
theorem IOK.up {m:Nat} (h:IOK n i) (hm:n<=m):IOK m i:=⟨by have:=h.t0;omega,by have:=h.t1;omega,h.sl,h.op⟩
theorem COK.snoc (h:COK l) (hi:IOK (l.length+1) i):COK (l++[i]):=fun j x hx=>by
 rw[List.length_append]
 show IOK (l.length+1) x
 rcases Nat.lt_or_ge j l.length with hj|hj
 ·rw[List.getElem?_append_left hj]at hx
  exact (h j x hx).up (Nat.le_succ _)
 ·rw[List.getElem?_append_right hj]at hx
  have hm:=List.mem_of_getElem? hx
  rw[List.mem_singleton]at hm
  rw[hm];exact hi
theorem COK.way (h:COK l) (k:Nat) (s:Bool) (n:Nat) (hn:n<=l.length):COK (fc l k s n):=fun j x hx=>by
 rw[eM]
 unfold fc at hx
 rw[List.getElem?_modify]at hx
 cases hj:l[j]? with
 |none=>rw[hj]at hx;simp at hx
 |some i=>
  rw[hj]at hx
  have hi:=h j i hj
  have hx2:(if k=j then i.way s n else i)=x:=by simpa using hx
  clear hx
  split at hx2
  ·subst hx2
   unfold Ins.way
   split
   ·exact⟨hi.t0,⟨by show (0:Int)<=(n:Int);omega,by show (n:Int)<=_;omega⟩,hi.sl,hi.op⟩
   ·exact⟨⟨by show (0:Int)<=(n:Int);omega,by show (n:Int)<=_;omega⟩,hi.t1,hi.sl,hi.op⟩
  ·subst hx2;exact hi
theorem jf (n:Nat) (op:Int) (h:op=0\/op=1\/op=2\/op=3\/op=4\/op=5):IOK n (bare op):=⟨⟨Int.le_refl _,by show (0:Int)<=n;omega⟩,⟨Int.le_refl _,by show (0:Int)<=n;omega⟩,by show (0:Int)<=0/\(0:Int)<64;omega,h⟩
theorem COK.fork (h:COK l) (z:Bool):COK (dr z l):=(h.snoc (jf _ 1 (by simp))).way _ _ _ (by simp)
theorem COK.leave (h:COK l) (z:Bool) (k:Nat):COK (df z k l):=h.way _ _ _ (Nat.le_refl _)
theorem COK.land (h:COK l) (k:Nat):COK (iC k l):=h.way _ _ _ (Nat.le_refl _)
theorem COK.leaves (z:Bool):∀(ks:List Nat) (l:List Ins),COK l ->COK (ks.foldl (fun l k=>df z k l) l)
 |[],l,h=>h
 |k::ks,l,h=>COK.leaves z ks _ (h.leave z k)
theorem COK.lands:∀(ks:List Nat) (l:List Ins),COK l ->COK (ks.foldl (fun l k=>iC k l) l)
 |[],l,h=>h
 |k::ks,l,h=>COK.lands ks _ (h.land k)
theorem COK.iters {f:List Ins ->List Ins} (hf:∀l,COK l ->COK (f l)):∀(n:Nat) (l:List Ins),COK l ->COK (gp f n l)
 |0,l,h=>h
 |n+1,l,h=>COK.iters hf n _ (hf l h)
theorem COK.itersF {f:List Ins ->List Ins} (hf:∀l,COK l ->COK (f l)) (z:Bool):∀(n:Nat) (ks:List Nat) (l:List Ins),COK l ->COK (dp f z n ks l).2
 |0,ks,l,h=>h
 |n+1,ks,l,h=>COK.itersF hf z n _ _ (hf _ (h.fork z))
theorem rl (n g:Nat) (hg:g<64):IOK n (iE g):=⟨⟨Int.le_refl _,by show (0:Int)<=n;omega⟩,⟨Int.le_refl _,by show (0:Int)<=n;omega⟩,by show (0:Int)<=(g:Int)/\(g:Int)<64;omega,by simp[iE]⟩
mutual
theorem eO:∀p:Pt,POK p ->∀l,COK l ->COK (bl p l)
 |.single c,_,l,h=>by
  rw[bl]
  exact h.snoc ⟨⟨Int.le_refl _,by show (0:Int)<=_;omega⟩,⟨Int.le_refl _,by show (0:Int)<=_;omega⟩,by show (0:Int)<=0/\(0:Int)<64;omega,.inl rfl⟩
 |.seq ps,hp,l,h=>by rw[bl];exact nE ps hp l h
 |.alt ps,hp,l,h=>by rw[bl];exact COK.lands _ _ (nF ps hp.1 [] l h)
 |.wrap p g,hp,l,h=>by
  rw[bl]
  have hg:=hp.2
  split
  ·exact eO p hp.1 l h
  ·exact (eO p hp.1 _ (h.snoc (rl _ _ (by omega)))).snoc (rl _ _ (by omega))
 |.count p le mo z,hp,l,h=>by
  rw[bl]
  have hf:=eO p hp.1
  have hi:=COK.iters hf le l h
  split
  ·unfold ri
   have h1:=(hf _ ((hi.fork z).snoc (jf _ 4 (by simp)))).snoc (jf _ 5 (by simp))
   have hlen:(gp (bl p) le l).length<=(bl p (dr z (gp (bl p) le l)++[bare 4])++[bare 5]).length:=by
    rw[List.length_append,aN,List.length_append,bo]
    omega
   refine (h1.snoc ⟨⟨?_,?_⟩,⟨Int.le_refl _,by show (0:Int)<=_;omega⟩,by show (0:Int)<=0/\(0:Int)<64;omega,by simp[eT]⟩).leave z _
   ·show (0:Int)<=((gp (bl p) le l).length:Int)
    omega
   ·show ((gp (bl p) le l).length:Int)<=_
    omega
  ·exact COK.leaves z _ _ (COK.itersF hf z _ _ _ hi)
theorem nE:∀ps:List Pt,jb ps ->∀l,COK l ->COK (ee ps l)
 |[],_,l,h=>by rw[ee];exact h
 |p::ps,hp,l,h=>by rw[ee];exact nE ps hp.2 _ (eO p hp.1 l h)
theorem nF:∀ps:List Pt,jb ps ->∀js l,COK l ->COK (dG ps js l).2
 |[],_,js,l,h=>by rw[dG];exact h
 |[p],hp,js,l,h=>by rw[dG];exact eO p hp.1 l h
 |p::q::ps,hp,js,l,h=>by
  rw[dG]
  exact nF (q::ps) hp.2 _ _ (((eO p hp.1 _ (h.fork false)).snoc (jf _ 2 (by simp))).leave false _)
end
theorem tU (p:Pt) (hp:POK p):cZ (bB p)/\eN (bB p):=by
 have hc:=eO p hp [] (fun j i h=>by simp at h)
 have hl:(bB p).length=(bl p []).length+1:=by simp[bB]
 have key:∀k i,(bB p)[k]? =some i ->(k<(bl p []).length/\IOK (bl p []).length i)\/i=bare 6:=fun k i hi=>by
  unfold bB at hi
  rcases Nat.lt_or_ge k (bl p []).length with hk|hk
  ·rw[List.getElem?_append_left hk]at hi
   exact .inl ⟨hk,hc k i hi⟩
  ·rw[List.getElem?_append_right hk]at hi
   have hm:=List.mem_of_getElem? hi
   rw[List.mem_singleton]at hm
   exact .inr hm
 refine⟨fun k i hi=> ?_,fun k i hi h0=> ?_⟩
 ·rcases key k i hi with⟨hk,h⟩|rfl
  ·have a0:=h.t0
   have a1:=h.t1
   have a2:=h.sl
   rcases h.op with h1|h1|h1|h1|h1|h1
   ·exact .inl h1
   ·exact .inr (.inr (.inl ⟨h1,⟨i.t0.toNat,by omega,by omega⟩,i.t1.toNat,by omega,by omega⟩))
   ·exact .inr (.inr (.inr (.inl ⟨h1,i.t0.toNat,by omega,by omega⟩)))
   ·exact .inr (.inr (.inr (.inr (.inl ⟨h1,by omega,i.sl.toNat,by omega,by omega⟩))))
   ·exact .inr (.inr (.inr (.inr (.inr (.inl ⟨h1,by omega⟩)))))
   ·exact .inr (.inr (.inr (.inr (.inr (.inr ⟨h1,by omega⟩)))))
  ·exact .inr (.inl rfl)
 ·rcases key k i hi with⟨hk,h⟩|rfl
  ·omega
  ·cases h0
theorem uK (h:cZ code) (h2:eN code):kR code=true:=by
 unfold kR
 rw[List.all_eq_true]
 intro k hk
 cases hc:code[k]? with
 |none=>rfl
 |some i=>
  dsimp only
  rw[Bool.and_eq_true]
  constructor
  ·simp only[po,Bool.or_eq_true,Bool.and_eq_true,beq_iff_eq,decide_eq_true_eq]
   rcases h k i hc with h1|h1|⟨h1,⟨a,ha,hal⟩,b,hb,hbl⟩|⟨h1,a,ha,hal⟩|⟨h1,hk1,a,ha,hal⟩|⟨h1,hk1⟩|⟨h1,hk1⟩
   ·exact .inl (.inl (.inl (.inl (.inl (.inl h1)))))
   ·exact .inl (.inl (.inl (.inl (.inl (.inr h1)))))
   ·exact .inl (.inl (.inl (.inl (.inr ⟨⟨⟨⟨h1,by omega⟩,by omega⟩,by omega⟩,by omega⟩))))
   ·exact .inl (.inl (.inl (.inr ⟨⟨h1,by omega⟩,by omega⟩)))
   ·exact .inl (.inl (.inr ⟨⟨⟨h1,hk1⟩,by omega⟩,by omega⟩))
   ·exact .inl (.inr ⟨h1,hk1⟩)
   ·exact .inr ⟨h1,hk1⟩
  ·by_cases h0:i.op=0
   ·rw[Bool.or_eq_true]
    exact .inr (decide_eq_true (h2 k i hc h0))
   ·rw[Bool.or_eq_true]
    exact .inl (by simpa using h0)
mutual
theorem pS:∀q:Pt,WOK q ->jH q=true
 |.single _,_=>rfl
 |.seq l,h=>by simp only[jH,Bool.and_eq_true,decide_eq_true_eq];exact⟨⟨pQ l h.1,h.2.1⟩,h.2.2⟩
 |.alt l,h=>by simp only[jH,Bool.and_eq_true,decide_eq_true_eq];exact⟨⟨⟨pQ l h.1,h.2.1⟩,h.2.2.1⟩,h.2.2.2⟩
 |.wrap q k,h=>by simp only[jH,Bool.and_eq_true,decide_eq_true_eq];exact⟨⟨pS q h.1,h.2.1⟩,h.2.2⟩
 |.count q le mo z,h=>by simp only[jH,Bool.and_eq_true,decide_eq_true_eq];exact⟨⟨⟨⟨⟨pS q h.1,h.2.1⟩,h.2.2.1⟩,h.2.2.2.1⟩,h.2.2.2.2.1⟩,h.2.2.2.2.2⟩
theorem pQ:∀l:List Pt,oW l ->mP l=true
 |[],_=>rfl
 |q::l,h=>by simp only[mP,Bool.and_eq_true];exact⟨pS q h.1,pQ l h.2⟩
end
theorem wy {t:ByteArray} (ht:t.size<=60) {p:Pt} {s:RS} (h:aX t= .ok p s) (hw:wt p<=120):lN t=true:=by
 obtain⟨h1,h2,h3⟩:=fP ht h
 obtain⟨c1,c2⟩:=tU p h2
 have hz:=(pq p h2).1
 unfold lN qM kb
 rw[h]
 simp only[Bool.and_eq_true,decide_eq_true_eq]
 exact⟨⟨⟨⟨⟨pS p h1,hw⟩,by omega⟩,uK c1 c2⟩,h3⟩,ht⟩
def rns (s:ByteArray):Nat ->Nat ->List (Nat×Nat)
 |0,_=>[]
 |f+1,a=>if a<s.size then (sY s a,a+rsz s a)::rns s f (a+rsz s a)else []
noncomputable def fstT (code:List Ins) (l:List (Nat×Nat)) (pl:Nat) (ts:List Th):Option (List Int):=ts.findSome? fun t=>(fut code l pl (t.pc,1)).map (app t.sl)
theorem uQ (code:List Ins) (l:List (Nat×Nat)) (pl:Nat) (ts:List Th) (t:Th):fstT code l pl (ts++[t])=(fstT code l pl ts).or ((fut code l pl (t.pc,1)).map (app t.sl)):=by
 unfold fstT
 rw[List.findSome?_append]
 congr 1
 simp
theorem uP {l:List (Nat×Nat)} {ts:List Th} (h:fstT code l pl ts=none) {t:Th} (ht:t∈ts):fut code l pl (t.pc,1)=none:=by
 unfold fstT at h
 rw[List.findSome?_eq_none_iff]at h
 have:=h t ht
 simpa using this
structure pY (code:List Ins) (l:List (Nat×Nat)) (pl:Nat) (t:Th):Prop where
 len:t.sl.length=10
 ins:∃i,code[t.pc]? =some i/\(i.op=0\/i.op=6)
 ev:∃n v,VEv code l pl (t.pc,1) n v
def Rcd (pl:Nat) (ts:List Th) (rc:List Int):Prop:=∀k,rc[k]? =some (pl:Int) ->∃t∈ts,t.pc=k
theorem ic {l:List (Nat×Nat)} (hl:sl.length=10):∀(ws:List (Nat×Int)) (s:List Th×List Int),(∀y∈ws,ya code l pl y) ->Rcd pl s.1 s.2 ->(∀t∈s.1,pY code l pl t) ->(∀z∈s.2,z<=(pl:Int)) ->
  fstT code l pl (aY sl pl (wys ws) s).1=(fstT code l pl s.1).or (fstW code l pl sl ws)/\Rcd pl (aY sl pl (wys ws) s).1 (aY sl pl (wys ws) s).2/\(∀t∈(aY sl pl (wys ws) s).1,pY code l pl t)/\(∀z∈(aY sl pl (wys ws) s).2,z<=(pl:Int))
 |[],s,_,h1,h2,h3=>⟨by show fstT code l pl s.1=_;simp[fstW],h1,h2,h3⟩
 |y::ws,s,hw,h1,h2,h3=>by
  have hy:=hw y (List.mem_cons_self ..)
  have hws:∀y∈ws,ya code l pl y:=fun z hz=>hw z (List.mem_cons_of_mem _ hz)
  have hf:fstW code l pl sl (y::ws)=((fut code l pl (y.1,1)).map fun m=>app (dg y.2 pl sl) m).or (fstW code l pl sl ws):=by
   unfold fstW
   rw[List.findSome?_cons]
   cases fut code l pl (y.1,1)<;>rfl
  have hu:wys (y::ws)=⟨y.1,y.2⟩::wys ws:=rfl
  rw[hu]
  unfold aY
  by_cases hc:s.2[y.1]? =some (pl:Int)
  ·rw[if_pos hc]
   obtain⟨g1,g2⟩:=ic hl ws s hws h1 h2 h3
   refine⟨?_,g2⟩
   rw[g1,hf]
   cases h9:fstT code l pl s.1 with
   |some v=>rfl
   |none=>
    obtain⟨t,ht,e⟩:=h1 _ hc
    have:=uP h9 ht
    rw[e]at this
    rw[this]
    rfl
  ·rw[if_neg hc]
   have g:=ic hl ws (s.1++[⟨y.1,dg y.2 pl sl⟩],s.2.set y.1 pl) hws (fun k hk=> ?_) (fun t ht=> ?_) (fun z hz=> ?_)
   ·refine⟨?_,g.2⟩
    rw[g.1,hf]
    show (fstT code l pl (s.1++[⟨y.1,dg y.2 pl sl⟩])).or _=_
    rw[uQ,Option.or_assoc]
   ·by_cases he:y.1=k
    ·exact⟨⟨y.1,dg y.2 pl sl⟩,by simp,he⟩
    ·have hk2:s.2[k]? =some (pl:Int):=by
      have:(s.2.set y.1 pl)[k]? =some (pl:Int):=hk
      rw[List.getElem?_set_ne he]at this
      exact this
     obtain⟨t,ht,e⟩:=h1 k hk2
     exact⟨t,List.mem_append_left _ ht,e⟩
   ·rcases List.mem_append.1 ht with h9|h9
    ·exact h2 t h9
    ·rw[List.mem_singleton]at h9
     subst h9
     exact⟨by rw[fL];exact hl,hy.1,hy.2⟩
   ·rcases List.mem_or_eq_of_mem_set hz with h9|h9
    ·exact h3 z h9
    ·omega
theorem pH (hok:cZ code) (htk:eN code) (hso:li code) {r p a:Nat} {l:List (Nat×Nat)}:∀(ts:List Th) (s:List Th×List Int),(∀t∈ts,pY code ((r,p)::l) a t) ->Rcd p s.1 s.2 ->(∀t∈s.1,pY code l p t) ->(∀z∈s.2,z<=(p:Int)) ->
  fstT code l p (cK code r p ts s).1=(fstT code l p s.1).or (fstT code ((r,p)::l) a ts)/\Rcd p (cK code r p ts s).1 (cK code r p ts s).2/\(∀t∈(cK code r p ts s).1,pY code l p t)/\(∀z∈(cK code r p ts s).2,z<=(p:Int))
 |[],s,_,h1,h2,h3=>⟨by show fstT code l p s.1=_;simp[fstT],h1,h2,h3⟩
 |t::ts,s,ht,h1,h2,h3=>by
  have ht0:=ht t (List.mem_cons_self ..)
  have hts:∀t∈ts,pY code ((r,p)::l) a t:=fun y hy=>ht y (List.mem_cons_of_mem _ hy)
  obtain⟨i,hi,hop⟩:=ht0.ins
  obtain⟨n,v,hv⟩:=ht0.ev
  have hf:fstT code ((r,p)::l) a (t::ts)=(v.map (app t.sl)).or (fstT code ((r,p)::l) a ts):=by
   unfold fstT
   rw[List.findSome?_cons,hv.fut]
   cases v<;>rfl
  unfold cK
  rw[hi]
  dsimp only
  by_cases hta:i.takes (r:Int)=true
  ·rw[if_pos hta]
   have h0:i.op=0:=by
    simp only[Ins.takes,Bool.and_eq_true,beq_iff_eq]at hta
    exact hta.1
   obtain⟨n1,hv1⟩:∃n1,VEv code l p (t.pc+1,1) n1 v:=by
    cases hv with
    |takeN k1 k2 k3=>rw[hi]at k1;cases k1;rw[hta]at k3;cases k3
    |takeY k1 k2 k3 k4=>exact⟨_,k4⟩
    |acc k1 k2=>rw[hi]at k1;cases k1;omega
    |split k1 k2=>rw[hi]at k1;cases k1;omega
    |jump k1 k2=>rw[hi]at k1;cases k1;omega
    |note k1 k2=>rw[hi]at k1;cases k1;omega
    |start k1 k2=>rw[hi]at k1;cases k1;omega
    |endN k1 k2=>rw[hi]at k1;cases k1;omega
    |endY k1 k2=>rw[hi]at k1;cases k1;omega
   obtain⟨w1,w2⟩:=ur hok hso (pl:=p) ht0.len hv1 (htk _ _ hi h0) (by show 1<2;omega)
   obtain⟨g1,g2,g3,g4⟩:=ic ht0.len (bM code (t.pc+1,1)) s w2 h1 h2 h3
   obtain⟨k1,k2⟩:=pH hok htk hso ts _ hts g2 g3 g4
   refine⟨?_,k2⟩
   rw[k1,g1,w1,hf,Option.or_assoc]
  ·rw[if_neg hta]
   have hvn:v=none:=by
    cases hv with
    |takeN k1 k2 k3=>rfl
    |takeY k1 k2 k3 k4=>rw[hi]at k1;cases k1;exact absurd k3 hta
    |acc k1 k2=>rfl
    |split k1 k2=>rw[hi]at k1;cases k1;omega
    |jump k1 k2=>rw[hi]at k1;cases k1;omega
    |note k1 k2=>rw[hi]at k1;cases k1;omega
    |start k1 k2=>rw[hi]at k1;cases k1;omega
    |endN k1 k2=>rfl
    |endY k1 k2=>rw[hi]at k1;cases k1;omega
   obtain⟨k1,k2⟩:=pH hok htk hso ts s hts h1 h2 h3
   refine⟨?_,k2⟩
   rw[k1,hf,hvn]
   rfl
theorem jJ {a:Nat}:∀(ts:List Th),(∀t∈ts,pY code [] a t) ->cQ code ts=fstT code [] a ts
 |[],_=>rfl
 |t::ts,ht=>by
  have ht0:=ht t (List.mem_cons_self ..)
  have ih:=jJ ts (fun y hy=>ht y (List.mem_cons_of_mem _ hy))
  obtain⟨i,hi,hop⟩:=ht0.ins
  have hf:fstT code [] a (t::ts)=((fut code [] a (t.pc,1)).map (app t.sl)).or (fstT code [] a ts):=by
   unfold fstT
   rw[List.findSome?_cons]
   cases fut code [] a (t.pc,1)<;>rfl
  unfold cQ
  rw[hi,hf]
  rcases hop with h0|h0
  ·rw[(VEv.take0 (pl:=a) (m:=1) hi h0).fut,if_neg (by simp[h0]),ih]
   rfl
  ·rw[(VEv.acc (l:=[]) (pl:=a) (m:=1) hi h0).fut,if_pos (by simp[h0])]
   rfl
theorem xA (hok:cZ code) (htk:eN code) (hso:li code) (s:ByteArray):∀(f a:Nat) (ts:List Th) (rc:List Int),(∀t∈ts,pY code (rns s f a) a t) ->(∀z∈rc,z<=(a:Int)) ->mz code s f a (ts,rc)=fstT code (rns s f a) a ts
 |0,a,ts,rc,ht,hr=>jJ ts ht
 |f+1,a,ts,rc,ht,hr=>by
  unfold mz
  by_cases ha:a<s.size
  ·have hge:=(sX s a ha).1
   have hrn:rns s (f+1) a=(sY s a,a+rsz s a)::rns s f (a+rsz s a):=by rw[rns,if_pos ha]
   rw[hrn]at ht ⊢
   rw[if_pos ha]
   obtain⟨k1,k2,k3,k4⟩:=pH hok htk hso ts ([],rc) ht (fun k hk=>by
    have:=hr _ (List.mem_of_getElem? hk)
    omega) (fun t ht=>by cases ht) (fun z hz=>by have:=hr z hz;omega)
   rw[show (fstT code (rns s f (a+rsz s a)) (a+rsz s a) ([],rc).1)=none from rfl,Option.none_or]at k1
   dsimp only
   split
   ·next h0=>
    rw[<-k1,List.length_eq_zero_iff.1 h0]
    rfl
   ·rw[<-k1]
    exact xA hok htk hso s f _ _ _ k3 k4
  ·rw[if_neg ha]
   have hrn:rns s (f+1) a=[]:=by rw[rns,if_neg ha]
   rw[hrn]at ht ⊢
   exact jJ ts ht
def db (c:List Ins):Prop:=∀i∈c,i.op=3 ->∃a:Nat,(a:Int)=i.sl/\a<10
theorem db.app {a b:List Ins} (h:db a) (k:db b):db (a++b):=fun i hi=>(List.mem_append.1 hi).elim (h i) (k i)
theorem db.cons {b:List Ins} (h:i.op=3 ->∃a:Nat,(a:Int)=i.sl/\a<10) (k:db b):db (i::b):=fun j hj=>by
 rcases List.mem_cons.1 hj with rfl|hj
 ·exact h
 ·exact k j hj
theorem db.nil:db []:=fun i hi=>by cases hi
theorem i6 (z:Bool) (a b:Nat):¬(dx z a b).op=3:=by cases z<;>exact (by decide:¬(1:Int)=3)
theorem rp {f:Nat ->List Ins} (hf:∀n,db (f n)) (z:Bool) (s e:Nat):∀m n,db (mX f z s e m n)
 |0,n=> .nil
 |m+1,n=> .cons (fun h=>absurd h (i6 _ _ _)) ((hf _).app (rp hf z s e m _))
theorem mh {f:Nat ->List Ins} (hf:∀n,db (f n)) (s:Nat):∀m n,db (iu f s m n)
 |0,n=> .nil
 |m+1,n=>(hf _).app (mh hf s m _)
mutual
theorem eW:∀(p:Pt),POK p ->∀n,db (cde p n)
 |.single c,_,n=>by rw[cde];exact .cons (fun h=>absurd h (by show ¬(0:Int)=3;decide)) .nil
 |.seq l,hp,n=>by rw[cde];exact oC l hp n
 |.alt l,hp,n=>by rw[cde];exact oB l hp.1 n _
 |.wrap p g,hp,n=>by
  have hg:=hp.2
  rw[cde]
  split
  ·exact eW p hp.1 n
  ·refine .cons (fun _=>⟨2*(g-1),rfl,by omega⟩) ((eW p hp.1 _).app (.cons (fun _=>⟨2*(g-1)+1,rfl,by omega⟩) .nil))
 |.count p le mo z,hp,n=>by
  have hf:=eW p hp.1
  rw[cde]
  split
  ·refine (mh hf _ _ _).app (.cons (fun h=>absurd h (i6 _ _ _)) (.cons (fun h=>absurd h (by show ¬(4:Int)=3;decide)) ((hf _).app (.cons (fun h=>absurd h (by show ¬(5:Int)=3;decide)) (.cons (fun h=>absurd h (by show ¬(2:Int)=3;decide)) .nil)))))
  ·exact (mh hf _ _ _).app (rp hf _ _ _ _ _)
theorem oC:∀(l:List Pt),jb l ->∀n,db (kL l n)
 |[],_,n=>by rw[kL];exact .nil
 |p::l,hp,n=>by rw[kL];exact (eW p hp.1 n).app (oC l hp.2 _)
theorem oB:∀(l:List Pt),jb l ->∀n e,db (fX l n e)
 |[],_,n,e=>by rw[fX];exact .nil
 |[p],hp,n,e=>by rw[fX];exact eW p hp.1 n
 |p::q::l,hp,n,e=>by
  rw[fX]
  exact .cons (fun h=>absurd h (i6 _ _ _)) ((eW p hp.1 _).app (.cons (fun h=>absurd h (by show ¬(2:Int)=3;decide)) (oB (q::l) hp.2 _ _)))
end
theorem ve (q:Pt) (hq:POK q):li (bB q):=fun k i hi ho=>by
 have h:db (bB q):=by
  rw[jy]
  exact (eW q hq 0).app (.cons (fun h=>absurd h (by show ¬(6:Int)=3;decide)) .nil)
 exact h i (List.mem_of_getElem? hi) ho
theorem wV (q:Pt) (hq:POK q) (s:ByteArray):dN (bB q) s=(ev (rns s s.size 0) 0 [.ex (den q)]).map (app bh):=by
 obtain⟨hok,htk⟩:=tU q hq
 have hso:=ve q hq
 obtain⟨n,hv⟩:=yM q hq (rns s s.size 0) 0
 have hpos:0<(bB q).length:=by rw[jy];simp
 obtain⟨w1,w2⟩:=ur hok hso (pl:=0) (sl:=bh) rfl hv hpos (by show 0<2;omega)
 obtain⟨g1,g2,g3,g4⟩:=ic (pl:=0) (sl:=bh) rfl (bM (bB q) (0,0)) ([],List.replicate (bB q).length (-1)) w2 (fun k hk=>by
  have:=List.mem_of_getElem? hk
  rw[List.mem_replicate]at this
  exact absurd this.2 (by decide)) (fun t ht=>by cases ht) (fun z hz=>by
  rw[List.mem_replicate]at hz
  rw[hz.2]
  decide)
 unfold dN
 have h1:=xA hok htk hso s s.size 0 (aY bh ((0:Nat):Int) (wys (bM (bB q) (0,0))) ([],List.replicate (bB q).length (-1))).1 (aY bh ((0:Nat):Int) (wys (bM (bB q) (0,0))) ([],List.replicate (bB q).length (-1))).2 g3 g4
 refine Eq.trans h1 ?_
 rw[g1,w1]
 rfl
end Go.Proofs.YtfnanjbleifjkaaGreatDoor.G
