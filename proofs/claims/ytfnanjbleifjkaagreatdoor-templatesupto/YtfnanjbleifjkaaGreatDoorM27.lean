import Derived.Test.YtfnanjbleifjkaaGreatDoorM23
set_option linter.unusedVariables false
set_option linter.unusedSimpArgs false
namespace Go.Proofs.YtfnanjbleifjkaaGreatDoor.G
variable {code:List Ins} {x:Xp}
def dx (z:Bool) (a b:Nat):Ins:=if z then ⟨1,0,0,false,(b:Int),(a:Int),0⟩else ⟨1,0,0,false,(a:Int),(b:Int),0⟩
def rN (c:Cls):Ins:=⟨0,c.lo,c.hi,c.hg,0,0,0⟩
def mX (f:Nat ->List Ins) (z:Bool) (s e:Nat):Nat ->Nat ->List Ins
 |0,_=>[]
 |m+1,n=>dx z (n+1) e::(f (n+1)++mX f z s e m (n+1+s))
def iu (f:Nat ->List Ins) (s:Nat):Nat ->Nat ->List Ins
 |0,_=>[]
 |m+1,n=>f n++iu f s m (n+s)
mutual
def cde:Pt ->Nat ->List Ins
 |.single c,n=>[rN c]
 |.seq l,n=>kL l n
 |.alt l,n=>fX l n (n+isz (.alt l))
 |.wrap p g,n=>if g=0 then cde p n else iE (2*(g-1))::(cde p (n+1)++[iE (2*(g-1)+1)])
 |.count p le mo z,n=>
  if mo= -1 then iu (cde p) (isz p) le n++(dx z (n+isz p*le+1) (n+isz p*le+isz p+4)::bare 4::(cde p (n+isz p*le+2)++[bare 5,eT (n+isz p*le)]))
  else iu (cde p) (isz p) le n++mX (cde p) z (isz p) (n+isz p*le+(isz p+1)*more le mo) (more le mo) (n+isz p*le)
def kL:List Pt ->Nat ->List Ins
 |[],_=>[]
 |p::l,n=>cde p n++kL l (n+isz p)
def fX:List Pt ->Nat ->Nat ->List Ins
 |[],_,_=>[]
 |[p],n,_=>cde p n
 |p::q::l,n,e=>dx false (n+1) (n+isz p+2)::(cde p (n+1)++eT e::fX (q::l) (n+isz p+2) e)
end
theorem fH (f:Nat ->List Ins) (s:Nat) (hf:∀n,(f n).length=s):∀m n,(iu f s m n).length=s*m
 |0,n=>rfl
 |m+1,n=>by rw[iu,List.length_append,hf,fH f s hf m,Nat.mul_succ];omega
theorem qn (f:Nat ->List Ins) (z:Bool) (s e:Nat) (hf:∀n,(f n).length=s):∀m n,(mX f z s e m n).length=(s+1)*m
 |0,n=>rfl
 |m+1,n=>by rw[mX,List.length_cons,List.length_append,hf,qn f z s e hf m,Nat.mul_succ];omega
mutual
theorem aM:∀(p:Pt) (n:Nat),(cde p n).length=isz p
 |.single c,n=>rfl
 |.seq l,n=>by rw[cde,isz];exact qo l n
 |.alt l,n=>by rw[cde,qk l,isz]
 |.wrap p g,n=>by
  rw[cde,isz]
  split
  ·exact aM p n
  ·rw[List.length_cons,List.length_append,aM p];rfl
 |.count p le mo z,n=>by
  rw[cde,isz]
  split
  ·rw[List.length_append,fH _ _ (aM p)]
   simp[aM p]
  ·rw[List.length_append,fH _ _ (aM p),qn _ _ _ _ (aM p)]
theorem qo:∀(l:List Pt) (n:Nat),(kL l n).length=cx l
 |[],n=>rfl
 |p::l,n=>by rw[kL,List.length_append,aM p,qo l,cx]
theorem qk:∀(l:List Pt) (n e:Nat),(fX l n e).length=cx l+2*(l.length-1)
 |[],n,e=>rfl
 |[p],n,e=>by rw[fX,aM p];simp[cx]
 |p::q::l,n,e=>by
  rw[fX,List.length_cons,List.length_append,List.length_cons,aM p,qk (q::l)]
  simp[cx]
  omega
end
theorem oT (l:List Ins) (i:Ins) (r:List Ins) (s:Bool) (n:Nat):fc (l++i::r) l.length s n=l++i.way s n::r:=by
 unfold fc
 induction l with
 |nil=>rfl
 |cons a l ih=>rw[List.cons_append,List.length_cons,List.modify_succ_cons,ih];rfl
theorem jF (l:List Ins) (k:Nat) (i:Ins) (r:List Ins) (s:Bool) (n:Nat) (hk:k=l.length):fc (l++i::r) k s n=l++i.way s n::r:=by subst hk;exact oT l i r s n
theorem o9 (z:Bool) (l:List Ins):dr z l=l++[(bare 1).way z (l.length+1)]:=by
 unfold dr
 exact oT l (bare 1) [] z _
theorem kq (z:Bool) (a b:Nat):((bare 1).way z a).way (!z) b=dx z a b:=by cases z<;>rfl
theorem xS (e:Nat):(bare 2).way false e=eT e:=rfl
def m8 (f:Nat ->List Ins) (z:Bool) (s:Nat):Nat ->Nat ->List Ins
 |0,_=>[]
 |m+1,n=>(bare 1).way z (n+1)::(f (n+1)++m8 f z s m (n+1+s))
def iQ (s:Nat):Nat ->Nat ->List Nat
 |0,_=>[]
 |m+1,n=>n::iQ s m (n+1+s)
theorem qY (g:List Ins ->List Ins) (f:Nat ->List Ins) (z:Bool) (s:Nat) (hf:∀n,(f n).length=s) (hg:∀l,g l=l++f l.length):∀(m:Nat) (ks:List Nat) (l:List Ins),dp g z m ks l=(ks++iQ s m l.length,l++m8 f z s m l.length)
 |0,ks,l=>by simp[dp,iQ,m8]
 |m+1,ks,l=>by
  rw[dp,qY g f z s hf hg m,hg,o9]
  simp only[List.length_append,List.length_cons,List.length_nil,hf,iQ,m8]
  simp[Nat.add_assoc]
theorem ou (f:Nat ->List Ins) (z:Bool) (s e:Nat) (hf:∀n,(f n).length=s):∀(m n:Nat) (pre:List Ins),pre.length=n ->n+(s+1)*m=e ->(iQ s m n).foldl (fun l k=>df z k l) (pre++m8 f z s m n)=pre++mX f z s e m n
 |0,n,pre,_,_=>by simp[iQ,m8,mX]
 |m+1,n,pre,hn,he=>by
  rw[iQ,List.foldl_cons,m8,mX]
  have hlen:(pre++(bare 1).way z (n+1)::(f (n+1)++m8 f z s m (n+1+s))).length=e:=by
   have h1:∀m n,(m8 f z s m n).length=(s+1)*m:=by
    intro m
    induction m with
    |zero=>intro n;rfl
    |succ m ih=>intro n;rw[m8,List.length_cons,List.length_append,hf,ih,Nat.mul_succ];omega
   rw[List.length_append,List.length_cons,List.length_append,hf,h1]
   rw[Nat.mul_succ]at he
   omega
  unfold df
  rw[jF pre n _ _ _ _ hn.symm,hlen,kq]
  have ih:=ou f z s e hf m (n+1+s) (pre++dx z (n+1) e::f (n+1)) (by rw[List.length_append,List.length_cons,hf];omega) (by rw[Nat.mul_succ]at he;omega)
  unfold df at ih
  simp only[List.append_assoc,List.cons_append]at ih
  exact ih
theorem tN (g:List Ins ->List Ins) (f:Nat ->List Ins) (s:Nat) (hf:∀n,(f n).length=s) (hg:∀l,g l=l++f l.length):∀(m:Nat) (l:List Ins),gp g m l=l++iu f s m l.length
 |0,l=>by simp[gp,iu]
 |m+1,l=>by
  rw[gp,tN g f s hf hg m,hg,iu]
  simp[hf]
def ju:List Pt ->Nat ->List Ins
 |[],_=>[]
 |[p],n=>cde p n
 |p::q::l,n=>dx false (n+1) (n+isz p+2)::(cde p (n+1)++bare 2::ju (q::l) (n+isz p+2))
def gq:List Pt ->Nat ->List Nat
 |[],_=>[]
 |[_],_=>[]
 |p::q::l,n=>(n+isz p+1)::gq (q::l) (n+isz p+2)
theorem rr:∀(l:List Pt) (n:Nat),(ju l n).length=cx l+2*(l.length-1)
 |[],n=>rfl
 |[p],n=>by rw[ju,aM];simp[cx]
 |p::q::l,n=>by
  rw[ju,List.length_cons,List.length_append,List.length_cons,aM,rr (q::l)]
  simp[cx]
  omega
theorem rf (e:Nat):∀(l:List Pt) (n:Nat) (pre:List Ins),pre.length=n ->n+(cx l+2*(l.length-1))=e ->(gq l n).foldl (fun l k=>iC k l) (pre++ju l n)=pre++fX l n e
 |[],n,pre,_,_=>by simp[gq,ju,fX]
 |[p],n,pre,_,_=>by simp[gq,ju,fX]
 |p::q::l,n,pre,hn,he=>by
  rw[gq,List.foldl_cons,ju,fX]
  have hlen:(pre++dx false (n+1) (n+isz p+2)::(cde p (n+1)++bare 2::ju (q::l) (n+isz p+2))).length=e:=by
   rw[List.length_append,List.length_cons,List.length_append,List.length_cons,aM,rr (q::l)]
   simp[cx]at he ⊢
   omega
  unfold iC
  have h1:=jF (pre++dx false (n+1) (n+isz p+2)::cde p (n+1)) (n+isz p+1) (bare 2) (ju (q::l) (n+isz p+2)) false e (by rw[List.length_append,List.length_cons,aM];omega)
  rw[xS]at h1
  simp only[List.append_assoc,List.cons_append]at h1
  rw[hlen,h1]
  have ih:=rf e (q::l) (n+isz p+2) (pre++dx false (n+1) (n+isz p+2)::(cde p (n+1)++[eT e])) (by simp[aM];omega) (by simp[cx]at he ⊢;omega)
  unfold iC at ih
  simp only[List.append_assoc,List.cons_append,List.nil_append]at ih
  exact ih
mutual
theorem eB:∀(p:Pt) (l:List Ins),bl p l=l++cde p l.length
 |.single c,l=>rfl
 |.seq ps,l=>by rw[bl,cde];exact p8 ps l
 |.alt ps,l=>by
  rw[bl,cde,lr ps [] l]
  simp only[List.nil_append]
  exact rf _ ps l.length l rfl (by rw[isz])
 |.wrap p g,l=>by
  rw[bl,cde]
  split
  ·exact eB p l
  ·rw[eB p]
   simp
 |.count p le mo z,l=>by
  rw[bl,cde]
  have hi:=tN (bl p) (cde p) (isz p) (aM p) (eB p) le l
  have hlen:(l++iu (cde p) (isz p) le l.length).length=l.length+isz p*le:=by rw[List.length_append,fH _ _ (aM p)]
  split
  ·rw[hi]
   unfold ri
   rw[eB p,o9,hlen]
   unfold df
   have h1:=jF (l++iu (cde p) (isz p) le l.length) (l.length+isz p*le) ((bare 1).way z (l.length+isz p*le+1)) ([bare 4]++cde p (l.length+isz p*le+2)++[bare 5]++[eT (l.length+isz p*le)]) (!z) (l.length+isz p*le+isz p+4) hlen.symm
   rw[kq]at h1
   have h2:(l++iu (cde p) (isz p) le l.length++[(bare 1).way z (l.length+isz p*le+1)]++[bare 4]).length=l.length+isz p*le+2:=by rw[List.length_append,List.length_append,hlen];rfl
   have h3:((l++iu (cde p) (isz p) le l.length++[(bare 1).way z (l.length+isz p*le+1)]++[bare 4])++cde p (l.length+isz p*le+2)++[bare 5]++[eT (l.length+isz p*le)]).length=l.length+isz p*le+isz p+4:=by
    rw[List.length_append,List.length_append,List.length_append,h2,aM]
    simp
    omega
   rw[h2,h3]
   simp only[List.append_assoc,List.cons_append,List.nil_append]at h1 ⊢
   exact h1
  ·rw[hi,qY (bl p) (cde p) z (isz p) (aM p) (eB p)]
   simp only[List.nil_append,hlen]
   have h1:=ou (cde p) z (isz p) (l.length+isz p*le+(isz p+1)*more le mo) (aM p) (more le mo) (l.length+isz p*le) (l++iu (cde p) (isz p) le l.length) hlen rfl
   rw[h1,List.append_assoc]
theorem p8:∀(ps:List Pt) (l:List Ins),ee ps l=l++kL ps l.length
 |[],l=>by simp[ee,kL]
 |p::ps,l=>by
  rw[ee,p8 ps,eB p,kL]
  simp[aM]
theorem lr:∀(ps:List Pt) (js:List Nat) (l:List Ins),dG ps js l=(js++gq ps l.length,l++ju ps l.length)
 |[],js,l=>by simp[dG,gq,ju]
 |[p],js,l=>by simp[dG,gq,ju,eB p]
 |p::q::ps,js,l=>by
  rw[dG]
  simp only[eB p,o9]
  have h0:(l++[(bare 1).way false (l.length+1)]).length=l.length+1:=by simp
  rw[h0]
  unfold df
  have h1:=jF l l.length ((bare 1).way false (l.length+1)) (cde p (l.length+1)++[bare 2]) (!false) (l.length+isz p+2) rfl
  rw[kq]at h1
  have h2:(l++[(bare 1).way false (l.length+1)]++cde p (l.length+1)).length=l.length+isz p+1:=by rw[List.length_append,h0,aM];omega
  have h3:(l++[(bare 1).way false (l.length+1)]++cde p (l.length+1)++[bare 2]).length=l.length+isz p+2:=by rw[List.length_append,h2];rfl
  rw[h2,h3]
  simp only[List.append_assoc,List.cons_append,List.nil_append]at h1 ⊢
  rw[h1,lr (q::ps)]
  have h4:(l++dx false (l.length+1) (l.length+isz p+2)::(cde p (l.length+1)++[bare 2])).length=l.length+isz p+2:=by simp[aM];omega
  rw[h4]
  simp only[gq,ju,List.append_assoc,List.cons_append,List.nil_append]
end
theorem jy (q:Pt):bB q=cde q 0++[bare 6]:=by
 unfold bB
 rw[eB]
 rfl
inductive Sg (code:List Ins):Option Nat ->Nat ->Xp ->Nat ->Prop
 |emp (pc):Sg code none pc .emp pc
 |set {pc c}:code[pc]? =some (rN c) ->Sg code none pc (.set c) (pc+1)
 |cat {pc a p1 b q}:Sg code none pc a p1 ->Sg code none p1 b q ->Sg code none pc (.cat a b) q
 |alt {pc a q b e}:Sg code (some e) pc a q ->Sg code none q b e ->Sg code none pc (.alt a b) e
 |star {pc a z p1}:code[pc]? =some (dx z (pc+1) (p1+2)) ->code[pc+1]? =some (bare 4) ->Sg code none (pc+2) a p1 ->code[p1]? =some (bare 5) ->code[p1+1]? =some (eT pc) ->Sg code none pc (.star a z) (p1+2)
 |may {pc a z e}:code[pc]? =some (dx z (pc+1) e) ->Sg code none (pc+1) a e ->Sg code none pc (.may a z) e
 |grp {pc a n p1}:code[pc]? =some (iE (2*(n-1))) ->Sg code none (pc+1) a p1 ->code[p1]? =some (iE (2*(n-1)+1)) ->Sg code none pc (.grp a n) (p1+1)
 |one {e pc a p1}:code[pc]? =some (dx false (pc+1) (p1+1)) ->Sg code none (pc+1) a p1 ->code[p1]? =some (eT e) ->Sg code (some e) pc a (p1+1)
 |two {e pc a q b q'}:Sg code (some e) pc a q ->Sg code (some e) q b q' ->Sg code (some e) pc (.alt a b) q'
def fh (code:List Ins) (n:Nat) (c:List Ins):Prop:=∀j,j<c.length ->code[n+j]? =c[j]?
theorem fh.left {n:Nat} {a b:List Ins} (h:fh code n (a++b)):fh code n a:=fun j hj=>by
 rw[h j (by rw[List.length_append];omega),List.getElem?_append_left hj]
theorem fh.right {n:Nat} {a b:List Ins} (h:fh code n (a++b)) {m:Nat} (hm:a.length=m):fh code (n+m) b:=fun j hj=>by
 subst hm
 rw[Nat.add_assoc,h (a.length+j) (by rw[List.length_append];omega),List.getElem?_append_right (by omega)]
 congr 1
 omega
theorem fh.head {n:Nat} {i:Ins} {r:List Ins} (h:fh code n (i::r)):code[n]? =some i:=by
 have:=h 0 (by simp)
 simpa using this
theorem fh.tail {n:Nat} {i:Ins} {r:List Ins} (h:fh code n (i::r)):fh code (n+1) r:=fh.right (a:=[i]) h rfl
theorem zU {f:Nat ->List Ins} {z:Bool} {s e:Nat} (hf:∀n,(f n).length=s) (hs:∀n,fh code n (f n) ->Sg code none n x (n+s)) (o:Xp) (ho:Sg code none e o e):∀(m n:Nat),n+(s+1)*m=e ->fh code n (mX f z s e m n) ->Sg code none n (upX x z m o) e:=by
 intro m
 induction m with
 |zero=>
  intro n he hl
  have:n=e:=by simpa using he
  subst this
  exact ho
 |succ m ih=>
  intro n he hl
  rw[gU]
  rw[mX]at hl
  rw[Nat.mul_succ]at he
  exact .may hl.head (.cat (hs _ hl.tail.left) (ih _ (by omega) (hl.tail.right (hf _))))
theorem ub {f:Nat ->List Ins} {s q:Nat} (hf:∀n,(f n).length=s) (hs:∀n,fh code n (f n) ->Sg code none n x (n+s)) (o:Xp):∀(m n:Nat),Sg code none (n+s*m) o q ->fh code n (iu f s m n) ->Sg code none n (lC x m o) q:=by
 intro m
 induction m with
 |zero=>intro n ho hl;exact ho
 |succ m ih=>
  intro n ho hl
  rw[eJ]
  rw[iu]at hl
  rw[Nat.mul_succ]at ho
  exact .cat (hs _ hl.left) (ih _ (by rw[show n+s+s*m=n+(s*m+s) by omega];exact ho) (hl.right (hf _)))
mutual
theorem gz:∀(p:Pt),POK p ->∀n,fh code n (cde p n) ->Sg code none n (den p) (n+isz p)
 |.single c,_,n,h=>by rw[cde]at h;exact .set h.head
 |.seq l,hp,n,h=>by
  rw[cde]at h
  rw[den,isz]
  exact ue l hp n n .emp (.emp n) h
 |.alt l,hp,n,h=>by
  rw[cde]at h
  rw[den]
  exact yS l hp.1 n _ (by rw[isz]) h
 |.wrap p g,hp,n,h=>by
  rw[cde]at h
  rw[den,isz]
  split
  ·next hg=>rw[if_pos hg]at h;exact gz p hp.1 n h
  ·next hg=>
   rw[if_neg hg]at h
   have h1:=gz p hp.1 _ h.tail.left
   have h2:=(h.tail.right (aM p _)).head
   rw[show n+(isz p+2)=n+1+isz p+1 by omega]
   exact .grp h.head h1 h2
 |.count p le mo z,hp,n,h=>by
  rw[cde]at h
  rw[den,isz]
  unfold eE
  have hs:∀n,fh code n (cde p n) ->Sg code none n (den p) (n+isz p):=gz p hp.1
  by_cases hm:mo= -1
  ·rw[if_pos hm]at h
   rw[if_pos hm,if_pos (by omega)]
   refine ub (aM p) hs _ _ _ ?_ h.left
   have h1:=h.right (fH _ _ (aM p) _ _)
   have h2:=hs _ h1.tail.tail.left
   have h3:=h1.tail.tail.right (aM p _)
   have h4:=Sg.star (z:=z) (pc:=n+isz p*le) (p1:=n+isz p*le+2+isz p) (by rw[h1.head];congr 2;omega) h1.tail.head h2 h3.head h3.tail.head
   rw[show n+(isz p*le+(isz p+4))=n+isz p*le+2+isz p+2 by omega]
   exact h4
  ·rw[if_neg hm]at h
   rw[if_neg hm]
   have hmo:¬mo<0:=by have c:=hp.2.2.2;dsimp only at c;omega
   rw[if_neg hmo]
   refine ub (aM p) hs _ _ _ ?_ h.left
   rw[<-Nat.add_assoc]
   exact zU (aM p) hs _ (.emp _) _ _ rfl (h.right (fH _ _ (aM p) _ _))
theorem ue:∀(l:List Pt),jb l ->∀(pc n:Nat) (x:Xp),Sg code none pc x n ->fh code n (kL l n) ->Sg code none pc (iw l x) (n+cx l)
 |[],_,pc,n,x,hx,h=>by rw[iw];exact hx
 |p::l,hp,pc,n,x,hx,h=>by
  rw[kL]at h
  rw[iw,cx,<-Nat.add_assoc]
  exact ue l hp.2 pc _ _ (.cat hx (gz p hp.1 n h.left)) (h.right (aM p _))
theorem yS:∀(l:List Pt),jb l ->∀(n e:Nat),n+(cx l+2*(l.length-1))=e ->fh code n (fX l n e) ->Sg code none n (iv l) e
 |[],hp,n,e,he,h=>by
  rw[iv]
  simp[cx]at he
  rw[<-he];exact .emp n
 |[p],hp,n,e,he,h=>by
  rw[fX]at h
  rw[iv,iK]
  have:=gz p hp.1 n h
  simp[cx]at he
  rw[<-he];exact this
 |p::q::l,hp,n,e,he,h=>by
  rw[fX]at h
  rw[iv]
  have h1:=gz p hp.1 _ h.tail.left
  have h2:=h.tail.right (aM p _)
  have h3:Sg code (some e) n (den p) (n+isz p+2):=by
   have:=Sg.one (e:=e) (pc:=n) (p1:=n+1+isz p) (by rw[h.head];congr 2;omega) h1 h2.head
   rw[show n+isz p+2=n+1+isz p+1 by omega];exact this
  refine ud (q::l) hp.2 (by simp) n _ e _ (by simp[cx]at he ⊢;omega) h3 ?_
  have h4:=h2.tail
  rw[show n+1+isz p+1=n+isz p+2 by omega]at h4
  exact h4
theorem ud:∀(l:List Pt),jb l ->l≠[] ->∀(pc n e:Nat) (x:Xp),n+(cx l+2*(l.length-1))=e ->Sg code (some e) pc x n ->fh code n (fX l n e) ->Sg code none pc (iK l x) e
 |[],hp,h0,pc,n,e,x,he,hx,h=>absurd rfl h0
 |[p],hp,h0,pc,n,e,x,he,hx,h=>by
  rw[fX]at h
  rw[iK,iK]
  have:=gz p hp.1 n h
  simp[cx]at he
  rw[he]at this
  exact .alt hx this
 |p::q::l,hp,h0,pc,n,e,x,he,hx,h=>by
  rw[fX]at h
  rw[iK]
  have h1:=gz p hp.1 _ h.tail.left
  have h2:=h.tail.right (aM p _)
  have h3:Sg code (some e) n (den p) (n+isz p+2):=by
   have:=Sg.one (e:=e) (pc:=n) (p1:=n+1+isz p) (by rw[h.head];congr 2;omega) h1 h2.head
   rw[show n+isz p+2=n+1+isz p+1 by omega];exact this
  refine ud (q::l) hp.2 (by simp) pc _ e _ (by simp[cx]at he ⊢;omega) (.two hx h3) ?_
  have h4:=h2.tail
  rw[show n+1+isz p+1=n+isz p+2 by omega]at h4
  exact h4
end
inductive VEv (code:List Ins):List (Nat×Nat) ->Nat ->Nat×Nat ->Nat ->Option Mk ->Prop
 |take0 {pl pc m i}:code[pc]? =some i ->i.op=0 ->VEv code [] pl (pc,m) 1 none
 |takeN {r p l pl pc m i}:code[pc]? =some i ->i.op=0 ->i.takes (r:Int)=false ->VEv code ((r,p)::l) pl (pc,m) 1 none
 |takeY {r p l pl pc m i n v}:code[pc]? =some i ->i.op=0 ->i.takes (r:Int)=true ->VEv code l p (pc+1,1) n v ->VEv code ((r,p)::l) pl (pc,m) 1 v
 |acc {l pl pc m i}:code[pc]? =some i ->i.op=6 ->VEv code l pl (pc,m) 1 (if l.isEmpty then some []else none)
 |split {l pl pc m i n0 n1 v0 v1}:code[pc]? =some i ->i.op=1 ->VEv code l pl (i.t0.toNat,m) n0 v0 ->VEv code l pl (i.t1.toNat,m) n1 v1 ->VEv code l pl (pc,m) (n0+n1+1) (v0.or v1)
 |jump {l pl pc m i n v}:code[pc]? =some i ->i.op=2 ->VEv code l pl (i.t0.toNat,m) n v ->VEv code l pl (pc,m) (n+1) v
 |note {l pl pc m i n v}:code[pc]? =some i ->i.op=3 ->VEv code l pl (pc+1,m) n v ->VEv code l pl (pc,m) (n+1) (v.map ((i.sl.toNat,pl):: ·))
 |start {l pl pc m i n v}:code[pc]? =some i ->i.op=4 ->VEv code l pl (pc+1,0) n v ->VEv code l pl (pc,m) (n+1) v
 |endN {l pl pc m i}:code[pc]? =some i ->i.op=5 ->m≠1 ->VEv code l pl (pc,m) 1 none
 |endY {l pl pc m i n v}:code[pc]? =some i ->i.op=5 ->m=1 ->VEv code l pl (pc+1,1) n v ->VEv code l pl (pc,m) (n+1) v
theorem VEv.pos {l:List (Nat×Nat)} {pl:Nat} {h:Nat×Nat} {n:Nat} {v:Option Mk} (e:VEv code l pl h n v):1<=n:=by cases e<;>omega
theorem VEv.det {l:List (Nat×Nat)} {pl:Nat} {h:Nat×Nat} {n n':Nat} {v v':Option Mk} (e:VEv code l pl h n v) (e':VEv code l pl h n' v'):n=n'/\v=v':=by
 induction e generalizing n' v' with
 |take0 hc ho=>cases e'<;>simp_all
 |takeN hc ho ht=>cases e'<;>simp_all
 |takeY hc ho ht _ ih=>
  cases e' with
  |takeN hc' ho' ht'=>simp_all
  |takeY hc' ho' ht' h'=>exact⟨rfl,(ih h').2⟩
  |_=>simp_all
 |acc hc ho=>cases e'<;>simp_all
 |split hc ho _ _ ih0 ih1=>
  cases e' with
  |split hc' ho' h0 h1=>
   rw[hc]at hc'
   cases hc'
   obtain⟨rfl,rfl⟩:=ih0 h0
   obtain⟨rfl,rfl⟩:=ih1 h1
   exact⟨rfl,rfl⟩
  |_=>simp_all
 |jump hc ho _ ih=>
  cases e' with
  |jump hc' ho' h0=>
   rw[hc]at hc'
   cases hc'
   obtain⟨rfl,rfl⟩:=ih h0
   exact⟨rfl,rfl⟩
  |_=>simp_all
 |note hc ho _ ih=>
  cases e' with
  |note hc' ho' h0=>
   rw[hc]at hc'
   cases hc'
   obtain⟨rfl,rfl⟩:=ih h0
   exact⟨rfl,rfl⟩
  |_=>simp_all
 |start hc ho _ ih=>
  cases e' with
  |start hc' ho' h0=>
   obtain⟨rfl,rfl⟩:=ih h0
   exact⟨rfl,rfl⟩
  |_=>simp_all
 |endN hc ho hm=>cases e'<;>simp_all
 |endY hc ho hm _ ih=>
  cases e' with
  |endY hc' ho' hm' h0=>
   obtain⟨rfl,rfl⟩:=ih h0
   exact⟨rfl,rfl⟩
  |_=>simp_all
def frK:List Tk ->List Tk
 |[]=>[]
 |.rend x z _::k=> .rend x z true::dF k
 |.ex x::k=> .ex x::frK k
 |.gend n::k=> .gend n::frK k
theorem sN:∀k:List Tk,dF (frK k)=dF k
 |[]=>rfl
 |.rend x z _::k=>by simp only[frK,dF,List.map_cons,Tk.old];rw[show List.map Tk.old (List.map Tk.old k)=List.map Tk.old k from mi k]
 |.ex x::k=>by have:=sN k;simp only[frK,dF,List.map_cons]at this ⊢;rw[this]
 |.gend n::k=>by have:=sN k;simp only[frK,dF,List.map_cons]at this ⊢;rw[this]
def flK (m:Nat) (k:List Tk):List Tk:=if m=1 then dF k else frK k
theorem xg (m:Nat) (k:List Tk):dF (flK m k)=dF k:=by
 unfold flK
 split
 ·exact mi k
 ·exact sN k
theorem fq (m:Nat) (x:Xp) (k:List Tk):flK m (.ex x::k)= .ex x::flK m k:=by unfold flK;split<;>rfl
theorem tD (m n:Nat) (k:List Tk):flK m (.gend n::k)= .gend n::flK m k:=by unfold flK;split<;>rfl
theorem zA (k:List Tk):flK 1 k=dF k:=rfl
theorem tE (k:List Tk):flK 0 k=frK k:=rfl
def mS (code:List Ins) (r:Nat) (k:List Tk) (pc:Nat):Prop:=∀l pl m,m<=1 ->2*l.length+m<=r ->∃n,VEv code l pl (pc,m) n (ev l pl (flK m k))
theorem mS.mono {r r':Nat} {k:List Tk} {pc:Nat} (h:mS code r k pc) (hr:r'<=r):mS code r' k pc:=fun l pl m hm hl=>h l pl m hm (by omega)
theorem VEv.splits {l:List (Nat×Nat)} {pl pc m a b n0 n1:Nat} {z:Bool} {v0 v1:Option Mk} (hc:code[pc]? =some (dx z a b)) (h0:VEv code l pl (a,m) n0 v0) (h1:VEv code l pl (b,m) n1 v1):∃n,VEv code l pl (pc,m) n (bV z v0 v1):=by
 cases z with
 |false=>exact⟨_,.split hc rfl h0 h1⟩
 |true=>exact⟨_,.split hc rfl h1 h0⟩
def SgP (code:List Ins) (r:Nat) (e:Option Nat) (pc:Nat) (x:Xp) (q:Nat):Prop:=match e with
 |none=>∀k,mS code r k q ->mS code r (.ex x::k) pc
 |some e=>∀k,mS code r k e ->∀l pl m n v,m<=1 ->2*l.length+m<=r ->VEv code l pl (q,m) n v ->∃n',VEv code l pl (pc,m) n' ((ev l pl (.ex x::flK m k)).or v)
theorem xJ (c:Cls) (r:Nat):(rN c).takes (r:Int)=hasC c (r:Int):=by
 unfold Ins.takes
 simp only[rN,beq_self_eq_true,Bool.true_and]
 rfl
theorem yT:∀(r:Nat) {e:Option Nat} {pc:Nat} {x:Xp} {q:Nat},Sg code e pc x q ->SgP code r e pc x q:=by
 intro r
 induction r using Nat.strongRecOn with
 |_ r IH=>
 intro e pc x q h
 induction h with
 |emp pc=>
  intro k hk l pl m hm hl
  rw[fq,gc]
  exact hk l pl m hm hl
 |@set pc c hc=>
  intro k hk l pl m hm hl
  rw[fq]
  match l,hl with
  |[],_=>rw[gj];exact⟨_,.take0 hc rfl⟩
  |(rn,p)::l,hl=>
   rw[fB,xg,<-xJ]
   cases ht:(rN c).takes (rn:Int)with
   |false=>exact⟨_,.takeN hc rfl ht⟩
   |true=>
    obtain⟨n,hn⟩:=hk l p 1 (Nat.le_refl _) (by simp at hl;omega)
    exact⟨_,.takeY hc rfl ht hn⟩
 |@cat pc a p1 b q _ _ ia ib=>
  intro k hk l pl m hm hl
  rw[fq,f0]
  have h1:=ia _ (ib k hk) l pl m hm hl
  rw[fq,fq]at h1
  exact h1
 |@alt pc a q b e _ _ ia ib=>
  intro k hk l pl m hm hl
  rw[fq,fA]
  obtain⟨n,hn⟩:=ib k hk l pl m hm hl
  rw[fq]at hn
  exact ia k hk l pl m _ _ hm hl hn
 |@star pc a z p1 h0 h1 hs h2 h3 ia=>
  intro k hk l pl m hm hl
  rw[fq,ed]
  have hg:mS code (2*l.length) (.rend a z true::k) p1:=by
   intro l2 pl2 m2 hm2 hl2
   rcases (show m2=0\/m2=1 by omega)with rfl|rfl
   ·rw[tE,frK,dJ]
    exact⟨_,.endN h2 rfl (by omega)⟩
   ·have hk2:=IH (2*l2.length+1) (by omega) (Sg.star h0 h1 hs h2 h3) k (hk.mono (by omega)) l2 pl2 1 (Nat.le_refl _) (Nat.le_refl _)
    obtain⟨n,hn⟩:=hk2
    rw[fq,ed]at hn
    rw[zA]
    simp only[dF,List.map_cons,Tk.old]
    rw[eP]
    exact⟨_,.endY h2 rfl rfl (.jump h3 rfl (by show VEv code l2 pl2 (Int.toNat (pc:Int),1) n _;exact hn))⟩
  have hin:=IH
  obtain⟨n0,hn0⟩:∃n0,VEv code l pl (pc+2,0) n0 (ev l pl (.ex a:: .rend a z true::flK m k)):=by
   have h9:∃n,VEv code l pl (pc+2,0) n (ev l pl (flK 0 (.ex a:: .rend a z true::k))):=by
    rcases Nat.lt_or_ge (2*l.length) r with hlt|hge
    ·exact IH _ hlt hs _ hg l pl 0 (by omega) (by omega)
    ·have er:r=2*l.length:=by omega
     subst er
     exact ia _ hg l pl 0 (by omega) (by omega)
   obtain⟨n,hn⟩:=h9
   refine⟨n,?_⟩
   rw[tE]at hn
   simp only[frK]at hn
   rw[(Eqv.ex (x:=a) (Eqv.fresh (x:=a) (z:=z) (k:=flK m k) (k':=dF k) (by rw[xg,mi]))).eq]
   exact hn
  obtain⟨n1,hn1⟩:=hk l pl m hm hl
  exact VEv.splits h0 (.start h1 rfl hn0) hn1
 |@may pc a z e h0 _ ia=>
  intro k hk l pl m hm hl
  rw[fq,gh]
  obtain⟨n0,hn0⟩:=ia k hk l pl m hm hl
  rw[fq]at hn0
  obtain⟨n1,hn1⟩:=hk l pl m hm hl
  exact VEv.splits h0 hn0 hn1
 |@grp pc a n p1 h0 _ h1 ia=>
  intro k hk l pl m hm hl
  rw[fq,gd]
  have hg:mS code r (.gend n::k) p1:=by
   intro l2 pl2 m2 hm2 hl2
   rw[tD,eC]
   obtain⟨n1,hn1⟩:=hk l2 pl2 m2 hm2 hl2
   have:=VEv.note h1 rfl hn1
   exact⟨_,this⟩
  obtain⟨n0,hn0⟩:=ia _ hg l pl m hm hl
  rw[fq,tD]at hn0
  have:=VEv.note h0 rfl hn0
  exact⟨_,this⟩
 |@one e pc a p1 h0 _ h1 ia=>
  intro k hk l pl m n v hm hl hv
  have hg:mS code r k p1:=by
   intro l2 pl2 m2 hm2 hl2
   obtain⟨n1,hn1⟩:=hk l2 pl2 m2 hm2 hl2
   exact⟨_,.jump h1 rfl (by show VEv code l2 pl2 (Int.toNat (e:Int),m2) n1 _;exact hn1)⟩
  obtain⟨n0,hn0⟩:=ia k hg l pl m hm hl
  rw[fq]at hn0
  exact VEv.splits h0 hn0 hv
 |@two e pc a q b q' _ _ ia ib=>
  intro k hk l pl m n v hm hl hv
  obtain⟨n1,hn1⟩:=ib k hk l pl m n v hm hl hv
  obtain⟨n0,hn0⟩:=ia k hk l pl m _ _ hm hl hn1
  rw[fA,Option.or_assoc]
  exact⟨_,hn0⟩
theorem yM (q:Pt) (hq:POK q) (l:List (Nat×Nat)) (pl:Nat):∃n,VEv (bB q) l pl (0,0) n (ev l pl [.ex (den q)]):=by
 have hl:fh (bB q) 0 (cde q 0):=fun j hj=>by rw[jy,Nat.zero_add,List.getElem?_append_left hj]
 have hs:=gz q hq 0 hl
 rw[Nat.zero_add]at hs
 have hacc:(bB q)[isz q]? =some (bare 6):=by
  rw[jy,List.getElem?_append_right (by rw[aM];omega),aM]
  simp
 have hg:mS (bB q) (2*l.length) [] (isz q):=by
  intro l2 pl2 m2 hm2 hl2
  have e:flK m2 []=[]:=by unfold flK;split<;>rfl
  rw[e,em]
  exact⟨_,.acc hacc rfl⟩
 exact yT (2*l.length) hs [] hg l pl 0 (by omega) (by omega)
theorem jp (b pl:Int) (sl:List Int):∀(n i:Nat),i<sl.length ->(fM b pl n sl)[i]? =if i<n/\iz b i=true then some pl else sl[i]?
 |0,i,hi=>by simp[fM]
 |n+1,i,hi=>by
  have ih:=jp b pl sl n i hi
  unfold fM
  by_cases hb:iz b n=true
  ·rw[if_pos hb]
   by_cases hin:n=i
   ·subst hin
    rw[List.getElem?_set_self (by rw[eK];exact hi),if_pos ⟨by omega,hb⟩]
   ·rw[List.getElem?_set_ne hin,ih]
    by_cases h:i<n/\iz b i=true
    ·rw[if_pos h,if_pos ⟨by omega,h.2⟩]
    ·rw[if_neg h,if_neg (fun e=>h ⟨by omega,e.2⟩)]
  ·rw[if_neg hb,ih]
   by_cases h:i<n/\iz b i=true
   ·rw[if_pos h,if_pos ⟨by omega,h.2⟩]
   ·rw[if_neg h,if_neg (fun e=>h ⟨by
     have:i≠n:=fun e2=>hb (e2▸e.2)
     omega,e.2⟩)]
end Go.Proofs.YtfnanjbleifjkaaGreatDoor.G
