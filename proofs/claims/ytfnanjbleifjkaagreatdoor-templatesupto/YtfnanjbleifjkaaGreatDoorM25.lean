import Derived.Test.YtfnanjbleifjkaaGreatDoorM24
set_option linter.unusedVariables false
set_option linter.unusedSimpArgs false
set_option maxHeartbeats 8000000
set_option maxRecDepth 100000
namespace Go.Proofs.YtfnanjbleifjkaaGreatDoor.G
variable {t:ByteArray} {s s':RS} {w w':World} {base c1 c2 c3 m n p r:Nat} {bad:Bool} {hv v:Int}
open Go.RowKit
theorem qh {k:Nat} (h:k<t.size):∃b:UInt8,ai t k=some b/\aj t k=b.toNat:=by
 refine⟨t.data[k]'h,by unfold ai;exact Array.getElem?_eq_getElem h,?_⟩
 unfold aj ai
 rw[Array.getElem?_eq_getElem h]
def fT (t:ByteArray) (i:Nat) (s:RS):Res Nat:=
 if s.k=i\/aD s.nm (t.extract i s.k)=true then .bad s
 else (aw t s 62).bind fun _ s5=> .ok (s5.g+1) {s5 with g:=s5.g+1,nm:=s5.nm++[(t.extract i s.k,s5.g+1)]}
def b5 (t:ByteArray) (s:RS):Res Nat:=
 (aw t s 60).bind fun _ s3=>(aZ t s3.k 8 s3).bind fun _ s1=>fT t s3.k s1
theorem wZ (t:ByteArray) (s:RS):((aw t s 60).bind fun _ s3=>(ao t s3).bind fun n s4=>(aw t s4 62).bind fun _ s5=>
   Res.ok (s5.g+1) {s5 with g:=s5.g+1,nm:=s5.nm++[(n,s5.g+1)]})=b5 t s:=by
 unfold b5
 congr 1
 funext _ s3
 unfold ao
 cases aZ t s3.k 8 s3 with
 |bad s1=>rfl
 |ok u s1=>
  simp only[Res.bind_ok]
  unfold fT
  by_cases h:s1.k=s3.k\/aD s1.nm (t.extract s3.k s1.k)=true
  ·rw[if_pos h,if_pos h];rfl
  ·rw[if_neg h,if_neg h];rfl
theorem ka (h:ac t s 63=true):al t s=if ac t s.up 58 then .ok 0 s.up.up else if s.g=5 then .bad s.up else (aw t s.up 80).bind fun _ s2=>b5 t s2:=by
 unfold al
 rw[if_neg (by simp[h])]
 unfold aw
 rw[if_pos h,Res.bind_ok]
 by_cases h58:ac t s.up 58=true
 ·rw[if_pos h58,if_pos h58]
 ·rw[if_neg h58,if_neg h58]
  show (if s.g=5 then _ else _)=_
  by_cases h5:s.g=5
  ·rw[if_pos h5,if_pos h5]
  ·rw[if_neg h5,if_neg h5]
   congr 1
   funext _ s2
   exact wZ t s2
theorem ii (h:ac t s 63=false):al t s=if s.g=5 then .bad s else .ok (s.g+1) {s with g:=s.g+1}:=by
 unfold al
 by_cases h5:s.g=5
 ·rw[if_neg (by simp[h5]),if_pos h5]
  unfold aw
  rw[if_neg (by simp[h])]
  rfl
 ·rw[if_pos ⟨h5,h⟩,if_neg h5]
def Res.setD {α:Type} (x:Nat):Res α ->Res α
 |.ok a s=> .ok a {s with d:=x}
 |.bad s=> .bad {s with d:=x}
theorem qL (t:ByteArray) (i x:Nat):∀(n:Nat) (s:RS),aZ t i n {s with d:=x}=(aZ t i n s).setD x
 |0,s=>rfl
 |n+1,s=>by
  unfold aZ
  dsimp only
  cases ai t s.k with
  |none=>rfl
  |some b=>
   dsimp only
   by_cases h:97<=b.toNat/\b.toNat<=122
   ·rw[if_pos h,if_pos h]
    by_cases h2:n=0/\aD s.nm (t.extract i (s.k+1))=true
    ·rw[if_pos h2,if_pos h2];rfl
    ·rw[if_neg h2,if_neg h2]
     exact qL t i x n s.up
   ·rw[if_neg h,if_neg h];rfl
theorem sJ (t:ByteArray) (s:RS) (x:Nat) (b:UInt8):aw t {s with d:=x} b=(aw t s b).setD x:=by
 unfold aw
 show (if ac t s b then _ else _)=_
 split<;>rfl
theorem zV (t:ByteArray) (s:RS) (x i:Nat):fT t i {s with d:=x}=(fT t i s).setD x:=by
 unfold fT
 dsimp only
 by_cases h:s.k=i\/aD s.nm (t.extract i s.k)=true
 ·rw[if_pos h,if_pos h];rfl
 ·rw[if_neg h,if_neg h,sJ]
  cases aw t s 62<;>rfl
theorem yB (t:ByteArray) (s:RS) (x:Nat):b5 t {s with d:=x}=(b5 t s).setD x:=by
 unfold b5
 rw[sJ]
 cases aw t s 60 with
 |bad s1=>rfl
 |ok u s1=>
  simp only[Res.setD,Res.bind_ok]
  rw[qL]
  cases aZ t s1.k 8 s1 with
  |bad s2=>rfl
  |ok u s2=>
   simp only[Res.setD,Res.bind_ok]
   exact zV t s2 x s1.k
theorem u5 (t:ByteArray) (s:RS) (x:Nat):al t {s with d:=x}=(al t s).setD x:=by
 cases h:ac t s 63 with
 |true=>
  rw[ka (s:={s with d:=x}) (show ac t {s with d:=x} 63=true from h),ka h]
  show (if ac t s.up 58 then _ else _)=_
  by_cases h58:ac t s.up 58=true
  ·rw[if_pos h58,if_pos h58];rfl
  ·rw[if_neg h58,if_neg h58]
   dsimp only
   by_cases h5:s.g=5
   ·rw[if_pos h5,if_pos h5];rfl
   ·rw[if_neg h5,if_neg h5]
    show (aw t {s.up with d:=x} 80).bind _=_
    rw[sJ]
    cases aw t s.up 80 with
    |bad s1=>rfl
    |ok u s1=>exact yB t s1 x
 |false=>
  rw[ii (s:={s with d:=x}) (show ac t {s with d:=x} 63=false from h),ii h]
  dsimp only
  by_cases h5:s.g=5
  ·rw[if_pos h5,if_pos h5];rfl
  ·rw[if_neg h5,if_neg h5];rfl
theorem ry {E:RS ->Res Pt} (h:ac t s 40=true) (hd:s.d≠6):aK t E s=((al t s.up).setD (s.d+1)).bind fun g s2=>(E s2).bind fun p s3=>(aw t s3 41).bind fun _ s4=> .ok (.wrap p g) {s4 with d:=s4.d-1}:=by
 unfold aK
 rw[if_neg hd]
 unfold aw
 rw[if_pos h,Res.bind_ok]
 show (al t {s.up with d:=s.d+1}).bind _=_
 rw[u5]
theorem wg {E:RS ->Res Pt} (h:s.k=t.size):dm t E s= .ok (.alt [.seq []]) s:=by
 have hno:ac t s 124=false:=by
  rw[fQ,decide_eq_false (by omega)]
  rfl
 unfold dm aR
 rw[if_pos (.inl h),Res.bind_ok]
 unfold fi
 rw[if_neg (by simp[hno]),Res.bind_ok]
theorem rq (h:t.size<=s.k):al t s=if s.g=5 then .bad s else .ok (s.g+1) {s with g:=s.g+1}:=ii (by rw[fQ,decide_eq_false (by omega)];rfl)
theorem vd {E:RS ->Res Pt} (h:ac t s 40=true) (hd:s.d≠6) (hk:s.k+1=t.size) (hE:∀s':RS,s'.d=s.d+1 ->s'.k=t.size ->E s'= .ok (.alt [.seq []]) s'):∃s',aK t E s= .bad s'/\s'.k=s.k+1:=by
 rw[ry h hd,rq (by show t.size<=s.k+1;omega)]
 by_cases h5:s.up.g=5
 ·rw[if_pos h5]
  exact⟨_,rfl,rfl⟩
 ·rw[if_neg h5]
  show ∃s',(E ⟨s.k+1,s.d+1,s.f,s.g+1,s.nm⟩).bind _= .bad s'/\_
  rw[hE ⟨s.k+1,s.d+1,s.f,s.g+1,s.nm⟩ rfl hk,Res.bind_ok]
  refine⟨⟨s.k+1,s.d+1,s.f,s.g+1,s.nm⟩,?_,rfl⟩
  unfold aw
  rw[if_neg]
  ·rfl
  ·rw[fQ,decide_eq_false (by show ¬s.k+1<t.size;omega)]
   simp
theorem RA.hvs (h:RA w p r base t s bad hv n) (W:World) (hW:w.setCell ⟨p,6,none⟩ (.int .i64 v)=W):RA W p r base t s bad v n/\Fr w W r base:=by
 obtain⟨a,b,c⟩:=h.setCell (s':=s) (bad':=bad) (hv':=v) 6 (.int .i64 v) rfl rfl rfl
 rw[hW]at a b c
 exact⟨a,b,c⟩
theorem RA.dps (h:RA w p r base t s bad hv n) (W:World) (x:Nat) (hW:w.setCell ⟨p,5,none⟩ (.int .i64 v)=W) (e:v=(x:Int)):RA W p r base t {s with d:=x} bad hv n/\Fr w W r base:=by
 subst e
 obtain⟨a,b,c⟩:=h.setCell (s':={s with d:=x}) (bad':=bad) (hv':=hv) 5 (.int .i64 (x:Int)) rfl rfl rfl
 rw[hW]at a b c
 exact⟨a,b,c⟩
theorem RA.ats (h:RA w p r base t s bad hv n) (W:World) (x:Nat) (hW:w.setCell ⟨p,1,none⟩ (.int .i64 v)=W) (e:v=(x:Int)):RA W p r base t {s with k:=x} bad hv n/\Fr w W r base:=by
 subst e
 obtain⟨a,b,c⟩:=h.setCell (s':={s with k:=x}) (bad':=bad) (hv':=hv) 1 (.int .i64 (x:Int)) rfl rfl rfl
 rw[hW]at a b c
 exact⟨a,b,c⟩
theorem RA.more (h:RA w p r base t s bad hv n):
  w.cell? ⟨p,3,none⟩=some (.pointer (some ⟨r,0,none⟩))/\w.cell? ⟨p,5,none⟩=some (.int .i64 (s.d:Int))/\w.cell? ⟨p,6,none⟩=some (.int .i64 hv)/\w.frozen? ⟨p,5,none⟩=false/\w.frozen? ⟨p,6,none⟩=false/\w.cell? ⟨r,2,none⟩=some (.int .i64 (s.g:Int))/\w.frozen? ⟨r,2,none⟩=false/\r<w.heap.size:=by
 obtain⟨av,nv,ys,ns,h1,h2,h3,h4,h5⟩:=h.rn.ex
 exact⟨h.rk.all.1 3,h.rk.all.1 5,h.rk.all.1 6,h.rk.all.2 5,h.rk.all.2 6,h1.all.1 2,h1.all.2 2,h1.lt⟩
theorem cN (c:UInt8) (h:RA w p r base t s bad hv n) (ht:t.size<=60):
  Calls Tryz.prog 184 #[.pointer (some ⟨p,0,none⟩),.int .u8 (c.toNat:Int)] w fun e w'=>e= .returned (.tuple #[])/\Fr w w' r base/\((bad=false/\ac t s c=true/\RA w' p r base t s.up false hv n)\/((bad=true\/ac t s c=false)/\RA w' p r base t s true hv n)):=by
 cases bad with
 |true=>
  refine (qy _ h).mono ?_
  rintro e w' ⟨rfl,rfl⟩
  exact⟨rfl,Fr.refl (r:=r) _ _,.inr ⟨.inl rfl,h⟩⟩
 |false=>
  refine (vU c h ht).mono ?_
  rintro e w' ⟨rfl,h1,h2,h3⟩
  cases hs:ac t s c with
  |true=>rw[hs]at h1;exact⟨rfl,⟨h2,h3⟩,.inl ⟨rfl,rfl,h1⟩⟩
  |false=>rw[hs]at h1;exact⟨rfl,⟨h2,h3⟩,.inr ⟨.inr rfl,h1⟩⟩
theorem bG (h:RA w p r base t s bad hv n):
  Calls Tryz.prog 95 #[.pointer (some ⟨p,0,none⟩)] w fun e w'=>e= .returned (.int .u8 (aj t s.k:Int))/\RA w' p r base t s bad hv n/\Fr w w' r base/\Ex [] w w':=by
 refine (dh h.rk).mono ?_
 rintro e w' ⟨rfl,q,rfl⟩
 exact⟨rfl,h.drewN q,Fr.drewN (r:=r) _ _ _,(Ex.refl _ _).drewN q⟩
def aJ {α:Type} (w':World) (p r base:Nat) (t:ByteArray) (s:RS) (n c1 c2 c3:Nat) (hw:α ->Int) (dn:α ->Xp) (e:Ending) (m:Res α):Prop:=
 ∃y:Int,e= .returned (.int .i64 y)/\match m with
 |.ok a s'=>(∃y':Nat,y=(y':Int)/\XT w' r y' (dn a))/\∃n',RA w' p r base t s' false (hw a) n'/\n'+c1+50*s.k<=n+50*s'.k+c2
 |.bad s'=>∃s'' hv' n',s''.k=s'.k/\s''.d=s.d/\RA w' p r base t s'' true hv' n'/\n'<=20000+10*(7-s.d)+c3
theorem aJ.mkOk {α:Type} {hw:α ->Int} {dn:α ->Xp} {y:Int} {m:Res α} {a:α} {n':Nat} (hm:m= .ok a s') (hv:v=hw a) (h:RA w' p r base t s' false v n') (hn:n'+c1+50*s.k<=n+50*s'.k+c2) (hx:∃y':Nat,y=(y':Int)/\XT w' r y' (dn a)):aJ w' p r base t s n c1 c2 c3 hw dn (.returned (.int .i64 y)) m:=by
 subst hm;subst hv
 exact⟨_,rfl,hx,n',h,hn⟩
theorem aJ.mkBad {α:Type} {hw:α ->Int} {dn:α ->Xp} {y:Int} {m:Res α} {s'':RS} {hv':Int} {n':Nat} (hm:m= .bad s') (hk:s''.k=s'.k) (hd:s''.d=s.d) (h:RA w' p r base t s'' true hv' n') (hn:n'<=20000+10*(7-s.d)+c3):aJ w' p r base t s n c1 c2 c3 hw dn (.returned (.int .i64 y)) m:=by
 subst hm
 exact⟨_,rfl,s'',hv',n',hk,hd,h,hn⟩
theorem aJ.split {α:Type} {hw:α ->Int} {dn:α ->Xp} {e:Ending} {m:Res α} (h:aJ w' p r base t s n c1 c2 c3 hw dn e m):∃y:Int,e= .returned (.int .i64 y)/\
  ((∃a s' n',m= .ok a s'/\RA w' p r base t s' false (hw a) n'/\n'+c1+50*s.k<=n+50*s'.k+c2/\∃y':Nat,y=(y':Int)/\XT w' r y' (dn a))\/(∃s' s'' hv' n',m= .bad s'/\s''.k=s'.k/\s''.d=s.d/\RA w' p r base t s'' true hv' n'/\n'<=20000+10*(7-s.d)+c3)):=by
 obtain⟨y,hy,h2⟩:=h
 refine⟨y,hy,?_⟩
 cases m with
 |ok a s'=>
  obtain⟨hx,n',h3,h4⟩:=h2
  exact .inl ⟨a,s',n',rfl,h3,h4,hx⟩
 |bad s'=>
  obtain⟨s'',hv',n',h3⟩:=h2
  exact .inr ⟨s',s'',hv',n',rfl,h3⟩
def tj (t:ByteArray) (p r base d:Nat) (E:RS ->Res Pt):Prop:=∀(w:World) (s:RS) (hv:Int) (n:Nat),RA w p r base t s false hv n ->s.d=d ->s.g<=5 ->s.k<=t.size ->n<=10000+50*s.k ->
 Calls Tryz.prog 57 #[.pointer (some ⟨p,0,none⟩)] w fun e w'=>Fr w w' r base/\aJ w' p r base t s n 0 1 2 (fun q=>(wt q:Int)) den e (E s)
def vx (t:ByteArray) (p r base d:Nat) (E:RS ->Res Pt):Prop:=∀(w:World) (s:RS) (hv:Int) (n:Nat),RA w p r base t s false hv n ->s.d=d ->s.g<=5 ->s.k<t.size ->n<=10001+50*s.k ->
 Calls Tryz.prog 182 #[.pointer (some ⟨p,0,none⟩)] w fun e w'=>Fr w w' r base/\aJ w' p r base t s n 40 0 0 (fun q=>(wt q:Int)) den e (bp t E s)
def vA (t:ByteArray) (p r base d:Nat) (E:RS ->Res Pt):Prop:=∀(w:World) (s:RS) (hv:Int) (n:Nat),RA w p r base t s false hv n ->s.d=d ->s.g<=5 ->s.k<t.size ->n<=10001+50*s.k ->
 Calls Tryz.prog 141 #[.pointer (some ⟨p,0,none⟩)] w fun e w'=>Fr w w' r base/\aJ w' p r base t s n 9 0 0 (fun q=>(wt q:Int)) den e (aW t E s)
def tg (t:ByteArray) (p r base d:Nat) (E:RS ->Res Pt):Prop:=∀(w:World) (s:RS) (hv:Int) (n:Nat),RA w p r base t s false hv n ->s.d=d ->s.g<=5 ->s.k<=t.size ->n<=10000+50*s.k ->
 Calls Tryz.prog 94 #[.pointer (some ⟨p,0,none⟩)] w fun e w'=>Fr w w' r base/\aJ w' p r base t s n 0 1 1 (fun l=>(wtL l:Int)) (fun l=>iw l .emp) e (aR t E (t.size+1) [] s)
def ja (t:ByteArray) (m:Nat) (E:RS ->Res Pt):Prop:=∀s p s',E s= .ok p s' ->s.g<=5 ->s.k<=t.size ->pW t m s p s'
theorem rB {E:RS ->Res Pt} (ht:t.size<=60) (hm:m+1<=7) (hE:ja t m E) {q:Pt} (h:aW t E s= .ok q s') (h5:s.g<=5) (hk:s.k<=t.size):wt q<=1169230260/\s.k<s'.k/\s'.k<=t.size/\s'.g<=5:=by
 obtain⟨f,hlt⟩:=mw ht hm hE h h5 hk
 exact⟨Nat.le_trans f.wt (big ht (f.sz hk) _ hm),hlt,f.sz hk,f.g5⟩
theorem gY:∀(l:List Pt) (q:Pt) (x:Xp),iw (l++[q]) x= .cat (iw l x) (den q)
 |[],q,x=>by simp[iw]
 |p::l,q,x=>by rw[List.cons_append,iw,gY l q,iw]
theorem nQ:∀(l:List Pt) (q:Pt) (x:Xp),iK (l++[q]) x= .alt (iK l x) (den q)
 |[],q,x=>by simp[iK]
 |p::l,q,x=>by rw[List.cons_append,iK,nQ l q,iK]
theorem jO:∀(l:List Pt) (q:Pt),1<=l.length ->iv (l++[q])= .alt (iv l) (den q)
 |[],q,h=>by simp at h
 |p::l,q,_=>by rw[List.cons_append,iv,iv,nQ]
theorem vN {d:Nat} {E:RS ->Res Pt} (ht:t.size<=60) (hd6:d<=6) (hm:m+1<=7) (hE:ja t m E) (hEi:EI E) (KP:vA t p r base d E):tg t p r base d E:=by
 intro w s hv n h hsd hg5 hks hn
 have H:=aa h
 have HKP:=aa KP
 have HEI:=aa hEi
 have HFE:=aa hE
 have HSD:=aa hsd
 obtain⟨R,hR⟩:∃R,aR t E (t.size+1) [] s=R:=⟨_,rfl⟩
 have HR:=aa hR
 rw[hR]
 clear h KP hEi hE hR hsd
 go_enter Tryz.func94,Tryz.ntmps94
 go_wp2_with fail
 refine (bT 1 0 0 0 false noB rfl H.O (by omega)).mono ?_
 rintro e w1 ⟨rfl,h1,fr1,er1⟩
 have H1:=aa h1
 have F1:=aa fr1
 have T1:=aa (XT.emp er1)
 clear h1 fr1 er1
 go_wp2_with fail
 go_loopg [3,4] (t.size+1) (fun gk v3 v4 wr=>∃(y:Int) (W:Int) (bd:Bool) (s':RS) (hv':Int) (n':Nat),v3= .int .i64 y/\v4= .int .i64 W/\RA wr p r base t s' bd hv' n'/\Fr w wr r base/\s'.d=d/\(bd=true ->R= .bad {s' with d:=d}/\n'<=20000+10*(7-d)+1\/∃s9,R= .bad s9/\s'.k=s9.k/\n'<=20000+10*(7-d)+1)/\(bd=false ->∃acc:List Pt,aR t E gk acc s'=R/\t.size-s'.k+1<=gk/\acc.length+s.k<=s'.k/\W=(wtL acc:Int)/\wtL acc<=acc.length*1169230260/\s'.g<=5/\s'.k<=t.size/\n'+50*s.k<=n+50*s'.k+1/\∃y':Nat,y=(y':Int)/\XT wr r y' (iw acc .emp)))
 case atStart=>exact⟨_,_,false,s,hv,_,rfl,rfl,H1.O,F1.O,HSD.O,(fun h=>by cases h),fun _=>⟨[],HR.O,by omega,by simp,rfl,by simp[wtL],hg5,hks,by omega,_,rfl,T1.O⟩⟩
 case round=>
  obtain⟨y,W,bd,s',hv',n',rfl,rfl,hra,hfr,hd',hbad,hgood⟩:=hrel
  have H2:=aa hra
  have F2:=aa hfr
  have HD:=aa hd'
  have HBAD:=aa hbad
  have HGOOD:=aa hgood
  clear hra hfr hd' hbad hgood
  obtain⟨c0,c1,c2,f1,f2,hl⟩:=H2.O.facts
  obtain⟨m3,m5,m6,g5,g6,mr,gr,hrl⟩:=H2.O.more
  cases bd with
  |true=>
   have hb:=HBAD.O rfl
   have HB:Hid (∃s9,R= .bad s9/\s'.k=s9.k/\n'<=20000+10*(7-d)+1):=by
    rcases hb with⟨h1,h2⟩|h1
    ·exact⟨_,h1,rfl,h2⟩
    ·exact h1
   clear HBAD HGOOD hb
   go_wp2_with fail
   go_quiet (fail)
   go_upto_region 8 with fail
   generalize hw9:World.setCell _ _ _=w5
   have hh:=(H2.O.drewN _).hvs w5 hw9
   have H5:=aa hh.1
   have F5:=aa ((F2.O.trans (Fr.drewN (r:=r) _ _ _)).trans hh.2)
   clear hw9 hh c0 c1 c2 f1 f2 hl m3 m5 m6 g5 g6 mr gr hrl
   go_wp2_with fail
   go_ret
   obtain⟨s9,hs9,hk9,hn9⟩:=HB.O
   exact⟨F5.O,aJ.mkBad hs9 hk9 (HD.O.trans HSD.O.symm) H5.O (by rw[HSD.O];exact hn9)⟩
  |false=>
   obtain⟨acc,hacc,hfu,hal,hW,hwb,hg5',hkt,hnb,y',rfl,hty⟩:=HGOOD.O rfl
   have T2:=aa hty
   clear hty
   subst hW
   have HACC:=aa hacc
   clear HBAD HGOOD hacc
   obtain⟨c,hc⟩:=exq (aj t s'.k)
   have HC:=aa hc
   have KN:=aa (fun q=>dh (H2.O.rk.drewN q))
   rw[<-hc]at KN
   have hc256:c<256:=by rw[hc];exact dt _ _
   have s124:ac t s' 124=decide (c=124):=by rw[hc];exact bU (by decide)
   have s41:ac t s' 41=decide (c=41):=by rw[hc];exact bU (by decide)
   have HS124:=aa s124
   have HS41:=aa s41
   clear hc s124 s41
   obtain⟨k,d',f,g,nm⟩:=s'
   dsimp only at*
   obtain⟨gk,rfl⟩:∃x,gk=x+1:=⟨gk-1,by omega⟩
   by_cases hstop:k=t.size\/c=124\/c=41
   ·have HRR:Hid (R= .ok acc ⟨k,d',f,g,nm⟩):=by
     show R=_
     rw[<-HACC.O]
     unfold aR
     rw[if_pos]
     dsimp only
     rcases hstop with h|h|h
     ·exact .inl h
     ·refine .inr (.inl ?_);rw[HS124.O];exact decide_eq_true h
     ·refine .inr (.inr ?_);rw[HS41.O];exact decide_eq_true h
    have hcs:(t.size<=k)\/(k<t.size/\c=124)\/(k<t.size/\c≠124/\c=41):=by omega
    clear hstop HACC
    rcases hcs with a|⟨a,b⟩|⟨a,b,b'⟩
    case' inl=>
     have hlt:decide (k<t.size)=false:=decide_eq_false (by omega)
    case' inr.inl=>
     have hlt:decide (k<t.size)=true:=decide_eq_true a
     have q124:((c:Int) !=124)=false:=by rw[b];rfl
     clear b
    case' inr.inr=>
     have hlt:decide (k<t.size)=true:=decide_eq_true a
     have q124:((c:Int) !=124)=true:=by rw[bne_iff_ne];omega
     have q41:((c:Int) !=41)=false:=by rw[b'];rfl
     clear b b'
    all_goals
     go_wp2_with fail
     go_quiet ((exact Calls.quiet_of (KN.O _)))
     go_upto_region 8 with fail
     generalize hw9:World.setCell _ _ _=w5
     have hh:=(H2.O.drewN _).hvs w5 hw9
     have H5:=aa hh.1
     have F5:=aa ((F2.O.trans (Fr.drewN (r:=r) _ _ _)).trans hh.2)
     have HFR5:=aa hh.2
     clear hw9 hh c0 c1 c2 f1 f2 hl m3 m5 m6 g5 g6 mr gr hrl
     go_wp2_with fail
     go_ret
     exact⟨F5.O,aJ.mkOk HRR.O rfl H5.O (by show _+0+50*s.k<=n+50*k+1;omega) ⟨_,rfl,(T2.O.fr (Fr.drewN (r:=r) _ base _)).fr HFR5.O⟩⟩
   ·have hlt:decide (k<t.size)=true:=decide_eq_true (by omega)
    have q124:((c:Int) !=124)=true:=by rw[bne_iff_ne];omega
    have q41:((c:Int) !=41)=true:=by rw[bne_iff_ne];omega
    have HRR:Hid (R=(aW t E ⟨k,d',f,g,nm⟩).bind fun q s'=>aR t E gk (acc++[q]) s'):=by
     show R=_
     rw[<-HACC.O]
     conv=>lhs;unfold aR
     rw[if_neg]
     dsimp only
     rw[HS124.O,HS41.O]
     simp only[decide_eq_true_eq]
     exact hstop
    have KPP:=aa (fun q=>HKP.O _ _ _ _ (H2.O.drewN q) HD.O hg5' (by show k<t.size;omega) (by show n'<=10001+50*k;omega))
    have hka:k<t.size:=by omega
    clear hstop HACC
    go_wp2_with fail
    go_quiet ((exact Calls.quiet_of (KN.O _)))
    go_wp2_with fail
    refine (KPP.O _).mono ?_
    rintro e w5 ⟨hf5,hp5⟩
    obtain⟨y5,hy5,hz5⟩:=hp5.split
    subst hy5
    have F5:=aa ((F2.O.trans (Fr.drewN (r:=r) _ _ _)).trans hf5)
    have HF5:=aa hf5
    clear c0 c1 c2 f1 f2 hl m3 m5 m6 g5 g6 mr gr hrl KPP KN hf5
    have T5:=aa ((T2.O.fr (Fr.drewN (r:=r) _ base _)).fr HF5.O)
    rcases hz5 with⟨q,s5,n5,hpm,ra5,hn5,y5',rfl,hty5⟩|⟨s5,s6,hv6,n5,hpm,hk6,hd6',ra5,hn5⟩
    ·obtain⟨hq1,hq2,hq3,hq4⟩:=rB ht hm HFE.O hpm hg5' hkt
     have hd5:=(kc HEI.O hg5' hpm).2.1
     dsimp only at hq2 hn5 hd5
     have H5:=aa ra5
     have HPM:=aa hpm
     have TQ:=aa hty5
     clear hty5
     obtain⟨m3,m5,m6,g5,g6,mr,gr,hrl⟩:=H5.O.more
     have hl:=H5.O.rk.lt
     obtain⟨wq,hwq⟩:=exq (wt q)
     obtain⟨wl,hwl⟩:=exq (wtL acc)
     have HWQ:=aa hwq
     have HWL:=aa hwl
     have hlen:acc.length*1169230260<=60*1169230260:=Nat.mul_le_mul_right _ (by omega)
     rw[<-hwq]at m6 hq1
     rw[<-hwl]at hwb ⊢
     have hsum:IntKind.i64.wrap ((wl:Int)+(wq:Int))=(wl:Int)+(wq:Int):=by rw[IntKind.wrap_i64];omega
     clear ra5 hpm hwq hwl
     go_wp2_with fail
     refine (bT 3 _ _ 0 false noB rfl H5.O (by omega)).mono ?_
     rintro e w6 ⟨rfl,h6,fr6,er6⟩
     have H6:=aa h6
     have F6:=aa (F5.O.trans fr6)
     have T6:=aa (XT.cat er6 (T5.O.fr fr6) (TQ.O.fr fr6))
     clear h6 fr6 er6
     go_wp2_with fail
     go_roundg gk
     case measure=>omega
     case rel=>
      refine⟨_,_,false,s5,_,_,rfl,rfl,H6.O,F6.O,hd5.trans HD.O,(fun h=>by cases h),fun _=>⟨acc++[q],?_,by omega,by rw[List.length_append];show acc.length+1+s.k<=s5.k;omega,?_,?_,hq4,hq3,by omega,_,rfl,by rw[gY];exact T6.O⟩⟩
      ·rw[HRR.O,HPM.O];rfl
      ·rw[dk,<-HWL.O];show _=((wl+(wt q+0):Nat):Int);rw[<-HWQ.O];omega
      ·rw[dk,<-HWL.O,List.length_append];show wl+(wt q+0)<=(acc.length+1)*_;rw[<-HWQ.O];omega
    ·have H5:=aa ra5
     have HPM:=aa hpm
     obtain⟨m3,m5,m6,g5,g6,mr,gr,hrl⟩:=H5.O.more
     have hl:=H5.O.rk.lt
     dsimp only at hd6' hn5
     obtain⟨wl,hwl⟩:∃x:Int,x=(wtL acc:Int):=⟨_,rfl⟩
     rw[<-hwl]
     clear ra5 hpm hwl
     go_wp2_with fail
     refine (bT 3 _ _ 0 false noB rfl H5.O (by omega)).mono ?_
     rintro e w6 ⟨rfl,h6,fr6,_⟩
     have H6:=aa h6
     have F6:=aa (F5.O.trans fr6)
     clear h6 fr6
     go_wp2_with fail
     go_roundg gk
     case measure=>omega
     case rel=>
      refine⟨_,_,true,s6,_,_,rfl,rfl,H6.O,F6.O,hd6'.trans HD.O,(fun _=> .inr ⟨s5,?_,hk6,?_⟩),(fun h=>by cases h)⟩
      ·rw[HRR.O,HPM.O];rfl
      ·have:=HD.O
       rw[this]at hn5
       omega
theorem oM {E:RS ->Res Pt} (ht:t.size<=60) (hm:m+1<=7) (hE:ja t m E) {l:List Pt} {f:Nat} (h:aR t E f [] s= .ok l s') (h5:s.g<=5) (hk:s.k<=t.size):wtL l<=1169230260/\s.k<=s'.k/\s'.k<=t.size/\s'.g<=5:=by
 have f:=mB ht hm hE h h5 hk
 exact⟨Nat.le_trans f.wt (big ht (f.sz hk) _ hm),f.le,f.sz hk,f.g5⟩
theorem zy {d:Nat} {E:RS ->Res Pt} (ht:t.size<=60) (hd6:d<=6) (hm:m+1<=7) (hE:ja t m E) (hEi:EI E) (KB:tg t p r base d E):tj t p r base d (dm t E):=by
 intro w s hv n h hsd hg5 hks hn
 have HKB:=aa KB
 have HEI:=aa hEi
 have HFE:=aa hE
 have HSD:=aa hsd
 have KB0:=aa (KB w s hv n h hsd hg5 hks hn)
 obtain⟨R,hR⟩:∃R,dm t E s=R:=⟨_,rfl⟩
 have HR:=aa hR
 rw[hR]
 clear h KB hEi hE hR hsd
 go_enter Tryz.func57,Tryz.ntmps57
 go_wp2_with fail
 refine KB0.O.mono ?_
 rintro e w1 ⟨hf1,hp1⟩
 obtain⟨y1,hy1,hz1⟩:=hp1.split
 subst hy1
 have F1:=aa hf1
 have hst:∃(bd:Bool) (s1:RS) (hv1:Int) (n1:Nat),RA w1 p r base t s1 bd hv1 n1/\s1.d=d/\(bd=true ->∃s9,R= .bad s9/\s1.k=s9.k/\n1<=20000+10*(7-d)+2)/\(bd=false ->∃acc:List Pt,(fi t E (t.size+1) acc s1).bind (fun b s2=> .ok (.alt b) s2)=R/\1<=acc.length/\acc.length+s.k<=s1.k+1/\hv1+1=(wtL acc:Int)+(acc.length:Int)/\wtL acc<=acc.length*1169230260/\s1.g<=5/\s1.k<=t.size/\n1+50*s.k<=n+50*s1.k+1/\∃y':Nat,y1=(y':Int)/\XT w1 r y' (iv acc)):=by
  rcases hz1 with⟨l,s1,n1,hbm,ra1,hn1,y1',hy1',hty1⟩|⟨s9,s1,hv1,n1,hbm,hk1,hd1,ra1,hn1⟩
  ·obtain⟨b1,b2,b3,b4⟩:=oM ht hm HFE.O hbm hg5 hks
   have hd1:=(dw HEI.O _ _ _ _ _ hg5 hbm).2.1
   refine⟨false,s1,_,n1,ra1,hd1.trans HSD.O,(fun h=>by cases h),fun _=>⟨[.seq l],?_,by simp,by simp;omega,?_,?_,b4,b3,by omega,y1',hy1',by simpa[iv,iK,den]using hty1⟩⟩
   ·rw[<-HR.O]
    unfold dm
    rw[hbm,Res.bind_ok]
   ·show ((wtL l:Nat):Int)+1=((wtL l+0:Nat):Int)+((1:Nat):Int)
    omega
   ·have e1:wtL [Pt.seq l]=wtL l:=by simp[wtL,wt]
    have e2:[Pt.seq l].length=1:=rfl
    rw[e1,e2]
    omega
  ·refine⟨true,s1,hv1,n1,ra1,hd1.trans HSD.O,(fun _=>⟨s9,?_,hk1,by rw[HSD.O]at hn1;omega⟩),(fun h=>by cases h)⟩
   rw[<-HR.O]
   unfold dm
   rw[hbm]
   rfl
 obtain⟨bd,s1,hv1,n1,ra1,hd1,hbad1,hgood1⟩:=hst
 have H1:=aa ra1
 have HD1:=aa hd1
 have HBAD1:=aa hbad1
 have HGOOD1:=aa hgood1
 obtain⟨m3,m5,m6,g5,g6,mr,gr,hrl⟩:=H1.O.more
 have hl:=H1.O.rk.lt
 clear hp1 hz1 hf1 ra1 hd1 hbad1 hgood1 KB0
 go_wp2_with fail
 clear m3 m5 m6 g5 g6 mr gr hrl hl
 go_loopg [3,4] (t.size+1) (fun gk v3 v4 wr=>∃(y:Int) (W:Int) (bd:Bool) (s':RS) (hv':Int) (n':Nat),v3= .int .i64 y/\v4= .int .i64 W/\RA wr p r base t s' bd hv' n'/\Fr w wr r base/\s'.d=d/\(bd=true ->∃s9,R= .bad s9/\s'.k=s9.k/\n'<=20000+10*(7-d)+2)/\(bd=false ->∃acc:List Pt,(fi t E gk acc s').bind (fun b s2=> .ok (.alt b) s2)=R/\t.size-s'.k+1<=gk/\1<=acc.length/\acc.length+s.k<=s'.k+1/\W+1=(wtL acc:Int)+(acc.length:Int)/\wtL acc<=acc.length*1169230260/\s'.g<=5/\s'.k<=t.size/\n'+50*s.k<=n+50*s'.k+1/\∃y':Nat,y=(y':Int)/\XT wr r y' (iv acc)))
 case atStart=>exact⟨_,_,bd,s1,hv1,n1,rfl,rfl,H1.O,F1.O,HD1.O,HBAD1.O,fun h=>by
   obtain⟨acc,a1,a2,a3,a4,a5,a6,a7,a8,a9⟩:=HGOOD1.O h
   exact⟨acc,a1,by omega,a2,a3,a4,a5,a6,a7,a8,a9⟩⟩
 case round=>
  clear HBAD1 HGOOD1 HD1 H1 F1
  obtain⟨y,W,bd,s',hv',n',rfl,rfl,hra,hfr,hd',hbad,hgood⟩:=hrel
  have H2:=aa hra
  have F2:=aa hfr
  have HD:=aa hd'
  have HBAD:=aa hbad
  have HGOOD:=aa hgood
  clear hra hfr hd' hbad hgood
  obtain⟨c0,c1,c2,f1,f2,hl⟩:=H2.O.facts
  obtain⟨m3,m5,m6,g5,g6,mr,gr,hrl⟩:=H2.O.more
  cases bd with
  |true=>
   have HB:=aa (HBAD.O rfl)
   clear HBAD HGOOD
   go_upto_region 9 with fail
   generalize hw9:World.setCell _ _ _=w5
   have hh:=H2.O.hvs w5 hw9
   have H5:=aa hh.1
   have F5:=aa (F2.O.trans hh.2)
   clear hw9 hh c0 c1 c2 f1 f2 hl m3 m5 m6 g5 g6 mr gr hrl
   go_wp2_with fail
   go_ret
   obtain⟨s9,hs9,hk9,hn9⟩:=HB.O
   exact⟨F5.O,aJ.mkBad hs9 hk9 (HD.O.trans HSD.O.symm) H5.O (by rw[HSD.O];exact hn9)⟩
  |false=>
   obtain⟨acc,hacc,hfu,hal1,hal,hW,hwb,hg5',hkt,hnb,y',rfl,hty⟩:=HGOOD.O rfl
   have T2:=aa hty
   clear hty
   have HACC:=aa hacc
   have HW:=aa hW
   clear HBAD HGOOD hacc hW
   obtain⟨c,hc⟩:=exq (aj t s'.k)
   have HC:=aa hc
   have KN:=aa (bG H2.O)
   rw[<-hc]at KN
   have hc256:c<256:=by rw[hc];exact dt _ _
   have s124:ac t s' 124=decide (c=124):=by rw[hc];exact bU (by decide)
   have HS124:=aa s124
   clear hc s124
   obtain⟨k,d',f,g,nm⟩:=s'
   dsimp only at*
   obtain⟨gk,rfl⟩:∃x,gk=x+1:=⟨gk-1,by omega⟩
   by_cases h124:c=124
   ·have q124:((c:Int)==124)=true:=by rw[h124];rfl
    have hks:k<t.size:=by
     have h9:=HS124.O
     rw[decide_eq_true h124]at h9
     exact aS h9
    have HRR:Hid (R=((aR t E (t.size+1) [] ⟨k+1,d',f,g,nm⟩).bind fun l s'=>fi t E gk (acc++[.seq l]) s').bind (fun b s2=> .ok (.alt b) s2)):=by
     show R=_
     rw[<-HACC.O]
     conv=>lhs;unfold fi
     rw[if_pos (by rw[HS124.O];exact decide_eq_true h124)]
     rfl
    clear h124 HACC
    go_wp2_with fail
    refine KN.O.mono ?_
    rintro e w3 ⟨rfl,ra3,fr3,_⟩
    have H3:=aa ra3
    have F3:=aa (F2.O.trans fr3)
    have T3:=aa (T2.O.fr fr3)
    clear ra3 fr3 c0 c1 c2 f1 f2 hl m3 m5 m6 g5 g6 mr gr hrl KN
    obtain⟨c0,c1,c2,f1,f2,hl⟩:=H3.O.facts
    dsimp only at c1
    go_upto_region 5 with fail
    generalize hw9:World.setCell _ _ _=w4
    have hup:=H3.O.up2 w4 hw9 (by simp)
    have H4:Hid (RA w4 p r base t ⟨k+1,d',f,g,nm⟩ false hv' n'):=hup.1
    have F4:=aa (F3.O.trans hup.2)
    have T4:=aa (T3.O.fr hup.2)
    clear hw9 hup c0 c1 c2 f1 f2 hl
    have KB1:=aa (HKB.O _ _ _ _ H4.O HD.O hg5' (by show k+1<=t.size;omega) (by show n'<=10000+50*(k+1);omega))
    go_wp2_with fail
    refine KB1.O.mono ?_
    rintro e w5 ⟨hf5,hp5⟩
    obtain⟨y5,hy5,hz5⟩:=hp5.split
    subst hy5
    have F5:=aa (F4.O.trans hf5)
    have T5:=aa (T4.O.fr hf5)
    clear KB1 hf5
    rcases hz5 with⟨l,s5,n5,hpm,ra5,hn5,y5',rfl,hty5⟩|⟨s5,s6,hv6,n5,hpm,hk6,hd6',ra5,hn5⟩
    ·obtain⟨hq1,hq2,hq3,hq4⟩:=oM ht hm HFE.O hpm hg5' (by show k+1<=t.size;omega)
     have hd5:=(dw HEI.O _ _ _ _ _ hg5' hpm).2.1
     dsimp only at hq2 hn5 hd5
     have H5:=aa ra5
     have HPM:=aa hpm
     have TQ:=aa hty5
     clear hty5
     obtain⟨m3,m5,m6,g5,g6,mr,gr,hrl⟩:=H5.O.more
     have hl:=H5.O.rk.lt
     obtain⟨wq,hwq⟩:=exq (wtL l)
     have HWQ:=aa hwq
     have hlen:acc.length*1169230260<=60*1169230260:=Nat.mul_le_mul_right _ (by omega)
     rw[<-hwq]at m6 hq1
     have hWb:0<=W/\W<=70153815720:=by have:=HW.O;omega
     have hsum1:IntKind.i64.wrap (W+1)=W+1:=by rw[IntKind.wrap_i64];omega
     have hsum:IntKind.i64.wrap (W+1+(wq:Int))=W+1+(wq:Int):=by rw[IntKind.wrap_i64];omega
     clear ra5 hpm hwq
     go_wp2_with fail
     refine (bT 4 _ _ 0 false noB rfl H5.O (by omega)).mono ?_
     rintro e w6 ⟨rfl,h6,fr6,er6⟩
     have H6:=aa h6
     have F6:=aa (F5.O.trans fr6)
     have T6:=aa (XT.alt er6 (T5.O.fr fr6) (TQ.O.fr fr6))
     clear h6 fr6 er6
     go_wp2_with fail
     go_roundg gk
     case measure=>omega
     case rel=>
      refine⟨_,_,false,s5,_,_,rfl,rfl,H6.O,F6.O,hd5.trans HD.O,(fun h=>by cases h),fun _=>⟨acc++[.seq l],?_,by omega,by simp,by rw[List.length_append];show acc.length+1+s.k<=s5.k+1;omega,?_,?_,hq4,hq3,by omega,_,rfl,by rw[jO _ _ hal1,den];exact T6.O⟩⟩
      ·rw[HRR.O,HPM.O];rfl
      ·rw[dk,List.length_append];show _=((wtL acc+(wtL l+0):Nat):Int)+((acc.length+1:Nat):Int);rw[<-HWQ.O];have:=HW.O;omega
      ·rw[dk,List.length_append];show wtL acc+(wtL l+0)<=(acc.length+1)*_;rw[<-HWQ.O];omega
    ·have H5:=aa ra5
     have HPM:=aa hpm
     obtain⟨m3,m5,m6,g5,g6,mr,gr,hrl⟩:=H5.O.more
     have hl:=H5.O.rk.lt
     dsimp only at hd6' hn5
     clear ra5 hpm
     go_wp2_with fail
     refine (bT 4 _ _ 0 false noB rfl H5.O (by omega)).mono ?_
     rintro e w6 ⟨rfl,h6,fr6,_⟩
     have H6:=aa h6
     have F6:=aa (F5.O.trans fr6)
     clear h6 fr6
     go_wp2_with fail
     go_roundg gk
     case measure=>omega
     case rel=>
      refine⟨_,_,true,s6,_,_,rfl,rfl,H6.O,F6.O,hd6'.trans HD.O,(fun _=>⟨s5,?_,hk6,?_⟩),(fun h=>by cases h)⟩
      ·rw[HRR.O,HPM.O];rfl
      ·have:=HD.O
       rw[this]at hn5
       omega
   ·have q124:((c:Int)==124)=false:=by rw[beq_eq_false_iff_ne];omega
    have HRR:Hid (R= .ok (.alt acc) ⟨k,d',f,g,nm⟩):=by
     show R=_
     rw[<-HACC.O]
     unfold fi
     rw[if_neg]
     ·rfl
     ·rw[HS124.O];simpa using h124
    clear h124 HACC
    go_wp2_with fail
    refine KN.O.mono ?_
    rintro e w3 ⟨rfl,ra3,fr3,_⟩
    have H3:=aa ra3
    have F3:=aa (F2.O.trans fr3)
    have T3:=aa (T2.O.fr fr3)
    clear ra3 fr3 c0 c1 c2 f1 f2 hl m3 m5 m6 g5 g6 mr gr hrl KN
    obtain⟨m3,m5,m6,g5,g6,mr,gr,hrl⟩:=H3.O.more
    have hl:=H3.O.rk.lt
    go_upto_region 9 with fail
    generalize hw9:World.setCell _ _ _=w5
    have hh:=H3.O.hvs w5 hw9
    have H5:=aa hh.1
    have F5:=aa (F3.O.trans hh.2)
    have T5:=aa (T3.O.fr hh.2)
    clear hw9 hh hl m3 m5 m6 g5 g6 mr gr hrl
    go_wp2_with fail
    go_ret
    refine⟨F5.O,aJ.mkOk HRR.O ?_ H5.O (by show _+0+50*s.k<=n+50*k+1;omega) ⟨_,rfl,by rw[den];exact T5.O⟩⟩
    show W=((wtL acc+acc.length-1:Nat):Int)
    have:=HW.O
    omega
end Go.Proofs.YtfnanjbleifjkaaGreatDoor.G
