import Derived.Test.YtfnanjbleifjkaaGreatDoorM23
import Derived.Test.YtfnanjbleifjkaaGreatDoorM19
set_option linter.unusedVariables false
set_option linter.unusedSimpArgs false
set_option maxHeartbeats 4000000
set_option maxRecDepth 100000
namespace Go.Proofs.YtfnanjbleifjkaaGreatDoor.G
def dl (z : Bool) (a b : Nat) : Ins := if z then ⟨1, 0, 0, false, (b : Int), (a : Int), 0⟩ else ⟨1, 0, 0, false, (a : Int), (b : Int), 0⟩
def pO (c : Cls) : Ins := ⟨0, c.lo, c.hi, c.hg, 0, 0, 0⟩
def lL (f : Nat -> List Ins) (z : Bool) (s e : Nat) : Nat -> Nat -> List Ins
 | 0, _ => []
 |m + 1, n => dl z (n + 1) e :: (f (n + 1) ++ lL f z s e m (n + 1 + s))
def gY (f : Nat -> List Ins) (s : Nat) : Nat -> Nat -> List Ins
 | 0, _ => []
 |m + 1, n => f n ++ gY f s m (n + s)
mutual
def cde : Pt -> Nat -> List Ins
 |.single c, n => [pO c]
 |.seq l, n => jP l n
 |.alt l, n => fM l n (n + isz (.alt l))
 |.wrap p g, n => if g = 0 then cde p n else ic (2 * (g - 1)) :: (cde p (n + 1) ++ [ic (2 * (g - 1) + 1)])
 |.count p le mo z, n =>
  if mo = -1 then gY (cde p) (isz p) le n ++ (dl z (n + isz p * le + 1) (n + isz p * le + isz p + 4) :: bare 4 :: (cde p (n + isz p * le + 2) ++ [bare 5, eD (n + isz p * le)]))
  else gY (cde p) (isz p) le n ++ lL (cde p) z (isz p) (n + isz p * le + (isz p + 1) * more le mo) (more le mo) (n + isz p * le)
def jP : List Pt -> Nat -> List Ins
 | [], _ => []
 |p :: l, n => cde p n ++ jP l (n + isz p)
def fM : List Pt -> Nat -> Nat -> List Ins
 | [], _, _ => []
 | [p], n, _ => cde p n
 |p :: q :: l, n, e => dl false (n + 1) (n + isz p + 2) :: (cde p (n + 1) ++ eD e :: fM (q :: l) (n + isz p + 2) e)
end
theorem fe (f : Nat -> List Ins) (s : Nat) (hf : ∀ n, (f n).length = s) : ∀ m n, (gY f s m n).length = s * m
 | 0, n => rfl
 |m + 1, n => by rw [gY, List.length_append, hf, fe f s hf m, Nat.mul_succ]; omega
theorem pQ (f : Nat -> List Ins) (z : Bool) (s e : Nat) (hf : ∀ n, (f n).length = s) : ∀ m n, (lL f z s e m n).length = (s + 1) * m
 | 0, n => rfl
 |m + 1, n => by rw [lL, List.length_cons, List.length_append, hf, pQ f z s e hf m, Nat.mul_succ]; omega
mutual
theorem aL : ∀ (p : Pt) (n : Nat), (cde p n).length = isz p
 |.single c, n => rfl
 |.seq l, n => by rw [cde, isz]; exact pe l n
 |.alt l, n => by rw [cde, oL l, isz]
 |.wrap p g, n => by
  rw [cde, isz]
  split
  ·exact aL p n
  ·rw [List.length_cons, List.length_append, aL p]; rfl
 |.count p le mo z, n => by
  rw [cde, isz]
  split
  ·rw [List.length_append, fe _ _ (aL p)]
   simp [aL p]
  ·rw [List.length_append, fe _ _ (aL p), pQ _ _ _ _ (aL p)]
theorem pe : ∀ (l : List Pt) (n : Nat), (jP l n).length = b5 l
 | [], n => rfl
 |p :: l, n => by rw [jP, List.length_append, aL p, pe l, b5]
theorem oL : ∀ (l : List Pt) (n e : Nat), (fM l n e).length = b5 l + 2 * (l.length - 1)
 | [], n, e => rfl
 | [p], n, e => by rw [fM, aL p]; simp [b5]
 |p :: q :: l, n, e => by
  rw [fM, List.length_cons, List.length_append, List.length_cons, aL p, oL (q :: l)]
  simp [b5]
  omega
end
theorem l8 (l : List Ins) (i : Ins) (r : List Ins) (s : Bool) (n : Nat) : eO (l ++ i :: r) l.length s n = l ++ i.way s n :: r := by
 unfold eO
 induction l with
 |nil => rfl
 |cons a l ih => rw [List.cons_append, List.length_cons, List.modify_succ_cons, ih]; rfl
theorem iJ (l : List Ins) (k : Nat) (i : Ins) (r : List Ins) (s : Bool) (n : Nat) (hk : k = l.length) : eO (l ++ i :: r) k s n = l ++ i.way s n :: r := by subst hk; exact l8 l i r s n
theorem nM (z : Bool) (l : List Ins) : df z l = l ++ [(bare 1).way z (l.length + 1)] := by
 unfold df
 exact l8 l (bare 1) [] z _
theorem jA (z : Bool) (a b : Nat) : ((bare 1).way z a).way (!z) b = dl z a b := by cases z <;> rfl
theorem tW (e : Nat) : (bare 2).way false e = eD e := rfl
def lX (f : Nat -> List Ins) (z : Bool) (s : Nat) : Nat -> Nat -> List Ins
 | 0, _ => []
 |m + 1, n => (bare 1).way z (n + 1) :: (f (n + 1) ++ lX f z s m (n + 1 + s))
def iE (s : Nat) : Nat -> Nat -> List Nat
 | 0, _ => []
 |m + 1, n => n :: iE s m (n + 1 + s)
theorem qe (g : List Ins -> List Ins) (f : Nat -> List Ins) (z : Bool) (s : Nat) (hf : ∀ n, (f n).length = s) (hg : ∀ l, g l = l ++ f l.length) : ∀ (m : Nat) (ks : List Nat) (l : List Ins), dc g z m ks l = (ks ++ iE s m l.length, l ++ lX f z s m l.length)
 | 0, ks, l => by simp [dc, iE, lX]
 |m + 1, ks, l => by
  rw [dc, qe g f z s hf hg m, hg, nM]
  simp only [List.length_append, List.length_cons, List.length_nil, hf, iE, lX]
  simp [Nat.add_assoc]
theorem nb (f : Nat -> List Ins) (z : Bool) (s e : Nat) (hf : ∀ n, (f n).length = s) : ∀ (m n : Nat) (pre : List Ins), pre.length = n -> n + (s + 1) * m = e -> (iE s m n).foldl (fun l k => db z k l) (pre ++ lX f z s m n) = pre ++ lL f z s e m n
 | 0, n, pre, _, _ => by simp [iE, lX, lL]
 |m + 1, n, pre, hn, he => by
  rw [iE, List.foldl_cons, lX, lL]
  have hlen : (pre ++ (bare 1).way z (n + 1) :: (f (n + 1) ++ lX f z s m (n + 1 + s))).length = e := by
   have h1 : ∀ m n, (lX f z s m n).length = (s + 1) * m := by
    intro m
    induction m with
    |zero => intro n; rfl
    |succ m ih => intro n; rw [lX, List.length_cons, List.length_append, hf, ih, Nat.mul_succ]; omega
   rw [List.length_append, List.length_cons, List.length_append, hf, h1]
   rw [Nat.mul_succ] at he
   omega
  unfold db
  rw [iJ pre n _ _ _ _ hn.symm, hlen, jA]
  have ih := nb f z s e hf m (n + 1 + s) (pre ++ dl z (n + 1) e :: f (n + 1)) (by rw [List.length_append, List.length_cons, hf]; omega) (by rw [Nat.mul_succ] at he; omega)
  unfold db at ih
  simp only [List.append_assoc, List.cons_append] at ih
  exact ih
theorem sm (g : List Ins -> List Ins) (f : Nat -> List Ins) (s : Nat) (hf : ∀ n, (f n).length = s) (hg : ∀ l, g l = l ++ f l.length) : ∀ (m : Nat) (l : List Ins), fI g m l = l ++ gY f s m l.length
 | 0, l => by simp [fI, gY]
 |m + 1, l => by
  rw [fI, sm g f s hf hg m, hg, gY]
  simp [hf]
def iS : List Pt -> Nat -> List Ins
 | [], _ => []
 | [p], n => cde p n
 |p :: q :: l, n => dl false (n + 1) (n + isz p + 2) :: (cde p (n + 1) ++ bare 2 :: iS (q :: l) (n + isz p + 2))
def fQ : List Pt -> Nat -> List Nat
 | [], _ => []
 | [_], _ => []
 |p :: q :: l, n => (n + isz p + 1) :: fQ (q :: l) (n + isz p + 2)
theorem o9 : ∀ (l : List Pt) (n : Nat), (iS l n).length = b5 l + 2 * (l.length - 1)
 | [], n => rfl
 | [p], n => by rw [iS, aL]; simp [b5]
 |p :: q :: l, n => by
  rw [iS, List.length_cons, List.length_append, List.length_cons, aL, o9 (q :: l)]
  simp [b5]
  omega
theorem oM (e : Nat) : ∀ (l : List Pt) (n : Nat) (pre : List Ins), pre.length = n -> n + (b5 l + 2 * (l.length - 1)) = e -> (fQ l n).foldl (fun l k => hH k l) (pre ++ iS l n) = pre ++ fM l n e
 | [], n, pre, _, _ => by simp [fQ, iS, fM]
 | [p], n, pre, _, _ => by simp [fQ, iS, fM]
 |p :: q :: l, n, pre, hn, he => by
  rw [fQ, List.foldl_cons, iS, fM]
  have hlen : (pre ++ dl false (n + 1) (n + isz p + 2) :: (cde p (n + 1) ++ bare 2 :: iS (q :: l) (n + isz p + 2))).length = e := by
   rw [List.length_append, List.length_cons, List.length_append, List.length_cons, aL, o9 (q :: l)]
   simp [b5] at he ⊢
   omega
  unfold hH
  have h1 := iJ (pre ++ dl false (n + 1) (n + isz p + 2) :: cde p (n + 1)) (n + isz p + 1) (bare 2) (iS (q :: l) (n + isz p + 2)) false e (by rw [List.length_append, List.length_cons, aL]; omega)
  rw [tW] at h1
  simp only [List.append_assoc, List.cons_append] at h1
  rw [hlen, h1]
  have ih := oM e (q :: l) (n + isz p + 2) (pre ++ dl false (n + 1) (n + isz p + 2) :: (cde p (n + 1) ++ [eD e])) (by simp [aL]; omega) (by simp [b5] at he ⊢; omega)
  unfold hH at ih
  simp only [List.append_assoc, List.cons_append, List.nil_append] at ih
  exact ih
mutual
theorem el : ∀ (p : Pt) (l : List Ins), be p l = l ++ cde p l.length
 |.single c, l => rfl
 |.seq ps, l => by rw [be, cde]; exact qh ps l
 |.alt ps, l => by
  rw [be, cde, kb ps [] l]
  simp only [List.nil_append]
  exact oM _ ps l.length l rfl (by rw [isz])
 |.wrap p g, l => by
  rw [be, cde]
  split
  ·exact el p l
  ·rw [el p]
   simp
 |.count p le mo z, l => by
  rw [be, cde]
  have hi := sm (be p) (cde p) (isz p) (aL p) (el p) le l
  have hlen : (l ++ gY (cde p) (isz p) le l.length).length = l.length + isz p * le := by rw [List.length_append, fe _ _ (aL p)]
  split
  ·rw [hi]
   unfold pI
   rw [el p, nM, hlen]
   unfold db
   have h1 := iJ (l ++ gY (cde p) (isz p) le l.length) (l.length + isz p * le) ((bare 1).way z (l.length + isz p * le + 1)) ([bare 4] ++ cde p (l.length + isz p * le + 2) ++ [bare 5] ++ [eD (l.length + isz p * le)]) (!z) (l.length + isz p * le + isz p + 4) hlen.symm
   rw [jA] at h1
   have h2 : (l ++ gY (cde p) (isz p) le l.length ++ [(bare 1).way z (l.length + isz p * le + 1)] ++ [bare 4]).length = l.length + isz p * le + 2 := by rw [List.length_append, List.length_append, hlen]; rfl
   have h3 : ((l ++ gY (cde p) (isz p) le l.length ++ [(bare 1).way z (l.length + isz p * le + 1)] ++ [bare 4]) ++ cde p (l.length + isz p * le + 2) ++ [bare 5] ++ [eD (l.length + isz p * le)]).length = l.length + isz p * le + isz p + 4 := by
    rw [List.length_append, List.length_append, List.length_append, h2, aL]
    simp
    omega
   rw [h2, h3]
   simp only [List.append_assoc, List.cons_append, List.nil_append] at h1 ⊢
   exact h1
  ·rw [hi, qe (be p) (cde p) z (isz p) (aL p) (el p)]
   simp only [List.nil_append, hlen]
   have h1 := nb (cde p) z (isz p) (l.length + isz p * le + (isz p + 1) * more le mo) (aL p) (more le mo) (l.length + isz p * le) (l ++ gY (cde p) (isz p) le l.length) hlen rfl
   rw [h1, List.append_assoc]
theorem qh : ∀ (ps : List Pt) (l : List Ins), dV ps l = l ++ jP ps l.length
 | [], l => by simp [dV, jP]
 |p :: ps, l => by
  rw [dV, qh ps, el p, jP]
  simp [aL]
theorem kb : ∀ (ps : List Pt) (js : List Nat) (l : List Ins), dz ps js l = (js ++ fQ ps l.length, l ++ iS ps l.length)
 | [], js, l => by simp [dz, fQ, iS]
 | [p], js, l => by simp [dz, fQ, iS, el p]
 |p :: q :: ps, js, l => by
  rw [dz]
  simp only [el p, nM]
  have h0 : (l ++ [(bare 1).way false (l.length + 1)]).length = l.length + 1 := by simp
  rw [h0]
  unfold db
  have h1 := iJ l l.length ((bare 1).way false (l.length + 1)) (cde p (l.length + 1) ++ [bare 2]) (!false) (l.length + isz p + 2) rfl
  rw [jA] at h1
  have h2 : (l ++ [(bare 1).way false (l.length + 1)] ++ cde p (l.length + 1)).length = l.length + isz p + 1 := by rw [List.length_append, h0, aL]; omega
  have h3 : (l ++ [(bare 1).way false (l.length + 1)] ++ cde p (l.length + 1) ++ [bare 2]).length = l.length + isz p + 2 := by rw [List.length_append, h2]; rfl
  rw [h2, h3]
  simp only [List.append_assoc, List.cons_append, List.nil_append] at h1 ⊢
  rw [h1, kb (q :: ps)]
  have h4 : (l ++ dl false (l.length + 1) (l.length + isz p + 2) :: (cde p (l.length + 1) ++ [bare 2])).length = l.length + isz p + 2 := by simp [aL]; omega
  rw [h4]
  simp only [fQ, iS, List.append_assoc, List.cons_append, List.nil_append]
end
theorem jg (q : Pt) : bx q = cde q 0 ++ [bare 6] := by
 unfold bx
 rw [el]
 rfl
open Go.RowKit
def bG (sl : List Int) : List Value := sl.map (Value.int .i64)
theorem kt (sl : List Int) : (bG sl).length = sl.length := by simp [bG]
theorem jb (sl : List Int) (i : Nat) : (bG sl)[i]? = (sl[i]?).map (Value.int .i64) := by simp [bG]
theorem kS (sl : List Int) (i : Nat) (x : Int) : (bG sl).set i (.int .i64 x) = bG (sl.set i x) := by simp [bG]
def fq (b pl : Int) : Nat -> List Int -> List Int
 | 0, sl => sl
 |n + 1, sl => if hJ b n then (fq b pl n sl).set n pl else fq b pl n sl
theorem ep (b pl : Int) (n : Nat) (sl : List Int) : (fq b pl n sl).length = sl.length := by
 induction n with
 |zero => rfl
 |succ n ih => simp only [fq]; split <;> simp [ih]
def da (b pl : Int) (sl : List Int) : List Int := fq b pl 10 sl
theorem ten {sl : List Int} (h : sl.length = 10) : ∃ y0 y1 y2 y3 y4 y5 y6 y7 y8 y9, sl = [y0, y1, y2, y3, y4, y5, y6, y7, y8, y9] := by
 match sl, h with
 | [y0, y1, y2, y3, y4, y5, y6, y7, y8, y9], _ => exact ⟨y0, y1, y2, y3, y4, y5, y6, y7, y8, y9, rfl⟩
theorem lC (y0 y1 y2 y3 y4 y5 y6 y7 y8 y9 : Int) : (bG [y0, y1, y2, y3, y4, y5, y6, y7, y8, y9]).toArray = #[.int .i64 y0, .int .i64 y1, .int .i64 y2, .int .i64 y3, .int .i64 y4, .int .i64 y5, .int .i64 y6, .int .i64 y7, .int .i64 y8, .int .i64 y9] := rfl
theorem oA (sl : List Int) (h : sl.length = 10) : (Tryz.prog.info? 121).map (·.size) = some (bG sl).length := by
 rw [kt, h]; kernel_rfl
theorem qH (b pl : Int) (sl : List Int) (hl : sl.length = 10) (w : World) :
  Calls Tryz.prog 91 #[.agg (bG sl).toArray, .int .u64 b, .int .i64 pl] w fun e w' => e = .returned (.agg (bG (da b pl sl)).toArray) /\ Ex [] w w' := by
 have h90 := Tryz.underlying121
 go_enter Tryz.func91, Tryz.ntmps91
 go_wp2_with fail
 go_loopg [8] 10 (fun gk i8 wr => ∃ i : Nat, i + gk = 10 /\ i8 = .int .i64 i /\ BK wr w.heap.size (.cells (bG (fq b pl i sl)).toArray 121 (0, 0)) /\ BK wr (w.heap.size + 1) (.cells #[.int .i64 0, .int .i64 0, .int .i64 0, .int .i64 0, .int .i64 0, .int .i64 0, .int .i64 0, .int .i64 0, .int .i64 0, .int .i64 0] 121 (0, 0)) /\ Ex [] w wr)
 case atStart =>
  refine ⟨0, by omega, rfl, (BK.new _ _).alloc _, ?_, ((Ex.refl _ _).alloc _).alloc _⟩
  have := BK.new (w.alloc (Obj.cells (bG sl).toArray 121)) (Obj.cells #[.int .i64 0, .int .i64 0, .int .i64 0, .int .i64 0, .int .i64 0, .int .i64 0, .int .i64 0, .int .i64 0, .int .i64 0, .int .i64 0] 121)
  simpa using this
 case round =>
  obtain ⟨i, hgi, rfl, hb0, hb1, hx⟩ := hrel
  have HX := aa hx
  have HB0 := aa hb0
  have HB1 := aa hb1
  have hl0 := hb0.lt
  have hl1 := hb1.lt
  clear hx
  cases gk with
  |zero =>
   obtain rfl : i = 10 := by omega
   have hml : (fq b pl 10 sl).length = 10 := by rw [ep, hl]
   obtain ⟨y0, y1, y2, y3, y4, y5, y6, y7, y8, y9, hy⟩ := ten hml
   rw [hy, lC] at hb0
   have HY := aa hy
   obtain ⟨hc0, hf0⟩ := hb0.all
   obtain ⟨hc1, hf1⟩ := hb1.all
   clear hb0 hb1 hml hy
   go_wp2_with fail
   refine bodyPost_ret (v := .agg #[.int .i64 y0, .int .i64 y1, .int .i64 y2, .int .i64 y3, .int .i64 y4, .int .i64 y5, .int .i64 y6, .int .i64 y7, .int .i64 y8, .int .i64 y9]) (by simp [results, Tryz.results91, go_sem, hc1]) rfl ⟨by rw [da, HY.O, lC], ?_⟩
   repeat (refine Ex.setCell ?_ (Or.inr (by simp)) _)
   exact HX.O
  |succ g =>
   have hi : i < 10 := by omega
   have hi' : (i : Int) < 10 := by omega
   have hlen : (fq b pl i sl).length = 10 := by rw [ep, hl]
   obtain ⟨hc0, hf0⟩ := hb0.all
   have hk := hc0 i
   have hkf := hf0 i
   rw [List.getElem?_toArray, jb, List.getElem?_eq_getElem (by omega)] at hk
   simp only [Option.map_some] at hk
   clear hb0 hb1 hc0 hf0
   cases hbit : hJ b i with
   |true =>
    have hbt : (bits BinOp.and IntKind.u64 (b / 2 ^ i) 1 == 1) = true := hbit
    go_wp2_with fail
    go_roundg g
    case measure => omega
    case rel =>
     refine ⟨i + 1, by omega, by simp, ?_, HB1.O.set (by simp) _, HX.O.setCell (Or.inr (by simp)) _⟩
     simp only [fq, hbit, if_true]
     rw [<- kS]
     exact BK.selfL HB0.O i _
   |false =>
    have hbt : (bits BinOp.and IntKind.u64 (b / 2 ^ i) 1 == 1) = false := hbit
    go_wp2_with fail
    go_roundg g
    case measure => omega
    case rel => exact ⟨i + 1, by omega, by simp, by simp only [fq, hbit]; exact HB0.O, HB1.O, HX.O⟩
theorem rp : (Tryz.prog.info? 207).map (fun i => (i.zero, i.size, i.bytes)) = some (some (.agg #[.int .i64 0, .int .i64 0, .int .i64 0, .int .i64 0, .int .i64 0, .int .i64 0, .int .i64 0, .int .i64 0, .int .i64 0, .int .i64 0, .int .i64 0]), 11, 88) := by kernel_rfl
structure Way where
 «to» : Nat
 bits : Int
structure Th where
 pc : Nat
 sl : List Int
def nB (ws : List Way) : List Value := ws.flatMap fun x => [.int .i64 x.to, .int .u64 x.bits]
def thC (t : Th) : List Value := .int .i64 t.pc :: bG t.sl
def thL (ts : List Th) : List Value := ts.flatMap thC
theorem vm (ts : List Th) (t : Th) : thL (ts ++ [t]) = thL ts ++ thC t := by simp [thL]
theorem so (ws : List Way) (i : Nat) (hi : i < ws.length) : (nB ws)[i * 2]? = some (.int .i64 ws[i].to) /\ (nB ws)[i * 2 + 1]? = some (.int .u64 ws[i].bits) := by
 induction ws generalizing i with
 |nil => simp at hi
 |cons x ws ih =>
  have h1 : nB (x :: ws) = [.int .i64 x.to, .int .u64 x.bits] ++ nB ws := rfl
  rw [h1]
  cases i with
  |zero => exact ⟨rfl, rfl⟩
  |succ i =>
   rw [List.getElem?_append_right (by simp; omega), List.getElem?_append_right (by simp; omega)]
   have h2 := ih i (by simpa using hi)
   simp only [List.length_cons, List.length_nil, List.getElem_cons_succ]
   rw [show (i + 1) * 2 - (0 + 1 + 1) = i * 2 by omega, show (i + 1) * 2 + 1 - (0 + 1 + 1) = i * 2 + 1 by omega]
   exact h2
def aV (sl : List Int) (pl : Int) : List Way -> List Th × List Int -> List Th × List Int
 | [], s => s
 |x :: ws, s => if s.2[x.to]? = some pl then aV sl pl ws s else aV sl pl ws (s.1 ++ [⟨x.to, da x.bits pl sl⟩], s.2.set x.to pl)
theorem kN (u gr gw cw n base : Nat) (pa : Option Addr) (pl : Int) (pv nowV nextV : Value) (w : World) (rc : List Int) (ts : List Th) (ws : List Way) (sl : List Int) (hsl : sl.length = 10)
  (hnow : w.ownsRow base 207 11 nowV ts.length (thL ts))
  (hu : BK w u (.cells #[pv, nowV, nextV, .slice (some ⟨gr, 0, none⟩) n n] 202 (0, 0))) (hgr : BK w gr (.cells (bG rc).toArray 3 (0, 0))) (hrc : rc.length = n) (hn : n <= 100000) (hts : ts.length + ws.length <= 500000)
  (hws : ∀ x ∈ ws, x.to < n) (hbu : u < base) (hbg : gr < base) (hug : u ≠ gr) (hbw : base <= w.heap.size)
  (hpa : ws ≠ [] -> pa = some ⟨gw, 0, none⟩) (hwc : ∀ j, j < ws.length * 2 -> w.cell? ⟨gw, j, none⟩ = (nB ws)[j]?) (hgw : gw < base) (hgu : gw ≠ u) (hgg : gw ≠ gr) :
  Calls Tryz.prog 51 #[.pointer (some ⟨u, 0, none⟩), .slice pa ws.length cw, .agg (bG sl).toArray, .int .i64 pl] w fun e w' => e = .returned (.tuple #[]) /\
   ∃ nowV', BK w' u (.cells #[pv, nowV', nextV, .slice (some ⟨gr, 0, none⟩) n n] 202 (0, 0)) /\ w'.ownsRow base 207 11 nowV' (aV sl pl ws (ts, rc)).1.length (thL (aV sl pl ws (ts, rc)).1) /\ BK w' gr (.cells (bG (aV sl pl ws (ts, rc)).2).toArray 3 (0, 0)) /\
    Ex (u :: gr :: nowV.ownBlock.toList) w w' /\ (nowV'.ownBlock = nowV.ownBlock \/ ∃ g, nowV'.ownBlock = some g /\ w.heap.size <= g) := by
 obtain ⟨t0, hi, hz0, hz1, hz2⟩ := info_parts rp
 have HN := aa hnow
 have HU := aa hu
 have HG := aa hgr
 have HWS := aa hws
 have HPA := aa hpa
 have HWC := aa hwc
 have hul := hu.lt
 have hgl := hgr.lt
 obtain ⟨res, hres⟩ : ∃ res, aV sl pl ws (ts, rc) = res := ⟨_, rfl⟩
 have HRES := aa hres
 rw [hres]
 have hnb : ∀ b, nowV.ownBlock = some b -> b < w.heap.size := fun b e => (hnow.lt b e).2
 have HNB := aa hnb
 clear hnow hu hgr hws hpa hwc hres hnb
 go_enter Tryz.func51, Tryz.ntmps51
 go_wp2_with fail
 go_loopg [12] ws.length (fun gk i12 wr => ∃ (i : Nat) (nowV' : Value) (ts' : List Th) (rc' : List Int), i + gk = ws.length /\ i12 = .int .i64 i /\ aV sl pl (ws.drop i) (ts', rc') = res /\ ts'.length <= ts.length + i /\ rc'.length = n /\
  BK wr u (.cells #[pv, nowV', nextV, .slice (some ⟨gr, 0, none⟩) n n] 202 (0, 0)) /\ wr.ownsRow base 207 11 nowV' ts'.length (thL ts') /\ BK wr gr (.cells (bG rc').toArray 3 (0, 0)) /\
  BK wr w.heap.size (.cells (bG sl).toArray 121 (0, 0)) /\ Ex (u :: gr :: nowV.ownBlock.toList) w wr /\ (nowV'.ownBlock = nowV.ownBlock \/ ∃ g, nowV'.ownBlock = some g /\ w.heap.size < g))
 case atStart =>
  exact ⟨0, nowV, ts, rc, by omega, rfl, HRES.O, by omega, hrc, HU.O.alloc _, HN.O.alloc _, HG.O.alloc _, BK.new _ _, (Ex.refl _ _).alloc _, Or.inl rfl⟩
 case round =>
  obtain ⟨i, nowV', ts', rc', hgi, rfl, hfm, htl, hrl, hu1, hn1, hg1, hs1, hx1, hor⟩ := hrel
  have HFM := aa hfm
  have HU1 := aa hu1
  have HN1 := aa hn1
  have HG1 := aa hg1
  have HS1 := aa hs1
  have HX1 := aa hx1
  have HOR := aa hor
  have hsl1 := hs1.lt
  have hul1 := hu1.lt
  have hgl1 := hg1.lt
  clear hfm hu1 hn1 hg1 hs1 hx1 hor
  cases gk with
  |zero =>
   obtain rfl : i = ws.length := by omega
   have hfm := HFM.O
   rw [List.drop_length] at hfm
   have hr1 : res.1 = ts' := by rw [<- hfm]; rfl
   have hr2 : res.2 = rc' := by rw [<- hfm]; rfl
   have HR1 := aa hr1
   have HR2 := aa hr2
   clear hfm hr1 hr2
   go_wp2_with fail
   go_end0
   refine ⟨rfl, nowV', HU1.O, by rw [HR1.O]; exact HN1.O, by rw [HR2.O]; exact HG1.O, HX1.O, ?_⟩
   rcases HOR.O with h | ⟨g, h1, h2⟩
   ·exact Or.inl h
   ·exact Or.inr ⟨g, h1, by omega⟩
  |succ g =>
   have hi1 : i < ws.length := by omega
   have hi1' : (i : Int) < (ws.length : Int) := by omega
   obtain ⟨k, bt, hwx⟩ : ∃ k bt, ws[i] = ⟨k, bt⟩ := ⟨_, _, rfl⟩
   have hk : k < n := by have h := HWS.O ws[i] (List.getElem_mem hi1); rw [hwx] at h; exact h
   have hk' : (k : Int) < (n : Int) := by omega
   have hpa := HPA.O (by intro e; rw [e] at hi1; simp at hi1)
   subst hpa
   have hgn : gw ∉ (u :: gr :: nowV.ownBlock.toList) := fun hm => by
    simp only [List.mem_cons, Option.mem_toList] at hm
    rcases hm with h | h | h
    ·exact hgu h
    ·exact hgg h
    ·have := aG HN.O gw h; omega
   have hw0 : wr.cell? ⟨gw, i * 2, none⟩ = some (.int .i64 k) := by
    rw [HX1.O.cell.1 gw _ (by omega) hgn, HWC.O _ (by omega), (so ws i hi1).1, hwx]
   have hw1 : wr.cell? ⟨gw, i * 2 + 1, none⟩ = some (.int .u64 bt) := by
    rw [HX1.O.cell.1 gw _ (by omega) hgn, HWC.O _ (by omega), (so ws i hi1).2, hwx]
   have hstep : aV sl pl (ws.drop i) (ts', rc') = if rc'[k]? = some pl then aV sl pl (ws.drop (i + 1)) (ts', rc') else aV sl pl (ws.drop (i + 1)) (ts' ++ [⟨k, da bt pl sl⟩], rc'.set k pl) := by
    rw [List.drop_eq_getElem_cons hi1, hwx]; rfl
   have HST := aa hstep
   have hgw1 : gw < wr.heap.size := by have := HX1.O.size; omega
   clear hstep hgn
   obtain ⟨p, c, hnv⟩ := aw HN1.O
   subst hnv
   obtain ⟨hcu, hfu⟩ := HU1.O.all
   obtain ⟨hcg, hfg⟩ := HG1.O.all
   obtain ⟨c0, hc0⟩ : ∃ c0, rc'[k]? = some c0 := ⟨rc'[k], List.getElem?_eq_getElem (by omega)⟩
   have kg : wr.cell? ⟨gr, k, none⟩ = some (.int .i64 c0) := by rw [hcg, List.getElem?_toArray, jb, hc0]; rfl
   have kf := hfg k
   have HC0 := aa hc0
   clear hcg hfg hc0
   by_cases hcp : c0 = pl
   ·have hne : (c0 == pl) = true := by rw [hcp]; simp
    go_wp2_with fail
    go_quiet (fail)
    go_wp2_with fail
    go_roundg g
    case measure => omega
    case rel =>
     refine ⟨i + 1, _, ts', rc', by omega, by simp, ?_, by omega, hrl, (HU1.O.alloc _).drewN _, mW (HN1.O.alloc _) _, (HG1.O.alloc _).drewN _, (HS1.O.alloc _).drewN _, (HX1.O.alloc _).drewN _, HOR.O⟩
     have h1 := HFM.O
     rw [HST.O, HC0.O, if_pos (by rw [hcp])] at h1
     exact h1
   ·have hne : (c0 == pl) = false := by rw [beq_eq_false_iff_ne]; exact hcp
    go_wp2_with fail
    go_quiet (fail)
    go_wp2_with fail
    go_region
    generalize hw3 : World.setCell _ (⟨gr, k, none⟩ : Addr) _ = w3
    have hx3 : Ex [gr] wr w3 := by
     rw [<- hw3]; exact (((Ex.refl _ _).alloc _).drewN _).setCell (Or.inl (by simp)) _
    have hu3 := HU1.O.ex hx3 (by simpa using hug)
    have hg3 : BK w3 gr (.cells (bG (rc'.set k pl)).toArray 3 (0, 0)) := by
     rw [<- hw3, <- kS]; exact BK.selfL ((HG1.O.alloc _).drewN _) k _
    have hs3 : BK w3 w.heap.size (.cells (bG sl).toArray 121 (0, 0)) := HS1.O.ex hx3 (by simp; omega)
    have hb3 : BK w3 wr.heap.size (.cells #[.int .i64 k, .int .u64 bt] 204 (0, 0)) := by
     rw [<- hw3]; exact ((BK.new _ _).drewN _).set (by simp; omega) _
    have hn3 := aE HN1.O hx3 (by simp; omega)
    clear hw3 hcu hfu kg kf hw0 hw1
    have HX3 := aa hx3
    have HU3 := aa hu3
    have HG3 := aa hg3
    have HS3 := aa hs3
    have HB3 := aa hb3
    have HN3 := aa hn3
    have hul3 := hu3.lt
    have hsl3 := hs3.lt
    have hbl3 := hb3.lt
    have hgl3 := hg3.lt
    obtain ⟨hcu3, hfu3⟩ := hu3.all
    have hcs3 := BK.rangeL hs3
    obtain ⟨hcb3, hfb3⟩ := hb3.all
    have h90 := Tryz.underlying121
    have HF1 : Hid ((Value.slice p ts'.length c).ownBlock = some wr.heap.size -> False) := fun e => by have := (HN1.O.lt _ e).2; omega
    have HF0 : Hid ((Value.slice p ts'.length c).ownBlock = some w.heap.size -> False) := fun e => by
     rcases HOR.O with h | ⟨g, h1, h2⟩
     ·rw [h] at e; have := HNB.O _ e; omega
     ·rw [e] at h1; cases h1; omega
    have hs90 := oA sl hsl
    obtain ⟨y0, y1, y2, y3, y4, y5, y6, y7, y8, y9, hyy⟩ := ten (sl := da bt pl sl) (by unfold da; rw [ep, hsl])
    have KM := aa (fun w => qH bt pl sl hsl w)
    rw [hyy, lC] at KM
    have HYY := aa hyy
    clear hx3 hu3 hg3 hs3 hb3 hn3 hyy
    go_wp2_with fail
    refine aO (by kernel_rfl) ?_
    refine tk (i := 0) (v := ?_) rfl ?_ ?_
    rotate_left
    ·intro w'
     go_simp
     try with_reducible rfl
    simp only [Act.put, List.replicate, Array.replicate, lx]
    refine tk (i := 1) (v := ?_) rfl ?_ ?_
    rotate_left
    ·intro w'
     go_simp
     try with_reducible rfl
    simp only [Act.put, List.replicate, Array.replicate, lx]
    refine tk (i := 2) (v := ?_) rfl ?_ ?_
    rotate_left
    ·intro w'
     go_simp
     try with_reducible rfl
    simp only [Act.put, List.replicate, Array.replicate, lx]
    refine tk (i := 3) (v := ?_) rfl ?_ ?_
    rotate_left
    ·intro w'
     go_simp
     try with_reducible rfl
    simp only [Act.put, List.replicate, Array.replicate, lx]
    refine tk (i := 5) (v := ?_) rfl ?_ ?_
    rotate_left
    ·intro w'
     go_simp
     try with_reducible rfl
    simp only [Act.put, List.replicate, Array.replicate, lx]
    refine tk (i := 8) (v := ?_) rfl ?_ ?_
    rotate_left
    ·intro w'
     go_simp
     try with_reducible rfl
    simp only [Act.put, List.replicate, Array.replicate, lx]
    refine tk (i := 10) (v := ?_) rfl ?_ ?_
    rotate_left
    ·intro w'
     go_simp
     try with_reducible rfl
    simp only [Act.put, List.replicate, Array.replicate, lx]
    refine aU (S := (fun j w' => ((∀ o, w'.cell? ⟨wr.heap.size, o, none⟩ = #[Value.int .i64 k, .int .u64 bt][o]?) /\ w'.rangeAt w.heap.size 0 (bG sl)) /\ ((j = 4 \/ 11 <= j /\ j <= 13) -> ∀ o, w'.cell? ⟨u, o, none⟩ = #[pv, .slice p ts'.length c, nextV, .slice (some ⟨gr, 0, none⟩) n n][o]?))) _ _ _ _ ?_
    refine ce (i := 6) (T := (fun w' => (∀ o, w'.cell? ⟨wr.heap.size, o, none⟩ = #[Value.int .i64 k, .int .u64 bt][o]?) /\ w'.rangeAt w.heap.size 0 (bG sl))) (v := ?_) (fun _ => true) rfl (by kernel_rfl) (by kernel_rfl) (by kernel_rfl) (by kernel_rfl) (fun j w' _ h => h.1) (fun w' h => ⟨h, fun hj => by omega⟩) (fun _ _ _ h => h) ⟨hcb3, hcs3⟩ (Or.inl ⟨by rfl, ?_⟩) ?_
    rotate_left
    ·intro w' hSw
     try obtain ⟨⟨hSb, hSs⟩, hSu⟩ := hSw
     try obtain ⟨hSb, hSs⟩ := hSw
     go_simp
     try with_reducible rfl
    simp only [Act.put, List.replicate, Array.replicate, lx]
    refine ce (i := 7) (T := (fun w' => (∀ o, w'.cell? ⟨wr.heap.size, o, none⟩ = #[Value.int .i64 k, .int .u64 bt][o]?) /\ w'.rangeAt w.heap.size 0 (bG sl))) (v := _) (fun _ => true) rfl (by kernel_rfl) (by kernel_rfl) (by kernel_rfl) (by kernel_rfl) (fun j w' _ h => h.1) (fun w' h => ⟨h, fun hj => by omega⟩) (fun _ _ _ h => h) ⟨hcb3, hcs3⟩ (yieldsIf_load_mid (by rfl) _ _ rfl _ _ rfl (bG sl) _ (fun w' h => h.2) h90 rfl hs90) ?_
    simp only [Act.put, List.replicate, Array.replicate, lx]
    refine ce (i := 9) (T := (fun w' => (∀ o, w'.cell? ⟨wr.heap.size, o, none⟩ = #[Value.int .i64 k, .int .u64 bt][o]?) /\ w'.rangeAt w.heap.size 0 (bG sl))) (v := ?_) (fun _ => true) rfl (by kernel_rfl) (by kernel_rfl) (by kernel_rfl) (by kernel_rfl) (fun j w' _ h => h.1) (fun w' h => ⟨h, fun hj => by omega⟩) (fun _ _ _ h => h) ⟨hcb3, hcs3⟩ (Or.inl ⟨by rfl, ?_⟩) ?_
    rotate_left
    ·intro w' hSw
     try obtain ⟨⟨hSb, hSs⟩, hSu⟩ := hSw
     try obtain ⟨hSb, hSs⟩ := hSw
     go_simp
     try with_reducible rfl
    simp only [Act.put, List.replicate, Array.replicate, lx]
    refine ce (i := 4) (T := (fun w' => ((∀ o, w'.cell? ⟨wr.heap.size, o, none⟩ = #[Value.int .i64 k, .int .u64 bt][o]?) /\ w'.rangeAt w.heap.size 0 (bG sl)) /\ ∀ o, w'.cell? ⟨u, o, none⟩ = #[pv, .slice p ts'.length c, nextV, .slice (some ⟨gr, 0, none⟩) n n][o]?)) (v := ?_) (fun j => decide (j = 4) || decide (11 <= j) && decide (j <= 13)) rfl (by kernel_rfl) (by kernel_rfl) (by kernel_rfl) (by kernel_rfl) (fun j w' hf h => ⟨h.1, h.2 (by simpa using hf)⟩) (fun w' h => ⟨h.1, fun _ => h.2⟩) (fun _ _ _ h => h) ⟨⟨hcb3, hcs3⟩, hcu3⟩ (Or.inl ⟨by rfl, ?_⟩) ?_
    rotate_left
    ·intro w' hSw
     try obtain ⟨⟨hSb, hSs⟩, hSu⟩ := hSw
     try obtain ⟨hSb, hSs⟩ := hSw
     go_simp
     try with_reducible rfl
    simp only [Act.put, List.replicate, Array.replicate, lx]
    refine ae (i := 11) rfl rfl (by kernel_rfl) (fun K hK => ?_)
    go_simp
    refine (KM.O _).mono ?_
    rintro e w4 ⟨rfl, hx4⟩
    have hu4 := HU3.O.drew.ex hx4 (by simp)
    have hb4 := HB3.O.drew.ex hx4 (by simp)
    have hs4 := HS3.O.drew.ex hx4 (by simp)
    go_wp2_with fail
    refine hK.O _ _ ⟨⟨hb4.all.1, (BK.rangeL hs4)⟩, fun _ => hu4.all.1⟩ ?_
    clear hK K
    simp only [Act.put, lx]
    refine ae (i := 12) rfl rfl (by kernel_rfl) (fun K hK => ?_)
    go_simp
    refine hK.O _ _ ⟨⟨hb4.all.1, (BK.rangeL hs4)⟩, fun _ => hu4.all.1⟩ ?_
    clear hK K
    simp only [Act.put, lx]
    refine ae (i := 13) rfl rfl (by kernel_rfl) (fun K hK => ?_)
    go_simp
    refine hK.O _ _ ⟨⟨(hb4.alloc _).all.1, (BK.rangeL (hs4.alloc _))⟩, fun _ => (hu4.alloc _).all.1⟩ ?_
    clear hK K
    simp only [Act.put, lx]
    refine ae (i := 14) rfl rfl (by kernel_rfl) (fun K hK => ?_)
    refine wp_append_lies _ (.tmp 38) (.tmp 47) 200 rfl base 207 t0 _ 11 88 Tryz.underlying200 hi hz0 hz1 hz2 rfl (by decide) (.slice p ts'.length c) ts'.length (thL ts') rfl ((aE (mW HN3.O 1) hx4 (by simp)).alloc _) ⟨w4.heap.size, 0, none⟩ 1 1 (thC ⟨k, [y0, y1, y2, y3, y4, y5, y6, y7, y8, y9]⟩) rfl rfl (bu _ _ _) (by simp [thC, bG, Value.oneCell']) (by decide) (by unfold maxLen; omega) (by omega) (by have h1 : w3.heap.size <= w4.heap.size := hx4.size; simp; omega) _ rfl ?_
    intro g0 cap w5 hown5 hgrow5 hat5 hlt5
    have hu5 := BK.grown (hu4.alloc _) hgrow5 (fun e => by have := aG HN3.O _ e; omega)
    have hb5 := BK.grown (hb4.alloc _) hgrow5 (fun e => HF1.O e)
    have hs5 := BK.grown (hs4.alloc _) hgrow5 (fun e => HF0.O e)
    refine hK.O _ _ ⟨⟨hb5.all.1, (BK.rangeL hs5)⟩, fun _ => hu5.all.1⟩ ?_
    clear hK K
    simp only [Act.put, lx]
    obtain ⟨hcu5, hfu5⟩ := hu5.all
    refine ae (i := 15) rfl rfl (by kernel_rfl) (fun K hK => ?_)
    go_simp
    refine hK.O _ _ ⟨⟨hb5.all.1, (BK.rangeL hs5)⟩, fun _ => hu5.all.1⟩ ?_
    clear hK K
    simp only [Act.put, lx]
    refine ae (i := 16) rfl rfl (by kernel_rfl) (fun K hK => ?_)
    go_simp
    refine hK.O _ _ ⟨⟨hb5.all.1, (BK.rangeL hs5)⟩, fun _ => hu5.all.1⟩ ?_
    clear hK K
    simp only [Act.put, lx]
    refine ae (i := 17) rfl rfl (by kernel_rfl) (fun K hK => ?_)
    go_simp
    refine hK.O _ _ ⟨⟨(hb5.set (by simp; omega) _).all.1, (BK.rangeL (hs5.set (by simp; omega) _))⟩, fun hj => by omega⟩ ?_
    clear hK K
    refine aP (by kernel_rfl) ?_ _
    have HX4 : Hid (Ex [] w3 w4) := ((Ex.refl _ _).drew).trans hx4
    have HU5 := aa hu5
    have HO5 := aa hown5
    have HX5 := aa hgrow5
    have hz4 : w3.heap.size <= w4.heap.size := hx4.size
    have HG5 := aa (BK.grown (((HG3.O.drew).ex hx4 (by simp)).alloc _) hgrow5 (fun e => by have := aG HN3.O _ e; omega))
    have HS5 := aa hs5
    have hob := aG hown5 g0 rfl
    clear hx4 hu4 hb4 hs4 hu5 hb5 hs5 hcu5 hfu5 hown5 hgrow5 hcu3 hfu3 hcb3 hfb3 hcs3 hs90 h90
    go_wp2_with fail
    go_roundg g
    case measure => omega
    case rel =>
     have hz3 := HX3.O.size
     have hz0' := HX1.O.size
     refine ⟨i + 1, _, ts' ++ [⟨k, [y0, y1, y2, y3, y4, y5, y6, y7, y8, y9]⟩], rc'.set k pl, by omega, by simp, ?_, by simp; omega, by simpa using hrl, BK.self HU5.O 1 _, ?_, HG5.O.set (by simp; omega) _, HS5.O.set (by simp; omega) _, ?_, ?_⟩
     ·have h1 := HFM.O
      rw [HST.O, HC0.O, if_neg (by intro e; exact hcp (Option.some.inj e)), HYY.O] at h1
      exact h1
     ·rw [vm]
      have h2 := dg HO5.O (a := ⟨u, 1, none⟩) hbu (.slice (some ⟨g0, 0, none⟩) (ts'.length + 1) cap)
      simpa using h2
     ·refine Ex.setCell ?_ (Or.inl (by simp)) _
      have e1 : Ex (u :: gr :: nowV.ownBlock.toList) w w4 := HX1.O.trans ((HX3.O.drop (by simp)).trans (HX4.O.drop (by simp)))
      refine Ex.grown (e1.alloc _) HX5.O (fun j hj => ?_)
      rcases HOR.O with h | ⟨gg, h1, h2⟩
      ·rw [h] at hj; exact Or.inl (by simp [hj])
      ·rw [h1] at hj; cases hj; exact Or.inr (by omega)
     ·rcases hat5 with h | h
      ·rcases HOR.O with h' | ⟨gg, h1, h2⟩
       ·exact Or.inl (by rw [<- h']; rw [h]; rfl)
       ·exact Or.inr ⟨gg, by rw [<- h1]; rw [h]; rfl, h2⟩
      ·exact Or.inr ⟨g0, rfl, by rw [h]; simp; omega⟩
end Go.Proofs.YtfnanjbleifjkaaGreatDoor.G
