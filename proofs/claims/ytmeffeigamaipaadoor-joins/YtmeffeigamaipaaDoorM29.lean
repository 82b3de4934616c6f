/- A2 A1b A0 R2, one behind the other. -/
import Derived.Test.YtmeffeigamaipaaDoorM21
import Derived.Test.YtmeffeigamaipaaDoorM27
import Derived.Test.YtmeffeigamaipaaDoorM05
import Derived.Laws.BitsAllLaws
import Derived.Test.YtmeffeigamaipaaDoorM26
set_option linter.unusedVariables false
set_option linter.unusedSimpArgs false
/- The program of a part, laid in one go: all ways named at once. -/
namespace Go.Proofs.YtmeffeigamaipaaDoor.G

def splitI (z : Bool) (a b : Nat) : Ins := if z then ⟨1, 0, 0, false, (b : Int), (a : Int), 0⟩ else ⟨1, 0, 0, false, (a : Int), (b : Int), 0⟩
def takeI (c : Cls) : Ins := ⟨0, c.lo, c.hi, c.hg, 0, 0, 0⟩
def cdeF (f : Nat → List Ins) (z : Bool) (s e : Nat) : Nat → Nat → List Ins
  | 0, _ => []
  | m + 1, n => splitI z (n + 1) e :: (f (n + 1) ++ cdeF f z s e m (n + 1 + s))
def cdeI (f : Nat → List Ins) (s : Nat) : Nat → Nat → List Ins
  | 0, _ => []
  | m + 1, n => f n ++ cdeI f s m (n + s)
mutual
def cde : Pt → Nat → List Ins
  | .single c, n => [takeI c]
  | .seq l, n => cdeS l n
  | .alt l, n => cdeA l n (n + isz (.alt l))
  | .wrap p g, n => if g = 0 then cde p n else noteI (2 * (g - 1)) :: (cde p (n + 1) ++ [noteI (2 * (g - 1) + 1)])
  | .count p le mo z, n =>
    if mo = -1 then cdeI (cde p) (isz p) le n ++ (splitI z (n + isz p * le + 1) (n + isz p * le + isz p + 4) :: bare 4 :: (cde p (n + isz p * le + 2) ++ [bare 5, jumpTo (n + isz p * le)]))
    else cdeI (cde p) (isz p) le n ++ cdeF (cde p) z (isz p) (n + isz p * le + (isz p + 1) * more le mo) (more le mo) (n + isz p * le)
def cdeS : List Pt → Nat → List Ins
  | [], _ => []
  | p :: l, n => cde p n ++ cdeS l (n + isz p)
def cdeA : List Pt → Nat → Nat → List Ins
  | [], _, _ => []
  | [p], n, _ => cde p n
  | p :: q :: l, n, e => splitI false (n + 1) (n + isz p + 2) :: (cde p (n + 1) ++ jumpTo e :: cdeA (q :: l) (n + isz p + 2) e)
end
theorem cdeI_len (f : Nat → List Ins) (s : Nat) (hf : ∀ n, (f n).length = s) : ∀ m n, (cdeI f s m n).length = s * m
  | 0, n => rfl
  | m + 1, n => by rw [cdeI, List.length_append, hf, cdeI_len f s hf m, Nat.mul_succ]; omega
theorem cdeF_len (f : Nat → List Ins) (z : Bool) (s e : Nat) (hf : ∀ n, (f n).length = s) : ∀ m n, (cdeF f z s e m n).length = (s + 1) * m
  | 0, n => rfl
  | m + 1, n => by rw [cdeF, List.length_cons, List.length_append, hf, cdeF_len f z s e hf m, Nat.mul_succ]; omega
mutual
theorem cde_len : ∀ (p : Pt) (n : Nat), (cde p n).length = isz p
  | .single c, n => rfl
  | .seq l, n => by rw [cde, isz]; exact cdeS_len l n
  | .alt l, n => by rw [cde, cdeA_len l, isz]
  | .wrap p g, n => by
    rw [cde, isz]
    split
    · exact cde_len p n
    · rw [List.length_cons, List.length_append, cde_len p]; rfl
  | .count p le mo z, n => by
    rw [cde, isz]
    split
    · rw [List.length_append, cdeI_len _ _ (cde_len p)]
      simp [cde_len p]
    · rw [List.length_append, cdeI_len _ _ (cde_len p), cdeF_len _ _ _ _ (cde_len p)]
theorem cdeS_len : ∀ (l : List Pt) (n : Nat), (cdeS l n).length = iszL l
  | [], n => rfl
  | p :: l, n => by rw [cdeS, List.length_append, cde_len p, cdeS_len l, iszL]
theorem cdeA_len : ∀ (l : List Pt) (n e : Nat), (cdeA l n e).length = iszL l + 2 * (l.length - 1)
  | [], n, e => rfl
  | [p], n, e => by rw [cdeA, cde_len p]; simp [iszL]
  | p :: q :: l, n, e => by
    rw [cdeA, List.length_cons, List.length_append, List.length_cons, cde_len p, cdeA_len (q :: l)]
    simp [iszL]
    omega
end
theorem wayAt_mid (l : List Ins) (i : Ins) (r : List Ins) (s : Bool) (n : Nat) : wayAt (l ++ i :: r) l.length s n = l ++ i.way s n :: r := by
  unfold wayAt
  induction l with
  | nil => rfl
  | cons a l ih => rw [List.cons_append, List.length_cons, List.modify_succ_cons, ih]; rfl
theorem wayAt_at (l : List Ins) (k : Nat) (i : Ins) (r : List Ins) (s : Bool) (n : Nat) (hk : k = l.length) : wayAt (l ++ i :: r) k s n = l ++ i.way s n :: r := by subst hk; exact wayAt_mid l i r s n
theorem fork_eq (z : Bool) (l : List Ins) : forkM z l = l ++ [(bare 1).way z (l.length + 1)] := by
  unfold forkM
  exact wayAt_mid l (bare 1) [] z _
theorem way_split (z : Bool) (a b : Nat) : ((bare 1).way z a).way (!z) b = splitI z a b := by cases z <;> rfl
theorem way_jump (e : Nat) : (bare 2).way false e = jumpTo e := rfl

def opnF (f : Nat → List Ins) (z : Bool) (s : Nat) : Nat → Nat → List Ins
  | 0, _ => []
  | m + 1, n => (bare 1).way z (n + 1) :: (f (n + 1) ++ opnF f z s m (n + 1 + s))
def forksF (s : Nat) : Nat → Nat → List Nat
  | 0, _ => []
  | m + 1, n => n :: forksF s m (n + 1 + s)
theorem iterF_eq (g : List Ins → List Ins) (f : Nat → List Ins) (z : Bool) (s : Nat) (hf : ∀ n, (f n).length = s) (hg : ∀ l, g l = l ++ f l.length) : ∀ (m : Nat) (ks : List Nat) (l : List Ins), iterF g z m ks l = (ks ++ forksF s m l.length, l ++ opnF f z s m l.length)
  | 0, ks, l => by simp [iterF, forksF, opnF]
  | m + 1, ks, l => by
    rw [iterF, iterF_eq g f z s hf hg m, hg, fork_eq]
    simp only [List.length_append, List.length_cons, List.length_nil, hf, forksF, opnF]
    simp [Nat.add_assoc]
theorem leaves_eq (f : Nat → List Ins) (z : Bool) (s e : Nat) (hf : ∀ n, (f n).length = s) : ∀ (m n : Nat) (pre : List Ins), pre.length = n → n + (s + 1) * m = e → (forksF s m n).foldl (fun l k => leaveM z k l) (pre ++ opnF f z s m n) = pre ++ cdeF f z s e m n
  | 0, n, pre, _, _ => by simp [forksF, opnF, cdeF]
  | m + 1, n, pre, hn, he => by
    rw [forksF, List.foldl_cons, opnF, cdeF]
    have hlen : (pre ++ (bare 1).way z (n + 1) :: (f (n + 1) ++ opnF f z s m (n + 1 + s))).length = e := by
      have h1 : ∀ m n, (opnF f z s m n).length = (s + 1) * m := by
        intro m
        induction m with
        | zero => intro n; rfl
        | succ m ih => intro n; rw [opnF, List.length_cons, List.length_append, hf, ih, Nat.mul_succ]; omega
      rw [List.length_append, List.length_cons, List.length_append, hf, h1]
      rw [Nat.mul_succ] at he
      omega
    unfold leaveM
    rw [wayAt_at pre n _ _ _ _ hn.symm, hlen, way_split]
    have ih := leaves_eq f z s e hf m (n + 1 + s) (pre ++ splitI z (n + 1) e :: f (n + 1)) (by rw [List.length_append, List.length_cons, hf]; omega) (by rw [Nat.mul_succ] at he; omega)
    unfold leaveM at ih
    simp only [List.append_assoc, List.cons_append] at ih
    exact ih
theorem iter_eq (g : List Ins → List Ins) (f : Nat → List Ins) (s : Nat) (hf : ∀ n, (f n).length = s) (hg : ∀ l, g l = l ++ f l.length) : ∀ (m : Nat) (l : List Ins), iter g m l = l ++ cdeI f s m l.length
  | 0, l => by simp [iter, cdeI]
  | m + 1, l => by
    rw [iter, iter_eq g f s hf hg m, hg, cdeI]
    simp [hf]
def opnA : List Pt → Nat → List Ins
  | [], _ => []
  | [p], n => cde p n
  | p :: q :: l, n => splitI false (n + 1) (n + isz p + 2) :: (cde p (n + 1) ++ bare 2 :: opnA (q :: l) (n + isz p + 2))
def jumpsA : List Pt → Nat → List Nat
  | [], _ => []
  | [_], _ => []
  | p :: q :: l, n => (n + isz p + 1) :: jumpsA (q :: l) (n + isz p + 2)
theorem opnA_len : ∀ (l : List Pt) (n : Nat), (opnA l n).length = iszL l + 2 * (l.length - 1)
  | [], n => rfl
  | [p], n => by rw [opnA, cde_len]; simp [iszL]
  | p :: q :: l, n => by
    rw [opnA, List.length_cons, List.length_append, List.length_cons, cde_len, opnA_len (q :: l)]
    simp [iszL]
    omega
theorem lands_eq (e : Nat) : ∀ (l : List Pt) (n : Nat) (pre : List Ins), pre.length = n → n + (iszL l + 2 * (l.length - 1)) = e → (jumpsA l n).foldl (fun l k => landM k l) (pre ++ opnA l n) = pre ++ cdeA l n e
  | [], n, pre, _, _ => by simp [jumpsA, opnA, cdeA]
  | [p], n, pre, _, _ => by simp [jumpsA, opnA, cdeA]
  | p :: q :: l, n, pre, hn, he => by
    rw [jumpsA, List.foldl_cons, opnA, cdeA]
    have hlen : (pre ++ splitI false (n + 1) (n + isz p + 2) :: (cde p (n + 1) ++ bare 2 :: opnA (q :: l) (n + isz p + 2))).length = e := by
      rw [List.length_append, List.length_cons, List.length_append, List.length_cons, cde_len, opnA_len (q :: l)]
      simp [iszL] at he ⊢
      omega
    unfold landM
    have h1 := wayAt_at (pre ++ splitI false (n + 1) (n + isz p + 2) :: cde p (n + 1)) (n + isz p + 1) (bare 2) (opnA (q :: l) (n + isz p + 2)) false e (by rw [List.length_append, List.length_cons, cde_len]; omega)
    rw [way_jump] at h1
    simp only [List.append_assoc, List.cons_append] at h1
    rw [hlen, h1]
    have ih := lands_eq e (q :: l) (n + isz p + 2) (pre ++ splitI false (n + 1) (n + isz p + 2) :: (cde p (n + 1) ++ [jumpTo e])) (by simp [cde_len]; omega) (by simp [iszL] at he ⊢; omega)
    unfold landM at ih
    simp only [List.append_assoc, List.cons_append, List.nil_append] at ih
    exact ih
mutual
theorem addM_eq : ∀ (p : Pt) (l : List Ins), addM p l = l ++ cde p l.length
  | .single c, l => rfl
  | .seq ps, l => by rw [addM, cde]; exact addsM_eq ps l
  | .alt ps, l => by
    rw [addM, cde, altsM_flat ps [] l]
    simp only [List.nil_append]
    exact lands_eq _ ps l.length l rfl (by rw [isz])
  | .wrap p g, l => by
    rw [addM, cde]
    split
    · exact addM_eq p l
    · rw [addM_eq p]
      simp
  | .count p le mo z, l => by
    rw [addM, cde]
    have hi := iter_eq (addM p) (cde p) (isz p) (cde_len p) (addM_eq p) le l
    have hlen : (l ++ cdeI (cde p) (isz p) le l.length).length = l.length + isz p * le := by rw [List.length_append, cdeI_len _ _ (cde_len p)]
    split
    · rw [hi]
      unfold loopM
      rw [addM_eq p, fork_eq, hlen]
      unfold leaveM
      have h1 := wayAt_at (l ++ cdeI (cde p) (isz p) le l.length) (l.length + isz p * le) ((bare 1).way z (l.length + isz p * le + 1)) ([bare 4] ++ cde p (l.length + isz p * le + 2) ++ [bare 5] ++ [jumpTo (l.length + isz p * le)]) (!z) (l.length + isz p * le + isz p + 4) hlen.symm
      rw [way_split] at h1
      have h2 : (l ++ cdeI (cde p) (isz p) le l.length ++ [(bare 1).way z (l.length + isz p * le + 1)] ++ [bare 4]).length = l.length + isz p * le + 2 := by rw [List.length_append, List.length_append, hlen]; rfl
      have h3 : ((l ++ cdeI (cde p) (isz p) le l.length ++ [(bare 1).way z (l.length + isz p * le + 1)] ++ [bare 4]) ++ cde p (l.length + isz p * le + 2) ++ [bare 5] ++ [jumpTo (l.length + isz p * le)]).length = l.length + isz p * le + isz p + 4 := by
        rw [List.length_append, List.length_append, List.length_append, h2, cde_len]
        simp
        omega
      rw [h2, h3]
      simp only [List.append_assoc, List.cons_append, List.nil_append] at h1 ⊢
      exact h1
    · rw [hi, iterF_eq (addM p) (cde p) z (isz p) (cde_len p) (addM_eq p)]
      simp only [List.nil_append, hlen]
      have h1 := leaves_eq (cde p) z (isz p) (l.length + isz p * le + (isz p + 1) * more le mo) (cde_len p) (more le mo) (l.length + isz p * le) (l ++ cdeI (cde p) (isz p) le l.length) hlen rfl
      rw [h1, List.append_assoc]
theorem addsM_eq : ∀ (ps : List Pt) (l : List Ins), addsM ps l = l ++ cdeS ps l.length
  | [], l => by simp [addsM, cdeS]
  | p :: ps, l => by
    rw [addsM, addsM_eq ps, addM_eq p, cdeS]
    simp [cde_len]
theorem altsM_flat : ∀ (ps : List Pt) (js : List Nat) (l : List Ins), altsM ps js l = (js ++ jumpsA ps l.length, l ++ opnA ps l.length)
  | [], js, l => by simp [altsM, jumpsA, opnA]
  | [p], js, l => by simp [altsM, jumpsA, opnA, addM_eq p]
  | p :: q :: ps, js, l => by
    rw [altsM]
    simp only [addM_eq p, fork_eq]
    have h0 : (l ++ [(bare 1).way false (l.length + 1)]).length = l.length + 1 := by simp
    rw [h0]
    unfold leaveM
    have h1 := wayAt_at l l.length ((bare 1).way false (l.length + 1)) (cde p (l.length + 1) ++ [bare 2]) (!false) (l.length + isz p + 2) rfl
    rw [way_split] at h1
    have h2 : (l ++ [(bare 1).way false (l.length + 1)] ++ cde p (l.length + 1)).length = l.length + isz p + 1 := by rw [List.length_append, h0, cde_len]; omega
    have h3 : (l ++ [(bare 1).way false (l.length + 1)] ++ cde p (l.length + 1) ++ [bare 2]).length = l.length + isz p + 2 := by rw [List.length_append, h2]; rfl
    rw [h2, h3]
    simp only [List.append_assoc, List.cons_append, List.nil_append] at h1 ⊢
    rw [h1, altsM_flat (q :: ps)]
    have h4 : (l ++ splitI false (l.length + 1) (l.length + isz p + 2) :: (cde p (l.length + 1) ++ [bare 2])).length = l.length + isz p + 2 := by simp [cde_len]; omega
    rw [h4]
    simp only [jumpsA, opnA, List.append_assoc, List.cons_append, List.nil_append]
end
theorem progM_eq (q : Pt) : progM q = cde q 0 ++ [bare 6] := by
  unfold progM
  rw [addM_eq]
  rfl
end Go.Proofs.YtmeffeigamaipaaDoor.G

/- Rounds of an expression. -/
namespace Go.Proofs.YtmeffeigamaipaaDoor.G

theorem catX_succ (x : Xp) : ∀ (m : Nat) (o : Xp), catX x (m + 1) o = .cat x (catX x m o)
  | 0, o => rfl
  | m + 1, o => by rw [catX, catX_succ x m]; rfl
theorem upX_succ (x : Xp) (z : Bool) : ∀ (m : Nat) (o : Xp), upX x z (m + 1) o = .may (.cat x (upX x z m o)) z
  | 0, o => rfl
  | m + 1, o => by rw [upX, upX_succ x z m]; rfl
end Go.Proofs.YtmeffeigamaipaaDoor.G

/- One bit of a word. -/
namespace Go.Proofs.YtmeffeigamaipaaDoor.G

def bitAt (b : Int) (i : Nat) : Bool := bits BinOp.and IntKind.u64 (b / 2 ^ i) 1 == 1
theorem bitAt_nat (b i : Nat) (hb : b < 18446744073709551616) : bitAt (b : Int) i = b.testBit i := by
  unfold bitAt
  have h1 : ((b : Int) / 2 ^ i) = ((b / 2 ^ i : Nat) : Int) := by push_cast; rfl
  have h2 : b / 2 ^ i < 18446744073709551616 := Nat.lt_of_le_of_lt (Nat.div_le_self _ _) hb
  rw [h1, show (1 : Int) = ((1 : Nat) : Int) from rfl, u64_and_nat _ _ h2 (by decide), nat_mask1, Nat.testBit_eq_decide_div_mod_eq]
  have : (b / 2 ^ i) % 2 < 2 := Nat.mod_lt _ (by decide)
  rcases (show (b / 2 ^ i) % 2 = 0 ∨ (b / 2 ^ i) % 2 = 1 by omega) with h | h <;> rw [h] <;> decide
end Go.Proofs.YtmeffeigamaipaaDoor.G

/- Contracts of a run, whatever the pattern: places that are marked. -/
namespace Go.Proofs.YtmeffeigamaipaaDoor.G
open Go.RowKit

def ints (sl : List Int) : List Value := sl.map (Value.int .i64)
theorem ints_len (sl : List Int) : (ints sl).length = sl.length := by simp [ints]
theorem ints_at (sl : List Int) (i : Nat) : (ints sl)[i]? = (sl[i]?).map (Value.int .i64) := by simp [ints]
theorem ints_set (sl : List Int) (i : Nat) (x : Int) : (ints sl).set i (.int .i64 x) = ints (sl.set i x) := by simp [ints]

def markN (b pl : Int) : Nat → List Int → List Int
  | 0, sl => sl
  | n + 1, sl => if bitAt b n then (markN b pl n sl).set n pl else markN b pl n sl
theorem markN_len (b pl : Int) (n : Nat) (sl : List Int) : (markN b pl n sl).length = sl.length := by
  induction n with
  | zero => rfl
  | succ n ih => simp only [markN]; split <;> simp [ih]
def markM (b pl : Int) (sl : List Int) : List Int := markN b pl 10 sl

theorem ten {sl : List Int} (h : sl.length = 10) : ∃ y0 y1 y2 y3 y4 y5 y6 y7 y8 y9, sl = [y0, y1, y2, y3, y4, y5, y6, y7, y8, y9] := by
  match sl, h with
  | [y0, y1, y2, y3, y4, y5, y6, y7, y8, y9], _ => exact ⟨y0, y1, y2, y3, y4, y5, y6, y7, y8, y9, rfl⟩
theorem ints_ten (y0 y1 y2 y3 y4 y5 y6 y7 y8 y9 : Int) : (ints [y0, y1, y2, y3, y4, y5, y6, y7, y8, y9]).toArray = #[.int .i64 y0, .int .i64 y1, .int .i64 y2, .int .i64 y3, .int .i64 y4, .int .i64 y5, .int .i64 y6, .int .i64 y7, .int .i64 y8, .int .i64 y9] := rfl
theorem size90' (sl : List Int) (h : sl.length = 10) : (Tryd.prog.info? 79).map (·.size) = some (ints sl).length := by
  rw [ints_len, h]; kernel_rfl

set_option maxHeartbeats 2000000 in
set_option maxRecDepth 100000 in
theorem marked_any (b pl : Int) (sl : List Int) (hl : sl.length = 10) (w : World) :
    Calls Tryd.prog 37 #[.agg (ints sl).toArray, .int .u64 b, .int .i64 pl] w fun e w' => e = .returned (.agg (ints (markM b pl sl)).toArray) ∧ Ex [] w w' := by
  have h90 := Tryd.underlying79
  go_enter Tryd.func37, Tryd.ntmps37
  go_wp2_with fail
  go_loopg [8] 10 (fun gk i8 wr => ∃ i : Nat, i + gk = 10 ∧ i8 = .int .i64 i ∧ BK wr w.heap.size (.cells (ints (markN b pl i sl)).toArray 79 (0, 0)) ∧ BK wr (w.heap.size + 1) (.cells #[.int .i64 0, .int .i64 0, .int .i64 0, .int .i64 0, .int .i64 0, .int .i64 0, .int .i64 0, .int .i64 0, .int .i64 0, .int .i64 0] 79 (0, 0)) ∧ Ex [] w wr)
  case atStart =>
    refine ⟨0, by omega, rfl, (BK.new _ _).alloc _, ?_, ((Ex.refl _ _).alloc _).alloc _⟩
    have := BK.new (w.alloc (Obj.cells (ints sl).toArray 79)) (Obj.cells #[.int .i64 0, .int .i64 0, .int .i64 0, .int .i64 0, .int .i64 0, .int .i64 0, .int .i64 0, .int .i64 0, .int .i64 0, .int .i64 0] 79)
    simpa using this
  case round =>
    obtain ⟨i, hgi, rfl, hb0, hb1, hx⟩ := hrel
    have HX := hide hx
    have HB0 := hide hb0
    have HB1 := hide hb1
    have hl0 := hb0.lt
    have hl1 := hb1.lt
    clear hx
    cases gk with
    | zero =>
      obtain rfl : i = 10 := by omega
      have hml : (markN b pl 10 sl).length = 10 := by rw [markN_len, hl]
      obtain ⟨y0, y1, y2, y3, y4, y5, y6, y7, y8, y9, hy⟩ := ten hml
      rw [hy, ints_ten] at hb0
      have HY := hide hy
      obtain ⟨hc0, hf0⟩ := hb0.all
      obtain ⟨hc1, hf1⟩ := hb1.all
      clear hb0 hb1 hml hy
      go_wp2_with fail
      refine bodyPost_ret (v := .agg #[.int .i64 y0, .int .i64 y1, .int .i64 y2, .int .i64 y3, .int .i64 y4, .int .i64 y5, .int .i64 y6, .int .i64 y7, .int .i64 y8, .int .i64 y9]) (by simp [results, Tryd.results37, go_sem, hc1]) rfl ⟨by rw [markM, HY.out, ints_ten], ?_⟩
      repeat (refine Ex.setCell ?_ (Or.inr (by simp)) _)
      exact HX.out
    | succ g =>
      have hi : i < 10 := by omega
      have hi' : (i : Int) < 10 := by omega
      have hlen : (markN b pl i sl).length = 10 := by rw [markN_len, hl]
      obtain ⟨hc0, hf0⟩ := hb0.all
      have hk := hc0 i
      have hkf := hf0 i
      rw [List.getElem?_toArray, ints_at, List.getElem?_eq_getElem (by omega)] at hk
      simp only [Option.map_some] at hk
      clear hb0 hb1 hc0 hf0
      cases hbit : bitAt b i with
      | true =>
        have hbt : (bits BinOp.and IntKind.u64 (b / 2 ^ i) 1 == 1) = true := hbit
        go_wp2_with fail
        go_roundg g
        case measure => omega
        case rel =>
          refine ⟨i + 1, by omega, by simp, ?_, HB1.out.set (by simp) _, HX.out.setCell (Or.inr (by simp)) _⟩
          simp only [markN, hbit, if_true]
          rw [← ints_set]
          exact BK.selfL HB0.out i _
      | false =>
        have hbt : (bits BinOp.and IntKind.u64 (b / 2 ^ i) 1 == 1) = false := hbit
        go_wp2_with fail
        go_roundg g
        case measure => omega
        case rel => exact ⟨i + 1, by omega, by simp, by simp only [markN, hbit]; exact HB0.out, HB1.out, HX.out⟩
end Go.Proofs.YtmeffeigamaipaaDoor.G
