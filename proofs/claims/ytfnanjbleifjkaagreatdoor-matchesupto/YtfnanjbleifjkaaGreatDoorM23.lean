import Derived.Laws.BitsAllLaws
import Derived.Test.YtfnanjbleifjkaaGreatDoorM21
set_option linter.unusedVariables false
set_option linter.unusedSimpArgs false
set_option maxHeartbeats 4000000
set_option maxRecDepth 100000
namespace Go.Proofs.YtfnanjbleifjkaaGreatDoor.G
variable {c d : Cls} {a : Nat} {f : Bool} {bs cs : List Bool}
inductive Xp where
 |emp
 |set (c : Cls)
 |cat (a b : Xp)
 |alt (a b : Xp)
 |star (a : Xp) (z : Bool)
 |may (a : Xp) (z : Bool)
 |grp (a : Xp) (n : Nat)
def Xp.sz : Xp -> Nat
 |.emp => 1
 |.set _ => 1
 |.cat a b => a.sz + b.sz + 1
 |.alt a b => a.sz + b.sz + 1
 |.star a _ => a.sz + 3
 |.may a _ => a.sz + 1
 |.grp a _ => a.sz + 3
inductive Tk where
 |ex (x : Xp)
 |gend (n : Nat)
 |rend (x : Xp) (z : Bool) (fresh : Bool)
def Tk.sz : Tk -> Nat
 |.ex x => x.sz
 |.gend _ => 1
 |.rend x _ true => 1
 |.rend x _ false => x.sz + 3
def ksz : List Tk -> Nat
 | [] => 0
 |t :: k => t.sz + ksz k
def Tk.old : Tk -> Tk
 |.rend x z _ => .rend x z false
 |t => t
def dw (k : List Tk) : List Tk := k.map Tk.old
theorem ww (t : Tk) : t.old.old = t.old := by cases t <;> rfl
theorem kr (k : List Tk) : dw (dw k) = dw k := by simp [dw, List.map_map, Function.comp_def, ww]
abbrev Mk := List (Nat × Nat)
def bN (z : Bool) (a b : Option Mk) : Option Mk := if z then b.or a else a.or b
def beg (n : Nat) : Nat := 2 * (n - 1)
def ev (l : List (Nat × Nat)) (pl : Nat) (k : List Tk) : Option Mk :=
 match k with
 | [] => if l.isEmpty then some [] else none
 |.gend n :: k => (ev l pl k).map ((beg n + 1, pl) :: ·)
 |.rend x z true :: k => none
 |.rend x z false :: k => bN z (ev l pl (.ex x :: .rend x z true :: k)) (ev l pl k)
 |.ex .emp :: k => ev l pl k
 |.ex (.set c) :: k => match l with
  | [] => none
  |(r, p) :: l => if hasC c r then ev l p (dw k) else none
 |.ex (.cat a b) :: k => ev l pl (.ex a :: .ex b :: k)
 |.ex (.alt a b) :: k => (ev l pl (.ex a :: k)).or (ev l pl (.ex b :: k))
 |.ex (.star a z) :: k => bN z (ev l pl (.ex a :: .rend a z true :: k)) (ev l pl k)
 |.ex (.may a z) :: k => bN z (ev l pl (.ex a :: k)) (ev l pl k)
 |.ex (.grp a n) :: k => (ev l pl (.ex a :: .gend n :: k)).map ((beg n, pl) :: ·)
termination_by (l.length, ksz k)
decreasing_by
 all_goals simp_wf
 all_goals first
  |(apply Prod.Lex.left; simp; done)
  |(apply Prod.Lex.right; simp [ksz, Tk.sz, Xp.sz]; try omega)
theorem fc (l : List (Nat × Nat)) (pl : Nat) : ev l pl [] = if l.isEmpty then some [] else none := by rw [ev]
theorem eW (l : List (Nat × Nat)) (pl n : Nat) (k : List Tk) : ev l pl (.gend n :: k) = (ev l pl k).map ((beg n + 1, pl) :: ·) := by rw [ev]
theorem dS (l : List (Nat × Nat)) (pl : Nat) (x : Xp) (z : Bool) (k : List Tk) : ev l pl (.rend x z true :: k) = none := by rw [ev]
theorem fu (l : List (Nat × Nat)) (pl : Nat) (x : Xp) (z : Bool) (k : List Tk) : ev l pl (.rend x z false :: k) = bN z (ev l pl (.ex x :: .rend x z true :: k)) (ev l pl k) := by rw [ev]
theorem gq (l : List (Nat × Nat)) (pl : Nat) (k : List Tk) : ev l pl (.ex .emp :: k) = ev l pl k := by rw [ev]
theorem gS (pl : Nat) (c : Cls) (k : List Tk) : ev [] pl (.ex (.set c) :: k) = none := by rw [ev]
theorem iu (r p : Nat) (l : List (Nat × Nat)) (pl : Nat) (c : Cls) (k : List Tk) : ev ((r, p) :: l) pl (.ex (.set c) :: k) = if hasC c r then ev l p (dw k) else none := by rw [ev]
theorem gh (l : List (Nat × Nat)) (pl : Nat) (a b : Xp) (k : List Tk) : ev l pl (.ex (.cat a b) :: k) = ev l pl (.ex a :: .ex b :: k) := by rw [ev]
theorem fH (l : List (Nat × Nat)) (pl : Nat) (a b : Xp) (k : List Tk) : ev l pl (.ex (.alt a b) :: k) = (ev l pl (.ex a :: k)).or (ev l pl (.ex b :: k)) := by rw [ev]
theorem ei (l : List (Nat × Nat)) (pl : Nat) (a : Xp) (z : Bool) (k : List Tk) : ev l pl (.ex (.star a z) :: k) = bN z (ev l pl (.ex a :: .rend a z true :: k)) (ev l pl k) := by rw [ev]
theorem f0 (l : List (Nat × Nat)) (pl : Nat) (a : Xp) (z : Bool) (k : List Tk) : ev l pl (.ex (.may a z) :: k) = bN z (ev l pl (.ex a :: k)) (ev l pl k) := by rw [ev]
theorem gz (l : List (Nat × Nat)) (pl : Nat) (a : Xp) (n : Nat) (k : List Tk) : ev l pl (.ex (.grp a n) :: k) = (ev l pl (.ex a :: .gend n :: k)).map ((beg n, pl) :: ·) := by rw [ev]
inductive Eqv : List Tk -> List Tk -> Prop
 |refl (k) : Eqv k k
 |fresh {x z k k'} : dw k = dw k' -> Eqv (.rend x z true :: k) (.rend x z true :: k')
 |ex {x k k'} : Eqv k k' -> Eqv (.ex x :: k) (.ex x :: k')
 |gend {n k k'} : Eqv k k' -> Eqv (.gend n :: k) (.gend n :: k')
theorem Eqv.old {k k' : List Tk} (h : Eqv k k') : dw k = dw k' := by
 induction h with
 |refl k => rfl
 |fresh h => simp only [dw, List.map_cons] at h ⊢; rw [h]
 |ex _ ih => simp only [dw, List.map_cons] at ih ⊢; rw [ih]
 |gend _ ih => simp only [dw, List.map_cons] at ih ⊢; rw [ih]
theorem Eqv.ev : ∀ (n : Nat) {l : List (Nat × Nat)} {pl : Nat} {k k' : List Tk}, ksz k <= n -> Eqv k k' -> ev l pl k = ev l pl k' := by
 intro n
 induction n with
 |zero =>
  intro l pl k k' hn h
  cases h with
  |refl => rfl
  |fresh h => simp [ksz, Tk.sz] at hn
  |@ex x k k' h => cases x <;> simp [ksz, Tk.sz, Xp.sz] at hn
  |gend h => simp [ksz, Tk.sz] at hn
 |succ n ih =>
  intro l pl k k' hn h
  cases h with
  |refl => rfl
  |fresh h => rw [dS, dS]
  |gend h => rw [eW, eW, ih (by simp [ksz, Tk.sz] at hn; omega) h]
  |@ex x k k' h =>
   cases x with
   |emp => rw [gq, gq]; exact ih (by simp [ksz, Tk.sz, Xp.sz] at hn; omega) h
   |set c =>
    cases l with
    |nil => rw [gS, gS]
    |cons r l => obtain ⟨r, p⟩ := r; rw [iu, iu, h.old]
   |cat a b => rw [gh, gh]; exact ih (by simp [ksz, Tk.sz, Xp.sz] at hn ⊢; omega) (.ex (.ex h))
   |alt a b => rw [fH, fH, ih (by simp [ksz, Tk.sz, Xp.sz] at hn ⊢; omega) (Eqv.ex (x := a) h), ih (by simp [ksz, Tk.sz, Xp.sz] at hn ⊢; omega) (Eqv.ex (x := b) h)]
   |star a z => rw [ei, ei, ih (by simp [ksz, Tk.sz, Xp.sz] at hn ⊢; omega) (Eqv.ex (x := a) (.fresh h.old)), ih (by simp [ksz, Tk.sz, Xp.sz] at hn ⊢; omega) h]
   |may a z => rw [f0, f0, ih (by simp [ksz, Tk.sz, Xp.sz] at hn ⊢; omega) (Eqv.ex (x := a) h), ih (by simp [ksz, Tk.sz, Xp.sz] at hn ⊢; omega) h]
   |grp a m => rw [gz, gz, ih (by simp [ksz, Tk.sz, Xp.sz] at hn ⊢; omega) (Eqv.ex (x := a) (.gend h))]
theorem Eqv.eq {l : List (Nat × Nat)} {pl : Nat} {k k' : List Tk} (h : Eqv k k') : G.ev l pl k = G.ev l pl k' := Eqv.ev _ (Nat.le_refl _) h
def upX (x : Xp) (z : Bool) : Nat -> Xp -> Xp
 | 0, o => o
 |n + 1, o => upX x z n (.may (.cat x o) z)
def kB (x : Xp) : Nat -> Xp -> Xp
 | 0, o => o
 |n + 1, o => kB x n (.cat x o)
def ek (x : Xp) (le : Nat) (mo : Int) (z : Bool) : Xp := kB x le (if mo < 0 then .star x z else upX x z (mo - le).toNat .emp)
mutual
def den : Pt -> Xp
 |.single c => .set c
 |.seq l => gW l .emp
 |.alt l => gX l
 |.wrap p g => if g = 0 then den p else .grp (den p) g
 |.count p le mo z => ek (den p) le mo z
def gW : List Pt -> Xp -> Xp
 | [], x => x
 |p :: l, x => gW l (.cat x (den p))
def gX : List Pt -> Xp
 | [] => .emp
 |p :: l => iF l (den p)
def iF : List Pt -> Xp -> Xp
 | [], x => x
 |p :: l, x => iF l (.alt x (den p))
end
theorem et (x : Xp) : ∀ (m : Nat) (o : Xp), kB x (m + 1) o = .cat x (kB x m o)
 | 0, o => rfl
 |m + 1, o => by rw [kB, et x m]; rfl
theorem gd (x : Xp) (z : Bool) : ∀ (m : Nat) (o : Xp), upX x z (m + 1) o = .may (.cat x (upX x z m o)) z
 | 0, o => rfl
 |m + 1, o => by rw [upX, gd x z m]; rfl
def hJ (b : Int) (i : Nat) : Bool := bits BinOp.and IntKind.u64 (b / 2 ^ i) 1 == 1
theorem fy (b i : Nat) (hb : b < 18446744073709551616) : hJ (b : Int) i = b.testBit i := by
 unfold hJ
 have h1 : ((b : Int) / 2 ^ i) = ((b / 2 ^ i : Nat) : Int) := by push_cast; rfl
 have h2 : b / 2 ^ i < 18446744073709551616 := Nat.lt_of_le_of_lt (Nat.div_le_self _ _) hb
 rw [h1, show (1 : Int) = ((1 : Nat) : Int) from rfl, u64_and_nat _ _ h2 (by decide), nat_mask1, Nat.testBit_eq_decide_div_mod_eq]
 have : (b / 2 ^ i) % 2 < 2 := Nat.mod_lt _ (by decide)
 rcases (show (b / 2 ^ i) % 2 = 0 \/ (b / 2 ^ i) % 2 = 1 by omega) with h | h <;> rw [h] <;> decide
def CN (c : Cls) : Prop := ∃ a b : Nat, a < 18446744073709551616 /\ b < 18446744073709551616 /\ c.lo = (a : Int) /\ c.hi = (b : Int)
def hn (c : Cls) (r : Nat) : Bool := hasC c (r : Int)
theorem yk : ∀ r : Fin 128, (bits BinOp.and IntKind.i32 ((r.val : Nat) : Int) 63).toNat = r.val % 64 := by decide +kernel
theorem dx (c : Cls) (r : Nat) (h : 128 <= r) : hn c r = c.hg := by unfold hn hasC; rw [if_pos (by omega)]
theorem xz (c : Cls) (r : Nat) (h : r < 128) : hn c r = hJ (c.word r) (r % 64) := by
 unfold hn hasC
 rw [if_neg (by omega), Int.toNat_natCast]
 unfold iK shv hJ
 rw [yk ⟨r, h⟩]
 have : min (r % 64) 64 = r % 64 := by omega
 rw [this]
theorem dM {b : Nat} (ha : a < 18446744073709551616) (hb : b < 18446744073709551616) (e1 : c.lo = (a : Int)) (e2 : c.hi = (b : Int)) (r : Nat) (h : r < 128) : hn c r = if r / 64 = 0 then a.testBit (r % 64) else b.testBit (r % 64) := by
 rw [xz c r h]
 unfold Cls.word
 split
 ·rw [e1, fy _ _ ha]
 ·rw [e2, fy _ _ hb]
theorem pf {b : Nat} (ha : a < 18446744073709551616) (hb : b < 18446744073709551616) : a ||| b < 18446744073709551616 := by
 have : a ||| b < 2 ^ 64 := Nat.or_lt_two_pow (by simpa using ha) (by simpa using hb)
 simpa using this
theorem CN.with (hc : CN c) (hd : CN d) : CN (bI c d) := by
 obtain ⟨a, b, ha, hb, e1, e2⟩ := hc
 obtain ⟨a', b', ha', hb', e1', e2'⟩ := hd
 refine ⟨a ||| a', b ||| b', pf ha ha', pf hb hb', ?_, ?_⟩
 ·show bits BinOp.or IntKind.u64 c.lo d.lo = _; rw [e1, e1', u64_or_nat _ _ ha ha']
 ·show bits BinOp.or IntKind.u64 c.hi d.hi = _; rw [e2, e2', u64_or_nat _ _ hb hb']
theorem nK (hc : CN c) (hd : CN d) (r : Nat) : hn (bI c d) r = (hn c r || hn d r) := by
 obtain ⟨a, b, ha, hb, e1, e2⟩ := hc
 obtain ⟨a', b', ha', hb', e1', e2'⟩ := hd
 by_cases h : r < 128
 ·rw [dM ha hb e1 e2 r h, dM ha' hb' e1' e2' r h, dM (a := a ||| a') (b := b ||| b') (pf ha ha') (pf hb hb') (by show bits BinOp.or IntKind.u64 c.lo d.lo = _; rw [e1, e1', u64_or_nat _ _ ha ha']) (by show bits BinOp.or IntKind.u64 c.hi d.hi = _; rw [e2, e2', u64_or_nat _ _ hb hb']) r h]
  split <;> rw [Nat.testBit_or]
 ·rw [dx _ _ (by omega), dx _ _ (by omega), dx _ _ (by omega)]
  rfl
theorem mI (k : Nat) (hk : k < 64) : (2 : Nat) ^ k < 18446744073709551616 := by
 have : (2 : Nat) ^ k < 2 ^ 64 := Nat.pow_lt_pow_right (by decide) hk
 simpa using this
theorem gj (b : Nat) : eS b = ((2 ^ (b % 64) : Nat) : Int) := by
 unfold eS
 have : ((2 : Int) ^ (b % 64)) = ((2 ^ (b % 64) : Nat) : Int) := by push_cast; rfl
 rw [this]
 simp only [IntKind.wrap, IntKind.bits, IntKind.signed]
 have h3 : ((2 ^ (b % 64) : Nat) : Int) % 18446744073709551616 = ((2 ^ (b % 64) : Nat) : Int) := Int.emod_eq_of_lt (Int.natCast_nonneg _) (Int.ofNat_lt.2 (mI _ (Nat.mod_lt _ (by decide))))
 simpa using h3
theorem CN.zero (z : Bool) : CN ⟨0, 0, z⟩ := ⟨0, 0, by decide, by decide, rfl, rfl⟩
theorem rY (b : Nat) : bits BinOp.or IntKind.u64 0 (eS b) = ((2 ^ (b % 64) : Nat) : Int) := by
 rw [gj, show (0 : Int) = ((0 : Nat) : Int) from rfl, u64_or_nat _ _ (by decide) (mI _ (Nat.mod_lt _ (by decide))), Nat.zero_or]
theorem CN.one (b : Nat) : CN (bZ b) := by
 unfold bZ
 split
 ·exact ⟨2 ^ (b % 64), 0, mI _ (Nat.mod_lt _ (by decide)), by decide, rY b, rfl⟩
 ·exact ⟨0, 2 ^ (b % 64), by decide, mI _ (Nat.mod_lt _ (by decide)), rfl, rY b⟩
theorem CN.addB (hc : CN c) (b : Nat) : CN (addB c b) := by
 obtain ⟨x, y, hx, hy, e1, e2⟩ := hc
 have hp := mI (b % 64) (Nat.mod_lt _ (by decide))
 unfold G.addB
 split
 ·exact ⟨x ||| 2 ^ (b % 64), y, pf hx hp, hy, by show bits BinOp.or IntKind.u64 c.lo (eS b) = _; rw [e1, gj, u64_or_nat _ _ hx hp], e2⟩
 ·exact ⟨x, y ||| 2 ^ (b % 64), hx, pf hy hp, e1, by show bits BinOp.or IntKind.u64 c.hi (eS b) = _; rw [e2, gj, u64_or_nat _ _ hy hp]⟩
theorem rX (hc : CN c) (b : Nat) (hb : b < 128) (r : Nat) : hn (addB c b) r = (hn c r || decide (r = b)) := by
 obtain ⟨x, y, hx, hy, e1, e2⟩ := hc
 have hp := mI (b % 64) (Nat.mod_lt _ (by decide))
 by_cases h : r < 128
 ·rw [dM hx hy e1 e2 r h]
  unfold G.addB
  by_cases hd : b / 64 = 0
  ·rw [if_pos hd, dM (c := ⟨bits BinOp.or IntKind.u64 c.lo (eS b), c.hi, c.hg⟩) (a := x ||| 2 ^ (b % 64)) (b := y) (pf hx hp) hy (by show bits BinOp.or IntKind.u64 c.lo (eS b) = _; rw [e1, gj, u64_or_nat _ _ hx hp]) e2 r h]
   by_cases hr : r / 64 = 0
   ·rw [if_pos hr, if_pos hr, Nat.testBit_or, Nat.testBit_two_pow]
    congr 1
    rw [decide_eq_decide]
    omega
   ·rw [if_neg hr, if_neg hr, decide_eq_false (by omega), Bool.or_false]
  ·rw [if_neg hd, dM (c := ⟨c.lo, bits BinOp.or IntKind.u64 c.hi (eS b), c.hg⟩) (a := x) (b := y ||| 2 ^ (b % 64)) hx (pf hy hp) e1 (by show bits BinOp.or IntKind.u64 c.hi (eS b) = _; rw [e2, gj, u64_or_nat _ _ hy hp]) r h]
   by_cases hr : r / 64 = 0
   ·rw [if_pos hr, if_pos hr, decide_eq_false (by omega), Bool.or_false]
   ·rw [if_neg hr, if_neg hr, Nat.testBit_or, Nat.testBit_two_pow]
    congr 1
    rw [decide_eq_decide]
    omega
 ·rw [dx _ _ (by omega), dx _ _ (by omega), decide_eq_false (by omega), Bool.or_false]
  unfold G.addB
  split <;> rfl
theorem uY (b : Nat) : bZ b = addB ⟨0, 0, false⟩ b := by
 unfold bZ addB
 rfl
theorem oh (z : Bool) (r : Nat) : hn ⟨0, 0, z⟩ r = (decide (128 <= r) && z) := by
 by_cases h : r < 128
 ·rw [dM (a := 0) (b := 0) (by decide) (by decide) rfl rfl r h, decide_eq_false (by omega)]
  simp
 ·rw [dx _ _ (by omega), decide_eq_true (by omega)]
  rfl
theorem qD (b : Nat) (hb : b < 128) (r : Nat) : hn (bZ b) r = decide (r = b) := by
 rw [uY, rX (CN.zero _) b hb, oh]
 simp
theorem kc : ∀ (n b : Nat) (c : Cls), CN c -> b + n <= 128 -> CN (iW n b c) /\ ∀ r, hn (iW n b c) r = (hn c r || decide (b <= r /\ r < b + n))
 | 0, b, c, hc, hb => ⟨hc, fun r => by rw [iW, decide_eq_false (by omega), Bool.or_false]⟩
 |n + 1, b, c, hc, hb => by
  obtain ⟨h1, h2⟩ := kc n (b + 1) (addB c b) (hc.addB b) (by omega)
  refine ⟨h1, fun r => ?_⟩
  rw [iW, h2, rX hc b (by omega), Bool.or_assoc]
  congr 1
  by_cases h : r = b
  ·rw [decide_eq_true h, decide_eq_true (show b <= r /\ r < b + (n + 1) by omega)]; rfl
  ·rw [decide_eq_false h, Bool.false_or, decide_eq_decide]
   omega
theorem CN.range (a b : Nat) (hb : b < 128) (hab : a <= b) : CN (bU a b) := (kc (b + 1 - a) a _ (CN.zero _) (by omega)).1
theorem uO (a b : Nat) (hb : b < 128) (hab : a <= b) (r : Nat) : hn (bU a b) r = decide (a <= r /\ r <= b) := by
 unfold bU
 rw [(kc (b + 1 - a) a _ (CN.zero _) (by omega)).2, oh]
 simp only [Bool.and_false, Bool.false_or, decide_eq_decide]
 omega
theorem nu : IntKind.u64.max = ((18446744073709551615 : Nat) : Int) := rfl
theorem ry (ha : a < 18446744073709551616) : 18446744073709551615 ^^^ a < 18446744073709551616 := by
 have : 18446744073709551615 ^^^ a < 2 ^ 64 := Nat.xor_lt_two_pow (by decide) (by simpa using ha)
 simpa using this
theorem xW (a k : Nat) (hk : k < 64) : (18446744073709551615 ^^^ a).testBit k = !a.testBit k := by
 rw [Nat.testBit_xor, show (18446744073709551615 : Nat) = 2 ^ 64 - 1 by decide, Nat.testBit_two_pow_sub_one, decide_eq_true hk, Bool.true_xor]
theorem CN.others (hc : CN c) : CN (bC c) := by
 obtain ⟨x, y, hx, hy, e1, e2⟩ := hc
 exact ⟨_, _, ry hx, ry hy, by show bits BinOp.xor IntKind.u64 IntKind.u64.max c.lo = _; rw [e1, nu, u64_xor_nat _ _ (by decide) hx], by show bits BinOp.xor IntKind.u64 IntKind.u64.max c.hi = _; rw [e2, nu, u64_xor_nat _ _ (by decide) hy]⟩
theorem mO (hc : CN c) (r : Nat) : hn (bC c) r = !hn c r := by
 obtain ⟨x, y, hx, hy, e1, e2⟩ := hc
 by_cases h : r < 128
 ·rw [dM hx hy e1 e2 r h, dM (a := 18446744073709551615 ^^^ x) (b := 18446744073709551615 ^^^ y) (ry hx) (ry hy) (by show bits BinOp.xor IntKind.u64 IntKind.u64.max c.lo = _; rw [e1, nu, u64_xor_nat _ _ (by decide) hx]) (by show bits BinOp.xor IntKind.u64 IntKind.u64.max c.hi = _; rw [e2, nu, u64_xor_nat _ _ (by decide) hy]) r h]
  split <;> rw [xW _ _ (Nat.mod_lt _ (by decide))]
 ·rw [dx _ _ (by omega), dx _ _ (by omega)]
  rfl
def dH (h : Nat -> Bool) (j : Nat) : Bool := if 97 <= j /\ j <= 122 then h j || h (j - 32) else if 65 <= j /\ j <= 90 then h j || h (j + 32) else h j
theorem CN.stepB (hc : CN c) (l : Nat) : CN (stepB c l) := by
 unfold G.stepB
 split
 ·exact (hc.with (CN.one _)).with (CN.one _)
 ·exact hc
theorem gc (hc : CN c) (l : Nat) (h1 : 97 <= l) (h2 : l <= 122) (r : Nat) : hn (stepB c l) r = if r = l then hn c r || hn c (r - 32) else if r + 32 = l then hn c r || hn c (r + 32) else hn c r := by
 have e1 : iK c l = hn c l := by unfold hn hasC; rw [if_neg (by omega), Int.toNat_natCast]
 have e2 : iK c (l - 32) = hn c (l - 32) := by unfold hn hasC; rw [if_neg (by omega), Int.toNat_natCast]
 unfold G.stepB
 rw [e1, e2]
 by_cases hh : (hn c l || hn c (l - 32)) = true
 ·rw [if_pos hh, nK (hc.with (CN.one _)) (CN.one _), nK hc (CN.one _), qD _ (by omega), qD _ (by omega)]
  by_cases ha : r = l
  ·subst ha
   rw [if_pos rfl, hh]
   simp
  ·rw [if_neg ha]
   by_cases hb : r + 32 = l
   ·rw [if_pos hb, hb]
    have : r = l - 32 := by omega
    rw [this, decide_eq_true rfl, Bool.or_true, Bool.or_comm, hh]
   ·rw [if_neg hb, decide_eq_false ha, decide_eq_false (by omega)]
    simp
 ·rw [if_neg hh]
  simp only [Bool.not_eq_true, Bool.or_eq_false_iff] at hh
  by_cases ha : r = l
  ·subst ha
   rw [if_pos rfl, hh.1, hh.2]; rfl
  ·rw [if_neg ha]
   by_cases hb : r + 32 = l
   ·rw [if_pos hb, hb, hh.1, Bool.or_false]
   ·rw [if_neg hb]
theorem qA : ∀ (n l : Nat) (c : Cls), CN c -> 97 <= l -> l + n <= 123 -> CN (bcf n l c) /\ ∀ r, hn (bcf n l c) r = if l <= r /\ r < l + n then hn c r || hn c (r - 32) else if l <= r + 32 /\ r + 32 < l + n then hn c r || hn c (r + 32) else hn c r
 | 0, l, c, hc, h1, h2 => ⟨hc, fun r => by rw [bcf, if_neg (by omega), if_neg (by omega)]⟩
 |n + 1, l, c, hc, h1, h2 => by
  obtain ⟨g1, g2⟩ := qA n (l + 1) (stepB c l) (hc.stepB l) (by omega) (by omega)
  refine ⟨g1, fun r => ?_⟩
  rw [bcf, g2]
  by_cases ha : l + 1 <= r /\ r < l + 1 + n
  ·rw [if_pos ha, if_pos (by omega), gc hc l h1 (by omega), gc hc l h1 (by omega), if_neg (by omega), if_neg (by omega), if_neg (by omega), if_neg (by omega)]
  ·rw [if_neg ha]
   by_cases hb : l + 1 <= r + 32 /\ r + 32 < l + 1 + n
   ·rw [if_pos hb, gc hc l h1 (by omega), gc hc l h1 (by omega), if_neg (by omega), if_neg (by omega), if_neg (by omega), if_neg (by omega), if_neg (by omega), if_pos (by omega)]
   ·rw [if_neg hb, gc hc l h1 (by omega)]
    by_cases hd : r = l
    ·rw [if_pos hd, if_pos (by omega)]
    ·rw [if_neg hd, if_neg (show ¬ (l <= r /\ r < l + (n + 1)) by omega)]
     by_cases he : r + 32 = l
     ·rw [if_pos he, if_pos (by omega)]
     ·rw [if_neg he, if_neg (by omega)]
theorem CN.both (hc : CN c) : CN (lh c) := (qA 26 97 c hc (by omega) (by omega)).1
theorem vW (hc : CN c) (r : Nat) : hn (lh c) r = dH (hn c) r := by
 unfold lh dH
 rw [(qA 26 97 c hc (by omega) (by omega)).2]
 by_cases ha : 97 <= r /\ r <= 122
 ·rw [if_pos ha, if_pos (by omega)]
 ·rw [if_neg ha, if_neg (by omega)]
  by_cases hb : 65 <= r /\ r <= 90
  ·rw [if_pos hb, if_pos (by omega)]
  ·rw [if_neg hb, if_neg (by omega)]
theorem CN.sing (hc : CN c) (f : Bool) : CN (sing f c) := by
 cases f
 ·exact hc
 ·exact hc.both
def ef (f : Bool) (h : Nat -> Bool) : Nat -> Bool := if f then dH h else h
theorem rE (hc : CN c) (f : Bool) (r : Nat) : hn (sing f c) r = ef f (hn c) r := by
 cases f
 ·exact rfl
 ·exact vW hc r
theorem ph (h : Nat -> Bool) (r : Nat) : dH (dH h) r = dH h r := by
 unfold dH
 by_cases ha : 97 <= r /\ r <= 122
 ·simp only [if_pos ha]
  rw [if_neg (show ¬ (97 <= r - 32 /\ r - 32 <= 122) by omega), if_pos (show 65 <= r - 32 /\ r - 32 <= 90 by omega), show r - 32 + 32 = r by omega]
  cases h r <;> cases h (r - 32) <;> rfl
 ·simp only [if_neg ha]
  by_cases hb : 65 <= r /\ r <= 90
  ·simp only [if_pos hb]
   rw [if_pos (show 97 <= r + 32 /\ r + 32 <= 122 by omega), show r + 32 - 32 = r by omega]
   cases h r <;> cases h (r + 32) <;> rfl
  ·simp only [if_neg hb]
theorem oO (f : Bool) (h : Nat -> Bool) (r : Nat) : ef f (ef f h) r = ef f h r := by
 cases f
 ·exact rfl
 ·exact ph h r
theorem qc (f : Bool) (h k : Nat -> Bool) (r : Nat) : ef f (fun j => h j || k j) r = (ef f h r || ef f k r) := by
 cases f
 ·rfl
 ·show dH (fun j => h j || k j) r = (dH h r || dH k r)
  unfold dH
  dsimp only
  split
  ·cases h r <;> cases k r <;> cases h (r - 32) <;> cases k (r - 32) <;> rfl
  ·split
   ·cases h r <;> cases k r <;> cases h (r + 32) <;> cases k (r + 32) <;> rfl
   ·rfl
theorem jG {h k : Nat -> Bool} (e : ∀ r, h r = k r) (r : Nat) : ef f h r = ef f k r := by rw [show h = k from funext e]
def hB (bs : List Bool) (r : Nat) : Bool := bs.getD r false
def AgC (bs : List Bool) (c : Cls) : Prop := CN c /\ ∀ r, r <= 128 -> hB bs r = hn c r
def AgF (f : Bool) (bs : List Bool) (c : Cls) : Prop := CN c /\ ∀ r, r <= 128 -> ef f (hB bs) r = ef f (hn c) r
theorem iY {h k : Nat -> Bool} (e : ∀ r, r <= 128 -> h r = k r) : ∀ r, r <= 128 -> ef f h r = ef f k r := fun r hr => by
 cases f
 ·exact e r hr
 ·show dH h r = dH k r
  unfold dH
  rw [e r hr]
  split
  ·rw [e (r - 32) (by omega)]
  ·split
   ·rw [e (r + 32) (by omega)]
   ·rfl
theorem AgC.toF (h : AgC bs c) (f : Bool) : AgF f bs c := ⟨h.1, iY h.2⟩
theorem AgF.toC {bs' : List Bool} (h : AgF f bs c) (e : ∀ r, r <= 128 -> hB bs' r = ef f (hB bs) r) : AgC bs' (sing f c) := ⟨h.1.sing f, fun r hr => by rw [e r hr, h.2 r hr, rE h.1]⟩
theorem AgF.union {xs : List Bool} (h : AgF f xs c) (k : AgF f bs d) (e : ∀ r, r <= 128 -> hB cs r = (hB xs r || hB bs r)) : AgF f cs (bI c d) := ⟨h.1.with k.1, fun r hr => by
 rw [iY e r hr, qc, h.2 r hr, k.2 r hr, <- qc]
 exact (jG (nK h.1 k.1) r).symm⟩
theorem AgC.inv (h : AgC bs c) (e : ∀ r, r <= 128 -> hB cs r = !hB bs r) : AgC cs (bC c) := ⟨h.1.others, fun r hr => by rw [e r hr, h.2 r hr, mO h.1]⟩
open Go.RowKit
theorem kT (cs : List Bool) (k : Nat) (b : Bool) (hk : k < cs.length) (j : Nat) : hB (cs.set k b) j = if j = k then b else hB cs j := by
 unfold hB
 rw [List.getD_eq_getElem?_getD, List.getD_eq_getElem?_getD, List.getElem?_set]
 by_cases h : k = j
 ·subst h; simp [hk]
 ·rw [if_neg h, if_neg (fun e => h e.symm)]
theorem tN {k : Nat} {b : Bool} (h : cs[k]? = some b) : hB cs k = b := by
 unfold hB
 rw [List.getD_eq_getElem?_getD, h]
 rfl
def fb (k : Nat) (h : Nat -> Bool) (j : Nat) : Bool := if 97 <= j /\ j < k + 32 then h j || h (j - 32) else if 65 <= j /\ j < k then h j || h (j + 32) else h j
theorem pi {k : Nat} {h : Nat -> Bool} {x y : Bool} (hk : 65 <= k /\ k < 91) (hl : cs.length = 129) (hc : ∀ j, j <= 128 -> hB cs j = fb k h j) (hx : hB cs (k + 32) = x) (hy : hB cs k = y) : ∀ j, j <= 128 -> hB ((cs.set (k + 32) (x || y)).set k (x || y)) j = fb (k + 1) h j := fun j hj => by
 rw [kT _ _ _ (by rw [List.length_set]; omega), kT _ _ _ (by omega)]
 rw [hc _ (by omega)] at hx hy
 unfold fb at hx hy
 rw [if_neg (by omega), if_neg (by omega)] at hx hy
 unfold fb
 by_cases h1 : j = k
 ·subst h1
  rw [if_pos rfl, if_neg (by omega), if_pos (by omega), hx, hy, Bool.or_comm]
 ·rw [if_neg h1]
  by_cases h2 : j = k + 32
  ·subst h2
   rw [if_pos rfl, if_pos (by omega), hx, show k + 32 - 32 = k by omega, hy]
  ·rw [if_neg h2, hc j hj]
   unfold fb
   by_cases h3 : 97 <= j /\ j < k + 32
   ·rw [if_pos h3, if_pos (by omega)]
   ·rw [if_neg h3, if_neg (show ¬ (97 <= j /\ j < k + 1 + 32) by omega)]
    by_cases h4 : 65 <= j /\ j < k
    ·rw [if_pos h4, if_pos (by omega)]
    ·rw [if_neg h4, if_neg (by omega)]
theorem qY (h : Nat -> Bool) (j : Nat) : fb 91 h j = dH h j := by
 unfold fb dH
 by_cases h1 : 97 <= j /\ j <= 122
 ·rw [if_pos h1, if_pos (by omega)]
 ·rw [if_neg h1, if_neg (by omega)]
  by_cases h2 : 65 <= j /\ j <= 90
  ·rw [if_pos h2, if_pos (by omega)]
  ·rw [if_neg h2, if_neg (by omega)]
theorem oB (h : Nat -> Bool) (j : Nat) : fb 65 h j = h j := by
 unfold fb
 rw [if_neg (by omega), if_neg (by omega)]
theorem fG (bs : List Bool) (hb : bs.length = 129) {w : World} {p r : Nat} {t : ByteArray} {s : RS} {bad : Bool} {hv : Int} (h : RK w p r t s bad hv) :
  Calls Tryz.prog 224 #[.pointer (some ⟨p, 0, none⟩), .agg (sB bs).toArray] w fun e w' => ∃ cs, cs.length = 129 /\ e = .returned (.agg (sB cs).toArray) /\ Ex [] w w' /\ ∀ j, j <= 128 -> hB cs j = ef s.f (hB bs) j := by
 have HK := aa h
 have hpl0 := h.lt
 clear h
 obtain ⟨S, hS⟩ := exq (sB bs)
 have hw1 : SB (w.alloc (Obj.cells S.toArray 213)) w.heap.size bs := by rw [hS]; exact SB.new w bs hb
 rw [<- hS]
 have HW1 := aa hw1
 clear hw1 hS
 go_enter Tryz.func224, Tryz.ntmps224
 go_upto_region 1 with fail
 generalize hw2 : World.alloc _ _ = w2
 have hs2 : SB w2 w.heap.size bs := by rw [<- hw2]; exact HW1.O.ex ((Ex.refl [] _).alloc _) (by simp)
 have hr2 : SB w2 (w.heap.size + 1) noB := by
  have h9 : BK w2 (w.alloc (Obj.cells S.toArray 213)).heap.size (.cells (sB noB).toArray 213 (0, 0)) := by rw [<- hw2]; exact BK.new _ _
  rw [World.size_alloc] at h9
  exact ⟨h9, rfl⟩
 have hx2 : Ex [] w w2 := by rw [<- hw2]; exact ((Ex.refl _ _).alloc _).alloc _
 have c4 : w2.cell? ⟨p, 4, none⟩ = some (.bool s.f) := (HK.O.ex hx2 (by simp)).all.1 4
 have hpl := (HK.O.ex hx2 (by simp)).lt
 obtain ⟨f, hf⟩ := exq (s.f)
 rw [<- hf] at c4
 have HF := aa hf
 clear hw2 hf
 cases f with
 |false =>
  have HS3 := aa hs2
  have HR3 := aa hr2
  have HX3 := aa hx2
  have hb3 := hb
  obtain ⟨w3, hw3⟩ := exq (w2)
  subst hw3
  clear hs2 hr2 hx2
  obtain ⟨T, hT⟩ := exq (sB bs)
  have HI : Hid ((Tryz.prog.info? 213).map (·.size) = some T.length) := by rw [hT]; exact aC hb3
  have HI2 : Hid ((Tryz.prog.info? 213).map (·.size) = some T.toArray.size) := by rw [hT]; exact aA hb3
  have HAL : Hid (T.toArray.all (·.oneCell') = true) := by rw [hT]; exact al (ay _)
  have HT := aa hT
  have HRG : Hid (World.rangeAt w3 (w.heap.size) 0 T) := by rw [hT]; exact HS3.O.1.rangeL
  have HOLD : Hid ((sB noB).toArray.size = T.toArray.size) := by show _ = _; rw [List.size_toArray, List.size_toArray, hT, ah, ah, hb3, HR3.O.2]
  clear hT
  go_wp2_with (first
   |(refine wpList_load_mid rfl 213 _ rfl (w.heap.size) 0 rfl T _ HRG.O Tryz.underlying213 rfl HI.O ?_)
   |(refine wpList_store_row rfl 213 _ _ rfl (w.heap.size + 1) T.toArray rfl rfl 213 _ HR3.O.1 HI2.O HOLD.O HAL.O ?_))
  have hs4 : SB (w3.setRow (w.heap.size + 1) T.toArray) (w.heap.size + 1) bs := by rw [HT.O]; exact HR3.O.store hb3
  have hl4 := hs4.load
  rw [<- HT.O] at hl4
  refine bodyPost_ret (ap rfl rfl hl4) rfl ⟨_, hb3, by rw [HT.O], HX3.O.setRow (.inr (by omega)) _, fun j _ => by rw [<- HF.O]; rfl⟩
 |true =>
  have HS2 := aa hs2
  have HR2 := aa hr2
  have HX2 := aa hx2
  clear hs2 hr2 hx2
  go_wp2_with fail
  go_loopg [5, 6] 26 (fun gk i5 s6 wr => ∃ (k : Nat) (cs : List Bool), k + gk = 91 /\ 65 <= k /\ i5 = .int .i32 ((k : Int) + 32) /\ SB wr w.heap.size cs /\ SB wr (w.heap.size + 1) noB /\ Ex [] w wr /\ ∀ j, j <= 128 -> hB cs j = fb k (hB bs) j)
  case atStart => exact ⟨65, bs, by omega, by omega, rfl, HS2.O, HR2.O, HX2.O, fun j _ => (oB _ _).symm⟩
  case round =>
   obtain ⟨k, cs, hk, hk65, rfl, hs, hr, hx, hct⟩ := hrel
   have HCT := aa hct
   clear hct
   have hlt := hs.1.lt
   have hlt2 := hr.1.lt
   have hfz := hs.1.all.2
   have hb3 := hs.2
   cases gk with
   |zero =>
    have h122 : ¬ ((k : Int) + 32 <= 122) := by omega
    have HS3 := aa hs
    have HR3 := aa hr
    have HX3 := aa hx
    obtain ⟨w3, hw3⟩ := exq (wr)
    subst hw3
    clear hs hr hx
    obtain ⟨T, hT⟩ := exq (sB cs)
    have HI : Hid ((Tryz.prog.info? 213).map (·.size) = some T.length) := by rw [hT]; exact aC hb3
    have HI2 : Hid ((Tryz.prog.info? 213).map (·.size) = some T.toArray.size) := by rw [hT]; exact aA hb3
    have HAL : Hid (T.toArray.all (·.oneCell') = true) := by rw [hT]; exact al (ay _)
    have HT := aa hT
    have HRG : Hid (World.rangeAt w3 (w.heap.size) 0 T) := by rw [hT]; exact HS3.O.1.rangeL
    have HOLD : Hid ((sB noB).toArray.size = T.toArray.size) := by show _ = _; rw [List.size_toArray, List.size_toArray, hT, ah, ah, hb3, HR3.O.2]
    clear hT
    go_wp2_with (first
     |(refine wpList_load_mid rfl 213 _ rfl (w.heap.size) 0 rfl T _ HRG.O Tryz.underlying213 rfl HI.O ?_)
     |(refine wpList_store_row rfl 213 _ _ rfl (w.heap.size + 1) T.toArray rfl rfl 213 _ HR3.O.1 HI2.O HOLD.O HAL.O ?_))
    have hs4 : SB (w3.setRow (w.heap.size + 1) T.toArray) (w.heap.size + 1) cs := by rw [HT.O]; exact HR3.O.store hb3
    have hl4 := hs4.load
    rw [<- HT.O] at hl4
    refine bodyPost_ret (ap rfl rfl hl4) rfl ⟨_, hb3, by rw [HT.O], HX3.O.setRow (.inr (by omega)) _, fun j hj => by
     have hk91 : k = 91 := by omega
     rw [HCT.O j hj, hk91, <- HF.O]
     exact qY _ _⟩
   |succ g =>
    have h122 : (k : Int) + 32 <= 122 := by omega
    have hi1 : (k : Int) + 32 < 128 := by omega
    have hi2 : (k : Int) < 128 := by omega
    have hi3 : (0 : Int) <= (k : Int) + 32 := by omega
    have htn : ((k : Int) + 32).toNat = k + 32 := by omega
    have hsub : (k : Int) + 32 - 32 = (k : Int) := by omega
    obtain ⟨x, hx1, hcx⟩ := hs.cell (k + 32) (by omega)
    obtain ⟨y, hy1, hcy⟩ := hs.cell k (by omega)
    have key : ∀ b : Bool, SB ((wr.setCell ⟨w.heap.size, k + 32, none⟩ (.bool b)).setCell ⟨w.heap.size, k, none⟩ (.bool b)) w.heap.size ((cs.set (k + 32) b).set k b) /\ SB ((wr.setCell ⟨w.heap.size, k + 32, none⟩ (.bool b)).setCell ⟨w.heap.size, k, none⟩ (.bool b)) (w.heap.size + 1) noB /\ Ex [] w ((wr.setCell ⟨w.heap.size, k + 32, none⟩ (.bool b)).setCell ⟨w.heap.size, k, none⟩ (.bool b)) := fun b => ⟨(hs.set _ b).set _ b, ⟨(hr.1.set (by simp) _).set (by simp) _, hr.2⟩, (hx.setCell (.inr (by simp)) _).setCell (.inr (by simp)) _⟩
    have hcy2 : ∀ b : Bool, ∃ z, (wr.setCell ⟨w.heap.size, k + 32, none⟩ (.bool b)).cell? ⟨w.heap.size, k, none⟩ = some (.bool z) := fun b => by
     obtain ⟨z, _, hz⟩ := (hs.set (k + 32) b).cell k (by omega)
     exact ⟨z, hz⟩
    have KEY := aa key
    have HCT2 := aa (pi ⟨hk65, by omega⟩ hb3 HCT.O (tN hx1) (tN hy1))
    clear hs hr hx hx1 hy1 key
    cases x
    case false =>
     cases y
     all_goals
      go_wp2_with fail
      go_roundg g
      case measure => omega
      case rel => exact ⟨k + 1, _, by omega, by omega, by simp; omega, (KEY.O _).1, (KEY.O _).2.1, (KEY.O _).2.2, HCT2.O⟩
    case true =>
     go_wp2_with fail
     go_roundg g
     case measure => omega
     case rel => exact ⟨k + 1, _, by omega, by omega, by simp; omega, (KEY.O _).1, (KEY.O _).2.1, (KEY.O _).2.2, HCT2.O⟩
end Go.Proofs.YtfnanjbleifjkaaGreatDoor.G
