/- A1 JP1, one behind the other. -/
import Derived.Test.YtmeffeigamaipaaDoorM05
set_option linter.unusedVariables false
set_option linter.unusedSimpArgs false
/- What a pattern matches: expressions, what is still to be matched, and the first way in their order. -/
namespace Go.Proofs.YtmeffeigamaipaaDoor.G

inductive Xp where
  | emp
  | set (c : Cls)
  | cat (a b : Xp)
  | alt (a b : Xp)
  | star (a : Xp) (z : Bool)
  | may (a : Xp) (z : Bool)
  | grp (a : Xp) (n : Nat)
def Xp.sz : Xp → Nat
  | .emp => 1
  | .set _ => 1
  | .cat a b => a.sz + b.sz + 1
  | .alt a b => a.sz + b.sz + 1
  | .star a _ => a.sz + 3
  | .may a _ => a.sz + 1
  | .grp a _ => a.sz + 3
inductive Tk where
  | ex (x : Xp)
  | gend (n : Nat)
  | rend (x : Xp) (z : Bool) (fresh : Bool)
def Tk.sz : Tk → Nat
  | .ex x => x.sz
  | .gend _ => 1
  | .rend x _ true => 1
  | .rend x _ false => x.sz + 3
def ksz : List Tk → Nat
  | [] => 0
  | t :: k => t.sz + ksz k
def Tk.old : Tk → Tk
  | .rend x z _ => .rend x z false
  | t => t
def oldK (k : List Tk) : List Tk := k.map Tk.old
theorem old_old (t : Tk) : t.old.old = t.old := by cases t <;> rfl
theorem oldK_old (k : List Tk) : oldK (oldK k) = oldK k := by simp [oldK, List.map_map, Function.comp_def, old_old]
abbrev Mk := List (Nat × Nat)
def either (z : Bool) (a b : Option Mk) : Option Mk := if z then b.or a else a.or b
def beg (n : Nat) : Nat := 2 * (n - 1)
def ev (l : List (Nat × Nat)) (pl : Nat) (k : List Tk) : Option Mk :=
  match k with
  | [] => if l.isEmpty then some [] else none
  | .gend n :: k => (ev l pl k).map ((beg n + 1, pl) :: ·)
  | .rend x z true :: k => none
  | .rend x z false :: k => either z (ev l pl (.ex x :: .rend x z true :: k)) (ev l pl k)
  | .ex .emp :: k => ev l pl k
  | .ex (.set c) :: k => match l with
    | [] => none
    | (r, p) :: l => if hasC c r then ev l p (oldK k) else none
  | .ex (.cat a b) :: k => ev l pl (.ex a :: .ex b :: k)
  | .ex (.alt a b) :: k => (ev l pl (.ex a :: k)).or (ev l pl (.ex b :: k))
  | .ex (.star a z) :: k => either z (ev l pl (.ex a :: .rend a z true :: k)) (ev l pl k)
  | .ex (.may a z) :: k => either z (ev l pl (.ex a :: k)) (ev l pl k)
  | .ex (.grp a n) :: k => (ev l pl (.ex a :: .gend n :: k)).map ((beg n, pl) :: ·)
termination_by (l.length, ksz k)
decreasing_by
  all_goals simp_wf
  all_goals first
    | (apply Prod.Lex.left; simp; done)
    | (apply Prod.Lex.right; simp [ksz, Tk.sz, Xp.sz]; try omega)

theorem ev_nil (l : List (Nat × Nat)) (pl : Nat) : ev l pl [] = if l.isEmpty then some [] else none := by rw [ev]
theorem ev_gend (l : List (Nat × Nat)) (pl n : Nat) (k : List Tk) : ev l pl (.gend n :: k) = (ev l pl k).map ((beg n + 1, pl) :: ·) := by rw [ev]
theorem ev_fresh (l : List (Nat × Nat)) (pl : Nat) (x : Xp) (z : Bool) (k : List Tk) : ev l pl (.rend x z true :: k) = none := by rw [ev]
theorem ev_round (l : List (Nat × Nat)) (pl : Nat) (x : Xp) (z : Bool) (k : List Tk) : ev l pl (.rend x z false :: k) = either z (ev l pl (.ex x :: .rend x z true :: k)) (ev l pl k) := by rw [ev]
theorem ev_emp (l : List (Nat × Nat)) (pl : Nat) (k : List Tk) : ev l pl (.ex .emp :: k) = ev l pl k := by rw [ev]
theorem ev_set0 (pl : Nat) (c : Cls) (k : List Tk) : ev [] pl (.ex (.set c) :: k) = none := by rw [ev]
theorem ev_set (r p : Nat) (l : List (Nat × Nat)) (pl : Nat) (c : Cls) (k : List Tk) : ev ((r, p) :: l) pl (.ex (.set c) :: k) = if hasC c r then ev l p (oldK k) else none := by rw [ev]
theorem ev_cat (l : List (Nat × Nat)) (pl : Nat) (a b : Xp) (k : List Tk) : ev l pl (.ex (.cat a b) :: k) = ev l pl (.ex a :: .ex b :: k) := by rw [ev]
theorem ev_alt (l : List (Nat × Nat)) (pl : Nat) (a b : Xp) (k : List Tk) : ev l pl (.ex (.alt a b) :: k) = (ev l pl (.ex a :: k)).or (ev l pl (.ex b :: k)) := by rw [ev]
theorem ev_star (l : List (Nat × Nat)) (pl : Nat) (a : Xp) (z : Bool) (k : List Tk) : ev l pl (.ex (.star a z) :: k) = either z (ev l pl (.ex a :: .rend a z true :: k)) (ev l pl k) := by rw [ev]
theorem ev_may (l : List (Nat × Nat)) (pl : Nat) (a : Xp) (z : Bool) (k : List Tk) : ev l pl (.ex (.may a z) :: k) = either z (ev l pl (.ex a :: k)) (ev l pl k) := by rw [ev]
theorem ev_grp (l : List (Nat × Nat)) (pl : Nat) (a : Xp) (n : Nat) (k : List Tk) : ev l pl (.ex (.grp a n) :: k) = (ev l pl (.ex a :: .gend n :: k)).map ((beg n, pl) :: ·) := by rw [ev]

inductive Eqv : List Tk → List Tk → Prop
  | refl (k) : Eqv k k
  | fresh {x z k k'} : oldK k = oldK k' → Eqv (.rend x z true :: k) (.rend x z true :: k')
  | ex {x k k'} : Eqv k k' → Eqv (.ex x :: k) (.ex x :: k')
  | gend {n k k'} : Eqv k k' → Eqv (.gend n :: k) (.gend n :: k')
theorem Eqv.old {k k' : List Tk} (h : Eqv k k') : oldK k = oldK k' := by
  induction h with
  | refl k => rfl
  | fresh h => simp only [oldK, List.map_cons] at h ⊢; rw [h]
  | ex _ ih => simp only [oldK, List.map_cons] at ih ⊢; rw [ih]
  | gend _ ih => simp only [oldK, List.map_cons] at ih ⊢; rw [ih]
theorem Eqv.ev : ∀ (n : Nat) {l : List (Nat × Nat)} {pl : Nat} {k k' : List Tk}, ksz k ≤ n → Eqv k k' → ev l pl k = ev l pl k' := by
  intro n
  induction n with
  | zero =>
    intro l pl k k' hn h
    cases h with
    | refl => rfl
    | fresh h => simp [ksz, Tk.sz] at hn
    | @ex x k k' h => cases x <;> simp [ksz, Tk.sz, Xp.sz] at hn
    | gend h => simp [ksz, Tk.sz] at hn
  | succ n ih =>
    intro l pl k k' hn h
    cases h with
    | refl => rfl
    | fresh h => rw [ev_fresh, ev_fresh]
    | gend h => rw [ev_gend, ev_gend, ih (by simp [ksz, Tk.sz] at hn; omega) h]
    | @ex x k k' h =>
      cases x with
      | emp => rw [ev_emp, ev_emp]; exact ih (by simp [ksz, Tk.sz, Xp.sz] at hn; omega) h
      | set c =>
        cases l with
        | nil => rw [ev_set0, ev_set0]
        | cons r l => obtain ⟨r, p⟩ := r; rw [ev_set, ev_set, h.old]
      | cat a b => rw [ev_cat, ev_cat]; exact ih (by simp [ksz, Tk.sz, Xp.sz] at hn ⊢; omega) (.ex (.ex h))
      | alt a b => rw [ev_alt, ev_alt, ih (by simp [ksz, Tk.sz, Xp.sz] at hn ⊢; omega) (Eqv.ex (x := a) h), ih (by simp [ksz, Tk.sz, Xp.sz] at hn ⊢; omega) (Eqv.ex (x := b) h)]
      | star a z => rw [ev_star, ev_star, ih (by simp [ksz, Tk.sz, Xp.sz] at hn ⊢; omega) (Eqv.ex (x := a) (.fresh h.old)), ih (by simp [ksz, Tk.sz, Xp.sz] at hn ⊢; omega) h]
      | may a z => rw [ev_may, ev_may, ih (by simp [ksz, Tk.sz, Xp.sz] at hn ⊢; omega) (Eqv.ex (x := a) h), ih (by simp [ksz, Tk.sz, Xp.sz] at hn ⊢; omega) h]
      | grp a m => rw [ev_grp, ev_grp, ih (by simp [ksz, Tk.sz, Xp.sz] at hn ⊢; omega) (Eqv.ex (x := a) (.gend h))]
theorem Eqv.eq {l : List (Nat × Nat)} {pl : Nat} {k k' : List Tk} (h : Eqv k k') : G.ev l pl k = G.ev l pl k' := Eqv.ev _ (Nat.le_refl _) h

def upX (x : Xp) (z : Bool) : Nat → Xp → Xp
  | 0, o => o
  | n + 1, o => upX x z n (.may (.cat x o) z)
def catX (x : Xp) : Nat → Xp → Xp
  | 0, o => o
  | n + 1, o => catX x n (.cat x o)
def roundsX (x : Xp) (le : Nat) (mo : Int) (z : Bool) : Xp := catX x le (if mo < 0 then .star x z else upX x z (mo - le).toNat .emp)
mutual
def den : Pt → Xp
  | .single c => .set c
  | .seq l => denS l .emp
  | .alt l => denA l
  | .wrap p g => if g = 0 then den p else .grp (den p) g
  | .count p le mo z => roundsX (den p) le mo z
def denS : List Pt → Xp → Xp
  | [], x => x
  | p :: l, x => denS l (.cat x (den p))
def denA : List Pt → Xp
  | [] => .emp
  | p :: l => denB l (den p)
def denB : List Pt → Xp → Xp
  | [], x => x
  | p :: l, x => denB l (.alt x (den p))
end
end Go.Proofs.YtmeffeigamaipaaDoor.G

/- Which strings an expression matches, said without an order of ways. -/
namespace Go.Proofs.YtmeffeigamaipaaDoor.G

inductive Sr (P : List Nat → Prop) : List Nat → Prop
  | nil : Sr P []
  | cons {a b : List Nat} : a ≠ [] → P a → Sr P b → Sr P (a ++ b)
def Lg : Xp → List Nat → Prop
  | .emp => fun l => l = []
  | .set c => fun l => ∃ r, l = [r] ∧ hasC c r = true
  | .cat a b => fun l => ∃ l1 l2, l = l1 ++ l2 ∧ Lg a l1 ∧ Lg b l2
  | .alt a b => fun l => Lg a l ∨ Lg b l
  | .star a _ => Sr (Lg a)
  | .may a _ => fun l => l = [] ∨ Lg a l
  | .grp a _ => Lg a
def bhd (k : List Tk) (l : List Nat) : List Tk := match l with
  | [] => k
  | _ :: _ => oldK k
def LK : Nat → List Tk → List Nat → Prop
  | 0, _ => fun l => l = []
  | n + 1, [] => fun l => l = []
  | n + 1, .ex x :: k => fun l => ∃ l1 l2, l = l1 ++ l2 ∧ Lg x l1 ∧ LK n (bhd k l1) l2
  | n + 1, .gend _ :: k => LK n k
  | n + 1, .rend x z true :: k => fun _ => False
  | n + 1, .rend x z false :: k => fun l => ∃ l1 l2, l = l1 ++ l2 ∧ Sr (Lg x) l1 ∧ LK n (bhd k l1) l2
theorem bhd_len (k : List Tk) (l : List Nat) : (bhd k l).length = k.length := by cases l <;> simp [bhd, oldK]
theorem bhd_app (k : List Tk) (a b : List Nat) : bhd k (a ++ b) = bhd (bhd k a) b := by
  cases a <;> cases b <;> simp [bhd, oldK_old]
theorem bhd_ex (x : Xp) (k : List Tk) (a : List Nat) : bhd (.ex x :: k) a = .ex x :: bhd k a := by cases a <;> simp [bhd, oldK, Tk.old]
def LL (k : List Tk) (l : List Nat) : Prop := LK k.length k l
theorem LL_nil (l : List Nat) : LL [] l ↔ l = [] := by simp [LL, LK]
theorem LL_ex (x : Xp) (k : List Tk) (l : List Nat) : LL (.ex x :: k) l ↔ ∃ l1 l2, l = l1 ++ l2 ∧ Lg x l1 ∧ LL (bhd k l1) l2 := by
  simp only [LL, List.length_cons, LK, bhd_len]
theorem LL_gend (n : Nat) (k : List Tk) (l : List Nat) : LL (.gend n :: k) l ↔ LL k l := by simp only [LL, List.length_cons, LK]
theorem LL_fresh (x : Xp) (z : Bool) (k : List Tk) (l : List Nat) : ¬ LL (.rend x z true :: k) l := by simp [LL, LK]
theorem LL_rend (x : Xp) (z : Bool) (k : List Tk) (l : List Nat) : LL (.rend x z false :: k) l ↔ ∃ l1 l2, l = l1 ++ l2 ∧ Sr (Lg x) l1 ∧ LL (bhd k l1) l2 := by
  simp only [LL, List.length_cons, LK, bhd_len]
theorem LL_emp (k : List Tk) (l : List Nat) : LL (.ex .emp :: k) l ↔ LL k l := by
  rw [LL_ex]
  constructor
  · rintro ⟨l1, l2, rfl, h, h2⟩; obtain rfl : l1 = [] := h; simpa [bhd] using h2
  · intro h; exact ⟨[], l, rfl, rfl, h⟩
theorem LL_set0 (c : Cls) (k : List Tk) : ¬ LL (.ex (.set c) :: k) [] := by
  rw [LL_ex]
  rintro ⟨l1, l2, h, ⟨r, rfl, _⟩, _⟩
  simp at h
theorem LL_set (c : Cls) (k : List Tk) (r : Nat) (l : List Nat) : LL (.ex (.set c) :: k) (r :: l) ↔ hasC c r = true ∧ LL (oldK k) l := by
  rw [LL_ex]
  constructor
  · rintro ⟨l1, l2, h, ⟨r', rfl, hr⟩, h2⟩
    simp only [List.cons_append, List.nil_append, List.cons.injEq] at h
    obtain ⟨rfl, rfl⟩ := h
    exact ⟨hr, h2⟩
  · rintro ⟨hr, h2⟩; exact ⟨[r], l, rfl, ⟨r, rfl, hr⟩, h2⟩
theorem LL_cat (a b : Xp) (k : List Tk) (l : List Nat) : LL (.ex (.cat a b) :: k) l ↔ LL (.ex a :: .ex b :: k) l := by
  rw [LL_ex, LL_ex]
  constructor
  · rintro ⟨l1, l2, rfl, ⟨m1, m2, rfl, ha, hb⟩, h⟩
    refine ⟨m1, m2 ++ l2, by simp, ha, ?_⟩
    rw [bhd_ex, LL_ex]
    exact ⟨m2, l2, rfl, hb, by rw [← bhd_app]; exact h⟩
  · rintro ⟨m1, r, rfl, ha, h⟩
    rw [bhd_ex, LL_ex] at h
    obtain ⟨m2, l2, rfl, hb, h⟩ := h
    exact ⟨m1 ++ m2, l2, by simp, ⟨m1, m2, rfl, ha, hb⟩, by rw [bhd_app]; exact h⟩
theorem LL_alt (a b : Xp) (k : List Tk) (l : List Nat) : LL (.ex (.alt a b) :: k) l ↔ LL (.ex a :: k) l ∨ LL (.ex b :: k) l := by
  rw [LL_ex, LL_ex, LL_ex]
  constructor
  · rintro ⟨l1, l2, rfl, ha | hb, h⟩
    · exact .inl ⟨l1, l2, rfl, ha, h⟩
    · exact .inr ⟨l1, l2, rfl, hb, h⟩
  · rintro (⟨l1, l2, rfl, ha, h⟩ | ⟨l1, l2, rfl, ha, h⟩)
    · exact ⟨l1, l2, rfl, .inl ha, h⟩
    · exact ⟨l1, l2, rfl, .inr ha, h⟩
theorem LL_rounds (a : Xp) (z : Bool) (k : List Tk) (l : List Nat) : (∃ l1 l2, l = l1 ++ l2 ∧ Sr (Lg a) l1 ∧ LL (bhd k l1) l2) ↔ LL (.ex a :: .rend a z true :: k) l ∨ LL k l := by
  rw [LL_ex]
  constructor
  · rintro ⟨l1, l2, rfl, h, h2⟩
    cases h with
    | nil => exact .inr h2
    | @cons x y hx ha hy =>
      refine .inl ⟨x, y ++ l2, by simp, ha, ?_⟩
      have e : bhd (.rend a z true :: k) x = .rend a z false :: bhd k x := by
        cases x with
        | nil => exact absurd rfl hx
        | cons c x => simp [bhd, oldK, Tk.old]
      rw [e, LL_rend]
      exact ⟨y, l2, rfl, hy, by rw [← bhd_app]; exact h2⟩
  · rintro (⟨x, r, rfl, ha, h⟩ | h)
    · cases x with
      | nil => exact absurd h (LL_fresh _ _ _ _)
      | cons c x =>
        have e : bhd (.rend a z true :: k) (c :: x) = .rend a z false :: bhd k (c :: x) := by simp [bhd, oldK, Tk.old]
        rw [e, LL_rend] at h
        obtain ⟨y, l2, rfl, hy, h⟩ := h
        exact ⟨(c :: x) ++ y, l2, by simp, .cons (by simp) ha hy, by rw [bhd_app]; exact h⟩
    · exact ⟨[], l, rfl, .nil, h⟩
theorem LL_star (a : Xp) (z : Bool) (k : List Tk) (l : List Nat) : LL (.ex (.star a z) :: k) l ↔ LL (.ex a :: .rend a z true :: k) l ∨ LL k l := by
  rw [LL_ex]; exact LL_rounds a z k l
theorem LL_round (a : Xp) (z : Bool) (k : List Tk) (l : List Nat) : LL (.rend a z false :: k) l ↔ LL (.ex a :: .rend a z true :: k) l ∨ LL k l := by
  rw [LL_rend]; exact LL_rounds a z k l
theorem LL_may (a : Xp) (z : Bool) (k : List Tk) (l : List Nat) : LL (.ex (.may a z) :: k) l ↔ LL (.ex a :: k) l ∨ LL k l := by
  rw [LL_ex, LL_ex]
  constructor
  · rintro ⟨l1, l2, rfl, rfl | ha, h⟩
    · exact .inr h
    · exact .inl ⟨l1, l2, rfl, ha, h⟩
  · rintro (⟨l1, l2, rfl, ha, h⟩ | h)
    · exact ⟨l1, l2, rfl, .inr ha, h⟩
    · exact ⟨[], l, rfl, .inl rfl, h⟩
theorem LL_grp (a : Xp) (n : Nat) (k : List Tk) (l : List Nat) : LL (.ex (.grp a n) :: k) l ↔ LL (.ex a :: .gend n :: k) l := by
  rw [LL_ex, LL_ex]
  constructor
  · rintro ⟨l1, l2, rfl, ha, h⟩
    refine ⟨l1, l2, rfl, ha, ?_⟩
    have e : bhd (.gend n :: k) l1 = .gend n :: bhd k l1 := by cases l1 <;> simp [bhd, oldK, Tk.old]
    rw [e, LL_gend]; exact h
  · rintro ⟨l1, l2, rfl, ha, h⟩
    have e : bhd (.gend n :: k) l1 = .gend n :: bhd k l1 := by cases l1 <;> simp [bhd, oldK, Tk.old]
    rw [e, LL_gend] at h
    exact ⟨l1, l2, rfl, ha, h⟩
theorem isSome_either (z : Bool) (a b : Option Mk) : (either z a b).isSome = (a.isSome || b.isSome) := by
  cases z <;> cases a <;> cases b <;> rfl
theorem isSome_or (a b : Option Mk) : (a.or b).isSome = (a.isSome || b.isSome) := by cases a <;> cases b <;> rfl
theorem isSome_map (f : Mk → Mk) (a : Option Mk) : (a.map f).isSome = a.isSome := by cases a <;> rfl
theorem ev_lang : ∀ (n : Nat) (l : List (Nat × Nat)), l.length ≤ n → ∀ (m : Nat) (k : List Tk), ksz k ≤ m → ∀ (pl : Nat), (ev l pl k).isSome = true ↔ LL k (l.map Prod.fst) := by
  intro n
  induction n with
  | zero =>
    intro l hl
    obtain rfl : l = [] := by cases l with
      | nil => rfl
      | cons _ _ => simp at hl
    intro m
    induction m with
    | zero =>
      intro k hk pl
      cases k with
      | nil => rw [ev_nil, LL_nil]; simp
      | cons t k =>
        cases t with
        | ex x => cases x <;> simp [ksz, Tk.sz, Xp.sz] at hk
        | gend n => simp [ksz, Tk.sz] at hk
        | rend x z f => cases f <;> simp [ksz, Tk.sz] at hk
    | succ m ih =>
      intro k hk pl
      cases k with
      | nil => rw [ev_nil, LL_nil]; simp
      | cons t k =>
        cases t with
        | gend j => rw [ev_gend, LL_gend, isSome_map]; exact ih k (by simp [ksz, Tk.sz] at hk; omega) pl
        | rend x z f =>
          cases f with
          | true => rw [ev_fresh]; simp [LL_fresh]
          | false =>
            rw [ev_round, LL_round, isSome_either, Bool.or_eq_true, ih (.ex x :: .rend x z true :: k) (by simp [ksz, Tk.sz] at hk ⊢; omega) pl, ih k (by simp [ksz, Tk.sz] at hk; omega) pl]
        | ex x =>
          cases x with
          | emp => rw [ev_emp, LL_emp]; exact ih k (by simp [ksz, Tk.sz, Xp.sz] at hk; omega) pl
          | set c => rw [ev_set0]; simp [LL_set0]
          | cat a b => rw [ev_cat, LL_cat]; exact ih _ (by simp [ksz, Tk.sz, Xp.sz] at hk ⊢; omega) pl
          | alt a b => rw [ev_alt, LL_alt, isSome_or, Bool.or_eq_true, ih (.ex a :: k) (by simp [ksz, Tk.sz, Xp.sz] at hk ⊢; omega) pl, ih (.ex b :: k) (by simp [ksz, Tk.sz, Xp.sz] at hk ⊢; omega) pl]
          | star a z => rw [ev_star, LL_star, isSome_either, Bool.or_eq_true, ih (.ex a :: .rend a z true :: k) (by simp [ksz, Tk.sz, Xp.sz] at hk ⊢; omega) pl, ih k (by simp [ksz, Tk.sz, Xp.sz] at hk; omega) pl]
          | may a z => rw [ev_may, LL_may, isSome_either, Bool.or_eq_true, ih (.ex a :: k) (by simp [ksz, Tk.sz, Xp.sz] at hk ⊢; omega) pl, ih k (by simp [ksz, Tk.sz, Xp.sz] at hk; omega) pl]
          | grp a j => rw [ev_grp, LL_grp, isSome_map]; exact ih _ (by simp [ksz, Tk.sz, Xp.sz] at hk ⊢; omega) pl
  | succ n ihn =>
    intro l hl m
    induction m with
    | zero =>
      intro k hk pl
      cases k with
      | nil => rw [ev_nil, LL_nil]; cases l <;> simp
      | cons t k =>
        cases t with
        | ex x => cases x <;> simp [ksz, Tk.sz, Xp.sz] at hk
        | gend n => simp [ksz, Tk.sz] at hk
        | rend x z f => cases f <;> simp [ksz, Tk.sz] at hk
    | succ m ih =>
      intro k hk pl
      cases k with
      | nil => rw [ev_nil, LL_nil]; cases l <;> simp
      | cons t k =>
        cases t with
        | gend j => rw [ev_gend, LL_gend, isSome_map]; exact ih k (by simp [ksz, Tk.sz] at hk; omega) pl
        | rend x z f =>
          cases f with
          | true => rw [ev_fresh]; simp [LL_fresh]
          | false =>
            rw [ev_round, LL_round, isSome_either, Bool.or_eq_true, ih (.ex x :: .rend x z true :: k) (by simp [ksz, Tk.sz] at hk ⊢; omega) pl, ih k (by simp [ksz, Tk.sz] at hk; omega) pl]
        | ex x =>
          cases x with
          | emp => rw [ev_emp, LL_emp]; exact ih k (by simp [ksz, Tk.sz, Xp.sz] at hk; omega) pl
          | set c =>
            cases l with
            | nil => rw [ev_set0]; simp [LL_set0]
            | cons r l =>
              obtain ⟨r, p⟩ := r
              rw [ev_set, List.map_cons, LL_set]
              cases hc : hasC c r with
              | false => simp
              | true =>
                rw [if_pos rfl]
                simp only [true_and]
                exact ihn l (by simpa using hl) _ _ (Nat.le_refl _) p
          | cat a b => rw [ev_cat, LL_cat]; exact ih _ (by simp [ksz, Tk.sz, Xp.sz] at hk ⊢; omega) pl
          | alt a b => rw [ev_alt, LL_alt, isSome_or, Bool.or_eq_true, ih (.ex a :: k) (by simp [ksz, Tk.sz, Xp.sz] at hk ⊢; omega) pl, ih (.ex b :: k) (by simp [ksz, Tk.sz, Xp.sz] at hk ⊢; omega) pl]
          | star a z => rw [ev_star, LL_star, isSome_either, Bool.or_eq_true, ih (.ex a :: .rend a z true :: k) (by simp [ksz, Tk.sz, Xp.sz] at hk ⊢; omega) pl, ih k (by simp [ksz, Tk.sz, Xp.sz] at hk; omega) pl]
          | may a z => rw [ev_may, LL_may, isSome_either, Bool.or_eq_true, ih (.ex a :: k) (by simp [ksz, Tk.sz, Xp.sz] at hk ⊢; omega) pl, ih k (by simp [ksz, Tk.sz, Xp.sz] at hk; omega) pl]
          | grp a j => rw [ev_grp, LL_grp, isSome_map]; exact ih _ (by simp [ksz, Tk.sz, Xp.sz] at hk ⊢; omega) pl
theorem ev_Lg (x : Xp) (l : List (Nat × Nat)) (pl : Nat) : (ev l pl [.ex x]).isSome = true ↔ Lg x (l.map Prod.fst) := by
  rw [ev_lang _ l (Nat.le_refl _) _ _ (Nat.le_refl _) pl, LL_ex]
  constructor
  · rintro ⟨l1, l2, e, h, h2⟩
    have : bhd [] l1 = [] := by cases l1 <;> rfl
    rw [this, LL_nil] at h2
    subst h2
    rw [e, List.append_nil]; exact h
  · intro h
    refine ⟨_, [], (List.append_nil _).symm, h, ?_⟩
    have : bhd [] (l.map Prod.fst) = [] := by cases (l.map Prod.fst) <;> rfl
    rw [this, LL_nil]
end Go.Proofs.YtmeffeigamaipaaDoor.G
