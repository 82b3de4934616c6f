/- The ways of a program, and the ways of the expression that it was made of. -/
import Derived.Test.YtmeffeigamaipaaDoorM29
import Derived.Test.YtmeffeigamaipaaDoorM31
import Derived.Test.YtmeffeigamaipaaDoorM32
set_option linter.unusedVariables false
set_option linter.unusedSimpArgs false
namespace Go.Proofs.YtmeffeigamaipaaDoor.G

inductive Sg (code : List Ins) : Option Nat → Nat → Xp → Nat → Prop
  | emp (pc) : Sg code none pc .emp pc
  | set {pc c} : code[pc]? = some (takeI c) → Sg code none pc (.set c) (pc + 1)
  | cat {pc a p1 b q} : Sg code none pc a p1 → Sg code none p1 b q → Sg code none pc (.cat a b) q
  | alt {pc a q b e} : Sg code (some e) pc a q → Sg code none q b e → Sg code none pc (.alt a b) e
  | star {pc a z p1} : code[pc]? = some (splitI z (pc + 1) (p1 + 2)) → code[pc + 1]? = some (bare 4) → Sg code none (pc + 2) a p1 → code[p1]? = some (bare 5) → code[p1 + 1]? = some (jumpTo pc) → Sg code none pc (.star a z) (p1 + 2)
  | may {pc a z e} : code[pc]? = some (splitI z (pc + 1) e) → Sg code none (pc + 1) a e → Sg code none pc (.may a z) e
  | grp {pc a n p1} : code[pc]? = some (noteI (2 * (n - 1))) → Sg code none (pc + 1) a p1 → code[p1]? = some (noteI (2 * (n - 1) + 1)) → Sg code none pc (.grp a n) (p1 + 1)
  | one {e pc a p1} : code[pc]? = some (splitI false (pc + 1) (p1 + 1)) → Sg code none (pc + 1) a p1 → code[p1]? = some (jumpTo e) → Sg code (some e) pc a (p1 + 1)
  | two {e pc a q b q'} : Sg code (some e) pc a q → Sg code (some e) q b q' → Sg code (some e) pc (.alt a b) q'

def Lies (code : List Ins) (n : Nat) (c : List Ins) : Prop := ∀ j, j < c.length → code[n + j]? = c[j]?
theorem Lies.left {code : List Ins} {n : Nat} {a b : List Ins} (h : Lies code n (a ++ b)) : Lies code n a := fun j hj => by
  rw [h j (by rw [List.length_append]; omega), List.getElem?_append_left hj]
theorem Lies.right {code : List Ins} {n : Nat} {a b : List Ins} (h : Lies code n (a ++ b)) {m : Nat} (hm : a.length = m) : Lies code (n + m) b := fun j hj => by
  subst hm
  rw [Nat.add_assoc, h (a.length + j) (by rw [List.length_append]; omega), List.getElem?_append_right (by omega)]
  congr 1
  omega
theorem Lies.head {code : List Ins} {n : Nat} {i : Ins} {r : List Ins} (h : Lies code n (i :: r)) : code[n]? = some i := by
  have := h 0 (by simp)
  simpa using this
theorem Lies.tail {code : List Ins} {n : Nat} {i : Ins} {r : List Ins} (h : Lies code n (i :: r)) : Lies code (n + 1) r := Lies.right (a := [i]) h rfl

theorem sg_ups {code : List Ins} {f : Nat → List Ins} {x : Xp} {z : Bool} {s e : Nat} (hf : ∀ n, (f n).length = s) (hs : ∀ n, Lies code n (f n) → Sg code none n x (n + s)) (o : Xp) (ho : Sg code none e o e) : ∀ (m n : Nat), n + (s + 1) * m = e → Lies code n (cdeF f z s e m n) → Sg code none n (upX x z m o) e := by
  intro m
  induction m with
  | zero =>
    intro n he hl
    have : n = e := by simpa using he
    subst this
    exact ho
  | succ m ih =>
    intro n he hl
    rw [upX_succ]
    rw [cdeF] at hl
    rw [Nat.mul_succ] at he
    exact .may hl.head (.cat (hs _ hl.tail.left) (ih _ (by omega) (hl.tail.right (hf _))))
theorem sg_cats {code : List Ins} {f : Nat → List Ins} {x : Xp} {s q : Nat} (hf : ∀ n, (f n).length = s) (hs : ∀ n, Lies code n (f n) → Sg code none n x (n + s)) (o : Xp) : ∀ (m n : Nat), Sg code none (n + s * m) o q → Lies code n (cdeI f s m n) → Sg code none n (catX x m o) q := by
  intro m
  induction m with
  | zero => intro n ho hl; exact ho
  | succ m ih =>
    intro n ho hl
    rw [catX_succ]
    rw [cdeI] at hl
    rw [Nat.mul_succ] at ho
    exact .cat (hs _ hl.left) (ih _ (by rw [show n + s + s * m = n + (s * m + s) by omega]; exact ho) (hl.right (hf _)))
mutual
theorem sg_cde {code : List Ins} : ∀ (p : Pt), POK p → ∀ n, Lies code n (cde p n) → Sg code none n (den p) (n + isz p)
  | .single c, _, n, h => by rw [cde] at h; exact .set h.head
  | .seq l, hp, n, h => by
    rw [cde] at h
    rw [den, isz]
    exact sg_cdeS l hp n n .emp (.emp n) h
  | .alt l, hp, n, h => by
    rw [cde] at h
    rw [den]
    exact sg_cdeA l hp.1 n _ (by rw [isz]) h
  | .wrap p g, hp, n, h => by
    rw [cde] at h
    rw [den, isz]
    split
    · next hg => rw [if_pos hg] at h; exact sg_cde p hp.1 n h
    · next hg =>
      rw [if_neg hg] at h
      have h1 := sg_cde p hp.1 _ h.tail.left
      have h2 := (h.tail.right (cde_len p _)).head
      rw [show n + (isz p + 2) = n + 1 + isz p + 1 by omega]
      exact .grp h.head h1 h2
  | .count p le mo z, hp, n, h => by
    rw [cde] at h
    rw [den, isz]
    unfold roundsX
    have hs : ∀ n, Lies code n (cde p n) → Sg code none n (den p) (n + isz p) := sg_cde p hp.1
    by_cases hm : mo = -1
    · rw [if_pos hm] at h
      rw [if_pos hm, if_pos (by omega)]
      refine sg_cats (cde_len p) hs _ _ _ ?_ h.left
      have h1 := h.right (cdeI_len _ _ (cde_len p) _ _)
      have h2 := hs _ h1.tail.tail.left
      have h3 := h1.tail.tail.right (cde_len p _)
      have h4 := Sg.star (z := z) (pc := n + isz p * le) (p1 := n + isz p * le + 2 + isz p) (by rw [h1.head]; congr 2; omega) h1.tail.head h2 h3.head h3.tail.head
      rw [show n + (isz p * le + (isz p + 4)) = n + isz p * le + 2 + isz p + 2 by omega]
      exact h4
    · rw [if_neg hm] at h
      rw [if_neg hm]
      have hmo : ¬ mo < 0 := by have c := hp.2.2.2; dsimp only at c; omega
      rw [if_neg hmo]
      refine sg_cats (cde_len p) hs _ _ _ ?_ h.left
      rw [← Nat.add_assoc]
      exact sg_ups (cde_len p) hs _ (.emp _) _ _ rfl (h.right (cdeI_len _ _ (cde_len p) _ _))
theorem sg_cdeS {code : List Ins} : ∀ (l : List Pt), POKL l → ∀ (pc n : Nat) (x : Xp), Sg code none pc x n → Lies code n (cdeS l n) → Sg code none pc (denS l x) (n + iszL l)
  | [], _, pc, n, x, hx, h => by rw [denS]; exact hx
  | p :: l, hp, pc, n, x, hx, h => by
    rw [cdeS] at h
    rw [denS, iszL, ← Nat.add_assoc]
    exact sg_cdeS l hp.2 pc _ _ (.cat hx (sg_cde p hp.1 n h.left)) (h.right (cde_len p _))
theorem sg_cdeA {code : List Ins} : ∀ (l : List Pt), POKL l → ∀ (n e : Nat), n + (iszL l + 2 * (l.length - 1)) = e → Lies code n (cdeA l n e) → Sg code none n (denA l) e
  | [], hp, n, e, he, h => by
    rw [denA]
    simp [iszL] at he
    rw [← he]; exact .emp n
  | [p], hp, n, e, he, h => by
    rw [cdeA] at h
    rw [denA, denB]
    have := sg_cde p hp.1 n h
    simp [iszL] at he
    rw [← he]; exact this
  | p :: q :: l, hp, n, e, he, h => by
    rw [cdeA] at h
    rw [denA]
    have h1 := sg_cde p hp.1 _ h.tail.left
    have h2 := h.tail.right (cde_len p _)
    have h3 : Sg code (some e) n (den p) (n + isz p + 2) := by
      have := Sg.one (e := e) (pc := n) (p1 := n + 1 + isz p) (by rw [h.head]; congr 2; omega) h1 h2.head
      rw [show n + isz p + 2 = n + 1 + isz p + 1 by omega]; exact this
    refine sg_cdeB (q :: l) hp.2 (by simp) n _ e _ (by simp [iszL] at he ⊢; omega) h3 ?_
    have h4 := h2.tail
    rw [show n + 1 + isz p + 1 = n + isz p + 2 by omega] at h4
    exact h4
theorem sg_cdeB {code : List Ins} : ∀ (l : List Pt), POKL l → l ≠ [] → ∀ (pc n e : Nat) (x : Xp), n + (iszL l + 2 * (l.length - 1)) = e → Sg code (some e) pc x n → Lies code n (cdeA l n e) → Sg code none pc (denB l x) e
  | [], hp, h0, pc, n, e, x, he, hx, h => absurd rfl h0
  | [p], hp, h0, pc, n, e, x, he, hx, h => by
    rw [cdeA] at h
    rw [denB, denB]
    have := sg_cde p hp.1 n h
    simp [iszL] at he
    rw [he] at this
    exact .alt hx this
  | p :: q :: l, hp, h0, pc, n, e, x, he, hx, h => by
    rw [cdeA] at h
    rw [denB]
    have h1 := sg_cde p hp.1 _ h.tail.left
    have h2 := h.tail.right (cde_len p _)
    have h3 : Sg code (some e) n (den p) (n + isz p + 2) := by
      have := Sg.one (e := e) (pc := n) (p1 := n + 1 + isz p) (by rw [h.head]; congr 2; omega) h1 h2.head
      rw [show n + isz p + 2 = n + 1 + isz p + 1 by omega]; exact this
    refine sg_cdeB (q :: l) hp.2 (by simp) pc _ e _ (by simp [iszL] at he ⊢; omega) (.two hx h3) ?_
    have h4 := h2.tail
    rw [show n + 1 + isz p + 1 = n + isz p + 2 by omega] at h4
    exact h4
end

inductive VEv (code : List Ins) : List (Nat × Nat) → Nat → Nat × Nat → Nat → Option Mk → Prop
  | take0 {pl pc m i} : code[pc]? = some i → i.op = 0 → VEv code [] pl (pc, m) 1 none
  | takeN {r p l pl pc m i} : code[pc]? = some i → i.op = 0 → i.takes (r : Int) = false → VEv code ((r, p) :: l) pl (pc, m) 1 none
  | takeY {r p l pl pc m i n v} : code[pc]? = some i → i.op = 0 → i.takes (r : Int) = true → VEv code l p (pc + 1, 1) n v → VEv code ((r, p) :: l) pl (pc, m) 1 v
  | acc {l pl pc m i} : code[pc]? = some i → i.op = 6 → VEv code l pl (pc, m) 1 (if l.isEmpty then some [] else none)
  | split {l pl pc m i n0 n1 v0 v1} : code[pc]? = some i → i.op = 1 → VEv code l pl (i.t0.toNat, m) n0 v0 → VEv code l pl (i.t1.toNat, m) n1 v1 → VEv code l pl (pc, m) (n0 + n1 + 1) (v0.or v1)
  | jump {l pl pc m i n v} : code[pc]? = some i → i.op = 2 → VEv code l pl (i.t0.toNat, m) n v → VEv code l pl (pc, m) (n + 1) v
  | note {l pl pc m i n v} : code[pc]? = some i → i.op = 3 → VEv code l pl (pc + 1, m) n v → VEv code l pl (pc, m) (n + 1) (v.map ((i.sl.toNat, pl) :: ·))
  | start {l pl pc m i n v} : code[pc]? = some i → i.op = 4 → VEv code l pl (pc + 1, 0) n v → VEv code l pl (pc, m) (n + 1) v
  | endN {l pl pc m i} : code[pc]? = some i → i.op = 5 → m ≠ 1 → VEv code l pl (pc, m) 1 none
  | endY {l pl pc m i n v} : code[pc]? = some i → i.op = 5 → m = 1 → VEv code l pl (pc + 1, 1) n v → VEv code l pl (pc, m) (n + 1) v
theorem VEv.pos {code : List Ins} {l : List (Nat × Nat)} {pl : Nat} {h : Nat × Nat} {n : Nat} {v : Option Mk} (e : VEv code l pl h n v) : 1 ≤ n := by cases e <;> omega
theorem VEv.det {code : List Ins} {l : List (Nat × Nat)} {pl : Nat} {h : Nat × Nat} {n n' : Nat} {v v' : Option Mk} (e : VEv code l pl h n v) (e' : VEv code l pl h n' v') : n = n' ∧ v = v' := by
  induction e generalizing n' v' with
  | take0 hc ho => cases e' <;> simp_all
  | takeN hc ho ht => cases e' <;> simp_all
  | takeY hc ho ht _ ih =>
    cases e' with
    | takeN hc' ho' ht' => simp_all
    | takeY hc' ho' ht' h' => exact ⟨rfl, (ih h').2⟩
    | _ => simp_all
  | acc hc ho => cases e' <;> simp_all
  | split hc ho _ _ ih0 ih1 =>
    cases e' with
    | split hc' ho' h0 h1 =>
      rw [hc] at hc'
      cases hc'
      obtain ⟨rfl, rfl⟩ := ih0 h0
      obtain ⟨rfl, rfl⟩ := ih1 h1
      exact ⟨rfl, rfl⟩
    | _ => simp_all
  | jump hc ho _ ih =>
    cases e' with
    | jump hc' ho' h0 =>
      rw [hc] at hc'
      cases hc'
      obtain ⟨rfl, rfl⟩ := ih h0
      exact ⟨rfl, rfl⟩
    | _ => simp_all
  | note hc ho _ ih =>
    cases e' with
    | note hc' ho' h0 =>
      rw [hc] at hc'
      cases hc'
      obtain ⟨rfl, rfl⟩ := ih h0
      exact ⟨rfl, rfl⟩
    | _ => simp_all
  | start hc ho _ ih =>
    cases e' with
    | start hc' ho' h0 =>
      obtain ⟨rfl, rfl⟩ := ih h0
      exact ⟨rfl, rfl⟩
    | _ => simp_all
  | endN hc ho hm => cases e' <;> simp_all
  | endY hc ho hm _ ih =>
    cases e' with
    | endY hc' ho' hm' h0 =>
      obtain ⟨rfl, rfl⟩ := ih h0
      exact ⟨rfl, rfl⟩
    | _ => simp_all

def frK : List Tk → List Tk
  | [] => []
  | .rend x z _ :: k => .rend x z true :: oldK k
  | .ex x :: k => .ex x :: frK k
  | .gend n :: k => .gend n :: frK k
theorem old_fr : ∀ k : List Tk, oldK (frK k) = oldK k
  | [] => rfl
  | .rend x z _ :: k => by simp only [frK, oldK, List.map_cons, Tk.old]; rw [show List.map Tk.old (List.map Tk.old k) = List.map Tk.old k from oldK_old k]
  | .ex x :: k => by have := old_fr k; simp only [frK, oldK, List.map_cons] at this ⊢; rw [this]
  | .gend n :: k => by have := old_fr k; simp only [frK, oldK, List.map_cons] at this ⊢; rw [this]
def flK (m : Nat) (k : List Tk) : List Tk := if m = 1 then oldK k else frK k
theorem old_fl (m : Nat) (k : List Tk) : oldK (flK m k) = oldK k := by
  unfold flK
  split
  · exact oldK_old k
  · exact old_fr k
theorem fl_ex (m : Nat) (x : Xp) (k : List Tk) : flK m (.ex x :: k) = .ex x :: flK m k := by unfold flK; split <;> rfl
theorem fl_gend (m n : Nat) (k : List Tk) : flK m (.gend n :: k) = .gend n :: flK m k := by unfold flK; split <;> rfl
theorem fl_one (k : List Tk) : flK 1 k = oldK k := rfl
theorem fl_zero (k : List Tk) : flK 0 k = frK k := rfl
def Good (code : List Ins) (r : Nat) (k : List Tk) (pc : Nat) : Prop := ∀ l pl m, m ≤ 1 → 2 * l.length + m ≤ r → ∃ n, VEv code l pl (pc, m) n (ev l pl (flK m k))
theorem Good.mono {code : List Ins} {r r' : Nat} {k : List Tk} {pc : Nat} (h : Good code r k pc) (hr : r' ≤ r) : Good code r' k pc := fun l pl m hm hl => h l pl m hm (by omega)
theorem VEv.splits {code : List Ins} {l : List (Nat × Nat)} {pl pc m a b n0 n1 : Nat} {z : Bool} {v0 v1 : Option Mk} (hc : code[pc]? = some (splitI z a b)) (h0 : VEv code l pl (a, m) n0 v0) (h1 : VEv code l pl (b, m) n1 v1) : ∃ n, VEv code l pl (pc, m) n (either z v0 v1) := by
  cases z with
  | false => exact ⟨_, .split hc rfl h0 h1⟩
  | true => exact ⟨_, .split hc rfl h1 h0⟩
def SgP (code : List Ins) (r : Nat) (e : Option Nat) (pc : Nat) (x : Xp) (q : Nat) : Prop := match e with
  | none => ∀ k, Good code r k q → Good code r (.ex x :: k) pc
  | some e => ∀ k, Good code r k e → ∀ l pl m n v, m ≤ 1 → 2 * l.length + m ≤ r → VEv code l pl (q, m) n v → ∃ n', VEv code l pl (pc, m) n' ((ev l pl (.ex x :: flK m k)).or v)
theorem takes_eq (c : Cls) (r : Nat) : (takeI c).takes (r : Int) = hasC c (r : Int) := by
  unfold Ins.takes
  simp only [takeI, beq_self_eq_true, Bool.true_and]
  rfl
theorem sg_good {code : List Ins} : ∀ (r : Nat) {e : Option Nat} {pc : Nat} {x : Xp} {q : Nat}, Sg code e pc x q → SgP code r e pc x q := by
  intro r
  induction r using Nat.strongRecOn with
  | _ r IH =>
  intro e pc x q h
  induction h with
  | emp pc =>
    intro k hk l pl m hm hl
    rw [fl_ex, ev_emp]
    exact hk l pl m hm hl
  | @set pc c hc =>
    intro k hk l pl m hm hl
    rw [fl_ex]
    match l, hl with
    | [], _ => rw [ev_set0]; exact ⟨_, .take0 hc rfl⟩
    | (rn, p) :: l, hl =>
      rw [ev_set, old_fl, ← takes_eq]
      cases ht : (takeI c).takes (rn : Int) with
      | false => exact ⟨_, .takeN hc rfl ht⟩
      | true =>
        obtain ⟨n, hn⟩ := hk l p 1 (Nat.le_refl _) (by simp at hl; omega)
        exact ⟨_, .takeY hc rfl ht hn⟩
  | @cat pc a p1 b q _ _ ia ib =>
    intro k hk l pl m hm hl
    rw [fl_ex, ev_cat]
    have h1 := ia _ (ib k hk) l pl m hm hl
    rw [fl_ex, fl_ex] at h1
    exact h1
  | @alt pc a q b e _ _ ia ib =>
    intro k hk l pl m hm hl
    rw [fl_ex, ev_alt]
    obtain ⟨n, hn⟩ := ib k hk l pl m hm hl
    rw [fl_ex] at hn
    exact ia k hk l pl m _ _ hm hl hn
  | @star pc a z p1 h0 h1 hs h2 h3 ia =>
    intro k hk l pl m hm hl
    rw [fl_ex, ev_star]
    have hg : Good code (2 * l.length) (.rend a z true :: k) p1 := by
      intro l2 pl2 m2 hm2 hl2
      rcases (show m2 = 0 ∨ m2 = 1 by omega) with rfl | rfl
      · rw [fl_zero, frK, ev_fresh]
        exact ⟨_, .endN h2 rfl (by omega)⟩
      · have hk2 := IH (2 * l2.length + 1) (by omega) (Sg.star h0 h1 hs h2 h3) k (hk.mono (by omega)) l2 pl2 1 (Nat.le_refl _) (Nat.le_refl _)
        obtain ⟨n, hn⟩ := hk2
        rw [fl_ex, ev_star] at hn
        rw [fl_one]
        simp only [oldK, List.map_cons, Tk.old]
        rw [ev_round]
        exact ⟨_, .endY h2 rfl rfl (.jump h3 rfl (by show VEv code l2 pl2 (Int.toNat (pc : Int), 1) n _; exact hn))⟩
    have hin := IH
    obtain ⟨n0, hn0⟩ : ∃ n0, VEv code l pl (pc + 2, 0) n0 (ev l pl (.ex a :: .rend a z true :: flK m k)) := by
      have h9 : ∃ n, VEv code l pl (pc + 2, 0) n (ev l pl (flK 0 (.ex a :: .rend a z true :: k))) := by
        rcases Nat.lt_or_ge (2 * l.length) r with hlt | hge
        · exact IH _ hlt hs _ hg l pl 0 (by omega) (by omega)
        · have er : r = 2 * l.length := by omega
          subst er
          exact ia _ hg l pl 0 (by omega) (by omega)
      obtain ⟨n, hn⟩ := h9
      refine ⟨n, ?_⟩
      rw [fl_zero] at hn
      simp only [frK] at hn
      rw [(Eqv.ex (x := a) (Eqv.fresh (x := a) (z := z) (k := flK m k) (k' := oldK k) (by rw [old_fl, oldK_old]))).eq]
      exact hn
    obtain ⟨n1, hn1⟩ := hk l pl m hm hl
    exact VEv.splits h0 (.start h1 rfl hn0) hn1
  | @may pc a z e h0 _ ia =>
    intro k hk l pl m hm hl
    rw [fl_ex, ev_may]
    obtain ⟨n0, hn0⟩ := ia k hk l pl m hm hl
    rw [fl_ex] at hn0
    obtain ⟨n1, hn1⟩ := hk l pl m hm hl
    exact VEv.splits h0 hn0 hn1
  | @grp pc a n p1 h0 _ h1 ia =>
    intro k hk l pl m hm hl
    rw [fl_ex, ev_grp]
    have hg : Good code r (.gend n :: k) p1 := by
      intro l2 pl2 m2 hm2 hl2
      rw [fl_gend, ev_gend]
      obtain ⟨n1, hn1⟩ := hk l2 pl2 m2 hm2 hl2
      have := VEv.note h1 rfl hn1
      exact ⟨_, this⟩
    obtain ⟨n0, hn0⟩ := ia _ hg l pl m hm hl
    rw [fl_ex, fl_gend] at hn0
    have := VEv.note h0 rfl hn0
    exact ⟨_, this⟩
  | @one e pc a p1 h0 _ h1 ia =>
    intro k hk l pl m n v hm hl hv
    have hg : Good code r k p1 := by
      intro l2 pl2 m2 hm2 hl2
      obtain ⟨n1, hn1⟩ := hk l2 pl2 m2 hm2 hl2
      exact ⟨_, .jump h1 rfl (by show VEv code l2 pl2 (Int.toNat (e : Int), m2) n1 _; exact hn1)⟩
    obtain ⟨n0, hn0⟩ := ia k hg l pl m hm hl
    rw [fl_ex] at hn0
    exact VEv.splits h0 hn0 hv
  | @two e pc a q b q' _ _ ia ib =>
    intro k hk l pl m n v hm hl hv
    obtain ⟨n1, hn1⟩ := ib k hk l pl m n v hm hl hv
    obtain ⟨n0, hn0⟩ := ia k hk l pl m _ _ hm hl hn1
    rw [ev_alt, Option.or_assoc]
    exact ⟨_, hn0⟩
theorem prog_ev (q : Pt) (hq : POK q) (l : List (Nat × Nat)) (pl : Nat) : ∃ n, VEv (progM q) l pl (0, 0) n (ev l pl [.ex (den q)]) := by
  have hl : Lies (progM q) 0 (cde q 0) := fun j hj => by rw [progM_eq, Nat.zero_add, List.getElem?_append_left hj]
  have hs := sg_cde q hq 0 hl
  rw [Nat.zero_add] at hs
  have hacc : (progM q)[isz q]? = some (bare 6) := by
    rw [progM_eq, List.getElem?_append_right (by rw [cde_len]; omega), cde_len]
    simp
  have hg : Good (progM q) (2 * l.length) [] (isz q) := by
    intro l2 pl2 m2 hm2 hl2
    have e : flK m2 [] = [] := by unfold flK; split <;> rfl
    rw [e, ev_nil]
    exact ⟨_, .acc hacc rfl⟩
  exact sg_good (2 * l.length) hs [] hg l pl 0 (by omega) (by omega)
end Go.Proofs.YtmeffeigamaipaaDoor.G
