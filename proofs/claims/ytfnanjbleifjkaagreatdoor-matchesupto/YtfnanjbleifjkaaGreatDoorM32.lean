import Derived.Test.YtfnanjbleifjkaaGreatDoorM31
import Derived.Test.YtfnanjbleifjkaaGreatDoorM26
set_option linter.unusedVariables false
set_option linter.unusedSimpArgs false
set_option maxHeartbeats 4000000
namespace Go.Proofs.YtfnanjbleifjkaaGreatDoor.G
variable {code : List Ins} {g n pl : Nat} {op sl : List Int} {sp : List (Int × Int)}
def rns (s : ByteArray) : Nat -> Nat -> List (Nat × Nat)
 | 0, _ => []
 |f + 1, a => if a < s.size then (qx s a, a + rsz s a) :: rns s f (a + rsz s a) else []
noncomputable def fstT (code : List Ins) (l : List (Nat × Nat)) (pl : Nat) (ts : List Th) : Option (List Int) := ts.findSome? fun t => (fut code l pl (t.pc, 1)).map (app t.sl)
theorem sJ (code : List Ins) (l : List (Nat × Nat)) (pl : Nat) (ts : List Th) (t : Th) : fstT code l pl (ts ++ [t]) = (fstT code l pl ts).or ((fut code l pl (t.pc, 1)).map (app t.sl)) := by
 unfold fstT
 rw [List.findSome?_append]
 congr 1
 simp
theorem tx {l : List (Nat × Nat)} {ts : List Th} (h : fstT code l pl ts = none) {t : Th} (ht : t ∈ ts) : fut code l pl (t.pc, 1) = none := by
 unfold fstT at h
 rw [List.findSome?_eq_none_iff] at h
 have := h t ht
 simpa using this
structure qa (code : List Ins) (l : List (Nat × Nat)) (pl : Nat) (t : Th) : Prop where
 len : t.sl.length = 10
 ins : ∃ i, code[t.pc]? = some i /\ (i.op = 0 \/ i.op = 6)
 ev : ∃ n v, VEv code l pl (t.pc, 1) n v
def Rcd (pl : Nat) (ts : List Th) (rc : List Int) : Prop := ∀ k, rc[k]? = some (pl : Int) -> ∃ t ∈ ts, t.pc = k
theorem gK {l : List (Nat × Nat)} (hl : sl.length = 10) : ∀ (ws : List (Nat × Int)) (s : List Th × List Int), (∀ y ∈ ws, wM code l pl y) -> Rcd pl s.1 s.2 -> (∀ t ∈ s.1, qa code l pl t) -> (∀ z ∈ s.2, z <= (pl : Int)) ->
  fstT code l pl (aV sl pl (wys ws) s).1 = (fstT code l pl s.1).or (fstW code l pl sl ws) /\ Rcd pl (aV sl pl (wys ws) s).1 (aV sl pl (wys ws) s).2 /\ (∀ t ∈ (aV sl pl (wys ws) s).1, qa code l pl t) /\ (∀ z ∈ (aV sl pl (wys ws) s).2, z <= (pl : Int))
 | [], s, _, h1, h2, h3 => ⟨by show fstT code l pl s.1 = _; simp [fstW], h1, h2, h3⟩
 |y :: ws, s, hw, h1, h2, h3 => by
  have hy := hw y (List.mem_cons_self ..)
  have hws : ∀ y ∈ ws, wM code l pl y := fun z hz => hw z (List.mem_cons_of_mem _ hz)
  have hf : fstW code l pl sl (y :: ws) = ((fut code l pl (y.1, 1)).map fun m => app (da y.2 pl sl) m).or (fstW code l pl sl ws) := by
   unfold fstW
   rw [List.findSome?_cons]
   cases fut code l pl (y.1, 1) <;> rfl
  have hu : wys (y :: ws) = ⟨y.1, y.2⟩ :: wys ws := rfl
  rw [hu]
  unfold aV
  by_cases hc : s.2[y.1]? = some (pl : Int)
  ·rw [if_pos hc]
   obtain ⟨g1, g2⟩ := gK hl ws s hws h1 h2 h3
   refine ⟨?_, g2⟩
   rw [g1, hf]
   cases h9 : fstT code l pl s.1 with
   |some v => rfl
   |none =>
    obtain ⟨t, ht, e⟩ := h1 _ hc
    have := tx h9 ht
    rw [e] at this
    rw [this]
    rfl
  ·rw [if_neg hc]
   have g := gK hl ws (s.1 ++ [⟨y.1, da y.2 pl sl⟩], s.2.set y.1 pl) hws (fun k hk => ?_) (fun t ht => ?_) (fun z hz => ?_)
   ·refine ⟨?_, g.2⟩
    rw [g.1, hf]
    show (fstT code l pl (s.1 ++ [⟨y.1, da y.2 pl sl⟩])).or _ = _
    rw [sJ, Option.or_assoc]
   ·by_cases he : y.1 = k
    ·exact ⟨⟨y.1, da y.2 pl sl⟩, by simp, he⟩
    ·have hk2 : s.2[k]? = some (pl : Int) := by
      have : (s.2.set y.1 pl)[k]? = some (pl : Int) := hk
      rw [List.getElem?_set_ne he] at this
      exact this
     obtain ⟨t, ht, e⟩ := h1 k hk2
     exact ⟨t, List.mem_append_left _ ht, e⟩
   ·rcases List.mem_append.1 ht with h9 | h9
    ·exact h2 t h9
    ·rw [List.mem_singleton] at h9
     subst h9
     exact ⟨by rw [fw]; exact hl, hy.1, hy.2⟩
   ·rcases List.mem_or_eq_of_mem_set hz with h9 | h9
    ·exact h3 z h9
    ·omega
theorem nI (hok : cP code) (htk : eF code) (hso : lf code) {r p a : Nat} {l : List (Nat × Nat)} : ∀ (ts : List Th) (s : List Th × List Int), (∀ t ∈ ts, qa code ((r, p) :: l) a t) -> Rcd p s.1 s.2 -> (∀ t ∈ s.1, qa code l p t) -> (∀ z ∈ s.2, z <= (p : Int)) ->
  fstT code l p (cy code r p ts s).1 = (fstT code l p s.1).or (fstT code ((r, p) :: l) a ts) /\ Rcd p (cy code r p ts s).1 (cy code r p ts s).2 /\ (∀ t ∈ (cy code r p ts s).1, qa code l p t) /\ (∀ z ∈ (cy code r p ts s).2, z <= (p : Int))
 | [], s, _, h1, h2, h3 => ⟨by show fstT code l p s.1 = _; simp [fstT], h1, h2, h3⟩
 |t :: ts, s, ht, h1, h2, h3 => by
  have ht0 := ht t (List.mem_cons_self ..)
  have hts : ∀ t ∈ ts, qa code ((r, p) :: l) a t := fun y hy => ht y (List.mem_cons_of_mem _ hy)
  obtain ⟨i, hi, hop⟩ := ht0.ins
  obtain ⟨n, v, hv⟩ := ht0.ev
  have hf : fstT code ((r, p) :: l) a (t :: ts) = (v.map (app t.sl)).or (fstT code ((r, p) :: l) a ts) := by
   unfold fstT
   rw [List.findSome?_cons, hv.fut]
   cases v <;> rfl
  unfold cy
  rw [hi]
  dsimp only
  by_cases hta : i.takes (r : Int) = true
  ·rw [if_pos hta]
   have h0 : i.op = 0 := by
    simp only [Ins.takes, Bool.and_eq_true, beq_iff_eq] at hta
    exact hta.1
   obtain ⟨n1, hv1⟩ : ∃ n1, VEv code l p (t.pc + 1, 1) n1 v := by
    cases hv with
    |takeN k1 k2 k3 => rw [hi] at k1; cases k1; rw [hta] at k3; cases k3
    |takeY k1 k2 k3 k4 => exact ⟨_, k4⟩
    |acc k1 k2 => rw [hi] at k1; cases k1; omega
    |split k1 k2 => rw [hi] at k1; cases k1; omega
    |jump k1 k2 => rw [hi] at k1; cases k1; omega
    |note k1 k2 => rw [hi] at k1; cases k1; omega
    |start k1 k2 => rw [hi] at k1; cases k1; omega
    |endN k1 k2 => rw [hi] at k1; cases k1; omega
    |endY k1 k2 => rw [hi] at k1; cases k1; omega
   obtain ⟨w1, w2⟩ := rP hok hso (pl := p) ht0.len hv1 (htk _ _ hi h0) (by show 1 < 2; omega)
   obtain ⟨g1, g2, g3, g4⟩ := gK ht0.len (bE code (t.pc + 1, 1)) s w2 h1 h2 h3
   obtain ⟨k1, k2⟩ := nI hok htk hso ts _ hts g2 g3 g4
   refine ⟨?_, k2⟩
   rw [k1, g1, w1, hf, Option.or_assoc]
  ·rw [if_neg hta]
   have hvn : v = none := by
    cases hv with
    |takeN k1 k2 k3 => rfl
    |takeY k1 k2 k3 k4 => rw [hi] at k1; cases k1; exact absurd k3 hta
    |acc k1 k2 => rfl
    |split k1 k2 => rw [hi] at k1; cases k1; omega
    |jump k1 k2 => rw [hi] at k1; cases k1; omega
    |note k1 k2 => rw [hi] at k1; cases k1; omega
    |start k1 k2 => rw [hi] at k1; cases k1; omega
    |endN k1 k2 => rfl
    |endY k1 k2 => rw [hi] at k1; cases k1; omega
   obtain ⟨k1, k2⟩ := nI hok htk hso ts s hts h1 h2 h3
   refine ⟨?_, k2⟩
   rw [k1, hf, hvn]
   rfl
theorem ju {a : Nat} : ∀ (ts : List Th), (∀ t ∈ ts, qa code [] a t) -> cI code ts = fstT code [] a ts
 | [], _ => rfl
 |t :: ts, ht => by
  have ht0 := ht t (List.mem_cons_self ..)
  have ih := ju ts (fun y hy => ht y (List.mem_cons_of_mem _ hy))
  obtain ⟨i, hi, hop⟩ := ht0.ins
  have hf : fstT code [] a (t :: ts) = ((fut code [] a (t.pc, 1)).map (app t.sl)).or (fstT code [] a ts) := by
   unfold fstT
   rw [List.findSome?_cons]
   cases fut code [] a (t.pc, 1) <;> rfl
  unfold cI
  rw [hi, hf]
  rcases hop with h0 | h0
  ·rw [(VEv.take0 (pl := a) (m := 1) hi h0).fut, if_neg (by simp [h0]), ih]
   rfl
  ·rw [(VEv.acc (l := []) (pl := a) (m := 1) hi h0).fut, if_pos (by simp [h0])]
   rfl
theorem vo (hok : cP code) (htk : eF code) (hso : lf code) (s : ByteArray) : ∀ (f a : Nat) (ts : List Th) (rc : List Int), (∀ t ∈ ts, qa code (rns s f a) a t) -> (∀ z ∈ rc, z <= (a : Int)) -> lu code s f a (ts, rc) = fstT code (rns s f a) a ts
 | 0, a, ts, rc, ht, hr => ju ts ht
 |f + 1, a, ts, rc, ht, hr => by
  unfold lu
  by_cases ha : a < s.size
  ·have hge := (rl s a ha).1
   have hrn : rns s (f + 1) a = (qx s a, a + rsz s a) :: rns s f (a + rsz s a) := by rw [rns, if_pos ha]
   rw [hrn] at ht ⊢
   rw [if_pos ha]
   obtain ⟨k1, k2, k3, k4⟩ := nI hok htk hso ts ([], rc) ht (fun k hk => by
    have := hr _ (List.mem_of_getElem? hk)
    omega) (fun t ht => by cases ht) (fun z hz => by have := hr z hz; omega)
   rw [show (fstT code (rns s f (a + rsz s a)) (a + rsz s a) ([], rc).1) = none from rfl, Option.none_or] at k1
   dsimp only
   split
   ·next h0 =>
    rw [<- k1, List.length_eq_zero_iff.1 h0]
    rfl
   ·rw [<- k1]
    exact vo hok htk hso s f _ _ _ k3 k4
  ·rw [if_neg ha]
   have hrn : rns s (f + 1) a = [] := by rw [rns, if_neg ha]
   rw [hrn] at ht ⊢
   exact ju ts ht
def cZ (c : List Ins) : Prop := ∀ i ∈ c, i.op = 3 -> ∃ a : Nat, (a : Int) = i.sl /\ a < 10
theorem cZ.app {a b : List Ins} (h : cZ a) (k : cZ b) : cZ (a ++ b) := fun i hi => (List.mem_append.1 hi).elim (h i) (k i)
theorem cZ.cons {i : Ins} {b : List Ins} (h : i.op = 3 -> ∃ a : Nat, (a : Int) = i.sl /\ a < 10) (k : cZ b) : cZ (i :: b) := fun j hj => by
 rcases List.mem_cons.1 hj with rfl | hj
 ·exact h
 ·exact k j hj
theorem cZ.nil : cZ [] := fun i hi => by cases hi
theorem il (z : Bool) (a b : Nat) : ¬ (dl z a b).op = 3 := by cases z <;> exact (by decide : ¬ (1 : Int) = 3)
theorem pW {f : Nat -> List Ins} (hf : ∀ n, cZ (f n)) (z : Bool) (s e : Nat) : ∀ m n, cZ (lL f z s e m n)
 | 0, n => .nil
 |m + 1, n => .cons (fun h => absurd h (il _ _ _)) ((hf _).app (pW hf z s e m _))
theorem kK {f : Nat -> List Ins} (hf : ∀ n, cZ (f n)) (s : Nat) : ∀ m n, cZ (gY f s m n)
 | 0, n => .nil
 |m + 1, n => (hf _).app (kK hf s m _)
mutual
theorem eC : ∀ (p : Pt), POK p -> ∀ n, cZ (cde p n)
 |.single c, _, n => by rw [cde]; exact .cons (fun h => absurd h (by show ¬ (0 : Int) = 3; decide)) .nil
 |.seq l, hp, n => by rw [cde]; exact nj l hp n
 |.alt l, hp, n => by rw [cde]; exact nf l hp.1 n _
 |.wrap p g, hp, n => by
  have hg := hp.2
  rw [cde]
  split
  ·exact eC p hp.1 n
  ·refine .cons (fun _ => ⟨2 * (g - 1), rfl, by omega⟩) ((eC p hp.1 _).app (.cons (fun _ => ⟨2 * (g - 1) + 1, rfl, by omega⟩) .nil))
 |.count p le mo z, hp, n => by
  have hf := eC p hp.1
  rw [cde]
  split
  ·refine (kK hf _ _ _).app (.cons (fun h => absurd h (il _ _ _)) (.cons (fun h => absurd h (by show ¬ (4 : Int) = 3; decide)) ((hf _).app (.cons (fun h => absurd h (by show ¬ (5 : Int) = 3; decide)) (.cons (fun h => absurd h (by show ¬ (2 : Int) = 3; decide)) .nil)))))
  ·exact (kK hf _ _ _).app (pW hf _ _ _ _ _)
theorem nj : ∀ (l : List Pt), iV l -> ∀ n, cZ (jP l n)
 | [], _, n => by rw [jP]; exact .nil
 |p :: l, hp, n => by rw [jP]; exact (eC p hp.1 n).app (nj l hp.2 _)
theorem nf : ∀ (l : List Pt), iV l -> ∀ n e, cZ (fM l n e)
 | [], _, n, e => by rw [fM]; exact .nil
 | [p], hp, n, e => by rw [fM]; exact eC p hp.1 n
 |p :: q :: l, hp, n, e => by
  rw [fM]
  exact .cons (fun h => absurd h (il _ _ _)) ((eC p hp.1 _).app (.cons (fun h => absurd h (by show ¬ (2 : Int) = 3; decide)) (nf (q :: l) hp.2 _ _)))
end
theorem tf (q : Pt) (hq : POK q) : lf (bx q) := fun k i hi ho => by
 have h : cZ (bx q) := by
  rw [jg]
  exact (eC q hq 0).app (.cons (fun h => absurd h (by show ¬ (6 : Int) = 3; decide)) .nil)
 exact h i (List.mem_of_getElem? hi) ho
theorem vE (q : Pt) (hq : POK q) (s : ByteArray) : dC (bx q) s = (ev (rns s s.size 0) 0 [.ex (den q)]).map (app cA) := by
 obtain ⟨hok, htk⟩ := sd q hq
 have hso := tf q hq
 obtain ⟨n, hv⟩ := wN q hq (rns s s.size 0) 0
 have hpos : 0 < (bx q).length := by rw [jg]; simp
 obtain ⟨w1, w2⟩ := rP hok hso (pl := 0) (sl := cA) rfl hv hpos (by show 0 < 2; omega)
 obtain ⟨g1, g2, g3, g4⟩ := gK (pl := 0) (sl := cA) rfl (bE (bx q) (0, 0)) ([], List.replicate (bx q).length (-1)) w2 (fun k hk => by
  have := List.mem_of_getElem? hk
  rw [List.mem_replicate] at this
  exact absurd this.2 (by decide)) (fun t ht => by cases ht) (fun z hz => by
  rw [List.mem_replicate] at hz
  rw [hz.2]
  decide)
 unfold dC
 have h1 := vo hok htk hso s s.size 0 (aV cA ((0 : Nat) : Int) (wys (bE (bx q) (0, 0))) ([], List.replicate (bx q).length (-1))).1 (aV cA ((0 : Nat) : Int) (wys (bE (bx q) (0, 0))) ([], List.replicate (bx q).length (-1))).2 g3 g4
 refine Eq.trans h1 ?_
 rw [g1, w1]
 rfl
def fW : List (Int × Int) -> List Int -> Mk -> List (Int × Int) × List Int
 |sp, op, [] => (sp, op)
 |sp, op, y :: m => if y.1 % 2 = 0 then fW sp (op.set (y.1 / 2 + 1) (y.2 : Int)) m else fW (sp.set (y.1 / 2 + 1) (op.getD (y.1 / 2 + 1) 0, (y.2 : Int))) op m
theorem kq (sp : List (Int × Int)) (op : List Int) (n pl : Nat) (m : Mk) (hn : 1 <= n) : fW sp op ((beg n, pl) :: m) = fW sp (op.set n (pl : Int)) m := by
 rw [fW]
 unfold beg
 dsimp only
 rw [if_pos (by omega), show 2 * (n - 1) / 2 + 1 = n by omega]
theorem kV (sp : List (Int × Int)) (op : List Int) (n pl : Nat) (m : Mk) (hn : 1 <= n) : fW sp op ((beg n + 1, pl) :: m) = fW (sp.set n (op.getD n 0, (pl : Int))) op m := by
 rw [fW]
 unfold beg
 dsimp only
 rw [if_neg (by omega), show (2 * (n - 1) + 1) / 2 + 1 = n by omega]
def TkG (g : Nat) : Tk -> Prop
 |.ex x => GLe g x
 |.gend n => 1 <= n /\ n <= g
 |.rend x _ _ => GLe g x
def KG (g : Nat) (k : List Tk) : Prop := ∀ t ∈ k, TkG g t
theorem KG.tail {t : Tk} {k : List Tk} (h : KG g (t :: k)) : KG g k := fun x hx => h x (List.mem_cons_of_mem _ hx)
theorem KG.head {t : Tk} {k : List Tk} (h : KG g (t :: k)) : TkG g t := h t (List.mem_cons_self ..)
theorem KG.cons {t : Tk} {k : List Tk} (h : TkG g t) (hk : KG g k) : KG g (t :: k) := fun x hx => by
 rcases List.mem_cons.1 hx with rfl | hx
 ·exact h
 ·exact hk x hx
theorem KG.old {k : List Tk} (h : KG g k) : KG g (dw k) := fun t ht => by
 obtain ⟨u, hu, rfl⟩ := List.mem_map.1 ht
 have := h u hu
 cases u <;> exact this
theorem t6 {k : List Tk} : Tk.gend n ∈ dw k ↔ Tk.gend n ∈ k := by
 unfold dw
 rw [List.mem_map]
 constructor
 ·rintro ⟨t, ht, e⟩
  cases t with
  |ex x => cases e
  |gend m => cases e; exact ht
  |rend x z f => cases e
 ·intro h
  exact ⟨_, h, rfl⟩
structure kX (g : Nat) (K : List Tk) (sp : List (Int × Int)) (op sl : List Int) : Prop where
 l1 : sp.length = g + 1
 l2 : op.length = g + 1
 l3 : sl.length = 10
 rel : ∀ n, 1 <= n -> n <= g -> (sp.getD n (0, 0)).2 = sl.getD (2 * n - 1) 0 /\ (Tk.gend n ∈ K -> op.getD n 0 = sl.getD (2 * n - 2) 0) /\ (Tk.gend n ∉ K -> (sp.getD n (0, 0)).1 = sl.getD (2 * n - 2) 0)
theorem kX.congr {K K' : List Tk} (h : kX g K sp op sl) (e : ∀ n, Tk.gend n ∈ K' ↔ Tk.gend n ∈ K) : kX g K' sp op sl :=
 ⟨h.l1, h.l2, h.l3, fun n h1 h2 => by
  obtain ⟨a, b, c⟩ := h.rel n h1 h2
  exact ⟨a, fun hm => b ((e n).1 hm), fun hm => c (fun hm2 => hm ((e n).2 hm2))⟩⟩
theorem fo {α : Type} (l : List α) (i j : Nat) (x d : α) (hi : i < l.length) : (l.set i x).getD j d = if i = j then x else l.getD j d := by
 rw [List.getD_eq_getElem?_getD, List.getElem?_set]
 by_cases h : i = j
 ·subst h; simp [hi]
 ·rw [if_neg h, if_neg h, List.getD_eq_getElem?_getD]
theorem kX.beg {k : List Tk} {a : Xp} (hg : g <= 5) (hn : 1 <= n /\ n <= g) (h : kX g (.ex (.grp a n) :: k) sp op sl) : kX g (.ex a :: .gend n :: k) sp (op.set n (pl : Int)) (sl.set (beg n) (pl : Int)) := by
 have l1 := h.l1
 have l2 := h.l2
 have l3 := h.l3
 unfold G.beg
 refine ⟨l1, by rw [List.length_set]; exact l2, by rw [List.length_set]; exact l3, fun m h1 h2 => ?_⟩
 obtain ⟨r1, r2, r3⟩ := h.rel m h1 h2
 simp only [List.mem_cons, reduceCtorEq, false_or] at r2 r3 ⊢
 rw [fo _ _ _ _ _ (by omega), fo _ _ _ _ _ (by omega), fo _ _ _ _ _ (by omega), if_neg (by omega)]
 refine ⟨r1, fun hm => ?_, fun hm => ?_⟩
 ·by_cases e : n = m
  ·rw [if_pos e, if_pos (by omega)]
  ·rw [if_neg e, if_neg (by omega)]
   rcases hm with hm | hm
   ·exact absurd (by injection hm with hm; exact hm.symm) e
   ·exact r2 hm
 ·have e : ¬ n = m := fun e => hm (.inl (by rw [e]))
  rw [if_neg (by omega)]
  exact r3 (fun h9 => hm (.inr h9))
theorem kX.fin {k : List Tk} (hg : g <= 5) (hn : 1 <= n /\ n <= g) (h : kX g (.gend n :: k) sp op sl) : kX g k (sp.set n (op.getD n 0, (pl : Int))) op (sl.set (G.beg n + 1) (pl : Int)) := by
 have l1 := h.l1
 have l2 := h.l2
 have l3 := h.l3
 unfold G.beg
 refine ⟨by rw [List.length_set]; exact l1, l2, by rw [List.length_set]; exact l3, fun m h1 h2 => ?_⟩
 obtain ⟨r1, r2, r3⟩ := h.rel m h1 h2
 simp only [List.mem_cons, Tk.gend.injEq] at r2 r3
 rw [fo _ _ _ _ _ (by omega), fo _ _ _ _ _ (by omega), fo _ _ _ _ _ (by omega)]
 by_cases e : n = m
 ·subst e
  rw [if_pos rfl, if_pos (by omega), if_neg (by omega)]
  exact ⟨rfl, fun _ => r2 (.inl rfl), fun _ => r2 (.inl rfl)⟩
 ·rw [if_neg e, if_neg (by omega), if_neg (by omega)]
  exact ⟨r1, fun hm => r2 (.inr hm), fun hm => r3 (fun h9 => by
   rcases h9 with h9 | h9
   ·exact e h9.symm
   ·exact hm h9)⟩
theorem dq {z : Bool} {a b : Option Mk} {m : Mk} (h : bN z a b = some m) : a = some m \/ b = some m := by
 unfold bN at h
 cases z with
 |false =>
  cases a with
  |none => simp at h; exact .inr h
  |some x => simp at h; exact .inl (by rw [h])
 |true =>
  cases b with
  |none => simp at h; exact .inl h
  |some x => simp at h; exact .inr (by rw [h])
theorem rv {a b : Option Mk} {m : Mk} (h : a.or b = some m) : a = some m \/ b = some m := by
 cases a with
 |none => simp at h; exact .inr h
 |some x => simp at h; exact .inl (by rw [h])
theorem xp (hg : g <= 5) : ∀ (N : Nat) (l : List (Nat × Nat)), l.length <= N -> ∀ (M : Nat) (K : List Tk), ksz K <= M -> ∀ (pl : Nat) (ms : Mk) (sp : List (Int × Int)) (op sl : List Int), ev l pl K = some ms -> KG g K -> kX g K sp op sl -> kX g [] (fW sp op ms).1 (fW sp op ms).2 (app sl ms) := by
 intro N
 induction N with
 |zero =>
  intro l hl
  have e : l = [] := List.length_eq_zero_iff.1 (by omega)
  subst e
  intro M
  induction M with
  |zero =>
   intro K hK pl ms sp op sl h hk hr
   match K, hK with
   | [], _ => rw [fc] at h; simp at h; subst h; exact hr
   |t :: k, hK => exfalso; cases t with
    |ex x => cases x <;> simp [ksz, Tk.sz, Xp.sz] at hK
    |gend n => simp [ksz, Tk.sz] at hK
    |rend x z f => cases f <;> simp [ksz, Tk.sz] at hK
  |succ M ih =>
   intro K hK pl ms sp op sl h hk hr
   match K, hK, h, hk, hr with
   | [], _, h, _, hr => rw [fc] at h; simp at h; subst h; exact hr
   |.gend n :: k, hK, h, hk, hr =>
    rw [eW] at h
    obtain ⟨m, h1, rfl⟩ := Option.map_eq_some_iff.1 h
    have hn := hk.head
    rw [kV _ _ _ _ _ hn.1, iU]
    exact ih k (by simp [ksz, Tk.sz] at hK; omega) pl m _ _ _ h1 hk.tail (hr.fin hg hn)
   |.rend x z true :: k, hK, h, hk, hr => rw [dS] at h; cases h
   |.rend x z false :: k, hK, h, hk, hr =>
    rw [fu] at h
    rcases dq h with h | h
    ·exact ih _ (by simp [ksz, Tk.sz] at hK ⊢; omega) pl ms _ _ _ h (.cons hk.head (.cons hk.head hk.tail)) (hr.congr (fun n => by simp))
    ·exact ih _ (by simp [ksz, Tk.sz] at hK ⊢; omega) pl ms _ _ _ h hk.tail (hr.congr (fun n => by simp))
   |.ex .emp :: k, hK, h, hk, hr =>
    rw [gq] at h
    exact ih _ (by simp [ksz, Tk.sz, Xp.sz] at hK ⊢; omega) pl ms _ _ _ h hk.tail (hr.congr (fun n => by simp))
   |.ex (.set c) :: k, hK, h, hk, hr => rw [gS] at h; cases h
   |.ex (.cat a b) :: k, hK, h, hk, hr =>
    rw [gh] at h
    exact ih _ (by simp [ksz, Tk.sz, Xp.sz] at hK ⊢; omega) pl ms _ _ _ h (.cons hk.head.1 (.cons hk.head.2 hk.tail)) (hr.congr (fun n => by simp))
   |.ex (.alt a b) :: k, hK, h, hk, hr =>
    rw [fH] at h
    rcases rv h with h | h
    ·exact ih _ (by simp [ksz, Tk.sz, Xp.sz] at hK ⊢; omega) pl ms _ _ _ h (.cons hk.head.1 hk.tail) (hr.congr (fun n => by simp))
    ·exact ih _ (by simp [ksz, Tk.sz, Xp.sz] at hK ⊢; omega) pl ms _ _ _ h (.cons hk.head.2 hk.tail) (hr.congr (fun n => by simp))
   |.ex (.star a z) :: k, hK, h, hk, hr =>
    rw [ei] at h
    rcases dq h with h | h
    ·exact ih _ (by simp [ksz, Tk.sz, Xp.sz] at hK ⊢; omega) pl ms _ _ _ h (.cons hk.head (.cons hk.head hk.tail)) (hr.congr (fun n => by simp))
    ·exact ih _ (by simp [ksz, Tk.sz, Xp.sz] at hK ⊢; omega) pl ms _ _ _ h hk.tail (hr.congr (fun n => by simp))
   |.ex (.may a z) :: k, hK, h, hk, hr =>
    rw [f0] at h
    rcases dq h with h | h
    ·exact ih _ (by simp [ksz, Tk.sz, Xp.sz] at hK ⊢; omega) pl ms _ _ _ h (.cons hk.head hk.tail) (hr.congr (fun n => by simp))
    ·exact ih _ (by simp [ksz, Tk.sz, Xp.sz] at hK ⊢; omega) pl ms _ _ _ h hk.tail (hr.congr (fun n => by simp))
   |.ex (.grp a n) :: k, hK, h, hk, hr =>
    rw [gz] at h
    obtain ⟨m, h1, rfl⟩ := Option.map_eq_some_iff.1 h
    have hn : 1 <= n /\ n <= g := ⟨hk.head.1, hk.head.2.1⟩
    rw [kq _ _ _ _ _ hn.1, iU]
    exact ih _ (by simp [ksz, Tk.sz, Xp.sz] at hK ⊢; omega) pl m _ _ _ h1 (.cons hk.head.2.2 (.cons (show TkG g (.gend n) from hn) hk.tail)) (hr.beg hg hn)
 |succ N IH =>
  intro l hl M
  induction M with
  |zero =>
   intro K hK pl ms sp op sl h hk hr
   match K, hK with
   | [], _ =>
    rw [fc] at h
    split at h
    ·cases h; exact hr
    ·cases h
   |t :: k, hK => exfalso; cases t with
    |ex x => cases x <;> simp [ksz, Tk.sz, Xp.sz] at hK
    |gend n => simp [ksz, Tk.sz] at hK
    |rend x z f => cases f <;> simp [ksz, Tk.sz] at hK
  |succ M ih =>
   intro K hK pl ms sp op sl h hk hr
   match K, hK, h, hk, hr with
   | [], _, h, _, hr =>
    rw [fc] at h
    split at h
    ·cases h; exact hr
    ·cases h
   |.gend n :: k, hK, h, hk, hr =>
    rw [eW] at h
    obtain ⟨m, h1, rfl⟩ := Option.map_eq_some_iff.1 h
    have hn := hk.head
    rw [kV _ _ _ _ _ hn.1, iU]
    exact ih k (by simp [ksz, Tk.sz] at hK; omega) pl m _ _ _ h1 hk.tail (hr.fin hg hn)
   |.rend x z true :: k, hK, h, hk, hr => rw [dS] at h; cases h
   |.rend x z false :: k, hK, h, hk, hr =>
    rw [fu] at h
    rcases dq h with h | h
    ·exact ih _ (by simp [ksz, Tk.sz] at hK ⊢; omega) pl ms _ _ _ h (.cons hk.head (.cons hk.head hk.tail)) (hr.congr (fun n => by simp))
    ·exact ih _ (by simp [ksz, Tk.sz] at hK ⊢; omega) pl ms _ _ _ h hk.tail (hr.congr (fun n => by simp))
   |.ex .emp :: k, hK, h, hk, hr =>
    rw [gq] at h
    exact ih _ (by simp [ksz, Tk.sz, Xp.sz] at hK ⊢; omega) pl ms _ _ _ h hk.tail (hr.congr (fun n => by simp))
   |.ex (.set c) :: k, hK, h, hk, hr =>
    cases l with
    |nil => rw [gS] at h; cases h
    |cons x l =>
     obtain ⟨r, p⟩ := x
     rw [iu] at h
     split at h
     ·exact IH l (by simp at hl; omega) _ _ (Nat.le_refl _) p ms _ _ _ h hk.tail.old (hr.congr (fun n => by rw [t6]; simp))
     ·cases h
   |.ex (.cat a b) :: k, hK, h, hk, hr =>
    rw [gh] at h
    exact ih _ (by simp [ksz, Tk.sz, Xp.sz] at hK ⊢; omega) pl ms _ _ _ h (.cons hk.head.1 (.cons hk.head.2 hk.tail)) (hr.congr (fun n => by simp))
   |.ex (.alt a b) :: k, hK, h, hk, hr =>
    rw [fH] at h
    rcases rv h with h | h
    ·exact ih _ (by simp [ksz, Tk.sz, Xp.sz] at hK ⊢; omega) pl ms _ _ _ h (.cons hk.head.1 hk.tail) (hr.congr (fun n => by simp))
    ·exact ih _ (by simp [ksz, Tk.sz, Xp.sz] at hK ⊢; omega) pl ms _ _ _ h (.cons hk.head.2 hk.tail) (hr.congr (fun n => by simp))
   |.ex (.star a z) :: k, hK, h, hk, hr =>
    rw [ei] at h
    rcases dq h with h | h
    ·exact ih _ (by simp [ksz, Tk.sz, Xp.sz] at hK ⊢; omega) pl ms _ _ _ h (.cons hk.head (.cons hk.head hk.tail)) (hr.congr (fun n => by simp))
    ·exact ih _ (by simp [ksz, Tk.sz, Xp.sz] at hK ⊢; omega) pl ms _ _ _ h hk.tail (hr.congr (fun n => by simp))
   |.ex (.may a z) :: k, hK, h, hk, hr =>
    rw [f0] at h
    rcases dq h with h | h
    ·exact ih _ (by simp [ksz, Tk.sz, Xp.sz] at hK ⊢; omega) pl ms _ _ _ h (.cons hk.head hk.tail) (hr.congr (fun n => by simp))
    ·exact ih _ (by simp [ksz, Tk.sz, Xp.sz] at hK ⊢; omega) pl ms _ _ _ h hk.tail (hr.congr (fun n => by simp))
   |.ex (.grp a n) :: k, hK, h, hk, hr =>
    rw [gz] at h
    obtain ⟨m, h1, rfl⟩ := Option.map_eq_some_iff.1 h
    have hn : 1 <= n /\ n <= g := ⟨hk.head.1, hk.head.2.1⟩
    rw [kq _ _ _ _ _ hn.1, iU]
    exact ih _ (by simp [ksz, Tk.sz, Xp.sz] at hK ⊢; omega) pl m _ _ _ h1 (.cons hk.head.2.2 (.cons (show TkG g (.gend n) from hn) hk.tail)) (hr.beg hg hn)
theorem vC (hg : g <= 5) {X : Xp} (hX : GLe g X) {l : List (Nat × Nat)} {ms : Mk} (h : ev l pl [.ex X] = some ms) (len : Int) :
  ((fW (List.replicate (g + 1) (-1, -1)) (List.replicate (g + 1) 0) ms).1.set 0 (0, len)) = cu len (app cA ms) g := by
 have hr := xp hg l.length l (Nat.le_refl _) _ _ (Nat.le_refl _) pl ms (List.replicate (g + 1) (-1, -1)) (List.replicate (g + 1) 0) cA h (KG.cons hX (fun t ht => by cases ht)) ⟨by simp, by simp, rfl, fun n h1 h2 => by
  have e1 : (List.replicate (g + 1) ((-1 : Int), (-1 : Int))).getD n (0, 0) = (-1, -1) := by
   rw [List.getD_eq_getElem?_getD, List.getElem?_replicate, if_pos (by omega)]; rfl
  have e2 : ∀ j, j < 10 -> cA.getD j 0 = -1 := by decide
  rw [e1, e2 _ (by omega), e2 _ (by omega)]
  exact ⟨rfl, fun hm => by simp at hm, fun _ => rfl⟩⟩
 obtain ⟨l1, l2, l3, rel⟩ := hr
 apply List.ext_getElem?
 intro i
 unfold cu
 cases i with
 |zero =>
  rw [List.getElem?_set_self (by rw [l1]; omega)]
  rfl
 |succ i =>
  rw [List.getElem?_set_ne (by omega), List.getElem?_cons_succ, List.getElem?_map]
  by_cases hi : i < g
  ·rw [List.getElem?_range hi, List.getElem?_eq_getElem (by rw [l1]; omega)]
   obtain ⟨r1, _, r3⟩ := rel (i + 1) (by omega) (by omega)
   have r4 := r3 (by simp)
   have e : ∀ (L : List (Int × Int)) (hL : i + 1 < L.length), L.getD (i + 1) (0, 0) = L[i + 1] := fun L hL => by
    rw [List.getD_eq_getElem?_getD, List.getElem?_eq_getElem hL]; rfl
   rw [e _ (by rw [l1]; omega)] at r1 r4
   simp only [Option.map_some, oq]
   rw [show 2 * (i + 1) - 1 = 2 * i + 1 by omega] at r1
   rw [show 2 * (i + 1) - 2 = 2 * i by omega] at r4
   rw [<- r1, <- r4]
  ·rw [List.getElem?_eq_none (by rw [l1]; omega), List.getElem?_eq_none (by simp; omega)]
   rfl
open Go.Lib
def szN (n b0 b1 b2 b3 : Nat) : Nat :=
 if (194 <= b0 /\ b0 <= 223) /\ (1 < n /\ 128 <= b1 /\ b1 < 192) then 2
 else if (1 < n /\ 128 <= b1 /\ b1 < 192) /\ (2 < n /\ 128 <= b2 /\ b2 < 192) /\ ((b0 = 224 /\ 160 <= b1) \/ (b0 = 237 /\ b1 <= 159) \/ (225 <= b0 /\ b0 <= 239 /\ b0 ≠ 237)) then 3
 else if (1 < n /\ 128 <= b1 /\ b1 < 192) /\ (2 < n /\ 128 <= b2 /\ b2 < 192) /\ (3 < n /\ 128 <= b3 /\ b3 < 192) /\ ((b0 = 240 /\ 144 <= b1) \/ (b0 = 244 /\ b1 <= 143) \/ (241 <= b0 /\ b0 <= 243)) then 4
 else 1
theorem vP (n b0 b1 b2 b3 : Nat) (h0 : 128 <= b0) (g0 : b0 < 256) (g1 : b1 < 256) (g2 : b2 < 256) (g3 : b3 < 256) : (decodeN n b0 b1 b2 b3).2 = szN n b0 b1 b2 b3 /\ 128 <= (decodeN n b0 b1 b2 b3).1 := by
 unfold decodeN szN
 rw [if_neg (by omega)]
 by_cases c1 : b0 / 32 = 6 /\ (1 < n /\ b1 / 64 = 2)
 ·rw [if_pos c1]
  by_cases d1 : b0 % 32 * 64 + b1 % 64 ≥ 128
  ·rw [if_pos d1, if_pos (by omega)]
   exact ⟨rfl, by dsimp only; omega⟩
  ·rw [if_neg d1, if_neg (by omega), if_neg (by omega), if_neg (by omega)]
   exact ⟨rfl, by decide⟩
 ·rw [if_neg c1]
  by_cases c2 : b0 / 16 = 14 /\ (1 < n /\ b1 / 64 = 2) /\ (2 < n /\ b2 / 64 = 2)
  ·rw [if_pos c2]
   by_cases d2 : b0 % 16 * 4096 + b1 % 64 * 64 + b2 % 64 ≥ 2048 /\ (b0 % 16 * 4096 + b1 % 64 * 64 + b2 % 64 < 55296 \/ (57344 <= b0 % 16 * 4096 + b1 % 64 * 64 + b2 % 64 /\ b0 % 16 * 4096 + b1 % 64 * 64 + b2 % 64 <= 1114111))
   ·rw [if_pos d2, if_neg (by omega), if_pos (by omega)]
    exact ⟨rfl, by dsimp only; omega⟩
   ·rw [if_neg d2, if_neg (by omega), if_neg (by omega), if_neg (by omega)]
    exact ⟨rfl, by decide⟩
  ·rw [if_neg c2]
   by_cases c3 : b0 / 8 = 30 /\ (1 < n /\ b1 / 64 = 2) /\ (2 < n /\ b2 / 64 = 2) /\ (3 < n /\ b3 / 64 = 2)
   ·rw [if_pos c3]
    by_cases d3 : b0 % 8 * 262144 + b1 % 64 * 4096 + b2 % 64 * 64 + b3 % 64 ≥ 65536 /\ (b0 % 8 * 262144 + b1 % 64 * 4096 + b2 % 64 * 64 + b3 % 64 < 55296 \/ (57344 <= b0 % 8 * 262144 + b1 % 64 * 4096 + b2 % 64 * 64 + b3 % 64 /\ b0 % 8 * 262144 + b1 % 64 * 4096 + b2 % 64 * 64 + b3 % 64 <= 1114111))
    ·rw [if_pos d3, if_neg (by omega), if_neg (by omega), if_pos (by omega)]
     exact ⟨rfl, by dsimp only; omega⟩
    ·rw [if_neg d3, if_neg (by omega), if_neg (by omega), if_neg (by omega)]
     exact ⟨rfl, by decide⟩
   ·rw [if_neg c3, if_neg (by omega), if_neg (by omega), if_neg (by omega)]
    exact ⟨rfl, by decide⟩
def bP (s : ByteArray) (i : Nat) : Nat := (s.get! i).toNat
theorem iO (s : ByteArray) (i : Nat) : bP s i < 256 := UInt8.toNat_lt _
theorem su (s : ByteArray) (i : Nat) : s.data.toList.getD i 0 = s.get! i := by
 cases s with
 |mk d =>
  show d.toList.getD i 0 = d[i]!
  by_cases h : i < d.size
  ·rw [getElem!_pos d i h]; simp [List.getD, h]
  ·rw [getElem!_neg d i h]; simp [List.getD, h]; rfl
theorem nG (s : ByteArray) (a j : Nat) : (s.extract a s.size).get! j = s.get! (a + j) := by
 by_cases h : a + j < s.size
 ·rw [<- su, <- su, Lib.extract_data]
  simp only [List.getD, List.getElem?_take, List.getElem?_drop]
  rw [if_pos (by omega)]
 ·rw [<- su, <- su, Lib.extract_data]
  have hz : s.data.toList.length = s.size := (Lib.size_eq s).symm
  simp only [List.getD, List.getElem?_take, List.getElem?_drop]
  rw [if_neg (by omega), List.getElem?_eq_none (by omega)]
theorem xU (s : ByteArray) (a : Nat) (h : a < s.size) : Lib.decodeGo (s.extract a s.size) = decodeN (s.size - a) (bP s a) (bP s (a + 1)) (bP s (a + 2)) (bP s (a + 3)) := by
 have hz := size_extract s a s.size (Nat.le_refl _)
 unfold decodeGo
 rw [if_neg (by omega), decode_at, hz, nG, nG, nG, nG]
 rfl
def rcN (s : ByteArray) (a : Nat) : Nat := if bP s a < 128 then bP s a else 128
def rzN (s : ByteArray) (a : Nat) : Nat := if bP s a < 128 then 1 else szN (s.size - a) (bP s a) (bP s (a + 1)) (bP s (a + 2)) (bP s (a + 3))
theorem rN (s : ByteArray) (a : Nat) (h : a < s.size) : rsz s a = rzN s a /\ (∀ c : Cls, hasC c (qx s a : Int) = hn c (rcN s a)) := by
 unfold rsz qx rcN rzN
 rw [xU s a h]
 by_cases hl : bP s a < 128
 ·rw [if_pos hl, if_pos hl]
  unfold decodeN
  rw [if_pos hl]
  exact ⟨rfl, fun c => rfl⟩
 ·rw [if_neg hl, if_neg hl]
  obtain ⟨h1, h2⟩ := vP (s.size - a) (bP s a) (bP s (a + 1)) (bP s (a + 2)) (bP s (a + 3)) (by omega) (iO _ _) (iO _ _) (iO _ _) (iO _ _)
  refine ⟨h1, fun c => ?_⟩
  rw [dx _ _ (Nat.le_refl _)]
  exact dx c _ h2
def ck (s : ByteArray) : Nat -> Nat -> List (Nat × Nat × Nat)
 | 0, _ => []
 |f + 1, a => if a < s.size then (rcN s a, a, rzN s a) :: ck s f (a + rzN s a) else []
def lR (l : List (Nat × Nat × Nat)) : List (Nat × Nat) := l.map fun x => (x.1, x.2.1 + x.2.2)
inductive pB : List (Nat × Nat) -> List (Nat × Nat) -> Prop
 |nil : pB [] []
 |cons {x y : Nat × Nat} {a b : List (Nat × Nat)} : (x.2 = y.2 /\ ∀ c : Cls, hasC c (x.1 : Int) = hasC c (y.1 : Int)) -> pB a b -> pB (x :: a) (y :: b)
theorem wg : ∀ (N : Nat) (l l' : List (Nat × Nat)), l.length <= N -> pB l l' -> ∀ (M : Nat) (K : List Tk), ksz K <= M -> ∀ pl, ev l pl K = ev l' pl K := by
 intro N
 induction N with
 |zero =>
  intro l l' hl hs M K _ pl
  cases hs with
  |nil => rfl
  |cons h hs => simp at hl
 |succ N IH =>
  intro l l' hl hs M
  induction M with
  |zero =>
   intro K hK pl
   match K, hK with
   | [], _ =>
    rw [fc, fc]
    cases hs <;> rfl
   |t :: k, hK => exfalso; cases t with
    |ex x => cases x <;> simp [ksz, Tk.sz, Xp.sz] at hK
    |gend n => simp [ksz, Tk.sz] at hK
    |rend x z f => cases f <;> simp [ksz, Tk.sz] at hK
  |succ M ih =>
   intro K hK pl
   match K, hK with
   | [], _ =>
    rw [fc, fc]
    cases hs <;> rfl
   |.gend n :: k, hK => rw [eW, eW, ih k (by simp [ksz, Tk.sz] at hK; omega)]
   |.rend x z true :: k, hK => rw [dS, dS]
   |.rend x z false :: k, hK => rw [fu, fu, ih (.ex x :: .rend x z true :: k) (by simp [ksz, Tk.sz] at hK ⊢; omega), ih k (by simp [ksz, Tk.sz] at hK ⊢; omega)]
   |.ex .emp :: k, hK => rw [gq, gq]; exact ih _ (by simp [ksz, Tk.sz, Xp.sz] at hK ⊢; omega) pl
   |.ex (.set c) :: k, hK =>
    cases hs with
    |nil => rfl
    |@cons x y l l' h hs =>
     obtain ⟨r, p⟩ := x
     obtain ⟨r', p'⟩ := y
     obtain ⟨rfl, h2⟩ := h
     rw [iu, iu, h2 c]
     dsimp only
     rw [IH l l' (by simp at hl; omega) hs _ _ (Nat.le_refl _)]
   |.ex (.cat a b) :: k, hK => rw [gh, gh]; exact ih _ (by simp [ksz, Tk.sz, Xp.sz] at hK ⊢; omega) pl
   |.ex (.alt a b) :: k, hK => rw [fH, fH, ih (.ex a :: k) (by simp [ksz, Tk.sz, Xp.sz] at hK ⊢; omega), ih (.ex b :: k) (by simp [ksz, Tk.sz, Xp.sz] at hK ⊢; omega)]
   |.ex (.star a z) :: k, hK => rw [ei, ei, ih (.ex a :: .rend a z true :: k) (by simp [ksz, Tk.sz, Xp.sz] at hK ⊢; omega), ih k (by simp [ksz, Tk.sz, Xp.sz] at hK ⊢; omega)]
   |.ex (.may a z) :: k, hK => rw [f0, f0, ih (.ex a :: k) (by simp [ksz, Tk.sz, Xp.sz] at hK ⊢; omega), ih k (by simp [ksz, Tk.sz, Xp.sz] at hK ⊢; omega)]
   |.ex (.grp a n) :: k, hK => rw [gz, gz, ih (.ex a :: .gend n :: k) (by simp [ksz, Tk.sz, Xp.sz] at hK ⊢; omega)]
theorem mN (s : ByteArray) : ∀ f a, pB (rns s f a) (lR (ck s f a))
 | 0, a => .nil
 |f + 1, a => by
  unfold rns ck
  by_cases h : a < s.size
  ·obtain ⟨h1, h2⟩ := rN s a h
   rw [if_pos h, if_pos h, h1]
   exact .cons ⟨rfl, fun c => h2 c⟩ (mN s f _)
  ·rw [if_neg h, if_neg h]
   exact .nil
theorem tb (q : Pt) (hq : POK q) (s : ByteArray) : dC (bx q) s = (ev (lR (ck s s.size 0)) 0 [.ex (den q)]).map (app cA) := by
 rw [vE q hq s, wg _ _ _ (Nat.le_refl _) (mN s s.size 0) _ _ (Nat.le_refl _)]
theorem nF (s : ByteArray) (a : Nat) : 1 <= rzN s a := by
 unfold rzN szN
 repeat' split
 all_goals omega
theorem qL (s : ByteArray) (a : Nat) (h : a < s.size) : a + rzN s a <= s.size := by
 have h1 := rN s a h
 rw [<- h1.1]
 exact (rl s a h).2
end Go.Proofs.YtfnanjbleifjkaaGreatDoor.G
