import Derived.Test.YtfnanjbleifjkaaGreatDoorM28
import Derived.Test.YtfnanjbleifjkaaGreatDoorM22
set_option linter.unusedVariables false
set_option linter.unusedSimpArgs false
set_option maxHeartbeats 8000000
set_option maxRecDepth 100000
namespace Go.Proofs.YtfnanjbleifjkaaGreatDoor.G
inductive Sg (code : List Ins) : Option Nat -> Nat -> Xp -> Nat -> Prop
 |emp (pc) : Sg code none pc .emp pc
 |set {pc c} : code[pc]? = some (pO c) -> Sg code none pc (.set c) (pc + 1)
 |cat {pc a p1 b q} : Sg code none pc a p1 -> Sg code none p1 b q -> Sg code none pc (.cat a b) q
 |alt {pc a q b e} : Sg code (some e) pc a q -> Sg code none q b e -> Sg code none pc (.alt a b) e
 |star {pc a z p1} : code[pc]? = some (dl z (pc + 1) (p1 + 2)) -> code[pc + 1]? = some (bare 4) -> Sg code none (pc + 2) a p1 -> code[p1]? = some (bare 5) -> code[p1 + 1]? = some (eD pc) -> Sg code none pc (.star a z) (p1 + 2)
 |may {pc a z e} : code[pc]? = some (dl z (pc + 1) e) -> Sg code none (pc + 1) a e -> Sg code none pc (.may a z) e
 |grp {pc a n p1} : code[pc]? = some (ic (2 * (n - 1))) -> Sg code none (pc + 1) a p1 -> code[p1]? = some (ic (2 * (n - 1) + 1)) -> Sg code none pc (.grp a n) (p1 + 1)
 |one {e pc a p1} : code[pc]? = some (dl false (pc + 1) (p1 + 1)) -> Sg code none (pc + 1) a p1 -> code[p1]? = some (eD e) -> Sg code (some e) pc a (p1 + 1)
 |two {e pc a q b q'} : Sg code (some e) pc a q -> Sg code (some e) q b q' -> Sg code (some e) pc (.alt a b) q'
variable {code : List Ins} {n pc pl : Nat} {x : Xp}
def eR (code : List Ins) (n : Nat) (c : List Ins) : Prop := ∀ j, j < c.length -> code[n + j]? = c[j]?
theorem eR.left {a b : List Ins} (h : eR code n (a ++ b)) : eR code n a := fun j hj => by
 rw [h j (by rw [List.length_append]; omega), List.getElem?_append_left hj]
theorem eR.right {a b : List Ins} (h : eR code n (a ++ b)) {m : Nat} (hm : a.length = m) : eR code (n + m) b := fun j hj => by
 subst hm
 rw [Nat.add_assoc, h (a.length + j) (by rw [List.length_append]; omega), List.getElem?_append_right (by omega)]
 congr 1
 omega
theorem eR.head {i : Ins} {r : List Ins} (h : eR code n (i :: r)) : code[n]? = some i := by
 have := h 0 (by simp)
 simpa using this
theorem eR.tail {i : Ins} {r : List Ins} (h : eR code n (i :: r)) : eR code (n + 1) r := eR.right (a := [i]) h rfl
theorem xH {f : Nat -> List Ins} {z : Bool} {s e : Nat} (hf : ∀ n, (f n).length = s) (hs : ∀ n, eR code n (f n) -> Sg code none n x (n + s)) (o : Xp) (ho : Sg code none e o e) : ∀ (m n : Nat), n + (s + 1) * m = e -> eR code n (lL f z s e m n) -> Sg code none n (upX x z m o) e := by
 intro m
 induction m with
 |zero =>
  intro n he hl
  have : n = e := by simpa using he
  subst this
  exact ho
 |succ m ih =>
  intro n he hl
  rw [gd]
  rw [lL] at hl
  rw [Nat.mul_succ] at he
  exact .may hl.head (.cat (hs _ hl.tail.left) (ih _ (by omega) (hl.tail.right (hf _))))
theorem rS {f : Nat -> List Ins} {s q : Nat} (hf : ∀ n, (f n).length = s) (hs : ∀ n, eR code n (f n) -> Sg code none n x (n + s)) (o : Xp) : ∀ (m n : Nat), Sg code none (n + s * m) o q -> eR code n (gY f s m n) -> Sg code none n (kB x m o) q := by
 intro m
 induction m with
 |zero => intro n ho hl; exact ho
 |succ m ih =>
  intro n ho hl
  rw [et]
  rw [gY] at hl
  rw [Nat.mul_succ] at ho
  exact .cat (hs _ hl.left) (ih _ (by rw [show n + s + s * m = n + (s * m + s) by omega]; exact ho) (hl.right (hf _)))
mutual
theorem fL : ∀ (p : Pt), POK p -> ∀ n, eR code n (cde p n) -> Sg code none n (den p) (n + isz p)
 |.single c, _, n, h => by rw [cde] at h; exact .set h.head
 |.seq l, hp, n, h => by
  rw [cde] at h
  rw [den, isz]
  exact rs l hp n n .emp (.emp n) h
 |.alt l, hp, n, h => by
  rw [cde] at h
  rw [den]
  exact wi l hp.1 n _ (by rw [isz]) h
 |.wrap p g, hp, n, h => by
  rw [cde] at h
  rw [den, isz]
  split
  ·next hg => rw [if_pos hg] at h; exact fL p hp.1 n h
  ·next hg =>
   rw [if_neg hg] at h
   have h1 := fL p hp.1 _ h.tail.left
   have h2 := (h.tail.right (aL p _)).head
   rw [show n + (isz p + 2) = n + 1 + isz p + 1 by omega]
   exact .grp h.head h1 h2
 |.count p le mo z, hp, n, h => by
  rw [cde] at h
  rw [den, isz]
  unfold ek
  have hs : ∀ n, eR code n (cde p n) -> Sg code none n (den p) (n + isz p) := fL p hp.1
  by_cases hm : mo = -1
  ·rw [if_pos hm] at h
   rw [if_pos hm, if_pos (by omega)]
   refine rS (aL p) hs _ _ _ ?_ h.left
   have h1 := h.right (fe _ _ (aL p) _ _)
   have h2 := hs _ h1.tail.tail.left
   have h3 := h1.tail.tail.right (aL p _)
   have h4 := Sg.star (z := z) (pc := n + isz p * le) (p1 := n + isz p * le + 2 + isz p) (by rw [h1.head]; congr 2; omega) h1.tail.head h2 h3.head h3.tail.head
   rw [show n + (isz p * le + (isz p + 4)) = n + isz p * le + 2 + isz p + 2 by omega]
   exact h4
  ·rw [if_neg hm] at h
   rw [if_neg hm]
   have hmo : ¬ mo < 0 := by have c := hp.2.2.2; dsimp only at c; omega
   rw [if_neg hmo]
   refine rS (aL p) hs _ _ _ ?_ h.left
   rw [<- Nat.add_assoc]
   exact xH (aL p) hs _ (.emp _) _ _ rfl (h.right (fe _ _ (aL p) _ _))
theorem rs : ∀ (l : List Pt), iV l -> ∀ (pc n : Nat) (x : Xp), Sg code none pc x n -> eR code n (jP l n) -> Sg code none pc (gW l x) (n + b5 l)
 | [], _, pc, n, x, hx, h => by rw [gW]; exact hx
 |p :: l, hp, pc, n, x, hx, h => by
  rw [jP] at h
  rw [gW, b5, <- Nat.add_assoc]
  exact rs l hp.2 pc _ _ (.cat hx (fL p hp.1 n h.left)) (h.right (aL p _))
theorem wi : ∀ (l : List Pt), iV l -> ∀ (n e : Nat), n + (b5 l + 2 * (l.length - 1)) = e -> eR code n (fM l n e) -> Sg code none n (gX l) e
 | [], hp, n, e, he, h => by
  rw [gX]
  simp [b5] at he
  rw [<- he]; exact .emp n
 | [p], hp, n, e, he, h => by
  rw [fM] at h
  rw [gX, iF]
  have := fL p hp.1 n h
  simp [b5] at he
  rw [<- he]; exact this
 |p :: q :: l, hp, n, e, he, h => by
  rw [fM] at h
  rw [gX]
  have h1 := fL p hp.1 _ h.tail.left
  have h2 := h.tail.right (aL p _)
  have h3 : Sg code (some e) n (den p) (n + isz p + 2) := by
   have := Sg.one (e := e) (pc := n) (p1 := n + 1 + isz p) (by rw [h.head]; congr 2; omega) h1 h2.head
   rw [show n + isz p + 2 = n + 1 + isz p + 1 by omega]; exact this
  refine rZ (q :: l) hp.2 (by simp) n _ e _ (by simp [b5] at he ⊢; omega) h3 ?_
  have h4 := h2.tail
  rw [show n + 1 + isz p + 1 = n + isz p + 2 by omega] at h4
  exact h4
theorem rZ : ∀ (l : List Pt), iV l -> l ≠ [] -> ∀ (pc n e : Nat) (x : Xp), n + (b5 l + 2 * (l.length - 1)) = e -> Sg code (some e) pc x n -> eR code n (fM l n e) -> Sg code none pc (iF l x) e
 | [], hp, h0, pc, n, e, x, he, hx, h => absurd rfl h0
 | [p], hp, h0, pc, n, e, x, he, hx, h => by
  rw [fM] at h
  rw [iF, iF]
  have := fL p hp.1 n h
  simp [b5] at he
  rw [he] at this
  exact .alt hx this
 |p :: q :: l, hp, h0, pc, n, e, x, he, hx, h => by
  rw [fM] at h
  rw [iF]
  have h1 := fL p hp.1 _ h.tail.left
  have h2 := h.tail.right (aL p _)
  have h3 : Sg code (some e) n (den p) (n + isz p + 2) := by
   have := Sg.one (e := e) (pc := n) (p1 := n + 1 + isz p) (by rw [h.head]; congr 2; omega) h1 h2.head
   rw [show n + isz p + 2 = n + 1 + isz p + 1 by omega]; exact this
  refine rZ (q :: l) hp.2 (by simp) pc _ e _ (by simp [b5] at he ⊢; omega) (.two hx h3) ?_
  have h4 := h2.tail
  rw [show n + 1 + isz p + 1 = n + isz p + 2 by omega] at h4
  exact h4
end
inductive VEv (code : List Ins) : List (Nat × Nat) -> Nat -> Nat × Nat -> Nat -> Option Mk -> Prop
 |take0 {pl pc m i} : code[pc]? = some i -> i.op = 0 -> VEv code [] pl (pc, m) 1 none
 |takeN {r p l pl pc m i} : code[pc]? = some i -> i.op = 0 -> i.takes (r : Int) = false -> VEv code ((r, p) :: l) pl (pc, m) 1 none
 |takeY {r p l pl pc m i n v} : code[pc]? = some i -> i.op = 0 -> i.takes (r : Int) = true -> VEv code l p (pc + 1, 1) n v -> VEv code ((r, p) :: l) pl (pc, m) 1 v
 |acc {l pl pc m i} : code[pc]? = some i -> i.op = 6 -> VEv code l pl (pc, m) 1 (if l.isEmpty then some [] else none)
 |split {l pl pc m i n0 n1 v0 v1} : code[pc]? = some i -> i.op = 1 -> VEv code l pl (i.t0.toNat, m) n0 v0 -> VEv code l pl (i.t1.toNat, m) n1 v1 -> VEv code l pl (pc, m) (n0 + n1 + 1) (v0.or v1)
 |jump {l pl pc m i n v} : code[pc]? = some i -> i.op = 2 -> VEv code l pl (i.t0.toNat, m) n v -> VEv code l pl (pc, m) (n + 1) v
 |note {l pl pc m i n v} : code[pc]? = some i -> i.op = 3 -> VEv code l pl (pc + 1, m) n v -> VEv code l pl (pc, m) (n + 1) (v.map ((i.sl.toNat, pl) :: ·))
 |start {l pl pc m i n v} : code[pc]? = some i -> i.op = 4 -> VEv code l pl (pc + 1, 0) n v -> VEv code l pl (pc, m) (n + 1) v
 |endN {l pl pc m i} : code[pc]? = some i -> i.op = 5 -> m ≠ 1 -> VEv code l pl (pc, m) 1 none
 |endY {l pl pc m i n v} : code[pc]? = some i -> i.op = 5 -> m = 1 -> VEv code l pl (pc + 1, 1) n v -> VEv code l pl (pc, m) (n + 1) v
theorem VEv.pos {l : List (Nat × Nat)} {h : Nat × Nat} {v : Option Mk} (e : VEv code l pl h n v) : 1 <= n := by cases e <;> omega
theorem VEv.det {l : List (Nat × Nat)} {h : Nat × Nat} {n' : Nat} {v v' : Option Mk} (e : VEv code l pl h n v) (e' : VEv code l pl h n' v') : n = n' /\ v = v' := by
 induction e generalizing n' v' with
 |take0 hc ho => cases e' <;> simp_all
 |takeN hc ho ht => cases e' <;> simp_all
 |takeY hc ho ht _ ih =>
  cases e' with
  |takeN hc' ho' ht' => simp_all
  |takeY hc' ho' ht' h' => exact ⟨rfl, (ih h').2⟩
  |_ => simp_all
 |acc hc ho => cases e' <;> simp_all
 |split hc ho _ _ ih0 ih1 =>
  cases e' with
  |split hc' ho' h0 h1 =>
   rw [hc] at hc'
   cases hc'
   obtain ⟨rfl, rfl⟩ := ih0 h0
   obtain ⟨rfl, rfl⟩ := ih1 h1
   exact ⟨rfl, rfl⟩
  |_ => simp_all
 |jump hc ho _ ih =>
  cases e' with
  |jump hc' ho' h0 =>
   rw [hc] at hc'
   cases hc'
   obtain ⟨rfl, rfl⟩ := ih h0
   exact ⟨rfl, rfl⟩
  |_ => simp_all
 |note hc ho _ ih =>
  cases e' with
  |note hc' ho' h0 =>
   rw [hc] at hc'
   cases hc'
   obtain ⟨rfl, rfl⟩ := ih h0
   exact ⟨rfl, rfl⟩
  |_ => simp_all
 |start hc ho _ ih =>
  cases e' with
  |start hc' ho' h0 =>
   obtain ⟨rfl, rfl⟩ := ih h0
   exact ⟨rfl, rfl⟩
  |_ => simp_all
 |endN hc ho hm => cases e' <;> simp_all
 |endY hc ho hm _ ih =>
  cases e' with
  |endY hc' ho' hm' h0 =>
   obtain ⟨rfl, rfl⟩ := ih h0
   exact ⟨rfl, rfl⟩
  |_ => simp_all
def frK : List Tk -> List Tk
 | [] => []
 |.rend x z _ :: k => .rend x z true :: dw k
 |.ex x :: k => .ex x :: frK k
 |.gend n :: k => .gend n :: frK k
theorem qu : ∀ k : List Tk, dw (frK k) = dw k
 | [] => rfl
 |.rend x z _ :: k => by simp only [frK, dw, List.map_cons, Tk.old]; rw [show List.map Tk.old (List.map Tk.old k) = List.map Tk.old k from kr k]
 |.ex x :: k => by have := qu k; simp only [frK, dw, List.map_cons] at this ⊢; rw [this]
 |.gend n :: k => by have := qu k; simp only [frK, dw, List.map_cons] at this ⊢; rw [this]
def flK (m : Nat) (k : List Tk) : List Tk := if m = 1 then dw k else frK k
theorem vq (m : Nat) (k : List Tk) : dw (flK m k) = dw k := by
 unfold flK
 split
 ·exact kr k
 ·exact qu k
theorem e7 (m : Nat) (x : Xp) (k : List Tk) : flK m (.ex x :: k) = .ex x :: flK m k := by unfold flK; split <;> rfl
theorem sq (m n : Nat) (k : List Tk) : flK m (.gend n :: k) = .gend n :: flK m k := by unfold flK; split <;> rfl
theorem xi (k : List Tk) : flK 1 k = dw k := rfl
theorem rH (k : List Tk) : flK 0 k = frK k := rfl
def lO (code : List Ins) (r : Nat) (k : List Tk) (pc : Nat) : Prop := ∀ l pl m, m <= 1 -> 2 * l.length + m <= r -> ∃ n, VEv code l pl (pc, m) n (ev l pl (flK m k))
theorem lO.mono {r r' : Nat} {k : List Tk} (h : lO code r k pc) (hr : r' <= r) : lO code r' k pc := fun l pl m hm hl => h l pl m hm (by omega)
theorem VEv.splits {l : List (Nat × Nat)} {m a b n0 n1 : Nat} {z : Bool} {v0 v1 : Option Mk} (hc : code[pc]? = some (dl z a b)) (h0 : VEv code l pl (a, m) n0 v0) (h1 : VEv code l pl (b, m) n1 v1) : ∃ n, VEv code l pl (pc, m) n (bN z v0 v1) := by
 cases z with
 |false => exact ⟨_, .split hc rfl h0 h1⟩
 |true => exact ⟨_, .split hc rfl h1 h0⟩
def SgP (code : List Ins) (r : Nat) (e : Option Nat) (pc : Nat) (x : Xp) (q : Nat) : Prop := match e with
 |none => ∀ k, lO code r k q -> lO code r (.ex x :: k) pc
 |some e => ∀ k, lO code r k e -> ∀ l pl m n v, m <= 1 -> 2 * l.length + m <= r -> VEv code l pl (q, m) n v -> ∃ n', VEv code l pl (pc, m) n' ((ev l pl (.ex x :: flK m k)).or v)
theorem vv (c : Cls) (r : Nat) : (pO c).takes (r : Int) = hasC c (r : Int) := by
 unfold Ins.takes
 simp only [pO, beq_self_eq_true, Bool.true_and]
 rfl
theorem wv : ∀ (r : Nat) {e : Option Nat} {pc : Nat} {x : Xp} {q : Nat}, Sg code e pc x q -> SgP code r e pc x q := by
 intro r
 induction r using Nat.strongRecOn with
 |_ r IH =>
 intro e pc x q h
 induction h with
 |emp pc =>
  intro k hk l pl m hm hl
  rw [e7, gq]
  exact hk l pl m hm hl
 |@set pc c hc =>
  intro k hk l pl m hm hl
  rw [e7]
  match l, hl with
  | [], _ => rw [gS]; exact ⟨_, .take0 hc rfl⟩
  |(rn, p) :: l, hl =>
   rw [iu, vq, <- vv]
   cases ht : (pO c).takes (rn : Int) with
   |false => exact ⟨_, .takeN hc rfl ht⟩
   |true =>
    obtain ⟨n, hn⟩ := hk l p 1 (Nat.le_refl _) (by simp at hl; omega)
    exact ⟨_, .takeY hc rfl ht hn⟩
 |@cat pc a p1 b q _ _ ia ib =>
  intro k hk l pl m hm hl
  rw [e7, gh]
  have h1 := ia _ (ib k hk) l pl m hm hl
  rw [e7, e7] at h1
  exact h1
 |@alt pc a q b e _ _ ia ib =>
  intro k hk l pl m hm hl
  rw [e7, fH]
  obtain ⟨n, hn⟩ := ib k hk l pl m hm hl
  rw [e7] at hn
  exact ia k hk l pl m _ _ hm hl hn
 |@star pc a z p1 h0 h1 hs h2 h3 ia =>
  intro k hk l pl m hm hl
  rw [e7, ei]
  have hg : lO code (2 * l.length) (.rend a z true :: k) p1 := by
   intro l2 pl2 m2 hm2 hl2
   rcases (show m2 = 0 \/ m2 = 1 by omega) with rfl | rfl
   ·rw [rH, frK, dS]
    exact ⟨_, .endN h2 rfl (by omega)⟩
   ·have hk2 := IH (2 * l2.length + 1) (by omega) (Sg.star h0 h1 hs h2 h3) k (hk.mono (by omega)) l2 pl2 1 (Nat.le_refl _) (Nat.le_refl _)
    obtain ⟨n, hn⟩ := hk2
    rw [e7, ei] at hn
    rw [xi]
    simp only [dw, List.map_cons, Tk.old]
    rw [fu]
    exact ⟨_, .endY h2 rfl rfl (.jump h3 rfl (by show VEv code l2 pl2 (Int.toNat (pc : Int), 1) n _; exact hn))⟩
  have hin := IH
  obtain ⟨n0, hn0⟩ : ∃ n0, VEv code l pl (pc + 2, 0) n0 (ev l pl (.ex a :: .rend a z true :: flK m k)) := by
   have h9 : ∃ n, VEv code l pl (pc + 2, 0) n (ev l pl (flK 0 (.ex a :: .rend a z true :: k))) := by
    rcases Nat.lt_or_ge (2 * l.length) r with hlt | hge
    ·exact IH _ hlt hs _ hg l pl 0 (by omega) (by omega)
    ·have er : r = 2 * l.length := by omega
     subst er
     exact ia _ hg l pl 0 (by omega) (by omega)
   obtain ⟨n, hn⟩ := h9
   refine ⟨n, ?_⟩
   rw [rH] at hn
   simp only [frK] at hn
   rw [(Eqv.ex (x := a) (Eqv.fresh (x := a) (z := z) (k := flK m k) (k' := dw k) (by rw [vq, kr]))).eq]
   exact hn
  obtain ⟨n1, hn1⟩ := hk l pl m hm hl
  exact VEv.splits h0 (.start h1 rfl hn0) hn1
 |@may pc a z e h0 _ ia =>
  intro k hk l pl m hm hl
  rw [e7, f0]
  obtain ⟨n0, hn0⟩ := ia k hk l pl m hm hl
  rw [e7] at hn0
  obtain ⟨n1, hn1⟩ := hk l pl m hm hl
  exact VEv.splits h0 hn0 hn1
 |@grp pc a n p1 h0 _ h1 ia =>
  intro k hk l pl m hm hl
  rw [e7, gz]
  have hg : lO code r (.gend n :: k) p1 := by
   intro l2 pl2 m2 hm2 hl2
   rw [sq, eW]
   obtain ⟨n1, hn1⟩ := hk l2 pl2 m2 hm2 hl2
   have := VEv.note h1 rfl hn1
   exact ⟨_, this⟩
  obtain ⟨n0, hn0⟩ := ia _ hg l pl m hm hl
  rw [e7, sq] at hn0
  have := VEv.note h0 rfl hn0
  exact ⟨_, this⟩
 |@one e pc a p1 h0 _ h1 ia =>
  intro k hk l pl m n v hm hl hv
  have hg : lO code r k p1 := by
   intro l2 pl2 m2 hm2 hl2
   obtain ⟨n1, hn1⟩ := hk l2 pl2 m2 hm2 hl2
   exact ⟨_, .jump h1 rfl (by show VEv code l2 pl2 (Int.toNat (e : Int), m2) n1 _; exact hn1)⟩
  obtain ⟨n0, hn0⟩ := ia k hg l pl m hm hl
  rw [e7] at hn0
  exact VEv.splits h0 hn0 hv
 |@two e pc a q b q' _ _ ia ib =>
  intro k hk l pl m n v hm hl hv
  obtain ⟨n1, hn1⟩ := ib k hk l pl m n v hm hl hv
  obtain ⟨n0, hn0⟩ := ia k hk l pl m _ _ hm hl hn1
  rw [fH, Option.or_assoc]
  exact ⟨_, hn0⟩
theorem wN (q : Pt) (hq : POK q) (l : List (Nat × Nat)) (pl : Nat) : ∃ n, VEv (bx q) l pl (0, 0) n (ev l pl [.ex (den q)]) := by
 have hl : eR (bx q) 0 (cde q 0) := fun j hj => by rw [jg, Nat.zero_add, List.getElem?_append_left hj]
 have hs := fL q hq 0 hl
 rw [Nat.zero_add] at hs
 have hacc : (bx q)[isz q]? = some (bare 6) := by
  rw [jg, List.getElem?_append_right (by rw [aL]; omega), aL]
  simp
 have hg : lO (bx q) (2 * l.length) [] (isz q) := by
  intro l2 pl2 m2 hm2 hl2
  have e : flK m2 [] = [] := by unfold flK; split <;> rfl
  rw [e, fc]
  exact ⟨_, .acc hacc rfl⟩
 exact wv (2 * l.length) hs [] hg l pl 0 (by omega) (by omega)
open Go.RowKit
theorem yr {l : List Nat} {w w' : World} (h : Rx.Ex l w w') : Ex l w w' := ⟨h.os, h.tape, h.output, h.size, h.block⟩
theorem lF {w : World} {b : Nat} {x : Value} {y0 y1 y2 y3 y4 y5 y6 y7 y8 y9 : Int} {sl : List Int} (hy : sl = [y0, y1, y2, y3, y4, y5, y6, y7, y8, y9]) (h : BK w b (.cells #[x, .int .i64 y0, .int .i64 y1, .int .i64 y2, .int .i64 y3, .int .i64 y4, .int .i64 y5, .int .i64 y6, .int .i64 y7, .int .i64 y8, .int .i64 y9] 207 (0, 0))) : w.rangeAt b 1 (bG sl) := by
 subst hy
 intro j v hv
 rw [h.all.1]
 match j, hv with
 | 0, hv => exact hv
 | 1, hv => exact hv
 | 2, hv => exact hv
 | 3, hv => exact hv
 | 4, hv => exact hv
 | 5, hv => exact hv
 | 6, hv => exact hv
 | 7, hv => exact hv
 | 8, hv => exact hv
 | 9, hv => exact hv
 |n + 10, hv => simp [bG] at hv
theorem vK (code : List Ins) (hok : cP code) (htk : eF code) (hcl : code.length <= 100000) (u gr base q top ng cg cc sc B mb : Nat) (sp : Option Addr) (nm : List (ByteArray × Nat)) (r pl : Int) (nowV nextV : Value) (w : World) (ts : List Th) (rc : List Int)
  (hp : PX w q top code ng cg cc sp sc B mb nm) (hr : qr w u gr base q code.length nowV nextV ts rc) (hr0 : 0 <= r) (htu : top <= u) (htg : top <= gr) :
  Calls Tryz.prog 54 #[.pointer (some ⟨u, 0, none⟩), .int .i32 r, .int .i64 pl] w fun e w' => e = .returned (.bool (decide (0 < (cy code r pl ts ([], rc)).1.length))) /\ (∃ nowV' nextV', qr w' u gr base q code.length nowV' nextV' (cy code r pl ts ([], rc)).1 (cy code r pl ts ([], rc)).2) /\ EB top [] w w' := by
 obtain ⟨nn, nx, hno⟩ := hr.next
 obtain ⟨np, nc, rfl, hnz, hnb, hnn⟩ := sO hno
 obtain ⟨p0, c0, rfl⟩ := aw hr.now
 obtain ⟨n, hn⟩ := exq (ts.length)
 obtain ⟨cn, hcn⟩ := exq (code.length)
 obtain ⟨res, hres⟩ := exq (cy code r pl ts ([], rc))
 have hrok := iT code hok htk r pl ts ([], rc) hr.tok hr.rcl (fun _ h => by simp at h) (by simp)
 rw [<- hres] at hrok ⊢
 rw [<- hcn] at hr hrok ⊢
 have hur := hr.blk
 have hnow := hr.now
 rw [<- hn] at hur hnow
 obtain ⟨hcu, hfu⟩ := hur.all
 have HP := aa hp
 have HR := aa hr
 have HUR := aa hur
 have HNOW := aa hnow
 have HNZ := aa hnz
 have HNB := aa hnb
 have HNO := aa hno
 have HRES := aa hres
 have HNN := aa hn
 have HCN := aa hcn
 have HROK := aa hrok
 have HOK := aa hok
 have HTK := aa htk
 have hul := hr.ul
 have hgl := hr.gl
 have hug := hr.ug
 have hle := hr.le
 have hnc : n <= 100000 := by rw [hn]; have := hr.tlen; omega
 have hcl' : cn <= 100000 := by omega
 clear hp hr hnz hnb hno hur hnow hres hn hcn hrok hok htk hcl
 have hcap : (0 : Int) <= (nc : Int) := by omega
 go_enter Tryz.func54, Tryz.ntmps54
 go_wp2_with fail
 generalize hw1 : World.setCell _ (⟨u, 1, none⟩ : Addr) _ = w1
 have hx1 : Ex [u] w w1 := by rw [<- hw1]; exact (Ex.refl _ _).setCell (Or.inl (by simp)) _
 have hu1 : BK w1 u (.cells #[.pointer (some ⟨q, 0, none⟩), .slice np 0 nc, .slice np nn nc, .slice (some ⟨gr, 0, none⟩) cn cn] 202 (0, 0)) := by
  have h1 := BK.self HUR.O 1 (.slice np 0 nc)
  simp only [List.setIfInBounds_toArray, List.set_cons_zero, List.set_cons_succ] at h1
  rw [<- hw1]; exact h1
 have HX1 := aa hx1
 have HU1 := aa hu1
 clear hw1 hx1 hu1 hcu hfu
 go_loopg [25] n (fun gk i25 wr => ∃ (j : Nat) (nowV' : Value) (ts' : List Th) (rc' : List Int), j + gk = n /\ i25 = .int .i64 j /\ cy code r pl (ts.drop j) (ts', rc') = res /\ TOK cn ts' /\ ts'.length <= rc'.count pl /\ rc'.length = cn /\
  BK wr u (.cells #[.pointer (some ⟨q, 0, none⟩), nowV', .slice np nn nc, .slice (some ⟨gr, 0, none⟩) cn cn] 202 (0, 0)) /\ wr.ownsRow base 207 11 nowV' ts'.length (thL ts') /\ BK wr gr (.cells (bG rc').toArray 3 (0, 0)) /\
  wr.ownsRow base 207 11 (.slice p0 n c0) n (thL ts) /\ (∀ b, nowV'.ownBlock = some b -> (Value.slice p0 n c0).ownBlock ≠ some b) /\ EB top [] w wr)
 case atStart =>
  refine ⟨0, _, [], rc, by omega, rfl, HRES.O.symm, fun _ h => by simp at h, by simp, HR.O.rcl, HU1.O, ?_, ?_, ?_, fun b h1 h2 => ?_, ?_⟩
  ·exact aE HNZ.O HX1.O (by simpa using hul)
  ·exact HR.O.rcb.ex HX1.O (by simpa using fun h => hug h.symm)
  ·exact aE HNOW.O HX1.O (by simpa using hul)
  ·rw [HNB.O] at h1
   exact HR.O.apart b (by rw [<- HNN.O]; exact h2) h1
  ·exact (EB.ofEx HX1.O (by omega)).mono (Nat.le_refl _) (fun x hx hlt => by simp at hx; omega)
 case round =>
  obtain ⟨j, nowV', ts', rc', hj, rfl, hst, htok, hcnt, hrl, hur, hown, hgr, hold, hap, heb⟩ := hrel
  have HST := aa hst
  have HTOK := aa htok
  have HCNT := aa hcnt
  have HRL := aa hrl
  have HUR' := aa hur
  have HOWN := aa hown
  have HGR := aa hgr
  have HOLD := aa hold
  have HAP := aa hap
  have HEB := aa heb
  have hzr : w.heap.size <= wr.heap.size := heb.size
  have hul' := hur.lt
  obtain ⟨hcu, hfu⟩ := hur.all
  have hlen' : ts'.length <= cn := by have h1 := List.count_le_length (a := pl) (l := rc'); omega
  cases gk with
  |zero =>
   obtain rfl : j = n := by omega
   obtain ⟨p', c', rfl⟩ := aw hown
   have hrs : res = (ts', rc') := by rw [<- hst, HNN.O, List.drop_length]; rfl
   obtain ⟨m', hm'⟩ : ∃ m', m' = ts'.length := ⟨_, rfl⟩
   have HM := aa hm'
   rw [<- hm'] at hcu
   have HRS := aa hrs
   clear hst htok hcnt hrl hur hown hgr hold hap heb hj hm' hrs
   go_wp2_with fail
   go_ret
   have hb5 := BK.self HUR'.O 2 (.slice p0 j c0)
   simp only [List.setIfInBounds_toArray, List.set_cons_zero, List.set_cons_succ] at hb5
   rw [HRS.O]
   refine ⟨by rw [<- HM.O]; simp, ⟨_, _, ⟨hb5, dg HOWN.O hul _, ⟨_, _, dg HOLD.O hul _⟩, HAP.O, HGR.O.set (by simpa using fun h => hug h.symm) _, HRL.O, HTOK.O, hlen', hul, hgl, hug, by simp; omega⟩⟩, ?_⟩
   exact HEB.O.setCell (Or.inr (by simpa using htu)) _
  |succ g =>
   have hj' : j < ts.length := by rw [<- HNN.O]; omega
   have hjn : (j : Int) < (n : Int) := by omega
   have hold' := hold
   rw [HNN.O] at hold'
   obtain ⟨ngb, hp0, hngb, hngl, hngc, hrg⟩ := jH hold' (by omega)
   have htok0 := HR.O.tok
   obtain ⟨y0, y1, y2, y3, y4, y5, y6, y7, y8, y9, hy, hcl⟩ := jc hrg (fun t ht => (htok0 t ht).1) j hj'
   have hpc := (htok0 _ (List.getElem_mem hj')).2
   obtain ⟨k, hk⟩ := exq ((ts[j]'hj').pc)
   obtain ⟨sl, hsl⟩ := exq ((ts[j]'hj').sl)
   have hsl10 : sl.length = 10 := by rw [hsl]; exact (htok0 _ (List.getElem_mem hj')).1
   rw [<- hsl] at hy
   rw [<- hk] at hcl hpc
   obtain ⟨ci, hci⟩ : ∃ ci, code[k]? = some ci := ⟨_, List.getElem?_eq_getElem (by rw [<- HCN.O]; exact hpc)⟩
   have hstep : cy code r pl (ts.drop j) (ts', rc') = if ci.takes r then cy code r pl (ts.drop (j + 1)) (aV sl pl (wys (bE code (k + 1, 1))) (ts', rc')) else cy code r pl (ts.drop (j + 1)) (ts', rc') := by
    rw [List.drop_eq_getElem_cons hj', cy, <- hk, hci, <- hsl]
   have HSTP := aa hstep
   have hpr := HP.O.eb heb
   have hcode : ∀ o, o < 7 -> wr.cell? ⟨cg, k * 7 + o, none⟩ = ci.cells[o]? := fun o ho => by
    have h1 := dE code k o ci hci ho
    have h3 : k * 7 + o < (bO code).length := by rw [nl]; have := HCN.O; omega
    rw [<- h1, List.getElem?_eq_getElem h3]
    simpa using hpr.cls (k * 7 + o) _ (List.getElem?_eq_getElem h3)
   have hbeh := hpr.beh k ci hci
   have hwk : ci.op = 0 -> (∀ y ∈ bE code (k + 1, 1), y.1 < cn) /\ (bE code (k + 1, 1)).length <= 2 * cn := fun h0 => by
    have := nz code HOK.O (k + 1, 1) (HTK.O _ _ hci h0) (by simp)
    rw [<- HCN.O] at this
    exact this
   obtain ⟨op, lo, hi, hg, t0, t1, sl0⟩ := ci
   simp only [Ins.cells] at hcode
   have c0 : wr.cell? ⟨cg, k * 7, none⟩ = some (.int .i64 op) := hcode 0 (by omega)
   have c1 : wr.cell? ⟨cg, k * 7 + 1, none⟩ = some (.int .u64 lo) := hcode 1 (by omega)
   have c2 : wr.cell? ⟨cg, k * 7 + 2, none⟩ = some (.int .u64 hi) := hcode 2 (by omega)
   have c3 : wr.cell? ⟨cg, k * 7 + 3, none⟩ = some (.bool hg) := hcode 3 (by omega)
   have c4 : wr.cell? ⟨cg, k * 7 + 4, none⟩ = some (.int .i64 t0) := hcode 4 (by omega)
   have c5 : wr.cell? ⟨cg, k * 7 + 5, none⟩ = some (.int .i64 t1) := hcode 5 (by omega)
   have c6 : wr.cell? ⟨cg, k * 7 + 6, none⟩ = some (.int .i64 sl0) := hcode 6 (by omega)
   have j0 : wr.cell? ⟨ngb, j * 11, none⟩ = some (.int .i64 (k : Int)) := hcl 0 (by omega)
   have j1 : wr.cell? ⟨ngb, j * 11 + 1, none⟩ = some (.int .i64 y0) := hcl 1 (by omega)
   have j2 : wr.cell? ⟨ngb, j * 11 + 2, none⟩ = some (.int .i64 y1) := hcl 2 (by omega)
   have j3 : wr.cell? ⟨ngb, j * 11 + 3, none⟩ = some (.int .i64 y2) := hcl 3 (by omega)
   have j4 : wr.cell? ⟨ngb, j * 11 + 4, none⟩ = some (.int .i64 y3) := hcl 4 (by omega)
   have j5 : wr.cell? ⟨ngb, j * 11 + 5, none⟩ = some (.int .i64 y4) := hcl 5 (by omega)
   have j6 : wr.cell? ⟨ngb, j * 11 + 6, none⟩ = some (.int .i64 y5) := hcl 6 (by omega)
   have j7 : wr.cell? ⟨ngb, j * 11 + 7, none⟩ = some (.int .i64 y6) := hcl 7 (by omega)
   have j8 : wr.cell? ⟨ngb, j * 11 + 8, none⟩ = some (.int .i64 y7) := hcl 8 (by omega)
   have j9 : wr.cell? ⟨ngb, j * 11 + 9, none⟩ = some (.int .i64 y8) := hcl 9 (by omega)
   have j10 : wr.cell? ⟨ngb, j * 11 + 10, none⟩ = some (.int .i64 y9) := hcl 10 (by omega)
   have hkn : (k : Int) < (cn : Int) := by omega
   have hpb := hpr.blk
   rw [<- HCN.O] at hpb
   have q0 : wr.cell? ⟨q, 0, none⟩ = some (.slice (some ⟨cg, 0, none⟩) cn cc) := hpb.all.1 0
   have q2 : wr.cell? ⟨q, 2, none⟩ = some (.slice (some ⟨B, 0, none⟩) cn cn) := hpb.all.1 2
   have hql := hpb.lt
   have hqt := HP.O.qt
   have hcgt := HP.O.cgt
   have hBt := HP.O.Bt
   have hcg1 : cg < wr.heap.size := by omega
   have hB1 : B < wr.heap.size := by omega
   have hcap' : cn <= cc := by rw [HCN.O]; exact HP.O.cap
   have HY := aa hy
   have HSL := aa hsl
   have HPR := aa hpr
   have HBEH := aa hbeh
   have HWK := aa hwk
   have hKH := fun w => Rx.Q.has_any ⟨lo, hi, hg⟩ r w hr0
   have htake : ({ op := op, lo := lo, hi := hi, hg := hg, t0 := t0, t1 := t1, sl := sl0 } : Ins).takes r = (op == 0 && Rx.Q.hasC ⟨lo, hi, hg⟩ r) := rfl
   rw [htake] at HSTP
   obtain ⟨hv, hhv⟩ := exq (Rx.Q.hasC ⟨lo, hi, hg⟩ r)
   rw [<- hhv] at hKH HSTP
   have KH := aa hKH
   subst hp0
   clear hst htok hcnt hrl hur hown hgr hold hold' hap heb hrg hcl hpc hci hstep hcode hy hsl hpr hbeh hwk hKH hhv htake hpb hk htok0
   go_wp2_with fail
   go_region
   generalize hw2 : World.drew _ = w2
   have hx2 : Ex [] wr w2 := by rw [<- hw2]; exact (((Ex.refl _ _).alloc _).alloc _).drew
   have ht2 : BK w2 wr.heap.size (.cells #[.int .i64 k, .int .i64 y0, .int .i64 y1, .int .i64 y2, .int .i64 y3, .int .i64 y4, .int .i64 y5, .int .i64 y6, .int .i64 y7, .int .i64 y8, .int .i64 y9] 207 (0, 0)) := by
    rw [<- hw2]; exact ((BK.new _ _).alloc _).drew
   have hi2 : BK w2 (wr.heap.size + 1) (.cells #[.int .i64 op, .int .u64 lo, .int .u64 hi, .bool hg, .int .i64 t0, .int .i64 t1, .int .i64 sl0] 192 (0, 0)) := by
    have h1 := BK.new (wr.alloc (Obj.cells #[.int .i64 k, .int .i64 y0, .int .i64 y1, .int .i64 y2, .int .i64 y3, .int .i64 y4, .int .i64 y5, .int .i64 y6, .int .i64 y7, .int .i64 y8, .int .i64 y9] 207)) (Obj.cells #[.int .i64 op, .int .u64 lo, .int .u64 hi, .bool hg, .int .i64 t0, .int .i64 t1, .int .i64 sl0] 192)
    simp only [World.size_alloc] at h1
    rw [<- hw2]; exact h1.drew
   have HT2 := aa ht2
   have HX2 := aa hx2
   clear hw2 hcu hfu q0 q2 j0 j1 j2 j3 j4 j5 j6 j7 j8 j9 j10 c0 c1 c2 c3 c4 c5 c6
   obtain ⟨hci, hfi⟩ := hi2.all
   have hil := hi2.lt
   clear hi2 ht2 hx2
   cases hop : (op == 0) with
   |false =>
    go_wp2_with fail
    go_roundg g
    case measure => omega
    case rel =>
     refine ⟨j + 1, nowV', ts', rc', by omega, by simp, ?_, HTOK.O, HCNT.O, HRL.O, HUR'.O.ex HX2.O (by simp), aE HOWN.O HX2.O (by simp), HGR.O.ex HX2.O (by simp), aE HOLD.O HX2.O (by simp), HAP.O, ?_⟩
     ·have h1 := HST.O
      rw [HSTP.O, hop] at h1
      simpa using h1
     ·exact HEB.O.trans (EB.ofEx HX2.O (by omega))
   |true =>
    go_wp2_with fail
    refine (KH.O _).mono ?_
    rintro e w3 ⟨rfl, hx3r⟩
    have hx3 := yr hx3r
    clear hx3r
    have hx13 : Ex [] wr w3 := HX2.O.trans hx3
    have hz13 := hx13.size
    have ht3 := HT2.O.ex hx3 (by simp)
    have hi3 : wr.heap.size + 1 < w3.heap.size := Nat.lt_of_lt_of_le hil hx3.size
    have hu3 := HUR'.O.ex hx13 (by simp)
    have HX13 := aa hx13
    have HT3 := aa ht3
    have HU3 := aa hu3
    clear hx3 hx13 ht3 hci hfi hil
    cases hv with
    |false =>
     go_wp2_with fail
     go_roundg g
     case measure => omega
     case rel =>
      refine ⟨j + 1, nowV', ts', rc', by omega, by simp, ?_, HTOK.O, HCNT.O, HRL.O, HU3.O, aE HOWN.O HX13.O (by simp), HGR.O.ex HX13.O (by simp), aE HOLD.O HX13.O (by simp), HAP.O, ?_⟩
      ·have h1 := HST.O
       rw [HSTP.O, hop] at h1
       simpa using h1
      ·exact HEB.O.trans (EB.ofEx HX13.O (by omega))
    |true =>
     have h00 : op = 0 := by simpa using hop
     obtain ⟨pb, cb, hb0, hwa⟩ := HBEH.O h00
     obtain ⟨hwt, hwl⟩ := HWK.O h00
     obtain ⟨l, hl⟩ := exq (bE code (k + 1, 1))
     rw [<- hl] at hb0 hwa hwt hwl HSTP
     have hwa3 := hwa.eb (EB.ofEx HX13.O (show top <= wr.heap.size by omega))
     obtain ⟨gw, hgw, hpa, hwc⟩ : ∃ gw, gw < top /\ (wys l ≠ [] -> pb = some ⟨gw, 0, none⟩) /\ ∀ j, j < (wys l).length * 2 -> w3.cell? ⟨gw, j, none⟩ = (nB (wys l))[j]? := by
      by_cases hnil : l = []
      ·subst hnil
       exact ⟨q, hqt, fun h => absurd rfl h, fun j hj => by simp [wys] at hj⟩
      ·obtain ⟨gw, h1, h2, h3⟩ := hwa3 hnil
       exact ⟨gw, h2, fun _ => h1, fun j hj => by rw [xd]; exact h3 j (by rwa [gQ] at hj)⟩
     have s0 : w3.cell? ⟨u, 0, none⟩ = some (.pointer (some ⟨q, 0, none⟩)) := hu3.all.1 0
     have hp3 := HPR.O.eb (EB.ofEx HX13.O (show top <= wr.heap.size by omega))
     have hpb3 := hp3.blk
     rw [<- HCN.O] at hpb3
     have s1 : w3.cell? ⟨q, 2, none⟩ = some (.slice (some ⟨B, 0, none⟩) cn cn) := hpb3.all.1 2
     have s2 : w3.cell? ⟨wr.heap.size, 0, none⟩ = some (.int .i64 k) := HT3.O.all.1 0
     have s3 : w3.rangeAt wr.heap.size 1 (bG sl) := lF HY.O HT3.O
     have b0 : w3.cell? ⟨B, k, none⟩ = some (.slice pb l.length cb) := (HX13.O.cell0.1 B k hB1).trans hb0
     have hn3 := aE HOWN.O HX13.O (by simp)
     have hgr3 := HGR.O.ex HX13.O (by simp)
     have hul3 := hu3.lt
     have htl3 := HT3.O.lt
     have key := kN u gr gw cb cn base pb pl (.pointer (some ⟨q, 0, none⟩)) nowV' (.slice np nn nc) w3.drew rc' ts' (wys l) sl hsl10 hn3.drew HU3.O.drew hgr3.drew HRL.O hcl' (by rw [gQ]; omega) (kO hwt) hul hgl hug (by show base <= w3.heap.size; omega) hpa hwc (by omega) (by omega) (by omega)
     rw [gQ] at key
     have KEY := aa key
     have HL := aa hl
     have HWT := aa hwt
     have h90 := Tryz.underlying121
     have hs90 := oA sl hsl10
     have HN3 := aa hn3
     have hnl : ∀ x, x ≠ u -> x ≠ gr -> (x < base \/ wr.heap.size <= x) -> x ∉ (u :: gr :: nowV'.ownBlock.toList) := fun x h2 h3 h4 hmem => by
      simp only [List.mem_cons, Option.mem_toList] at hmem
      rcases hmem with h | h | h
      ·exact h2 h
      ·exact h3 h
      ·have e1 := aG HOWN.O x h
       have e2 := (HOWN.O.lt x h).2
       omega
     have HNL := aa hnl
     obtain ⟨ln, hln⟩ := exq (l.length)
     rw [<- hln] at b0 KEY
     clear key hl hwt hwl hwa hwa3 hpa hwc hp3 hpb3 hn3 hgr3 hu3 hb0 hnl hln h00
     go_wp2_with fail
     go_region_held3 (fun w' => w'.cell? ⟨u, 0, none⟩ = some (.pointer (some ⟨q, 0, none⟩)) /\ w'.cell? ⟨q, 2, none⟩ = some (.slice (some ⟨B, 0, none⟩) cn cn) /\ w'.cell? ⟨wr.heap.size, 0, none⟩ = some (.int .i64 k) /\ w'.cell? ⟨B, k, none⟩ = some (.slice pb ln cb) /\ w'.rangeAt wr.heap.size 1 (bG sl))
      (first | exact ⟨q0, q1, q2, q3, q4⟩ | exact ⟨s0, s1, s2, b0, s3⟩)
      (first
       |(go_at_call 51; refine KEY.O.mono ?_; rintro e w4 ⟨rfl, nowV4, hu4, ho4, hg4, hx4, hor4⟩; have q0 : w4.cell? ⟨u, 0, none⟩ = some (.pointer (some ⟨q, 0, none⟩)) := hu4.all.1 0; have q1 := (hx4.cell.1 q 2 (show q < w3.heap.size by omega) (HNL.O q (by omega) (by omega) (Or.inl (by omega)))).trans s1; have ht4 := HT3.O.drew.ex hx4 (HNL.O _ (by omega) (by omega) (Or.inr (Nat.le_refl _))); have q2 : w4.cell? ⟨wr.heap.size, 0, none⟩ = some (.int .i64 k) := ht4.all.1 0; have q3 := (hx4.cell.1 B k (show B < w3.heap.size by omega) (HNL.O B (by omega) (by omega) (Or.inl (by omega)))).trans b0; have q4 := lF HY.O ht4))
     have HU4 := aa hu4
     have HO4 := aa ho4
     have HG4 := aa hg4
     have HX4 := aa hx4
     have hz4 : w3.heap.size <= w4.heap.size := hx4.size
     clear hu4 ho4 hg4 hx4 q0 q1 q2 q3 q4 ht4 s0 s1 s2 s3 b0
     go_wp2_with fail
     go_roundg g
     case measure => omega
     case rel =>
      have hfo := eP sl hsl10 pl cn (wys l) (ts', rc') (kO HWT.O) HRL.O HTOK.O HCNT.O
      refine ⟨j + 1, nowV4, (aV sl pl (wys l) (ts', rc')).1, (aV sl pl (wys l) (ts', rc')).2, by omega, by simp, ?_, hfo.2.1, hfo.2.2, hfo.1, HU4.O, HO4.O, HG4.O, ?_, fun b h1 h2 => ?_, ?_⟩
      ·have h1 := HST.O
       rw [HSTP.O, hop] at h1
       simpa using h1
      ·have hold3 := aE HOLD.O HX13.O (by simp)
       refine fR (World.ownsRow.drew hold3) HX4.O (fun b hb hmem => ?_)
       simp only [List.mem_cons, Option.mem_toList] at hmem
       have e0 := aG HOLD.O b hb
       rcases hmem with h | h | h
       ·omega
       ·omega
       ·exact HAP.O b h hb
      ·rcases hor4 with h | ⟨g4, h, hg4⟩
       ·exact HAP.O b (by rw [<- h]; exact h1) h2
       ·rw [h1] at h
        cases h
        have e1 := (HOLD.O.lt b h2).2
        have : w3.heap.size <= b := hg4
        omega
      ·have e2 : EB top [] w3 w4 := ((EB.refl top [] w3).drew).trans ((EB.ofEx HX4.O (show top <= w3.heap.size by omega)).mono (Nat.le_refl _) (fun x hx hlt => by
        simp only [List.mem_cons, Option.mem_toList] at hx
        rcases hx with h | h | h
        ·omega
        ·omega
        ·have := aG HOWN.O x h; omega))
       exact (HEB.O.trans (EB.ofEx HX13.O (by omega))).trans e2
end Go.Proofs.YtfnanjbleifjkaaGreatDoor.G
