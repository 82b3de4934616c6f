import Derived.Test.YtfnanjbleifjkaaGreatDoorM15
import Derived.Test.YtfnanjbleifjkaaGreatDoorM21
set_option linter.unusedVariables false
set_option linter.unusedSimpArgs false
set_option maxHeartbeats 8000000
namespace Go.Proofs.YtfnanjbleifjkaaGreatDoor.G
variable {t : ByteArray} {b : UInt8} {s s' : RS} {c : Cls} {l : List Pt} {base n p r : Nat} {w : World} {bad : Bool} {hv : Int}
structure Mv (t : ByteArray) (s s' : RS) : Prop where
 le : s.k <= s'.k
 sz : s.k <= t.size -> s'.k <= t.size
 g : s'.g = s.g
theorem Mv.refl (t : ByteArray) (s : RS) : Mv t s s := ⟨Nat.le_refl _, id, rfl⟩
theorem Mv.trans {a b c : RS} (h : Mv t a b) (h' : Mv t b c) : Mv t a c := ⟨Nat.le_trans h.le h'.le, fun x => h'.sz (h.sz x), h'.g.trans h.g⟩
theorem cR {k : Nat} (h : aj t k = some b) : k < t.size := by
 unfold aj at h
 exact (Array.getElem?_eq_some_iff.1 h).1
theorem aQ (h : ac t s b = true) : s.k < t.size := cR (by unfold ac at h; simpa using h)
theorem cL (h : s.k < t.size) : Mv t s s.up /\ s.k < s.up.k := ⟨⟨Nat.le_succ _, fun _ => h, rfl⟩, Nat.lt_succ_self _⟩
theorem nT (t : ByteArray) (s : RS) (b : UInt8) : Mv t s (s.took t b) := by
 unfold RS.took
 split
 ·next h => exact (cL (aQ h)).1
 ·exact Mv.refl _ _
theorem cz {u : Unit} (h : ax t s b = .ok u s') : Mv t s s' /\ s.k < s'.k := by
 unfold ax at h
 split at h
 ·next h1 => cases h; exact cL (aQ h1)
 ·cases h
theorem bind_ok {α β : Type} {m : Res α} {f : α -> RS -> Res β} {b : β} (h : m.bind f = .ok b s') : ∃ a s1, m = .ok a s1 /\ f a s1 = .ok b s' := by
 cases m with
 |ok a s => exact ⟨a, s, rfl, h⟩
 |bad s => cases h
theorem o6 {least : Nat} {a : Nat} (h : dh t least s = .ok a s') : Mv t s s' /\ s.k < s'.k /\ a <= 9 /\ least <= a := by
 unfold dh at h
 split at h
 ·cases h
 ·next b hb =>
  split at h
  ·cases h
  ·next hc =>
   cases h
   have := cL (cR hb)
   exact ⟨this.1, this.2, by omega, by omega⟩
def sD (x : Nat × Int) : Prop := x.1 <= 9 /\ (x.2 = -1 \/ ((x.1 : Int) <= x.2 /\ x.2 <= 9))
theorem tc {x : Nat × Int} (h : bl t s = .ok x s') : Mv t s s' /\ sD x := by
 unfold bl at h
 obtain ⟨a, s1, h1, h⟩ := bind_ok h
 have m1 := o6 h1
 split at h
 ·next hs =>
  cases h
  exact ⟨m1.1.trans (cL (aQ hs)).1, m1.2.2.1, .inr ⟨Int.le_refl _, by have := m1.2.2.1; show (a : Int) <= 9; omega⟩⟩
 ·obtain ⟨_, s2, h2, h⟩ := bind_ok h
  have m2 := cz h2
  split at h
  ·next hs =>
   cases h
   exact ⟨m1.1.trans (m2.1.trans (cL (aQ hs)).1), m1.2.2.1, .inl rfl⟩
  ·obtain ⟨b, s3, h3, h⟩ := bind_ok h
   have m3 := o6 h3
   obtain ⟨_, s4, h4, h⟩ := bind_ok h
   have m4 := cz h4
   cases h
   exact ⟨m1.1.trans (m2.1.trans (m3.1.trans m4.1)), m1.2.2.1, .inr ⟨by have := m3.2.2.2; show (a : Int) <= (b : Int); omega, by have := m3.2.2.1; show (b : Int) <= 9; omega⟩⟩
theorem lG {c : Option (Nat × Int)} (h : cF t s = .ok c s') : Mv t s s' /\ ∀ x, c = some x -> sD x := by
 unfold cF at h
 split at h
 ·next hs => cases h; exact ⟨(cL (aQ hs)).1, fun x hx => by cases hx; exact ⟨by decide, .inl rfl⟩⟩
 ·split at h
  ·next hs => cases h; exact ⟨(cL (aQ hs)).1, fun x hx => by cases hx; exact ⟨by decide, .inl rfl⟩⟩
  ·split at h
   ·next hs => cases h; exact ⟨(cL (aQ hs)).1, fun x hx => by cases hx; exact ⟨by decide, .inr (by decide)⟩⟩
   ·split at h
    ·next hs =>
     obtain ⟨x, s1, h1, h⟩ := bind_ok h
     have m1 := tc h1
     cases h
     exact ⟨(cL (aQ hs)).1.trans m1.1, fun y hy => by cases hy; exact m1.2⟩
    ·cases h; exact ⟨Mv.refl _ _, fun x hx => by cases hx⟩
theorem fg {but : List UInt8} (h : aN t but s = .ok b s') : Mv t s s' /\ s.k < s'.k := by
 unfold aN at h
 split at h
 ·cases h
 ·next hb =>
  split at h
  ·cases h
  ·cases h; exact cL (cR hb)
theorem gP {x : Cls × UInt8 × Bool} (h : am t s = .ok x s') : Mv t s s' /\ s.k < s'.k := by
 unfold am at h
 split at h
 ·cases h
 ·next hb =>
  split at h
  ·cases h; exact cL (cR hb)
  ·split at h
   ·cases h
   ·cases h; exact cL (cR hb)
theorem qZ {f : UInt8} (h : au t f s = .ok b s') : Mv t s s' /\ s.k < s'.k := by
 unfold au at h
 dsimp only at h
 by_cases he : (decide (f.toNat <= 125) && ac t s 92) = true
 ·rw [if_pos he] at h
  rw [Bool.and_eq_true] at he
  have m1 := cL (aQ he.2)
  split at h
  ·cases h
  ·next hb =>
   split at h
   ·cases h
   ·split at h
    ·split at h
     ·cases h
      have m2 := cL (cR hb)
      exact ⟨m1.1.trans m2.1, Nat.lt_of_lt_of_le m1.2 m2.1.le⟩
     ·cases h
    ·have m2 := fg h
     exact ⟨m1.1.trans m2.1, Nat.lt_of_lt_of_le m1.2 m2.1.le⟩
 ·rw [if_neg he] at h
  split at h
  ·cases h
  ·next hb =>
   split at h
   ·cases h
   ·exact fg h
theorem eT (h : aZ t b s = .ok c s') : Mv t s s' := by
 unfold aZ at h
 split at h
 ·next hs =>
  obtain ⟨e, s1, h1, h⟩ := bind_ok h
  cases h
  exact (cL (aQ hs)).1.trans (qZ h1).1
 ·cases h; exact Mv.refl _ _
theorem jV (h : aH t s = .ok c s') : Mv t s s' := by
 unfold aH at h
 split at h
 ·next hs =>
  obtain ⟨x, s1, h1, h⟩ := bind_ok h
  have m1 := (cL (aQ hs)).1.trans (gP h1).1
  split at h
  ·exact m1.trans (eT h)
  ·cases h; exact m1
 ·obtain ⟨b, s1, h1, h⟩ := bind_ok h
  exact (fg h1).1.trans (eT h)
theorem pX : ∀ (n : Nat) (c c' : Cls) (s s' : RS), bM t n c s = .ok c' s' -> Mv t s s'
 | 0, c, c', s, s', h => by cases h
 |n + 1, c, c', s, s', h => by
  unfold bM at h
  split at h
  ·next hs => cases h; exact (cL (aQ hs)).1
  ·obtain ⟨x, s1, h1, h⟩ := bind_ok h
   exact (jV h1).trans (pX n _ _ _ _ h)
theorem qB (h : eQ t s = .ok c s') : Mv t s s' /\ s.k < s'.k := by
 unfold eQ at h
 obtain ⟨_, s1, h1, h⟩ := bind_ok h
 obtain ⟨c1, s2, h2, h⟩ := bind_ok h
 obtain ⟨c2, s3, h3, h⟩ := bind_ok h
 cases h
 have m1 := cz h1
 have m := (nT t s1 94).trans ((jV h2).trans (pX _ _ _ _ _ h3))
 exact ⟨m1.1.trans m, Nat.lt_of_lt_of_le m1.2 m.le⟩
theorem mR (i : Nat) : ∀ (n : Nat) (u : Unit) (s s' : RS), bc t i n s = .ok u s' -> Mv t s s'
 | 0, u, s, s', h => by cases h; exact Mv.refl _ _
 |n + 1, u, s, s', h => by
  unfold bc at h
  split at h
  ·cases h
  ·next hb =>
   split at h
   ·split at h
    ·cases h
    ·exact (cL (cR hb)).1.trans (mR i n u _ _ h)
   ·cases h; exact Mv.refl _ _
theorem iX {n : ByteArray} (h : aq t s = .ok n s') : Mv t s s' := by
 unfold aq at h
 obtain ⟨_, s1, h1, h⟩ := bind_ok h
 split at h
 ·cases h
 ·cases h; exact mR _ _ _ _ _ h1
theorem ko {g : Nat} (h : an t s = .ok g s') (h5 : s.g <= 5) : s.k <= s'.k /\ (s.k <= t.size -> s'.k <= t.size) /\ s'.g <= 5 /\ g <= 5 := by
 unfold an at h
 split at h
 ·next hc =>
  cases h
  exact ⟨Nat.le_refl _, id, by show s.g + 1 <= 5; omega, by omega⟩
 ·obtain ⟨_, s1, h1, h⟩ := bind_ok h
  have m1 := cz h1
  split at h
  ·next hs =>
   cases h
   have m2 := m1.1.trans (cL (aQ hs)).1
   exact ⟨m2.le, m2.sz, by rw [m2.g]; exact h5, by omega⟩
  ·split at h
   ·cases h
   ·next hg5 =>
    obtain ⟨_, s2, h2, h⟩ := bind_ok h
    obtain ⟨_, s3, h3, h⟩ := bind_ok h
    obtain ⟨n, s4, h4, h⟩ := bind_ok h
    obtain ⟨_, s5, h6, h⟩ := bind_ok h
    cases h
    have m2 := m1.1.trans ((cz h2).1.trans ((cz h3).1.trans ((iX h4).trans (cz h6).1)))
    have e : s5.g = s.g := m2.g
    have e1 : s1.g = s.g := m1.1.g
    exact ⟨m2.le, m2.sz, by show s5.g + 1 <= 5; omega, by omega⟩
mutual
def POK : Pt -> Prop
 |.single _ => True
 |.seq l => iV l
 |.alt l => iV l /\ 1 <= l.length
 |.wrap q g => POK q /\ g <= 5
 |.count q le mo _ => POK q /\ 1 <= wt q /\ sD (le, mo)
def iV : List Pt -> Prop
 | [] => True
 |q :: l => POK q /\ iV l
end
theorem mM {p : Pt} (h : iV l) (hp : POK p) : iV (l ++ [p]) := by
 induction l with
 |nil => exact ⟨hp, trivial⟩
 |cons a l ih => exact ⟨h.1, ih h.2⟩
theorem nr {p : Pt} (h : nX l) (hp : WOK p) : nX (l ++ [p]) := by
 induction l with
 |nil => exact ⟨hp, trivial⟩
 |cons a l ih => exact ⟨h.1, ih h.2⟩
structure po (t : ByteArray) (n : Nat) (s : RS) (p : Pt) (s' : RS) : Prop where
 le : s.k <= s'.k
 sz : s.k <= t.size -> s'.k <= t.size
 g5 : s'.g <= 5
 wt : wt p <= (s'.k - s.k) * 11 ^ n
 wok : WOK p
 pok : POK p
structure mu (t : ByteArray) (n : Nat) (s : RS) (x : Nat) (l : List Pt) (s' : RS) : Prop where
 le : s.k <= s'.k
 sz : s.k <= t.size -> s'.k <= t.size
 g5 : s'.g <= 5
 wt : wtL l + x <= (s'.k - s.k) * 11 ^ n
 len : l.length <= s'.k - s.k + 1
 wok : nX l
 pok : iV l
theorem jr (n : Nat) : 1 <= 11 ^ n := Nat.one_le_pow _ _ (by decide)
theorem big (ht : t.size <= 60) {a b : Nat} (hb : b <= t.size) (n : Nat) (hn : n <= 7) : (b - a) * 11 ^ n <= 1169230260 := by
 have h1 : 11 ^ n <= 11 ^ 7 := Nat.pow_le_pow_right (by decide) hn
 have h2 : (b - a) * 11 ^ n <= 60 * 11 ^ 7 := Nat.mul_le_mul (by omega) h1
 have h3 : 60 * 11 ^ 7 = 1169230260 := by decide
 omega
section
variable {t : ByteArray} {E : RS -> Res Pt} {n : Nat} (ht : t.size <= 60) (hn : n + 1 <= 7) (hE : ∀ s p s', E s = .ok p s' -> s.g <= 5 -> s.k <= t.size -> po t n s p s')
include ht hn hE
theorem mD {p : Pt} (h : bq t E s = .ok p s') (h5 : s.g <= 5) (hk : s.k <= t.size) : po t n s p s' /\ s.k < s'.k /\ 1 <= G.wt p := by
 have hp1 := jr n
 have single : ∀ (c : Cls) (s' : RS), Mv t s s' /\ s.k < s'.k -> po t n s (.single c) s' /\ s.k < s'.k /\ 1 <= G.wt (.single c) := fun c s' m =>
  ⟨⟨m.1.le, m.1.sz, by rw [m.1.g]; exact h5, by
   show 1 <= _
   have h2 : 1 * 1 <= (s'.k - s.k) * 11 ^ n := Nat.mul_le_mul (by have := m.2; omega) hp1
   omega, trivial, trivial⟩, m.2, Nat.le_refl _⟩
 unfold bq at h
 split at h
 ·cases h
 ·next b hb =>
  split at h
  ·unfold aK at h
   split at h
   ·cases h
   ·obtain ⟨_, s1, h1, h⟩ := bind_ok h
    obtain ⟨g, s2, h2, h⟩ := bind_ok h
    obtain ⟨q, s3, h3, h⟩ := bind_ok h
    obtain ⟨_, s4, h4, h⟩ := bind_ok h
    cases h
    have m1 := cz h1
    have m2 := ko h2 (by show s1.g <= 5; rw [m1.1.g]; exact h5)
    have hk2 : s2.k <= t.size := m2.2.1 (m1.1.sz hk)
    have f := hE _ _ _ h3 m2.2.2.1 hk2
    have m4 := cz h4
    have l1 : s.k < s1.k := m1.2
    have l2 : s1.k <= s2.k := m2.1
    have l3 := f.le
    have l4 := m4.2
    have hk4 : s4.k <= t.size := m4.1.sz (f.sz hk2)
    have hw := f.wt
    have hmul : (s3.k - s2.k) * 11 ^ n + 1 <= (s4.k - s.k) * 11 ^ n := by
     have h9 : (s3.k - s2.k + 1) * 11 ^ n <= (s4.k - s.k) * 11 ^ n := Nat.mul_le_mul_right _ (by omega)
     rw [Nat.add_mul] at h9
     omega
    have hbig := big (a := s2.k) ht (f.sz hk2) n (by omega)
    refine ⟨⟨by show s.k <= s4.k; omega, fun _ => hk4, by show s4.g <= 5; rw [m4.1.g]; exact f.g5, ?_, ⟨f.wok, by omega, by have := m2.2.2.2; omega⟩, ⟨f.pok, m2.2.2.2⟩⟩, by show s.k < s4.k; omega, ?_⟩
    ·show G.wt q + 1 <= (s4.k - s.k) * 11 ^ n
     omega
    ·show 1 <= G.wt q + 1
     omega
  ·split at h
   ·obtain ⟨c, s1, h1, h⟩ := bind_ok h
    cases h
    exact single _ _ (qB h1)
   ·split at h
    ·cases h
     exact single _ _ (cL (cR hb))
    ·split at h
     ·obtain ⟨x, s1, h1, h⟩ := bind_ok h
      cases h
      have m1 := cL (cR hb)
      have m2 := gP h1
      exact single _ _ ⟨m1.1.trans m2.1, Nat.lt_trans m1.2 m2.2⟩
     ·obtain ⟨x, s1, h1, h⟩ := bind_ok h
      cases h
      exact single _ _ (fg h1)
theorem ly {p : Pt} (h : aW t E s = .ok p s') (h5 : s.g <= 5) (hk : s.k <= t.size) : po t (n + 1) s p s' /\ s.k < s'.k := by
 unfold aW at h
 obtain ⟨q, s1, h1, h⟩ := bind_ok h
 obtain ⟨c, s2, h2, h⟩ := bind_ok h
 obtain ⟨f, hlt, hq1⟩ := mD ht hn hE h1 h5 hk
 have m2 := lG h2
 have hp1 := jr n
 have hw := f.wt
 have hk1 := f.sz hk
 have hpow : 11 ^ (n + 1) = 11 ^ n * 11 := Nat.pow_succ ..
 cases c with
 |none =>
  cases h
  have l2 := m2.1.le
  refine ⟨⟨Nat.le_trans f.le m2.1.le, fun x => m2.1.sz (f.sz x), by rw [m2.1.g]; exact f.g5, ?_, f.wok, f.pok⟩, Nat.lt_of_lt_of_le hlt m2.1.le⟩
  have h9 : (s1.k - s.k) * 11 ^ n <= (s'.k - s.k) * 11 ^ (n + 1) := Nat.mul_le_mul (by omega) (by omega)
  omega
 |some x =>
  cases h
  obtain ⟨le, mo⟩ := x
  obtain ⟨c1, c2⟩ := m2.2 _ rfl
  have m3 := nT t s2 63
  have l2 := m2.1.le
  have l3 := m3.le
  have hle : (if mo = -1 then le + 1 else mo.toNat) <= 10 := by
   dsimp only at c1 c2
   split
   ·omega
   ·omega
  have hbig := big (a := s.k) ht hk1 n (by omega)
  have hmul : G.wt q * (if mo = -1 then le + 1 else mo.toNat) <= G.wt q * 10 := Nat.mul_le_mul_left _ hle
  refine ⟨⟨by omega, fun _ => m3.sz (m2.1.sz hk1), by rw [m3.g, m2.1.g]; exact f.g5, ?_, ⟨f.wok, by omega, by dsimp only at c1; omega, by dsimp only at c2; show -1 <= mo; omega, by dsimp only at c2; show mo < _; omega, by show G.wt q * (if mo = -1 then le + 1 else mo.toNat) < _; omega⟩, ⟨f.pok, hq1, c1, c2⟩⟩, by omega⟩
  show G.wt q * (if mo = -1 then le + 1 else mo.toNat) + 1 <= _
  have h9 : (s1.k - s.k) * 11 ^ n * 11 <= ((s2.took t 63).k - s.k) * 11 ^ (n + 1) := by
   rw [hpow, <- Nat.mul_assoc]
   exact Nat.mul_le_mul_right _ (Nat.mul_le_mul_right _ (by omega))
  have h10 : G.wt q * 11 <= (s1.k - s.k) * 11 ^ n * 11 := Nat.mul_le_mul_right _ hw
  omega
theorem jL : ∀ (f : Nat) (acc l : List Pt) (s0 s s' : RS), aR t E f acc s = .ok l s' -> mu t (n + 1) s0 0 acc s -> s0.k <= t.size -> mu t (n + 1) s0 0 l s'
 | 0, acc, l, s0, s, s', h, _, _ => by cases h
 |f + 1, acc, l, s0, s, s', h, ha, hk => by
  unfold aR at h
  split at h
  ·cases h; exact ha
  ·obtain ⟨p, s1, h1, h⟩ := bind_ok h
   obtain ⟨fp, hlt⟩ := ly ht hn hE h1 ha.g5 (ha.sz hk)
   refine jL f _ _ s0 _ _ h ?_ hk
   have l1 := ha.le
   have l2 := ha.len
   have hw := ha.wt
   have hw2 := fp.wt
   have e : (s1.k - s0.k) * 11 ^ (n + 1) = (s.k - s0.k) * 11 ^ (n + 1) + (s1.k - s.k) * 11 ^ (n + 1) := by
    rw [<- Nat.add_mul]
    congr 1
    omega
   refine ⟨by omega, fun x => fp.sz (ha.sz x), fp.g5, ?_, by rw [List.length_append]; show acc.length + 1 <= _; omega, nr ha.wok fp.wok, mM ha.pok fp.pok⟩
   rw [cY]
   show wtL acc + (G.wt p + 0) + 0 <= _
   omega
theorem kD {f : Nat} (h : aR t E f [] s = .ok l s') (h5 : s.g <= 5) (hk : s.k <= t.size) : po t (n + 1) s (.seq l) s' := by
 have h0 : mu t (n + 1) s 0 [] s := ⟨Nat.le_refl _, id, h5, by show 0 <= _; omega, by simp, trivial, trivial⟩
 have fl := jL ht hn hE f [] l s s s' h h0 hk
 have hb := big (a := s.k) ht (fl.sz hk) (n + 1) hn
 have h1 := fl.wt
 have h2 := fl.len
 have h3 := fl.sz hk
 exact ⟨fl.le, fl.sz, fl.g5, by show wtL l <= _; omega, ⟨fl.wok, by omega, by omega⟩, fl.pok⟩
theorem pE : ∀ (f : Nat) (acc l : List Pt) (s0 s s' : RS), fs t E f acc s = .ok l s' -> mu t (n + 1) s0 (acc.length - 1) acc s -> 1 <= acc.length -> s0.k <= t.size -> mu t (n + 1) s0 (l.length - 1) l s' /\ 1 <= l.length
 | 0, acc, l, s0, s, s', h, _, _, _ => by cases h
 |f + 1, acc, l, s0, s, s', h, ha, h1, hk => by
  unfold fs at h
  split at h
  ·next hs =>
   obtain ⟨q, s1, h2, h⟩ := bind_ok h
   have m1 := cL (aQ hs)
   have fp := kD ht hn hE h2 (by rw [m1.1.g]; exact ha.g5) (m1.1.sz (ha.sz hk))
   have hku : s.up.k = s.k + 1 := rfl
   refine pE f _ _ s0 _ _ h ?_ (by simp) hk
   have l1 := ha.le
   have l2 := ha.len
   have hw := ha.wt
   have hw2 := fp.wt
   have l3 := fp.le
   have hp1 := jr (n + 1)
   have e : (s1.k - s0.k) * 11 ^ (n + 1) = (s.k - s0.k) * 11 ^ (n + 1) + (s1.k - s.up.k) * 11 ^ (n + 1) + 1 * 11 ^ (n + 1) := by
    rw [<- Nat.add_mul, <- Nat.add_mul]
    congr 1
    omega
   refine ⟨by omega, fun x => fp.sz (m1.1.sz (ha.sz x)), fp.g5, ?_, by rw [List.length_append]; show acc.length + 1 <= _; omega, nr ha.wok fp.wok, mM ha.pok fp.pok⟩
   rw [cY, List.length_append]
   show wtL acc + (G.wt (.seq q) + 0) + (acc.length + 1 - 1) <= _
   omega
  ·cases h; exact ⟨ha, h1⟩
theorem td {p : Pt} (h : dv t E s = .ok p s') (h5 : s.g <= 5) (hk : s.k <= t.size) : po t (n + 1) s p s' := by
 unfold dv at h
 obtain ⟨l, s1, h1, h⟩ := bind_ok h
 obtain ⟨b, s2, h2, h⟩ := bind_ok h
 cases h
 have f1 := kD ht hn hE h1 h5 hk
 have h0 : mu t (n + 1) s (([Pt.seq l] : List Pt).length - 1) [Pt.seq l] s1 := ⟨f1.le, f1.sz, f1.g5, by have := f1.wt; show (G.wt (.seq l) + 0) + 0 <= _; omega, by simp, ⟨f1.wok, trivial⟩, ⟨f1.pok, trivial⟩⟩
 obtain ⟨fl, hl⟩ := pE ht hn hE _ _ _ s _ _ h2 h0 (by simp) hk
 have hb := big (a := s.k) ht (fl.sz hk) (n + 1) hn
 have w1 := fl.wt
 have w2 := fl.len
 have w3 := fl.sz hk
 exact ⟨fl.le, fl.sz, fl.g5, by show wtL b + b.length - 1 <= _; omega, ⟨fl.wok, by omega, by omega, hl⟩, ⟨fl.pok, hl⟩⟩
end
theorem dY (ht : t.size <= 60) : ∀ n, n <= 7 -> ∀ s p s', eH t n s = .ok p s' -> s.g <= 5 -> s.k <= t.size -> po t n s p s'
 | 0, _, s, p, s', h, _, _ => by cases h
 |n + 1, hn, s, p, s', h, h5, hk => td ht hn (fun s p s' h h5 hk => dY ht n (by omega) s p s' h h5 hk) h h5 hk
theorem ji (ht : t.size <= 60) {p : Pt} (h : bg t = .ok p s) : WOK p /\ POK p /\ s.g <= 5 := by
 unfold bg at h
 obtain ⟨_, s0, h0, h⟩ := bind_ok h
 obtain ⟨q, s1, h1, h⟩ := bind_ok h
 have hs0 : s0.g = 0 /\ s0.k <= t.size := by
  unfold dA at h0
  split at h0
  ·next hb =>
   obtain ⟨_, s2, h2, h0⟩ := bind_ok h0
   cases h0
   have m := (cz h2).1
   exact ⟨m.g, m.sz (by show 3 <= t.size; have := cR hb.2.2; omega)⟩
  ·cases h0; exact ⟨rfl, Nat.zero_le _⟩
 split at h
 ·cases h
  have f := dY ht 7 (Nat.le_refl _) _ _ _ h1 (by omega) hs0.2
  exact ⟨f.wok, f.pok, f.g5⟩
 ·cases h
open Go.RowKit
theorem RA.step (h : RA w p r base t s bad hv n) :
  RA (w.setCell ⟨p, 1, none⟩ (.int .i64 ((s.k : Int) + 1))) p r base t s.up bad hv n /\ KS r w (w.setCell ⟨p, 1, none⟩ (.int .i64 ((s.k : Int) + 1))) /\ EB base [] w (w.setCell ⟨p, 1, none⟩ (.int .i64 ((s.k : Int) + 1))) :=
 h.setCell (s' := s.up) (bad' := bad) (hv' := hv) 1 (.int .i64 ((s.k : Int) + 1)) (by simp [RS.up]) rfl rfl
theorem RA.gives (h : RA w p r base t s bad hv n) :
  RA (w.setCell ⟨p, 2, none⟩ (.bool true)) p r base t s true hv n /\ KS r w (w.setCell ⟨p, 2, none⟩ (.bool true)) /\ EB base [] w (w.setCell ⟨p, 2, none⟩ (.bool true)) :=
 h.setCell (s' := s) (bad' := true) (hv' := hv) 2 (.bool true) rfl rfl rfl
structure Fr (w w' : World) (r base : Nat) : Prop where
 ks : KS r w w'
 eb : EB base [] w w'
theorem Fr.refl (w : World) (base : Nat) : Fr w w r base := ⟨KS.refl _, EB.refl _ _ _⟩
theorem Fr.trans {a b c : World} (h : Fr a b r base) (k : Fr b c r base) : Fr a c r base := ⟨h.ks.trans k.ks, h.eb.trans k.eb⟩
theorem Fr.drewN (w : World) (base k : Nat) : Fr w (w.drewN k) r base := ⟨KS.ex ((Ex.refl _ _).drewN k), (EB.refl _ _ _).drewN k⟩
theorem Fr.ex {w' : World} (h : Ex [] w w') (hb : base <= w.heap.size) : Fr w w' r base := ⟨KS.ex h, EB.ofEx h hb⟩
theorem RA.up (h : RA w p r base t s bad hv n) (W : World) (hW : w.setCell ⟨p, 1, none⟩ (.int .i64 ((s.k : Int) + 1)) = W) : RA W p r base t s.up bad hv n /\ Fr w W r base := by
 obtain ⟨a, b, c⟩ := h.step
 rw [hW] at a b c
 exact ⟨a, b, c⟩
theorem RA.bads (h : RA w p r base t s bad hv n) (W : World) (hW : w.setCell ⟨p, 2, none⟩ (.bool true) = W) : RA W p r base t s true hv n /\ Fr w W r base := by
 obtain ⟨a, b, c⟩ := h.gives
 rw [hW] at a b c
 exact ⟨a, b, c⟩
theorem RA.up2 (h : RA w p r base t s bad hv n) (W : World) {v : Int} (hW : w.setCell ⟨p, 1, none⟩ (.int .i64 v) = W) (e : v = (s.k : Int) + 1) : RA W p r base t s.up bad hv n /\ Fr w W r base := h.up W (by rw [<- e]; exact hW)
theorem RA.facts (h : RA w p r base t s bad hv n) :
  w.cell? ⟨p, 0, none⟩ = some (.string t) /\ w.cell? ⟨p, 1, none⟩ = some (.int .i64 (s.k : Int)) /\ w.cell? ⟨p, 2, none⟩ = some (.bool bad) /\ w.frozen? ⟨p, 1, none⟩ = false /\ w.frozen? ⟨p, 2, none⟩ = false /\ p < w.heap.size :=
 ⟨h.rk.all.1 0, h.rk.all.1 1, h.rk.all.1 2, h.rk.all.2 1, h.rk.all.2 2, h.rk.lt⟩
theorem de (t : ByteArray) (k : Nat) : ai t k < 256 := by
 unfold ai
 split
 ·exact UInt8.toNat_lt _
 ·decide
def fN (c : Nat) : Bool := decide (48 <= c /\ c <= 57)
inductive d9 (t : ByteArray) (k : Nat) : Option (Nat × Int) -> Nat -> Prop
 |noDig : fN (ai t (k + 1)) = false -> d9 t k none (k + 1)
 |one : fN (ai t (k + 1)) = true -> ai t (k + 2) = 125 -> d9 t k (some (ai t (k + 1) - 48, ((ai t (k + 1) - 48 : Nat) : Int))) (k + 2)
 |oneBad : fN (ai t (k + 1)) = true -> ai t (k + 2) ≠ 44 -> ai t (k + 2) ≠ 125 -> d9 t k none (k + 2)
 |more : fN (ai t (k + 1)) = true -> ai t (k + 2) = 44 -> ai t (k + 3) = 125 -> d9 t k (some (ai t (k + 1) - 48, -1)) (k + 3)
 |twoBad : fN (ai t (k + 1)) = true -> ai t (k + 2) = 44 -> ai t (k + 3) ≠ 125 -> (fN (ai t (k + 3)) = false \/ ai t (k + 3) < ai t (k + 1)) -> d9 t k none (k + 3)
 |two : fN (ai t (k + 1)) = true -> ai t (k + 2) = 44 -> fN (ai t (k + 3)) = true -> ai t (k + 1) <= ai t (k + 3) -> ai t (k + 4) = 125 -> d9 t k (some (ai t (k + 1) - 48, ((ai t (k + 3) - 48 : Nat) : Int))) (k + 4)
 |endBad : fN (ai t (k + 1)) = true -> ai t (k + 2) = 44 -> fN (ai t (k + 3)) = true -> ai t (k + 1) <= ai t (k + 3) -> ai t (k + 4) ≠ 125 -> d9 t k none (k + 4)
def sR (w : World) (p r base : Nat) (t : ByteArray) (s : RS) (hv : Int) (n : Nat) (e : Ending) (w' : World) : Prop := ∃ o k', d9 t s.k o k' /\ Fr w w' r base /\ match o with
 |some x => e = .returned (.tuple #[.int .i64 (x.1 : Int), .int .i64 x.2]) /\ RA w' p r base t { s with k := k' } false hv n
 |none => (∃ a b : Int, e = .returned (.tuple #[.int .i64 a, .int .i64 b])) /\ RA w' p r base t { s with k := k' } true hv n
theorem sW (h : RA w p r base t s false hv n) (ht : t.size <= 60) (hlt : s.k < t.size) :
  Calls Tryz.prog 183 #[.pointer (some ⟨p, 0, none⟩)] w fun e w' => sR w p r base t s hv n e w' := by
 obtain ⟨k, d, f, g, nm⟩ := s
 dsimp only at hlt
 have Hw := aa h
 have Fw := aa (Fr.refl (r := r) w base)
 clear h
 obtain ⟨a, ha⟩ := exq (ai t (k + 1))
 have HCa := aa ha
 have a256 : a < 256 := by rw [ha]; exact de _ _
 clear ha
 obtain ⟨b, hb⟩ := exq (ai t (k + 2))
 have HCb := aa hb
 have b256 : b < 256 := by rw [hb]; exact de _ _
 clear hb
 obtain ⟨c, hc⟩ := exq (ai t (k + 3))
 have HCc := aa hc
 have c256 : c < 256 := by rw [hc]; exact de _ _
 clear hc
 obtain ⟨x, hx⟩ := exq (ai t (k + 4))
 have HCx := aa hx
 have x256 : x < 256 := by rw [hx]; exact de _ _
 clear hx
 have c1 : w.cell? ⟨p, 1, none⟩ = some (.int .i64 ((k : Int))) := by have h9 := Hw.O.facts.2.1; simpa using h9
 have c2 := Hw.O.facts.2.2.1
 have f1 := Hw.O.facts.2.2.2.1
 have f2 := Hw.O.facts.2.2.2.2.1
 have hl := Hw.O.facts.2.2.2.2.2
 go_enter Tryz.func183, Tryz.ntmps183
 go_wp2_with fail
 generalize hw9 : World.setCell _ _ _ = w1
 have Hw1 : Hid (RA w1 p r base t ⟨k + 1, d, f, g, nm⟩ false hv n) := (Hw.O.up2 w1 hw9 (by simp)).1
 have Fw1 := aa (Fw.O.trans (Hw.O.up2 w1 hw9 (by simp)).2)
 clear hw9
 clear c1 c2 f1 f2 hl
 have KN := aa (cX Hw1.O.rk)
 dsimp only at KN
 rw [<- show a = ai t (k + 1) from HCa.O] at KN
 refine KN.O.mono ?_
 rintro e w2 ⟨rfl, q9, hq9⟩
 have Hw2 : Hid (RA w2 p r base t ⟨k + 1, d, f, g, nm⟩ false hv n) := by rw [hq9]; exact Hw1.O.drewN q9
 have Fw2 : Hid (Fr w w2 r base) := Fw1.O.trans (by rw [hq9]; exact Fr.drewN (r := r) _ _ q9)
 clear hq9 KN
 have c1 : w2.cell? ⟨p, 1, none⟩ = some (.int .i64 ((k : Int) + 1)) := by have h9 := Hw2.O.facts.2.1; simpa using h9
 have c2 := Hw2.O.facts.2.2.1
 have f1 := Hw2.O.facts.2.2.2.1
 have f2 := Hw2.O.facts.2.2.2.2.1
 have hl := Hw2.O.facts.2.2.2.2.2
 by_cases ha : 48 <= a /\ a <= 57
 ·have HD : Hid (fN (ai t (k + 1)) = true) := by show _ = _; rw [<- HCa.O]; unfold fN; exact decide_eq_true ha
  have ha1 : ¬ (a : Int) < 48 := by omega
  have ha2 : ¬ (57 : Int) < (a : Int) := by omega
  obtain ⟨A, hA⟩ := exq (a - 48)
  have HA := aa hA
  have ha3 : IntKind.u8.wrap ((a : Int) - 48) = (A : Int) := by rw [IntKind.wrap_u8]; omega
  go_wp2_with fail
  generalize hw9 : World.setCell _ _ _ = w3
  have Hw3 : Hid (RA w3 p r base t ⟨k + 2, d, f, g, nm⟩ false hv n) := (Hw2.O.up2 w3 hw9 (by simp)).1
  have Fw3 := aa (Fw2.O.trans (Hw2.O.up2 w3 hw9 (by simp)).2)
  clear hw9
  clear c1 c2 f1 f2 hl
  have KN := aa (cX Hw3.O.rk)
  dsimp only at KN
  rw [<- show b = ai t (k + 2) from HCb.O] at KN
  refine KN.O.mono ?_
  rintro e w4 ⟨rfl, q9, hq9⟩
  have Hw4 : Hid (RA w4 p r base t ⟨k + 2, d, f, g, nm⟩ false hv n) := by rw [hq9]; exact Hw3.O.drewN q9
  have Fw4 : Hid (Fr w w4 r base) := Fw3.O.trans (by rw [hq9]; exact Fr.drewN (r := r) _ _ q9)
  clear hq9 KN
  have c1 : w4.cell? ⟨p, 1, none⟩ = some (.int .i64 ((k : Int) + 2)) := by have h9 := Hw4.O.facts.2.1; simpa using h9
  have c2 := Hw4.O.facts.2.2.1
  have f1 := Hw4.O.facts.2.2.2.1
  have f2 := Hw4.O.facts.2.2.2.2.1
  have hl := Hw4.O.facts.2.2.2.2.2
  by_cases hb1 : b = 44
  ·have hb44 : (((b : Nat) : Int) == 44) = true := by rw [beq_iff_eq]; omega
   go_wp2_with fail
   generalize hw9 : World.setCell _ _ _ = w5
   have Hw5 : Hid (RA w5 p r base t ⟨k + 3, d, f, g, nm⟩ false hv n) := (Hw4.O.up2 w5 hw9 (by simp)).1
   have Fw5 := aa (Fw4.O.trans (Hw4.O.up2 w5 hw9 (by simp)).2)
   clear hw9
   clear c1 c2 f1 f2 hl
   have KN := aa (cX Hw5.O.rk)
   dsimp only at KN
   rw [<- show c = ai t (k + 3) from HCc.O] at KN
   refine KN.O.mono ?_
   rintro e w6 ⟨rfl, q9, hq9⟩
   have Hw6 : Hid (RA w6 p r base t ⟨k + 3, d, f, g, nm⟩ false hv n) := by rw [hq9]; exact Hw5.O.drewN q9
   have Fw6 : Hid (Fr w w6 r base) := Fw5.O.trans (by rw [hq9]; exact Fr.drewN (r := r) _ _ q9)
   clear hq9 KN
   have c1 : w6.cell? ⟨p, 1, none⟩ = some (.int .i64 ((k : Int) + 3)) := by have h9 := Hw6.O.facts.2.1; simpa using h9
   have c2 := Hw6.O.facts.2.2.1
   have f1 := Hw6.O.facts.2.2.2.1
   have f2 := Hw6.O.facts.2.2.2.2.1
   have hl := Hw6.O.facts.2.2.2.2.2
   by_cases hcq : c = 125
   ·have hc125 : (((c : Nat) : Int) == 125) = true := by rw [beq_iff_eq]; omega
    go_wp2_with fail
    have KN := aa (cX Hw6.O.rk)
    dsimp only at KN
    rw [<- show c = ai t (k + 3) from HCc.O] at KN
    refine KN.O.mono ?_
    rintro e w7 ⟨rfl, q9, hq9⟩
    have Hw7 : Hid (RA w7 p r base t ⟨k + 3, d, f, g, nm⟩ false hv n) := by rw [hq9]; exact Hw6.O.drewN q9
    have Fw7 : Hid (Fr w w7 r base) := Fw6.O.trans (by rw [hq9]; exact Fr.drewN (r := r) _ _ q9)
    clear hq9 KN
    clear c1 c2 f1 f2 hl
    go_wp2_with fail
    go_ret2
    have ho := d9.more (t := t) (k := k) HD.O (by rw [<- HCb.O]; exact hb1) (by rw [<- HCc.O]; exact hcq)
    rw [<- show a = ai t (k + 1) from HCa.O] at ho
    exact ⟨_, _, ho, Fw7.O, rfl, Hw7.O⟩
   ·have hc125 : (((c : Nat) : Int) == 125) = false := by rw [beq_eq_false_iff_ne]; omega
    by_cases hcd : (48 <= c /\ c <= 57) /\ a <= c
    ·have hc1 : ¬ (c : Int) < 48 := by omega
     have hc2 : ¬ (57 : Int) < (c : Int) := by omega
     obtain ⟨C, hC⟩ := exq (c - 48)
     have HCC := aa hC
     have hc3 : IntKind.u8.wrap ((c : Int) - 48) = (C : Int) := by rw [IntKind.wrap_u8]; omega
     have hc4 : ¬ (C : Int) < (A : Int) := by omega
     have HD3 : Hid (fN (ai t (k + 3)) = true) := by show _ = _; rw [<- HCc.O]; unfold fN; exact decide_eq_true hcd.1
     have HLE : Hid (ai t (k + 1) <= ai t (k + 3)) := by show _ <= _; rw [<- HCc.O, <- HCa.O]; exact hcd.2
     go_wp2_with fail
     generalize hw9 : World.setCell _ _ _ = w7
     have Hw7 : Hid (RA w7 p r base t ⟨k + 4, d, f, g, nm⟩ false hv n) := (Hw6.O.up2 w7 hw9 (by simp)).1
     have Fw7 := aa (Fw6.O.trans (Hw6.O.up2 w7 hw9 (by simp)).2)
     clear hw9
     clear c1 c2 f1 f2 hl
     have KN := aa (cX Hw7.O.rk)
     dsimp only at KN
     rw [<- show x = ai t (k + 4) from HCx.O] at KN
     refine KN.O.mono ?_
     rintro e w8 ⟨rfl, q9, hq9⟩
     have Hw8 : Hid (RA w8 p r base t ⟨k + 4, d, f, g, nm⟩ false hv n) := by rw [hq9]; exact Hw7.O.drewN q9
     have Fw8 : Hid (Fr w w8 r base) := Fw7.O.trans (by rw [hq9]; exact Fr.drewN (r := r) _ _ q9)
     clear hq9 KN
     have c1 : w8.cell? ⟨p, 1, none⟩ = some (.int .i64 ((k : Int) + 4)) := by have h9 := Hw8.O.facts.2.1; simpa using h9
     have c2 := Hw8.O.facts.2.2.1
     have f1 := Hw8.O.facts.2.2.2.1
     have f2 := Hw8.O.facts.2.2.2.2.1
     have hl := Hw8.O.facts.2.2.2.2.2
     by_cases hx2 : x = 125
     ·have hx125 : (((x : Nat) : Int) == 125) = true := by rw [beq_iff_eq]; omega
      clear c1 c2 f1 f2 hl
      go_wp2_with fail
      go_ret2
      have ho := d9.two (t := t) (k := k) HD.O (by rw [<- HCb.O]; exact hb1) HD3.O HLE.O (by rw [<- HCx.O]; exact hx2)
      rw [<- show a = ai t (k + 1) from HCa.O, <- show c = ai t (k + 3) from HCc.O] at ho
      exact ⟨_, _, ho, Fw8.O, rfl, Hw8.O⟩
     ·have hx125 : (((x : Nat) : Int) == 125) = false := by rw [beq_eq_false_iff_ne]; omega
      go_wp2_with fail
      generalize hw9 : World.setCell _ _ _ = wz
      have HZ := aa (Hw8.O.bads wz hw9)
      clear hw9
      clear c1 c2 f1 f2 hl
      go_wp2_with fail
      go_ret2
      exact ⟨none, _, .endBad HD.O (by rw [<- HCb.O]; exact hb1) HD3.O HLE.O (by rw [<- HCx.O]; exact hx2), Fw8.O.trans HZ.O.2, ⟨_, _, rfl⟩, HZ.O.1⟩
    ·by_cases hq1 : c < 48
     ·have hc1 : (c : Int) < 48 := by omega
      go_wp2_with fail
      generalize hw9 : World.setCell _ _ _ = wz
      have HZ := aa (Hw6.O.bads wz hw9)
      clear hw9
      clear c1 c2 f1 f2 hl
      go_wp2_with fail
      go_ret2
      exact ⟨none, _, .twoBad HD.O (by rw [<- HCb.O]; exact hb1) (by rw [<- HCc.O]; exact hcq) (by rw [<- HCc.O, <- HCa.O]; unfold fN; simp; omega), Fw6.O.trans HZ.O.2, ⟨_, _, rfl⟩, HZ.O.1⟩
     ·by_cases hq2 : 57 < c
      ·have hc1 : ¬ (c : Int) < 48 := by omega
       have hc2 : (57 : Int) < (c : Int) := by omega
       go_wp2_with fail
       generalize hw9 : World.setCell _ _ _ = wz
       have HZ := aa (Hw6.O.bads wz hw9)
       clear hw9
       clear c1 c2 f1 f2 hl
       go_wp2_with fail
       go_ret2
       exact ⟨none, _, .twoBad HD.O (by rw [<- HCb.O]; exact hb1) (by rw [<- HCc.O]; exact hcq) (by rw [<- HCc.O, <- HCa.O]; unfold fN; simp; omega), Fw6.O.trans HZ.O.2, ⟨_, _, rfl⟩, HZ.O.1⟩
      ·have hc1 : ¬ (c : Int) < 48 := by omega
       have hc2 : ¬ (57 : Int) < (c : Int) := by omega
       have hc3 : IntKind.u8.wrap ((c : Int) - 48) = ((c - 48 : Nat) : Int) := by rw [IntKind.wrap_u8]; omega
       have hc4 : ((c - 48 : Nat) : Int) < (A : Int) := by omega
       obtain ⟨C, hC⟩ := exq (c - 48)
       rw [<- hC] at hc3 hc4
       clear hC
       go_wp2_with fail
       generalize hw9 : World.setCell _ _ _ = wz
       have HZ := aa (Hw6.O.bads wz hw9)
       clear hw9
       clear c1 c2 f1 f2 hl
       go_wp2_with fail
       go_ret2
       exact ⟨none, _, .twoBad HD.O (by rw [<- HCb.O]; exact hb1) (by rw [<- HCc.O]; exact hcq) (by rw [<- HCc.O, <- HCa.O]; unfold fN; simp; omega), Fw6.O.trans HZ.O.2, ⟨_, _, rfl⟩, HZ.O.1⟩
  ·have hb44 : (((b : Nat) : Int) == 44) = false := by rw [beq_eq_false_iff_ne]; omega
   go_wp2_with fail
   have KN := aa (cX Hw4.O.rk)
   dsimp only at KN
   rw [<- show b = ai t (k + 2) from HCb.O] at KN
   refine KN.O.mono ?_
   rintro e w5 ⟨rfl, q9, hq9⟩
   have Hw5 : Hid (RA w5 p r base t ⟨k + 2, d, f, g, nm⟩ false hv n) := by rw [hq9]; exact Hw4.O.drewN q9
   have Fw5 : Hid (Fr w w5 r base) := Fw4.O.trans (by rw [hq9]; exact Fr.drewN (r := r) _ _ q9)
   clear hq9 KN
   clear c1 c2 f1 f2 hl
   have c1 : w5.cell? ⟨p, 1, none⟩ = some (.int .i64 ((k : Int) + 2)) := by have h9 := Hw5.O.facts.2.1; simpa using h9
   have c2 := Hw5.O.facts.2.2.1
   have f1 := Hw5.O.facts.2.2.2.1
   have f2 := Hw5.O.facts.2.2.2.2.1
   have hl := Hw5.O.facts.2.2.2.2.2
   by_cases hb2 : b = 125
   ·have hb125 : (((b : Nat) : Int) == 125) = true := by rw [beq_iff_eq]; omega
    clear c1 c2 f1 f2 hl
    go_wp2_with fail
    go_ret2
    have ho := d9.one (t := t) (k := k) HD.O (by rw [<- HCb.O]; exact hb2)
    rw [<- show a = ai t (k + 1) from HCa.O] at ho
    exact ⟨_, _, ho, Fw5.O, rfl, Hw5.O⟩
   ·have hb125 : (((b : Nat) : Int) == 125) = false := by rw [beq_eq_false_iff_ne]; omega
    go_wp2_with fail
    generalize hw9 : World.setCell _ _ _ = wz
    have HZ := aa (Hw5.O.bads wz hw9)
    clear hw9
    clear c1 c2 f1 f2 hl
    go_wp2_with fail
    go_ret2
    exact ⟨none, _, .oneBad HD.O (by rw [<- HCb.O]; exact hb1) (by rw [<- HCb.O]; exact hb2), Fw5.O.trans HZ.O.2, ⟨_, _, rfl⟩, HZ.O.1⟩
 ·have HD : Hid (fN (ai t (k + 1)) = false) := by show _ = _; rw [<- HCa.O]; unfold fN; exact decide_eq_false ha
  by_cases ha1 : (a : Int) < 48
  ·go_wp2_with fail
   generalize hw9 : World.setCell _ _ _ = wz
   have HZ := aa (Hw2.O.bads wz hw9)
   clear hw9
   clear c1 c2 f1 f2 hl
   go_wp2_with fail
   go_ret2
   exact ⟨none, _, .noDig HD.O, Fw2.O.trans HZ.O.2, ⟨_, _, rfl⟩, HZ.O.1⟩
  ·have ha2 : (57 : Int) < (a : Int) := by omega
   go_wp2_with fail
   generalize hw9 : World.setCell _ _ _ = wz
   have HZ := aa (Hw2.O.bads wz hw9)
   clear hw9
   clear c1 c2 f1 f2 hl
   go_wp2_with fail
   go_ret2
   exact ⟨none, _, .noDig HD.O, Fw2.O.trans HZ.O.2, ⟨_, _, rfl⟩, HZ.O.1⟩
end Go.Proofs.YtfnanjbleifjkaaGreatDoor.G
