/- What the reader makes of a text is never too great: places, numbers, weights. -/
import Derived.Test.YtmeffeigamaipaaDoorM17
import Derived.Test.YtmeffeigamaipaaDoorM19
set_option linter.unusedVariables false
set_option linter.unusedSimpArgs false
namespace Go.Proofs.YtmeffeigamaipaaDoor.G

structure Mv (t : ByteArray) (s s' : RS) : Prop where
  le : s.k ≤ s'.k
  sz : s.k ≤ t.size → s'.k ≤ t.size
  g : s'.g = s.g
theorem Mv.refl (t : ByteArray) (s : RS) : Mv t s s := ⟨Nat.le_refl _, id, rfl⟩
theorem Mv.trans {t : ByteArray} {a b c : RS} (h : Mv t a b) (h' : Mv t b c) : Mv t a c := ⟨Nat.le_trans h.le h'.le, fun x => h'.sz (h.sz x), h'.g.trans h.g⟩
theorem byte_lt {t : ByteArray} {k : Nat} {b : UInt8} (h : byteAt t k = some b) : k < t.size := by
  unfold byteAt at h
  exact (Array.getElem?_eq_some_iff.1 h).1
theorem sees_ltk {t : ByteArray} {s : RS} {b : UInt8} (h : seesM t s b = true) : s.k < t.size := byte_lt (by unfold seesM at h; simpa using h)
theorem up_mv {t : ByteArray} {s : RS} (h : s.k < t.size) : Mv t s s.up ∧ s.k < s.up.k := ⟨⟨Nat.le_succ _, fun _ => h, rfl⟩, Nat.lt_succ_self _⟩
theorem took_mv (t : ByteArray) (s : RS) (b : UInt8) : Mv t s (s.took t b) := by
  unfold RS.took
  split
  · next h => exact (up_mv (sees_ltk h)).1
  · exact Mv.refl _ _
theorem must_mv {t : ByteArray} {s s' : RS} {b : UInt8} {u : Unit} (h : mustM t s b = .ok u s') : Mv t s s' ∧ s.k < s'.k := by
  unfold mustM at h
  split at h
  · next h1 => cases h; exact up_mv (sees_ltk h1)
  · cases h
theorem bind_ok {α β : Type} {m : Res α} {f : α → RS → Res β} {b : β} {s' : RS} (h : m.bind f = .ok b s') : ∃ a s1, m = .ok a s1 ∧ f a s1 = .ok b s' := by
  cases m with
  | ok a s => exact ⟨a, s, rfl, h⟩
  | bad s => cases h
theorem times_mv {t : ByteArray} {least : Nat} {s s' : RS} {a : Nat} (h : timesM t least s = .ok a s') : Mv t s s' ∧ s.k < s'.k ∧ a ≤ 9 ∧ least ≤ a := by
  unfold timesM at h
  split at h
  · cases h
  · next b hb =>
    split at h
    · cases h
    · next hc =>
      cases h
      have := up_mv (byte_lt hb)
      exact ⟨this.1, this.2, by omega, by omega⟩
def CntOK (x : Nat × Int) : Prop := x.1 ≤ 9 ∧ (x.2 = -1 ∨ ((x.1 : Int) ≤ x.2 ∧ x.2 ≤ 9))
theorem braces_mv {t : ByteArray} {s s' : RS} {x : Nat × Int} (h : bracesM t s = .ok x s') : Mv t s s' ∧ CntOK x := by
  unfold bracesM at h
  obtain ⟨a, s1, h1, h⟩ := bind_ok h
  have m1 := times_mv h1
  split at h
  · next hs =>
    cases h
    exact ⟨m1.1.trans (up_mv (sees_ltk hs)).1, m1.2.2.1, .inr ⟨Int.le_refl _, by have := m1.2.2.1; show (a : Int) ≤ 9; omega⟩⟩
  · obtain ⟨_, s2, h2, h⟩ := bind_ok h
    have m2 := must_mv h2
    split at h
    · next hs =>
      cases h
      exact ⟨m1.1.trans (m2.1.trans (up_mv (sees_ltk hs)).1), m1.2.2.1, .inl rfl⟩
    · obtain ⟨b, s3, h3, h⟩ := bind_ok h
      have m3 := times_mv h3
      obtain ⟨_, s4, h4, h⟩ := bind_ok h
      have m4 := must_mv h4
      cases h
      exact ⟨m1.1.trans (m2.1.trans (m3.1.trans m4.1)), m1.2.2.1, .inr ⟨by have := m3.2.2.2; show (a : Int) ≤ (b : Int); omega, by have := m3.2.2.1; show (b : Int) ≤ 9; omega⟩⟩
theorem count_mv {t : ByteArray} {s s' : RS} {c : Option (Nat × Int)} (h : countM t s = .ok c s') : Mv t s s' ∧ ∀ x, c = some x → CntOK x := by
  unfold countM at h
  split at h
  · next hs => cases h; exact ⟨(up_mv (sees_ltk hs)).1, fun x hx => by cases hx; exact ⟨by decide, .inl rfl⟩⟩
  · split at h
    · next hs => cases h; exact ⟨(up_mv (sees_ltk hs)).1, fun x hx => by cases hx; exact ⟨by decide, .inl rfl⟩⟩
    · split at h
      · next hs => cases h; exact ⟨(up_mv (sees_ltk hs)).1, fun x hx => by cases hx; exact ⟨by decide, .inr (by decide)⟩⟩
      · split at h
        · next hs =>
          obtain ⟨x, s1, h1, h⟩ := bind_ok h
          have m1 := braces_mv h1
          cases h
          exact ⟨(up_mv (sees_ltk hs)).1.trans m1.1, fun y hy => by cases hy; exact m1.2⟩
        · cases h; exact ⟨Mv.refl _ _, fun x hx => by cases hx⟩
theorem plain_mv {t : ByteArray} {but : List UInt8} {s s' : RS} {b : UInt8} (h : plainM t but s = .ok b s') : Mv t s s' ∧ s.k < s'.k := by
  unfold plainM at h
  split at h
  · cases h
  · next hb =>
    split at h
    · cases h
    · cases h; exact up_mv (byte_lt hb)
theorem escape_mv {t : ByteArray} {s s' : RS} {x : Cls × UInt8 × Bool} (h : escapeM t s = .ok x s') : Mv t s s' ∧ s.k < s'.k := by
  unfold escapeM at h
  split at h
  · cases h
  · next hb =>
    split at h
    · cases h; exact up_mv (byte_lt hb)
    · split at h
      · cases h
      · cases h; exact up_mv (byte_lt hb)
theorem pairEnd_mv {t : ByteArray} {f : UInt8} {s s' : RS} {b : UInt8} (h : pairEndM t f s = .ok b s') : Mv t s s' ∧ s.k < s'.k := by
  unfold pairEndM at h
  dsimp only at h
  by_cases he : (decide (f.toNat ≤ 125) && seesM t s 92) = true
  · rw [if_pos he] at h
    rw [Bool.and_eq_true] at he
    have m1 := up_mv (sees_ltk he.2)
    split at h
    · cases h
    · next hb =>
      split at h
      · cases h
      · split at h
        · split at h
          · cases h
            have m2 := up_mv (byte_lt hb)
            exact ⟨m1.1.trans m2.1, Nat.lt_of_lt_of_le m1.2 m2.1.le⟩
          · cases h
        · have m2 := plain_mv h
          exact ⟨m1.1.trans m2.1, Nat.lt_of_lt_of_le m1.2 m2.1.le⟩
  · rw [if_neg he] at h
    split at h
    · cases h
    · next hb =>
      split at h
      · cases h
      · exact plain_mv h
theorem itemTail_mv {t : ByteArray} {b : UInt8} {s s' : RS} {c : Cls} (h : itemTail t b s = .ok c s') : Mv t s s' := by
  unfold itemTail at h
  split at h
  · next hs =>
    obtain ⟨e, s1, h1, h⟩ := bind_ok h
    cases h
    exact (up_mv (sees_ltk hs)).1.trans (pairEnd_mv h1).1
  · cases h; exact Mv.refl _ _
theorem item_mv {t : ByteArray} {s s' : RS} {c : Cls} (h : itemM t s = .ok c s') : Mv t s s' := by
  unfold itemM at h
  split at h
  · next hs =>
    obtain ⟨x, s1, h1, h⟩ := bind_ok h
    have m1 := (up_mv (sees_ltk hs)).1.trans (escape_mv h1).1
    split at h
    · exact m1.trans (itemTail_mv h)
    · cases h; exact m1
  · obtain ⟨b, s1, h1, h⟩ := bind_ok h
    exact (plain_mv h1).1.trans (itemTail_mv h)
theorem items_mv {t : ByteArray} : ∀ (n : Nat) (c c' : Cls) (s s' : RS), itemsM t n c s = .ok c' s' → Mv t s s'
  | 0, c, c', s, s', h => by cases h
  | n + 1, c, c', s, s', h => by
    unfold itemsM at h
    split at h
    · next hs => cases h; exact (up_mv (sees_ltk hs)).1
    · obtain ⟨x, s1, h1, h⟩ := bind_ok h
      exact (item_mv h1).trans (items_mv n _ _ _ _ h)
theorem set_mv {t : ByteArray} {s s' : RS} {c : Cls} (h : setM t s = .ok c s') : Mv t s s' ∧ s.k < s'.k := by
  unfold setM at h
  obtain ⟨_, s1, h1, h⟩ := bind_ok h
  obtain ⟨c1, s2, h2, h⟩ := bind_ok h
  obtain ⟨c2, s3, h3, h⟩ := bind_ok h
  cases h
  have m1 := must_mv h1
  have m := (took_mv t s1 94).trans ((item_mv h2).trans (items_mv _ _ _ _ _ h3))
  exact ⟨m1.1.trans m, Nat.lt_of_lt_of_le m1.2 m.le⟩
theorem gnLoop_mv {t : ByteArray} (i : Nat) : ∀ (n : Nat) (u : Unit) (s s' : RS), gnLoop t i n s = .ok u s' → Mv t s s'
  | 0, u, s, s', h => by cases h; exact Mv.refl _ _
  | n + 1, u, s, s', h => by
    unfold gnLoop at h
    split at h
    · cases h
    · next hb =>
      split at h
      · split at h
        · cases h
        · exact (up_mv (byte_lt hb)).1.trans (gnLoop_mv i n u _ _ h)
      · cases h; exact Mv.refl _ _
theorem groupName_mv {t : ByteArray} {s s' : RS} {n : ByteArray} (h : groupNameM t s = .ok n s') : Mv t s s' := by
  unfold groupNameM at h
  obtain ⟨_, s1, h1, h⟩ := bind_ok h
  split at h
  · cases h
  · cases h; exact gnLoop_mv _ _ _ _ _ h1
theorem opening_mv {t : ByteArray} {s s' : RS} {g : Nat} (h : openingM t s = .ok g s') (h5 : s.g ≤ 5) : s.k ≤ s'.k ∧ (s.k ≤ t.size → s'.k ≤ t.size) ∧ s'.g ≤ 5 ∧ g ≤ 5 := by
  unfold openingM at h
  split at h
  · next hc =>
    cases h
    exact ⟨Nat.le_refl _, id, by show s.g + 1 ≤ 5; omega, by omega⟩
  · obtain ⟨_, s1, h1, h⟩ := bind_ok h
    have m1 := must_mv h1
    split at h
    · next hs =>
      cases h
      have m2 := m1.1.trans (up_mv (sees_ltk hs)).1
      exact ⟨m2.le, m2.sz, by rw [m2.g]; exact h5, by omega⟩
    · split at h
      · cases h
      · next hg5 =>
        obtain ⟨_, s2, h2, h⟩ := bind_ok h
        obtain ⟨_, s3, h3, h⟩ := bind_ok h
        obtain ⟨n, s4, h4, h⟩ := bind_ok h
        obtain ⟨_, s5, h6, h⟩ := bind_ok h
        cases h
        have m2 := m1.1.trans ((must_mv h2).1.trans ((must_mv h3).1.trans ((groupName_mv h4).trans (must_mv h6).1)))
        have e : s5.g = s.g := m2.g
        have e1 : s1.g = s.g := m1.1.g
        exact ⟨m2.le, m2.sz, by show s5.g + 1 ≤ 5; omega, by omega⟩

mutual
def POK : Pt → Prop
  | .single _ => True
  | .seq l => POKL l
  | .alt l => POKL l ∧ 1 ≤ l.length
  | .wrap q g => POK q ∧ g ≤ 5
  | .count q le mo _ => POK q ∧ 1 ≤ wt q ∧ CntOK (le, mo)
def POKL : List Pt → Prop
  | [] => True
  | q :: l => POK q ∧ POKL l
end
theorem POKL_snoc {l : List Pt} {p : Pt} (h : POKL l) (hp : POK p) : POKL (l ++ [p]) := by
  induction l with
  | nil => exact ⟨hp, trivial⟩
  | cons a l ih => exact ⟨h.1, ih h.2⟩
theorem WOKL_snoc {l : List Pt} {p : Pt} (h : WOKL l) (hp : WOK p) : WOKL (l ++ [p]) := by
  induction l with
  | nil => exact ⟨hp, trivial⟩
  | cons a l ih => exact ⟨h.1, ih h.2⟩

structure Fine (t : ByteArray) (n : Nat) (s : RS) (p : Pt) (s' : RS) : Prop where
  le : s.k ≤ s'.k
  sz : s.k ≤ t.size → s'.k ≤ t.size
  g5 : s'.g ≤ 5
  wt : wt p ≤ (s'.k - s.k) * 11 ^ n
  wok : WOK p
  pok : POK p
structure FineL (t : ByteArray) (n : Nat) (s : RS) (x : Nat) (l : List Pt) (s' : RS) : Prop where
  le : s.k ≤ s'.k
  sz : s.k ≤ t.size → s'.k ≤ t.size
  g5 : s'.g ≤ 5
  wt : wtL l + x ≤ (s'.k - s.k) * 11 ^ n
  len : l.length ≤ s'.k - s.k + 1
  wok : WOKL l
  pok : POKL l
theorem pow_pos11 (n : Nat) : 1 ≤ 11 ^ n := Nat.one_le_pow _ _ (by decide)
theorem big {t : ByteArray} (ht : t.size ≤ 60) {a b : Nat} (hb : b ≤ t.size) (n : Nat) (hn : n ≤ 7) : (b - a) * 11 ^ n ≤ 1169230260 := by
  have h1 : 11 ^ n ≤ 11 ^ 7 := Nat.pow_le_pow_right (by decide) hn
  have h2 : (b - a) * 11 ^ n ≤ 60 * 11 ^ 7 := Nat.mul_le_mul (by omega) h1
  have h3 : 60 * 11 ^ 7 = 1169230260 := by decide
  omega
section
variable {t : ByteArray} {E : RS → Res Pt} {n : Nat} (ht : t.size ≤ 60) (hn : n + 1 ≤ 7) (hE : ∀ s p s', E s = .ok p s' → s.g ≤ 5 → s.k ≤ t.size → Fine t n s p s')
include ht hn hE
theorem atom_fine {s s' : RS} {p : Pt} (h : atomM t E s = .ok p s') (h5 : s.g ≤ 5) (hk : s.k ≤ t.size) : Fine t n s p s' ∧ s.k < s'.k ∧ 1 ≤ Go.Proofs.YtmeffeigamaipaaDoor.G.wt p := by
  have hp1 := pow_pos11 n
  have single : ∀ (c : Cls) (s' : RS), Mv t s s' ∧ s.k < s'.k → Fine t n s (.single c) s' ∧ s.k < s'.k ∧ 1 ≤ Go.Proofs.YtmeffeigamaipaaDoor.G.wt (.single c) := fun c s' m =>
    ⟨⟨m.1.le, m.1.sz, by rw [m.1.g]; exact h5, by
      show 1 ≤ _
      have h2 : 1 * 1 ≤ (s'.k - s.k) * 11 ^ n := Nat.mul_le_mul (by have := m.2; omega) hp1
      omega, trivial, trivial⟩, m.2, Nat.le_refl _⟩
  unfold atomM at h
  split at h
  · cases h
  · next b hb =>
    split at h
    · unfold parenM at h
      split at h
      · cases h
      · obtain ⟨_, s1, h1, h⟩ := bind_ok h
        obtain ⟨g, s2, h2, h⟩ := bind_ok h
        obtain ⟨q, s3, h3, h⟩ := bind_ok h
        obtain ⟨_, s4, h4, h⟩ := bind_ok h
        cases h
        have m1 := must_mv h1
        have m2 := opening_mv h2 (by show s1.g ≤ 5; rw [m1.1.g]; exact h5)
        have hk2 : s2.k ≤ t.size := m2.2.1 (m1.1.sz hk)
        have f := hE _ _ _ h3 m2.2.2.1 hk2
        have m4 := must_mv h4
        have l1 : s.k < s1.k := m1.2
        have l2 : s1.k ≤ s2.k := m2.1
        have l3 := f.le
        have l4 := m4.2
        have hk4 : s4.k ≤ t.size := m4.1.sz (f.sz hk2)
        have hw := f.wt
        have hmul : (s3.k - s2.k) * 11 ^ n + 1 ≤ (s4.k - s.k) * 11 ^ n := by
          have h9 : (s3.k - s2.k + 1) * 11 ^ n ≤ (s4.k - s.k) * 11 ^ n := Nat.mul_le_mul_right _ (by omega)
          rw [Nat.add_mul] at h9
          omega
        have hbig := big (a := s2.k) ht (f.sz hk2) n (by omega)
        refine ⟨⟨by show s.k ≤ s4.k; omega, fun _ => hk4, by show s4.g ≤ 5; rw [m4.1.g]; exact f.g5, ?_, ⟨f.wok, by omega, by have := m2.2.2.2; omega⟩, ⟨f.pok, m2.2.2.2⟩⟩, by show s.k < s4.k; omega, ?_⟩
        · show Go.Proofs.YtmeffeigamaipaaDoor.G.wt q + 1 ≤ (s4.k - s.k) * 11 ^ n
          omega
        · show 1 ≤ Go.Proofs.YtmeffeigamaipaaDoor.G.wt q + 1
          omega
    · split at h
      · obtain ⟨c, s1, h1, h⟩ := bind_ok h
        cases h
        exact single _ _ (set_mv h1)
      · split at h
        · cases h
          exact single _ _ (up_mv (byte_lt hb))
        · split at h
          · obtain ⟨x, s1, h1, h⟩ := bind_ok h
            cases h
            have m1 := up_mv (byte_lt hb)
            have m2 := escape_mv h1
            exact single _ _ ⟨m1.1.trans m2.1, Nat.lt_trans m1.2 m2.2⟩
          · obtain ⟨x, s1, h1, h⟩ := bind_ok h
            cases h
            exact single _ _ (plain_mv h1)
theorem piece_fine {s s' : RS} {p : Pt} (h : pieceM t E s = .ok p s') (h5 : s.g ≤ 5) (hk : s.k ≤ t.size) : Fine t (n + 1) s p s' ∧ s.k < s'.k := by
  unfold pieceM at h
  obtain ⟨q, s1, h1, h⟩ := bind_ok h
  obtain ⟨c, s2, h2, h⟩ := bind_ok h
  obtain ⟨f, hlt, hq1⟩ := atom_fine ht hn hE h1 h5 hk
  have m2 := count_mv h2
  have hp1 := pow_pos11 n
  have hw := f.wt
  have hk1 := f.sz hk
  have hpow : 11 ^ (n + 1) = 11 ^ n * 11 := Nat.pow_succ ..
  cases c with
  | none =>
    cases h
    have l2 := m2.1.le
    refine ⟨⟨Nat.le_trans f.le m2.1.le, fun x => m2.1.sz (f.sz x), by rw [m2.1.g]; exact f.g5, ?_, f.wok, f.pok⟩, Nat.lt_of_lt_of_le hlt m2.1.le⟩
    have h9 : (s1.k - s.k) * 11 ^ n ≤ (s'.k - s.k) * 11 ^ (n + 1) := Nat.mul_le_mul (by omega) (by omega)
    omega
  | some x =>
    cases h
    obtain ⟨le, mo⟩ := x
    obtain ⟨c1, c2⟩ := m2.2 _ rfl
    have m3 := took_mv t s2 63
    have l2 := m2.1.le
    have l3 := m3.le
    have hle : (if mo = -1 then le + 1 else mo.toNat) ≤ 10 := by
      dsimp only at c1 c2
      split
      · omega
      · omega
    have hbig := big (a := s.k) ht hk1 n (by omega)
    have hmul : Go.Proofs.YtmeffeigamaipaaDoor.G.wt q * (if mo = -1 then le + 1 else mo.toNat) ≤ Go.Proofs.YtmeffeigamaipaaDoor.G.wt q * 10 := Nat.mul_le_mul_left _ hle
    refine ⟨⟨by omega, fun _ => m3.sz (m2.1.sz hk1), by rw [m3.g, m2.1.g]; exact f.g5, ?_, ⟨f.wok, by omega, by dsimp only at c1; omega, by dsimp only at c2; show -1 ≤ mo; omega, by dsimp only at c2; show mo < _; omega, by show Go.Proofs.YtmeffeigamaipaaDoor.G.wt q * (if mo = -1 then le + 1 else mo.toNat) < _; omega⟩, ⟨f.pok, hq1, c1, c2⟩⟩, by omega⟩
    show Go.Proofs.YtmeffeigamaipaaDoor.G.wt q * (if mo = -1 then le + 1 else mo.toNat) + 1 ≤ _
    have h9 : (s1.k - s.k) * 11 ^ n * 11 ≤ ((s2.took t 63).k - s.k) * 11 ^ (n + 1) := by
      rw [hpow, ← Nat.mul_assoc]
      exact Nat.mul_le_mul_right _ (Nat.mul_le_mul_right _ (by omega))
    have h10 : Go.Proofs.YtmeffeigamaipaaDoor.G.wt q * 11 ≤ (s1.k - s.k) * 11 ^ n * 11 := Nat.mul_le_mul_right _ hw
    omega
theorem branch_fine : ∀ (f : Nat) (acc l : List Pt) (s0 s s' : RS), branchM t E f acc s = .ok l s' → FineL t (n + 1) s0 0 acc s → s0.k ≤ t.size → FineL t (n + 1) s0 0 l s'
  | 0, acc, l, s0, s, s', h, _, _ => by cases h
  | f + 1, acc, l, s0, s, s', h, ha, hk => by
    unfold branchM at h
    split at h
    · cases h; exact ha
    · obtain ⟨p, s1, h1, h⟩ := bind_ok h
      obtain ⟨fp, hlt⟩ := piece_fine ht hn hE h1 ha.g5 (ha.sz hk)
      refine branch_fine f _ _ s0 _ _ h ?_ hk
      have l1 := ha.le
      have l2 := ha.len
      have hw := ha.wt
      have hw2 := fp.wt
      have e : (s1.k - s0.k) * 11 ^ (n + 1) = (s.k - s0.k) * 11 ^ (n + 1) + (s1.k - s.k) * 11 ^ (n + 1) := by
        rw [← Nat.add_mul]
        congr 1
        omega
      refine ⟨by omega, fun x => fp.sz (ha.sz x), fp.g5, ?_, by rw [List.length_append]; show acc.length + 1 ≤ _; omega, WOKL_snoc ha.wok fp.wok, POKL_snoc ha.pok fp.pok⟩
      rw [wtL_append]
      show wtL acc + (Go.Proofs.YtmeffeigamaipaaDoor.G.wt p + 0) + 0 ≤ _
      omega
theorem seq_fine {s s' : RS} {l : List Pt} {f : Nat} (h : branchM t E f [] s = .ok l s') (h5 : s.g ≤ 5) (hk : s.k ≤ t.size) : Fine t (n + 1) s (.seq l) s' := by
  have h0 : FineL t (n + 1) s 0 [] s := ⟨Nat.le_refl _, id, h5, by show 0 ≤ _; omega, by simp, trivial, trivial⟩
  have fl := branch_fine ht hn hE f [] l s s s' h h0 hk
  have hb := big (a := s.k) ht (fl.sz hk) (n + 1) hn
  have h1 := fl.wt
  have h2 := fl.len
  have h3 := fl.sz hk
  exact ⟨fl.le, fl.sz, fl.g5, by show wtL l ≤ _; omega, ⟨fl.wok, by omega, by omega⟩, fl.pok⟩
theorem alt_fine : ∀ (f : Nat) (acc l : List Pt) (s0 s s' : RS), altM t E f acc s = .ok l s' → FineL t (n + 1) s0 (acc.length - 1) acc s → 1 ≤ acc.length → s0.k ≤ t.size → FineL t (n + 1) s0 (l.length - 1) l s' ∧ 1 ≤ l.length
  | 0, acc, l, s0, s, s', h, _, _, _ => by cases h
  | f + 1, acc, l, s0, s, s', h, ha, h1, hk => by
    unfold altM at h
    split at h
    · next hs =>
      obtain ⟨q, s1, h2, h⟩ := bind_ok h
      have m1 := up_mv (sees_ltk hs)
      have fp := seq_fine ht hn hE h2 (by rw [m1.1.g]; exact ha.g5) (m1.1.sz (ha.sz hk))
      have hku : s.up.k = s.k + 1 := rfl
      refine alt_fine f _ _ s0 _ _ h ?_ (by simp) hk
      have l1 := ha.le
      have l2 := ha.len
      have hw := ha.wt
      have hw2 := fp.wt
      have l3 := fp.le
      have hp1 := pow_pos11 (n + 1)
      have e : (s1.k - s0.k) * 11 ^ (n + 1) = (s.k - s0.k) * 11 ^ (n + 1) + (s1.k - s.up.k) * 11 ^ (n + 1) + 1 * 11 ^ (n + 1) := by
        rw [← Nat.add_mul, ← Nat.add_mul]
        congr 1
        omega
      refine ⟨by omega, fun x => fp.sz (m1.1.sz (ha.sz x)), fp.g5, ?_, by rw [List.length_append]; show acc.length + 1 ≤ _; omega, WOKL_snoc ha.wok fp.wok, POKL_snoc ha.pok fp.pok⟩
      rw [wtL_append, List.length_append]
      show wtL acc + (Go.Proofs.YtmeffeigamaipaaDoor.G.wt (.seq q) + 0) + (acc.length + 1 - 1) ≤ _
      omega
    · cases h; exact ⟨ha, h1⟩
theorem expr_fine {s s' : RS} {p : Pt} (h : exprM t E s = .ok p s') (h5 : s.g ≤ 5) (hk : s.k ≤ t.size) : Fine t (n + 1) s p s' := by
  unfold exprM at h
  obtain ⟨l, s1, h1, h⟩ := bind_ok h
  obtain ⟨b, s2, h2, h⟩ := bind_ok h
  cases h
  have f1 := seq_fine ht hn hE h1 h5 hk
  have h0 : FineL t (n + 1) s (([Pt.seq l] : List Pt).length - 1) [Pt.seq l] s1 := ⟨f1.le, f1.sz, f1.g5, by have := f1.wt; show (Go.Proofs.YtmeffeigamaipaaDoor.G.wt (.seq l) + 0) + 0 ≤ _; omega, by simp, ⟨f1.wok, trivial⟩, ⟨f1.pok, trivial⟩⟩
  obtain ⟨fl, hl⟩ := alt_fine ht hn hE _ _ _ s _ _ h2 h0 (by simp) hk
  have hb := big (a := s.k) ht (fl.sz hk) (n + 1) hn
  have w1 := fl.wt
  have w2 := fl.len
  have w3 := fl.sz hk
  exact ⟨fl.le, fl.sz, fl.g5, by show wtL b + b.length - 1 ≤ _; omega, ⟨fl.wok, by omega, by omega, hl⟩, ⟨fl.pok, hl⟩⟩
end
theorem exprAt_fine {t : ByteArray} (ht : t.size ≤ 60) : ∀ n, n ≤ 7 → ∀ s p s', exprAt t n s = .ok p s' → s.g ≤ 5 → s.k ≤ t.size → Fine t n s p s'
  | 0, _, s, p, s', h, _, _ => by cases h
  | n + 1, hn, s, p, s', h, h5, hk => expr_fine ht hn (fun s p s' h h5 hk => exprAt_fine ht n (by omega) s p s' h h5 hk) h h5 hk
theorem read_fine {t : ByteArray} (ht : t.size ≤ 60) {p : Pt} {s : RS} (h : readM t = .ok p s) : WOK p ∧ POK p ∧ s.g ≤ 5 := by
  unfold readM at h
  obtain ⟨_, s0, h0, h⟩ := bind_ok h
  obtain ⟨q, s1, h1, h⟩ := bind_ok h
  have hs0 : s0.g = 0 ∧ s0.k ≤ t.size := by
    unfold foldM at h0
    split at h0
    · next hb =>
      obtain ⟨_, s2, h2, h0⟩ := bind_ok h0
      cases h0
      have m := (must_mv h2).1
      exact ⟨m.g, m.sz (by show 3 ≤ t.size; have := byte_lt hb.2.2; omega)⟩
    · cases h0; exact ⟨rfl, Nat.zero_le _⟩
  split at h
  · cases h
    have f := exprAt_fine ht 7 (Nat.le_refl _) _ _ _ h1 (by omega) hs0.2
    exact ⟨f.wok, f.pok, f.g5⟩
  · cases h
end Go.Proofs.YtmeffeigamaipaaDoor.G
