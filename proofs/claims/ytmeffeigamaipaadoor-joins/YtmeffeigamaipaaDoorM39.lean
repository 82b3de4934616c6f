/- A10 JP3, one behind the other. -/
import Derived.Test.YtmeffeigamaipaaDoorM38
import Derived.Test.YtmeffeigamaipaaDoorM27
import Derived.Test.YtmeffeigamaipaaDoorM28
set_option linter.unusedVariables false
set_option linter.unusedSimpArgs false
/- The runes of a string, as the document takes them. -/
namespace Go.Proofs.YtmeffeigamaipaaDoor.G
open Go.Lib

def szN (n b0 b1 b2 b3 : Nat) : Nat :=
  if (194 ≤ b0 ∧ b0 ≤ 223) ∧ (1 < n ∧ 128 ≤ b1 ∧ b1 < 192) then 2
  else if (1 < n ∧ 128 ≤ b1 ∧ b1 < 192) ∧ (2 < n ∧ 128 ≤ b2 ∧ b2 < 192) ∧ ((b0 = 224 ∧ 160 ≤ b1) ∨ (b0 = 237 ∧ b1 ≤ 159) ∨ (225 ≤ b0 ∧ b0 ≤ 239 ∧ b0 ≠ 237)) then 3
  else if (1 < n ∧ 128 ≤ b1 ∧ b1 < 192) ∧ (2 < n ∧ 128 ≤ b2 ∧ b2 < 192) ∧ (3 < n ∧ 128 ≤ b3 ∧ b3 < 192) ∧ ((b0 = 240 ∧ 144 ≤ b1) ∨ (b0 = 244 ∧ b1 ≤ 143) ∨ (241 ≤ b0 ∧ b0 ≤ 243)) then 4
  else 1
set_option maxHeartbeats 4000000 in
theorem dec_size (n b0 b1 b2 b3 : Nat) (h0 : 128 ≤ b0) (g0 : b0 < 256) (g1 : b1 < 256) (g2 : b2 < 256) (g3 : b3 < 256) : (decodeN n b0 b1 b2 b3).2 = szN n b0 b1 b2 b3 ∧ 128 ≤ (decodeN n b0 b1 b2 b3).1 := by
  unfold decodeN szN
  rw [if_neg (by omega)]
  by_cases c1 : b0 / 32 = 6 ∧ (1 < n ∧ b1 / 64 = 2)
  · rw [if_pos c1]
    by_cases d1 : b0 % 32 * 64 + b1 % 64 ≥ 128
    · rw [if_pos d1, if_pos (by omega)]
      exact ⟨rfl, by dsimp only; omega⟩
    · rw [if_neg d1, if_neg (by omega), if_neg (by omega), if_neg (by omega)]
      exact ⟨rfl, by decide⟩
  · rw [if_neg c1]
    by_cases c2 : b0 / 16 = 14 ∧ (1 < n ∧ b1 / 64 = 2) ∧ (2 < n ∧ b2 / 64 = 2)
    · rw [if_pos c2]
      by_cases d2 : b0 % 16 * 4096 + b1 % 64 * 64 + b2 % 64 ≥ 2048 ∧ (b0 % 16 * 4096 + b1 % 64 * 64 + b2 % 64 < 55296 ∨ (57344 ≤ b0 % 16 * 4096 + b1 % 64 * 64 + b2 % 64 ∧ b0 % 16 * 4096 + b1 % 64 * 64 + b2 % 64 ≤ 1114111))
      · rw [if_pos d2, if_neg (by omega), if_pos (by omega)]
        exact ⟨rfl, by dsimp only; omega⟩
      · rw [if_neg d2, if_neg (by omega), if_neg (by omega), if_neg (by omega)]
        exact ⟨rfl, by decide⟩
    · rw [if_neg c2]
      by_cases c3 : b0 / 8 = 30 ∧ (1 < n ∧ b1 / 64 = 2) ∧ (2 < n ∧ b2 / 64 = 2) ∧ (3 < n ∧ b3 / 64 = 2)
      · rw [if_pos c3]
        by_cases d3 : b0 % 8 * 262144 + b1 % 64 * 4096 + b2 % 64 * 64 + b3 % 64 ≥ 65536 ∧ (b0 % 8 * 262144 + b1 % 64 * 4096 + b2 % 64 * 64 + b3 % 64 < 55296 ∨ (57344 ≤ b0 % 8 * 262144 + b1 % 64 * 4096 + b2 % 64 * 64 + b3 % 64 ∧ b0 % 8 * 262144 + b1 % 64 * 4096 + b2 % 64 * 64 + b3 % 64 ≤ 1114111))
        · rw [if_pos d3, if_neg (by omega), if_neg (by omega), if_pos (by omega)]
          exact ⟨rfl, by dsimp only; omega⟩
        · rw [if_neg d3, if_neg (by omega), if_neg (by omega), if_neg (by omega)]
          exact ⟨rfl, by decide⟩
      · rw [if_neg c3, if_neg (by omega), if_neg (by omega), if_neg (by omega)]
        exact ⟨rfl, by decide⟩
def byteN (s : ByteArray) (i : Nat) : Nat := (s.get! i).toNat
theorem byteN_lt (s : ByteArray) (i : Nat) : byteN s i < 256 := UInt8.toNat_lt _
theorem get_d (s : ByteArray) (i : Nat) : s.data.toList.getD i 0 = s.get! i := by
  cases s with
  | mk d =>
    show d.toList.getD i 0 = d[i]!
    by_cases h : i < d.size
    · rw [getElem!_pos d i h]; simp [List.getD, h]
    · rw [getElem!_neg d i h]; simp [List.getD, h]; rfl
theorem get_tl (s : ByteArray) (a j : Nat) : (s.extract a s.size).get! j = s.get! (a + j) := by
  by_cases h : a + j < s.size
  · rw [← get_d, ← get_d, Lib.extract_data]
    simp only [List.getD, List.getElem?_take, List.getElem?_drop]
    rw [if_pos (by omega)]
  · rw [← get_d, ← get_d, Lib.extract_data]
    have hz : s.data.toList.length = s.size := (Lib.size_eq s).symm
    simp only [List.getD, List.getElem?_take, List.getElem?_drop]
    rw [if_neg (by omega), List.getElem?_eq_none (by omega)]
theorem dec_at (s : ByteArray) (a : Nat) (h : a < s.size) : Lib.decodeGo (s.extract a s.size) = decodeN (s.size - a) (byteN s a) (byteN s (a + 1)) (byteN s (a + 2)) (byteN s (a + 3)) := by
  have hz := size_extract s a s.size (Nat.le_refl _)
  unfold decodeGo
  rw [if_neg (by omega), decode_at, hz, get_tl, get_tl, get_tl, get_tl]
  rfl
def rcN (s : ByteArray) (a : Nat) : Nat := if byteN s a < 128 then byteN s a else 128
def rzN (s : ByteArray) (a : Nat) : Nat := if byteN s a < 128 then 1 else szN (s.size - a) (byteN s a) (byteN s (a + 1)) (byteN s (a + 2)) (byteN s (a + 3))
theorem rune_eq (s : ByteArray) (a : Nat) (h : a < s.size) : rsz s a = rzN s a ∧ (∀ c : Cls, hasC c (rune s a : Int) = hn c (rcN s a)) := by
  unfold rsz rune rcN rzN
  rw [dec_at s a h]
  by_cases hl : byteN s a < 128
  · rw [if_pos hl, if_pos hl]
    unfold decodeN
    rw [if_pos hl]
    exact ⟨rfl, fun c => rfl⟩
  · rw [if_neg hl, if_neg hl]
    obtain ⟨h1, h2⟩ := dec_size (s.size - a) (byteN s a) (byteN s (a + 1)) (byteN s (a + 2)) (byteN s (a + 3)) (by omega) (byteN_lt _ _) (byteN_lt _ _) (byteN_lt _ _) (byteN_lt _ _)
    refine ⟨h1, fun c => ?_⟩
    rw [hn_high _ _ (Nat.le_refl _)]
    exact hn_high c _ h2
def runL (s : ByteArray) : Nat → Nat → List (Nat × Nat × Nat)
  | 0, _ => []
  | f + 1, a => if a < s.size then (rcN s a, a, rzN s a) :: runL s f (a + rzN s a) else []
def lR (l : List (Nat × Nat × Nat)) : List (Nat × Nat) := l.map fun x => (x.1, x.2.1 + x.2.2)
inductive SameR : List (Nat × Nat) → List (Nat × Nat) → Prop
  | nil : SameR [] []
  | cons {x y : Nat × Nat} {a b : List (Nat × Nat)} : (x.2 = y.2 ∧ ∀ c : Cls, hasC c (x.1 : Int) = hasC c (y.1 : Int)) → SameR a b → SameR (x :: a) (y :: b)
theorem ev_same : ∀ (N : Nat) (l l' : List (Nat × Nat)), l.length ≤ N → SameR l l' → ∀ (M : Nat) (K : List Tk), ksz K ≤ M → ∀ pl, ev l pl K = ev l' pl K := by
  intro N
  induction N with
  | zero =>
    intro l l' hl hs M K _ pl
    cases hs with
    | nil => rfl
    | cons h hs => simp at hl
  | succ N IH =>
    intro l l' hl hs M
    induction M with
    | zero =>
      intro K hK pl
      match K, hK with
      | [], _ =>
        rw [ev_nil, ev_nil]
        cases hs <;> rfl
      | t :: k, hK => exfalso; cases t with
        | ex x => cases x <;> simp [ksz, Tk.sz, Xp.sz] at hK
        | gend n => simp [ksz, Tk.sz] at hK
        | rend x z f => cases f <;> simp [ksz, Tk.sz] at hK
    | succ M ih =>
      intro K hK pl
      match K, hK with
      | [], _ =>
        rw [ev_nil, ev_nil]
        cases hs <;> rfl
      | .gend n :: k, hK => rw [ev_gend, ev_gend, ih k (by simp [ksz, Tk.sz] at hK; omega)]
      | .rend x z true :: k, hK => rw [ev_fresh, ev_fresh]
      | .rend x z false :: k, hK => rw [ev_round, ev_round, ih (.ex x :: .rend x z true :: k) (by simp [ksz, Tk.sz] at hK ⊢; omega), ih k (by simp [ksz, Tk.sz] at hK ⊢; omega)]
      | .ex .emp :: k, hK => rw [ev_emp, ev_emp]; exact ih _ (by simp [ksz, Tk.sz, Xp.sz] at hK ⊢; omega) pl
      | .ex (.set c) :: k, hK =>
        cases hs with
        | nil => rfl
        | @cons x y l l' h hs =>
          obtain ⟨r, p⟩ := x
          obtain ⟨r', p'⟩ := y
          obtain ⟨rfl, h2⟩ := h
          rw [ev_set, ev_set, h2 c]
          dsimp only
          rw [IH l l' (by simp at hl; omega) hs _ _ (Nat.le_refl _)]
      | .ex (.cat a b) :: k, hK => rw [ev_cat, ev_cat]; exact ih _ (by simp [ksz, Tk.sz, Xp.sz] at hK ⊢; omega) pl
      | .ex (.alt a b) :: k, hK => rw [ev_alt, ev_alt, ih (.ex a :: k) (by simp [ksz, Tk.sz, Xp.sz] at hK ⊢; omega), ih (.ex b :: k) (by simp [ksz, Tk.sz, Xp.sz] at hK ⊢; omega)]
      | .ex (.star a z) :: k, hK => rw [ev_star, ev_star, ih (.ex a :: .rend a z true :: k) (by simp [ksz, Tk.sz, Xp.sz] at hK ⊢; omega), ih k (by simp [ksz, Tk.sz, Xp.sz] at hK ⊢; omega)]
      | .ex (.may a z) :: k, hK => rw [ev_may, ev_may, ih (.ex a :: k) (by simp [ksz, Tk.sz, Xp.sz] at hK ⊢; omega), ih k (by simp [ksz, Tk.sz, Xp.sz] at hK ⊢; omega)]
      | .ex (.grp a n) :: k, hK => rw [ev_grp, ev_grp, ih (.ex a :: .gend n :: k) (by simp [ksz, Tk.sz, Xp.sz] at hK ⊢; omega)]
theorem runs_same (s : ByteArray) : ∀ f a, SameR (rns s f a) (lR (runL s f a))
  | 0, a => .nil
  | f + 1, a => by
    unfold rns runL
    by_cases h : a < s.size
    · obtain ⟨h1, h2⟩ := rune_eq s a h
      rw [if_pos h, if_pos h, h1]
      exact .cons ⟨rfl, fun c => h2 c⟩ (runs_same s f _)
    · rw [if_neg h, if_neg h]
      exact .nil
theorem match_doc (q : Pt) (hq : POK q) (s : ByteArray) : matchM (progM q) s = (ev (lR (runL s s.size 0)) 0 [.ex (den q)]).map (app unsetS) := by
  rw [match_ev q hq s, ev_same _ _ _ (Nat.le_refl _) (runs_same s s.size 0) _ _ (Nat.le_refl _)]
theorem rzN_pos (s : ByteArray) (a : Nat) : 1 ≤ rzN s a := by
  unfold rzN szN
  repeat' split
  all_goals omega
theorem rzN_le (s : ByteArray) (a : Nat) (h : a < s.size) : a + rzN s a ≤ s.size := by
  have h1 := rune_eq s a h
  rw [← h1.1]
  exact (rs_all s a h).2
end Go.Proofs.YtmeffeigamaipaaDoor.G

/- What texts that are put together match; a string's runes, by cuts. -/
namespace Go.Proofs.YtmeffeigamaipaaDoor.G

def rr (s : ByteArray) (n a : Nat) : List Nat := (runL s n a).map (·.1)
def runs (s : ByteArray) : List Nat := rr s s.size 0
theorem match_Lg (q : Pt) (hq : POK q) (s : ByteArray) : (matchM (progM q) s).isSome = true ↔ Lg (den q) (runs s) := by
  have e : runs s = (lR (runL s s.size 0)).map Prod.fst := by unfold runs rr lR; rw [List.map_map]; rfl
  rw [match_doc q hq s, e, ← ev_Lg (den q) _ 0]
  cases ev (lR (runL s s.size 0)) 0 [.ex (den q)] <;> rfl
def LP (ps : List Pt) (l : List Nat) : Prop := Lg (denS ps .emp) l
theorem denS_Lg (ps : List Pt) : ∀ (x : Xp) (l : List Nat), Lg (denS ps x) l ↔ ∃ a b, l = a ++ b ∧ Lg x a ∧ LP ps b := by
  induction ps with
  | nil =>
    intro x l
    constructor
    · intro h; exact ⟨l, [], by simp, h, rfl⟩
    · rintro ⟨a, b, rfl, h, hb⟩
      obtain rfl : b = [] := hb
      rw [List.append_nil]; exact h
  | cons p ps ih =>
    intro x l
    have e : denS (p :: ps) x = denS ps (.cat x (den p)) := by rw [denS]
    have e' : ∀ b, LP (p :: ps) b ↔ ∃ c d, b = c ++ d ∧ Lg (.cat .emp (den p)) c ∧ LP ps d := fun b => by
      unfold LP
      rw [show denS (p :: ps) .emp = denS ps (.cat .emp (den p)) by rw [denS]]
      exact ih _ b
    rw [e, ih]
    constructor
    · rintro ⟨a, b, rfl, ⟨a1, a2, rfl, h1, h2⟩, hb⟩
      exact ⟨a1, a2 ++ b, by simp, h1, (e' _).2 ⟨a2, b, rfl, ⟨[], a2, rfl, rfl, h2⟩, hb⟩⟩
    · rintro ⟨a, b, rfl, h1, hb⟩
      obtain ⟨c, d, rfl, ⟨c1, c2, rfl, hc1, hc2⟩, hd⟩ := (e' b).1 hb
      obtain rfl : c1 = [] := hc1
      exact ⟨a ++ c2, d, by simp, ⟨a, c2, rfl, h1, hc2⟩, hd⟩
theorem LP_cons (p : Pt) (ps : List Pt) (l : List Nat) : LP (p :: ps) l ↔ ∃ a b, l = a ++ b ∧ Lg (den p) a ∧ LP ps b := by
  unfold LP
  rw [show denS (p :: ps) .emp = denS ps (.cat .emp (den p)) by rw [denS], denS_Lg]
  constructor
  · rintro ⟨a, b, rfl, ⟨a1, a2, rfl, h1, h2⟩, hb⟩
    obtain rfl : a1 = [] := h1
    exact ⟨a2, b, rfl, h2, hb⟩
  · rintro ⟨a, b, rfl, h, hb⟩
    exact ⟨a, b, rfl, ⟨[], a, rfl, rfl, h⟩, hb⟩
theorem LP_one (p : Pt) (l : List Nat) : LP [p] l ↔ Lg (den p) l := by
  rw [LP_cons]
  constructor
  · rintro ⟨a, b, rfl, h, hb⟩
    obtain rfl : b = [] := hb
    rw [List.append_nil]; exact h
  · intro h; exact ⟨l, [], by simp, h, rfl⟩
theorem den_one (ps : List Pt) : den (.alt [.seq ps]) = denS ps .emp := by simp [den, denA, denB]
theorem den_two (ps qs : List Pt) : den (.alt [.seq ps, .seq qs]) = .alt (denS ps .emp) (denS qs .emp) := by simp [den, denA, denB]
theorem den_wrap (p : Pt) : den (.wrap p 0) = den p := by simp [den]
def wr (ps : List Pt) : Pt := .wrap (.alt [.seq ps]) 0
theorem den_wr (ps : List Pt) : den (wr ps) = denS ps .emp := by unfold wr; rw [den_wrap, den_one]
theorem LP_wr (ps : List Pt) (l : List Nat) : LP [wr ps] l ↔ LP ps l := by rw [LP_one, den_wr]; rfl
theorem LP_star (ps : List Pt) (z : Bool) (l : List Nat) : LP [.count (wr ps) 0 (-1) z] l ↔ Sr (LP ps) l := by
  rw [LP_one, show den (.count (wr ps) 0 (-1) z) = .star (den (wr ps)) z by simp [den, roundsX, catX], den_wr]
  rfl
theorem LP_may (ps : List Pt) (z : Bool) (l : List Nat) : LP [.count (wr ps) 0 1 z] l ↔ l = [] ∨ LP ps l := by
  rw [LP_one, show den (.count (wr ps) 0 1 z) = .may (.cat (den (wr ps)) .emp) z by simp [den, roundsX, catX, upX], den_wr]
  show l = [] ∨ (∃ l1 l2, l = l1 ++ l2 ∧ Lg (denS ps .emp) l1 ∧ l2 = []) ↔ _
  refine or_congr Iff.rfl ?_
  constructor
  · rintro ⟨a, b, rfl, h, rfl⟩; rw [List.append_nil]; exact h
  · intro h; exact ⟨l, [], by simp, h, rfl⟩
theorem LP_twice (ps : List Pt) (z : Bool) (l : List Nat) : LP [.count (wr ps) 2 2 z] l ↔ ∃ a b, l = a ++ b ∧ LP ps a ∧ LP ps b := by
  rw [LP_one, show den (.count (wr ps) 2 2 z) = .cat (den (wr ps)) (.cat (den (wr ps)) .emp) by simp [den, roundsX, catX, upX], den_wr]
  constructor
  · rintro ⟨a, b, rfl, h, ⟨b1, b2, rfl, hb, hb2⟩⟩
    obtain rfl : b2 = [] := hb2
    exact ⟨a, b1, by simp, h, hb⟩
  · rintro ⟨a, b, rfl, h, hb⟩
    exact ⟨a, b, rfl, h, ⟨b, [], by simp, hb, rfl⟩⟩
theorem LP_cat (ps qs : List Pt) (l : List Nat) : LP [wr ps, wr qs] l ↔ ∃ a b, l = a ++ b ∧ LP ps a ∧ LP qs b := by
  rw [LP_cons, den_wr]
  constructor
  · rintro ⟨a, b, rfl, h, hb⟩; exact ⟨a, b, rfl, h, (LP_wr _ _).1 hb⟩
  · rintro ⟨a, b, rfl, h, hb⟩; exact ⟨a, b, rfl, h, (LP_wr _ _).2 hb⟩

theorem bA_at (l : List UInt8) : At (bA l) 0 l := fun i x h => by
  unfold byteAt bA
  rw [Nat.zero_add]
  simpa using h
def NF (b : List UInt8) : Prop := ∃ x b', b = x :: b' ∧ (x = 40 → ∃ b'', b' = 63 :: 58 :: b'')
theorem NF.app {a : List UInt8} (h : NF a) (b : List UInt8) : NF (a ++ b) := by
  obtain ⟨x, a', rfl, h⟩ := h
  refine ⟨x, a' ++ b, rfl, fun hx => ?_⟩
  obtain ⟨a'', rfl⟩ := h hx
  exact ⟨a'' ++ b, rfl⟩
theorem fold_no {b : List UInt8} (h : NF b) : foldM (bA b) = .ok () startS := by
  obtain ⟨x, b', rfl, h⟩ := h
  unfold foldM
  rw [if_neg]
  rintro ⟨h0, h1, h2⟩
  have ha := bA_at (x :: b')
  have e0 : byteAt (bA (x :: b')) 0 = some x := ha.cons.1
  rw [e0] at h0
  obtain rfl : x = 40 := by simpa using h0
  obtain ⟨b'', rfl⟩ := h rfl
  have e2 : byteAt (bA (40 :: 63 :: 58 :: b'')) 2 = some 58 := ha 2 58 rfl
  rw [e2] at h2
  simp at h2
theorem read_one {b : List UInt8} {ps : List Pt} (h : RB 6 0 b ps) (hn : NF b) : readM (bA b) = .ok (.alt [.seq ps]) (startS.mv b.length) := by
  unfold readM
  rw [fold_no hn, Res.bind_ok, h.expr (s := startS) (bA_at b) rfl (Nat.le_refl _) (.inl (by rw [bA_size]; show 0 + _ = _; omega)), Res.bind_ok, if_pos (by rw [bA_size]; show 0 + _ = _; omega)]
  rw [show startS.k + b.length = b.length by show 0 + _ = _; omega]
theorem read_two {a b : List UInt8} {ps qs : List Pt} (h : RB 6 0 a ps) (h' : RB 6 0 b qs) (hn : NF a) : readM (bA (a ++ 124 :: b)) = .ok (.alt [.seq ps, .seq qs]) (startS.mv (a ++ 124 :: b).length) := by
  unfold readM
  rw [fold_no (hn.app _), Res.bind_ok, h.expr2 h' (s := startS) (bA_at _) rfl (Nat.le_refl _) (.inl (by rw [bA_size]; show 0 + _ = _; omega)), Res.bind_ok, if_pos (by rw [bA_size]; show 0 + _ = _; omega)]
  rw [show startS.k + (a ++ 124 :: b).length = (a ++ 124 :: b).length by show 0 + _ = _; omega]
theorem is_one {b : List UInt8} {ps : List Pt} (h : RB 6 0 b ps) (hn : NF b) (h60 : b.length ≤ 60) (hw : wtL ps ≤ 100) : goodP (bA b) = true ∧ ∀ s, (matchM (patC (bA b)) s).isSome = true ↔ LP ps (runs s) := by
  have hr := read_one h hn
  have hz : (bA b).size ≤ 60 := by rw [bA_size]; exact h60
  refine ⟨good_all hz hr (by simp only [wt, wtL, List.length_cons, List.length_nil]; omega), fun s => ?_⟩
  rw [show patC (bA b) = progM (.alt [.seq ps]) by unfold patC; rw [hr], match_Lg _ (read_fine hz hr).2.1, den_one]
  rfl
theorem is_two {a b : List UInt8} {ps qs : List Pt} (h : RB 6 0 a ps) (h' : RB 6 0 b qs) (hn : NF a) (h60 : a.length + b.length ≤ 59) (hw : wtL ps + wtL qs ≤ 100) : goodP (bA (a ++ 124 :: b)) = true ∧ ∀ s, (matchM (patC (bA (a ++ 124 :: b))) s).isSome = true ↔ LP ps (runs s) ∨ LP qs (runs s) := by
  have hr := read_two h h' hn
  have hz : (bA (a ++ 124 :: b)).size ≤ 60 := by rw [bA_size, List.length_append, List.length_cons]; omega
  refine ⟨good_all hz hr (by simp only [wt, wtL, List.length_cons, List.length_nil]; omega), fun s => ?_⟩
  rw [show patC (bA (a ++ 124 :: b)) = progM (.alt [.seq ps, .seq qs]) by unfold patC; rw [hr], match_Lg _ (read_fine hz hr).2.1, den_two]
  rfl

inductive Bd (s : ByteArray) : Nat → Nat → Prop
  | here (a : Nat) : Bd s a a
  | next {a i : Nat} : a < s.size → Bd s (a + rzN s a) i → Bd s a i
theorem Bd.le {s : ByteArray} {a i : Nat} (h : Bd s a i) : a ≤ i := by
  induction h with
  | here => exact Nat.le_refl _
  | next _ _ ih => omega
theorem Bd.top {s : ByteArray} {a i : Nat} (h : Bd s a i) (ha : a ≤ s.size) : i ≤ s.size := by
  induction h with
  | here => exact ha
  | next h1 _ ih => exact ih (rzN_le _ _ h1)
theorem rr_fuel (s : ByteArray) : ∀ (n m a : Nat), s.size - a ≤ n → s.size - a ≤ m → rr s n a = rr s m a := by
  intro n
  induction n with
  | zero =>
    intro m a hn hm
    cases m with
    | zero => rfl
    | succ m =>
      unfold rr
      rw [runL, runL, if_neg (by omega)]
  | succ n ih =>
    intro m a hn hm
    cases m with
    | zero => unfold rr; rw [runL, runL, if_neg (by omega)]
    | succ m =>
      by_cases h : a < s.size
      · have := ih m (a + rzN s a) (by have := rzN_pos s a; omega) (by have := rzN_pos s a; omega)
        unfold rr at this ⊢
        rw [runL, runL, if_pos h, if_pos h, List.map_cons, List.map_cons, this]
      · unfold rr; rw [runL, runL, if_neg h, if_neg h]
theorem rr_step (s : ByteArray) (a : Nat) (h : a < s.size) : rr s s.size a = rcN s a :: rr s s.size (a + rzN s a) := by
  obtain ⟨n, hn⟩ : ∃ n, s.size = n + 1 := ⟨s.size - 1, by omega⟩
  have e : rr s s.size a = rr s (n + 1) a := by rw [hn]
  have e2 : rr s s.size (a + rzN s a) = rr s n (a + rzN s a) := rr_fuel s _ _ _ (by omega) (by have := rzN_pos s a; omega)
  rw [e, e2]
  unfold rr
  rw [runL, if_pos h, List.map_cons]
theorem rr_end (s : ByteArray) (a : Nat) (h : s.size ≤ a) : rr s s.size a = [] := by
  rw [rr_fuel s _ 0 a (by omega) (by omega)]; rfl
set_option maxHeartbeats 4000000 in
theorem szN_cut (n m b0 b1 b2 b3 c1 c2 c3 : Nat) (hm : m ≤ n) (h1 : 1 < m → c1 = b1) (h2 : 2 < m → c2 = b2) (h3 : 3 < m → c3 = b3) (hr : szN n b0 b1 b2 b3 ≤ m) : szN m b0 c1 c2 c3 = szN n b0 b1 b2 b3 := by
  unfold szN at *
  repeat' split at hr
  all_goals (repeat' split)
  all_goals omega
set_option maxHeartbeats 4000000 in
theorem szN_back (n m b0 b1 b2 b3 c1 c2 c3 : Nat) (hm : m ≤ n) (h1 : 1 < m → c1 = b1) (h2 : 2 < m → c2 = b2) (h3 : 3 < m → c3 = b3) (hr : 2 ≤ szN m b0 c1 c2 c3) : szN n b0 b1 b2 b3 = szN m b0 c1 c2 c3 := by
  unfold szN at *
  repeat' split at hr
  all_goals (repeat' split)
  all_goals omega
theorem byteN_cut (s : ByteArray) (i j k : Nat) (h : i + k < j) : byteN (s.extract i j) k = byteN s (i + k) := by
  unfold byteN
  rw [← get_d, ← get_d, Lib.extract_data]
  simp only [List.getD, List.getElem?_take, List.getElem?_drop]
  rw [if_pos (by omega)]
theorem byteN_tl (s : ByteArray) (i k : Nat) : byteN (s.extract i s.size) k = byteN s (i + k) := by
  unfold byteN; rw [get_tl]
theorem rr_tail (s : ByteArray) (i : Nat) (hi : i ≤ s.size) : ∀ n k, rr (s.extract i s.size) n k = rr s n (i + k) := by
  have hz : (s.extract i s.size).size = s.size - i := size_extract s i s.size (Nat.le_refl _)
  intro n
  induction n with
  | zero => intro k; rfl
  | succ n ih =>
    intro k
    have e1 : rcN (s.extract i s.size) k = rcN s (i + k) := by unfold rcN; rw [byteN_tl]
    have e2 : rzN (s.extract i s.size) k = rzN s (i + k) := by
      unfold rzN
      rw [byteN_tl, byteN_tl, byteN_tl, byteN_tl, hz, show s.size - i - k = s.size - (i + k) by omega]
      rfl
    have := ih (k + rzN s (i + k))
    unfold rr at this ⊢
    rw [runL, runL, hz, e1, e2]
    by_cases h : k < s.size - i
    · rw [if_pos h, if_pos (by omega), List.map_cons, List.map_cons, this, Nat.add_assoc]
    · rw [if_neg h, if_neg (by omega)]
theorem runs_tail (s : ByteArray) (i : Nat) (hi : i ≤ s.size) : runs (s.extract i s.size) = rr s s.size i := by
  unfold runs
  rw [rr_tail s i hi, Nat.add_zero]
  exact rr_fuel s _ _ _ (by rw [size_extract s i s.size (Nat.le_refl _)]; omega) (by omega)
theorem rr_head (s : ByteArray) {a i : Nat} (h : Bd s a i) (hi : i ≤ s.size) : ∀ j, j = i → rr s s.size a = rr (s.extract 0 j) s.size a ++ rr s s.size i := by
  intro j hj
  have hz : (s.extract 0 j).size = j := by rw [size_extract s 0 j (by omega)]; omega
  induction h with
  | here a =>
    rw [rr_fuel (s.extract 0 j) s.size 0 a (by omega) (by omega)]
    rfl
  | @next a i h1 h2 ih =>
    have hl := h2.le
    have hp := rzN_pos s a
    have e1 : rcN (s.extract 0 j) a = rcN s a := by unfold rcN; rw [byteN_cut s 0 j a (by omega), Nat.zero_add]
    have e2 : rzN (s.extract 0 j) a = rzN s a := by
      have b0 := byteN_cut s 0 j a (by omega)
      rw [Nat.zero_add] at b0
      unfold rzN at hl ⊢
      rw [b0, hz]
      by_cases hb : byteN s a < 128
      · rw [if_pos hb, if_pos hb]
      · rw [if_neg hb] at hl
        rw [if_neg hb, if_neg hb]
        refine szN_cut _ _ _ _ _ _ _ _ _ (by omega) (fun h => ?_) (fun h => ?_) (fun h => ?_) (by omega)
        all_goals (rw [byteN_cut s 0 j _ (by omega), Nat.zero_add])
    have hs : s.size ≠ 0 := by omega
    obtain ⟨n, hn⟩ : ∃ n, s.size = n + 1 := ⟨s.size - 1, by omega⟩
    rw [rr_step s a h1]
    have e3 : rr (s.extract 0 j) s.size a = rcN s a :: rr (s.extract 0 j) s.size (a + rzN s a) := by
      have f1 : rr (s.extract 0 j) s.size a = rr (s.extract 0 j) (n + 1) a := by rw [hn]
      have f2 : rr (s.extract 0 j) s.size (a + rzN s a) = rr (s.extract 0 j) n (a + rzN s a) := rr_fuel _ _ _ _ (by omega) (by omega)
      rw [f1, f2]
      unfold rr
      rw [runL, if_pos (by omega), List.map_cons, e1, e2]
    rw [e3, ih hi hj, List.cons_append]
theorem runs_cut (s : ByteArray) {i : Nat} (h : Bd s 0 i) : runs s = runs (s.extract 0 i) ++ runs (s.extract i s.size) := by
  have hi := h.top (Nat.zero_le _)
  have hz : (s.extract 0 i).size = i := by rw [size_extract s 0 i hi]; omega
  rw [runs_tail s i hi]
  have := rr_head s h hi i rfl
  unfold runs
  rw [this]
  congr 1
  exact rr_fuel _ _ _ _ (by omega) (by omega)
theorem cut_runs (s : ByteArray) : ∀ (l1 l2 : List Nat) (a : Nat), a ≤ s.size → rr s s.size a = l1 ++ l2 → ∃ i, Bd s a i ∧ i ≤ s.size ∧ rr s s.size i = l2 := by
  intro l1
  induction l1 with
  | nil => intro l2 a ha h; exact ⟨a, .here a, ha, h⟩
  | cons x l1 ih =>
    intro l2 a ha h
    have hl : a < s.size := by
      by_cases hc : a < s.size
      · exact hc
      · rw [rr_end s a (by omega)] at h; simp at h
    rw [rr_step s a hl, List.cons_append, List.cons.injEq] at h
    obtain ⟨i, h1, h2, h3⟩ := ih l2 _ (rzN_le s a hl) h.2
    exact ⟨i, .next hl h1, h2, h3⟩
theorem runs_empty (s : ByteArray) : runs s = [] ↔ s.size = 0 := by
  constructor
  · intro h
    by_cases hc : 0 < s.size
    · unfold runs at h; rw [rr_step s 0 hc] at h; simp at h
    · omega
  · intro h; unfold runs; rw [rr_end s 0 (by omega)]
theorem cut_iff (s : ByteArray) (A B : List Nat → Prop) : (∃ i, Bd s 0 i ∧ A (runs (s.extract 0 i)) ∧ B (runs (s.extract i s.size))) ↔ ∃ a b, runs s = a ++ b ∧ A a ∧ B b := by
  constructor
  · rintro ⟨i, h, ha, hb⟩; exact ⟨_, _, runs_cut s h, ha, hb⟩
  · rintro ⟨a, b, h, ha, hb⟩
    obtain ⟨i, h1, h2, h3⟩ := cut_runs s a b 0 (Nat.zero_le _) h
    have e2 := runs_tail s i h2
    have e1 := runs_cut s h1
    rw [e2, h3, h] at e1
    have e3 := List.append_cancel_right e1
    exact ⟨i, h1, by rw [← e3]; exact ha, by rw [e2, h3]; exact hb⟩
theorem head_pos (s : ByteArray) {i : Nat} (h : i ≤ s.size) : runs (s.extract 0 i) ≠ [] ↔ 0 < i := by
  rw [ne_eq, runs_empty, size_extract s 0 i h]; omega
theorem Sr_iff (P : List Nat → Prop) (l : List Nat) : Sr P l ↔ l = [] ∨ ∃ a b, l = a ++ b ∧ (a ≠ [] ∧ P a) ∧ Sr P b := by
  constructor
  · intro h
    cases h with
    | nil => exact .inl rfl
    | cons h1 h2 h3 => exact .inr ⟨_, _, rfl, ⟨h1, h2⟩, h3⟩
  · rintro (rfl | ⟨a, b, rfl, ⟨h1, h2⟩, h3⟩)
    · exact .nil
    · exact .cons h1 h2 h3
theorem bd_end (s : ByteArray) : ∀ n a, s.size - a ≤ n → a ≤ s.size → Bd s a s.size := by
  intro n
  induction n with
  | zero => intro a h h2; rw [show a = s.size by omega]; exact .here _
  | succ n ih =>
    intro a h h2
    by_cases hc : a < s.size
    · exact .next hc (ih _ (by have := rzN_pos s a; omega) (rzN_le s a hc))
    · rw [show a = s.size by omega]; exact .here _
theorem Bd.step {s : ByteArray} {a i : Nat} (h : a < i) (hs : a < s.size) : Bd s a i ↔ Bd s (a + rzN s a) i := by
  constructor
  · intro hb
    cases hb with
    | here => omega
    | next _ h2 => exact h2
  · exact .next hs
theorem Bd.past {s : ByteArray} {a i : Nat} (h : i ≤ a) : Bd s a i ↔ a = i := by
  constructor
  · intro hb; have := hb.le; omega
  · rintro rfl; exact .here _
end Go.Proofs.YtmeffeigamaipaaDoor.G
