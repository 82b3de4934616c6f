/- Reading texts that are put together: atoms, counts, brackets, one behind the other. -/
import Derived.Test.YtmeffeigamaipaaDoorM05
set_option linter.unusedVariables false
set_option linter.unusedSimpArgs false
namespace Go.Proofs.YtmeffeigamaipaaDoor.G

def At (t : ByteArray) (k : Nat) (b : List UInt8) : Prop := ∀ i x, b[i]? = some x → byteAt t (k + i) = some x
theorem At.cons {t : ByteArray} {k : Nat} {x : UInt8} {b : List UInt8} (h : At t k (x :: b)) : byteAt t k = some x ∧ At t (k + 1) b :=
  ⟨h 0 x rfl, fun i y hy => by have := h (i + 1) y (by simpa using hy); rw [show k + 1 + i = k + (i + 1) by omega]; exact this⟩
theorem At.app {t : ByteArray} {k : Nat} {a b : List UInt8} (h : At t k (a ++ b)) : At t k a ∧ At t (k + a.length) b := by
  induction a generalizing k with
  | nil => exact ⟨fun i x hx => by simp at hx, by simpa using h⟩
  | cons x a ih =>
    obtain ⟨h1, h2⟩ := At.cons h
    obtain ⟨h3, h4⟩ := ih h2
    refine ⟨fun i y hy => ?_, by rw [List.length_cons, show k + (a.length + 1) = k + 1 + a.length by omega]; exact h4⟩
    cases i with
    | zero => simp at hy; subst hy; exact h1
    | succ i => rw [show k + (i + 1) = k + 1 + i by omega]; exact h3 i y (by simpa using hy)
def NC (t : ByteArray) (k : Nat) : Prop := byteAt t k ≠ some 42 ∧ byteAt t k ≠ some 43 ∧ byteAt t k ≠ some 63 ∧ byteAt t k ≠ some 123
def RS.mv (s : RS) (k : Nat) : RS := { s with k := k }
theorem mv_mv (s : RS) (j k : Nat) : (s.mv j).mv k = s.mv k := rfl
theorem jpF {t : ByteArray} {s : RS} {b : UInt8} (h : byteAt t s.k ≠ some b) : seesM t s b = false := by
  unfold seesM; simpa using h
theorem jpT {t : ByteArray} {s : RS} {b : UInt8} (h : byteAt t s.k = some b) : seesM t s b = true := by
  unfold seesM; simp [h]
theorem byte_lt {t : ByteArray} {k : Nat} {b : UInt8} (h : byteAt t k = some b) : k < t.size := by
  unfold byteAt at h
  exact (Array.getElem?_eq_some_iff.mp h).1
def AT (m d : Nat) (b : List UInt8) (p : Pt) : Prop := (∃ x b', b = x :: b' ∧ x ≠ 41 ∧ x ≠ 124 ∧ x ≠ 42 ∧ x ≠ 43 ∧ x ≠ 63 ∧ x ≠ 123) ∧
  ∀ (t : ByteArray) (s : RS), At t s.k b → s.f = false → s.d ≤ d → atomM t (exprAt t m) s = .ok p (s.mv (s.k + b.length))
def RB (m d : Nat) (b : List UInt8) (ps : List Pt) : Prop := (∃ x b', b = x :: b' ∧ x ≠ 41 ∧ x ≠ 124 ∧ x ≠ 42 ∧ x ≠ 43 ∧ x ≠ 63 ∧ x ≠ 123) ∧ ps.length ≤ b.length ∧
  ∀ (t : ByteArray) (s : RS) (n : Nat) (acc : List Pt), At t s.k b → s.f = false → s.d ≤ d → NC t (s.k + b.length) →
    branchM t (exprAt t m) (n + ps.length) acc s = branchM t (exprAt t m) n (acc ++ ps) (s.mv (s.k + b.length))
theorem branch_step {t : ByteArray} {E : RS → Res Pt} {n : Nat} {acc : List Pt} {s s' : RS} {p : Pt} {x : UInt8} (hx : byteAt t s.k = some x) (h1 : x ≠ 41) (h2 : x ≠ 124) (hp : pieceM t E s = .ok p s') :
    branchM t E (n + 1) acc s = branchM t E n (acc ++ [p]) s' := by
  rw [branchM, if_neg, hp, Res.bind_ok]
  rintro (h | h | h)
  · have := byte_lt hx; omega
  · rw [jpF (by rw [hx]; simpa using h2)] at h; cases h
  · rw [jpF (by rw [hx]; simpa using h1)] at h; cases h
theorem count_none {t : ByteArray} {s : RS} (h : NC t s.k) : countM t s = .ok none s := by
  unfold countM
  rw [jpF h.1, jpF h.2.1, jpF h.2.2.1, jpF h.2.2.2]
  simp
theorem AT.rb {m d : Nat} {b : List UInt8} {p : Pt} (h : AT m d b p) : RB m d b [p] := by
  obtain ⟨⟨x, b', rfl, hx⟩, hr⟩ := h
  refine ⟨⟨x, b', rfl, hx⟩, by simp, fun t s n acc ha hf hd hn => ?_⟩
  refine branch_step ha.cons.1 hx.1 hx.2.1 ?_
  unfold pieceM
  rw [hr t s ha hf hd, Res.bind_ok, count_none hn, Res.bind_ok]
theorem AT.cnt {m d : Nat} {b : List UInt8} {p : Pt} (h : AT m d b p) {cs : List UInt8} {le : Nat} {mo : Int} {z : Bool}
    (hc : ∀ (t : ByteArray) (s : RS), At t s.k cs → NC t (s.k + cs.length) → ∃ s1, countM t s = .ok (some (le, mo)) s1 ∧ seesM t s1 63 = z ∧ s1.took t 63 = s.mv (s.k + cs.length)) :
    RB m d (b ++ cs) [.count p le mo z] := by
  obtain ⟨⟨x, b', rfl, hx⟩, hr⟩ := h
  refine ⟨⟨x, b' ++ cs, rfl, hx⟩, by simp, fun t s n acc ha hf hd hn => ?_⟩
  obtain ⟨ha1, ha2⟩ := ha.app
  refine branch_step ha1.cons.1 hx.1 hx.2.1 ?_
  obtain ⟨s1, h1, h2, h3⟩ := hc t (s.mv (s.k + (x :: b').length)) ha2 (by
    show NC t (s.k + (x :: b').length + cs.length)
    rw [List.length_append] at hn; rw [Nat.add_assoc]; exact hn)
  unfold pieceM
  rw [hr t s ha1 hf hd, Res.bind_ok, h1, Res.bind_ok]
  simp only [h2, h3, mv_mv]
  rw [List.length_append, ← Nat.add_assoc]
  rfl
theorem cnt_star (t : ByteArray) (s : RS) (ha : At t s.k [42]) (hn : NC t (s.k + 1)) : ∃ s1, countM t s = .ok (some (0, -1)) s1 ∧ seesM t s1 63 = false ∧ s1.took t 63 = s.mv (s.k + 1) := by
  have h1 := jpT ha.cons.1
  have h2 : seesM t s.up 63 = false := jpF hn.2.2.1
  exact ⟨s.up, by unfold countM; rw [h1]; rfl, h2, by unfold RS.took; rw [h2]; rfl⟩
theorem cnt_may (t : ByteArray) (s : RS) (ha : At t s.k [63]) (hn : NC t (s.k + 1)) : ∃ s1, countM t s = .ok (some (0, 1)) s1 ∧ seesM t s1 63 = false ∧ s1.took t 63 = s.mv (s.k + 1) := by
  have h0 := ha.cons.1
  have h1 := jpT h0
  have h2 : seesM t s.up 63 = false := jpF hn.2.2.1
  exact ⟨s.up, by unfold countM; rw [h1, jpF (b := 42) (by rw [h0]; decide), jpF (b := 43) (by rw [h0]; decide)]; rfl, h2, by unfold RS.took; rw [h2]; rfl⟩
theorem cnt_plus (t : ByteArray) (s : RS) (ha : At t s.k [43, 63]) (hn : NC t (s.k + 2)) : ∃ s1, countM t s = .ok (some (1, -1)) s1 ∧ seesM t s1 63 = true ∧ s1.took t 63 = s.mv (s.k + 2) := by
  have h0 := ha.cons.1
  have h1 := jpT h0
  have h2 : seesM t s.up 63 = true := jpT ha.cons.2.cons.1
  exact ⟨s.up, by unfold countM; rw [h1, jpF (b := 42) (by rw [h0]; decide)]; rfl, h2, by unfold RS.took; rw [h2]; rfl⟩
theorem cnt_may2 (t : ByteArray) (s : RS) (ha : At t s.k [63, 63]) (hn : NC t (s.k + 2)) : ∃ s1, countM t s = .ok (some (0, 1)) s1 ∧ seesM t s1 63 = true ∧ s1.took t 63 = s.mv (s.k + 2) := by
  have h0 := ha.cons.1
  have h1 := jpT h0
  have h2 : seesM t s.up 63 = true := jpT ha.cons.2.cons.1
  exact ⟨s.up, by unfold countM; rw [h1, jpF (b := 42) (by rw [h0]; decide), jpF (b := 43) (by rw [h0]; decide)]; rfl, h2, by unfold RS.took; rw [h2]; rfl⟩
theorem cnt_two (t : ByteArray) (s : RS) (ha : At t s.k [123, 50, 125]) (hn : NC t (s.k + 3)) : ∃ s1, countM t s = .ok (some (2, 2)) s1 ∧ seesM t s1 63 = false ∧ s1.took t 63 = s.mv (s.k + 3) := by
  have h0 := ha.cons.1
  have h1 := jpT h0
  have hb := ha.cons.2.cons.1
  have hc := ha.cons.2.cons.2.cons.1
  have h2 : seesM t s.up.up.up 63 = false := jpF hn.2.2.1
  have h3 : seesM t s.up.up 125 = true := jpT hc
  refine ⟨s.up.up.up, ?_, h2, by unfold RS.took; rw [h2]; rfl⟩
  unfold countM
  rw [h1, jpF (b := 42) (by rw [h0]; decide), jpF (b := 43) (by rw [h0]; decide), jpF (b := 63) (by rw [h0]; decide)]
  unfold bracesM timesM
  rw [show byteAt t s.up.k = some 50 from hb]
  simp only [Bool.false_eq_true, if_false, if_true]
  rw [if_neg (by decide), Res.bind_ok, if_pos h3]
  rfl
theorem RB.app {m d : Nat} {a b : List UInt8} {ps qs : List Pt} (h : RB m d a ps) (h' : RB m d b qs) : RB m d (a ++ b) (ps ++ qs) := by
  obtain ⟨⟨x, a', rfl, hx⟩, hl, hr⟩ := h
  obtain ⟨⟨y, b', rfl, hy⟩, hl', hr'⟩ := h'
  refine ⟨⟨x, a' ++ y :: b', rfl, hx⟩, by simp only [List.length_append] at *; omega, fun t s n acc ha hf hd hn => ?_⟩
  obtain ⟨h1, h2⟩ := ha.app
  have hn' : NC t (s.k + (x :: a').length) := by
    have := h2.cons.1
    unfold NC
    rw [this]
    simp only [ne_eq, Option.some.injEq]
    exact ⟨hy.2.2.1, hy.2.2.2.1, hy.2.2.2.2.1, hy.2.2.2.2.2⟩
  rw [List.length_append, show n + (ps.length + qs.length) = (n + qs.length) + ps.length by omega, hr t s _ acc h1 hf hd hn']
  rw [hr' t (s.mv (s.k + (x :: a').length)) n (acc ++ ps) h2 hf hd (by
    show NC t (s.k + (x :: a').length + (y :: b').length)
    rw [List.length_append, ← Nat.add_assoc] at hn; exact hn)]
  rw [List.append_assoc, mv_mv, List.length_append, ← Nat.add_assoc]
  rfl
theorem branch_end {t : ByteArray} {E : RS → Res Pt} {n : Nat} {acc : List Pt} {s : RS} (h : s.k = t.size ∨ byteAt t s.k = some 124 ∨ byteAt t s.k = some 41) : branchM t E (n + 1) acc s = .ok acc s := by
  rw [branchM, if_pos]
  rcases h with h | h | h
  · exact .inl h
  · exact .inr (.inl (jpT h))
  · exact .inr (.inr (jpT h))
theorem end_nc {t : ByteArray} {k : Nat} (h : k = t.size ∨ byteAt t k = some 124 ∨ byteAt t k = some 41) : NC t k := by
  rcases h with h | h | h
  · have e : byteAt t k = none := by unfold byteAt; exact Array.getElem?_eq_none (by rw [h]; exact Nat.le_refl _)
    unfold NC; rw [e]; simp
  · unfold NC; rw [h]; decide
  · unfold NC; rw [h]; decide
theorem At.le {t : ByteArray} {k : Nat} {b : List UInt8} (h : At t k b) (hb : b ≠ []) : k + b.length ≤ t.size := by
  have hl : b.length - 1 < b.length := by
    have : b.length ≠ 0 := by simpa using hb
    omega
  have := byte_lt (h (b.length - 1) b[b.length - 1] (List.getElem?_eq_getElem hl))
  omega
theorem RB.branch {m d : Nat} {b : List UInt8} {ps : List Pt} (h : RB m d b ps) {t : ByteArray} {s : RS} (ha : At t s.k b) (hf : s.f = false) (hd : s.d ≤ d)
    (he : s.k + b.length = t.size ∨ byteAt t (s.k + b.length) = some 124 ∨ byteAt t (s.k + b.length) = some 41) : branchM t (exprAt t m) (t.size + 1) [] s = .ok ps (s.mv (s.k + b.length)) := by
  obtain ⟨⟨x, b', rfl, hx⟩, hl, hr⟩ := h
  have hle := ha.le (by simp)
  obtain ⟨n, hn⟩ : ∃ n, t.size = n + ps.length := ⟨t.size - ps.length, by omega⟩
  rw [show t.size + 1 = (n + 1) + ps.length by omega, hr t s (n + 1) [] ha hf hd (end_nc he), List.nil_append]
  exact branch_end he
theorem alt_end {t : ByteArray} {E : RS → Res Pt} {n : Nat} {acc : List Pt} {s : RS} (h : byteAt t s.k ≠ some 124) : altM t E (n + 1) acc s = .ok acc s := by
  rw [altM, jpF h]; rfl
theorem end_not {t : ByteArray} {k : Nat} (h : k = t.size ∨ byteAt t k = some 41) : byteAt t k ≠ some 124 := by
  rcases h with h | h
  · have e : byteAt t k = none := by unfold byteAt; exact Array.getElem?_eq_none (by rw [h]; exact Nat.le_refl _)
    rw [e]; simp
  · rw [h]; decide
theorem RB.expr {m d : Nat} {b : List UInt8} {ps : List Pt} (h : RB m d b ps) {t : ByteArray} {s : RS} (ha : At t s.k b) (hf : s.f = false) (hd : s.d ≤ d)
    (he : s.k + b.length = t.size ∨ byteAt t (s.k + b.length) = some 41) : exprAt t (m + 1) s = .ok (.alt [.seq ps]) (s.mv (s.k + b.length)) := by
  show exprM t (exprAt t m) s = _
  unfold exprM
  rw [h.branch ha hf hd (he.imp id .inr), Res.bind_ok, alt_end (end_not he), Res.bind_ok]
theorem RB.expr2 {m d : Nat} {a b : List UInt8} {ps qs : List Pt} (h : RB m d a ps) (h' : RB m d b qs) {t : ByteArray} {s : RS} (ha : At t s.k (a ++ 124 :: b)) (hf : s.f = false) (hd : s.d ≤ d)
    (he : s.k + (a ++ 124 :: b).length = t.size ∨ byteAt t (s.k + (a ++ 124 :: b).length) = some 41) : exprAt t (m + 1) s = .ok (.alt [.seq ps, .seq qs]) (s.mv (s.k + (a ++ 124 :: b).length)) := by
  obtain ⟨h1, h2⟩ := ha.app
  obtain ⟨h3, h4⟩ := h2.cons
  have e0 : s.k + (a ++ 124 :: b).length = s.k + a.length + 1 + b.length := by simp; omega
  rw [e0] at he ⊢
  have hle := byte_lt h3
  obtain ⟨n, hn⟩ : ∃ n, t.size = n + 1 := ⟨t.size - 1, by omega⟩
  show exprM t (exprAt t m) s = _
  unfold exprM
  rw [h.branch h1 hf hd (.inr (.inl h3)), Res.bind_ok, altM, jpT (s := s.mv (s.k + a.length)) h3, if_pos rfl]
  rw [h'.branch (s := (s.mv (s.k + a.length)).up) h4 hf hd (he.imp id .inr), Res.bind_ok, hn, alt_end (end_not he), Res.bind_ok]
  rfl
theorem AT.par {m d : Nat} {b : List UInt8} {p : Pt} (hd6 : d ≤ 5) (h : ∀ (t : ByteArray) (s : RS), At t s.k b → s.f = false → s.d ≤ d + 1 → byteAt t (s.k + b.length) = some 41 → exprAt t m s = .ok p (s.mv (s.k + b.length))) :
    AT m d ([40, 63, 58] ++ b ++ [41]) (.wrap p 0) := by
  refine ⟨⟨40, [63, 58] ++ b ++ [41], rfl, by decide⟩, fun t s ha hf hd => ?_⟩
  obtain ⟨h1, h5⟩ := ha.app
  obtain ⟨h1, h4⟩ := h1.app
  obtain ⟨b0, h1⟩ := h1.cons
  obtain ⟨b1, h1⟩ := h1.cons
  obtain ⟨b2, h1⟩ := h1.cons
  have b5 := h5.cons.1
  rw [show s.k + (([40, 63, 58] : List UInt8) ++ b).length = s.k + 3 + b.length by simp; omega] at b5
  have hE := h t ⟨s.k + 3, s.d + 1, s.f, s.g, s.nm⟩ h4 hf (by show s.d + 1 ≤ d + 1; omega) b5
  unfold atomM
  rw [b0]
  simp only [if_true]
  unfold parenM
  rw [if_neg (by omega)]
  unfold mustM
  rw [jpT b0, if_pos rfl, Res.bind_ok]
  unfold openingM mustM
  have e1 : seesM t { s.up with d := s.up.d + 1 } 63 = true := jpT b1
  rw [e1]
  simp only [Bool.true_eq_false, and_false, if_false, if_true, Res.bind_ok]
  have e2 : seesM t ({ s.up with d := s.up.d + 1 } : RS).up 58 = true := jpT b2
  rw [e2]
  simp only [if_true, Res.bind_ok]
  have hE' : exprAt t m ({ s.up with d := s.up.d + 1 } : RS).up.up = _ := hE
  rw [hE', Res.bind_ok]
  rw [jpT (s := RS.mv ⟨s.k + 3, s.d + 1, s.f, s.g, s.nm⟩ (s.k + 3 + b.length)) b5, if_pos rfl, Res.bind_ok]
  simp only [RS.mv, RS.up, Nat.add_sub_cancel, List.length_append, List.length_cons, List.length_nil]
  rw [show s.k + 3 + b.length + 1 = s.k + (0 + 1 + 1 + 1 + b.length + (0 + 1)) by omega]
theorem AT.par1 {m d : Nat} {b : List UInt8} {ps : List Pt} (hd6 : d ≤ 5) (h : RB m (d + 1) b ps) : AT (m + 1) d ([40, 63, 58] ++ b ++ [41]) (.wrap (.alt [.seq ps]) 0) :=
  AT.par hd6 fun t s ha hf hd he => h.expr ha hf hd (.inr he)
theorem AT.par2 {m d : Nat} {a b : List UInt8} {ps qs : List Pt} (hd6 : d ≤ 5) (h : RB m (d + 1) a ps) (h' : RB m (d + 1) b qs) : AT (m + 1) d ([40, 63, 58] ++ (a ++ 124 :: b) ++ [41]) (.wrap (.alt [.seq ps, .seq qs]) 0) :=
  AT.par hd6 fun t s ha hf hd he => h.expr2 h' ha hf hd (.inr he)
def atomT (i : Nat) : List UInt8 := (([[97], [98], [46], [92, 100], [92, 119], [49], [92, 46], [92, 87], [95], [99], [92, 83], [92, 68]] : List (List UInt8)).getD i [])
def cntT (j : Nat) : List UInt8 := (([[42], [63], [43, 63], [63, 63]] : List (List UInt8)).getD j [])
def bA (l : List UInt8) : ByteArray := ⟨l.toArray⟩
theorem bA_size (l : List UInt8) : (bA l).size = l.length := by simp [bA, ByteArray.size]
theorem bA_app (a b : List UInt8) : bA (a ++ b) = bA a ++ bA b := by
  unfold bA
  apply ByteArray.ext
  simp
inductive Shp : Nat → List UInt8 → Prop
  | atom (d i : Nat) : i < 12 → Shp d (atomT i)
  | cnt (d i j : Nat) : i < 12 → j < 4 → Shp (d + 1) (atomT i ++ cntT j)
  | cat {d : Nat} {a b : List UInt8} : Shp d a → Shp d b → Shp (d + 1) (a ++ b)
  | alt {d : Nat} {a b : List UInt8} : Shp d a → Shp d b → Shp (d + 1) ([40, 63, 58] ++ (a ++ 124 :: b) ++ [41])
theorem atomT_len (i : Nat) (h : i < 12) : (atomT i).length ≤ 2 := by
  have : i = 0 ∨ i = 1 ∨ i = 2 ∨ i = 3 ∨ i = 4 ∨ i = 5 ∨ i = 6 ∨ i = 7 ∨ i = 8 ∨ i = 9 ∨ i = 10 ∨ i = 11 := by omega
  rcases this with rfl | rfl | rfl | rfl | rfl | rfl | rfl | rfl | rfl | rfl | rfl | rfl <;> decide
theorem cntT_len (j : Nat) (h : j < 4) : (cntT j).length ≤ 2 := by
  have : j = 0 ∨ j = 1 ∨ j = 2 ∨ j = 3 := by omega
  rcases this with rfl | rfl | rfl | rfl <;> decide
theorem Shp.len0 {b : List UInt8} (h : Shp 0 b) : ∃ i, i < 12 ∧ b = atomT i := by
  generalize hd : 0 = d at h
  cases h with
  | atom d i hi => exact ⟨i, hi, rfl⟩
  | cnt d i j hi hj => cases hd
  | cat h1 h2 => cases hd
  | alt h1 h2 => cases hd
theorem Shp.len {d : Nat} {b : List UInt8} (h : Shp d b) : (d = 0 → b.length ≤ 2) ∧ (d = 1 → b.length ≤ 9) ∧ (d = 2 → b.length ≤ 23) := by
  induction h with
  | atom d i hi => have := atomT_len i hi; omega
  | cnt d i j hi hj => have := atomT_len i hi; have := cntT_len j hj; rw [List.length_append]; omega
  | cat h1 h2 i1 i2 => rw [List.length_append]; omega
  | alt h1 h2 i1 i2 => simp only [List.length_append, List.length_cons, List.length_nil]; omega
end Go.Proofs.YtmeffeigamaipaaDoor.G
