/- JP4 JP5, one behind the other. -/
import Derived.Test.YtmeffeigamaipaaDoorM39
set_option linter.unusedVariables false
set_option linter.unusedSimpArgs false
/- Patterns that are shaped: atoms, counts, alternatives; those that Joins makes of them. -/
namespace Go.Proofs.YtmeffeigamaipaaDoor.G

theorem at_plain (m d : Nat) (x : UInt8) (h1 : x ≠ 40 ∧ x ≠ 91 ∧ x ≠ 46 ∧ x ≠ 92 ∧ x ≠ 41 ∧ x ≠ 124 ∧ x ≠ 42 ∧ x ≠ 43 ∧ x ≠ 63 ∧ x ≠ 123) (h2 : ¬ (128 ≤ x.toNat ∨ x ∈ specL)) : AT m d [x] (.single (oneC x.toNat)) := by
  refine ⟨⟨x, [], rfl, h1.2.2.2.2⟩, fun t s ha hf hd => ?_⟩
  have h0 := ha.cons.1
  unfold atomM
  rw [h0]
  simp only
  rw [if_neg h1.1, if_neg h1.2.1, if_neg h1.2.2.1, if_neg h1.2.2.2.1]
  unfold plainM
  rw [h0]
  simp only
  rw [if_neg h2, Res.bind_ok, show s.up.f = false from hf]
  rfl
theorem at_dot (m d : Nat) : AT m d [46] (.single dotC) := by
  refine ⟨⟨46, [], rfl, by decide⟩, fun t s ha hf hd => ?_⟩
  unfold atomM
  rw [ha.cons.1]
  simp only
  rw [if_neg (by decide), if_neg (by decide), if_pos (by decide)]
  rfl
theorem at_esc (m d : Nat) (y : UInt8) (c : Cls) (h : (if y ∈ escL then some (oneC y.toNat) else shortM y) = some c) : AT m d [92, y] (.single c) := by
  refine ⟨⟨92, [y], rfl, by decide⟩, fun t s ha hf hd => ?_⟩
  have h1 : byteAt t s.up.k = some y := ha.cons.2.cons.1
  unfold atomM
  rw [ha.cons.1]
  simp only
  rw [if_neg (by decide), if_neg (by decide), if_neg (by decide), if_pos (by decide)]
  unfold escapeM
  rw [h1]
  simp only
  by_cases hy : y ∈ escL
  · rw [if_pos hy] at h ⊢
    obtain rfl : oneC y.toNat = c := by simpa using h
    rw [Res.bind_ok, show s.up.up.f = false from hf]
    rfl
  · rw [if_neg hy] at h ⊢
    rw [h]
    simp only
    rw [Res.bind_ok, show s.up.up.f = false from hf]
    rfl
theorem at_atom (i : Nat) (h : i < 12) : ∃ c, (∀ m d, AT m d (atomT i) (.single c)) ∧ NF (atomT i) ∧ (atomT i).length ≤ 2 := by
  have : i = 0 ∨ i = 1 ∨ i = 2 ∨ i = 3 ∨ i = 4 ∨ i = 5 ∨ i = 6 ∨ i = 7 ∨ i = 8 ∨ i = 9 ∨ i = 10 ∨ i = 11 := by omega
  rcases this with rfl | rfl | rfl | rfl | rfl | rfl | rfl | rfl | rfl | rfl | rfl | rfl
  · exact ⟨_, fun m d => at_plain m d 97 (by decide) (by decide), ⟨97, [], rfl, fun h => absurd h (by decide)⟩, by decide⟩
  · exact ⟨_, fun m d => at_plain m d 98 (by decide) (by decide), ⟨98, [], rfl, fun h => absurd h (by decide)⟩, by decide⟩
  · exact ⟨_, fun m d => at_dot m d, ⟨46, [], rfl, fun h => absurd h (by decide)⟩, by decide⟩
  · exact ⟨_, fun m d => at_esc m d 100 digitC rfl, ⟨92, [100], rfl, fun h => absurd h (by decide)⟩, by decide⟩
  · exact ⟨_, fun m d => at_esc m d 119 wordC rfl, ⟨92, [119], rfl, fun h => absurd h (by decide)⟩, by decide⟩
  · exact ⟨_, fun m d => at_plain m d 49 (by decide) (by decide), ⟨49, [], rfl, fun h => absurd h (by decide)⟩, by decide⟩
  · exact ⟨_, fun m d => at_esc m d 46 (oneC 46) rfl, ⟨92, [46], rfl, fun h => absurd h (by decide)⟩, by decide⟩
  · exact ⟨_, fun m d => at_esc m d 87 (othersC wordC) rfl, ⟨92, [87], rfl, fun h => absurd h (by decide)⟩, by decide⟩
  · exact ⟨_, fun m d => at_plain m d 95 (by decide) (by decide), ⟨95, [], rfl, fun h => absurd h (by decide)⟩, by decide⟩
  · exact ⟨_, fun m d => at_plain m d 99 (by decide) (by decide), ⟨99, [], rfl, fun h => absurd h (by decide)⟩, by decide⟩
  · exact ⟨_, fun m d => at_esc m d 83 (othersC spaceC) rfl, ⟨92, [83], rfl, fun h => absurd h (by decide)⟩, by decide⟩
  · exact ⟨_, fun m d => at_esc m d 68 (othersC digitC) rfl, ⟨92, [68], rfl, fun h => absurd h (by decide)⟩, by decide⟩
structure SP (d L W : Nat) (b : List UInt8) (ps : List Pt) : Prop where
  rb : ∀ m e, d ≤ m → e + d ≤ 6 → RB m e b ps
  nf : NF b
  len : b.length ≤ L
  wt : wtL ps ≤ W
theorem SP.up {d L W d' L' W' : Nat} {b : List UInt8} {ps : List Pt} (h : SP d L W b ps) (h1 : d ≤ d') (h2 : L ≤ L') (h3 : W ≤ W') : SP d' L' W' b ps :=
  ⟨fun m e hm he => h.rb m e (by omega) (by omega), h.nf, Nat.le_trans h.len h2, Nat.le_trans h.wt h3⟩
theorem sp_atom (i : Nat) (h : i < 12) : ∃ ps, SP 0 2 1 (atomT i) ps := by
  obtain ⟨c, h1, h2, h3⟩ := at_atom i h
  exact ⟨[.single c], fun m e _ _ => (h1 m e).rb, h2, h3, by simp [wtL, G.wt]⟩
theorem sp_cnt (i j : Nat) (h : i < 12) (hj : j < 4) : ∃ ps, SP 0 4 3 (atomT i ++ cntT j) ps := by
  obtain ⟨c, h1, h2, h3⟩ := at_atom i h
  have : j = 0 ∨ j = 1 ∨ j = 2 ∨ j = 3 := by omega
  rcases this with rfl | rfl | rfl | rfl
  · exact ⟨_, fun m e _ _ => (h1 m e).cnt (cs := [42]) cnt_star, h2.app _, by rw [List.length_append]; simp [cntT]; omega, by simp [wtL, G.wt]⟩
  · exact ⟨_, fun m e _ _ => (h1 m e).cnt (cs := [63]) cnt_may, h2.app _, by rw [List.length_append]; simp [cntT]; omega, by simp [wtL, G.wt]⟩
  · exact ⟨_, fun m e _ _ => (h1 m e).cnt (cs := [43, 63]) cnt_plus, h2.app _, by rw [List.length_append]; simp [cntT]; omega, by simp [wtL, G.wt]⟩
  · exact ⟨_, fun m e _ _ => (h1 m e).cnt (cs := [63, 63]) cnt_may2, h2.app _, by rw [List.length_append]; simp [cntT]; omega, by simp [wtL, G.wt]⟩
theorem sp_cat {d L W : Nat} {a b : List UInt8} {ps qs : List Pt} (h : SP d L W a ps) (h' : SP d L W b qs) : SP d (2 * L) (2 * W) (a ++ b) (ps ++ qs) := by
  refine ⟨fun m e hm he => (h.rb m e hm he).app (h'.rb m e hm he), h.nf.app _, ?_, ?_⟩
  · have := h.len; have := h'.len; rw [List.length_append]; omega
  · have := h.wt; have := h'.wt; rw [wtL_append]; omega
theorem sp_alt {d L W : Nat} {a b : List UInt8} {ps qs : List Pt} (hd : d ≤ 5) (h : SP d L W a ps) (h' : SP d L W b qs) : SP (d + 1) (2 * L + 5) (2 * W + 2) ([40, 63, 58] ++ (a ++ 124 :: b) ++ [41]) [.wrap (.alt [.seq ps, .seq qs]) 0] := by
  refine ⟨fun m e hm he => ?_, ⟨40, [63, 58] ++ (a ++ 124 :: b) ++ [41], rfl, fun _ => ⟨(a ++ 124 :: b) ++ [41], rfl⟩⟩, ?_, ?_⟩
  · obtain ⟨m, rfl⟩ : ∃ k, m = k + 1 := ⟨m - 1, by omega⟩
    exact (AT.par2 (by omega) (h.rb m (e + 1) (by omega) (by omega)) (h'.rb m (e + 1) (by omega) (by omega))).rb
  · have := h.len; have := h'.len; simp only [List.length_append, List.length_cons, List.length_nil]; omega
  · have := h.wt; have := h'.wt; simp only [wtL, G.wt, List.length_cons, List.length_nil]; omega
theorem shp_sp {d : Nat} {b : List UInt8} (h : Shp d b) : (d = 0 → ∃ ps, SP 0 2 1 b ps) ∧ (d = 1 → ∃ ps, SP 1 9 4 b ps) ∧ (d = 2 → ∃ ps, SP 2 23 10 b ps) := by
  induction h with
  | atom d i hi =>
    obtain ⟨ps, h⟩ := sp_atom i hi
    exact ⟨fun _ => ⟨ps, h⟩, fun _ => ⟨ps, h.up (by omega) (by omega) (by omega)⟩, fun _ => ⟨ps, h.up (by omega) (by omega) (by omega)⟩⟩
  | cnt d i j hi hj =>
    obtain ⟨ps, h⟩ := sp_cnt i j hi hj
    exact ⟨fun h => by omega, fun _ => ⟨ps, h.up (by omega) (by omega) (by omega)⟩, fun _ => ⟨ps, h.up (by omega) (by omega) (by omega)⟩⟩
  | cat h1 h2 i1 i2 =>
    refine ⟨fun h => by omega, fun h => ?_, fun h => ?_⟩
    · obtain ⟨ps, a1⟩ := i1.1 (by omega); obtain ⟨qs, a2⟩ := i2.1 (by omega)
      exact ⟨_, (sp_cat a1 a2).up (by omega) (by omega) (by omega)⟩
    · obtain ⟨ps, a1⟩ := i1.2.1 (by omega); obtain ⟨qs, a2⟩ := i2.2.1 (by omega)
      exact ⟨_, (sp_cat a1 a2).up (by omega) (by omega) (by omega)⟩
  | alt h1 h2 i1 i2 =>
    refine ⟨fun h => by omega, fun h => ?_, fun h => ?_⟩
    · obtain ⟨ps, a1⟩ := i1.1 (by omega); obtain ⟨qs, a2⟩ := i2.1 (by omega)
      exact ⟨_, (sp_alt (by omega) a1 a2).up (by omega) (by omega) (by omega)⟩
    · obtain ⟨ps, a1⟩ := i1.2.1 (by omega); obtain ⟨qs, a2⟩ := i2.2.1 (by omega)
      exact ⟨_, (sp_alt (by omega) a1 a2).up (by omega) (by omega) (by omega)⟩
def brk (b cs : List UInt8) : List UInt8 := [40, 63, 58] ++ b ++ [41] ++ cs
theorem brk_nf (b cs : List UInt8) : NF (brk b cs) := ⟨40, [63, 58] ++ b ++ [41] ++ cs, rfl, fun _ => ⟨b ++ [41] ++ cs, rfl⟩⟩
theorem brk_len (b cs : List UInt8) : (brk b cs).length = b.length + cs.length + 4 := by simp [brk]; omega
section
variable {b c : List UInt8} {ps qs : List Pt} (h : SP 2 23 10 b ps) (h' : SP 2 23 10 c qs)
include h
theorem j_one : goodP (bA b) = true ∧ ∀ s, (matchM (patC (bA b)) s).isSome = true ↔ LP ps (runs s) :=
  is_one (h.rb 6 0 (by omega) (by omega)) h.nf (by have := h.len; omega) (by have := h.wt; omega)
theorem j_at : AT 6 0 ([40, 63, 58] ++ b ++ [41]) (wr ps) := AT.par1 (m := 5) (by omega) (h.rb 5 1 (by omega) (by omega))
theorem j_brk : goodP (bA (brk b [])) = true ∧ ∀ s, (matchM (patC (bA (brk b []))) s).isSome = true ↔ LP ps (runs s) := by
  have hr : RB 6 0 (brk b []) [wr ps] := by unfold brk; rw [List.append_nil]; exact (j_at h).rb
  obtain ⟨h1, h2⟩ := is_one hr (brk_nf _ _) (by rw [brk_len]; have := h.len; simp; omega) (by have := h.wt; simp [wr, wtL, G.wt]; omega)
  exact ⟨h1, fun s => by rw [h2 s, LP_wr]⟩
theorem j_star : goodP (bA (brk b [42])) = true ∧ ∀ s, (matchM (patC (bA (brk b [42]))) s).isSome = true ↔ Sr (LP ps) (runs s) := by
  obtain ⟨h1, h2⟩ := is_one ((j_at h).cnt (cs := [42]) cnt_star) (brk_nf _ _) (by have := brk_len b [42]; unfold brk at this; rw [this]; have := h.len; simp; omega) (by have := h.wt; simp [wr, wtL, G.wt]; omega)
  exact ⟨h1, fun s => by rw [← LP_star ps false]; exact h2 s⟩
theorem j_may : goodP (bA (brk b [63])) = true ∧ ∀ s, (matchM (patC (bA (brk b [63]))) s).isSome = true ↔ (runs s = [] ∨ LP ps (runs s)) := by
  obtain ⟨h1, h2⟩ := is_one ((j_at h).cnt (cs := [63]) cnt_may) (brk_nf _ _) (by have := brk_len b [63]; unfold brk at this; rw [this]; have := h.len; simp; omega) (by have := h.wt; simp [wr, wtL, G.wt]; omega)
  exact ⟨h1, fun s => by rw [← LP_may ps false]; exact h2 s⟩
theorem j_two : goodP (bA (brk b [123, 50, 125])) = true ∧ ∀ s, (matchM (patC (bA (brk b [123, 50, 125]))) s).isSome = true ↔ ∃ x y, runs s = x ++ y ∧ LP ps x ∧ LP ps y := by
  obtain ⟨h1, h2⟩ := is_one ((j_at h).cnt (cs := [123, 50, 125]) cnt_two) (brk_nf _ _) (by have := brk_len b [123, 50, 125]; unfold brk at this; rw [this]; have := h.len; simp; omega) (by have := h.wt; simp [wr, wtL, G.wt]; omega)
  exact ⟨h1, fun s => by rw [← LP_twice ps false]; exact h2 s⟩
include h'
theorem j_or : goodP (bA (b ++ 124 :: c)) = true ∧ ∀ s, (matchM (patC (bA (b ++ 124 :: c))) s).isSome = true ↔ LP ps (runs s) ∨ LP qs (runs s) :=
  is_two (h.rb 6 0 (by omega) (by omega)) (h'.rb 6 0 (by omega) (by omega)) h.nf (by have := h.len; have := h'.len; omega) (by have := h.wt; have := h'.wt; omega)
theorem j_cat : goodP (bA (brk b (brk c []))) = true ∧ ∀ s, (matchM (patC (bA (brk b (brk c [])))) s).isSome = true ↔ ∃ x y, runs s = x ++ y ∧ LP ps x ∧ LP qs y := by
  have hr : RB 6 0 (brk b (brk c [])) ([wr ps] ++ [wr qs]) := by
    have e : brk b (brk c []) = ([40, 63, 58] ++ b ++ [41]) ++ ([40, 63, 58] ++ c ++ [41]) := by simp [brk]
    rw [e]; exact (j_at h).rb.app (j_at h').rb
  obtain ⟨h1, h2⟩ := is_one hr (brk_nf _ _) (by rw [brk_len, brk_len]; have := h.len; have := h'.len; simp; omega) (by have := h.wt; have := h'.wt; simp [wr, wtL, G.wt]; omega)
  exact ⟨h1, fun s => by rw [← LP_cat]; exact h2 s⟩
end
theorem dot_all : ∀ r : Fin 129, hasC dotC ((r.val : Nat) : Int) = true := by decide +kernel
theorem rcN_le (s : ByteArray) (a : Nat) : rcN s a ≤ 128 := by unfold rcN; split <;> omega
theorem j_dot : goodP (bA [46]) = true ∧ ∀ s : ByteArray, 0 < s.size → ((matchM (patC (bA [46])) s).isSome = true ↔ rzN s 0 = s.size) := by
  obtain ⟨h1, h2⟩ := is_one (at_dot 6 0).rb ⟨46, [], rfl, fun h => absurd h (by decide)⟩ (by decide) (by decide)
  refine ⟨h1, fun s hs => ?_⟩
  rw [h2 s, LP_one]
  show (∃ r, runs s = [r] ∧ hasC dotC r = true) ↔ _
  have hle := rzN_le s 0 hs
  unfold runs
  rw [rr_step s 0 hs]
  constructor
  · rintro ⟨r, h, _⟩
    by_cases hc : 0 + rzN s 0 < s.size
    · rw [rr_step s _ hc] at h; simp at h
    · omega
  · intro h
    refine ⟨rcN s 0, by rw [rr_end s _ (by omega)], ?_⟩
    exact dot_all ⟨rcN s 0, by have := rcN_le s 0; omega⟩
theorem piece_dot (s : ByteArray) (a k : Nat) (hk : 2 ≤ k) (hk4 : k ≤ 4) (h : a + k ≤ s.size) : (matchM (patC (bA [46])) (s.extract a (a + k))).isSome = decide (rzN s a = k) := by
  have hz : (s.extract a (a + k)).size = k := by rw [size_extract s a (a + k) h]; omega
  have e : (matchM (patC (bA [46])) (s.extract a (a + k))).isSome = true ↔ rzN s a = k := by
    rw [j_dot.2 _ (by omega), hz]
    have b0 := byteN_cut s a (a + k) 0 (by omega)
    rw [Nat.add_zero] at b0
    unfold rzN
    rw [b0, hz]
    by_cases hb : byteN s a < 128
    · rw [if_pos hb, if_pos hb]
    · rw [if_neg hb, if_neg hb]
      constructor
      · intro hr
        rw [← hr]
        exact szN_back _ _ _ _ _ _ _ _ _ (by omega) (fun h => byteN_cut _ _ _ _ (by omega)) (fun h => byteN_cut _ _ _ _ (by omega)) (fun h => byteN_cut _ _ _ _ (by omega)) (by
          have : szN (k - 0) (byteN s a) (byteN (s.extract a (a + k)) (0 + 1)) (byteN (s.extract a (a + k)) (0 + 2)) (byteN (s.extract a (a + k)) (0 + 3)) = k := hr
          omega)
      · intro hr
        exact (szN_cut (s.size - a) (k - 0) (byteN s a) (byteN s (a + 1)) (byteN s (a + 2)) (byteN s (a + 3)) (byteN (s.extract a (a + k)) (0 + 1)) (byteN (s.extract a (a + k)) (0 + 2)) (byteN (s.extract a (a + k)) (0 + 3)) (by omega) (fun h => byteN_cut _ _ _ _ (by omega)) (fun h => byteN_cut _ _ _ _ (by omega)) (fun h => byteN_cut _ _ _ _ (by omega)) (by omega)).trans hr
  cases hb : (matchM (patC (bA [46])) (s.extract a (a + k))).isSome with
  | true => exact (decide_eq_true (e.1 hb)).symm
  | false => exact (decide_eq_false (fun h => by rw [e.2 h] at hb; cases hb)).symm
theorem rzN_le4 (s : ByteArray) (a : Nat) : rzN s a ≤ 4 := by
  unfold rzN szN
  repeat' split
  all_goals omega
end Go.Proofs.YtmeffeigamaipaaDoor.G

/- What Joins asks of shaped patterns, in plain words. -/
namespace Go.Proofs.YtmeffeigamaipaaDoor.G

def mB (t s : ByteArray) : Bool := (matchM (patC t) s).isSome
theorem brk_text (b cs : List UInt8) : bA (brk b cs) = ⟨#[40, 63, 58]⟩ ++ bA b ++ bA (41 :: cs) := by
  unfold brk
  rw [show [40, 63, 58] ++ b ++ [41] ++ cs = [40, 63, 58] ++ b ++ (41 :: cs) by simp, bA_app, bA_app]
  rfl
theorem or_text (b c : List UInt8) : bA (b ++ 124 :: c) = bA b ++ ⟨#[124]⟩ ++ bA c := by
  rw [show b ++ 124 :: c = b ++ [124] ++ c by simp, bA_app, bA_app]
  rfl
theorem cat_text (b c : List UInt8) : bA (brk b (brk c [])) = ⟨#[40, 63, 58]⟩ ++ bA b ++ ⟨#[41, 40, 63, 58]⟩ ++ bA c ++ ⟨#[41]⟩ := by
  unfold brk
  rw [show [40, 63, 58] ++ b ++ [41] ++ ([40, 63, 58] ++ c ++ [41] ++ []) = [40, 63, 58] ++ b ++ [41, 40, 63, 58] ++ c ++ [41] by simp, bA_app, bA_app, bA_app, bA_app]
  rfl
theorem bool_iff {a b : Bool} (h : a = true ↔ b = true) : a = b := by cases a <;> cases b <;> simp_all
structure JT (P Q : ByteArray) : Prop where
  g1 : goodP P = true
  g2 : goodP Q = true
  g3 : goodP (P ++ ⟨#[124]⟩ ++ Q) = true
  g4 : goodP (⟨#[40, 63, 58]⟩ ++ P ++ ⟨#[41]⟩) = true
  g5 : goodP (⟨#[40, 63, 58]⟩ ++ Q ++ ⟨#[41]⟩) = true
  g6 : goodP (⟨#[40, 63, 58]⟩ ++ P ++ ⟨#[41, 42]⟩) = true
  g7 : goodP (⟨#[40, 63, 58]⟩ ++ P ++ ⟨#[41, 40, 63, 58]⟩ ++ Q ++ ⟨#[41]⟩) = true
  g8 : goodP (⟨#[40, 63, 58]⟩ ++ P ++ ⟨#[41, 123, 50, 125]⟩) = true
  g9 : goodP (⟨#[40, 63, 58]⟩ ++ P ++ ⟨#[41, 63]⟩) = true
  m3 : ∀ s, mB (P ++ ⟨#[124]⟩ ++ Q) s = (mB P s || mB Q s)
  m4 : ∀ s, mB (⟨#[40, 63, 58]⟩ ++ P ++ ⟨#[41]⟩) s = mB P s
  m5 : ∀ s, mB (⟨#[40, 63, 58]⟩ ++ Q ++ ⟨#[41]⟩) s = mB Q s
  m6 : ∀ s, mB (⟨#[40, 63, 58]⟩ ++ P ++ ⟨#[41, 42]⟩) s = true ↔ s.size = 0 ∨ ∃ j, j < s.size + 1 ∧ Bd s 0 j ∧ mB P (s.extract 0 j) = true ∧ 0 < j ∧ mB (⟨#[40, 63, 58]⟩ ++ P ++ ⟨#[41, 42]⟩) (s.extract j s.size) = true
  m7 : ∀ s, mB (⟨#[40, 63, 58]⟩ ++ P ++ ⟨#[41, 40, 63, 58]⟩ ++ Q ++ ⟨#[41]⟩) s = true ↔ ∃ j, j < s.size + 1 ∧ Bd s 0 j ∧ mB P (s.extract 0 j) = true ∧ mB Q (s.extract j s.size) = true
  m8 : ∀ s, mB (⟨#[40, 63, 58]⟩ ++ P ++ ⟨#[41, 123, 50, 125]⟩) s = true ↔ ∃ j, j < s.size + 1 ∧ Bd s 0 j ∧ mB P (s.extract 0 j) = true ∧ mB P (s.extract j s.size) = true
  m9 : ∀ s, mB (⟨#[40, 63, 58]⟩ ++ P ++ ⟨#[41, 63]⟩) s = (mB P s || (s.size == 0))
theorem jt_of {b c : List UInt8} (h : Shp 2 b) (h' : Shp 2 c) : JT (bA b) (bA c) := by
  obtain ⟨ps, hp⟩ := (shp_sp h).2.2 rfl
  obtain ⟨qs, hq⟩ := (shp_sp h').2.2 rfl
  obtain ⟨a1, b1⟩ := j_one hp
  obtain ⟨a2, b2⟩ := j_one hq
  obtain ⟨a3, b3⟩ := j_or hp hq
  obtain ⟨a4, b4⟩ := j_brk hp
  obtain ⟨a5, b5⟩ := j_brk hq
  obtain ⟨a6, b6⟩ := j_star hp
  obtain ⟨a7, b7⟩ := j_cat hp hq
  obtain ⟨a8, b8⟩ := j_two hp
  obtain ⟨a9, b9⟩ := j_may hp
  rw [or_text] at a3 b3
  rw [brk_text] at a4 b4 a5 b5 a6 b6 a8 b8 a9 b9
  rw [cat_text] at a7 b7
  have B1 : ∀ s, mB (bA b) s = true ↔ LP ps (runs s) := b1
  have B2 : ∀ s, mB (bA c) s = true ↔ LP qs (runs s) := b2
  have B6 : ∀ s, mB (⟨#[40, 63, 58]⟩ ++ bA b ++ ⟨#[41, 42]⟩) s = true ↔ Sr (LP ps) (runs s) := b6
  have lt : ∀ {s : ByteArray} {j : Nat}, Bd s 0 j → j < s.size + 1 := fun h => by have := h.top (Nat.zero_le _); omega
  refine ⟨a1, a2, a3, a4, a5, a6, a7, a8, a9, fun s => ?_, fun s => ?_, fun s => ?_, fun s => ?_, fun s => ?_, fun s => ?_, fun s => ?_⟩
  · apply bool_iff
    rw [Bool.or_eq_true, B1, B2]; exact b3 s
  · apply bool_iff
    rw [B1]; exact b4 s
  · apply bool_iff
    rw [B2]; exact b5 s
  · rw [B6, Sr_iff, runs_empty]
    refine or_congr Iff.rfl ?_
    rw [← cut_iff s (fun a => a ≠ [] ∧ LP ps a) (Sr (LP ps))]
    constructor
    · rintro ⟨i, hi, ⟨h1, h2⟩, h3⟩
      exact ⟨i, lt hi, hi, (B1 _).2 h2, (head_pos s (by have := lt hi; omega)).1 h1, (B6 _).2 h3⟩
    · rintro ⟨i, hl, hi, h2, h1, h3⟩
      exact ⟨i, hi, ⟨(head_pos s (by omega)).2 h1, (B1 _).1 h2⟩, (B6 _).1 h3⟩
  · have := b7 s
    rw [← cut_iff s (LP ps) (LP qs)] at this
    refine Iff.trans this ?_
    constructor
    · rintro ⟨i, hi, h1, h2⟩; exact ⟨i, lt hi, hi, (B1 _).2 h1, (B2 _).2 h2⟩
    · rintro ⟨i, hl, hi, h1, h2⟩; exact ⟨i, hi, (B1 _).1 h1, (B2 _).1 h2⟩
  · have := b8 s
    rw [← cut_iff s (LP ps) (LP ps)] at this
    refine Iff.trans this ?_
    constructor
    · rintro ⟨i, hi, h1, h2⟩; exact ⟨i, lt hi, hi, (B1 _).2 h1, (B1 _).2 h2⟩
    · rintro ⟨i, hl, hi, h1, h2⟩; exact ⟨i, hi, (B1 _).1 h1, (B1 _).1 h2⟩
  · apply bool_iff
    rw [Bool.or_eq_true, B1, beq_iff_eq]
    refine Iff.trans (b9 s) ?_
    rw [runs_empty]
    exact or_comm
end Go.Proofs.YtmeffeigamaipaaDoor.G
