/- All ways at once, in their order, find the first way. -/
import Derived.Test.YtmeffeigamaipaaDoorM33
import Derived.Test.YtmeffeigamaipaaDoorM35
import Derived.Laws.BitsAllLaws
set_option linter.unusedVariables false
set_option linter.unusedSimpArgs false
namespace Go.Proofs.YtmeffeigamaipaaDoor.G

theorem orM_nat (b k : Nat) (hb : b < 18446744073709551616) (hk : k < 64) : orM (b : Int) (k : Int) = ((b ||| 2 ^ k : Nat) : Int) ∧ (b ||| 2 ^ k) < 18446744073709551616 := by
  have h2 : (2 : Nat) ^ k < 18446744073709551616 := by
    have : (2 : Nat) ^ k < 2 ^ 64 := Nat.pow_lt_pow_right (by decide) hk
    simpa using this
  refine ⟨?_, ?_⟩
  · unfold orM
    have hw : IntKind.u64.wrap (2 ^ (k : Int).toNat) = ((2 ^ k : Nat) : Int) := by
      rw [Int.toNat_natCast]
      have : ((2 : Int) ^ k) = ((2 ^ k : Nat) : Int) := by push_cast; rfl
      rw [this]
      simp only [IntKind.wrap, IntKind.bits, IntKind.signed]
      have h3 : ((2 ^ k : Nat) : Int) % 18446744073709551616 = ((2 ^ k : Nat) : Int) := Int.emod_eq_of_lt (Int.natCast_nonneg _) (Int.ofNat_lt.2 h2)
      simpa using h3
    rw [hw, u64_or_nat _ _ hb h2]
  · have : b ||| 2 ^ k < 2 ^ 64 := Nat.or_lt_two_pow (by simpa using hb) (Nat.pow_lt_pow_right (by decide) hk)
    simpa using this
theorem mark_or (b k : Nat) (hb : b < 18446744073709551616) (hk : k < 10) (pl : Int) (sl : List Int) (hl : sl.length = 10) : markM (orM (b : Int) (k : Int)) pl sl = (markM (b : Int) pl sl).set k pl := by
  obtain ⟨e, hlt⟩ := orM_nat b k hb (by omega)
  rw [e]
  apply List.ext_getElem?
  intro i
  by_cases hi : i < 10
  · unfold markM
    rw [markN_at _ _ _ _ _ (by omega), List.getElem?_set, markN_at _ _ _ _ _ (by omega), bitAt_nat _ _ hlt, bitAt_nat _ _ hb, Nat.testBit_or, Nat.testBit_two_pow, markN_len, hl]
    by_cases hki : k = i
    · subst hki
      simp [hk]
    · simp [hki, hi]
  · rw [List.getElem?_eq_none (by rw [markM_len, hl]; omega), List.getElem?_eq_none (by rw [List.length_set, markM_len, hl]; omega)]
theorem mark_zero (pl : Int) (sl : List Int) (hl : sl.length = 10) : markM 0 pl sl = sl := by
  apply List.ext_getElem?
  intro i
  by_cases hi : i < 10
  · unfold markM
    rw [markN_at _ _ _ _ _ (by omega), show (0 : Int) = ((0 : Nat) : Int) from rfl, bitAt_nat _ _ (by decide)]
    simp
  · rw [List.getElem?_eq_none (by rw [markM_len, hl]; omega), List.getElem?_eq_none (by omega)]

def app (sl : List Int) (m : Mk) : List Int := m.foldl (fun s y => s.set y.1 (y.2 : Int)) sl
open Classical in
noncomputable def fut (code : List Ins) (l : List (Nat × Nat)) (pl : Nat) (h : Nat × Nat) : Option Mk := if e : ∃ n v, VEv code l pl h n v then Classical.choose (Classical.choose_spec e) else none
theorem VEv.fut {code : List Ins} {l : List (Nat × Nat)} {pl : Nat} {h : Nat × Nat} {n : Nat} {v : Option Mk} (e : VEv code l pl h n v) : G.fut code l pl h = v := by
  have hx : ∃ n v, VEv code l pl h n v := ⟨n, v, e⟩
  unfold G.fut
  rw [dif_pos hx]
  exact (Classical.choose_spec (Classical.choose_spec hx)).det e |>.2
theorem VEv.any_m {code : List Ins} {l : List (Nat × Nat)} {pl pc m n : Nat} {v : Option Mk} {i : Ins} (hc : code[pc]? = some i) (ho : i.op = 0 ∨ i.op = 6) (e : VEv code l pl (pc, m) n v) (m' : Nat) : VEv code l pl (pc, m') n v := by
  cases e with
  | take0 h1 h2 => exact .take0 h1 h2
  | takeN h1 h2 h3 => exact .takeN h1 h2 h3
  | takeY h1 h2 h3 h4 => exact .takeY h1 h2 h3 h4
  | acc h1 h2 => exact .acc h1 h2
  | split h1 h2 => simp_all
  | jump h1 h2 => simp_all
  | note h1 h2 => simp_all
  | start h1 h2 => simp_all
  | endN h1 h2 => simp_all
  | endY h1 h2 => simp_all

noncomputable def fstW (code : List Ins) (l : List (Nat × Nat)) (pl : Nat) (sl : List Int) (ws : List (Nat × Int)) : Option (List Int) := ws.findSome? fun y => (fut code l pl (y.1, 1)).map fun m => app (markM y.2 pl sl) m
theorem fstW_snoc (code : List Ins) (l : List (Nat × Nat)) (pl : Nat) (sl : List Int) (ws : List (Nat × Int)) (y : Nat × Int) : fstW code l pl sl (ws ++ [y]) = (fstW code l pl sl ws).or ((fut code l pl (y.1, 1)).map fun m => app (markM y.2 pl sl) m) := by
  unfold fstW
  rw [List.findSome?_append]
  congr 1
  simp
def WOKw (code : List Ins) (l : List (Nat × Nat)) (pl : Nat) (y : Nat × Int) : Prop := (∃ i, code[y.1]? = some i ∧ (i.op = 0 ∨ i.op = 6)) ∧ ∃ n v, VEv code l pl (y.1, 1) n v
def DoneS (code : List Ins) (l : List (Nat × Nat)) (pl : Nat) (sl : List Int) (s : WS) (g : Nat × Nat) : Prop := fstW code l pl sl s.2 = none → ∃ n, VEv code l pl g n none
def SlotOK (code : List Ins) : Prop := ∀ (k : Nat) (i : Ins), code[k]? = some i → i.op = 3 → ∃ a : Nat, (a : Int) = i.sl ∧ a < 10
theorem DoneS.up {code : List Ins} {l : List (Nat × Nat)} {pl : Nat} {sl : List Int} {s s' : WS} {g : Nat × Nat} {x : Option (List Int)} (h : DoneS code l pl sl s g) (e : fstW code l pl sl s'.2 = (fstW code l pl sl s.2).or x) : DoneS code l pl sl s' g := fun hn => by
  rw [e] at hn
  cases h9 : fstW code l pl sl s.2 with
  | none => exact h h9
  | some v => rw [h9] at hn; simp at hn
structure Vis (code : List Ins) (l : List (Nat × Nat)) (pl : Nat) (sl : List Int) (s : WS) (h : Nat × Nat) (b : Nat) (v : Option Mk) (s' : WS) : Prop where
  fst : fstW code l pl sl s'.2 = (fstW code l pl sl s.2).or (v.map fun m => app (markM b pl sl) m)
  new : ∀ g ∈ s'.1, g ∈ s.1 ∨ DoneS code l pl sl s' g
  ways : ∀ y ∈ s'.2, y ∈ s.2 ∨ WOKw code l pl y
theorem vis_all {code : List Ins} (hok : CodeOK code) (hso : SlotOK code) {l : List (Nat × Nat)} {pl : Nat} {sl : List Int} (hl : sl.length = 10) : ∀ (f : Nat) (s : WS) (h : Nat × Nat) (b n : Nat) (v : Option Mk), VEv code l pl h n v → h.1 < code.length → h.2 < 2 → b < 18446744073709551616 → left code.length s.1 < f →
    (∀ g ∈ s.1, (∃ n' v', VEv code l pl g n' v' ∧ n < n') ∨ DoneS code l pl sl s g) → Vis code l pl sl s h b v (visitM code f s h b) := by
  intro f
  induction f with
  | zero => intro s h b n v e h1 h2 hb hf; omega
  | succ f ih =>
    intro s h b n v e h1 h2 hb hf hs
    unfold visitM
    by_cases hm : h ∈ s.1
    · rw [if_pos hm]
      have hd : DoneS code l pl sl s h := by
        rcases hs h hm with ⟨n', v', e', hlt⟩ | hd
        · have := (e.det e').1; omega
        · exact hd
      refine ⟨?_, fun g hg => .inl hg, fun y hy => .inl hy⟩
      cases h9 : fstW code l pl sl s.2 with
      | some x => simp
      | none =>
        obtain ⟨n', e'⟩ := hd h9
        rw [(e.det e').2]
        rfl
    · rw [if_neg hm]
      have hlf : left code.length (s.1 ++ [h]) < f := by have := left_lt (n := code.length) hm h1 h2; omega
      -- what goes on from a state behind this one
      have go : ∀ (s2 : WS) (h' : Nat × Nat) (b' n' : Nat) (v' : Option Mk), VEv code l pl h' n' v' → n' < n → h'.1 < code.length → h'.2 < 2 → b' < 18446744073709551616 → (∀ x, x ∈ s.1 ++ [h] → x ∈ s2.1) → (∃ x, fstW code l pl sl s2.2 = (fstW code l pl sl s.2).or x) →
          (∀ g ∈ s2.1, g ∈ s.1 ++ [h] ∨ DoneS code l pl sl s2 g) → Vis code l pl sl s2 h' b' v' (visitM code f s2 h' b') := by
        intro s2 h' b' n' v' e' hn g1 g2 hb' hsub hx hnew
        obtain ⟨x, hx⟩ := hx
        refine ih s2 h' b' n' v' e' g1 g2 hb' (Nat.lt_of_le_of_lt (left_mono hsub) hlf) (fun g hg => ?_)
        rcases hnew g hg with h9 | h9
        · rcases List.mem_append.1 h9 with h9 | h9
          · rcases hs g h9 with ⟨a, c, d, hlt⟩ | hd
            · exact .inl ⟨a, c, d, by omega⟩
            · exact .inr (hd.up hx)
          · rw [List.mem_singleton] at h9
            subst h9
            exact .inl ⟨n, v, e, hn⟩
        · exact .inr h9
      -- a state with a single way on
      have single : ∀ (h' : Nat × Nat) (b' n' : Nat) (v' : Option Mk), VEv code l pl h' n' v' → n' < n → h'.1 < code.length → h'.2 < 2 → b' < 18446744073709551616 → (v'.map fun m => app (markM b' pl sl) m) = (v.map fun m => app (markM b pl sl) m) → (v' = none → v = none) → Vis code l pl sl s h b v (visitM code f (s.1 ++ [h], s.2) h' b') := by
        intro h' b' n' v' e' hn g1 g2 hb' hv hv0
        have hv1 := go (s.1 ++ [h], s.2) h' b' n' v' e' hn g1 g2 hb' (fun x hx => hx) ⟨none, by simp⟩ (fun g hg => .inl hg)
        refine ⟨by rw [hv1.fst, hv], fun g hg => ?_, hv1.ways⟩
        rcases hv1.new g hg with h9 | h9
        · rcases List.mem_append.1 h9 with h9 | h9
          · exact .inl h9
          · rw [List.mem_singleton] at h9
            subst h9
            refine .inr (fun hn0 => ?_)
            rw [hv1.fst] at hn0
            have : v' = none := by
              cases v' with
              | none => rfl
              | some m => simp at hn0
            rw [hv0 this] at e
            exact ⟨n, e⟩
        · exact .inr h9
      -- a state with no way on
      have noway : v = none → Vis code l pl sl s h b v (s.1 ++ [h], s.2) := by
        intro hv
        subst hv
        refine ⟨by simp, fun g hg => ?_, fun y hy => .inl hy⟩
        rcases List.mem_append.1 hg with h9 | h9
        · exact .inl h9
        · rw [List.mem_singleton] at h9
          subst h9
          exact .inr (fun _ => ⟨n, e⟩)
      obtain ⟨pc, m⟩ := h
      cases hc : code[pc]? with
      | none => rw [List.getElem?_eq_none_iff] at hc; simp only at h1; omega
      | some i =>
        have hk := hok pc i hc
        -- it takes or accepts
        have last : i.op = 0 ∨ i.op = 6 → VEv code l pl (pc, 1) n v → Vis code l pl sl s (pc, m) b v (s.1 ++ [(pc, m)], s.2 ++ [(pc, (b : Int))]) := by
          intro ho e1
          have h3 : fstW code l pl sl (s.2 ++ [(pc, (b : Int))]) = (fstW code l pl sl s.2).or (v.map fun m => app (markM b pl sl) m) := by
            rw [fstW_snoc, e1.fut]
          refine ⟨h3, fun g hg => ?_, fun y hy => ?_⟩
          · rcases List.mem_append.1 hg with h9 | h9
            · exact .inl h9
            · rw [List.mem_singleton] at h9
              subst h9
              refine .inr (fun hn0 => ?_)
              have hn1 : fstW code l pl sl (s.2 ++ [(pc, (b : Int))]) = none := hn0
              rw [h3] at hn1
              have : v = none := by
                cases v with
                | none => rfl
                | some m => simp at hn1
              subst this
              exact ⟨n, e⟩
          · rcases List.mem_append.1 hy with h9 | h9
            · exact .inl h9
            · rw [List.mem_singleton] at h9
              subst h9
              exact .inr ⟨⟨i, hc, ho⟩, n, v, e1⟩
        dsimp only
        by_cases ho : i.op = 0 ∨ i.op = 6
        · rw [if_pos ho]
          exact last ho (e.any_m hc ho 1)
        · rw [if_neg ho]
          have e0 := e
          cases e with
          | take0 k1 k2 => rw [hc] at k1; cases k1; exact absurd (.inl k2) ho
          | takeN k1 k2 k3 => rw [hc] at k1; cases k1; exact absurd (.inl k2) ho
          | takeY k1 k2 k3 k4 => rw [hc] at k1; cases k1; exact absurd (.inl k2) ho
          | acc k1 k2 => rw [hc] at k1; cases k1; exact absurd (.inr k2) ho
          | @split _ _ _ _ _ n0 n1 v0 v1 k1 k2 k3 k4 =>
            rw [hc] at k1; cases k1
            rw [if_pos k2]
            have p0 := k3.pos
            have p1 := k4.pos
            obtain ⟨⟨a0, ea0, la0⟩, ⟨a1, ea1, la1⟩⟩ : (∃ a : Nat, (a : Int) = i.t0 ∧ a < code.length) ∧ ∃ a : Nat, (a : Int) = i.t1 ∧ a < code.length := by
              rcases hk with h9 | h9 | ⟨_, h9, h10⟩ | ⟨h9, _⟩ | ⟨h9, _⟩ | ⟨h9, _⟩ | ⟨h9, _⟩
              · omega
              · omega
              · exact ⟨h9, h10⟩
              all_goals omega
            have hv0 := go (s.1 ++ [(pc, m)], s.2) (i.t0.toNat, m) b n0 v0 k3 (by omega) (by show i.t0.toNat < _; omega) h2 hb (fun x hx => hx) ⟨none, by simp⟩ (fun g hg => .inl hg)
            have hv1 := go (visitM code f (s.1 ++ [(pc, m)], s.2) (i.t0.toNat, m) b) (i.t1.toNat, m) b n1 v1 k4 (by omega) (by show i.t1.toNat < _; omega) h2 hb (fun x hx => visit_seen code f _ _ _ x hx) ⟨_, hv0.fst⟩ hv0.new
            have hf3 : fstW code l pl sl (visitM code f (visitM code f (s.1 ++ [(pc, m)], s.2) (i.t0.toNat, m) b) (i.t1.toNat, m) b).2 = (fstW code l pl sl s.2).or ((v0.or v1).map fun m => app (markM b pl sl) m) := by
              rw [hv1.fst, hv0.fst, Option.or_assoc]
              congr 1
              cases v0 <;> rfl
            refine ⟨hf3, fun g hg => ?_, fun y hy => ?_⟩
            · rcases hv1.new g hg with h9 | h9
              · rcases hv0.new g h9 with h10 | h10
                · rcases List.mem_append.1 h10 with h10 | h10
                  · exact .inl h10
                  · rw [List.mem_singleton] at h10
                    subst h10
                    refine .inr (fun hn0 => ?_)
                    rw [hf3] at hn0
                    have : v0.or v1 = none := by
                      cases h11 : v0.or v1 with
                      | none => rfl
                      | some m => rw [h11] at hn0; simp at hn0
                    rw [this] at e0
                    exact ⟨_, e0⟩
                · exact .inr (h10.up hv1.fst)
              · exact .inr h9
            · rcases hv1.ways y hy with h9 | h9
              · exact hv0.ways y h9
              · exact .inr h9
          | @jump _ _ _ _ _ n0 v0 k1 k2 k3 =>
            rw [hc] at k1; cases k1
            rw [if_neg (by omega), if_pos k2]
            obtain ⟨a0, ea0, la0⟩ : ∃ a : Nat, (a : Int) = i.t0 ∧ a < code.length := by
              rcases hk with h9 | h9 | ⟨h9, _⟩ | ⟨_, h9⟩ | ⟨h9, _⟩ | ⟨h9, _⟩ | ⟨h9, _⟩
              · omega
              · omega
              · omega
              · exact h9
              all_goals omega
            exact single _ b n0 _ k3 (by omega) (by show i.t0.toNat < _; omega) h2 hb rfl id
          | @note _ _ _ _ _ n0 v0 k1 k2 k3 =>
            rw [hc] at k1; cases k1
            rw [if_neg (by omega), if_neg (by omega), if_pos k2]
            have hk1 : pc + 1 < code.length := by
              rcases hk with h9 | h9 | ⟨h9, _⟩ | ⟨h9, _⟩ | ⟨_, h9, _⟩ | ⟨h9, _⟩ | ⟨h9, _⟩
              · omega
              · omega
              · omega
              · omega
              · exact h9
              all_goals omega
            obtain ⟨a, ea, la⟩ := hso pc i hc k2
            obtain ⟨eo, ol⟩ := orM_nat b a hb (by omega)
            have eo2 : orM (b : Int) i.sl = ((b ||| 2 ^ a : Nat) : Int) := by rw [← ea]; exact eo
            rw [eo2]
            refine single _ _ n0 _ k3 (by omega) hk1 h2 ol ?_ (fun h9 => by rw [h9]; rfl)
            rw [← eo, mark_or b a hb la pl sl hl, ← ea, Option.map_map]
            congr 1
          | @start _ _ _ _ _ n0 v0 k1 k2 k3 =>
            rw [hc] at k1; cases k1
            rw [if_neg (by omega), if_neg (by omega), if_neg (by omega), if_pos k2]
            have hk1 : pc + 1 < code.length := by
              rcases hk with h9 | h9 | ⟨h9, _⟩ | ⟨h9, _⟩ | ⟨h9, _⟩ | ⟨_, h9⟩ | ⟨h9, _⟩
              · omega
              · omega
              · omega
              · omega
              · omega
              · exact h9
              · omega
            exact single _ b n0 _ k3 (by omega) hk1 (by show 0 < 2; omega) hb rfl id
          | endN k1 k2 k3 =>
            rw [hc] at k1; cases k1
            rw [if_neg (by omega), if_neg (by omega), if_neg (by omega), if_neg (by omega), if_pos k2, if_neg k3]
            exact noway rfl
          | @endY _ _ _ _ _ n0 v0 k1 k2 k3 k4 =>
            rw [hc] at k1; cases k1
            rw [if_neg (by omega), if_neg (by omega), if_neg (by omega), if_neg (by omega), if_pos k2, if_pos k3]
            have hk1 : pc + 1 < code.length := by
              rcases hk with h9 | h9 | ⟨h9, _⟩ | ⟨h9, _⟩ | ⟨h9, _⟩ | ⟨h9, _⟩ | ⟨_, h9⟩
              · omega
              · omega
              · omega
              · omega
              · omega
              · omega
              · exact h9
            exact single _ b n0 _ k4 (by omega) hk1 (by show 1 < 2; omega) hb rfl id
theorem ways_ev {code : List Ins} (hok : CodeOK code) (hso : SlotOK code) {l : List (Nat × Nat)} {pl : Nat} {sl : List Int} (hl : sl.length = 10) {h : Nat × Nat} {n : Nat} {v : Option Mk} (e : VEv code l pl h n v) (h1 : h.1 < code.length) (h2 : h.2 < 2) :
    fstW code l pl sl (waysM code h) = v.map (app sl) ∧ ∀ y ∈ waysM code h, WOKw code l pl y := by
  have hv := vis_all hok hso (pl := pl) hl (2 * code.length + 1) ([], []) h 0 n v e h1 h2 (by decide) (by have := left_le code.length []; show left code.length [] < _; omega) (fun g hg => by cases hg)
  refine ⟨?_, fun y hy => ?_⟩
  · have := hv.fst
    unfold waysM
    rw [show ((0 : Int)) = ((0 : Nat) : Int) from rfl, this]
    rw [show (((0 : Nat) : Int)) = 0 from rfl]
    simp only [mark_zero _ _ hl]
    rfl
  · rcases hv.ways y hy with h9 | h9
    · cases h9
    · exact h9
end Go.Proofs.YtmeffeigamaipaaDoor.G
