/- Contracts of package series: where a label is, or where it would belong. -/
import Derived.Test.YtmeffeigamaipabGreatDoorS0
set_option linter.unusedVariables false
set_option linter.unusedSimpArgs false
namespace Go.Proofs.YtmeffeigamaipabGreatDoor
open Go.RowKit

set_option maxHeartbeats 1000000 in
theorem clone_any (s : ByteArray) (w : World) (hs : s.size ≤ 281474976710656) :
    Calls Tryz.prog 42 #[.string s] w fun e w' => e = .returned (.string s) ∧ Ex [] w w' := by
  go_enter Tryz.func42, Tryz.ntmps42
  go_wp2_with fail
  refine (cloneIn_any _ _ hs).mono ?_
  rintro e w' ⟨rfl, hb⟩
  have HB := hide hb
  clear hb
  go_wp2_with fail
  go_ret
  exact ⟨rfl, Ex.below HB.out⟩

def cmpN (a b : ByteArray) : Int := Lib.compareBytes a.data.toList b.data.toList

set_option maxHeartbeats 1000000 in
theorem cmp_any (l : Lab) (t : ByteArray) (w : World) :
    Calls Tryz.prog 95 #[labV l, .string t] w fun e w' => e = .returned (.int .i64 (cmpN l.1 t)) ∧ Ex [] w w' := by
  obtain ⟨a, b⟩ := l
  unfold labV
  go_enter Tryz.func95, Tryz.ntmps95
  go_wp2_with fail
  refine (compare_any _ _ _).mono ?_
  rintro e w' ⟨rfl, rfl⟩
  go_wp2_with fail
  go_ret
  exact ⟨rfl, (Ex.refl _ _).alloc _⟩

/-- How many have names that are less. -/
def posN (ls : List Lab) (t : ByteArray) : Nat := (ls.takeWhile fun l => decide (cmpN l.1 t < 0)).length
def thereN (ls : List Lab) (t : ByteArray) : Bool := match ls[posN ls t]? with | some l => cmpN l.1 t == 0 | none => false

/-- Sorted, as far as one name can tell. -/
def SortedFor (ls : List Lab) (t : ByteArray) : Prop := ∀ (a b : Nat) (x y : Lab), a ≤ b → ls[a]? = some x → ls[b]? = some y → cmpN y.1 t < 0 → cmpN x.1 t < 0

theorem posN_eq : ∀ {ls : List Lab} {t : ByteArray} {i : Nat}, i ≤ ls.length → (∀ k l, k < i → ls[k]? = some l → cmpN l.1 t < 0) → (∀ k l, i ≤ k → ls[k]? = some l → ¬ cmpN l.1 t < 0) → posN ls t = i := by
  intro ls t
  induction ls with
  | nil => intro i hi _ _; simp at hi; subst hi; rfl
  | cons a r ih =>
    intro i hi h1 h2
    cases i with
    | zero =>
      have := h2 0 a (Nat.le_refl _) rfl
      simp [posN, List.takeWhile_cons, this]
    | succ i =>
      have ha := h1 0 a (by omega) rfl
      have := ih (i := i) (by simpa using hi) (fun k l hk hl => h1 (k + 1) l (by omega) (by simpa using hl)) (fun k l hk hl => h2 (k + 1) l (by omega) (by simpa using hl))
      simp only [posN, List.takeWhile_cons, ha, decide_true, if_true, List.length_cons]
      unfold posN at this
      omega

set_option maxHeartbeats 2000000 in
set_option maxRecDepth 100000 in
theorem search_any (v : Value) (ls : List Lab) (t : ByteArray) (w : World) (hv : SL w v ls) (hn : ls.length ≤ 1000) (hsrt : SortedFor ls t) :
    Calls Tryz.prog 94 #[v, .string t, .func (.func 95) #[] #[]] w fun e w' => e = .returned (.tuple #[.int .i64 (posN ls t), .bool (thereN ls t)]) ∧ Ex [] w w' := by
  have HV := hide hv
  have HS := hide hsrt
  obtain ⟨p, c, rfl⟩ := hv.slice
  clear hv hsrt
  go_enter Tryz.func94, Tryz.ntmps94
  go_wp2_with fail
  go_loopg [9, 10] ls.length (fun gk i j wr => ∃ a b : Nat, b - a ≤ gk ∧ a ≤ b ∧ b ≤ ls.length ∧ i = .int .i64 a ∧ j = .int .i64 b ∧ (∀ k l, k < a → ls[k]? = some l → cmpN l.1 t < 0) ∧ (∀ k l, b ≤ k → ls[k]? = some l → ¬ cmpN l.1 t < 0) ∧ Ex [] w wr)
  case atStart => exact ⟨0, ls.length, by omega, by omega, by omega, rfl, rfl, fun k l h => by omega, fun k l h hl => (by rw [List.getElem?_eq_none h] at hl; cases hl), Ex.refl _ _⟩
  case round =>
    obtain ⟨a, b, hg, hab, hbl, rfl, rfl, h1, h2, hx⟩ := hrel
    have H1 := hide h1
    have H2 := hide h2
    have HX := hide hx
    by_cases hlt : a < b
    · have hlt' : (a : Int) < (b : Int) := by omega
      obtain ⟨h, hh⟩ : ∃ h : Nat, ((a : Int) + (b : Int)) / 2 = (h : Int) := ⟨(a + b) / 2, by omega⟩
      have hha : a ≤ h := by omega
      have hhb : h < b := by omega
      have hhl : h < ls.length := by omega
      have hhl' : (h : Int) < (ls.length : Int) := by omega
      obtain ⟨l, hl⟩ : ∃ l, ls[h]? = some l := ⟨_, List.getElem?_eq_getElem hhl⟩
      have HLJ := hide hl
      obtain ⟨b', c', rfl, hb, c0, c1⟩ : ∃ b' c', p = some ⟨b', 0, none⟩ ∧ b' < wr.heap.size ∧ wr.cell? ⟨b', h * 2, none⟩ = some (.string l.1) ∧ wr.cell? ⟨b', h * 2 + 1, none⟩ = some (.string l.2) := by
        rcases HV.out with ⟨h1, h2⟩ | ⟨b', c', h1, hb, hc⟩
        · rw [h2] at hhl; simp at hhl
        · cases h1
          obtain ⟨h3, h4⟩ := hc h l hl
          exact ⟨b', 0, rfl, Nat.lt_of_lt_of_le hb hx.size, by rw [hx.cell0.1 b' _ hb]; exact h3, by rw [hx.cell0.1 b' _ hb]; exact h4⟩
      clear h1 h2 hx hl
      go_wp2_with fail
      refine (cmp_any l t _).mono ?_
      rintro e w' ⟨rfl, hx1⟩
      have HX1 := hide hx1
      clear hx1
      by_cases hc : cmpN l.1 t < 0
      · have HC := hide hc
        go_wp2_with fail
        go_roundg (gk - 1)
        case measure => omega
        case rel =>
          refine ⟨h + 1, b, by omega, by omega, by omega, by simp, rfl, fun k l' hk hl' => ?_, H2.out, HX.out.trans HX1.out⟩
          exact HS.out k h l' l (by omega) hl' HLJ.out HC.out
      · have HC := hide hc
        have hc' : 0 ≤ cmpN l.1 t := by omega
        clear hc
        go_wp2_with fail
        go_roundg (gk - 1)
        case measure => omega
        case rel =>
          refine ⟨a, h, by omega, by omega, by omega, rfl, by simp, H1.out, fun k l' hk hl' => Int.not_lt.1 fun hlt2 => ?_, HX.out.trans HX1.out⟩
          exact absurd (HS.out h k l l' hk HLJ.out hl' hlt2) (by have := HC.out; omega)
    · obtain rfl : a = b := by omega
      have hpos : posN ls t = a := posN_eq hbl h1 h2
      have HP := hide hpos
      clear hpos hlt h1 h2
      by_cases hal : a < ls.length
      · have hal' : (a : Int) < (ls.length : Int) := by omega
        obtain ⟨l, hl⟩ : ∃ l, ls[a]? = some l := ⟨_, List.getElem?_eq_getElem hal⟩
        have HLJ := hide hl
        obtain ⟨b, c', rfl, hb, c0, c1⟩ : ∃ b c', p = some ⟨b, 0, none⟩ ∧ b < wr.heap.size ∧ wr.cell? ⟨b, a * 2, none⟩ = some (.string l.1) ∧ wr.cell? ⟨b, a * 2 + 1, none⟩ = some (.string l.2) := by
          rcases HV.out with ⟨h1, h2⟩ | ⟨b, c', h1, hb, hc⟩
          · rw [h2] at hal; simp at hal
          · cases h1
            obtain ⟨h3, h4⟩ := hc a l hl
            exact ⟨b, 0, rfl, Nat.lt_of_lt_of_le hb hx.size, by rw [hx.cell0.1 b _ hb]; exact h3, by rw [hx.cell0.1 b _ hb]; exact h4⟩
        clear hx hl
        go_wp2_with fail
        refine (cmp_any l t _).mono ?_
        rintro e w' ⟨rfl, hx1⟩
        have HX1 := hide hx1
        clear hx1
        go_wp2_with fail
        go_ret2
        refine ⟨?_, HX.out.trans HX1.out⟩
        simp [thereN, unhide HP, HLJ.out]
      · obtain rfl : a = ls.length := by omega
        clear hx hal
        go_wp2_with fail
        go_ret2
        refine ⟨?_, HX.out⟩
        simp [thereN, unhide HP]

/-- The labels of a series that is rewritten: a pointer to a block with a slice that the call's side owns. -/
structure LS (w : World) (q base : Nat) (ls : List Lab) : Prop where
  lt : q < base
  le : base ≤ w.heap.size
  ex : ∃ v, BK w q (.cells #[v] 98 (0, 0)) ∧ w.ownsRow base 48 2 v ls.length (ls.flatMap fun l => [.string l.1, .string l.2])

theorem flat_at : ∀ (ls : List Lab) (j : Nat) (l : Lab), ls[j]? = some l → (ls.flatMap fun l => [Value.string l.1, Value.string l.2])[j * 2]? = some (.string l.1) ∧ (ls.flatMap fun l => [Value.string l.1, Value.string l.2])[j * 2 + 1]? = some (.string l.2)
  | [], j, l, h => by simp at h
  | a :: r, 0, l, h => by simp at h; subst h; simp
  | a :: r, j + 1, l, h => by
    have := flat_at r j l (by simpa using h)
    simp only [List.flatMap_cons, List.cons_append, List.nil_append]
    rw [show (j + 1) * 2 = j * 2 + 1 + 1 by omega]
    simpa using this

theorem own_sl {w : World} {base : Nat} {v : Value} {ls : List Lab} (h : w.ownsRow base 48 2 v ls.length (ls.flatMap fun l => [.string l.1, .string l.2])) : SL w v ls := by
  rcases h.2 with ⟨rfl, h2⟩ | ⟨g, cap, cur, rfl, hb, hg, hn, hm, hs, ht⟩
  · exact .inl ⟨rfl, List.length_eq_zero_iff.1 h2⟩
  · refine .inr ⟨g, cap, rfl, (Array.getElem?_eq_some_iff.1 hg).1, fun j l hj => ?_⟩
    have hjl : j < ls.length := (List.getElem?_eq_some_iff.1 hj).1
    have h1 := flat_at ls j l hj
    rw [cell_of_row w g _ cur _ _ hg, cell_of_row w g _ cur _ _ hg]
    rw [← ht, List.getElem?_take, List.getElem?_take, if_pos (by omega), if_pos (by omega)] at h1
    simpa using h1

set_option maxHeartbeats 1000000 in
set_option maxRecDepth 100000 in
theorem find_any (q base : Nat) (ls : List Lab) (t : ByteArray) (w : World) (hq : LS w q base ls) (hn : ls.length ≤ 1000) (hsrt : SortedFor ls t) :
    Calls Tryz.prog 61 #[.pointer (some ⟨q, 0, none⟩), .string t] w fun e w' => e = .returned (.tuple #[.int .i64 (posN ls t), .bool (thereN ls t)]) ∧ Ex [] w w' := by
  obtain ⟨v, hb, ho⟩ := hq.ex
  obtain ⟨hc, hf⟩ := hb.all
  have HO := hide ho
  have HS := hide hsrt
  clear hq hb ho hsrt
  go_enter Tryz.func61, Tryz.ntmps61
  go_wp2_with fail
  refine (search_any v ls t _ (own_sl HO.out) hn HS.out).mono ?_
  rintro e w' ⟨rfl, hx1⟩
  have HX1 := hide hx1
  clear hx1
  go_wp2_with fail
  go_ret2
  exact ⟨rfl, HX1.out⟩
end Go.Proofs.YtmeffeigamaipabGreatDoor
