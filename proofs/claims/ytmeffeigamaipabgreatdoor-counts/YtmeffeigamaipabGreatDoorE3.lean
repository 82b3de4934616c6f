/- Contracts of Relabel of an engine without rules, at the lists that Counts hands in. -/
import Derived.Test.YtmeffeigamaipabGreatDoorE2
set_option linter.unusedVariables false
set_option linter.unusedSimpArgs false
namespace Go.Proofs.YtmeffeigamaipabGreatDoor
open Go.RowKit

def aN : ByteArray := ⟨#[97]⟩
theorem aN_name : nameB aN = true := by decide
theorem aN_cmp : cmpN aN aN = 0 := by decide
theorem aN_right {y : ByteArray} (hy : y.size ≤ 200) : wrongB (aN, y) = false := by
  simp only [wrongB, aN_name, Bool.not_true, Bool.false_or, decide_eq_false_iff_not]
  omega

def R0 : List Value → List Lab → Bool → Prop := fun _ _ _ => True

theorem steps_nil : Steps [] (fun _ => []) := ⟨rfl, fun j l h => by simp at h⟩

theorem sorted_nil (a : ByteArray) : SortedFor [] a := fun _ _ x _ _ h => by simp at h
theorem sorted_one (x : ByteArray) : SortedFor [(aN, x)] aN := fun a b p q _ ha hb h => by
  have h1 : a = 0 := by have := (List.getElem?_eq_some_iff.1 ha).1; simp at this; omega
  have h2 : b = 0 := by have := (List.getElem?_eq_some_iff.1 hb).1; simp at this; omega
  subst h1; subst h2
  rw [ha] at hb; cases hb; exact h
theorem pos_one (x : ByteArray) : posN [(aN, x)] aN = 0 := by
  simp [posN, List.takeWhile_cons, aN_cmp]
theorem there_one (x : ByteArray) : thereN [(aN, x)] aN = true := by
  simp [thereN, pos_one, aN_cmp]

theorem steps_one {y : ByteArray} (h0 : ¬ y.size = 0) (h1 : y.size ≤ 200) : Steps [(aN, y)] (fun j => if j = 0 then [] else [(aN, y)]) := by
  refine ⟨rfl, fun j l hl W q base hls => ?_⟩
  obtain rfl : j = 0 := by have := (List.getElem?_eq_some_iff.1 hl).1; simp at this; omega
  simp only [List.getElem?_cons_zero, Option.some.injEq] at hl
  subst hl
  exact set_new q base [] aN y W hls (by simp) (sorted_nil _) rfl h0 h1

theorem steps_two {x y : ByteArray} (hx0 : ¬ x.size = 0) (hx1 : x.size ≤ 200) (h0 : ¬ y.size = 0) (h1 : y.size ≤ 200) : Steps [(aN, x), (aN, y)] (fun j => if j = 0 then [] else if j = 1 then [(aN, x)] else [(aN, y)]) := by
  refine ⟨rfl, fun j l hl W q base hls => ?_⟩
  have hj : j < 2 := by have := (List.getElem?_eq_some_iff.1 hl).1; simpa using this
  obtain rfl | rfl : j = 0 ∨ j = 1 := by omega
  · simp only [List.getElem?_cons_zero, Option.some.injEq] at hl
    subst hl
    exact set_new q base [] aN x W hls (by simp) (sorted_nil _) rfl hx0 hx1
  · simp only [List.getElem?_cons_succ, List.getElem?_cons_zero, Option.some.injEq] at hl
    subst hl
    have := set_again q base [(aN, x)] aN y W hls (by simp) (sorted_one x) (by rw [pos_one]; rfl) (there_one x) h0 h1
    rw [pos_one] at this
    exact this

theorem works_bare {w : World} {e : Nat} {mp : Value} {ls : List Lab} (he : BK w e (.cells #[.slice none 0 0, mp] 69 (0, 0))) (hn : ls.length ≤ 20) : Works R0 w (serC ls) (.pointer (some ⟨e, 0, none⟩)) := fun W hW => by
  refine (rewrite_bare e mp ls W (he.ex hW (by simp)) hn).mono ?_
  rintro x w' ⟨v, rfl, ho, hx⟩
  exact ⟨v, ls, true, rfl, trivial, by omega, ho, hx⟩

/-- Relabel, and what is remembered then. -/
def Asks (e m mb base room : Nat) (ts : List (List Value)) (v : Value) (S : List Value) (w : World) : Prop :=
  Calls Tryz.prog 12 #[.pointer (some ⟨e, 0, none⟩), v] w fun x w' => (∃ v' b, x = .returned (.tuple #[v', .bool b, .int .i64 0])) ∧
    (∃ ts' tv' es' clk', After room ts S ts' ∧ EN R0 w' e m mb base room (.slice none 0 0) ts' tv' es' clk') ∧ EB base [m, mb] w w'

theorem asks_of {e m mb base room : Nat} {ts : List (List Value)} {tv : Value} {es : Array MapEntry} {clk : Nat} {v : Value} {ls : List Lab} {acc : Nat → List Lab} {w : World}
    (he : EN R0 w e m mb base room (.slice none 0 0) ts tv es clk) (hv : SL w v ls) (hn : ls.length ≤ 20) (hw : ls.any wrongB = false) (hst : Steps ls acc) (hacc : (acc ls.length).length ≤ 20) (hok : ∀ l ∈ acc ls.length, l.1.size ≤ maxLen ∧ l.2.size ≤ maxLen) :
    Asks e m mb base room ts v (serC (acc ls.length)) w := by
  refine (relabel_any R0 e m mb base room (.slice none 0 0) ts tv es clk (serC (acc ls.length)) v w he (serOk hacc hok) (read_any v ls acc w hv hn hw hst hacc) (works_bare he.blk hacc)).mono ?_
  rintro x w' ⟨v', ls', b, h1, _, _, _, h2, h3⟩
  exact ⟨⟨v', b, h1⟩, h2, h3⟩

theorem asks_nil {e m mb base room : Nat} {ts : List (List Value)} {tv : Value} {es : Array MapEntry} {clk : Nat} {w : World} (he : EN R0 w e m mb base room (.slice none 0 0) ts tv es clk) :
    Asks e m mb base room ts (.slice none 0 0) (serC []) w :=
  asks_of (ls := []) (acc := fun _ => []) he (.inl ⟨rfl, rfl⟩) (by simp) rfl steps_nil (by simp) (by simp)

theorem asks_one {e m mb base room : Nat} {ts : List (List Value)} {tv : Value} {es : Array MapEntry} {clk : Nat} {v : Value} {y : ByteArray} {w : World} (he : EN R0 w e m mb base room (.slice none 0 0) ts tv es clk) (hv : SL w v [(aN, y)]) (h0 : ¬ y.size = 0) (h1 : y.size ≤ 200) :
    Asks e m mb base room ts v (serC [(aN, y)]) w := by
  have := asks_of he hv (by simp) (by simp [aN_right h1]) (steps_one h0 h1) (by simp) (by
    intro l hl
    simp at hl
    subst hl
    exact ⟨(show aN.size ≤ maxLen by decide), by unfold maxLen; simp; omega⟩)
  simpa using this

theorem asks_two {e m mb base room : Nat} {ts : List (List Value)} {tv : Value} {es : Array MapEntry} {clk : Nat} {v : Value} {x y : ByteArray} {w : World} (he : EN R0 w e m mb base room (.slice none 0 0) ts tv es clk) (hv : SL w v [(aN, x), (aN, y)])
    (hx0 : ¬ x.size = 0) (hx1 : x.size ≤ 200) (h0 : ¬ y.size = 0) (h1 : y.size ≤ 200) :
    Asks e m mb base room ts v (serC [(aN, y)]) w := by
  have := asks_of he hv (by simp) (by simp [aN_right h1, aN_right hx1]) (steps_two hx0 hx1 h0 h1) (by simp) (by
    intro l hl
    simp at hl
    subst hl
    exact ⟨(show aN.size ≤ maxLen by decide), by unfold maxLen; simp; omega⟩)
  simpa using this
end Go.Proofs.YtmeffeigamaipabGreatDoor
