/- Plain facts: what a row of single runes matches. -/
import Derived.Test.YtmeffeigamaipaaDoorQ13
set_option linter.unusedVariables false
set_option linter.unusedSimpArgs false
namespace Go.Proofs.YtmeffeigamaipaaDoor.Q
open Go.RowKit

theorem dN_rune (n b0 b1 b2 b3 : Nat) (h : 128 ≤ b0) : 128 ≤ (Lib.decodeN n b0 b1 b2 b3).1 := by
  unfold Lib.decodeN
  repeat' split
  all_goals (simp only; omega)
theorem rune_at (s : ByteArray) (a : Nat) (h : a < s.size) :
    rune s a = (Lib.decodeN (s.size - a) (s.get! a).toNat (s.get! (a + 1)).toNat (s.get! (a + 2)).toNat (s.get! (a + 3)).toNat).1 := by
  have hz := size_extract s a s.size (Nat.le_refl _)
  unfold rune Lib.decodeGo
  rw [if_neg (by omega), Lib.decode_at, hz, get_tail, get_tail, get_tail, get_tail]
  simp
theorem rune_low (s : ByteArray) (a : Nat) (h : a < s.size) (hb : (s[a]'h).toNat < 128) : rune s a = (s[a]'h).toNat := by
  rw [← getb s a h] at hb ⊢
  rw [rune_at s a h]
  unfold Lib.decodeN
  rw [if_pos hb]
theorem rune_high (s : ByteArray) (a : Nat) (h : a < s.size) (hb : 128 ≤ (s[a]'h).toNat) : 128 ≤ rune s a := by
  rw [← getb s a h] at hb
  rw [rune_at s a h]
  exact dN_rune _ _ _ _ _ hb

/-- The byte itself; with the fold, or the same letter in the other case. -/
def eqB (f : Bool) (x b : UInt8) : Bool := x == b || (f && x == turnB b)
def eqF (f : Bool) : List UInt8 → List UInt8 → Bool
  | [], [] => true
  | x :: xs, b :: bs => eqB f x b && eqF f xs bs
  | _, _ => false

theorem has_sing (f : Bool) (s : ByteArray) (a : Nat) (h : a < s.size) (b : UInt8) (hb : b.toNat < 128) : hasC (sing f (oneC b.toNat)) (rune s a) = eqB f (s[a]'h) b := by
  by_cases hx : (s[a]'h).toNat < 128
  · rw [rune_low s a h hx]
    generalize hxx : (s[a]'h) = x at hx ⊢
    unfold hasC
    rw [if_neg (by omega)]
    have hinj : (x.toNat = b.toNat) ↔ x = b := UInt8.toNat_inj
    cases f with
    | false =>
      have h1 := tab_one ⟨b.toNat, hb⟩ ⟨x.toNat, hx⟩
      simp only [Int.toNat_natCast, sing, Bool.false_eq_true, if_false, eqB, Bool.false_and, Bool.or_false]
      rw [h1]
      by_cases e : x = b
      · simp [e]
      · have e2 : ¬ x.toNat = b.toNat := fun h => e (hinj.1 h)
        simp [e, e2]
    | true =>
      have h1 := tab_both ⟨b.toNat, hb⟩ ⟨x.toNat, hx⟩
      simp only [Int.toNat_natCast, sing, if_true, eqB, Bool.true_and]
      rw [h1]
      have hu : b.toNat.toUInt8 = b := by simp
      simp only [hu]
      have hinj2 : (x.toNat = (turnB b).toNat) ↔ x = turnB b := UInt8.toNat_inj
      by_cases e : x = b
      · simp [e]
      · have e2 : ¬ x.toNat = b.toNat := fun h => e (hinj.1 h)
        by_cases e3 : x = turnB b
        · simp [e3]
        · have e4 : ¬ x.toNat = (turnB b).toNat := fun h => e3 (hinj2.1 h)
          simp [e, e2, e3, e4]
  · have hr := rune_high s a h (by omega)
    unfold hasC
    rw [if_pos (by omega)]
    have e1 : ((s[a]'h) == b) = false := by rw [beq_eq_false_iff_ne]; intro e; rw [e] at hx; omega
    cases f with
    | false =>
      have h1 := tab_one_hg ⟨b.toNat, hb⟩
      simp only [sing, Bool.false_eq_true, if_false, eqB, Bool.false_and, Bool.or_false, e1]
      exact h1
    | true =>
      have h1 := tab_both_hg ⟨b.toNat, hb⟩
      have h2 := turn_low ⟨b.toNat, hb⟩
      have hu : b.toNat.toUInt8 = b := by simp
      simp only [hu] at h2
      have e2 : ((s[a]'h) == turnB b) = false := by rw [beq_eq_false_iff_ne]; intro e; rw [e] at hx; omega
      simp only [sing, if_true, eqB, Bool.true_and, e1, e2, Bool.or_false]
      exact h1

theorem turn_of_low (b : UInt8) (hb : b.toNat < 128) : (turnB b).toNat < 128 := by
  have h2 := turn_low ⟨b.toNat, hb⟩
  have hu : b.toNat.toUInt8 = b := by simp
  simpa only [hu] using h2

theorem mt_eq (f : Bool) (s : ByteArray) : ∀ (l : List UInt8) (a : Nat), (∀ b ∈ l, b.toNat < 128) → a ≤ s.size → mt s (clsOf f l) a = eqF f (s.data.toList.drop a) l := by
  have hz : s.data.toList.length = s.size := (Lib.size_eq s).symm
  intro l
  induction l with
  | nil =>
    intro a _ ha
    show decide (a = s.size) = _
    by_cases e : a = s.size
    · rw [List.drop_eq_nil_of_le (by omega)]
      simp [e, eqF]
    · rw [List.drop_eq_getElem_cons (by omega)]
      simp [e, eqF]
  | cons b l ih =>
    intro a hl ha
    have hb := hl b (by simp)
    have hl' : ∀ b ∈ l, b.toNat < 128 := fun x hx => hl x (by simp [hx])
    show (decide (a < s.size) && (hasC (sing f (oneC b.toNat)) (rune s a) && mt s (clsOf f l) (a + rsz s a))) = _
    by_cases e : a < s.size
    · rw [has_sing f s a e b hb, List.drop_eq_getElem_cons (by omega)]
      have hg : s.data.toList[a]'(by omega) = s[a]'e := rfl
      simp only [e, decide_true, Bool.true_and, eqF, hg]
      cases hq : eqB f (s[a]'e) b with
      | false => rfl
      | true =>
        have hlow : (s[a]'e).toNat < 128 := by
          unfold eqB at hq
          simp only [Bool.or_eq_true, Bool.and_eq_true, beq_iff_eq] at hq
          rcases hq with h | ⟨_, h⟩
          · rw [h]; exact hb
          · rw [h]; exact turn_of_low b hb
        rw [rsz_low s a e (by rw [getb s a e]; exact hlow), ih (a + 1) hl' (by omega)]
    · rw [List.drop_eq_nil_of_le (by omega)]
      simp [e, eqF]

theorem eqF_self (f : Bool) : ∀ l : List UInt8, eqF f l l = true
  | [] => rfl
  | b :: l => by simp [eqF, eqB, eqF_self f l]
theorem eqF_turn : ∀ l : List UInt8, eqF true (l.map turnB) l = true
  | [] => rfl
  | b :: l => by simp [eqF, eqB, eqF_turn l]
theorem eqF_false : ∀ l m : List UInt8, eqF false l m = decide (l = m)
  | [], [] => by simp [eqF]
  | [], b :: m => by simp [eqF]
  | x :: l, [] => by simp [eqF]
  | x :: l, b :: m => by
    rw [eqF, eqF_false l m]
    by_cases h1 : x = b
    · by_cases h2 : l = m
      · simp [eqB, h1, h2]
      · simp [eqB, h1, h2]
    · simp [eqB, h1]
theorem eqF_len {f : Bool} : ∀ {l m : List UInt8}, eqF f l m = true → l.length = m.length
  | [], [], _ => rfl
  | [], b :: m, h => by simp [eqF] at h
  | x :: l, [], h => by simp [eqF] at h
  | x :: l, b :: m, h => by
    rw [eqF] at h
    simp only [Bool.and_eq_true] at h
    simp [eqF_len h.2]
end Go.Proofs.YtmeffeigamaipaaDoor.Q
