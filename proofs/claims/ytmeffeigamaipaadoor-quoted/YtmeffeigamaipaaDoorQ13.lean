/- Plain facts: what a quoted text is read as, and what that matches. -/
import Derived.Test.YtmeffeigamaipaaDoorQ12
set_option linter.unusedVariables false
set_option linter.unusedSimpArgs false
namespace Go.Proofs.YtmeffeigamaipaaDoor.Q
open Go.RowKit

theorem get_list (t : ByteArray) (k : Nat) (h : k < t.size) (h' : k < t.data.toList.length) : t[k] = t.data.toList[k] := rfl

theorem items_q (t : ByteArray) : ∀ (l pre : List UInt8), t.data.toList = pre ++ qL l → (∀ b ∈ l, b.toNat < 128) → Items t pre.length l := by
  have hz : t.data.toList.length = t.size := (Lib.size_eq t).symm
  intro l
  induction l with
  | nil =>
    intro pre h _
    show pre.length = t.size
    rw [← hz, h]; simp [qL]
  | cons b l ih =>
    intro pre h hl
    have h1 : qL (b :: l) = (if b ∈ specL then [92, b] else [b]) ++ qL l := rfl
    rw [h1] at h
    have hb := hl b (by simp)
    have hl' : ∀ b ∈ l, b.toNat < 128 := fun x hx => hl x (by simp [hx])
    refine ⟨hb, ?_⟩
    by_cases hm : b ∈ specL
    · right
      rw [if_pos hm] at h
      have hsz : pre.length + 2 ≤ t.size := by rw [← hz, h]; simp
      have hit := ih (pre ++ [92, b]) (by rw [h]; simp) hl'
      refine ⟨hm, by omega, ?_, ?_, by simpa using hit⟩
      · rw [get_list t _ (by omega) (by omega)]
        simp [h]
      · rw [get_list t _ (by omega) (by omega)]
        simp [h]
    · left
      rw [if_neg hm] at h
      have hsz : pre.length + 1 ≤ t.size := by rw [← hz, h]; simp
      have hit := ih (pre ++ [b]) (by rw [h]; simp) hl'
      refine ⟨hm, by omega, ?_, by simpa using hit⟩
      rw [get_list t _ (by omega) (by omega)]
      simp [h]

theorem noprefix_q (l : List UInt8) : Lib.hasPrefix (qL l) [40, 63, 105] = false := by
  cases l with
  | nil => rfl
  | cons b l =>
    have h1 : qL (b :: l) = (if b ∈ specL then [92, b] else [b]) ++ qL l := rfl
    rw [h1]
    by_cases hm : b ∈ specL
    · rw [if_pos hm]; rfl
    · rw [if_neg hm]
      have hne : b ≠ 40 := (not_in_spec hm).2.2.2.2.2.1
      show (((40 : UInt8) == b) && [63, 105].isPrefixOf (qL l)) = false
      rw [show ((40 : UInt8) == b) = false from by rw [beq_eq_false_iff_ne]; exact fun e => hne e.symm]
      rfl

theorem fm_no (q : ByteArray) (l : List UInt8) (hq : q.data.toList = qL l) (hl : ∀ b ∈ l, b.toNat < 128) : FM q false l :=
  foldMark_no q l (by rw [hq]; exact noprefix_q l) (items_q q l [] (by simpa using hq) hl)

theorem fm_yes (q : ByteArray) (l : List UInt8) (hq : q.data.toList = qL l) (hl : ∀ b ∈ l, b.toNat < 128) (hz : q.size ≤ 56) : FM (⟨#[40, 63, 105, 41]⟩ ++ q) true l := by
  have hd : (⟨#[40, 63, 105, 41]⟩ ++ q : ByteArray).data.toList = [40, 63, 105, 41] ++ qL l := by rw [list_app, hq]
  have hs : (⟨#[40, 63, 105, 41]⟩ ++ q : ByteArray).size = 4 + q.size := by rw [ByteArray.size_append]; rfl
  refine foldMark_yes _ l (by rw [hd]; rfl) (by omega) ?_ (by omega) (items_q _ l [40, 63, 105, 41] hd hl)
  rw [get_list _ 3 (by omega) (by rw [hd]; simp)]
  simp [hd]

theorem tab_one : ∀ b r : Fin 128, hasL (oneC b.val) r.val = decide (r.val = b.val) := by decide +kernel
theorem tab_one_hg : ∀ b : Fin 128, (oneC b.val).hg = false := by decide +kernel
theorem tab_both_hg : ∀ b : Fin 128, (bothC (oneC b.val)).hg = false := by decide +kernel
theorem tab_both : ∀ b : Fin 128, ∀ r : Fin 128, hasL (bothC (oneC b.val)) r.val = decide (r.val = b.val ∨ r.val = (turnB b.val.toUInt8).toNat) := by decide +kernel
theorem turn_low : ∀ b : Fin 128, (turnB b.val.toUInt8).toNat < 128 := by decide +kernel
end Go.Proofs.YtmeffeigamaipaaDoor.Q
