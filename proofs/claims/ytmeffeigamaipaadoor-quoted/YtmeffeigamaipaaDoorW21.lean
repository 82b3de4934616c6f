/- Runes of a string: plain facts. -/
import Derived.Test.YtmeffeigamaipaaDoorW20
set_option linter.unusedVariables false
set_option linter.unusedSimpArgs false
namespace Go.Proofs.YtmeffeigamaipaaDoor
open Go.Lib

theorem size_extract (s : ByteArray) (a e : Nat) (he : e ≤ s.size) : (s.extract a e).size = e - a := by
  rw [Lib.size_eq, Lib.extract_data, List.length_take, List.length_drop, ← Lib.size_eq]
  omega
theorem getd (s : ByteArray) (i : Nat) : s.data.toList.getD i 0 = s.get! i := by
  cases s with
  | mk d =>
    show d.toList.getD i 0 = d[i]!
    by_cases h : i < d.size
    · rw [getElem!_pos d i h]; simp [List.getD, h]
    · rw [getElem!_neg d i h]; simp [List.getD, h]; rfl
theorem get_extract (s : ByteArray) (a e j : Nat) (h : a + j < e) : (s.extract a e).get! j = s.get! (a + j) := by
  rw [← getd, ← getd, Lib.extract_data]
  simp only [List.getD, List.getElem?_take, List.getElem?_drop]
  rw [if_pos (by omega)]
theorem get_tail (s : ByteArray) (a j : Nat) : (s.extract a s.size).get! j = s.get! (a + j) := by
  by_cases h : a + j < s.size
  · exact get_extract s a s.size j h
  · rw [← getd, ← getd, Lib.extract_data]
    have hz : s.data.toList.length = s.size := (Lib.size_eq s).symm
    simp only [List.getD, List.getElem?_take, List.getElem?_drop]
    rw [if_neg (by omega), List.getElem?_eq_none (by omega)]

theorem dN_ge (n b0 b1 b2 b3 : Nat) : 1 ≤ (decodeN n b0 b1 b2 b3).2 := by
  unfold decodeN
  repeat' split
  all_goals simp
theorem dN_le4 (n b0 b1 b2 b3 : Nat) : (decodeN n b0 b1 b2 b3).2 ≤ 4 := by
  unfold decodeN
  repeat' split
  all_goals simp
theorem dN_le (n b0 b1 b2 b3 : Nat) (hn : 1 ≤ n) : (decodeN n b0 b1 b2 b3).2 ≤ n := by
  unfold decodeN
  repeat' split
  all_goals (simp only; omega)

theorem rsz_dec (s : ByteArray) (a : Nat) (h : a < s.size) :
    rsz s a = (decodeN (s.size - a) ((s.extract a s.size).get! 0).toNat ((s.extract a s.size).get! 1).toNat ((s.extract a s.size).get! 2).toNat ((s.extract a s.size).get! 3).toNat).2 := by
  have hz := size_extract s a s.size (Nat.le_refl _)
  unfold rsz decodeGo
  rw [if_neg (by omega), decode_at, hz]
  simp

theorem rsz_at (s : ByteArray) (a : Nat) (h : a < s.size) :
    rsz s a = (decodeN (s.size - a) (s.get! a).toNat (s.get! (a + 1)).toNat (s.get! (a + 2)).toNat (s.get! (a + 3)).toNat).2 := by
  rw [rsz_dec s a h, get_tail, get_tail, get_tail, get_tail]
  simp

theorem rs_all (s : ByteArray) : RS s := by
  intro a h
  rw [rsz_dec s a h]
  exact ⟨dN_ge _ _ _ _ _, by have := dN_le (s.size - a) ((s.extract a s.size).get! 0).toNat ((s.extract a s.size).get! 1).toNat ((s.extract a s.size).get! 2).toNat ((s.extract a s.size).get! 3).toNat (by omega); omega⟩
theorem rsz_le4 (s : ByteArray) (a : Nat) (h : a < s.size) : rsz s a ≤ 4 := by
  rw [rsz_dec s a h]; exact dN_le4 _ _ _ _ _

theorem dN_2 (n b0 b1 b2 b3 c2 c3 : Nat) (hn : 2 ≤ n) : (decodeN 2 b0 b1 c2 c3).2 = 2 ↔ (decodeN n b0 b1 b2 b3).2 = 2 := by
  unfold decodeN
  repeat' split
  all_goals (simp; try omega)
theorem dN_3 (n b0 b1 b2 b3 c3 : Nat) (hn : 3 ≤ n) : (decodeN 3 b0 b1 b2 c3).2 = 3 ↔ (decodeN n b0 b1 b2 b3).2 = 3 := by
  unfold decodeN
  repeat' split
  all_goals (simp; try omega)
theorem dN_4 (n b0 b1 b2 b3 : Nat) (hn : 4 ≤ n) : (decodeN 4 b0 b1 b2 b3).2 = 4 ↔ (decodeN n b0 b1 b2 b3).2 = 4 := by
  unfold decodeN
  repeat' split
  all_goals (simp; try omega)

theorem rc_one (x : ByteArray) (h : 1 ≤ x.size) : rcount x 0 = 1 ↔ rsz x 0 = x.size := by
  have h0 := rs_all x 0 (by omega)
  rw [rcount_step x (rs_all x) 0 (by omega)]
  by_cases hz : rsz x 0 = x.size
  · rw [hz, Nat.zero_add, rcount_end x (rs_all x)]
    simp
  · rw [rcount_step x (rs_all x) (0 + rsz x 0) (by omega)]
    constructor
    · intro h2; omega
    · intro h2; exact absurd h2 hz

theorem piece_one (s : ByteArray) (a k : Nat) (hk : 2 ≤ k) (hk4 : k ≤ 4) (h : a + k ≤ s.size) :
    rcount (s.extract a (a + k)) 0 = 1 ↔ rsz s a = k := by
  have hz : (s.extract a (a + k)).size = k := by rw [size_extract s a (a + k) h]; omega
  rw [rc_one _ (by omega), hz, rsz_at _ 0 (by omega), rsz_at s a (by omega), hz]
  simp only [Nat.zero_add, Nat.sub_zero]
  have hk' : k = 2 ∨ k = 3 ∨ k = 4 := by omega
  rcases hk' with rfl | rfl | rfl
  · rw [get_extract s a _ 0 (by omega), get_extract s a _ 1 (by omega)]
    exact dN_2 _ _ _ _ _ _ _ (by omega)
  · rw [get_extract s a _ 0 (by omega), get_extract s a _ 1 (by omega), get_extract s a _ 2 (by omega)]
    exact dN_3 _ _ _ _ _ _ (by omega)
  · rw [get_extract s a _ 0 (by omega), get_extract s a _ 1 (by omega), get_extract s a _ 2 (by omega), get_extract s a _ 3 (by omega)]
    exact dN_4 _ _ _ _ _ (by omega)

theorem rsz_low (s : ByteArray) (a : Nat) (h : a < s.size) (hl : (s.get! a).toNat < 128) : rsz s a = 1 := by
  rw [rsz_at s a h]
  unfold decodeN
  rw [if_pos hl]
theorem rc_low (s : ByteArray) (hl : ∀ i, i < s.size → (s.get! i).toNat < 128) : ∀ d a, a + d = s.size → rcount s a = d := by
  intro d
  induction d with
  | zero => intro a h; rw [show a = s.size by omega]; exact rcount_end s (rs_all s)
  | succ d ih =>
    intro a h
    rw [rcount_step s (rs_all s) a (by omega), rsz_low s a (by omega) (hl a (by omega)), ih (a + 1) (by omega)]
    omega
theorem rc_le (s : ByteArray) : ∀ d a, a + d = s.size → rcount s a ≤ d := by
  intro d
  induction d using Nat.strongRecOn with
  | _ d ih =>
    intro a h
    by_cases h0 : d = 0
    · rw [show a = s.size by omega, rcount_end s (rs_all s)]; omega
    · have h1 := rs_all s a (by omega)
      rw [rcount_step s (rs_all s) a (by omega)]
      have := ih (d - rsz s a) (by omega) (a + rsz s a) (by omega)
      omega
end Go.Proofs.YtmeffeigamaipaaDoor
