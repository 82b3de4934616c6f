/- The contract of size: how long the rune at a place is. -/
import Derived.Test.YtmeffeigamaipaaDoorW21
set_option linter.unusedVariables false
set_option linter.unusedSimpArgs false
namespace Go.Proofs.YtmeffeigamaipaaDoor
open Go.RowKit

theorem DT_one : DT ⟨#[46]⟩ := by
  intro k h
  have : k = 0 := by simp [ByteArray.size] at h; omega
  subst this; rfl

set_option maxHeartbeats 2000000 in
set_option maxRecDepth 100000 in
theorem size_dot (s : ByteArray) (a : Nat) (w : World) (hs : s.size ≤ 200) (ha : a < s.size) (hT : Lib.Utf8Tabs 1 2 w) :
    Calls Tryd.prog 10 #[.string s, .int .i64 a] w fun e w' => e = .returned (.int .i64 (rsz s a)) ∧ Ex [] w w' := by
  have HT := hide hT
  have htl := tabs_lt hT
  have hr4 := rsz_le4 s a ha
  have hrs := rs_all s a ha
  obtain ⟨r, hr⟩ : ∃ r, rsz s a = r := ⟨_, rfl⟩
  have HR := hide hr
  rw [hr] at hr4 hrs ⊢
  clear hT hr
  go_enter Tryd.func10, Tryd.ntmps10
  go_wp2_with fail
  go_loopg [5, 6] 3 (fun gk n5 k6 wr => ∃ (k n : Nat), k + gk = 5 ∧ 2 ≤ k ∧ (n = if r < k then r else 1) ∧ n5 = .int .i64 n ∧ k6 = .int .i64 k ∧ Ex [] w wr)
  case atStart => exact ⟨2, 1, by omega, by omega, by split <;> omega, rfl, rfl, Ex.refl _ _⟩
  case round =>
    obtain ⟨k, n, hgk, hk2, hn, rfl, rfl, hx⟩ := hrel
    have HN := hide hn
    clear hn
    have HX := hide hx
    clear hx
    by_cases hc : k ≤ 4 ∧ a + k ≤ s.size
    · obtain ⟨hc1, hc2⟩ := hc
      have e1 : (k : Int) ≤ 4 := by omega
      have e2 : (a : Int) + (k : Int) ≤ (s.size : Int) := by omega
      have e3 : (a : Int) ≤ (a : Int) + (k : Int) := by omega
      have hz : (s.extract a (a + k)).size = k := by rw [size_extract s a (a + k) hc2]; omega
      go_wp2_with fail
      refine (is_dot ⟨#[46]⟩ (s.extract a (a + k)) _ DT_one (by decide) (by omega) (tabs_eb HT.out (EB.ofEx HX.out (by omega)) htl) (rs_all _)).mono ?_
      rintro e w1 ⟨rfl, hx1⟩
      have HX1 := hide hx1
      clear hx1
      by_cases hk : r = k
      · have ht : decide (rcount (s.extract a (a + k)) 0 = ByteArray.size ⟨#[46]⟩) = true := decide_eq_true ((piece_one s a k hk2 hc1 hc2).2 (HR.out.trans hk))
        rw [ht]
        go_wp2_with fail
        go_roundg (4 - k)
        case measure => omega
        case rel => exact ⟨k + 1, k, by omega, by omega, by rw [if_pos (by omega)]; exact hk.symm, rfl, by simp, HX.out.trans HX1.out⟩
      · have ht : decide (rcount (s.extract a (a + k)) 0 = ByteArray.size ⟨#[46]⟩) = false := decide_eq_false (fun h => hk (HR.out.symm.trans ((piece_one s a k hk2 hc1 hc2).1 h)))
        rw [ht]
        go_wp2_with fail
        go_roundg (4 - k)
        case measure => omega
        case rel => exact ⟨k + 1, n, by omega, by omega, by have h1 := HN.out; rw [h1]; split <;> split <;> omega, rfl, by simp, HX.out.trans HX1.out⟩
    · have hrk : n = r := by have h1 := HN.out; rw [h1, if_pos (by omega)]
      subst hrk
      by_cases h4 : k ≤ 4
      · have e1 : (k : Int) ≤ 4 := by omega
        have e2 : ¬ (a : Int) + (k : Int) ≤ (s.size : Int) := by omega
        go_wp2_with fail
        go_ret
        exact ⟨rfl, HX.out⟩
      · have e1 : ¬ (k : Int) ≤ 4 := by omega
        go_wp2_with fail
        go_ret
        exact ⟨rfl, HX.out⟩
end Go.Proofs.YtmeffeigamaipaaDoor
