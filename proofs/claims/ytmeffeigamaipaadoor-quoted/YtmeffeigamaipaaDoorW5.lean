/- Contracts of the weight, at what the reader made of dots. -/
import Derived.Test.YtmeffeigamaipaaDoorW4
set_option linter.unusedVariables false
set_option linter.unusedSimpArgs false
namespace Go.Proofs.YtmeffeigamaipaaDoor
open Go.RowKit

set_option maxHeartbeats 1000000 in
set_option maxRecDepth 100000 in
theorem weight_single (w : World) :
    Calls Tryd.prog 18 #[dotPart] w fun e w' => e = .returned (.int .i64 1) ∧ Ex [] w w' := by
  unfold dotPart
  go_enter Tryd.func18, Tryd.ntmps18
  go_wp2_with fail
  refine wp_loop_rounds 1 ?_
  rw [rounds_succ]
  go_wp2_with fail
  go_ret
  exact ⟨rfl, (Ex.refl _ _).alloc _⟩

theorem dots_at (n j o : Nat) (hj : j < n) (ho : o < 9) : (dots n)[j * 9 + o]? = dotCells[o]? := by
  induction n with
  | zero => omega
  | succ n ih =>
    rw [dots]
    by_cases h : j < n
    · rw [List.getElem?_append_left (by rw [dots_len]; omega)]
      exact ih h
    · have : j = n := by omega
      subst this
      rw [List.getElem?_append_right (by rw [dots_len]; omega), dots_len]
      congr 1
      omega

/-- The cells of the j-th part of a row of dots. -/
theorem own_dot {w : World} {base n j : Nat} {v : Value} (h : w.ownsRow base 59 9 v n (dots n)) (hj : j < n) :
    ∃ g c, v = .slice (some ⟨g, 0, none⟩) n c ∧ base ≤ g ∧ n ≤ c ∧ ∀ o, o < 9 → w.cell? ⟨g, j * 9 + o, none⟩ = dotCells[o]? := by
  rcases h.2 with ⟨_, hn⟩ | ⟨g, cap, cur, rfl, hb, hgg, hnc, hcm, hcs, htake⟩
  · omega
  · refine ⟨g, cap, rfl, hb, hnc, fun o ho => ?_⟩
    rw [cell_of_row w g _ cur 59 (0, 0) hgg, ← dots_at n j o hj ho, ← htake, List.getElem?_take, if_pos (by omega)]
    simp

set_option maxHeartbeats 1000000 in
set_option maxRecDepth 100000 in
theorem weight_seq (v : Value) (n base : Nat) (w : World) (hown : w.ownsRow base 59 9 v n (dots n)) (hn : n ≤ 60) (hb : base ≤ w.heap.size) :
    Calls Tryd.prog 18 #[partOf 1 v] w fun e w' => e = .returned (.int .i64 n) ∧ Ex [] w w' := by
  obtain ⟨p, c, rfl⟩ := own_slice hown
  have HO := hide hown
  clear hown
  unfold partOf
  go_enter Tryd.func18, Tryd.ntmps18
  go_wp2_with fail
  go_loopg [3, 9] n (fun gk s i wr => ∃ j : Nat, j + gk = n ∧ s = .int .i64 j ∧ i = .int .i64 j ∧ Ex [] (w.alloc (Obj.cells #[.int .i64 1, .slice p n c, .int .u64 0, .int .u64 0, .bool false, .int .i64 0, .int .i64 0, .int .i64 0, .bool false] 59)) wr)
  case atStart => exact ⟨0, by omega, rfl, rfl, Ex.refl _ _⟩
  case round =>
    obtain ⟨j, hj, rfl, rfl, hx⟩ := hrel
    have HX := hide hx
    have hA : BK wr w.heap.size (.cells #[.int .i64 1, .slice p n c, .int .u64 0, .int .u64 0, .bool false, .int .i64 0, .int .i64 0, .int .i64 0, .bool false] 59) := (BK.new _ _).ex hx (by simp)
    obtain ⟨hcA, hfA⟩ := hA.all
    cases gk with
    | zero =>
      obtain rfl : j = n := by omega
      clear hx hA hj
      go_wp2_with fail
      go_ret
      exact ⟨by simp, ((Ex.refl _ _).alloc _).trans HX.out⟩
    | succ g =>
      have hj' : ((j : Int) < (n : Int)) := by omega
      obtain ⟨g1, c1, hv, hg1, hnc, hcell⟩ := own_dot (own_ex (HO.out.alloc _) hx (by simp)) (show j < n by omega)
      simp only [Value.slice.injEq, true_and] at hv
      obtain ⟨rfl, rfl⟩ := hv
      clear hx hA
      have k0 := hcell 0 (by omega); have k1 := hcell 1 (by omega); have k2 := hcell 2 (by omega); have k3 := hcell 3 (by omega); have k4 := hcell 4 (by omega)
      have k5 := hcell 5 (by omega); have k6 := hcell 6 (by omega); have k7 := hcell 7 (by omega); have k8 := hcell 8 (by omega)
      simp [dotCells] at k0 k1 k2 k3 k4 k5 k6 k7 k8
      clear hcell
      go_wp2_with fail
      refine (weight_single _).mono ?_
      rintro e w1 ⟨rfl, hx1⟩
      have HX1 := hide hx1
      clear hx1 k0 k1 k2 k3 k4 k5 k6 k7 k8
      go_wp2_with fail
      go_roundg g
      case measure => omega
      case rel => exact ⟨j + 1, by omega, by simp, by simp, (HX.out.alloc _).trans HX1.out⟩

set_option maxHeartbeats 1000000 in
set_option maxRecDepth 100000 in
theorem weight_choice (v : Value) (n base g : Nat) (w : World) (hown : w.ownsRow base 59 9 v n (dots n)) (hn : n ≤ 60) (hb : base ≤ w.heap.size)
    (hg : BK w g (.cells #[.int .i64 1, v, .int .u64 0, .int .u64 0, .bool false, .int .i64 0, .int .i64 0, .int .i64 0, .bool false] 59 (0, 0))) :
    Calls Tryd.prog 18 #[partOf 2 (.slice (some ⟨g, 0, none⟩) 1 1)] w fun e w' => e = .returned (.int .i64 n) ∧ Ex [] w w' := by
  obtain ⟨p, c, rfl⟩ := own_slice hown
  have HO := hide hown
  have hgl := hg.lt
  obtain ⟨hcG, hfG⟩ := hg.all
  clear hown hg
  unfold partOf
  go_enter Tryd.func18, Tryd.ntmps18
  go_wp2_with fail
  refine wp_loop_rounds 2 ?_
  rw [rounds_succ]
  go_wp2_with fail
  refine (weight_seq _ n base _ ((HO.out.alloc _).alloc _) hn (by simp; omega)).mono ?_
  rintro e w1 ⟨rfl, hx1⟩
  have HX1 := hide hx1
  have hA := BK.ex ((BK.new w (Obj.cells #[.int .i64 2, .slice (some ⟨g, 0, none⟩) 1 1, .int .u64 0, .int .u64 0, .bool false, .int .i64 0, .int .i64 0, .int .i64 0, .bool false] 59)).alloc _) hx1 (by simp)
  obtain ⟨hcA, hfA⟩ := hA.all
  clear hx1 hA
  go_wp2_with fail
  rw [rounds_succ]
  go_wp2_with fail
  go_ret
  exact ⟨by simp, (((Ex.refl _ _).alloc _).alloc _).trans HX1.out⟩
end Go.Proofs.YtmeffeigamaipaaDoor
