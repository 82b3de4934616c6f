/- Contracts of the ways between instructions, at a program of dots: all of them. -/
import Derived.Test.YtmeffeigamaipaaDoorW8
set_option linter.unusedVariables false
set_option linter.unusedSimpArgs false
namespace Go.Proofs.YtmeffeigamaipaaDoor
open Go.RowKit

theorem takesL_len (m : Nat) : (takesL m).length = m * 7 := by
  induction m with
  | zero => rfl
  | succ n ih => simp [takesL, insOf, ih]; omega
theorem takesL_at (m k o : Nat) (hk : k < m) (ho : o < 7) : (takesL m)[k * 7 + o]? = (insOf 0 ones ones true)[o]? := by
  induction m with
  | zero => omega
  | succ n ih =>
    rw [takesL]
    by_cases h : k < n
    · rw [List.getElem?_append_left (by rw [takesL_len]; omega)]
      exact ih h
    · have : k = n := by omega
      subst this
      rw [List.getElem?_append_right (by rw [takesL_len]; omega), takesL_len]
      congr 1
      omega
theorem progL_take (m k o : Nat) (hk : k < m) (ho : o < 7) : (progL m)[k * 7 + o]? = (insOf 0 ones ones true)[o]? := by
  rw [progL, List.getElem?_append_left (by rw [takesL_len]; omega)]
  exact takesL_at m k o hk ho
theorem progL_accept (m o : Nat) : (progL m)[m * 7 + o]? = (insOf 6 0 0 false)[o]? := by
  rw [progL, List.getElem?_append_right (by rw [takesL_len]; omega), takesL_len]
  congr 1
  omega

/-- The cells of a row. -/
theorem own_cells {w : World} {base n : Nat} {e : TypeId} {size : Nat} {v : Value} {xs : List Value} (h : w.ownsRow base e size v n xs) (hn : 0 < n) :
    ∃ g c, v = .slice (some ⟨g, 0, none⟩) n c ∧ base ≤ g ∧ g < w.heap.size ∧ n ≤ c ∧ (∀ j, j < n * size → w.cell? ⟨g, j, none⟩ = xs[j]?) ∧ ∀ j, w.frozen? ⟨g, j, none⟩ = false := by
  rcases h.2 with ⟨_, h0⟩ | ⟨g, cap, cur, rfl, hb, hgg, hnc, hcm, hcs, htake⟩
  · omega
  · refine ⟨g, cap, rfl, hb, (Array.getElem?_eq_some_iff.1 hgg).1, hnc, fun j hj => ?_, fun j => by simp [World.frozen?, hgg]⟩
    rw [cell_of_row w g _ cur e (0, 0) hgg, ← htake, List.getElem?_take, if_pos hj]
    simp

set_option maxHeartbeats 1000000 in
set_option maxRecDepth 100000 in
theorem waysFrom_dot (cv : Value) (m k base : Nat) (mo : Int) (w : World) (hown : w.ownsRow base 98 7 cv (m + 1) (progL m)) (hk : k ≤ m) (hm : m ≤ 60) :
    Calls Tryd.prog 20 #[cv, .agg #[.int .i64 k, .int .i64 mo]] w fun e w' => ∃ v, e = .returned v ∧ w'.ownsRow w.heap.size 110 2 v 1 [.int .i64 k, .int .u64 0] ∧ Ex [] w w' := by
  have hmm := @run_makeMap Tryd.prog
  obtain ⟨cg, cc, rfl, hb, hlt, hnc, hcells, _⟩ := own_cells hown (by omega)
  have HC := hide hcells
  clear hown hcells
  go_enter Tryd.func20, Tryd.ntmps20
  go_wp2_with fail
  have hq : BK (((w.alloc (Obj.cells #[.int .i64 k, .int .i64 mo] 70)).alloc (Obj.map #[] 0)).alloc (Obj.cells #[.slice (some ⟨cg, 0, none⟩) (m + 1) cc, .map (some (w.heap.size + 1)), .slice none 0 0] 102)) (w.heap.size + 1 + 1) (.cells #[.slice (some ⟨cg, 0, none⟩) (m + 1) cc, .map (some (w.heap.size + 1)), .slice none 0 0] 102 (0, 0)) := by
    have := BK.new ((w.alloc (Obj.cells #[.int .i64 k, .int .i64 mo] 70)).alloc (Obj.map #[] 0)) (Obj.cells #[.slice (some ⟨cg, 0, none⟩) (m + 1) cc, .map (some (w.heap.size + 1)), .slice none 0 0] 102)
    simpa using this
  have hmp : BK (((w.alloc (Obj.cells #[.int .i64 k, .int .i64 mo] 70)).alloc (Obj.map #[] 0)).alloc (Obj.cells #[.slice (some ⟨cg, 0, none⟩) (m + 1) cc, .map (some (w.heap.size + 1)), .slice none 0 0] 102)) (w.heap.size + 1) (.map #[] 0) := by
    have := (BK.new (w.alloc (Obj.cells #[.int .i64 k, .int .i64 mo] 70)) (Obj.map #[] 0)).alloc (Obj.cells #[.slice (some ⟨cg, 0, none⟩) (m + 1) cc, .map (some (w.heap.size + 1)), .slice none 0 0] 102)
    simpa using this
  have hce : ∀ o, o < 7 → (((w.alloc (Obj.cells #[.int .i64 k, .int .i64 mo] 70)).alloc (Obj.map #[] 0)).alloc (Obj.cells #[.slice (some ⟨cg, 0, none⟩) (m + 1) cc, .map (some (w.heap.size + 1)), .slice none 0 0] 102)).cell? ⟨cg, k * 7 + o, none⟩ = (progL m)[k * 7 + o]? := by
    intro o ho
    have hx : Ex [] w (((w.alloc (Obj.cells #[.int .i64 k, .int .i64 mo] 70)).alloc (Obj.map #[] 0)).alloc (Obj.cells #[.slice (some ⟨cg, 0, none⟩) (m + 1) cc, .map (some (w.heap.size + 1)), .slice none 0 0] 102)) := (((Ex.refl _ _).alloc _).alloc _).alloc _
    rw [hx.cell.1 cg _ hlt (by simp)]
    exact HC.out _ (by omega)
  have key : Calls Tryd.prog 36 #[.pointer (some ⟨w.heap.size + 1 + 1, 0, none⟩), .agg #[.int .i64 k, .int .i64 mo], .int .u64 0] (((w.alloc (Obj.cells #[.int .i64 k, .int .i64 mo] 70)).alloc (Obj.map #[] 0)).alloc (Obj.cells #[.slice (some ⟨cg, 0, none⟩) (m + 1) cc, .map (some (w.heap.size + 1)), .slice none 0 0] 102)) fun e w' => e = .returned (.tuple #[]) ∧
      ∃ v, BK w' (w.heap.size + 1 + 1) (.cells #[.slice (some ⟨cg, 0, none⟩) (m + 1) cc, .map (some (w.heap.size + 1)), v] 102 (0, 0)) ∧ w'.ownsRow (w.heap.size + 1 + 1 + 1) 110 2 v 1 [.int .i64 k, .int .u64 0] ∧ Ex [w.heap.size + 1 + 1, w.heap.size + 1] (((w.alloc (Obj.cells #[.int .i64 k, .int .i64 mo] 70)).alloc (Obj.map #[] 0)).alloc (Obj.cells #[.slice (some ⟨cg, 0, none⟩) (m + 1) cc, .map (some (w.heap.size + 1)), .slice none 0 0] 102)) w' := by
    by_cases hkm : k < m
    · have := visit_take (w.heap.size + 1 + 1) (w.heap.size + 1) cg (m + 1) cc k mo ones ones true _ hq hmp (by simp) (by omega) (by omega) (by omega) (by omega) (by omega) (by simp; omega) (fun o ho => (hce o ho).trans (progL_take m k o hkm ho))
      simpa using this
    · obtain rfl : k = m := by omega
      have := visit_accept (w.heap.size + 1 + 1) (w.heap.size + 1) cg (k + 1) cc k mo 0 0 false _ hq hmp (by simp) (by omega) (by omega) (by omega) (by omega) (by omega) (by simp; omega) (fun o ho => (hce o ho).trans (progL_accept k o))
      simpa using this
  refine key.mono ?_
  rintro e w1 ⟨rfl, v, hq1, ho1, hx1⟩
  have HX1 := hide hx1
  have HO1 := hide ho1
  obtain ⟨hcq, hfq⟩ := hq1.all
  clear key hq hmp hce hx1 ho1 hq1
  go_wp2_with fail
  go_ret
  refine ⟨v, by simp, own_base HO1.out (by omega), ?_⟩
  refine Ex.drop (l := [w.heap.size + 1 + 1, w.heap.size + 1]) ?_ (by simp; omega)
  exact ((((Ex.refl _ _).alloc _).alloc _).alloc _).trans HX1.out
end Go.Proofs.YtmeffeigamaipaaDoor
