/- The contracts of accepted. -/
import Derived.Test.YtmeffeigamaipaaDoorW16
set_option linter.unusedVariables false
set_option linter.unusedSimpArgs false
namespace Go.Proofs.YtmeffeigamaipaaDoor
open Go.RowKit

set_option maxHeartbeats 2000000 in
set_option maxRecDepth 100000 in
theorem accepted_yes (u gr base q m k top cg cc sg sc B mb : Nat) (nowV nextV : Value) (w : World) (hp : PC w q m top cg cc sg sc B mb) (hr : RN w u gr base q m k nowV nextV) (hk : k = m) (hm : m ≤ 60) (htu : top ≤ u) :
    Calls Tryd.prog 27 #[.pointer (some ⟨u, 0, none⟩)] w fun e w' => e = .returned (.tuple #[unsetV, .bool true]) ∧ Ex [] w w' := by
  subst hk
  obtain ⟨ng, ncap, rfl, hngb, hngl, hngc, hncell, hnfz⟩ := own_cells hr.now (by omega)
  obtain ⟨hcu, hfu⟩ := hr.blk.all
  obtain ⟨hcq, hfq⟩ := hp.blk.all
  have j0 := hncell 0 (by omega); have j1 := hncell 1 (by omega); have j2 := hncell 2 (by omega); have j3 := hncell 3 (by omega); have j4 := hncell 4 (by omega); have j5 := hncell 5 (by omega)
  have j6 := hncell 6 (by omega); have j7 := hncell 7 (by omega); have j8 := hncell 8 (by omega); have j9 := hncell 9 (by omega); have j10 := hncell 10 (by omega)
  simp [thr] at j0 j1 j2 j3 j4 j5 j6 j7 j8 j9 j10
  have c0 := (hp.code (k * 7 + 0) (by omega)).trans (progL_accept k 0)
  simp [insOf] at c0
  have hk' : (k : Int) < (k : Int) + 1 := by omega
  have hul := hr.ul
  have hle := hr.le
  have hqt := hp.qt
  have hcgt := hp.cgt
  have hul1 : u < w.heap.size := by omega
  have hq1 : q < w.heap.size := by omega
  have hcg1 : cg < w.heap.size := by omega
  clear hr hp hncell hnfz
  go_enter Tryd.func27, Tryd.ntmps27
  go_wp2_with fail
  refine wp_loop_rounds 2 ?_
  rw [rounds_succ]
  go_wp2_with fail
  go_quiet (fail)
  go_wp2_with fail
  refine bodyPost_ret (v := .tuple #[unsetV, .bool true]) (by simp [results, Tryd.results27, go_sem, unsetV]) rfl ⟨rfl, ?_⟩
  repeat (refine Ex.setCell ?_ (Or.inr (by simp)) _)
  exact (((Ex.refl _ _).alloc _).alloc _).drewN _

set_option maxHeartbeats 2000000 in
set_option maxRecDepth 100000 in
theorem accepted_no (u gr base q m k top cg cc sg sc B mb : Nat) (nowV nextV : Value) (w : World) (hp : PC w q m top cg cc sg sc B mb) (hr : RN w u gr base q m k nowV nextV) (hk : k < m) (hm : m ≤ 60) (htu : top ≤ u) :
    Calls Tryd.prog 27 #[.pointer (some ⟨u, 0, none⟩)] w fun e w' => e = .returned (.tuple #[.agg #[.int .i64 0, .int .i64 0, .int .i64 0, .int .i64 0, .int .i64 0, .int .i64 0, .int .i64 0, .int .i64 0, .int .i64 0, .int .i64 0], .bool false]) ∧ Ex [] w w' := by
  obtain ⟨ng, ncap, rfl, hngb, hngl, hngc, hncell, hnfz⟩ := own_cells hr.now (by omega)
  obtain ⟨hcu, hfu⟩ := hr.blk.all
  obtain ⟨hcq, hfq⟩ := hp.blk.all
  have j0 := hncell 0 (by omega); have j1 := hncell 1 (by omega); have j2 := hncell 2 (by omega); have j3 := hncell 3 (by omega); have j4 := hncell 4 (by omega); have j5 := hncell 5 (by omega)
  have j6 := hncell 6 (by omega); have j7 := hncell 7 (by omega); have j8 := hncell 8 (by omega); have j9 := hncell 9 (by omega); have j10 := hncell 10 (by omega)
  simp [thr] at j0 j1 j2 j3 j4 j5 j6 j7 j8 j9 j10
  have c0 := (hp.code (k * 7 + 0) (by omega)).trans (progL_take m k 0 hk (by omega))
  simp [insOf] at c0
  have hk' : (k : Int) < (m : Int) + 1 := by omega
  have hul := hr.ul
  have hle := hr.le
  have hqt := hp.qt
  have hcgt := hp.cgt
  have hul1 : u < w.heap.size := by omega
  have hq1 : q < w.heap.size := by omega
  have hcg1 : cg < w.heap.size := by omega
  clear hr hp hncell hnfz
  go_enter Tryd.func27, Tryd.ntmps27
  go_wp2_with fail
  refine wp_loop_rounds 2 ?_
  rw [rounds_succ]
  go_wp2_with fail
  go_quiet (fail)
  go_wp2_with fail
  rw [rounds_succ]
  go_wp2_with fail
  refine bodyPost_ret (v := .tuple #[.agg #[.int .i64 0, .int .i64 0, .int .i64 0, .int .i64 0, .int .i64 0, .int .i64 0, .int .i64 0, .int .i64 0, .int .i64 0, .int .i64 0], .bool false]) (by simp [results, Tryd.results27, go_sem]) rfl ⟨rfl, ?_⟩
  repeat (refine Ex.setCell ?_ (Or.inr (by simp)) _)
  exact (((Ex.refl _ _).alloc _).alloc _).drewN _
end Go.Proofs.YtmeffeigamaipaaDoor
