/- The contracts of step at the last instruction, and of accepted. -/
import Derived.Test.YtmeffeigamaipaaDoorW15
set_option linter.unusedVariables false
set_option linter.unusedSimpArgs false
namespace Go.Proofs.YtmeffeigamaipaaDoor
open Go.RowKit

set_option maxHeartbeats 2000000 in
set_option maxRecDepth 100000 in
theorem step_last (u gr base q m k top cg cc sg sc B mb : Nat) (r pl : Int) (nowV nextV : Value) (w : World) (hp : PC w q m top cg cc sg sc B mb) (hr : RN w u gr base q m k nowV nextV)
    (hk : k = m) (hm : m ≤ 60) (htu : top ≤ u) (htg : top ≤ gr) :
    Calls Tryd.prog 26 #[.pointer (some ⟨u, 0, none⟩), .int .i32 r, .int .i64 pl] w fun e w' => e = .returned (.bool false) ∧ EB top [] w w' := by
  subst hk
  obtain ⟨nn, nx, hno⟩ := hr.next
  obtain ⟨np, nc, rfl, hnz, hnb, hnn⟩ := own_zero hno
  obtain ⟨ng, ncap, rfl, hngb, hngl, hngc, hncell, hnfz⟩ := own_cells hr.now (by omega)
  obtain ⟨hcu, hfu⟩ := hr.blk.all
  have HP := hide hp
  have HR := hide hr
  have HNZ := hide hnz
  have HNB := hide hnb
  have HNC := hide hncell
  have hul := hr.ul
  have hgl := hr.gl
  have hug := hr.ug
  have hle := hr.le
  clear hp hr hnz hnb hncell hno
  have hcap : (0 : Int) ≤ (nc : Int) := by omega
  go_enter Tryd.func26, Tryd.ntmps26
  go_wp2_with fail
  generalize hw1 : World.setCell _ (⟨u, 1, none⟩ : Addr) _ = w1
  have hx1 : Ex [u] w w1 := by rw [← hw1]; exact (Ex.refl _ _).setCell (Or.inl (by simp)) _
  have hu1 : BK w1 u (.cells #[.pointer (some ⟨q, 0, none⟩), .slice np 0 nc, .slice np nn nc, .slice (some ⟨gr, 0, none⟩) (k + 1) (k + 1)] 108 (0, 0)) := by
    have h1 := BK.self HR.out.blk 1 (.slice np 0 nc)
    simp only [List.setIfInBounds_toArray, List.set_cons_zero, List.set_cons_succ] at h1
    rw [← hw1]; exact h1
  have hp1 : PC w1 q k top cg cc sg sc B mb := HP.out.eb ((EB.ofEx hx1 (Nat.le_trans (Nat.le_trans htu (Nat.le_of_lt hul)) hle)).mono (Nat.le_refl _) (fun x hx hlt => by simp at hx; omega))
  have hcl : ∀ j, j < 11 → w1.cell? ⟨ng, j, none⟩ = (thr k)[j]? := fun j hj => (hx1.cell.1 ng j hngl (by simp; omega)).trans (HNC.out j (by omega))
  have j0 := hcl 0 (by omega); have j1 := hcl 1 (by omega); have j2 := hcl 2 (by omega); have j3 := hcl 3 (by omega); have j4 := hcl 4 (by omega); have j5 := hcl 5 (by omega)
  have j6 := hcl 6 (by omega); have j7 := hcl 7 (by omega); have j8 := hcl 8 (by omega); have j9 := hcl 9 (by omega); have j10 := hcl 10 (by omega)
  simp [thr] at j0 j1 j2 j3 j4 j5 j6 j7 j8 j9 j10
  have hcode : ∀ o, o < 7 → w1.cell? ⟨cg, k * 7 + o, none⟩ = (insOf 6 0 0 false)[o]? := fun o _ => (hp1.code _ (by omega)).trans (progL_accept k o)
  have c0 := hcode 0 (by omega); have c1 := hcode 1 (by omega); have c2 := hcode 2 (by omega); have c3 := hcode 3 (by omega); have c4 := hcode 4 (by omega); have c5 := hcode 5 (by omega); have c6 := hcode 6 (by omega)
  simp [insOf] at c0 c1 c2 c3 c4 c5 c6
  have hk' : (k : Int) < (k : Int) + 1 := by omega
  have HX1 := hide hx1
  have HU1 := hide hu1
  have HP1 := hide hp1
  have hul1 := hu1.lt
  have hz1 := hx1.size
  have hqt := hp1.qt
  have hcgt := hp1.cgt
  have hq1 : q < w1.heap.size := by omega
  have hcg1 : cg < w1.heap.size := by omega
  clear hcu hfu
  obtain ⟨hcu, hfu⟩ := hu1.all
  obtain ⟨hcq, hfq⟩ := hp1.blk.all
  clear hw1 hcl hcode hx1 hu1 hp1 hnfz
  refine wp_loop_rounds 2 ?_
  rw [rounds_succ]
  go_wp2_with fail
  go_region
  generalize hw2 : World.drew _ = w2
  have hx2 : Ex [] w1 w2 := by rw [← hw2]; exact (((Ex.refl _ _).alloc _).alloc _).drew
  have hi2 : BK w2 (w1.heap.size + 1) (.cells #[.int .i64 6, .int .u64 0, .int .u64 0, .bool false, .int .i64 0, .int .i64 0, .int .i64 0] 98 (0, 0)) := by
    have h1 := BK.new (w1.alloc (Obj.cells #[.int .i64 k, .int .i64 (-1), .int .i64 (-1), .int .i64 (-1), .int .i64 (-1), .int .i64 (-1), .int .i64 (-1), .int .i64 (-1), .int .i64 (-1), .int .i64 (-1), .int .i64 (-1)] 113)) (Obj.cells #[.int .i64 6, .int .u64 0, .int .u64 0, .bool false, .int .i64 0, .int .i64 0, .int .i64 0] 98)
    simp only [World.size_alloc] at h1
    rw [← hw2]; exact h1.drew
  have hu2 := HU1.out.ex hx2 (by simp)
  have HX2 := hide hx2
  have hz2 := hx2.size
  clear hw2 hcu hfu hcq hfq j0 j1 j2 j3 j4 j5 j6 j7 j8 j9 j10 c0 c1 c2 c3 c4 c5 c6
  obtain ⟨hci, hfi⟩ := hi2.all
  obtain ⟨hcu, hfu⟩ := hu2.all
  clear hi2 hx2 hu2
  go_wp2_with fail
  rw [rounds_succ]
  go_wp2_with fail
  go_ret
  refine ⟨by simp, ?_⟩
  have e1 : EB top [] w w2 := ((EB.ofEx HX1.out (by omega)).mono (Nat.le_refl _) (fun x hx hlt => by simp at hx; omega)).trans (EB.ofEx HX2.out (by omega))
  exact e1.setCell (Or.inr (by simpa using htu)) _
end Go.Proofs.YtmeffeigamaipaaDoor
