/- The contract of regex.Read at a text of dots. -/
import Derived.Test.YtmeffeigamaipaaDoorW10
import Derived.Deep.RegionHeld3
set_option linter.unusedVariables false
set_option linter.unusedSimpArgs false
namespace Go.Proofs.YtmeffeigamaipaaDoor
open Go.RowKit

/-- What was made of m dots: block q. -/
structure PT (w : World) (q base m : Nat) : Prop where
  le : base ≤ w.heap.size
  ql : base ≤ q
  ex : ∃ cv sv B mb, BK w q (.cells #[cv, sv, .slice (some ⟨B, 0, none⟩) (m + 1) (m + 1), .int .i64 0, .map (some mb)] 74 (0, 0)) ∧ w.ownsRow base 98 7 cv (m + 1) (progL m) ∧ w.ownsRow base 110 2 sv 1 [.int .i64 0, .int .u64 0] ∧ BH w B (B + 1) m m ∧ base ≤ B

theorem RD.bk {w : World} {r : Nat} {t : ByteArray} {k : Nat} {mv : Value} (h : RD w r t k mv) : BK w r (.cells #[.string t, .int .i64 k, .int .i64 0, .bool false, .int .i64 0, mv] 63 (0, 0)) := h

set_option maxHeartbeats 2000000 in
set_option maxRecDepth 100000 in
theorem Read_dot (t : ByteArray) (w : World) (hd : DT t) (ht : t.size ≤ 60) :
    Calls Tryd.prog 14 #[.string t] w fun e w' => ∃ q, e = .returned (.tuple #[.pointer (some ⟨q, 0, none⟩), .int .i64 0, .bool true]) ∧ PT w' q w.heap.size t.size ∧ Ex [] w w' := by
  have HD := hide hd
  clear hd
  have hts : ¬ ((t.size : Int) > 60) := by omega
  go_enter Tryd.func14, Tryd.ntmps14
  go_wp2_with fail
  refine (readForm_dot t _ HD.out ht).mono ?_
  rintro e w1 ⟨r, g, v, mb, rfl, hrl, hgl, hbk, hown, hrd, hx1⟩
  obtain ⟨p, c, rfl⟩ := own_slice hown
  have HB := hide hbk
  have HO := hide hown
  have HR := hide hrd
  have HX := hide hx1
  have hrlt := hrd.lt
  have hz1 := hx1.size
  clear hbk hown hrd hx1
  unfold partOf
  go_wp2_with fail
  refine (weight_choice _ t.size w.heap.size g _ (HO.out.alloc _) ht (by simp; omega) (HB.out.alloc _)).mono ?_
  rintro e w2 ⟨rfl, hx2⟩
  have hx12 : Ex [] w1 w2 := ((Ex.refl _ _).alloc _).trans hx2
  have hA := BK.ex (BK.new w1 (Obj.cells #[.int .i64 2, .slice (some ⟨g, 0, none⟩) 1 1, .int .u64 0, .int .u64 0, .bool false, .int .i64 0, .int .i64 0, .int .i64 0, .bool false] 59)) hx2 (by simp)
  obtain ⟨hcA, hfA⟩ := hA.all
  have HX12 := hide hx12
  have hz2 := hx12.size
  clear hx2 hx12 hA
  go_wp2_with fail
  refine (programOf_dot _ t.size w.heap.size g ht (own_ex HO.out HX12.out (by simp)) (HB.out.ex HX12.out (by simp))).mono ?_
  rintro e w3 ⟨cv, rfl, ho3, hx3⟩
  have hz3 := hx3.size
  have HX13 := hide (HX12.out.trans hx3)
  have HO3 := hide (own_base ho3 (show w.heap.size ≤ _ by omega))
  have hr3 := (HR.out.ex HX13.out (by simp)).bk
  obtain ⟨hcR, hfR⟩ := hr3.all
  have k4 := hcR 4
  have k5 := hcR 5
  simp at k4 k5
  have hrl3 := hr3.lt
  have HR3 := hide hr3
  clear hcA hfA ho3 hx3 hcR hfR hr3
  obtain ⟨pc, cc, rfl⟩ := own_slice HO3.out
  go_wp2_with fail
  go_region_held3 (fun w' => w'.cell? ⟨r, 4, none⟩ = some (.int .i64 0) ∧ w'.cell? ⟨r, 5, none⟩ = some (.map (some mb))) (simp [*, go_sem])
    (first
      | (go_at_call 20; refine (waysFrom_dot _ t.size 0 w.heap.size 0 _ (own_drewN HO3.out 1) (by omega) ht).mono ?_; rintro e w4 ⟨sv, rfl, ho4, hx4⟩; obtain ⟨ps, cps, rfl⟩ := own_slice ho4; have e4 := hx4.cell0.1 r 4 hrl3; have e5 := hx4.cell0.1 r 5 hrl3)
      | (go_at_call 21; refine (waysBehind_dot _ t.size w.heap.size _ (own_ex (own_drewN HO3.out 1) hx4 (by simp)) ht).mono ?_; rintro e w5 ⟨rfl, hb5, hx5⟩; have f4 := hx5.cell0.1 r 4 (Nat.lt_of_lt_of_le hrl3 hx4.size); have f5 := hx5.cell0.1 r 5 (Nat.lt_of_lt_of_le hrl3 hx4.size); have hr5 : r < w5.heap.size := Nat.lt_of_lt_of_le (Nat.lt_of_lt_of_le hrl3 hx4.size) hx5.size))
  have HX4 := hide hx4
  have HX5 := hide hx5
  have HO4 := hide ho4
  have HB5 := hide hb5
  have hz4 : w3.heap.size ≤ w4.heap.size := hx4.size
  have hz5 := hx5.size
  clear hx4 hx5 ho4 hb5 k4 k5
  go_wp2_with fail
  go_ret3
  have hx35 : Ex [] w3 w5 := ((Ex.refl [] w3).drewN 1).trans (HX4.out.trans HX5.out)
  refine ⟨w5.heap.size, rfl, ⟨by simp; omega, by omega, _, _, w4.heap.size, mb, BK.new _ _, ?_, ?_, ?_, by omega⟩, ?_⟩
  · exact (own_ex HO3.out hx35 (by simp)).alloc _
  · have h1 := own_base HO4.out (show w.heap.size ≤ _ from (by show w.heap.size ≤ w3.heap.size; omega))
    exact (own_ex h1 HX5.out (by simp)).alloc _
  · exact HB5.out.ex' ((Ex.refl [] _).alloc _) (by simp) (by simp)
  · exact (HX.out.trans (HX13.out.trans hx35)).alloc _
end Go.Proofs.YtmeffeigamaipaaDoor
