/- Contracts of the ways behind each instruction, at a program of dots. -/
import Derived.Test.YtmeffeigamaipaaDoorW9
set_option linter.unusedVariables false
set_option linter.unusedSimpArgs false
namespace Go.Proofs.YtmeffeigamaipaaDoor
open Go.RowKit

theorem info78 : (Tryd.prog.info? 67).map (fun i => (i.zero, i.size, i.bytes)) = some (some (.slice none 0 0), 1, 24) := by kernel_rfl

/-- The ways behind the first j instructions, in block B. -/
structure BH (w : World) (B base m j : Nat) : Prop where
  lt : B < base
  ex : ∃ cs : Array Value, BK w B (.cells cs 67 (0, 0)) ∧ cs.size = m + 1 ∧ ∀ i, i < j → i < m → ∃ v, cs[i]? = some v ∧ w.ownsRow base 110 2 v 1 [.int .i64 ((i + 1 : Nat) : Int), .int .u64 0]

theorem BH.ex' {w w' : World} {B base m j : Nat} (h : BH w B base m j) {l : List Nat} (hx : Ex l w w') (hl : ∀ x, x ∈ l → x < base) (hB : B ∉ l) : BH w' B base m j := by
  obtain ⟨cs, hb, hs, hv⟩ := h.ex
  exact ⟨h.lt, cs, hb.ex hx hB, hs, fun i hi hm => by obtain ⟨v, h1, h2⟩ := hv i hi hm; exact ⟨v, h1, own_ex h2 hx hl⟩⟩

theorem BH.next {w : World} {B base m j : Nat} (h : BH w B base m j) (hj : j < m) {v : Value} (hv : w.ownsRow base 110 2 v 1 [.int .i64 ((j + 1 : Nat) : Int), .int .u64 0]) : BH (w.setCell ⟨B, j, none⟩ v) B base m (j + 1) := by
  obtain ⟨cs, hb, hs, hw⟩ := h.ex
  refine ⟨h.lt, _, hb.self j v, by simp [hs], fun i hi hm => ?_⟩
  by_cases e : i = j
  · subst e
    exact ⟨v, by rw [Array.getElem?_setIfInBounds_self_of_lt (by omega)], own_set hv h.lt _⟩
  · obtain ⟨u, h1, h2⟩ := hw i (by omega) hm
    exact ⟨u, by rw [Array.getElem?_setIfInBounds_ne (by omega)]; exact h1, own_set h2 h.lt _⟩

set_option maxHeartbeats 1000000 in
set_option maxRecDepth 100000 in
theorem waysBehind_dot (cv : Value) (m base : Nat) (w : World) (hown : w.ownsRow base 98 7 cv (m + 1) (progL m)) (hm : m ≤ 60) :
    Calls Tryd.prog 21 #[cv] w fun e w' => e = .returned (.slice (some ⟨w.heap.size, 0, none⟩) (m + 1) (m + 1)) ∧ BH w' w.heap.size (w.heap.size + 1) m m ∧ Ex [] w w' := by
  obtain ⟨i0, hi, hz0, hz1, hz2⟩ := info_parts info78
  have HO := hide hown
  obtain ⟨cg, cc, rfl, hb, hlt, hnc, hcells, _⟩ := own_cells hown (by omega)
  clear hown hcells
  go_enter Tryd.func21, Tryd.ntmps21
  go_wp2_with (at_make; refine wpList_make_full _ rfl _ _ 71 rfl w.heap.size 67 i0 (.slice none 0 0) 1 Tryd.underlying71 hi hz0 hz1 .i64 .i64 _ _ (m + 1) rfl rfl (by simp) (by simp) (by rw [hz2]; omega) (by unfold maxLen; omega) (Nat.le_refl _) ?_)
  intro w1 hown1 hg1
  have hx1 : Ex [] w w1 := (Ex.refl _ _).grown hg1 (by simp)
  have hbh : BH w1 w.heap.size (w.heap.size + 1) m 0 := by
    rcases hown1.2 with ⟨hv, _⟩ | ⟨g', cap', cur, hv, hb', hgg, h1, h2, h3, h4⟩
    · cases hv
    · cases hv
      exact ⟨by omega, cur, hgg, by omega, fun i hi => by omega⟩
  have hl1 : w.heap.size < w1.heap.size := by obtain ⟨cs, hb, _⟩ := hbh.ex; exact hb.lt
  have HX1 := hide hx1
  have HBH := hide hbh
  clear hx1 hbh hown1 hg1
  go_wp2_with fail
  go_loopg [11] (m + 1) (fun gk i wr => ∃ j : Nat, j + gk = m + 1 ∧ i = .int .i64 j ∧ BH wr w.heap.size (w.heap.size + 1) m j ∧ Ex [] w wr ∧ w.heap.size < wr.heap.size)
  case atStart => exact ⟨0, by omega, rfl, HBH.out, HX1.out, hl1⟩
  case round =>
    obtain ⟨j, hj, rfl, hbh, hx, hlr⟩ := hrel
    have HX := hide hx
    have HB := hide hbh
    cases gk with
    | zero =>
      obtain rfl : j = m + 1 := by omega
      clear hx hj hbh
      go_wp2_with fail
      go_ret
      exact ⟨rfl, ⟨HB.out.lt, by obtain ⟨cs, h1, h2, h3⟩ := HB.out.ex; exact ⟨cs, h1, h2, fun i hi hm => h3 i (by omega) hm⟩⟩, HX.out⟩
    | succ g =>
      have hj' : ((j : Int) < ((m : Int) + 1)) := by omega
      have hce : ∀ o, o < 7 → wr.cell? ⟨cg, j * 7 + o, none⟩ = (progL m)[j * 7 + o]? := by
        intro o ho
        obtain ⟨g1, c1, hv, _, _, _, hcells, _⟩ := own_cells (own_ex HO.out hx (by simp)) (by omega)
        simp only [Value.slice.injEq, Option.some.injEq, Addr.mk.injEq, and_true, true_and] at hv
        obtain ⟨rfl, rfl⟩ := hv
        exact hcells _ (by omega)
      by_cases hjm : j < m
      · have k0 := (hce 0 (by omega)).trans (progL_take m j 0 hjm (by omega)); have k1 := (hce 1 (by omega)).trans (progL_take m j 1 hjm (by omega))
        have k2 := (hce 2 (by omega)).trans (progL_take m j 2 hjm (by omega)); have k3 := (hce 3 (by omega)).trans (progL_take m j 3 hjm (by omega))
        have k4 := (hce 4 (by omega)).trans (progL_take m j 4 hjm (by omega)); have k5 := (hce 5 (by omega)).trans (progL_take m j 5 hjm (by omega))
        have k6 := (hce 6 (by omega)).trans (progL_take m j 6 hjm (by omega))
        simp [insOf] at k0 k1 k2 k3 k4 k5 k6
        clear hce hx hbh
        go_wp2_with fail
        rw [show ((j : Int) + 1) = ((j + 1 : Nat) : Int) from by omega]
        refine (waysFrom_dot _ m (j + 1) base 1 _ (own_ex HO.out (HX.out.alloc _) (by simp)) (by omega) hm).mono ?_
        rintro e w2 ⟨v, rfl, ho2, hx2⟩
        obtain ⟨p2, c2, rfl⟩ := own_slice ho2
        have hx3 : Ex [] wr w2 := ((Ex.refl _ _).alloc _).trans hx2
        have hB2 := HB.out.ex' hx3 (by simp) (by simp)
        obtain ⟨cs, hbk, hcs, _⟩ := hB2.ex
        obtain ⟨hcB, hfB⟩ := hbk.all
        have kj : w2.cell? ⟨w.heap.size, j, none⟩ = some (cs[j]'(by omega)) := by rw [hcB, Array.getElem?_eq_getElem (by omega)]
        have kf := hfB j
        have HO2 := hide (own_base ho2 (show w.heap.size + 1 ≤ _ by simp; omega))
        have HX3 := hide hx3
        have HB2 := hide hB2
        clear k0 k1 k2 k3 k4 k5 k6 hcB hfB hx2 hx3 hB2 ho2 hbk
        go_wp2_with fail
        go_roundg g
        case measure => omega
        case rel =>
          refine ⟨j + 1, by omega, by simp, HB2.out.next hjm HO2.out, ?_, ?_⟩
          · exact (HX.out.trans HX3.out).setCell (Or.inr (by simp)) _
          · have := HX3.out.size; simp; omega
      · obtain rfl : j = m := by omega
        have k0 := (hce 0 (by omega)).trans (progL_accept j 0); have k1 := (hce 1 (by omega)).trans (progL_accept j 1)
        have k2 := (hce 2 (by omega)).trans (progL_accept j 2); have k3 := (hce 3 (by omega)).trans (progL_accept j 3)
        have k4 := (hce 4 (by omega)).trans (progL_accept j 4); have k5 := (hce 5 (by omega)).trans (progL_accept j 5)
        have k6 := (hce 6 (by omega)).trans (progL_accept j 6)
        simp [insOf] at k0 k1 k2 k3 k4 k5 k6
        clear hce hx hbh hjm
        go_wp2_with fail
        go_roundg g
        case measure => omega
        case rel =>
          refine ⟨j + 1, by omega, by simp, ?_, HX.out.alloc _, by simp; omega⟩
          obtain ⟨cs, h1, h2, h3⟩ := (HB.out.ex' ((Ex.refl [] _).alloc _) (by simp) (by simp)).ex
          exact ⟨HB.out.lt, cs, h1, h2, fun i hi hm => h3 i (by omega) hm⟩
end Go.Proofs.YtmeffeigamaipaaDoor
