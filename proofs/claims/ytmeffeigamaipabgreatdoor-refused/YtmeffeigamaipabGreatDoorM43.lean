/- W10 W11 Q7, one behind the other. -/
import Derived.Test.YtmeffeigamaipabGreatDoorM42
import Derived.Deep.RegionHeld3
import Derived.Test.YtmeffeigamaipabGreatDoorM41
set_option linter.unusedVariables false
set_option linter.unusedSimpArgs false
/- Contracts of the ways behind each instruction, at a program of dots. -/
namespace Go.Proofs.YtmeffeigamaipabGreatDoor.Rx
open Go.RowKit

theorem info78 : (Tryz.prog.info? 150).map (fun i => (i.zero, i.size, i.bytes)) = some (some (.slice none 0 0), 1, 24) := by kernel_rfl

/-- The ways behind the first j instructions, in block B. -/
structure BH (w : World) (B base m j : Nat) : Prop where
  lt : B < base
  ex : ∃ cs : Array Value, BK w B (.cells cs 150 (0, 0)) ∧ cs.size = m + 1 ∧ ∀ i, i < j → i < m → ∃ v, cs[i]? = some v ∧ w.ownsRow base 206 2 v 1 [.int .i64 ((i + 1 : Nat) : Int), .int .u64 0]

theorem BH.ex' {w w' : World} {B base m j : Nat} (h : BH w B base m j) {l : List Nat} (hx : Ex l w w') (hl : ∀ x, x ∈ l → x < base) (hB : B ∉ l) : BH w' B base m j := by
  obtain ⟨cs, hb, hs, hv⟩ := h.ex
  exact ⟨h.lt, cs, hb.ex hx hB, hs, fun i hi hm => by obtain ⟨v, h1, h2⟩ := hv i hi hm; exact ⟨v, h1, own_ex h2 hx hl⟩⟩

theorem BH.next {w : World} {B base m j : Nat} (h : BH w B base m j) (hj : j < m) {v : Value} (hv : w.ownsRow base 206 2 v 1 [.int .i64 ((j + 1 : Nat) : Int), .int .u64 0]) : BH (w.setCell ⟨B, j, none⟩ v) B base m (j + 1) := by
  obtain ⟨cs, hb, hs, hw⟩ := h.ex
  refine ⟨h.lt, _, hb.self j v, by simp [hs], fun i hi hm => ?_⟩
  by_cases e : i = j
  · subst e
    exact ⟨v, by rw [Array.getElem?_setIfInBounds_self_of_lt (by omega)], own_set hv h.lt _⟩
  · obtain ⟨u, h1, h2⟩ := hw i (by omega) hm
    exact ⟨u, by rw [Array.getElem?_setIfInBounds_ne (by omega)]; exact h1, own_set h2 h.lt _⟩

set_option maxHeartbeats 1000000 in
set_option maxRecDepth 100000 in
theorem waysBehind_dot (cv : Value) (m base : Nat) (w : World) (hown : w.ownsRow base 194 7 cv (m + 1) (progL m)) (hm : m ≤ 60) :
    Calls Tryz.prog 84 #[cv] w fun e w' => e = .returned (.slice (some ⟨w.heap.size, 0, none⟩) (m + 1) (m + 1)) ∧ BH w' w.heap.size (w.heap.size + 1) m m ∧ Ex [] w w' := by
  obtain ⟨i0, hi, hz0, hz1, hz2⟩ := info_parts info78
  have HO := hide hown
  obtain ⟨cg, cc, rfl, hb, hlt, hnc, hcells, _⟩ := own_cells hown (by omega)
  clear hown hcells
  go_enter Tryz.func84, Tryz.ntmps84
  go_wp2_with (at_make; refine wpList_make_full _ rfl _ _ 154 rfl w.heap.size 150 i0 (.slice none 0 0) 1 Tryz.underlying154 hi hz0 hz1 .i64 .i64 _ _ (m + 1) rfl rfl (by simp) (by simp) (by rw [hz2]; omega) (by unfold maxLen; omega) (Nat.le_refl _) ?_)
  intro w1 hown1 hg1
  have hx1 : Ex [] w w1 := (Ex.refl _ _).grown hg1 (by simp)
  have hbh : BH w1 w.heap.size (w.heap.size + 1) m 0 := by
    rcases hown1.2 with ⟨hv, _⟩ | ⟨g', cap', cur, hv, hb', hgg, h1, h2, h3, h4⟩
    · cases hv
    · cases hv
      exact ⟨by omega, cur, hgg, by omega, fun i hi => by omega⟩
  have hl1 : w.heap.size < w1.heap.size := by obtain ⟨cs, hb, _⟩ := hbh.ex; exact hb.lt
  have HX1 := hide hx1
  have HBH := hide hbh
  clear hx1 hbh hown1 hg1
  go_wp2_with fail
  go_loopg [11] (m + 1) (fun gk i wr => ∃ j : Nat, j + gk = m + 1 ∧ i = .int .i64 j ∧ BH wr w.heap.size (w.heap.size + 1) m j ∧ Ex [] w wr ∧ w.heap.size < wr.heap.size)
  case atStart => exact ⟨0, by omega, rfl, HBH.out, HX1.out, hl1⟩
  case round =>
    obtain ⟨j, hj, rfl, hbh, hx, hlr⟩ := hrel
    have HX := hide hx
    have HB := hide hbh
    cases gk with
    | zero =>
      obtain rfl : j = m + 1 := by omega
      clear hx hj hbh
      go_wp2_with fail
      go_ret
      exact ⟨rfl, ⟨HB.out.lt, by obtain ⟨cs, h1, h2, h3⟩ := HB.out.ex; exact ⟨cs, h1, h2, fun i hi hm => h3 i (by omega) hm⟩⟩, HX.out⟩
    | succ g =>
      have hj' : ((j : Int) < ((m : Int) + 1)) := by omega
      have hce : ∀ o, o < 7 → wr.cell? ⟨cg, j * 7 + o, none⟩ = (progL m)[j * 7 + o]? := by
        intro o ho
        obtain ⟨g1, c1, hv, _, _, _, hcells, _⟩ := own_cells (own_ex HO.out hx (by simp)) (by omega)
        simp only [Value.slice.injEq, Option.some.injEq, Addr.mk.injEq, and_true, true_and] at hv
        obtain ⟨rfl, rfl⟩ := hv
        exact hcells _ (by omega)
      by_cases hjm : j < m
      · have k0 := (hce 0 (by omega)).trans (progL_take m j 0 hjm (by omega)); have k1 := (hce 1 (by omega)).trans (progL_take m j 1 hjm (by omega))
        have k2 := (hce 2 (by omega)).trans (progL_take m j 2 hjm (by omega)); have k3 := (hce 3 (by omega)).trans (progL_take m j 3 hjm (by omega))
        have k4 := (hce 4 (by omega)).trans (progL_take m j 4 hjm (by omega)); have k5 := (hce 5 (by omega)).trans (progL_take m j 5 hjm (by omega))
        have k6 := (hce 6 (by omega)).trans (progL_take m j 6 hjm (by omega))
        simp only [insOf, List.getElem?_cons_zero, List.getElem?_cons_succ, Nat.add_zero] at k0 k1 k2 k3 k4 k5 k6
        clear hce hx hbh
        go_wp2_with fail
        rw [show ((j : Int) + 1) = ((j + 1 : Nat) : Int) from by omega]
        refine (waysFrom_dot _ m (j + 1) base 1 _ (own_ex HO.out (HX.out.alloc _) (by simp)) (by omega) hm).mono ?_
        rintro e w2 ⟨v, rfl, ho2, hx2⟩
        obtain ⟨p2, c2, rfl⟩ := own_slice ho2
        have hx3 : Ex [] wr w2 := ((Ex.refl _ _).alloc _).trans hx2
        have hB2 := HB.out.ex' hx3 (by simp) (by simp)
        obtain ⟨cs, hbk, hcs, _⟩ := hB2.ex
        obtain ⟨hcB, hfB⟩ := hbk.all
        have kj : w2.cell? ⟨w.heap.size, j, none⟩ = some (cs[j]'(by omega)) := by rw [hcB, Array.getElem?_eq_getElem (by omega)]
        have kf := hfB j
        have HO2 := hide (own_base ho2 (show w.heap.size + 1 ≤ _ by simp; omega))
        have HX3 := hide hx3
        have HB2 := hide hB2
        clear k0 k1 k2 k3 k4 k5 k6 hcB hfB hx2 hx3 hB2 ho2 hbk
        go_wp2_with fail
        go_roundg g
        case measure => omega
        case rel =>
          refine ⟨j + 1, by omega, by simp, HB2.out.next hjm HO2.out, ?_, ?_⟩
          · exact (HX.out.trans HX3.out).setCell (Or.inr (by simp)) _
          · have := HX3.out.size; simp; omega
      · obtain rfl : j = m := by omega
        have k0 := (hce 0 (by omega)).trans (progL_accept j 0); have k1 := (hce 1 (by omega)).trans (progL_accept j 1)
        have k2 := (hce 2 (by omega)).trans (progL_accept j 2); have k3 := (hce 3 (by omega)).trans (progL_accept j 3)
        have k4 := (hce 4 (by omega)).trans (progL_accept j 4); have k5 := (hce 5 (by omega)).trans (progL_accept j 5)
        have k6 := (hce 6 (by omega)).trans (progL_accept j 6)
        simp only [insOf, List.getElem?_cons_zero, List.getElem?_cons_succ, Nat.add_zero] at k0 k1 k2 k3 k4 k5 k6
        clear hce hx hbh hjm
        go_wp2_with fail
        go_roundg g
        case measure => omega
        case rel =>
          refine ⟨j + 1, by omega, by simp, ?_, HX.out.alloc _, by simp; omega⟩
          obtain ⟨cs, h1, h2, h3⟩ := (HB.out.ex' ((Ex.refl [] _).alloc _) (by simp) (by simp)).ex
          exact ⟨HB.out.lt, cs, h1, h2, fun i hi hm => h3 i (by omega) hm⟩
end Go.Proofs.YtmeffeigamaipabGreatDoor.Rx

/- The contract of regex.Read at a text of dots. -/
namespace Go.Proofs.YtmeffeigamaipabGreatDoor.Rx
open Go.RowKit

/-- What was made of m dots: block q. -/
structure PT (w : World) (q base m : Nat) : Prop where
  le : base ≤ w.heap.size
  ql : base ≤ q
  ex : ∃ cv sv B mb, BK w q (.cells #[cv, sv, .slice (some ⟨B, 0, none⟩) (m + 1) (m + 1), .int .i64 0, .map (some mb)] 157 (0, 0)) ∧ w.ownsRow base 194 7 cv (m + 1) (progL m) ∧ w.ownsRow base 206 2 sv 1 [.int .i64 0, .int .u64 0] ∧ BH w B (B + 1) m m ∧ base ≤ B

theorem RD.bk {w : World} {r : Nat} {t : ByteArray} {k : Nat} {mv : Value} (h : RD w r t k mv) : BK w r (.cells #[.string t, .int .i64 k, .int .i64 0, .bool false, .int .i64 0, mv] 147 (0, 0)) := h

set_option maxHeartbeats 2000000 in
set_option maxRecDepth 100000 in
theorem Read_dot (t : ByteArray) (w : World) (hd : DT t) (ht : t.size ≤ 60) :
    Calls Tryz.prog 56 #[.string t] w fun e w' => ∃ q, e = .returned (.tuple #[.pointer (some ⟨q, 0, none⟩), .int .i64 0, .bool true]) ∧ PT w' q w.heap.size t.size ∧ Ex [] w w' := by
  have HD := hide hd
  clear hd
  have hts : ¬ ((t.size : Int) > 60) := by omega
  go_enter Tryz.func56, Tryz.ntmps56
  go_wp2_with fail
  refine (readForm_dot t _ HD.out ht).mono ?_
  rintro e w1 ⟨r, g, v, mb, rfl, hrl, hgl, hbk, hown, hrd, hx1⟩
  obtain ⟨p, c, rfl⟩ := own_slice hown
  have HB := hide hbk
  have HO := hide hown
  have HR := hide hrd
  have HX := hide hx1
  have hrlt := hrd.lt
  have hz1 := hx1.size
  clear hbk hown hrd hx1
  unfold partOf
  go_wp2_with fail
  refine (weight_choice _ t.size w.heap.size g _ (HO.out.alloc _) ht (by simp; omega) (HB.out.alloc _)).mono ?_
  rintro e w2 ⟨rfl, hx2⟩
  have hx12 : Ex [] w1 w2 := ((Ex.refl _ _).alloc _).trans hx2
  have hA := BK.ex (BK.new w1 (Obj.cells #[.int .i64 2, .slice (some ⟨g, 0, none⟩) 1 1, .int .u64 0, .int .u64 0, .bool false, .int .i64 0, .int .i64 0, .int .i64 0, .bool false] 143)) hx2 (by simp)
  obtain ⟨hcA, hfA⟩ := hA.all
  have HX12 := hide hx12
  have hz2 := hx12.size
  clear hx2 hx12 hA
  go_wp2_with fail
  refine (programOf_dot _ t.size w.heap.size g ht (own_ex HO.out HX12.out (by simp)) (HB.out.ex HX12.out (by simp))).mono ?_
  rintro e w3 ⟨cv, rfl, ho3, hx3⟩
  have hz3 := hx3.size
  have HX13 := hide (HX12.out.trans hx3)
  have HO3 := hide (own_base ho3 (show w.heap.size ≤ _ by omega))
  have hr3 := (HR.out.ex HX13.out (by simp)).bk
  obtain ⟨hcR, hfR⟩ := hr3.all
  have k4 := hcR 4
  have k5 := hcR 5
  simp at k4 k5
  have hrl3 := hr3.lt
  have HR3 := hide hr3
  clear hcA hfA ho3 hx3 hcR hfR hr3
  obtain ⟨pc, cc, rfl⟩ := own_slice HO3.out
  go_wp2_with fail
  go_region_held3 (fun w' => w'.cell? ⟨r, 4, none⟩ = some (.int .i64 0) ∧ w'.cell? ⟨r, 5, none⟩ = some (.map (some mb))) (simp [*, go_sem])
    (first
      | (go_at_call 83; refine (waysFrom_dot _ t.size 0 w.heap.size 0 _ (own_drewN HO3.out 1) (by omega) ht).mono ?_; rintro e w4 ⟨sv, rfl, ho4, hx4⟩; obtain ⟨ps, cps, rfl⟩ := own_slice ho4; have e4 := hx4.cell0.1 r 4 hrl3; have e5 := hx4.cell0.1 r 5 hrl3)
      | (go_at_call 84; refine (waysBehind_dot _ t.size w.heap.size _ (own_ex (own_drewN HO3.out 1) hx4 (by simp)) ht).mono ?_; rintro e w5 ⟨rfl, hb5, hx5⟩; have f4 := hx5.cell0.1 r 4 (Nat.lt_of_lt_of_le hrl3 hx4.size); have f5 := hx5.cell0.1 r 5 (Nat.lt_of_lt_of_le hrl3 hx4.size); have hr5 : r < w5.heap.size := Nat.lt_of_lt_of_le (Nat.lt_of_lt_of_le hrl3 hx4.size) hx5.size))
  have HX4 := hide hx4
  have HX5 := hide hx5
  have HO4 := hide ho4
  have HB5 := hide hb5
  have hz4 : w3.heap.size ≤ w4.heap.size := hx4.size
  have hz5 := hx5.size
  clear hx4 hx5 ho4 hb5 k4 k5
  go_wp2_with fail
  go_ret3
  have hx35 : Ex [] w3 w5 := ((Ex.refl [] w3).drewN 1).trans (HX4.out.trans HX5.out)
  refine ⟨w5.heap.size, rfl, ⟨by simp; omega, by omega, _, _, w4.heap.size, mb, BK.new _ _, ?_, ?_, ?_, by omega⟩, ?_⟩
  · exact (own_ex HO3.out hx35 (by simp)).alloc _
  · have h1 := own_base HO4.out (show w.heap.size ≤ _ from (by show w.heap.size ≤ w3.heap.size; omega))
    exact (own_ex h1 HX5.out (by simp)).alloc _
  · exact HB5.out.ex' ((Ex.refl [] _).alloc _) (by simp) (by simp)
  · exact (HX.out.trans (HX13.out.trans hx35)).alloc _
end Go.Proofs.YtmeffeigamaipabGreatDoor.Rx

/- Contracts of the ways between instructions and of regex.Read, at a row of single runes. -/
namespace Go.Proofs.YtmeffeigamaipabGreatDoor.Rx.Q
open Go.RowKit

set_option maxHeartbeats 1000000 in
set_option maxRecDepth 100000 in
theorem waysFrom_cls (cs : List Cls) (cv : Value) (m k base : Nat) (mo : Int) (w : World) (hcm : cs.length = m) (hown : w.ownsRow base 194 7 cv (m + 1) (progC cs)) (hk : k ≤ m) (hm : m ≤ 60) :
    Calls Tryz.prog 83 #[cv, .agg #[.int .i64 k, .int .i64 mo]] w fun e w' => ∃ v, e = .returned v ∧ w'.ownsRow w.heap.size 206 2 v 1 [.int .i64 k, .int .u64 0] ∧ Ex [] w w' := by
  have hmm := @run_makeMap Tryz.prog
  obtain ⟨cg, cc, rfl, hb, hlt, hnc, hcells, _⟩ := own_cells hown (by omega)
  have HC := hide hcells
  clear hown hcells
  go_enter Tryz.func83, Tryz.ntmps83
  go_wp2_with fail
  have hq : BK (((w.alloc (Obj.cells #[.int .i64 k, .int .i64 mo] 153)).alloc (Obj.map #[] 0)).alloc (Obj.cells #[.slice (some ⟨cg, 0, none⟩) (m + 1) cc, .map (some (w.heap.size + 1)), .slice none 0 0] 198)) (w.heap.size + 1 + 1) (.cells #[.slice (some ⟨cg, 0, none⟩) (m + 1) cc, .map (some (w.heap.size + 1)), .slice none 0 0] 198 (0, 0)) := by
    have := BK.new ((w.alloc (Obj.cells #[.int .i64 k, .int .i64 mo] 153)).alloc (Obj.map #[] 0)) (Obj.cells #[.slice (some ⟨cg, 0, none⟩) (m + 1) cc, .map (some (w.heap.size + 1)), .slice none 0 0] 198)
    simpa using this
  have hmp : BK (((w.alloc (Obj.cells #[.int .i64 k, .int .i64 mo] 153)).alloc (Obj.map #[] 0)).alloc (Obj.cells #[.slice (some ⟨cg, 0, none⟩) (m + 1) cc, .map (some (w.heap.size + 1)), .slice none 0 0] 198)) (w.heap.size + 1) (.map #[] 0) := by
    have := (BK.new (w.alloc (Obj.cells #[.int .i64 k, .int .i64 mo] 153)) (Obj.map #[] 0)).alloc (Obj.cells #[.slice (some ⟨cg, 0, none⟩) (m + 1) cc, .map (some (w.heap.size + 1)), .slice none 0 0] 198)
    simpa using this
  have hce : ∀ o, o < 7 → (((w.alloc (Obj.cells #[.int .i64 k, .int .i64 mo] 153)).alloc (Obj.map #[] 0)).alloc (Obj.cells #[.slice (some ⟨cg, 0, none⟩) (m + 1) cc, .map (some (w.heap.size + 1)), .slice none 0 0] 198)).cell? ⟨cg, k * 7 + o, none⟩ = (progC cs)[k * 7 + o]? := by
    intro o ho
    have hx : Ex [] w (((w.alloc (Obj.cells #[.int .i64 k, .int .i64 mo] 153)).alloc (Obj.map #[] 0)).alloc (Obj.cells #[.slice (some ⟨cg, 0, none⟩) (m + 1) cc, .map (some (w.heap.size + 1)), .slice none 0 0] 198)) := (((Ex.refl _ _).alloc _).alloc _).alloc _
    rw [hx.cell.1 cg _ hlt (by simp)]
    exact HC.out _ (by omega)
  have key : Calls Tryz.prog 118 #[.pointer (some ⟨w.heap.size + 1 + 1, 0, none⟩), .agg #[.int .i64 k, .int .i64 mo], .int .u64 0] (((w.alloc (Obj.cells #[.int .i64 k, .int .i64 mo] 153)).alloc (Obj.map #[] 0)).alloc (Obj.cells #[.slice (some ⟨cg, 0, none⟩) (m + 1) cc, .map (some (w.heap.size + 1)), .slice none 0 0] 198)) fun e w' => e = .returned (.tuple #[]) ∧
      ∃ v, BK w' (w.heap.size + 1 + 1) (.cells #[.slice (some ⟨cg, 0, none⟩) (m + 1) cc, .map (some (w.heap.size + 1)), v] 198 (0, 0)) ∧ w'.ownsRow (w.heap.size + 1 + 1 + 1) 206 2 v 1 [.int .i64 k, .int .u64 0] ∧ Ex [w.heap.size + 1 + 1, w.heap.size + 1] (((w.alloc (Obj.cells #[.int .i64 k, .int .i64 mo] 153)).alloc (Obj.map #[] 0)).alloc (Obj.cells #[.slice (some ⟨cg, 0, none⟩) (m + 1) cc, .map (some (w.heap.size + 1)), .slice none 0 0] 198)) w' := by
    by_cases hkm : k < m
    · have := visit_take (w.heap.size + 1 + 1) (w.heap.size + 1) cg (m + 1) cc k mo (cs[k]'(by omega)).lo (cs[k]'(by omega)).hi (cs[k]'(by omega)).hg _ hq hmp (by simp) (by omega) (by omega) (by omega) (by omega) (by omega) (by simp; omega) (fun o ho => (hce o ho).trans (progC_take cs k o (by omega) ho))
      simpa using this
    · obtain rfl : k = m := by omega
      have := visit_accept (w.heap.size + 1 + 1) (w.heap.size + 1) cg (k + 1) cc k mo 0 0 false _ hq hmp (by simp) (by omega) (by omega) (by omega) (by omega) (by omega) (by simp; omega) (fun o ho => (hce o ho).trans (progC_accept cs k o hcm))
      simpa using this
  refine key.mono ?_
  rintro e w1 ⟨rfl, v, hq1, ho1, hx1⟩
  have HX1 := hide hx1
  have HO1 := hide ho1
  obtain ⟨hcq, hfq⟩ := hq1.all
  clear key hq hmp hce hx1 ho1 hq1
  go_wp2_with fail
  go_ret
  refine ⟨v, by simp, own_base HO1.out (by omega), ?_⟩
  refine Ex.drop (l := [w.heap.size + 1 + 1, w.heap.size + 1]) ?_ (by simp; omega)
  exact ((((Ex.refl _ _).alloc _).alloc _).alloc _).trans HX1.out
set_option maxHeartbeats 1000000 in
set_option maxRecDepth 100000 in
theorem waysBehind_cls (cs : List Cls) (cv : Value) (m base : Nat) (w : World) (hcm : cs.length = m) (hown : w.ownsRow base 194 7 cv (m + 1) (progC cs)) (hm : m ≤ 60) :
    Calls Tryz.prog 84 #[cv] w fun e w' => e = .returned (.slice (some ⟨w.heap.size, 0, none⟩) (m + 1) (m + 1)) ∧ BH w' w.heap.size (w.heap.size + 1) m m ∧ Ex [] w w' := by
  obtain ⟨i0, hi, hz0, hz1, hz2⟩ := info_parts info78
  have HO := hide hown
  obtain ⟨cg, cc, rfl, hb, hlt, hnc, hcells, _⟩ := own_cells hown (by omega)
  clear hown hcells
  go_enter Tryz.func84, Tryz.ntmps84
  go_wp2_with (at_make; refine wpList_make_full _ rfl _ _ 154 rfl w.heap.size 150 i0 (.slice none 0 0) 1 Tryz.underlying154 hi hz0 hz1 .i64 .i64 _ _ (m + 1) rfl rfl (by simp) (by simp) (by rw [hz2]; omega) (by unfold maxLen; omega) (Nat.le_refl _) ?_)
  intro w1 hown1 hg1
  have hx1 : Ex [] w w1 := (Ex.refl _ _).grown hg1 (by simp)
  have hbh : BH w1 w.heap.size (w.heap.size + 1) m 0 := by
    rcases hown1.2 with ⟨hv, _⟩ | ⟨g', cap', cur, hv, hb', hgg, h1, h2, h3, h4⟩
    · cases hv
    · cases hv
      exact ⟨by omega, cur, hgg, by omega, fun i hi => by omega⟩
  have hl1 : w.heap.size < w1.heap.size := by obtain ⟨ca, hb, _⟩ := hbh.ex; exact hb.lt
  have HX1 := hide hx1
  have HBH := hide hbh
  clear hx1 hbh hown1 hg1
  go_wp2_with fail
  go_loopg [11] (m + 1) (fun gk i wr => ∃ j : Nat, j + gk = m + 1 ∧ i = .int .i64 j ∧ BH wr w.heap.size (w.heap.size + 1) m j ∧ Ex [] w wr ∧ w.heap.size < wr.heap.size)
  case atStart => exact ⟨0, by omega, rfl, HBH.out, HX1.out, hl1⟩
  case round =>
    obtain ⟨j, hj, rfl, hbh, hx, hlr⟩ := hrel
    have HX := hide hx
    have HB := hide hbh
    cases gk with
    | zero =>
      obtain rfl : j = m + 1 := by omega
      clear hx hj hbh
      go_wp2_with fail
      go_ret
      exact ⟨rfl, ⟨HB.out.lt, by obtain ⟨ca, h1, h2, h3⟩ := HB.out.ex; exact ⟨ca, h1, h2, fun i hi hm => h3 i (by omega) hm⟩⟩, HX.out⟩
    | succ g =>
      have hj' : ((j : Int) < ((m : Int) + 1)) := by omega
      have hce : ∀ o, o < 7 → wr.cell? ⟨cg, j * 7 + o, none⟩ = (progC cs)[j * 7 + o]? := by
        intro o ho
        obtain ⟨g1, c1, hv, _, _, _, hcells, _⟩ := own_cells (own_ex HO.out hx (by simp)) (by omega)
        simp only [Value.slice.injEq, Option.some.injEq, Addr.mk.injEq, and_true, true_and] at hv
        obtain ⟨rfl, rfl⟩ := hv
        exact hcells _ (by omega)
      by_cases hjm : j < m
      · have k0 := (hce 0 (by omega)).trans (progC_take cs j 0 (by omega) (by omega)); have k1 := (hce 1 (by omega)).trans (progC_take cs j 1 (by omega) (by omega))
        have k2 := (hce 2 (by omega)).trans (progC_take cs j 2 (by omega) (by omega)); have k3 := (hce 3 (by omega)).trans (progC_take cs j 3 (by omega) (by omega))
        have k4 := (hce 4 (by omega)).trans (progC_take cs j 4 (by omega) (by omega)); have k5 := (hce 5 (by omega)).trans (progC_take cs j 5 (by omega) (by omega))
        have k6 := (hce 6 (by omega)).trans (progC_take cs j 6 (by omega) (by omega))
        simp only [insOf, List.getElem?_cons_zero, List.getElem?_cons_succ, Nat.add_zero] at k0 k1 k2 k3 k4 k5 k6
        clear hce hx hbh
        go_wp2_with fail
        rw [show ((j : Int) + 1) = ((j + 1 : Nat) : Int) from by omega]
        refine (waysFrom_cls cs _ m (j + 1) base 1 _ hcm (own_ex HO.out (HX.out.alloc _) (by simp)) (by omega) hm).mono ?_
        rintro e w2 ⟨v, rfl, ho2, hx2⟩
        obtain ⟨p2, c2, rfl⟩ := own_slice ho2
        have hx3 : Ex [] wr w2 := ((Ex.refl _ _).alloc _).trans hx2
        have hB2 := HB.out.ex' hx3 (by simp) (by simp)
        obtain ⟨ca, hbk, hcs, _⟩ := hB2.ex
        obtain ⟨hcB, hfB⟩ := hbk.all
        have kj : w2.cell? ⟨w.heap.size, j, none⟩ = some (ca[j]'(by omega)) := by rw [hcB, Array.getElem?_eq_getElem (by omega)]
        have kf := hfB j
        have HO2 := hide (own_base ho2 (show w.heap.size + 1 ≤ _ by simp; omega))
        have HX3 := hide hx3
        have HB2 := hide hB2
        clear k0 k1 k2 k3 k4 k5 k6 hcB hfB hx2 hx3 hB2 ho2 hbk
        go_wp2_with fail
        go_roundg g
        case measure => omega
        case rel =>
          refine ⟨j + 1, by omega, by simp, HB2.out.next hjm HO2.out, ?_, ?_⟩
          · exact (HX.out.trans HX3.out).setCell (Or.inr (by simp)) _
          · have := HX3.out.size; simp; omega
      · obtain rfl : j = m := by omega
        have k0 := (hce 0 (by omega)).trans (progC_accept cs j 0 hcm); have k1 := (hce 1 (by omega)).trans (progC_accept cs j 1 hcm)
        have k2 := (hce 2 (by omega)).trans (progC_accept cs j 2 hcm); have k3 := (hce 3 (by omega)).trans (progC_accept cs j 3 hcm)
        have k4 := (hce 4 (by omega)).trans (progC_accept cs j 4 hcm); have k5 := (hce 5 (by omega)).trans (progC_accept cs j 5 hcm)
        have k6 := (hce 6 (by omega)).trans (progC_accept cs j 6 hcm)
        simp only [insOf, List.getElem?_cons_zero, List.getElem?_cons_succ, Nat.add_zero] at k0 k1 k2 k3 k4 k5 k6
        clear hce hx hbh hjm
        go_wp2_with fail
        go_roundg g
        case measure => omega
        case rel =>
          refine ⟨j + 1, by omega, by simp, ?_, HX.out.alloc _, by simp; omega⟩
          obtain ⟨ca, h1, h2, h3⟩ := (HB.out.ex' ((Ex.refl [] _).alloc _) (by simp) (by simp)).ex
          exact ⟨HB.out.lt, ca, h1, h2, fun i hi hm => h3 i (by omega) hm⟩
/-- What was made of single runes: block q. -/
structure PT (w : World) (q base m : Nat) (cs : List Cls) : Prop where
  len : cs.length = m
  le : base ≤ w.heap.size
  ql : base ≤ q
  ex : ∃ cv sv B mb, BK w q (.cells #[cv, sv, .slice (some ⟨B, 0, none⟩) (m + 1) (m + 1), .int .i64 0, .map (some mb)] 157 (0, 0)) ∧ w.ownsRow base 194 7 cv (m + 1) (progC cs) ∧ w.ownsRow base 206 2 sv 1 [.int .i64 0, .int .u64 0] ∧ BH w B (B + 1) m m ∧ base ≤ B

set_option maxHeartbeats 2000000 in
set_option maxRecDepth 100000 in
theorem Read_items (t : ByteArray) (f : Bool) (l : List UInt8) (w : World) (hd : FM t f l) (ht : t.size ≤ 60) (hl : l.length ≤ 60) :
    Calls Tryz.prog 56 #[.string t] w fun e w' => ∃ q, e = .returned (.tuple #[.pointer (some ⟨q, 0, none⟩), .int .i64 0, .bool true]) ∧ PT w' q w.heap.size l.length (clsOf f l) ∧ Ex [] w w' := by
  have HD := hide hd
  clear hd
  have hts : ¬ ((t.size : Int) > 60) := by omega
  go_enter Tryz.func56, Tryz.ntmps56
  go_wp2_with fail
  refine (readForm_items t f l _ HD.out ht hl).mono ?_
  rintro e w1 ⟨r, g, v, mb, rfl, hrl, hgl, hbk, hown, hrd, hx1⟩
  obtain ⟨p, c, rfl⟩ := own_slice hown
  have HB := hide hbk
  have HO := hide hown
  have HR := hide hrd
  have HX := hide hx1
  have hrlt := hrd.lt
  have hz1 := hx1.size
  clear hbk hown hrd hx1
  have hcl : (clsOf f l).length = l.length := by simp [clsOf]
  unfold partOf
  go_wp2_with fail
  refine (weight_choice (clsOf f l) _ l.length w.heap.size g _ hcl (by rw [hcl]; exact HO.out.alloc _) hl (by simp; omega) (HB.out.alloc _)).mono ?_
  rintro e w2 ⟨rfl, hx2⟩
  have hx12 : Ex [] w1 w2 := ((Ex.refl _ _).alloc _).trans hx2
  have hA := BK.ex (BK.new w1 (Obj.cells #[.int .i64 2, .slice (some ⟨g, 0, none⟩) 1 1, .int .u64 0, .int .u64 0, .bool false, .int .i64 0, .int .i64 0, .int .i64 0, .bool false] 143)) hx2 (by simp)
  obtain ⟨hcA, hfA⟩ := hA.all
  have HX12 := hide hx12
  have hz2 := hx12.size
  clear hx2 hx12 hA
  go_wp2_with fail
  refine (programOf_cls (clsOf f l) _ l.length w.heap.size g hcl hl (by rw [hcl]; exact own_ex HO.out HX12.out (by simp)) (HB.out.ex HX12.out (by simp))).mono ?_
  rintro e w3 ⟨cv, rfl, ho3, hx3⟩
  have hz3 := hx3.size
  have HX13 := hide (HX12.out.trans hx3)
  have HO3 := hide (own_base ho3 (show w.heap.size ≤ _ by omega))
  have hr3 := (HR.out.ex HX13.out (by simp)).bk
  obtain ⟨hcR, hfR⟩ := hr3.all
  have k4 := hcR 4
  have k5 := hcR 5
  simp at k4 k5
  have hrl3 := hr3.lt
  have HR3 := hide hr3
  clear hcA hfA ho3 hx3 hcR hfR hr3
  obtain ⟨pc, cc, rfl⟩ := own_slice HO3.out
  go_wp2_with fail
  go_region_held3 (fun w' => w'.cell? ⟨r, 4, none⟩ = some (.int .i64 0) ∧ w'.cell? ⟨r, 5, none⟩ = some (.map (some mb))) (simp [*, go_sem])
    (first
      | (go_at_call 83; refine (waysFrom_cls (clsOf f l) _ l.length 0 w.heap.size 0 _ hcl (own_drewN HO3.out 1) (by omega) hl).mono ?_; rintro e w4 ⟨sv, rfl, ho4, hx4⟩; obtain ⟨ps, cps, rfl⟩ := own_slice ho4; have e4 := hx4.cell0.1 r 4 hrl3; have e5 := hx4.cell0.1 r 5 hrl3)
      | (go_at_call 84; refine (waysBehind_cls (clsOf f l) _ l.length w.heap.size _ hcl (own_ex (own_drewN HO3.out 1) hx4 (by simp)) hl).mono ?_; rintro e w5 ⟨rfl, hb5, hx5⟩; have f4 := hx5.cell0.1 r 4 (Nat.lt_of_lt_of_le hrl3 hx4.size); have f5 := hx5.cell0.1 r 5 (Nat.lt_of_lt_of_le hrl3 hx4.size); have hr5 : r < w5.heap.size := Nat.lt_of_lt_of_le (Nat.lt_of_lt_of_le hrl3 hx4.size) hx5.size))
  have HX4 := hide hx4
  have HX5 := hide hx5
  have HO4 := hide ho4
  have HB5 := hide hb5
  have hz4 : w3.heap.size ≤ w4.heap.size := hx4.size
  have hz5 := hx5.size
  clear hx4 hx5 ho4 hb5 k4 k5
  go_wp2_with fail
  go_ret3
  have hx35 : Ex [] w3 w5 := ((Ex.refl [] w3).drewN 1).trans (HX4.out.trans HX5.out)
  refine ⟨w5.heap.size, rfl, ⟨hcl, by simp; omega, by omega, _, _, w4.heap.size, mb, BK.new _ _, ?_, ?_, ?_, by omega⟩, ?_⟩
  · exact (own_ex HO3.out hx35 (by simp)).alloc _
  · have h1 := own_base HO4.out (show w.heap.size ≤ _ from (by show w.heap.size ≤ w3.heap.size; omega))
    exact (own_ex h1 HX5.out (by simp)).alloc _
  · exact HB5.out.ex' ((Ex.refl [] _).alloc _) (by simp) (by simp)
  · exact (HX.out.trans (HX13.out.trans hx35)).alloc _
end Go.Proofs.YtmeffeigamaipabGreatDoor.Rx.Q
