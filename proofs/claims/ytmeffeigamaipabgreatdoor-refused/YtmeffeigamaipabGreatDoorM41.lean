/- Contracts of the weight and of the builder of programs, at a row of single runes. -/
import Derived.Test.YtmeffeigamaipabGreatDoorM39
import Derived.Test.YtmeffeigamaipabGreatDoorM40
set_option linter.unusedVariables false
set_option linter.unusedSimpArgs false
namespace Go.Proofs.YtmeffeigamaipabGreatDoor.Rx.Q
open Go.RowKit

set_option maxHeartbeats 1000000 in
set_option maxRecDepth 100000 in
theorem weight_single (c : Cls) (w : World) :
    Calls Tryz.prog 81 #[partV c] w fun e w' => e = .returned (.int .i64 1) ∧ Ex [] w w' := by
  unfold partV
  go_enter Tryz.func81, Tryz.ntmps81
  go_wp2_with fail
  refine wp_loop_rounds 1 ?_
  rw [rounds_succ]
  go_wp2_with fail
  go_ret
  exact ⟨rfl, (Ex.refl _ _).alloc _⟩

theorem partsL_len (cs : List Cls) : (partsL cs).length = cs.length * 9 := by
  induction cs with
  | nil => rfl
  | cons c cs ih =>
    have h1 : partsL (c :: cs) = partCells c ++ partsL cs := rfl
    rw [h1, List.length_append, ih]
    simp [partCells]
    omega
theorem partsL_at (cs : List Cls) (j o : Nat) (hj : j < cs.length) (ho : o < 9) : (partsL cs)[j * 9 + o]? = (partCells cs[j])[o]? := by
  induction cs generalizing j with
  | nil => simp at hj
  | cons c cs ih =>
    have h1 : partsL (c :: cs) = partCells c ++ partsL cs := rfl
    have h2 : (partCells c).length = 9 := rfl
    rw [h1]
    cases j with
    | zero => rw [List.getElem?_append_left (by omega)]; simp
    | succ j =>
      rw [List.getElem?_append_right (by omega), h2, show (j + 1) * 9 + o - 9 = j * 9 + o by omega]
      simpa using ih j (by simpa using hj)

/-- The cells of the j-th part of a row. -/
theorem own_part {w : World} {base j : Nat} {v : Value} {cs : List Cls} (h : w.ownsRow base 143 9 v cs.length (partsL cs)) (hj : j < cs.length) :
    ∃ g c, v = .slice (some ⟨g, 0, none⟩) cs.length c ∧ base ≤ g ∧ cs.length ≤ c ∧ ∀ o, o < 9 → w.cell? ⟨g, j * 9 + o, none⟩ = (partCells cs[j])[o]? := by
  rcases h.2 with ⟨_, hn⟩ | ⟨g, cap, cur, rfl, hb, hgg, hnc, hcm, hcs, htake⟩
  · omega
  · refine ⟨g, cap, rfl, hb, hnc, fun o ho => ?_⟩
    rw [cell_of_row w g _ cur 143 (0, 0) hgg, ← partsL_at cs j o hj ho, ← htake, List.getElem?_take, if_pos (by omega)]
    simp

set_option maxHeartbeats 1000000 in
set_option maxRecDepth 100000 in
theorem weight_seq (cs : List Cls) (v : Value) (n base : Nat) (w : World) (hcn : cs.length = n) (hown : w.ownsRow base 143 9 v cs.length (partsL cs)) (hn : n ≤ 60) (hb : base ≤ w.heap.size) :
    Calls Tryz.prog 81 #[partOf 1 v] w fun e w' => e = .returned (.int .i64 n) ∧ Ex [] w w' := by
  subst hcn
  obtain ⟨p, c, rfl⟩ := own_slice hown
  have HO := hide hown
  clear hown
  unfold partOf
  go_enter Tryz.func81, Tryz.ntmps81
  go_wp2_with fail
  go_loopg [3, 9] cs.length (fun gk s i wr => ∃ j : Nat, j + gk = cs.length ∧ s = .int .i64 j ∧ i = .int .i64 j ∧ Ex [] (w.alloc (Obj.cells #[.int .i64 1, .slice p cs.length c, .int .u64 0, .int .u64 0, .bool false, .int .i64 0, .int .i64 0, .int .i64 0, .bool false] 143)) wr)
  case atStart => exact ⟨0, by omega, rfl, rfl, Ex.refl _ _⟩
  case round =>
    obtain ⟨j, hj, rfl, rfl, hx⟩ := hrel
    have HX := hide hx
    have hA : BK wr w.heap.size (.cells #[.int .i64 1, .slice p cs.length c, .int .u64 0, .int .u64 0, .bool false, .int .i64 0, .int .i64 0, .int .i64 0, .bool false] 143) := (BK.new _ _).ex hx (by simp)
    obtain ⟨hcA, hfA⟩ := hA.all
    cases gk with
    | zero =>
      obtain rfl : j = cs.length := by omega
      clear hx hA hj
      go_wp2_with fail
      go_ret
      exact ⟨by simp, ((Ex.refl _ _).alloc _).trans HX.out⟩
    | succ g =>
      have hj' : ((j : Int) < (cs.length : Int)) := by omega
      obtain ⟨g1, c1, hv, hg1, hnc, hcell⟩ := own_part (own_ex (HO.out.alloc _) hx (by simp)) (show j < cs.length by omega)
      simp only [Value.slice.injEq, true_and] at hv
      obtain ⟨rfl, rfl⟩ := hv
      clear hx hA
      have k0 := hcell 0 (by omega); have k1 := hcell 1 (by omega); have k2 := hcell 2 (by omega); have k3 := hcell 3 (by omega); have k4 := hcell 4 (by omega)
      have k5 := hcell 5 (by omega); have k6 := hcell 6 (by omega); have k7 := hcell 7 (by omega); have k8 := hcell 8 (by omega)
      simp only [partCells, List.getElem?_cons_zero, List.getElem?_cons_succ, Nat.add_zero] at k0 k1 k2 k3 k4 k5 k6 k7 k8
      clear hcell
      go_wp2_with fail
      refine (weight_single cs[j] _).mono ?_
      rintro e w1 ⟨rfl, hx1⟩
      have HX1 := hide hx1
      clear hx1 k0 k1 k2 k3 k4 k5 k6 k7 k8
      go_wp2_with fail
      go_roundg g
      case measure => omega
      case rel => exact ⟨j + 1, by omega, by simp, by simp, (HX.out.alloc _).trans HX1.out⟩

set_option maxHeartbeats 1000000 in
set_option maxRecDepth 100000 in
theorem weight_choice (cs : List Cls) (v : Value) (n base g : Nat) (w : World) (hcn : cs.length = n) (hown : w.ownsRow base 143 9 v cs.length (partsL cs)) (hn : n ≤ 60) (hb : base ≤ w.heap.size)
    (hg : BK w g (.cells #[.int .i64 1, v, .int .u64 0, .int .u64 0, .bool false, .int .i64 0, .int .i64 0, .int .i64 0, .bool false] 143 (0, 0))) :
    Calls Tryz.prog 81 #[partOf 2 (.slice (some ⟨g, 0, none⟩) 1 1)] w fun e w' => e = .returned (.int .i64 n) ∧ Ex [] w w' := by
  subst hcn
  obtain ⟨p, c, rfl⟩ := own_slice hown
  have HO := hide hown
  have hgl := hg.lt
  obtain ⟨hcG, hfG⟩ := hg.all
  clear hown hg
  unfold partOf
  go_enter Tryz.func81, Tryz.ntmps81
  go_wp2_with fail
  refine wp_loop_rounds 2 ?_
  rw [rounds_succ]
  go_wp2_with fail
  refine (weight_seq cs _ cs.length base _ rfl ((HO.out.alloc _).alloc _) hn (by simp; omega)).mono ?_
  rintro e w1 ⟨rfl, hx1⟩
  have HX1 := hide hx1
  have hA := BK.ex ((BK.new w (Obj.cells #[.int .i64 2, .slice (some ⟨g, 0, none⟩) 1 1, .int .u64 0, .int .u64 0, .bool false, .int .i64 0, .int .i64 0, .int .i64 0, .bool false] 143)).alloc _) hx1 (by simp)
  obtain ⟨hcA, hfA⟩ := hA.all
  clear hx1 hA
  go_wp2_with fail
  rw [rounds_succ]
  go_wp2_with fail
  go_ret
  exact ⟨by simp, (((Ex.refl _ _).alloc _).alloc _).trans HX1.out⟩
def takesC (cs : List Cls) : List Value := cs.flatMap fun c => insOf 0 c.lo c.hi c.hg
def progC (cs : List Cls) : List Value := takesC cs ++ insOf 6 0 0 false
theorem takesC_snoc (cs : List Cls) (j : Nat) (hj : j < cs.length) : takesC (cs.take (j + 1)) = takesC (cs.take j) ++ insOf 0 cs[j].lo cs[j].hi cs[j].hg := by
  have h1 : cs.take (j + 1) = cs.take j ++ [cs[j]] := by rw [List.take_add_one, List.getElem?_eq_getElem hj]; rfl
  rw [h1]
  simp only [takesC, List.flatMap_append, List.flatMap_cons, List.flatMap_nil, List.append_nil]
theorem takesC_len (cs : List Cls) : (takesC cs).length = cs.length * 7 := by
  induction cs with
  | nil => rfl
  | cons c cs ih =>
    have h1 : takesC (c :: cs) = insOf 0 c.lo c.hi c.hg ++ takesC cs := rfl
    rw [h1, List.length_append, ih]
    simp [insOf]
    omega
theorem takesC_at (cs : List Cls) (k o : Nat) (hk : k < cs.length) (ho : o < 7) : (takesC cs)[k * 7 + o]? = (insOf 0 cs[k].lo cs[k].hi cs[k].hg)[o]? := by
  induction cs generalizing k with
  | nil => simp at hk
  | cons c cs ih =>
    have h1 : takesC (c :: cs) = insOf 0 c.lo c.hi c.hg ++ takesC cs := rfl
    have h2 : (insOf 0 c.lo c.hi c.hg).length = 7 := rfl
    rw [h1]
    cases k with
    | zero => rw [List.getElem?_append_left (by omega)]; simp
    | succ k =>
      rw [List.getElem?_append_right (by omega), h2, show (k + 1) * 7 + o - 7 = k * 7 + o by omega]
      simpa using ih k (by simpa using hk)
theorem progC_take (cs : List Cls) (k o : Nat) (hk : k < cs.length) (ho : o < 7) : (progC cs)[k * 7 + o]? = (insOf 0 cs[k].lo cs[k].hi cs[k].hg)[o]? := by
  rw [progC, List.getElem?_append_left (by rw [takesC_len]; omega)]
  exact takesC_at cs k o hk ho
theorem progC_accept (cs : List Cls) (m o : Nat) (hm : cs.length = m) : (progC cs)[m * 7 + o]? = (insOf 6 0 0 false)[o]? := by
  subst hm
  rw [progC, List.getElem?_append_right (by rw [takesC_len]; omega), takesC_len]
  congr 1
  omega

set_option maxHeartbeats 1000000 in
set_option maxRecDepth 100000 in
theorem add_single (c : Cls) {b base n : Nat} {xs : List Value} {w : World} (hd : BD w b base n xs) (hn : n ≤ 1000) :
    Calls Tryz.prog 116 #[.pointer (some ⟨b, 0, none⟩), partV c] w fun e w' => e = .returned (.tuple #[]) ∧ BD w' b base (n + 1) (xs ++ insOf 0 c.lo c.hi c.hg) ∧ EB base [b] w w' := by
  have HD := hide hd
  have hle := hd.le
  clear hd
  unfold partV
  go_enter Tryz.func116, Tryz.ntmps116
  go_wp2_with fail
  refine (put_bd 0 c.lo c.hi c.hg (HD.out.alloc _) hn).mono ?_
  rintro e w1 ⟨rfl, hd1, hx1⟩
  have HD1 := hide hd1
  have HX1 := hide hx1
  clear hd1 hx1
  go_wp2_with fail
  go_end0
  exact ⟨rfl, HD1.out, ((EB.refl _ _ _).alloc hle _).trans HX1.out⟩

set_option maxHeartbeats 1000000 in
set_option maxRecDepth 100000 in
theorem add_seq {b base : Nat} {w : World} (cs : List Cls) (pv : Value) (m pb : Nat) (hcm : cs.length = m) (hd : BD w b base 0 []) (hm : m ≤ 60) (hown : w.ownsRow pb 143 9 pv cs.length (partsL cs)) (hpl : ∀ k, pv.ownBlock = some k → k < base ∧ k ∉ [b]) :
    Calls Tryz.prog 116 #[.pointer (some ⟨b, 0, none⟩), partOf 1 pv] w fun e w' => e = .returned (.tuple #[]) ∧ BD w' b base m (takesC cs) ∧ EB base [b] w w' := by
  subst hcm
  have HD := hide hd
  have HO := hide hown
  have HPL := hide hpl
  have hle := hd.le
  obtain ⟨p, c, rfl⟩ := own_slice hown
  clear hd hown hpl
  unfold partOf
  go_enter Tryz.func116, Tryz.ntmps116
  go_wp2_with fail
  go_loopg [20] cs.length (fun gk i wr => ∃ j : Nat, j + gk = cs.length ∧ i = .int .i64 j ∧ BD wr b base j (takesC (cs.take j)) ∧ EB base [b] w wr)
  case atStart => exact ⟨0, by omega, rfl, by simpa [takesC] using HD.out.alloc _, (EB.refl _ _ _).alloc hle _⟩
  case round =>
    obtain ⟨j, hj, rfl, hd, hx⟩ := hrel
    have HX := hide hx
    have HDr := hide hd
    cases gk with
    | zero =>
      obtain rfl : j = cs.length := by omega
      clear hx hj hd
      go_wp2_with fail
      go_end0
      exact ⟨rfl, by have h1 := HDr.out; rw [List.take_length] at h1; exact h1, HX.out⟩
    | succ g =>
      have hj' : ((j : Int) < (cs.length : Int)) := by omega
      obtain ⟨g1, c1, hv, hg1, hnc, hcell⟩ := own_part (own_eb HO.out hx HPL.out) (show j < cs.length by omega)
      simp only [Value.slice.injEq, true_and] at hv
      obtain ⟨rfl, rfl⟩ := hv
      clear hx hd
      have k0 := hcell 0 (by omega); have k1 := hcell 1 (by omega); have k2 := hcell 2 (by omega); have k3 := hcell 3 (by omega); have k4 := hcell 4 (by omega)
      have k5 := hcell 5 (by omega); have k6 := hcell 6 (by omega); have k7 := hcell 7 (by omega); have k8 := hcell 8 (by omega)
      simp only [partCells, List.getElem?_cons_zero, List.getElem?_cons_succ, Nat.add_zero] at k0 k1 k2 k3 k4 k5 k6 k7 k8
      clear hcell
      go_wp2_with fail
      refine (add_single cs[j] (HDr.out.alloc _) (by omega)).mono ?_
      rintro e w1 ⟨rfl, hd1, hx1⟩
      have HX1 := hide hx1
      have HD1 := hide hd1
      have hle1 := HDr.out.le
      clear hx1 hd1 k0 k1 k2 k3 k4 k5 k6 k7 k8
      go_wp2_with fail
      go_roundg g
      case measure => omega
      case rel => exact ⟨j + 1, by omega, by simp, by rw [takesC_snoc cs j (by omega)]; exact HD1.out, (HX.out.alloc hle1 _).trans HX1.out⟩

set_option maxHeartbeats 1000000 in
set_option maxRecDepth 100000 in
theorem addChoice_one {b base : Nat} {w : World} (cs : List Cls) (pv : Value) (m pb g : Nat) (hcm : cs.length = m) (hd : BD w b base 0 []) (hm : m ≤ 60) (hown : w.ownsRow pb 143 9 pv cs.length (partsL cs)) (hpl : ∀ k, pv.ownBlock = some k → k < base ∧ k ∉ [b])
    (hg : BK w g (.cells #[.int .i64 1, pv, .int .u64 0, .int .u64 0, .bool false, .int .i64 0, .int .i64 0, .int .i64 0, .bool false] 143 (0, 0))) :
    Calls Tryz.prog 135 #[.pointer (some ⟨b, 0, none⟩), .slice (some ⟨g, 0, none⟩) 1 1] w fun e w' => e = .returned (.tuple #[]) ∧ BD w' b base m (takesC cs) ∧ EB base [b] w w' := by
  subst hcm
  have HD := hide hd
  have HO := hide hown
  have HPL := hide hpl
  obtain ⟨p, c, rfl⟩ := own_slice hown
  obtain ⟨hcG, hfG⟩ := hg.all
  clear hd hown hpl hg
  go_enter Tryz.func135, Tryz.ntmps135
  go_wp2_with fail
  refine wp_loop_rounds 1 ?_
  rw [rounds_succ]
  go_wp2_with fail
  refine (add_seq cs _ cs.length pb rfl HD.out hm HO.out HPL.out).mono ?_
  rintro e w1 ⟨rfl, hd1, hx1⟩
  have HX1 := hide hx1
  have HD1 := hide hd1
  clear hx1 hd1 hcG hfG
  go_wp2_with fail
  refine wp_loop_rounds 1 ?_
  rw [rounds_succ]
  go_wp2_with fail
  go_end0
  exact ⟨rfl, HD1.out, HX1.out⟩

set_option maxHeartbeats 1000000 in
set_option maxRecDepth 100000 in
theorem add_choice {b base : Nat} {w : World} (cs : List Cls) (pv : Value) (m pb g : Nat) (hcm : cs.length = m) (hd : BD w b base 0 []) (hm : m ≤ 60) (hown : w.ownsRow pb 143 9 pv cs.length (partsL cs)) (hpl : ∀ k, pv.ownBlock = some k → k < base ∧ k ∉ [b])
    (hg : BK w g (.cells #[.int .i64 1, pv, .int .u64 0, .int .u64 0, .bool false, .int .i64 0, .int .i64 0, .int .i64 0, .bool false] 143 (0, 0))) :
    Calls Tryz.prog 116 #[.pointer (some ⟨b, 0, none⟩), partOf 2 (.slice (some ⟨g, 0, none⟩) 1 1)] w fun e w' => e = .returned (.tuple #[]) ∧ BD w' b base m (takesC cs) ∧ EB base [b] w w' := by
  subst hcm
  have HD := hide hd
  have HO := hide hown
  have HPL := hide hpl
  have HG := hide hg
  have hle := hd.le
  clear hd hown hpl hg
  unfold partOf
  go_enter Tryz.func116, Tryz.ntmps116
  go_wp2_with fail
  refine (addChoice_one cs pv cs.length pb g rfl (HD.out.alloc _) hm (HO.out.alloc _) HPL.out (HG.out.alloc _)).mono ?_
  rintro e w1 ⟨rfl, hd1, hx1⟩
  have HX1 := hide hx1
  have HD1 := hide hd1
  clear hx1 hd1
  go_wp2_with fail
  go_end0
  exact ⟨rfl, HD1.out, ((EB.refl _ _ _).alloc hle _).trans HX1.out⟩

set_option maxHeartbeats 1000000 in
set_option maxRecDepth 100000 in
theorem programOf_cls {w : World} (cs : List Cls) (pv : Value) (m pb g : Nat) (hcm : cs.length = m) (hm : m ≤ 60) (hown : w.ownsRow pb 143 9 pv cs.length (partsL cs))
    (hg : BK w g (.cells #[.int .i64 1, pv, .int .u64 0, .int .u64 0, .bool false, .int .i64 0, .int .i64 0, .int .i64 0, .bool false] 143 (0, 0))) :
    Calls Tryz.prog 82 #[partOf 2 (.slice (some ⟨g, 0, none⟩) 1 1)] w fun e w' => ∃ v, e = .returned v ∧ w'.ownsRow w.heap.size 194 7 v (m + 1) (progC cs) ∧ Ex [] w w' := by
  subst hcm
  have HO := hide hown
  have HG := hide hg
  have hol := hown.lt
  clear hown hg
  unfold partOf
  go_enter Tryz.func82, Tryz.ntmps82
  go_wp2_with fail
  have hd0 : BD ((w.alloc (Obj.cells #[.int .i64 2, .slice (some ⟨g, 0, none⟩) 1 1, .int .u64 0, .int .u64 0, .bool false, .int .i64 0, .int .i64 0, .int .i64 0, .bool false] 143)).alloc (Obj.cells #[.slice none 0 0] 189)) (w.heap.size + 1) (w.heap.size + 2) 0 [] :=
    ⟨by omega, by simp, _, by simpa using BK.new (w.alloc (Obj.cells #[.int .i64 2, .slice (some ⟨g, 0, none⟩) 1 1, .int .u64 0, .int .u64 0, .bool false, .int .i64 0, .int .i64 0, .int .i64 0, .bool false] 143)) (Obj.cells #[.slice none 0 0] 189), World.ownsRow_nil _ _ _ _⟩
  refine (add_choice cs pv cs.length pb g rfl hd0 hm ((HO.out.alloc _).alloc _) (fun k hk => ⟨by have := (hol k hk).2; omega, by have := (hol k hk).2; simp; omega⟩) ((HG.out.alloc _).alloc _)).mono ?_
  rintro e w1 ⟨rfl, hd1, hx1⟩
  have HX1 := hide hx1
  have HD1 := hide hd1
  clear hx1 hd1 hd0 hol
  go_wp2_with fail
  refine (put_bd 6 0 0 false HD1.out (by omega)).mono ?_
  rintro e w2 ⟨rfl, hd2, hx2⟩
  have HX2 := hide hx2
  obtain ⟨v2, hb2, ho2⟩ := hd2.ex
  obtain ⟨hcb, hfb⟩ := hb2.all
  have HO2 := hide ho2
  clear hx2 hd2 ho2 hb2
  go_wp2_with fail
  go_ret
  refine ⟨v2, by simp, own_base HO2.out (by omega), ?_⟩
  exact EB.toEx (((((EB.refl w.heap.size [] w).alloc (Nat.le_refl _) _).alloc (by simp) _).trans (HX1.out.mono (by omega) (by simp))).trans (HX2.out.mono (by omega) (by simp)))
end Go.Proofs.YtmeffeigamaipabGreatDoor.Rx.Q
