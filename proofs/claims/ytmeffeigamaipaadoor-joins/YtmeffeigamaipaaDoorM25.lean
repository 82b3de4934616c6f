/- G16 Q1 Ord Q2 Q3 Q4 Q5 Q6 W11 Q7 G17, one behind the other. -/
import Derived.Test.YtmeffeigamaipaaDoorM24
import Derived.Test.YtmeffeigamaipaaDoorM18
import Derived.Test.YtmeffeigamaipaaDoorProg
import Derived.WalkKit
import Derived.OrdersHeld
import Derived.StillTail
import Derived.Deep.MidRow
import Derived.Handy
import Derived.Deep.RegionHeld3
import Derived.Deep.LoopGhost
import Derived.Test.YtmeffeigamaipaaDoorM23
set_option linter.unusedVariables false
set_option linter.unusedSimpArgs false
/- The pattern reader's face, whatever the text. -/
namespace Go.Proofs.YtmeffeigamaipaaDoor.G
open Go.RowKit

def RFP (t : ByteArray) (x : EV) (w : World) (r mb : Nat) (m : Res Pt) (e : Ending) (w' : World) : Prop := match m with
  | .ok p s' => (∃ u : PV, e = .returned (.tuple #[.pointer (some ⟨r, 0, none⟩), u.val, .bool true]) ∧ PR w' (Btw w.heap.size w'.heap.size) p u) ∧ RG w' r mb t x s' ∧ Ex [] w w'
  | .bad s' => e = .returned (.tuple #[.pointer (some ⟨r, 0, none⟩), .agg #[.int .i64 0, .slice none 0 0, .int .u64 0, .int .u64 0, .bool false, .int .i64 0, .int .i64 0, .int .i64 0, .bool false], .bool false]) ∧ RG w' r mb t x s' ∧ Ex [] w w'
theorem RFP.mkBad {t : ByteArray} {x : EV} {w w' : World} {r mb : Nat} {m : Res Pt} {s' : RS} (hm : m = .bad s') (hg : RG w' r mb t x s') (hx : Ex [] w w') : RFP t x w r mb m (.returned (.tuple #[.pointer (some ⟨r, 0, none⟩), .agg #[.int .i64 0, .slice none 0 0, .int .u64 0, .int .u64 0, .bool false, .int .i64 0, .int .i64 0, .int .i64 0, .bool false], .bool false])) w' := by
  subst hm; exact ⟨rfl, hg, hx⟩
theorem RFP.mkOk {t : ByteArray} {x : EV} {w w' : World} {r mb : Nat} {m : Res Pt} {p : Pt} {s' : RS} {u : PV} (hm : m = .ok p s') (hp : PR w' (Btw w.heap.size w'.heap.size) p u) (hg : RG w' r mb t x s') (hx : Ex [] w w') : RFP t x w r mb m (.returned (.tuple #[.pointer (some ⟨r, 0, none⟩), u.val, .bool true])) w' := by
  subst hm; exact ⟨⟨u, rfl, hp⟩, hg, hx⟩

theorem startRG {w : World} {t : ByteArray} {x : EV} (hev : w.cell? ⟨0, 0, none⟩ = some (.iface x.1 x.2)) (ht : t.size ≤ 60) :
    RG ((((w.alloc (Obj.cells #[.int .i64 0, .slice none 0 0, .int .u64 0, .int .u64 0, .bool false, .int .i64 0, .int .i64 0, .int .i64 0, .bool false] 59)).alloc (Obj.cells #[.bool false] 4)).alloc (Obj.map #[] 0)).alloc (Obj.cells #[.string t, .int .i64 0, .int .i64 0, .bool false, .int .i64 0, .map (some (w.heap.size + 1 + 1))] 63)) (w.heap.size + 1 + 1 + 1) (w.heap.size + 1 + 1) t x startS := by
  have hlt := lt_of_cell hev
  refine ⟨?_, ?_, ?_, by omega, by omega, by omega, Nat.zero_le _, ht, fun _ hx => by simp [startS] at hx⟩
  · have := heap_alloc_new (((w.alloc (Obj.cells #[.int .i64 0, .slice none 0 0, .int .u64 0, .int .u64 0, .bool false, .int .i64 0, .int .i64 0, .int .i64 0, .bool false] 59)).alloc (Obj.cells #[.bool false] 4)).alloc (Obj.map #[] 0)) (Obj.cells #[.string t, .int .i64 0, .int .i64 0, .bool false, .int .i64 0, .map (some (w.heap.size + 1 + 1))] 63)
    simpa [RD, startS] using this
  · have := BK.alloc (BK.new ((w.alloc (Obj.cells #[.int .i64 0, .slice none 0 0, .int .u64 0, .int .u64 0, .bool false, .int .i64 0, .int .i64 0, .int .i64 0, .bool false] 59)).alloc (Obj.cells #[.bool false] 4)) (Obj.map #[] 0)) (Obj.cells #[.string t, .int .i64 0, .int .i64 0, .bool false, .int .i64 0, .map (some (w.heap.size + 1 + 1))] 63)
    simp only [World.size_alloc] at this
    exact this
  · have hx : Ex [] w ((((w.alloc (Obj.cells #[.int .i64 0, .slice none 0 0, .int .u64 0, .int .u64 0, .bool false, .int .i64 0, .int .i64 0, .int .i64 0, .bool false] 59)).alloc (Obj.cells #[.bool false] 4)).alloc (Obj.map #[] 0)).alloc (Obj.cells #[.string t, .int .i64 0, .int .i64 0, .bool false, .int .i64 0, .map (some (w.heap.size + 1 + 1))] 63)) := ((((Ex.refl _ _).alloc _).alloc _).alloc _).alloc _
    exact (hx.cell0.1 _ _ hlt).trans hev

set_option maxHeartbeats 2000000 in
set_option maxRecDepth 100000 in
theorem gReadForm {w : World} {t : ByteArray} {x : EV} (hev : w.cell? ⟨0, 0, none⟩ = some (.iface x.1 x.2)) (ht : t.size ≤ 60) (hnp : NP t) :
    Calls Tryd.prog 17 #[.string t] w fun e w' => ∃ r mb, w.heap.size ≤ min r mb ∧ RFP t x w r mb (readM t) e w' := by
  have hmf : ∀ (fn : Fn) (first cap : Array Value) (w : World), (Instr.makeFunc fn first cap).run Tryd.prog w = .ok (.func fn first cap) w := fun _ _ _ _ => rfl
  have hmm := @run_makeMap Tryd.prog
  have helt := lt_of_cell hev
  have HNP := hide hnp
  have HRG := hide (startRG hev ht)
  clear hev hnp
  go_enter_defers Tryd.func17, Tryd.ntmps17
  go_wp2_with fail
  refine (gFold HRG.out).mono ?_
  rintro e w1 hp
  rcases hp.split with ⟨_, s1, v, hm, rfl, rfl, hg1, hx1⟩ | ⟨s1, hm, rfl, hg1, hx1⟩
  all_goals
    have hA1 : BK w1 w.heap.size (.cells #[.int .i64 0, .slice none 0 0, .int .u64 0, .int .u64 0, .bool false, .int .i64 0, .int .i64 0, .int .i64 0, .bool false] 59 (0, 0)) := ((((BK.new _ _).alloc _).alloc _).alloc _).ex hx1 (by simp; omega)
    have hB1 : BK w1 (w.heap.size + 1) (.cells #[.bool false] 4 (0, 0)) := (((by simpa using BK.new (w.alloc (Obj.cells #[.int .i64 0, .slice none 0 0, .int .u64 0, .int .u64 0, .bool false, .int .i64 0, .int .i64 0, .int .i64 0, .bool false] 59)) (.cells #[.bool false] 4) : BK _ _ _).alloc _).alloc _).ex hx1 (by simp)
    have hX1 : Ex [w.heap.size + 1 + 1 + 1] w w1 := ((((((Ex.refl _ _).alloc _).alloc _).alloc _).alloc _)).trans hx1
    have hz1 : w.heap.size + 1 + 1 + 1 < w1.heap.size := by have := hx1.size; simp at this; omega
  rotate_left
  · have MM : readM t = .bad s1 := by unfold readM; rw [hm]; rfl
    refine leaves_cons (f := 29) (args := #[.pointer (some ⟨w.heap.size, 0, none⟩), .pointer (some ⟨w.heap.size + 1, 0, none⟩)]) (by simp) (by simp [go_sem]) ?_
    refine (catch_panic hA1 rfl hB1 (by omega)).mono ?_
    rintro e u' w9 ⟨rfl, rfl, hA9, hB9, hx9⟩
    obtain ⟨hcA, hfA⟩ := hA9.all
    obtain ⟨hcB, hfB⟩ := hB9.all
    refine ⟨.tuple #[.pointer (some ⟨w.heap.size + 1 + 1 + 1, 0, none⟩), .agg #[.int .i64 0, .slice none 0 0, .int .u64 0, .int .u64 0, .bool false, .int .i64 0, .int .i64 0, .int .i64 0, .bool false], .bool false], ?_, w.heap.size + 1 + 1 + 1, w.heap.size + 1 + 1, by omega, RFP.mkBad MM (hg1.ex hx9 (by simp only [List.mem_cons, List.not_mem_nil, or_false]; omega) (by simp only [List.mem_cons, List.not_mem_nil, or_false]; omega) (by simp only [List.mem_cons, List.not_mem_nil, or_false]; omega)) ?_⟩
    · simp [results, Tryd.results17, go_sem, hcA, hcB]
    · refine Ex.drop (l := [w.heap.size + 1 + 1 + 1, w.heap.size + 1 + 1, w.heap.size, w.heap.size + 1]) ?_ (by simp; omega)
      exact (hX1.drop (by simp)).trans (hx9.drop (by simp))
  have M1 := hide hm
  have G1 := hide hg1
  have A1 := hide hA1
  have B1 := hide hB1
  have X1 := hide hX1
  have hs1 : s1.g ≤ 5 ∧ s1.d = 0 := by
    unfold foldM at hm
    split at hm
    · obtain ⟨_, s2, h1, h2⟩ := Res.bind_eq_ok hm
      obtain ⟨_, rfl⟩ := mustM_ok h1
      cases h2; exact ⟨Nat.zero_le _, rfl⟩
    · cases hm; exact ⟨Nat.zero_le _, rfl⟩
  clear hp hm hg1 hx1 hA1 hB1 hX1 HRG
  go_wp2_with fail
  refine ((gExprAt HNP.out 7 0 (by omega) (by omega)) w1 s1 G1.out hs1.1 hs1.2).mono ?_
  rintro e w2 hp
  rcases hp.split with ⟨q, s2, v, hm, rfl, hRP, hg1, hx1⟩ | ⟨s2, hm, rfl, hg1, hx1⟩
  all_goals
    have hA1 := A1.out.ex hx1 (by simp; omega)
    have hB1 := B1.out.ex hx1 (by simp)
    have hX1 : Ex [w.heap.size + 1 + 1 + 1, w.heap.size + 1 + 1] w w2 := (X1.out.drop (by simp)).trans hx1
    have hz2 : w1.heap.size ≤ w2.heap.size := hx1.size
  rotate_left
  · have MM : readM t = .bad s2 := by unfold readM; rw [M1.out, Res.bind_ok, hm]; rfl
    refine leaves_cons (f := 29) (args := #[.pointer (some ⟨w.heap.size, 0, none⟩), .pointer (some ⟨w.heap.size + 1, 0, none⟩)]) (by simp) (by simp [go_sem]) ?_
    refine (catch_panic hA1 rfl hB1 (by omega)).mono ?_
    rintro e u' w9 ⟨rfl, rfl, hA9, hB9, hx9⟩
    obtain ⟨hcA, hfA⟩ := hA9.all
    obtain ⟨hcB, hfB⟩ := hB9.all
    refine ⟨.tuple #[.pointer (some ⟨w.heap.size + 1 + 1 + 1, 0, none⟩), .agg #[.int .i64 0, .slice none 0 0, .int .u64 0, .int .u64 0, .bool false, .int .i64 0, .int .i64 0, .int .i64 0, .bool false], .bool false], ?_, w.heap.size + 1 + 1 + 1, w.heap.size + 1 + 1, by omega, RFP.mkBad MM (hg1.ex hx9 (by simp only [List.mem_cons, List.not_mem_nil, or_false]; omega) (by simp only [List.mem_cons, List.not_mem_nil, or_false]; omega) (by simp only [List.mem_cons, List.not_mem_nil, or_false]; omega)) ?_⟩
    · simp [results, Tryd.results17, go_sem, hcA, hcB]
    · refine Ex.drop (l := [w.heap.size + 1 + 1 + 1, w.heap.size + 1 + 1, w.heap.size, w.heap.size + 1]) ?_ (by simp; omega)
      exact (hX1.drop (by simp)).trans (hx9.drop (by simp))
  obtain ⟨u, rfl, hpr⟩ := hRP
  have M2 : Hid (readM t = if s2.k = t.size then .ok q s2 else .bad s2) := by show readM t = _; unfold readM; rw [M1.out, Res.bind_ok, hm]; rfl
  have HPR := hide hpr
  have G2 := hide hg1
  have A2 := hide hA1
  have B2 := hide hB1
  have X2 := hide hX1
  obtain ⟨kd, up, un, uc, ulo, uhi, uhg, ug, ul, um, uz⟩ := u
  have HAL : Hid ((#[.int .i64 kd, .slice up un uc, .int .u64 ulo, .int .u64 uhi, .bool uhg, .int .i64 ug, .int .i64 ul, .int .i64 um, .bool uz] : Array Value).all (·.oneCell') = true) := by show Array.all _ _ = true; simp [Value.oneCell']
  have HSZ : Hid ((Tryd.prog.info? 59).map (·.size) = some (#[.int .i64 kd, .slice up un uc, .int .u64 ulo, .int .u64 uhi, .bool uhg, .int .i64 ug, .int .i64 ul, .int .i64 um, .bool uz] : Array Value).size) := partSize
  clear hp hm hg1 hx1 hA1 hB1 hX1 hpr G1 A1 B1 X1 M1
  unfold PV.val
  go_wp2_with (refine wpList_store_row rfl 59 _ _ rfl w.heap.size #[.int .i64 kd, .slice up un uc, .int .u64 ulo, .int .u64 uhi, .bool uhg, .int .i64 ug, .int .i64 ul, .int .i64 um, .bool uz] rfl rfl 59 _ A2.out HSZ.out rfl HAL.out ?_)
  have hX3 : Ex [w.heap.size] w2 (w2.setRow w.heap.size #[.int .i64 kd, .slice up un uc, .int .u64 ulo, .int .u64 uhi, .bool uhg, .int .i64 ug, .int .i64 ul, .int .i64 um, .bool uz]) := (Ex.refl _ _).setRow (Or.inl (by simp)) _
  have G3 := hide (G2.out.ex hX3 (by simp only [List.mem_cons, List.not_mem_nil, or_false]; omega) (by simp only [List.mem_cons, List.not_mem_nil, or_false]; omega) (by simp only [List.mem_cons, List.not_mem_nil, or_false]; omega))
  have A3 := hide (setRow_heap w2 w.heap.size #[.int .i64 0, .slice none 0 0, .int .u64 0, .int .u64 0, .bool false, .int .i64 0, .int .i64 0, .int .i64 0, .bool false] #[.int .i64 kd, .slice up un uc, .int .u64 ulo, .int .u64 uhi, .bool uhg, .int .i64 ug, .int .i64 ul, .int .i64 um, .bool uz] 59 (0, 0) A2.out)
  have B3 := hide (B2.out.ex hX3 (by simp))
  have X3 := hide hX3
  clear hX3
  refine (gEnded G3.out).mono ?_
  rintro e w4 ⟨rfl, n4, hw4⟩
  have X4 : Hid (Ex [w.heap.size] w2 w4) := by rw [hw4]; exact X3.out.drewN _
  have G4 : Hid (RG w4 (w.heap.size + 1 + 1 + 1) (w.heap.size + 1 + 1) t x s2) := by rw [hw4]; exact G3.out.drewN _
  have A4 : Hid (BK w4 w.heap.size (.cells #[.int .i64 kd, .slice up un uc, .int .u64 ulo, .int .u64 uhi, .bool uhg, .int .i64 ug, .int .i64 ul, .int .i64 um, .bool uz] 59 (0, 0))) := by rw [hw4]; exact BK.drewN A3.out _
  have B4 : Hid (BK w4 (w.heap.size + 1) (.cells #[.bool false] 4 (0, 0))) := by rw [hw4]; exact BK.drewN B3.out _
  clear hw4 X3 G3 A3 B3
  by_cases hend : s2.k = t.size
  rotate_left
  · rw [decide_eq_false hend]
    have MM : readM t = .bad s2 := by rw [M2.out, if_neg hend]
    have hev4 := G4.out.ev
    have hA1 := A4.out
    have hB1 := B4.out
    have hg1 := G4.out
    have hX1 : Ex [w.heap.size + 1 + 1 + 1, w.heap.size + 1 + 1, w.heap.size] w w4 := (X2.out.drop (by simp)).trans (X4.out.drop (by simp))
    have HMM := hide MM
    have HA1 := hide hA1
    have HB1 := hide hB1
    have HG1 := hide hg1
    have HX1 := hide hX1
    clear MM hA1 hB1 hg1 hX1
    go_wp2_with fail
    have MM := HMM.out
    have hA1 := HA1.out
    have hB1 := HB1.out
    have hg1 := HG1.out
    have hX1 := HX1.out
    refine leaves_cons (f := 29) (args := #[.pointer (some ⟨w.heap.size, 0, none⟩), .pointer (some ⟨w.heap.size + 1, 0, none⟩)]) (by simp) (by simp [go_sem]) ?_
    refine (catch_panic hA1 rfl hB1 (by omega)).mono ?_
    rintro e u' w9 ⟨rfl, rfl, hA9, hB9, hx9⟩
    obtain ⟨hcA, hfA⟩ := hA9.all
    obtain ⟨hcB, hfB⟩ := hB9.all
    refine ⟨.tuple #[.pointer (some ⟨w.heap.size + 1 + 1 + 1, 0, none⟩), .agg #[.int .i64 0, .slice none 0 0, .int .u64 0, .int .u64 0, .bool false, .int .i64 0, .int .i64 0, .int .i64 0, .bool false], .bool false], ?_, w.heap.size + 1 + 1 + 1, w.heap.size + 1 + 1, by omega, RFP.mkBad MM (hg1.ex hx9 (by simp only [List.mem_cons, List.not_mem_nil, or_false]; omega) (by simp only [List.mem_cons, List.not_mem_nil, or_false]; omega) (by simp only [List.mem_cons, List.not_mem_nil, or_false]; omega)) ?_⟩
    · simp [results, Tryd.results17, go_sem, hcA, hcB]
    · refine Ex.drop (l := [w.heap.size + 1 + 1 + 1, w.heap.size + 1 + 1, w.heap.size, w.heap.size + 1]) ?_ (by simp; omega)
      exact (hX1.drop (by simp)).trans (hx9.drop (by simp))
  rw [decide_eq_true hend]
  have MM : Hid (readM t = .ok q s2) := by show readM t = _; rw [M2.out, if_pos hend]
  have hPR4 := PR.ex (lo' := w.heap.size + 1 + 1) (hi' := w4.heap.size) HPR.out X4.out (by simp; omega) (by omega) X4.out.size
  have HPR4 := hide hPR4
  have hz4 : w2.heap.size ≤ w4.heap.size := X4.out.size
  obtain ⟨hcA, hfA⟩ := A4.out.all
  obtain ⟨hcB, hfB⟩ := B4.out.all
  have hlA := A4.out.lt
  have hlB := B4.out.lt
  clear hend hPR4 HPR M2 G2 A2 B2
  go_wp2_with fail
  go_region
  go_wp2_with fail
  refine leaves_cons (f := 29) (args := #[.pointer (some ⟨w.heap.size, 0, none⟩), .pointer (some ⟨w.heap.size + 1, 0, none⟩)]) (by simp) (by simp [go_sem]) ?_
  refine (catch_idle ⟨w.heap.size, 0, none⟩ ⟨w.heap.size + 1, 0, none⟩ _).mono ?_
  rintro e u' w5 ⟨rfl, rfl, hw5⟩
  have hA5 : BK w5 w.heap.size (.cells #[.int .i64 kd, .slice up un uc, .int .u64 ulo, .int .u64 uhi, .bool uhg, .int .i64 ug, .int .i64 ul, .int .i64 um, .bool uz] 59) := by
    have h := BK_fill9 (unhide A4) rfl (.int .i64 kd) (.slice up un uc) (.int .u64 ulo) (.int .u64 uhi) (.bool uhg) (.int .i64 ug) (.int .i64 ul) (.int .i64 um) (.bool uz)
    rw [hw5]; exact BK.drew (BK.set h (by simp) _)
  have hB5 : BK w5 (w.heap.size + 1) (.cells #[.bool true] 4) := by
    have h := BK.ex (unhide B4) (Ex_fill9 w4 w.heap.size (.int .i64 kd) (.slice up un uc) (.int .u64 ulo) (.int .u64 uhi) (.bool uhg) (.int .i64 ug) (.int .i64 ul) (.int .i64 um) (.bool uz)) (by simp)
    have h' := BK.self h 0 (.bool true)
    simp only [List.setIfInBounds_toArray, List.set_cons_zero] at h'
    rw [hw5]; exact BK.drew h'
  have hx5 : Ex [w.heap.size, w.heap.size + 1] w4 w5 := by
    rw [hw5]
    refine Ex.drew (Ex.setCell ?_ (Or.inl (by simp)) _)
    exact (Ex_fill9 w4 w.heap.size (.int .i64 kd) (.slice up un uc) (.int .u64 ulo) (.int .u64 uhi) (.bool uhg) (.int .i64 ug) (.int .i64 ul) (.int .i64 um) (.bool uz)).drop (by simp)
  clear hw5 hcA hfA hcB hfB
  obtain ⟨hcA, hfA⟩ := hA5.all
  obtain ⟨hcB, hfB⟩ := hB5.all
  refine ⟨.tuple #[.pointer (some ⟨w.heap.size + 1 + 1 + 1, 0, none⟩), .agg #[.int .i64 kd, .slice up un uc, .int .u64 ulo, .int .u64 uhi, .bool uhg, .int .i64 ug, .int .i64 ul, .int .i64 um, .bool uz], .bool true], ?_, w.heap.size + 1 + 1 + 1, w.heap.size + 1 + 1, by omega, RFP.mkOk (u := ⟨kd, up, un, uc, ulo, uhi, uhg, ug, ul, um, uz⟩) MM.out ?_ (G4.out.ex hx5 (by simp only [List.mem_cons, List.not_mem_nil, or_false]; omega) (by simp only [List.mem_cons, List.not_mem_nil, or_false]; omega) (by simp only [List.mem_cons, List.not_mem_nil, or_false]; omega)) ?_⟩
  · simp [results, Tryd.results17, go_sem, hcA, hcB]
  · exact PR.ex HPR4.out hx5 (by simp; omega) (by omega) hx5.size
  · refine Ex.drop (l := [w.heap.size + 1 + 1 + 1, w.heap.size + 1 + 1, w.heap.size, w.heap.size + 1]) ?_ (by simp; omega)
    exact ((X2.out.drop (by simp)).trans (X4.out.drop (by simp))).trans (hx5.drop (by simp))
end Go.Proofs.YtmeffeigamaipaaDoor.G

/- Contracts of the pattern reader's small functions, whatever the reader's other cells hold. -/
namespace Go.Proofs.YtmeffeigamaipaaDoor.Rx.Q
open Go.RowKit

structure Rest where
  d : Nat
  f : Bool
  g : Nat
  m : Value
def RD (w : World) (r : Nat) (t : ByteArray) (k : Nat) (mv : Rest) : Prop :=
  w.heap[r]? = some (.cells #[.string t, .int .i64 k, .int .i64 mv.d, .bool mv.f, .int .i64 mv.g, mv.m] 63 (0, 0))

theorem RD.c0 {w : World} {r : Nat} {t : ByteArray} {k : Nat} {mv : Rest} (h : RD w r t k mv) : w.cell? ⟨r, 0, none⟩ = some (.string t) := by
  rw [cell_of_row w r 0 _ 63 (0, 0) h]; rfl
theorem RD.c1 {w : World} {r : Nat} {t : ByteArray} {k : Nat} {mv : Rest} (h : RD w r t k mv) : w.cell? ⟨r, 1, none⟩ = some (.int .i64 k) := by
  rw [cell_of_row w r 1 _ 63 (0, 0) h]; rfl
theorem RD.c3 {w : World} {r : Nat} {t : ByteArray} {k : Nat} {mv : Rest} (h : RD w r t k mv) : w.cell? ⟨r, 3, none⟩ = some (.bool mv.f) := by
  rw [cell_of_row w r 3 _ 63 (0, 0) h]; rfl
theorem RD.drew {w : World} {r : Nat} {t : ByteArray} {k : Nat} {mv : Rest} (h : RD w r t k mv) (n : Nat) : RD (w.drewN n) r t k mv := h
theorem RD.lt {w : World} {r : Nat} {t : ByteArray} {k : Nat} {mv : Rest} (h : RD w r t k mv) : r < w.heap.size := (Array.getElem?_eq_some_iff.1 h).1

theorem RD.ex {l : List Nat} {w w' : World} {r : Nat} {t : ByteArray} {k : Nat} {mv : Rest} (h : RD w r t k mv) (hx : Ex l w w') (hn : r ∉ l) : RD w' r t k mv := by
  unfold RD; rw [hx.block r h.lt hn]; exact h
theorem RD.step {w : World} {r : Nat} {t : ByteArray} {k : Nat} {mv : Rest} (h : RD w r t k mv) : RD (w.setCell ⟨r, 1, none⟩ (.int .i64 ((k + 1 : Nat) : Int))) r t (k + 1) mv := by
  unfold RD at h ⊢
  simp [World.setCell, Array.getElem?_modify, h]

theorem RD.f1 {w : World} {r : Nat} {t : ByteArray} {k : Nat} {mv : Rest} (h : RD w r t k mv) : w.frozen? ⟨r, 1, none⟩ = false := by
  unfold RD at h; simp [World.frozen?, h]

theorem RD.bk {w : World} {r : Nat} {t : ByteArray} {k : Nat} {mv : Rest} (h : RD w r t k mv) : BK w r (.cells #[.string t, .int .i64 k, .int .i64 mv.d, .bool mv.f, .int .i64 mv.g, mv.m] 63 (0, 0)) := h

end Go.Proofs.YtmeffeigamaipaaDoor.Rx.Q

/- A region that draws its order, reads cells, and in the end writes one that it read: what is read holds behind the first n operations alone; those behind them wait for the reads. -/
namespace Go.Proofs.YtmeffeigamaipaaDoor.Rx
open Go.RowKit

section
variable {P : Program} {ops : Array Oper} {Q : Exit → Act → World → Prop} {md : Region.Mode} {S : Nat → World → Prop} {T : World → Prop}

end
end Go.Proofs.YtmeffeigamaipaaDoor.Rx

/- Contracts of the sets of runes. -/
namespace Go.Proofs.YtmeffeigamaipaaDoor.Rx.Q
open Go.RowKit

structure Cls where
  lo : Int
  hi : Int
  hg : Bool
def clsV (c : Cls) : Value := .agg #[.int .u64 c.lo, .int .u64 c.hi, .bool c.hg]

def Cls.word (c : Cls) (r : Nat) : Int := if r / 64 = 0 then c.lo else c.hi
def shv (x : Int) (r : Int) : Int := x / 2 ^ min (bits BinOp.and IntKind.i32 r 63).toNat 64
def hasL (c : Cls) (r : Nat) : Bool := bits BinOp.and IntKind.u64 (shv (c.word r) r) 1 == 1
def hasC (c : Cls) (r : Int) : Bool := if 128 ≤ r then c.hg else hasL c r.toNat

theorem idx_word (c : Cls) (r : Nat) (hr : r < 128) : [Value.int IntKind.u64 c.lo, Value.int IntKind.u64 c.hi, Value.bool c.hg][r / 64]? = some (.int .u64 (c.word r)) := by
  have : r / 64 = 0 ∨ r / 64 = 1 := by omega
  unfold Cls.word
  rcases this with h | h <;> rw [h] <;> rfl
theorem low_nonneg : ∀ r : Fin 128, 0 ≤ bits BinOp.and IntKind.i32 ((r.val : Nat) : Int) 63 := by decide +kernel
theorem shift_word (x : Int) (r : Nat) (hr : r < 128) (W : World) : (Op.shift BinOp.shr IntKind.u64 x IntKind.i32 (bits BinOp.and IntKind.i32 (r : Int) 63)).run Tryd.prog W = .ok (.int .u64 (shv x r)) W := by
  rw [shift_shr_any _ _ _ _ (low_nonneg ⟨r, hr⟩)]
  rfl

set_option maxHeartbeats 1000000 in
set_option maxRecDepth 100000 in
theorem has_low (c : Cls) (r : Nat) (w : World) (hr : r < 128) : Calls Tryd.prog 39 #[clsV c, .int .i32 r] w fun e w' => e = .returned (.bool (hasL c r)) ∧ Ex [] w w' := by
  have hidx := idx_word c r hr
  have hsh := shift_word (c.word r) r hr
  unfold clsV hasL
  go_enter Tryd.func39, Tryd.ntmps39
  go_wp2_with fail
  go_ret
  exact ⟨rfl, (Ex.refl _ _).alloc _⟩

set_option maxHeartbeats 1000000 in
set_option maxRecDepth 100000 in
theorem has_any (c : Cls) (r : Int) (w : World) (hr : 0 ≤ r) : Calls Tryd.prog 39 #[clsV c, .int .i32 r] w fun e w' => e = .returned (.bool (hasC c r)) ∧ Ex [] w w' := by
  unfold hasC
  by_cases h : 128 ≤ r
  · rw [if_pos h]
    unfold clsV
    go_enter Tryd.func39, Tryd.ntmps39
    go_wp2_with fail
    go_ret
    exact ⟨rfl, (Ex.refl _ _).alloc _⟩
  · rw [if_neg h]
    obtain ⟨n, rfl⟩ := Int.eq_ofNat_of_zero_le hr
    exact has_low c n w (by omega)

end Go.Proofs.YtmeffeigamaipaaDoor.Rx.Q

/- Contracts of the pattern reader: a byte that stands for itself, bare or behind a backslash. -/
namespace Go.Proofs.YtmeffeigamaipaaDoor.Rx.Q
open Go.RowKit

end Go.Proofs.YtmeffeigamaipaaDoor.Rx.Q

/- Contracts of the pattern reader at bytes that stand for themselves: a branch, an expression, the face. -/
namespace Go.Proofs.YtmeffeigamaipaaDoor.Rx.Q
open Go.RowKit

end Go.Proofs.YtmeffeigamaipaaDoor.Rx.Q

/- Contracts of the pattern reader at bytes that stand for themselves: the mark ahead of all, the face. -/
namespace Go.Proofs.YtmeffeigamaipaaDoor.Rx.Q
open Go.RowKit

end Go.Proofs.YtmeffeigamaipaaDoor.Rx.Q

/- Contracts of the weight and of the builder of programs, at a row of single runes. -/
namespace Go.Proofs.YtmeffeigamaipaaDoor.Rx.Q
open Go.RowKit

end Go.Proofs.YtmeffeigamaipaaDoor.Rx.Q

/- The contract of regex.Read at a text of dots. -/
namespace Go.Proofs.YtmeffeigamaipaaDoor.Rx
open Go.RowKit

theorem RD.bk {w : World} {r : Nat} {t : ByteArray} {k : Nat} {mv : Value} (h : RD w r t k mv) : BK w r (.cells #[.string t, .int .i64 k, .int .i64 0, .bool false, .int .i64 0, mv] 63 (0, 0)) := h

end Go.Proofs.YtmeffeigamaipaaDoor.Rx

/- Contracts of the ways between instructions and of regex.Read, at a row of single runes. -/
namespace Go.Proofs.YtmeffeigamaipaaDoor.Rx.Q
open Go.RowKit

end Go.Proofs.YtmeffeigamaipaaDoor.Rx.Q

/- regex.Read at a text that is no pattern, and at one byte that stands for itself. -/
namespace Go.Proofs.YtmeffeigamaipaaDoor.G
open Go.RowKit

end Go.Proofs.YtmeffeigamaipaaDoor.G
