/- G15 G16 Q1 Ord Q2 Q3 Q4 Q5 Q6 W11 Q7 G17, one behind the other. -/
import Derived.Test.YtgmjjhmnchefbaaGreatDoorM13
import Derived.Recover
import Derived.Test.YtgmjjhmnchefbaaGreatDoorProg
import Derived.WalkKit
import Derived.OrdersHeld
import Derived.StillTail
import Derived.Deep.MidRow
import Derived.Handy
import Derived.Deep.RegionHeld3
import Derived.Deep.LoopGhost
import Derived.Test.YtgmjjhmnchefbaaGreatDoorM17
set_option linter.unusedVariables false
set_option linter.unusedSimpArgs false
/- The pattern reader's face: what it makes of a text, or where it gives up. -/
namespace Go.Proofs.YtgmjjhmnchefbaaGreatDoor.G
open Go.RowKit

theorem prefix3 (t : ByteArray) (a b c : UInt8) : Lib.hasPrefix t.data.toList [a, b, c] = decide (byteAt t 0 = some a ∧ byteAt t 1 = some b ∧ byteAt t 2 = some c) := by
  obtain ⟨⟨l⟩⟩ := t
  unfold Lib.hasPrefix byteAt
  rw [Bool.eq_iff_iff, decide_eq_true_iff]
  cases l with
  | nil => simp
  | cons x l =>
    cases l with
    | nil => simp
    | cons y l =>
      cases l with
      | nil => simp
      | cons z l =>
        simp only [List.isPrefixOf_cons_cons, List.isPrefixOf_nil_left, Bool.and_true, Bool.and_eq_true, beq_iff_eq, List.getElem?_toArray, List.getElem?_cons_zero, List.getElem?_cons_succ, Option.some.injEq]
        constructor
        · rintro ⟨h1, h2, h3⟩; exact ⟨h1.symm, h2.symm, h3.symm⟩
        · rintro ⟨h1, h2, h3⟩; exact ⟨h1.symm, h2.symm, h3.symm⟩

theorem RG.at3 {w : World} {r mb : Nat} {t : ByteArray} {x : EV} {s : RS} (h : RG w r mb t x s) (h3 : 3 ≤ t.size) : RG (w.setCell ⟨r, 1, none⟩ (.int .i64 3)) r mb t x { s with k := 3 } :=
  h.own (s' := { s with k := 3 }) rfl _ rfl h3 (by
    have h1 := h.rd
    unfold RD at h1 ⊢
    simp [World.setCell, Array.getElem?_modify, h1])
theorem RG.fold {w : World} {r mb : Nat} {t : ByteArray} {x : EV} {s : RS} (h : RG w r mb t x s) : RG (w.setCell ⟨r, 3, none⟩ (.bool true)) r mb t x { s with f := true } :=
  h.own (s' := { s with f := true }) rfl _ rfl h.hk (by
    have h1 := h.rd
    unfold RD at h1 ⊢
    simp [World.setCell, Array.getElem?_modify, h1])

set_option maxHeartbeats 400000 in
theorem gFold {w : World} {r mb : Nat} {t : ByteArray} {x : EV} (h : RG w r mb t x startS) :
    Calls Tryz.prog 44 #[.pointer (some ⟨r, 0, none⟩)] w fun e w' => Post [r] r mb t x w (fun _ v _ => v = .tuple #[]) (foldM t) e w' := by
  have hpre := prefix3 t 40 63 105
  have h0 := h.rd.c0
  have hlt := h.lt
  have hf1 := h.fz 1
  have hc1 := h.rd.c1
  have H := hide h
  clear h
  by_cases hp : byteAt t 0 = some 40 ∧ byteAt t 1 = some 63 ∧ byteAt t 2 = some 105
  · rw [decide_eq_true hp] at hpre
    have h3 : 3 ≤ t.size := (byteAt_some hp.2.2).1
    have HF : Hid (foldM t = (mustM t { startS with k := 3 } 41).bind fun _ s => .ok () { s with f := true }) := by show foldM t = _; unfold foldM; rw [if_pos hp]
    clear hp
    go_enter Tryz.func44, Tryz.ntmps44
    go_wp2_with (go_at_call 64; refine (Tryz.strings_HasPrefix _ _ _).mono ?_; rintro e w' ⟨rfl, rfl⟩)
    refine (gMust (H.out.at3 h3) 41 41 rfl).mono ?_
    rintro e w1 hp
    rcases hp.split with ⟨_, s1, v, hm, rfl, rfl, hg1, hx1⟩ | ⟨s9, hm, rfl, hg, hx⟩
    rotate_left
    · exact body_panic rfl (Post.mkBad (by rw [HF.out, hm]; rfl) hg (((Ex.refl _ _).setCell (Or.inl (by simp)) _).trans hx))
    have HM : Hid (foldM t = .ok () { s1 with f := true }) := by show foldM t = _; rw [HF.out, hm]; rfl
    have hf3 := hg1.fz 3
    have hc3 := hg1.rd.c3
    have hl1 := hg1.lt
    have G1 := hide hg1
    have X1 := hide hx1
    clear hp hm hg1 hx1 h0 hf1 hc1
    go_wp2_with fail
    go_end0
    exact Post.mkOk HM.out rfl G1.out.fold ((((Ex.refl _ _).setCell (Or.inl (by simp)) _).trans X1.out).setCell (Or.inl (by simp)) _)
  · rw [decide_eq_false hp] at hpre
    have HF : Hid (foldM t = .ok () startS) := by show foldM t = _; unfold foldM; rw [if_neg hp]
    clear hp
    go_enter Tryz.func44, Tryz.ntmps44
    go_wp2_with (go_at_call 64; refine (Tryz.strings_HasPrefix _ _ _).mono ?_; rintro e w' ⟨rfl, rfl⟩)
    go_end0
    exact Post.mkOk HF.out rfl H.out (Ex.refl _ _)

theorem catch_idle (p q : Addr) (w : World) :
    CallsD Tryz.prog 43 #[.pointer (some p), .pointer (some q)] .returning w fun e u' w' => e = .returned (.tuple #[]) ∧ u' = .returning ∧ w' = w := by
  refine callsD_of_wpS Tryz.func43 rfl fun c₀ cs hu => ?_
  apply wpS_seq
  apply wpS_region
  simp [wpOpsS, go_sem, recoverD, hu, Tryz.ntmps43, Exit.thenS]
  refine wpS_cond (t := false) (by simp [Act.eval, Array.replicate]) ?_
  simp only [Bool.false_eq_true, if_false]
  refine wpS_of_wp (wp_skip ?_)
  cases c₀
  simp_all [bodyPostS, results, Tryz.results43]


set_option maxRecDepth 100000 in
theorem catch_panic {wb ob : Nat} {u : TypeId} {pv : Value} {older : List PanicEntry} {w : World} {cs : Array Value} {b : Value} (hA : BK w wb (.cells cs 76 (0, 0))) (hs : cs.size = 9) (hB : BK w ob (.cells #[b] 4 (0, 0))) (hne : wb ≠ ob) :
    CallsD Tryz.prog 43 #[.pointer (some ⟨wb, 0, none⟩), .pointer (some ⟨ob, 0, none⟩)] (.panicking ({ v := .iface u pv, recovered := false } :: older)) w fun e u' w' =>
      e = .returned (.tuple #[]) ∧ u' = .panicking ({ v := .iface u pv, recovered := true } :: older) ∧ BK w' wb (.cells #[.int .i64 0, .slice none 0 0, .int .u64 0, .int .u64 0, .bool false, .int .i64 0, .int .i64 0, .int .i64 0, .bool false] 76 (0, 0)) ∧ BK w' ob (.cells #[.bool false] 4 (0, 0)) ∧ Ex [wb, ob] w w' := by
  have HSZ : (Tryz.prog.info? 76).map (·.size) = some (#[.int .i64 0, .slice none 0 0, .int .u64 0, .int .u64 0, .bool false, .int .i64 0, .int .i64 0, .int .i64 0, .bool false] : Array Value).size := partSize
  have HAL : (#[.int .i64 0, .slice none 0 0, .int .u64 0, .int .u64 0, .bool false, .int .i64 0, .int .i64 0, .int .i64 0, .bool false] : Array Value).all (·.oneCell') = true := by simp [Value.oneCell']
  refine callsD_of_wpS Tryz.func43 rfl fun c₀ cs hu => ?_
  apply wpS_seq
  apply wpS_region
  simp [wpOpsS, go_sem, recoverD, hu, Tryz.ntmps43, Exit.thenS]
  refine wpS_cond (t := true) (by simp [Act.eval, Array.replicate]) ?_
  simp only [if_true]
  refine wpS_of_wp ?_
  have HA := hide hA
  have HB := hide hB
  have hB2 : BK (w.setRow wb #[.int .i64 0, .slice none 0 0, .int .u64 0, .int .u64 0, .bool false, .int .i64 0, .int .i64 0, .int .i64 0, .bool false]) ob (.cells #[b] 4 (0, 0)) := by unfold BK; rw [setRow_other _ _ _ _ (Ne.symm hne)]; exact hB
  have hA2 : BK (w.setRow wb #[.int .i64 0, .slice none 0 0, .int .u64 0, .int .u64 0, .bool false, .int .i64 0, .int .i64 0, .int .i64 0, .bool false]) wb (.cells #[.int .i64 0, .slice none 0 0, .int .u64 0, .int .u64 0, .bool false, .int .i64 0, .int .i64 0, .int .i64 0, .bool false] 76 (0, 0)) := setRow_heap _ _ _ _ _ _ hA
  have hx2 : Ex [wb, ob] w (w.setRow wb #[.int .i64 0, .slice none 0 0, .int .u64 0, .int .u64 0, .bool false, .int .i64 0, .int .i64 0, .int .i64 0, .bool false]) := (Ex.refl _ _).setRow (Or.inl (by simp)) _
  obtain ⟨hcB, hfB⟩ := hB2.all
  have hBl := hB2.lt
  have HB2 := hide hB2
  have HA2 := hide hA2
  have HX2 := hide hx2
  clear hA hB hB2 hA2 hx2
  go_wp2_with (refine wpList_store_row rfl 76 _ _ rfl wb #[.int .i64 0, .slice none 0 0, .int .u64 0, .int .u64 0, .bool false, .int .i64 0, .int .i64 0, .int .i64 0, .bool false] rfl rfl 76 _ HA.out HSZ (by exact hs) HAL ?_)
  have hA3 := HA2.out.set (p := ⟨ob, 0, none⟩) hne (.bool false)
  have hB3 := HB2.out.self 0 (.bool false)
  have hx3 := HX2.out.setCell (p := ⟨ob, 0, none⟩) (Or.inl (by simp)) (.bool false)
  simp only [List.setIfInBounds_toArray, List.set_cons_zero] at hB3
  simp [bodyPostS, results, Tryz.results43]
  exact ⟨hA3, hB3, hx3⟩
end Go.Proofs.YtgmjjhmnchefbaaGreatDoor.G

/- The pattern reader's face, whatever the text. -/
namespace Go.Proofs.YtgmjjhmnchefbaaGreatDoor.G
open Go.RowKit

def RFP (t : ByteArray) (x : EV) (w : World) (r mb : Nat) (m : Res Pt) (e : Ending) (w' : World) : Prop := match m with
  | .ok p s' => (∃ u : PV, e = .returned (.tuple #[.pointer (some ⟨r, 0, none⟩), u.val, .bool true]) ∧ PR w' (Btw w.heap.size w'.heap.size) p u) ∧ RG w' r mb t x s' ∧ Ex [] w w'
  | .bad s' => e = .returned (.tuple #[.pointer (some ⟨r, 0, none⟩), .agg #[.int .i64 0, .slice none 0 0, .int .u64 0, .int .u64 0, .bool false, .int .i64 0, .int .i64 0, .int .i64 0, .bool false], .bool false]) ∧ RG w' r mb t x s' ∧ Ex [] w w'
theorem RFP.mkBad {t : ByteArray} {x : EV} {w w' : World} {r mb : Nat} {m : Res Pt} {s' : RS} (hm : m = .bad s') (hg : RG w' r mb t x s') (hx : Ex [] w w') : RFP t x w r mb m (.returned (.tuple #[.pointer (some ⟨r, 0, none⟩), .agg #[.int .i64 0, .slice none 0 0, .int .u64 0, .int .u64 0, .bool false, .int .i64 0, .int .i64 0, .int .i64 0, .bool false], .bool false])) w' := by
  subst hm; exact ⟨rfl, hg, hx⟩
theorem RFP.mkOk {t : ByteArray} {x : EV} {w w' : World} {r mb : Nat} {m : Res Pt} {p : Pt} {s' : RS} {u : PV} (hm : m = .ok p s') (hp : PR w' (Btw w.heap.size w'.heap.size) p u) (hg : RG w' r mb t x s') (hx : Ex [] w w') : RFP t x w r mb m (.returned (.tuple #[.pointer (some ⟨r, 0, none⟩), u.val, .bool true])) w' := by
  subst hm; exact ⟨⟨u, rfl, hp⟩, hg, hx⟩

theorem startRG {w : World} {t : ByteArray} {x : EV} (hev : w.cell? ⟨0, 0, none⟩ = some (.iface x.1 x.2)) (ht : t.size ≤ 60) :
    RG ((((w.alloc (Obj.cells #[.int .i64 0, .slice none 0 0, .int .u64 0, .int .u64 0, .bool false, .int .i64 0, .int .i64 0, .int .i64 0, .bool false] 76)).alloc (Obj.cells #[.bool false] 4)).alloc (Obj.map #[] 0)).alloc (Obj.cells #[.string t, .int .i64 0, .int .i64 0, .bool false, .int .i64 0, .map (some (w.heap.size + 1 + 1))] 80)) (w.heap.size + 1 + 1 + 1) (w.heap.size + 1 + 1) t x startS := by
  have hlt := lt_of_cell hev
  refine ⟨?_, ?_, ?_, by omega, by omega, by omega, Nat.zero_le _, ht, fun _ hx => by simp [startS] at hx⟩
  · have := heap_alloc_new (((w.alloc (Obj.cells #[.int .i64 0, .slice none 0 0, .int .u64 0, .int .u64 0, .bool false, .int .i64 0, .int .i64 0, .int .i64 0, .bool false] 76)).alloc (Obj.cells #[.bool false] 4)).alloc (Obj.map #[] 0)) (Obj.cells #[.string t, .int .i64 0, .int .i64 0, .bool false, .int .i64 0, .map (some (w.heap.size + 1 + 1))] 80)
    simpa [RD, startS] using this
  · have := BK.alloc (BK.new ((w.alloc (Obj.cells #[.int .i64 0, .slice none 0 0, .int .u64 0, .int .u64 0, .bool false, .int .i64 0, .int .i64 0, .int .i64 0, .bool false] 76)).alloc (Obj.cells #[.bool false] 4)) (Obj.map #[] 0)) (Obj.cells #[.string t, .int .i64 0, .int .i64 0, .bool false, .int .i64 0, .map (some (w.heap.size + 1 + 1))] 80)
    simp only [World.size_alloc] at this
    exact this
  · have hx : Ex [] w ((((w.alloc (Obj.cells #[.int .i64 0, .slice none 0 0, .int .u64 0, .int .u64 0, .bool false, .int .i64 0, .int .i64 0, .int .i64 0, .bool false] 76)).alloc (Obj.cells #[.bool false] 4)).alloc (Obj.map #[] 0)).alloc (Obj.cells #[.string t, .int .i64 0, .int .i64 0, .bool false, .int .i64 0, .map (some (w.heap.size + 1 + 1))] 80)) := ((((Ex.refl _ _).alloc _).alloc _).alloc _).alloc _
    exact (hx.cell0.1 _ _ hlt).trans hev

set_option maxHeartbeats 2000000 in
set_option maxRecDepth 100000 in
theorem gReadForm {w : World} {t : ByteArray} {x : EV} (hev : w.cell? ⟨0, 0, none⟩ = some (.iface x.1 x.2)) (ht : t.size ≤ 60) (hnp : NP t) :
    Calls Tryz.prog 21 #[.string t] w fun e w' => ∃ r mb, w.heap.size ≤ min r mb ∧ RFP t x w r mb (readM t) e w' := by
  have hmf : ∀ (fn : Fn) (first cap : Array Value) (w : World), (Instr.makeFunc fn first cap).run Tryz.prog w = .ok (.func fn first cap) w := fun _ _ _ _ => rfl
  have hmm := @run_makeMap Tryz.prog
  have helt := lt_of_cell hev
  have HNP := hide hnp
  have HRG := hide (startRG hev ht)
  clear hev hnp
  go_enter_defers Tryz.func21, Tryz.ntmps21
  go_wp2_with fail
  refine (gFold HRG.out).mono ?_
  rintro e w1 hp
  rcases hp.split with ⟨_, s1, v, hm, rfl, rfl, hg1, hx1⟩ | ⟨s1, hm, rfl, hg1, hx1⟩
  all_goals
    have hA1 : BK w1 w.heap.size (.cells #[.int .i64 0, .slice none 0 0, .int .u64 0, .int .u64 0, .bool false, .int .i64 0, .int .i64 0, .int .i64 0, .bool false] 76 (0, 0)) := ((((BK.new _ _).alloc _).alloc _).alloc _).ex hx1 (by simp; omega)
    have hB1 : BK w1 (w.heap.size + 1) (.cells #[.bool false] 4 (0, 0)) := (((by simpa using BK.new (w.alloc (Obj.cells #[.int .i64 0, .slice none 0 0, .int .u64 0, .int .u64 0, .bool false, .int .i64 0, .int .i64 0, .int .i64 0, .bool false] 76)) (.cells #[.bool false] 4) : BK _ _ _).alloc _).alloc _).ex hx1 (by simp)
    have hX1 : Ex [w.heap.size + 1 + 1 + 1] w w1 := ((((((Ex.refl _ _).alloc _).alloc _).alloc _).alloc _)).trans hx1
    have hz1 : w.heap.size + 1 + 1 + 1 < w1.heap.size := by have := hx1.size; simp at this; omega
  rotate_left
  · have MM : readM t = .bad s1 := by unfold readM; rw [hm]; rfl
    refine leaves_cons (f := 43) (args := #[.pointer (some ⟨w.heap.size, 0, none⟩), .pointer (some ⟨w.heap.size + 1, 0, none⟩)]) (by simp) (by simp [go_sem]) ?_
    refine (catch_panic hA1 rfl hB1 (by omega)).mono ?_
    rintro e u' w9 ⟨rfl, rfl, hA9, hB9, hx9⟩
    obtain ⟨hcA, hfA⟩ := hA9.all
    obtain ⟨hcB, hfB⟩ := hB9.all
    refine ⟨.tuple #[.pointer (some ⟨w.heap.size + 1 + 1 + 1, 0, none⟩), .agg #[.int .i64 0, .slice none 0 0, .int .u64 0, .int .u64 0, .bool false, .int .i64 0, .int .i64 0, .int .i64 0, .bool false], .bool false], ?_, w.heap.size + 1 + 1 + 1, w.heap.size + 1 + 1, by omega, RFP.mkBad MM (hg1.ex hx9 (by simp only [List.mem_cons, List.not_mem_nil, or_false]; omega) (by simp only [List.mem_cons, List.not_mem_nil, or_false]; omega) (by simp only [List.mem_cons, List.not_mem_nil, or_false]; omega)) ?_⟩
    · simp [results, Tryz.results21, go_sem, hcA, hcB]
    · refine Ex.drop (l := [w.heap.size + 1 + 1 + 1, w.heap.size + 1 + 1, w.heap.size, w.heap.size + 1]) ?_ (by simp; omega)
      exact (hX1.drop (by simp)).trans (hx9.drop (by simp))
  have M1 := hide hm
  have G1 := hide hg1
  have A1 := hide hA1
  have B1 := hide hB1
  have X1 := hide hX1
  have hs1 : s1.g ≤ 5 ∧ s1.d = 0 := by
    unfold foldM at hm
    split at hm
    · obtain ⟨_, s2, h1, h2⟩ := Res.bind_eq_ok hm
      obtain ⟨_, rfl⟩ := mustM_ok h1
      cases h2; exact ⟨Nat.zero_le _, rfl⟩
    · cases hm; exact ⟨Nat.zero_le _, rfl⟩
  clear hp hm hg1 hx1 hA1 hB1 hX1 HRG
  go_wp2_with fail
  refine ((gExprAt HNP.out 7 0 (by omega) (by omega)) w1 s1 G1.out hs1.1 hs1.2).mono ?_
  rintro e w2 hp
  rcases hp.split with ⟨q, s2, v, hm, rfl, hRP, hg1, hx1⟩ | ⟨s2, hm, rfl, hg1, hx1⟩
  all_goals
    have hA1 := A1.out.ex hx1 (by simp; omega)
    have hB1 := B1.out.ex hx1 (by simp)
    have hX1 : Ex [w.heap.size + 1 + 1 + 1, w.heap.size + 1 + 1] w w2 := (X1.out.drop (by simp)).trans hx1
    have hz2 : w1.heap.size ≤ w2.heap.size := hx1.size
  rotate_left
  · have MM : readM t = .bad s2 := by unfold readM; rw [M1.out, Res.bind_ok, hm]; rfl
    refine leaves_cons (f := 43) (args := #[.pointer (some ⟨w.heap.size, 0, none⟩), .pointer (some ⟨w.heap.size + 1, 0, none⟩)]) (by simp) (by simp [go_sem]) ?_
    refine (catch_panic hA1 rfl hB1 (by omega)).mono ?_
    rintro e u' w9 ⟨rfl, rfl, hA9, hB9, hx9⟩
    obtain ⟨hcA, hfA⟩ := hA9.all
    obtain ⟨hcB, hfB⟩ := hB9.all
    refine ⟨.tuple #[.pointer (some ⟨w.heap.size + 1 + 1 + 1, 0, none⟩), .agg #[.int .i64 0, .slice none 0 0, .int .u64 0, .int .u64 0, .bool false, .int .i64 0, .int .i64 0, .int .i64 0, .bool false], .bool false], ?_, w.heap.size + 1 + 1 + 1, w.heap.size + 1 + 1, by omega, RFP.mkBad MM (hg1.ex hx9 (by simp only [List.mem_cons, List.not_mem_nil, or_false]; omega) (by simp only [List.mem_cons, List.not_mem_nil, or_false]; omega) (by simp only [List.mem_cons, List.not_mem_nil, or_false]; omega)) ?_⟩
    · simp [results, Tryz.results21, go_sem, hcA, hcB]
    · refine Ex.drop (l := [w.heap.size + 1 + 1 + 1, w.heap.size + 1 + 1, w.heap.size, w.heap.size + 1]) ?_ (by simp; omega)
      exact (hX1.drop (by simp)).trans (hx9.drop (by simp))
  obtain ⟨u, rfl, hpr⟩ := hRP
  have M2 : Hid (readM t = if s2.k = t.size then .ok q s2 else .bad s2) := by show readM t = _; unfold readM; rw [M1.out, Res.bind_ok, hm]; rfl
  have HPR := hide hpr
  have G2 := hide hg1
  have A2 := hide hA1
  have B2 := hide hB1
  have X2 := hide hX1
  obtain ⟨kd, up, un, uc, ulo, uhi, uhg, ug, ul, um, uz⟩ := u
  have HAL : Hid ((#[.int .i64 kd, .slice up un uc, .int .u64 ulo, .int .u64 uhi, .bool uhg, .int .i64 ug, .int .i64 ul, .int .i64 um, .bool uz] : Array Value).all (·.oneCell') = true) := by show Array.all _ _ = true; simp [Value.oneCell']
  have HSZ : Hid ((Tryz.prog.info? 76).map (·.size) = some (#[.int .i64 kd, .slice up un uc, .int .u64 ulo, .int .u64 uhi, .bool uhg, .int .i64 ug, .int .i64 ul, .int .i64 um, .bool uz] : Array Value).size) := partSize
  clear hp hm hg1 hx1 hA1 hB1 hX1 hpr G1 A1 B1 X1 M1
  unfold PV.val
  go_wp2_with (refine wpList_store_row rfl 76 _ _ rfl w.heap.size #[.int .i64 kd, .slice up un uc, .int .u64 ulo, .int .u64 uhi, .bool uhg, .int .i64 ug, .int .i64 ul, .int .i64 um, .bool uz] rfl rfl 76 _ A2.out HSZ.out rfl HAL.out ?_)
  have hX3 : Ex [w.heap.size] w2 (w2.setRow w.heap.size #[.int .i64 kd, .slice up un uc, .int .u64 ulo, .int .u64 uhi, .bool uhg, .int .i64 ug, .int .i64 ul, .int .i64 um, .bool uz]) := (Ex.refl _ _).setRow (Or.inl (by simp)) _
  have G3 := hide (G2.out.ex hX3 (by simp only [List.mem_cons, List.not_mem_nil, or_false]; omega) (by simp only [List.mem_cons, List.not_mem_nil, or_false]; omega) (by simp only [List.mem_cons, List.not_mem_nil, or_false]; omega))
  have A3 := hide (setRow_heap w2 w.heap.size #[.int .i64 0, .slice none 0 0, .int .u64 0, .int .u64 0, .bool false, .int .i64 0, .int .i64 0, .int .i64 0, .bool false] #[.int .i64 kd, .slice up un uc, .int .u64 ulo, .int .u64 uhi, .bool uhg, .int .i64 ug, .int .i64 ul, .int .i64 um, .bool uz] 76 (0, 0) A2.out)
  have B3 := hide (B2.out.ex hX3 (by simp))
  have X3 := hide hX3
  clear hX3
  refine (gEnded G3.out).mono ?_
  rintro e w4 ⟨rfl, n4, hw4⟩
  have X4 : Hid (Ex [w.heap.size] w2 w4) := by rw [hw4]; exact X3.out.drewN _
  have G4 : Hid (RG w4 (w.heap.size + 1 + 1 + 1) (w.heap.size + 1 + 1) t x s2) := by rw [hw4]; exact G3.out.drewN _
  have A4 : Hid (BK w4 w.heap.size (.cells #[.int .i64 kd, .slice up un uc, .int .u64 ulo, .int .u64 uhi, .bool uhg, .int .i64 ug, .int .i64 ul, .int .i64 um, .bool uz] 76 (0, 0))) := by rw [hw4]; exact BK.drewN A3.out _
  have B4 : Hid (BK w4 (w.heap.size + 1) (.cells #[.bool false] 4 (0, 0))) := by rw [hw4]; exact BK.drewN B3.out _
  clear hw4 X3 G3 A3 B3
  by_cases hend : s2.k = t.size
  rotate_left
  · rw [decide_eq_false hend]
    have MM : readM t = .bad s2 := by rw [M2.out, if_neg hend]
    have hev4 := G4.out.ev
    have hA1 := A4.out
    have hB1 := B4.out
    have hg1 := G4.out
    have hX1 : Ex [w.heap.size + 1 + 1 + 1, w.heap.size + 1 + 1, w.heap.size] w w4 := (X2.out.drop (by simp)).trans (X4.out.drop (by simp))
    have HMM := hide MM
    have HA1 := hide hA1
    have HB1 := hide hB1
    have HG1 := hide hg1
    have HX1 := hide hX1
    clear MM hA1 hB1 hg1 hX1
    go_wp2_with fail
    have MM := HMM.out
    have hA1 := HA1.out
    have hB1 := HB1.out
    have hg1 := HG1.out
    have hX1 := HX1.out
    refine leaves_cons (f := 43) (args := #[.pointer (some ⟨w.heap.size, 0, none⟩), .pointer (some ⟨w.heap.size + 1, 0, none⟩)]) (by simp) (by simp [go_sem]) ?_
    refine (catch_panic hA1 rfl hB1 (by omega)).mono ?_
    rintro e u' w9 ⟨rfl, rfl, hA9, hB9, hx9⟩
    obtain ⟨hcA, hfA⟩ := hA9.all
    obtain ⟨hcB, hfB⟩ := hB9.all
    refine ⟨.tuple #[.pointer (some ⟨w.heap.size + 1 + 1 + 1, 0, none⟩), .agg #[.int .i64 0, .slice none 0 0, .int .u64 0, .int .u64 0, .bool false, .int .i64 0, .int .i64 0, .int .i64 0, .bool false], .bool false], ?_, w.heap.size + 1 + 1 + 1, w.heap.size + 1 + 1, by omega, RFP.mkBad MM (hg1.ex hx9 (by simp only [List.mem_cons, List.not_mem_nil, or_false]; omega) (by simp only [List.mem_cons, List.not_mem_nil, or_false]; omega) (by simp only [List.mem_cons, List.not_mem_nil, or_false]; omega)) ?_⟩
    · simp [results, Tryz.results21, go_sem, hcA, hcB]
    · refine Ex.drop (l := [w.heap.size + 1 + 1 + 1, w.heap.size + 1 + 1, w.heap.size, w.heap.size + 1]) ?_ (by simp; omega)
      exact (hX1.drop (by simp)).trans (hx9.drop (by simp))
  rw [decide_eq_true hend]
  have MM : Hid (readM t = .ok q s2) := by show readM t = _; rw [M2.out, if_pos hend]
  have hPR4 := PR.ex (lo' := w.heap.size + 1 + 1) (hi' := w4.heap.size) HPR.out X4.out (by simp; omega) (by omega) X4.out.size
  have HPR4 := hide hPR4
  have hz4 : w2.heap.size ≤ w4.heap.size := X4.out.size
  obtain ⟨hcA, hfA⟩ := A4.out.all
  obtain ⟨hcB, hfB⟩ := B4.out.all
  have hlA := A4.out.lt
  have hlB := B4.out.lt
  clear hend hPR4 HPR M2 G2 A2 B2
  go_wp2_with fail
  go_region
  go_wp2_with fail
  refine leaves_cons (f := 43) (args := #[.pointer (some ⟨w.heap.size, 0, none⟩), .pointer (some ⟨w.heap.size + 1, 0, none⟩)]) (by simp) (by simp [go_sem]) ?_
  refine (catch_idle ⟨w.heap.size, 0, none⟩ ⟨w.heap.size + 1, 0, none⟩ _).mono ?_
  rintro e u' w5 ⟨rfl, rfl, hw5⟩
  have hA5 : BK w5 w.heap.size (.cells #[.int .i64 kd, .slice up un uc, .int .u64 ulo, .int .u64 uhi, .bool uhg, .int .i64 ug, .int .i64 ul, .int .i64 um, .bool uz] 76) := by
    have h := BK_fill9 (unhide A4) rfl (.int .i64 kd) (.slice up un uc) (.int .u64 ulo) (.int .u64 uhi) (.bool uhg) (.int .i64 ug) (.int .i64 ul) (.int .i64 um) (.bool uz)
    rw [hw5]; exact BK.drew (BK.set h (by simp) _)
  have hB5 : BK w5 (w.heap.size + 1) (.cells #[.bool true] 4) := by
    have h := BK.ex (unhide B4) (Ex_fill9 w4 w.heap.size (.int .i64 kd) (.slice up un uc) (.int .u64 ulo) (.int .u64 uhi) (.bool uhg) (.int .i64 ug) (.int .i64 ul) (.int .i64 um) (.bool uz)) (by simp)
    have h' := BK.self h 0 (.bool true)
    simp only [List.setIfInBounds_toArray, List.set_cons_zero] at h'
    rw [hw5]; exact BK.drew h'
  have hx5 : Ex [w.heap.size, w.heap.size + 1] w4 w5 := by
    rw [hw5]
    refine Ex.drew (Ex.setCell ?_ (Or.inl (by simp)) _)
    exact (Ex_fill9 w4 w.heap.size (.int .i64 kd) (.slice up un uc) (.int .u64 ulo) (.int .u64 uhi) (.bool uhg) (.int .i64 ug) (.int .i64 ul) (.int .i64 um) (.bool uz)).drop (by simp)
  clear hw5 hcA hfA hcB hfB
  obtain ⟨hcA, hfA⟩ := hA5.all
  obtain ⟨hcB, hfB⟩ := hB5.all
  refine ⟨.tuple #[.pointer (some ⟨w.heap.size + 1 + 1 + 1, 0, none⟩), .agg #[.int .i64 kd, .slice up un uc, .int .u64 ulo, .int .u64 uhi, .bool uhg, .int .i64 ug, .int .i64 ul, .int .i64 um, .bool uz], .bool true], ?_, w.heap.size + 1 + 1 + 1, w.heap.size + 1 + 1, by omega, RFP.mkOk (u := ⟨kd, up, un, uc, ulo, uhi, uhg, ug, ul, um, uz⟩) MM.out ?_ (G4.out.ex hx5 (by simp only [List.mem_cons, List.not_mem_nil, or_false]; omega) (by simp only [List.mem_cons, List.not_mem_nil, or_false]; omega) (by simp only [List.mem_cons, List.not_mem_nil, or_false]; omega)) ?_⟩
  · simp [results, Tryz.results21, go_sem, hcA, hcB]
  · exact PR.ex HPR4.out hx5 (by simp; omega) (by omega) hx5.size
  · refine Ex.drop (l := [w.heap.size + 1 + 1 + 1, w.heap.size + 1 + 1, w.heap.size, w.heap.size + 1]) ?_ (by simp; omega)
    exact ((X2.out.drop (by simp)).trans (X4.out.drop (by simp))).trans (hx5.drop (by simp))
end Go.Proofs.YtgmjjhmnchefbaaGreatDoor.G

/- Contracts of the pattern reader's small functions, whatever the reader's other cells hold. -/
namespace Go.Proofs.YtgmjjhmnchefbaaGreatDoor.Rx.Q
open Go.RowKit

structure Rest where
  d : Nat
  f : Bool
  g : Nat
  m : Value
def RD (w : World) (r : Nat) (t : ByteArray) (k : Nat) (mv : Rest) : Prop :=
  w.heap[r]? = some (.cells #[.string t, .int .i64 k, .int .i64 mv.d, .bool mv.f, .int .i64 mv.g, mv.m] 80 (0, 0))

theorem RD.c0 {w : World} {r : Nat} {t : ByteArray} {k : Nat} {mv : Rest} (h : RD w r t k mv) : w.cell? ⟨r, 0, none⟩ = some (.string t) := by
  rw [cell_of_row w r 0 _ 80 (0, 0) h]; rfl
theorem RD.c1 {w : World} {r : Nat} {t : ByteArray} {k : Nat} {mv : Rest} (h : RD w r t k mv) : w.cell? ⟨r, 1, none⟩ = some (.int .i64 k) := by
  rw [cell_of_row w r 1 _ 80 (0, 0) h]; rfl
theorem RD.c3 {w : World} {r : Nat} {t : ByteArray} {k : Nat} {mv : Rest} (h : RD w r t k mv) : w.cell? ⟨r, 3, none⟩ = some (.bool mv.f) := by
  rw [cell_of_row w r 3 _ 80 (0, 0) h]; rfl
theorem RD.drew {w : World} {r : Nat} {t : ByteArray} {k : Nat} {mv : Rest} (h : RD w r t k mv) (n : Nat) : RD (w.drewN n) r t k mv := h
theorem RD.lt {w : World} {r : Nat} {t : ByteArray} {k : Nat} {mv : Rest} (h : RD w r t k mv) : r < w.heap.size := (Array.getElem?_eq_some_iff.1 h).1

theorem RD.ex {l : List Nat} {w w' : World} {r : Nat} {t : ByteArray} {k : Nat} {mv : Rest} (h : RD w r t k mv) (hx : Ex l w w') (hn : r ∉ l) : RD w' r t k mv := by
  unfold RD; rw [hx.block r h.lt hn]; exact h
theorem RD.step {w : World} {r : Nat} {t : ByteArray} {k : Nat} {mv : Rest} (h : RD w r t k mv) : RD (w.setCell ⟨r, 1, none⟩ (.int .i64 ((k + 1 : Nat) : Int))) r t (k + 1) mv := by
  unfold RD at h ⊢
  simp [World.setCell, Array.getElem?_modify, h]

theorem RD.f1 {w : World} {r : Nat} {t : ByteArray} {k : Nat} {mv : Rest} (h : RD w r t k mv) : w.frozen? ⟨r, 1, none⟩ = false := by
  unfold RD at h; simp [World.frozen?, h]

theorem RD.bk {w : World} {r : Nat} {t : ByteArray} {k : Nat} {mv : Rest} (h : RD w r t k mv) : BK w r (.cells #[.string t, .int .i64 k, .int .i64 mv.d, .bool mv.f, .int .i64 mv.g, mv.m] 80 (0, 0)) := h

end Go.Proofs.YtgmjjhmnchefbaaGreatDoor.Rx.Q

/- A region that draws its order, reads cells, and in the end writes one that it read: what is read holds behind the first n operations alone; those behind them wait for the reads. -/
namespace Go.Proofs.YtgmjjhmnchefbaaGreatDoor.Rx
open Go.RowKit

section
variable {P : Program} {ops : Array Oper} {Q : Exit → Act → World → Prop} {md : Region.Mode} {S : Nat → World → Prop} {T : World → Prop}

end
end Go.Proofs.YtgmjjhmnchefbaaGreatDoor.Rx

/- Contracts of the sets of runes. -/
namespace Go.Proofs.YtgmjjhmnchefbaaGreatDoor.Rx.Q
open Go.RowKit

structure Cls where
  lo : Int
  hi : Int
  hg : Bool
def Cls.word (c : Cls) (r : Nat) : Int := if r / 64 = 0 then c.lo else c.hi
def shv (x : Int) (r : Int) : Int := x / 2 ^ min (bits BinOp.and IntKind.i32 r 63).toNat 64
def hasL (c : Cls) (r : Nat) : Bool := bits BinOp.and IntKind.u64 (shv (c.word r) r) 1 == 1
def hasC (c : Cls) (r : Int) : Bool := if 128 ≤ r then c.hg else hasL c r.toNat

end Go.Proofs.YtgmjjhmnchefbaaGreatDoor.Rx.Q

/- Contracts of the pattern reader: a byte that stands for itself, bare or behind a backslash. -/
namespace Go.Proofs.YtgmjjhmnchefbaaGreatDoor.Rx.Q
open Go.RowKit

end Go.Proofs.YtgmjjhmnchefbaaGreatDoor.Rx.Q

/- Contracts of the pattern reader at bytes that stand for themselves: a branch, an expression, the face. -/
namespace Go.Proofs.YtgmjjhmnchefbaaGreatDoor.Rx.Q
open Go.RowKit

end Go.Proofs.YtgmjjhmnchefbaaGreatDoor.Rx.Q

/- Contracts of the pattern reader at bytes that stand for themselves: the mark ahead of all, the face. -/
namespace Go.Proofs.YtgmjjhmnchefbaaGreatDoor.Rx.Q
open Go.RowKit

end Go.Proofs.YtgmjjhmnchefbaaGreatDoor.Rx.Q

/- Contracts of the weight and of the builder of programs, at a row of single runes. -/
namespace Go.Proofs.YtgmjjhmnchefbaaGreatDoor.Rx.Q
open Go.RowKit

end Go.Proofs.YtgmjjhmnchefbaaGreatDoor.Rx.Q

/- The contract of regex.Read at a text of dots. -/
namespace Go.Proofs.YtgmjjhmnchefbaaGreatDoor.Rx
open Go.RowKit

theorem RD.bk {w : World} {r : Nat} {t : ByteArray} {k : Nat} {mv : Value} (h : RD w r t k mv) : BK w r (.cells #[.string t, .int .i64 k, .int .i64 0, .bool false, .int .i64 0, mv] 80 (0, 0)) := h

end Go.Proofs.YtgmjjhmnchefbaaGreatDoor.Rx

/- Contracts of the ways between instructions and of regex.Read, at a row of single runes. -/
namespace Go.Proofs.YtgmjjhmnchefbaaGreatDoor.Rx.Q
open Go.RowKit

end Go.Proofs.YtgmjjhmnchefbaaGreatDoor.Rx.Q

/- regex.Read at a text that is no pattern, and at one byte that stands for itself. -/
namespace Go.Proofs.YtgmjjhmnchefbaaGreatDoor.G
open Go.RowKit

set_option maxHeartbeats 1000000 in
set_option maxRecDepth 100000 in
theorem gRead_bad {w : World} {t : ByteArray} {x : EV} {s : RS} (hev : w.cell? ⟨0, 0, none⟩ = some (.iface x.1 x.2)) (ht : t.size ≤ 60) (hnp : NP t) (hb : readM t = .bad s) :
    Calls Tryz.prog 10 #[.string t] w fun e w' => e = .returned (.tuple #[.pointer none, .int .i64 (s.k : Int), .bool false]) ∧ Ex [] w w' := by
  have HEV := hide hev
  have HNP := hide hnp
  have HB := hide hb
  have ht' : ¬ (t.size : Int) > 60 := by omega
  clear hev hnp hb
  go_enter Tryz.func10, Tryz.ntmps10
  go_wp2_with fail
  refine (gReadForm HEV.out ht HNP.out).mono ?_
  rintro e w1 ⟨r, mb, hr, hp⟩
  rw [HB.out] at hp
  obtain ⟨rfl, hg, hx⟩ := hp
  have hc1 := hg.rd.c1
  have hl1 := hg.lt
  have G1 := hide hg
  have X1 := hide hx
  clear hg hx
  go_wp2_with fail
  go_region
  go_wp2_with fail
  go_ret3
  exact ⟨rfl, (X1.out.alloc _).drew⟩
end Go.Proofs.YtgmjjhmnchefbaaGreatDoor.G
