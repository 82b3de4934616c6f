/- W4 Q1, one behind the other. -/
import Derived.Test.YtmeffeigamaipabGreatDoorM34
import Derived.Test.YtmeffeigamaipabGreatDoorShelf
import Derived.Carry
set_option linter.unusedVariables false
set_option linter.unusedSimpArgs false
/- Contracts of the pattern reader at a text of dots: the face, behind which it would give up by a panic. -/
namespace Go.Proofs.YtmeffeigamaipabGreatDoor.Rx
open Go.RowKit

theorem hide {p : Prop} (h : p) : Hid p := h
theorem unhide {p : Prop} (h : Hid p) : p := h

theorem BK.self {w : World} {b : Nat} {cs : Array Value} {e : TypeId} (h : BK w b (.cells cs e (0, 0))) (i : Nat) (u : Value) : BK (w.setCell ⟨b, i, none⟩ u) b (.cells (cs.setIfInBounds i u) e (0, 0)) := by
  unfold BK at h ⊢
  simp [World.setCell, Array.getElem?_modify, h]
theorem nine {cs : Array Value} (h : cs.size = 9) : ∃ x0 x1 x2 x3 x4 x5 x6 x7 x8, cs = #[x0, x1, x2, x3, x4, x5, x6, x7, x8] := by
  obtain ⟨l⟩ := cs
  match l, h with
  | [x0, x1, x2, x3, x4, x5, x6, x7, x8], _ => exact ⟨x0, x1, x2, x3, x4, x5, x6, x7, x8, rfl⟩
/-- A part stored whole. -/
theorem BK.fill9 {w : World} {b : Nat} {cs : Array Value} {e : TypeId} (h : BK w b (.cells cs e (0, 0))) (hs : cs.size = 9) (a0 a1 a2 a3 a4 a5 a6 a7 a8 : Value) :
    BK (((((((((w.setCell ⟨b, 0, none⟩ a0).setCell ⟨b, 1, none⟩ a1).setCell ⟨b, 2, none⟩ a2).setCell ⟨b, 3, none⟩ a3).setCell ⟨b, 4, none⟩ a4).setCell ⟨b, 5, none⟩ a5).setCell ⟨b, 6, none⟩ a6).setCell ⟨b, 7, none⟩ a7).setCell ⟨b, 8, none⟩ a8) b (.cells #[a0, a1, a2, a3, a4, a5, a6, a7, a8] e (0, 0)) := by
  obtain ⟨x0, x1, x2, x3, x4, x5, x6, x7, x8, rfl⟩ := nine hs
  have h0 := h.self 0 a0; simp only [List.setIfInBounds_toArray, List.set_cons_zero] at h0
  have h1 := h0.self 1 a1; simp only [List.setIfInBounds_toArray, List.set_cons_zero, List.set_cons_succ] at h1
  have h2 := h1.self 2 a2; simp only [List.setIfInBounds_toArray, List.set_cons_zero, List.set_cons_succ] at h2
  have h3 := h2.self 3 a3; simp only [List.setIfInBounds_toArray, List.set_cons_zero, List.set_cons_succ] at h3
  have h4 := h3.self 4 a4; simp only [List.setIfInBounds_toArray, List.set_cons_zero, List.set_cons_succ] at h4
  have h5 := h4.self 5 a5; simp only [List.setIfInBounds_toArray, List.set_cons_zero, List.set_cons_succ] at h5
  have h6 := h5.self 6 a6; simp only [List.setIfInBounds_toArray, List.set_cons_zero, List.set_cons_succ] at h6
  have h7 := h6.self 7 a7; simp only [List.setIfInBounds_toArray, List.set_cons_zero, List.set_cons_succ] at h7
  have h8 := h7.self 8 a8; simp only [List.setIfInBounds_toArray, List.set_cons_zero, List.set_cons_succ] at h8
  exact h8
theorem Ex.fill9 (w : World) (b : Nat) (a0 a1 a2 a3 a4 a5 a6 a7 a8 : Value) :
    Ex [b] w (((((((((w.setCell ⟨b, 0, none⟩ a0).setCell ⟨b, 1, none⟩ a1).setCell ⟨b, 2, none⟩ a2).setCell ⟨b, 3, none⟩ a3).setCell ⟨b, 4, none⟩ a4).setCell ⟨b, 5, none⟩ a5).setCell ⟨b, 6, none⟩ a6).setCell ⟨b, 7, none⟩ a7).setCell ⟨b, 8, none⟩ a8) := by
  repeat (refine Ex.setCell ?_ (Or.inl (by simp)) _)
  exact Ex.refl _ _

theorem catch_idle (p q : Addr) (w : World) :
    CallsD Tryz.prog 111 #[.pointer (some p), .pointer (some q)] .returning w fun e u' w' => e = .returned (.tuple #[]) ∧ u' = .returning ∧ w' = w := by
  refine callsD_of_wpS Tryz.func111 rfl fun c₀ cs hu => ?_
  apply wpS_seq
  apply wpS_region
  simp [wpOpsS, go_sem, recoverD, hu, Tryz.ntmps111, Exit.thenS]
  refine wpS_cond (t := false) (by simp [Act.eval, Array.replicate]) ?_
  simp only [Bool.false_eq_true, if_false]
  refine wpS_of_wp (wp_skip ?_)
  cases c₀
  simp_all [bodyPostS, results, Tryz.results111]

theorem dot_noprefix (t : ByteArray) (hd : DT t) : Lib.hasPrefix t.data.toList [40, 63, 105] = false := by
  by_cases h : 0 < t.size
  · have h0 := hd 0 h
    obtain ⟨d⟩ := t
    obtain ⟨l⟩ := d
    cases l with
    | nil => simp [Lib.hasPrefix]
    | cons a l =>
      have : a = 46 := h0
      subst this
      rfl
  · obtain ⟨d⟩ := t
    obtain ⟨l⟩ := d
    cases l with
    | nil => simp [Lib.hasPrefix]
    | cons a l => simp [ByteArray.size] at h

set_option maxHeartbeats 400000 in
theorem foldMark_dot (r : Nat) (t : ByteArray) (mv : Value) (w : World) (hr : RD w r t 0 mv) (hd : DT t) :
    Calls Tryz.prog 112 #[.pointer (some ⟨r, 0, none⟩)] w fun e w' => e = .returned (.tuple #[]) ∧ w' = w := by
  have h0 := hr.c0
  have hp := dot_noprefix t hd
  clear hr hd
  go_enter Tryz.func112, Tryz.ntmps112
  go_wp2_with (go_at_call 131; refine (Tryz.strings_HasPrefix _ _ _).mono ?_; rintro e w' ⟨rfl, rfl⟩)
  go_end0
  exact ⟨rfl, rfl⟩

set_option maxHeartbeats 1000000 in
set_option maxRecDepth 100000 in
theorem readForm_dot (t : ByteArray) (w : World) (hd : DT t) (ht : t.size ≤ 60) :
    Calls Tryz.prog 80 #[.string t] w fun e w' => ∃ r g v mb, e = .returned (.tuple #[.pointer (some ⟨r, 0, none⟩), partOf 2 (.slice (some ⟨g, 0, none⟩) 1 1), .bool true]) ∧ w.heap.size ≤ r ∧ w.heap.size ≤ g ∧ BK w' g (.cells #[.int .i64 1, v, .int .u64 0, .int .u64 0, .bool false, .int .i64 0, .int .i64 0, .int .i64 0, .bool false] 143 (0, 0)) ∧ w'.ownsRow w.heap.size 143 9 v t.size (dots t.size) ∧ RD w' r t t.size (.map (some mb)) ∧ Ex [] w w' := by
  have hmf : ∀ (fn : Fn) (first cap : Array Value) (w : World), (Instr.makeFunc fn first cap).run Tryz.prog w = .ok (.func fn first cap) w := fun _ _ _ _ => rfl
  have hmm := @run_makeMap Tryz.prog
  have HD : Hid (DT t) := hd
  clear hd
  have HR : ∀ (w : World) (mv : Value), Hid (RD (w.alloc (Obj.cells #[.string t, .int .i64 0, .int .i64 0, .bool false, .int .i64 0, mv] 147)) w.heap.size t 0 mv) := fun w mv => heap_alloc_new w _
  go_enter_defers Tryz.func80, Tryz.ntmps80
  go_wp2_with fail
  refine (foldMark_dot (w.heap.size + 1 + 1 + 1) t (.map (some (w.heap.size + 1 + 1))) _ (by have := (HR (((w.alloc (Obj.cells #[.int .i64 0, .slice none 0 0, .int .u64 0, .int .u64 0, .bool false, .int .i64 0, .int .i64 0, .int .i64 0, .bool false] 143)).alloc (Obj.cells #[.bool false] 4)).alloc (Obj.map #[] 0)) (.map (some (w.heap.size + 1 + 1)))).out; simpa using this) HD.out).mono ?_
  rintro e w' ⟨rfl, rfl⟩
  go_wp2_with fail
  refine (expression_dot (w.heap.size + 1 + 1 + 1) t (.map (some (w.heap.size + 1 + 1))) _ (by have := (HR (((w.alloc (Obj.cells #[.int .i64 0, .slice none 0 0, .int .u64 0, .int .u64 0, .bool false, .int .i64 0, .int .i64 0, .int .i64 0, .bool false] 143)).alloc (Obj.cells #[.bool false] 4)).alloc (Obj.map #[] 0)) (.map (some (w.heap.size + 1 + 1)))).out; simpa using this) HD.out ht).mono ?_
  rintro e w1 ⟨g, v, rfl, hg, hbk, hown, hr1, hx1⟩
  simp only [World.size_alloc] at hg
  have HX := hide hx1
  have HB := hide hbk
  have HO := hide hown
  have HR1 := hide hr1
  have hz : w.heap.size + 1 + 1 + 1 < w1.heap.size := by have := hx1.size; simp at this; omega
  have hA : BK w1 w.heap.size (.cells #[.int .i64 0, .slice none 0 0, .int .u64 0, .int .u64 0, .bool false, .int .i64 0, .int .i64 0, .int .i64 0, .bool false] 143) := ((((BK.new _ _).alloc _).alloc _).alloc _).ex hx1 (by simp; omega)
  have hB : BK w1 (w.heap.size + 1) (.cells #[.bool false] 4) := (((by simpa using BK.new (w.alloc (Obj.cells #[.int .i64 0, .slice none 0 0, .int .u64 0, .int .u64 0, .bool false, .int .i64 0, .int .i64 0, .int .i64 0, .bool false] 143)) (.cells #[.bool false] 4) : BK _ _ _).alloc _).alloc _).ex hx1 (by simp)
  obtain ⟨hcA, hfA⟩ := hA.all
  obtain ⟨hcB, hfB⟩ := hB.all
  have HA := hide hA
  have HBB := hide hB
  clear hx1 hbk hown hr1 HR hA hB
  unfold partOf
  go_wp2_with fail
  refine (ended_yes (w.heap.size + 1 + 1 + 1) t t.size (.map (some (w.heap.size + 1 + 1))) _ (by (repeat (refine RD.set ?_ (by simp; omega) _)); exact HR1.out) rfl).mono ?_
  rintro e w2 ⟨rfl, n2, hw2⟩
  have hA2 : BK w2 w.heap.size (.cells #[.int .i64 2, .slice (some ⟨g, 0, none⟩) 1 1, .int .u64 0, .int .u64 0, .bool false, .int .i64 0, .int .i64 0, .int .i64 0, .bool false] 143) := by
    have h := BK.fill9 (unhide HA) rfl (.int .i64 2) (.slice (some ⟨g, 0, none⟩) 1 1) (.int .u64 0) (.int .u64 0) (.bool false) (.int .i64 0) (.int .i64 0) (.int .i64 0) (.bool false)
    rw [hw2]; exact BK.drewN h _
  have hx2 : Ex [w.heap.size] w1 w2 := by rw [hw2]; exact (Ex.fill9 _ _ _ _ _ _ _ _ _ _ _).drewN _
  clear hw2 hcA hfA hcB hfB
  have HX2 := hide hx2
  have HB2 := hide ((unhide HB).ex hx2 (by simp; omega))
  have HO2 := hide (own_ex (unhide HO) hx2 (by simp; omega))
  have HR2 := hide ((unhide HR1).ex hx2 (by simp; omega))
  have hB2 := (unhide HBB).ex hx2 (by simp)
  obtain ⟨hcA, hfA⟩ := hA2.all
  obtain ⟨hcB, hfB⟩ := hB2.all
  have HA2 := hide hA2
  have HBB2 := hide hB2
  clear hA2 hB2 hx2 HB HO HR1 HA HBB
  go_wp2_with fail
  go_region
  go_wp2_with fail
  refine leaves_cons (f := 111) (args := #[.pointer (some ⟨w.heap.size, 0, none⟩), .pointer (some ⟨w.heap.size + 1, 0, none⟩)]) (by simp) (by simp [go_sem]) ?_
  refine (catch_idle ⟨w.heap.size, 0, none⟩ ⟨w.heap.size + 1, 0, none⟩ _).mono ?_
  rintro e u' w3 ⟨rfl, rfl, hw3⟩
  have hA3 : BK w3 w.heap.size (.cells #[.int .i64 2, .slice (some ⟨g, 0, none⟩) 1 1, .int .u64 0, .int .u64 0, .bool false, .int .i64 0, .int .i64 0, .int .i64 0, .bool false] 143) := by
    have h := BK.fill9 (unhide HA2) rfl (.int .i64 2) (.slice (some ⟨g, 0, none⟩) 1 1) (.int .u64 0) (.int .u64 0) (.bool false) (.int .i64 0) (.int .i64 0) (.int .i64 0) (.bool false)
    rw [hw3]; exact BK.drew (BK.set h (by simp) _)
  have hB3 : BK w3 (w.heap.size + 1) (.cells #[.bool true] 4) := by
    have h := BK.ex (unhide HBB2) (Ex.fill9 w2 w.heap.size (.int .i64 2) (.slice (some ⟨g, 0, none⟩) 1 1) (.int .u64 0) (.int .u64 0) (.bool false) (.int .i64 0) (.int .i64 0) (.int .i64 0) (.bool false)) (by simp)
    have h' := BK.self h 0 (.bool true)
    simp only [List.setIfInBounds_toArray, List.set_cons_zero] at h'
    rw [hw3]; exact BK.drew h'
  have hx3 : Ex [w.heap.size, w.heap.size + 1] w2 w3 := by
    rw [hw3]
    refine Ex.drew (Ex.setCell ?_ (Or.inl (by simp)) _)
    exact (Ex.fill9 w2 w.heap.size (.int .i64 2) (.slice (some ⟨g, 0, none⟩) 1 1) (.int .u64 0) (.int .u64 0) (.bool false) (.int .i64 0) (.int .i64 0) (.int .i64 0) (.bool false)).drop (by simp)
  clear hw3 hcA hfA hcB hfB
  obtain ⟨hcA, hfA⟩ := hA3.all
  obtain ⟨hcB, hfB⟩ := hB3.all
  refine ⟨.tuple #[.pointer (some ⟨w.heap.size + 1 + 1 + 1, 0, none⟩), partOf 2 (.slice (some ⟨g, 0, none⟩) 1 1), .bool true], ?_, w.heap.size + 1 + 1 + 1, g, v, w.heap.size + 1 + 1, rfl, by omega, by omega, ?_, ?_, ?_, ?_⟩
  · simp [results, Tryz.results80, go_sem, hcA, hcB, partOf]
  · exact (unhide HB2).ex hx3 (by simp; omega)
  · exact own_base (own_ex (unhide HO2) hx3 (by simp; omega)) (by simp; omega)
  · exact (unhide HR2).ex hx3 (by simp; omega)
  · refine Ex.drop (l := [w.heap.size + 1 + 1 + 1, w.heap.size, w.heap.size + 1]) ?_ (by simp; omega)
    exact ((((((Ex.refl _ _).alloc _).alloc _).alloc _).alloc _).trans ((unhide HX).drop (by simp))).trans (((unhide HX2).drop (by simp)).trans (hx3.drop (by simp)))
end Go.Proofs.YtmeffeigamaipabGreatDoor.Rx

/- Contracts of the pattern reader's small functions, whatever the reader's other cells hold. -/
namespace Go.Proofs.YtmeffeigamaipabGreatDoor.Rx.Q
open Go.RowKit

/-- The reader's cells but its text and its place. -/
structure Rest where
  d : Nat
  f : Bool
  g : Nat
  m : Value
/-- The reader's block. -/
def RD (w : World) (r : Nat) (t : ByteArray) (k : Nat) (mv : Rest) : Prop :=
  w.heap[r]? = some (.cells #[.string t, .int .i64 k, .int .i64 mv.d, .bool mv.f, .int .i64 mv.g, mv.m] 147 (0, 0))

theorem RD.c0 {w : World} {r : Nat} {t : ByteArray} {k : Nat} {mv : Rest} (h : RD w r t k mv) : w.cell? ⟨r, 0, none⟩ = some (.string t) := by
  rw [cell_of_row w r 0 _ 147 (0, 0) h]; rfl
theorem RD.c1 {w : World} {r : Nat} {t : ByteArray} {k : Nat} {mv : Rest} (h : RD w r t k mv) : w.cell? ⟨r, 1, none⟩ = some (.int .i64 k) := by
  rw [cell_of_row w r 1 _ 147 (0, 0) h]; rfl
theorem RD.c3 {w : World} {r : Nat} {t : ByteArray} {k : Nat} {mv : Rest} (h : RD w r t k mv) : w.cell? ⟨r, 3, none⟩ = some (.bool mv.f) := by
  rw [cell_of_row w r 3 _ 147 (0, 0) h]; rfl
theorem RD.drew {w : World} {r : Nat} {t : ByteArray} {k : Nat} {mv : Rest} (h : RD w r t k mv) (n : Nat) : RD (w.drewN n) r t k mv := h
theorem RD.lt {w : World} {r : Nat} {t : ByteArray} {k : Nat} {mv : Rest} (h : RD w r t k mv) : r < w.heap.size := (Array.getElem?_eq_some_iff.1 h).1

set_option maxHeartbeats 400000 in
theorem ended_no (r : Nat) (t : ByteArray) (k : Nat) (mv : Rest) (w : World) (hr : RD w r t k mv) (hk : k < t.size) :
    Calls Tryz.prog 114 #[.pointer (some ⟨r, 0, none⟩)] w fun e w' => e = .returned (.bool false) ∧ ∃ n, w' = w.drewN n := by
  have h0 := hr.c0; have h1 := hr.c1; clear hr
  have he : ((k : Int) == (t.size : Int)) = false := by rw [beq_eq_false_iff_ne]; omega
  go_enter Tryz.func114, Tryz.ntmps114
  go_wp2
  go_quiet (fail)
  go_wp2
  go_ret
  exact ⟨by simp, _, rfl⟩

set_option maxHeartbeats 400000 in
theorem ended_yes (r : Nat) (t : ByteArray) (k : Nat) (mv : Rest) (w : World) (hr : RD w r t k mv) (hk : k = t.size) :
    Calls Tryz.prog 114 #[.pointer (some ⟨r, 0, none⟩)] w fun e w' => e = .returned (.bool true) ∧ ∃ n, w' = w.drewN n := by
  have h0 := hr.c0; have h1 := hr.c1; clear hr
  subst hk
  go_enter Tryz.func114, Tryz.ntmps114
  go_wp2
  go_quiet (fail)
  go_wp2
  go_ret
  exact ⟨by simp, _, rfl⟩

set_option maxHeartbeats 400000 in
theorem sees_end (r : Nat) (t : ByteArray) (k : Nat) (mv : Rest) (w : World) (b : Int) (hr : RD w r t k mv) (hk : k = t.size) :
    Calls Tryz.prog 151 #[.pointer (some ⟨r, 0, none⟩), .int .u8 b] w fun e w' => e = .returned (.bool false) ∧ ∃ n, w' = w.drewN n := by
  go_enter Tryz.func151, Tryz.ntmps151
  go_wp2
  go_quiet ((go_at_call 114; exact Calls.quiet_of (ended_yes r t k mv _ (hr.drew _) hk)))
  go_wp2
  go_ret
  exact ⟨by simp, _, rfl⟩

set_option maxHeartbeats 400000 in
theorem sees_no (r : Nat) (t : ByteArray) (k : Nat) (mv : Rest) (w : World) (b : Int) (hr : RD w r t k mv) (hk : k < t.size) (ht : t.size ≤ 60) (hb : (((t[k]'hk).toNat : Int) == b) = false) :
    Calls Tryz.prog 151 #[.pointer (some ⟨r, 0, none⟩), .int .u8 b] w fun e w' => e = .returned (.bool false) ∧ ∃ n, w' = w.drewN n := by
  have h0 := hr.c0; have h1 := hr.c1
  have HR : Hid (RD w r t k mv) := hr
  clear hr
  go_enter Tryz.func151, Tryz.ntmps151
  go_wp2
  go_quiet ((go_at_call 114; exact Calls.quiet_of (ended_no r t k mv _ (HR.out.drew _) hk)))
  go_wp2
  go_ret
  exact ⟨by simp, _, rfl⟩

set_option maxHeartbeats 400000 in
theorem look_any (r : Nat) (t : ByteArray) (k : Nat) (mv : Rest) (w : World) (hr : RD w r t k mv) (hk : k < t.size) (ht : t.size ≤ 60) :
    Calls Tryz.prog 177 #[.pointer (some ⟨r, 0, none⟩)] w fun e w' => e = .returned (.int .u8 ((t[k]'hk).toNat : Int)) ∧ ∃ n, w' = w.drewN n := by
  have h0 := hr.c0; have h1 := hr.c1
  have HR : Hid (RD w r t k mv) := hr
  clear hr
  go_enter Tryz.func177, Tryz.ntmps177
  go_wp2_with (go_at_call 114; refine (ended_no r t k mv _ HR.out hk).mono ?_; rintro e w' ⟨rfl, n, rfl⟩)
  go_quiet (fail)
  go_wp2
  go_ret
  exact ⟨rfl, _, by rw [World.drewN_drewN]⟩

set_option maxHeartbeats 400000 in
theorem takes_end (r : Nat) (t : ByteArray) (k : Nat) (mv : Rest) (w : World) (b : Int) (hr : RD w r t k mv) (hk : k = t.size) :
    Calls Tryz.prog 134 #[.pointer (some ⟨r, 0, none⟩), .int .u8 b] w fun e w' => e = .returned (.bool false) ∧ ∃ n, w' = w.drewN n := by
  go_enter Tryz.func134, Tryz.ntmps134
  go_wp2_with (go_at_call 151; refine (sees_end r t k mv _ _ hr hk).mono ?_; rintro e w' ⟨rfl, n, rfl⟩)
  go_ret
  exact ⟨rfl, _, rfl⟩

set_option maxHeartbeats 400000 in
theorem takes_no (r : Nat) (t : ByteArray) (k : Nat) (mv : Rest) (w : World) (b : Int) (hr : RD w r t k mv) (hk : k < t.size) (ht : t.size ≤ 60) (hb : (((t[k]'hk).toNat : Int) == b) = false) :
    Calls Tryz.prog 134 #[.pointer (some ⟨r, 0, none⟩), .int .u8 b] w fun e w' => e = .returned (.bool false) ∧ ∃ n, w' = w.drewN n := by
  go_enter Tryz.func134, Tryz.ntmps134
  go_wp2_with (go_at_call 151; refine (sees_no r t k mv _ _ hr hk ht hb).mono ?_; rintro e w' ⟨rfl, n, rfl⟩)
  go_ret
  exact ⟨rfl, _, rfl⟩

theorem RD.ex {l : List Nat} {w w' : World} {r : Nat} {t : ByteArray} {k : Nat} {mv : Rest} (h : RD w r t k mv) (hx : Ex l w w') (hn : r ∉ l) : RD w' r t k mv := by
  unfold RD; rw [hx.block r h.lt hn]; exact h
theorem RD.alloc {w : World} {r : Nat} {t : ByteArray} {k : Nat} {mv : Rest} (h : RD w r t k mv) (o : Obj) : RD (w.alloc o) r t k mv := h.ex ((Ex.refl [] _).alloc o) (by simp)
theorem RD.set {w : World} {r : Nat} {t : ByteArray} {k : Nat} {mv : Rest} (h : RD w r t k mv) {p : Addr} (hp : r ≠ p.block) (u : Value) : RD (w.setCell p u) r t k mv := by
  unfold RD; rw [Below.heap_setCell _ _ _ _ hp]; exact h
theorem RD.step {w : World} {r : Nat} {t : ByteArray} {k : Nat} {mv : Rest} (h : RD w r t k mv) : RD (w.setCell ⟨r, 1, none⟩ (.int .i64 ((k + 1 : Nat) : Int))) r t (k + 1) mv := by
  unfold RD at h ⊢
  simp [World.setCell, Array.getElem?_modify, h]

theorem RD.f1 {w : World} {r : Nat} {t : ByteArray} {k : Nat} {mv : Rest} (h : RD w r t k mv) : w.frozen? ⟨r, 1, none⟩ = false := by
  unfold RD at h; simp [World.frozen?, h]

theorem RD.grown {w w' : World} {row : Option Nat} {r : Nat} {t : ByteArray} {k : Nat} {mv : Rest} (h : RD w r t k mv) (hg : w.grownBy w' row) (hn : ∀ k, row = some k → r < k) : RD w' r t k mv := by
  unfold RD; rw [hg.block r h.lt (fun e => by have := hn r e.symm; omega)]; exact h

theorem RD.bk {w : World} {r : Nat} {t : ByteArray} {k : Nat} {mv : Rest} (h : RD w r t k mv) : BK w r (.cells #[.string t, .int .i64 k, .int .i64 mv.d, .bool mv.f, .int .i64 mv.g, mv.m] 147 (0, 0)) := h

set_option maxHeartbeats 400000 in
theorem sees_yes (r : Nat) (t : ByteArray) (k : Nat) (mv : Rest) (w : World) (b : Int) (hr : RD w r t k mv) (hk : k < t.size) (ht : t.size ≤ 60) (hb : (((t[k]'hk).toNat : Int) == b) = true) :
    Calls Tryz.prog 151 #[.pointer (some ⟨r, 0, none⟩), .int .u8 b] w fun e w' => e = .returned (.bool true) ∧ ∃ n, w' = w.drewN n := by
  have h0 := hr.c0; have h1 := hr.c1
  have HR : Hid (RD w r t k mv) := hr
  clear hr
  go_enter Tryz.func151, Tryz.ntmps151
  go_wp2
  go_quiet ((go_at_call 114; exact Calls.quiet_of (ended_no r t k mv _ (HR.out.drew _) hk)))
  go_wp2
  go_ret
  exact ⟨by simp, _, rfl⟩

set_option maxHeartbeats 400000 in
theorem takes_yes (r : Nat) (t : ByteArray) (k : Nat) (mv : Rest) (w : World) (b : Int) (hr : RD w r t k mv) (hk : k < t.size) (ht : t.size ≤ 60) (hb : (((t[k]'hk).toNat : Int) == b) = true) :
    Calls Tryz.prog 134 #[.pointer (some ⟨r, 0, none⟩), .int .u8 b] w fun e w' => e = .returned (.bool true) ∧ RD w' r t (k + 1) mv ∧ Ex [r] w w' := by
  have HR : Hid (RD w r t k mv) := hr
  have h1 := hr.c1
  have hf1 := hr.f1
  have hlt := hr.lt
  clear hr
  go_enter Tryz.func134, Tryz.ntmps134
  go_wp2_with (go_at_call 151; refine (sees_yes r t k mv _ _ HR.out hk ht hb).mono ?_; rintro e w' ⟨rfl, n, rfl⟩)
  go_ret
  refine ⟨rfl, ?_, ?_⟩
  · have := (HR.out.drew n).step
    simpa using this
  · exact ((Ex.refl _ _).drewN _).setCell (Or.inl (by simp)) _

set_option maxHeartbeats 400000 in
theorem must_yes (r : Nat) (t : ByteArray) (k : Nat) (mv : Rest) (w : World) (b : Int) (hr : RD w r t k mv) (hk : k < t.size) (ht : t.size ≤ 60) (hb : (((t[k]'hk).toNat : Int) == b) = true) :
    Calls Tryz.prog 132 #[.pointer (some ⟨r, 0, none⟩), .int .u8 b] w fun e w' => e = .returned (.tuple #[]) ∧ RD w' r t (k + 1) mv ∧ Ex [r] w w' := by
  have HR : Hid (RD w r t k mv) := hr
  clear hr
  go_enter Tryz.func132, Tryz.ntmps132
  go_wp2_with (go_at_call 134; refine (takes_yes r t k mv _ _ HR.out hk ht hb).mono ?_; rintro e w' ⟨rfl, h1, h2⟩)
  go_end0
  exact ⟨rfl, h1, h2⟩
end Go.Proofs.YtmeffeigamaipabGreatDoor.Rx.Q
