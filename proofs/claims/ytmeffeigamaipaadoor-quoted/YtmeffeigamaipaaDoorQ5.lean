/- Contracts of the pattern reader at bytes that stand for themselves: the mark ahead of all, the face. -/
import Derived.Test.YtmeffeigamaipaaDoorQ4
set_option linter.unusedVariables false
set_option linter.unusedSimpArgs false
namespace Go.Proofs.YtmeffeigamaipaaDoor.Q
open Go.RowKit

/-- What the mark leaves to be read. -/
def FM (t : ByteArray) (f : Bool) (l : List UInt8) : Prop := ∃ k0, Items t k0 l ∧ ∀ (r : Nat) (m : Value) (w : World), RD w r t 0 ⟨0, false, 0, m⟩ →
  Calls Tryd.prog 30 #[.pointer (some ⟨r, 0, none⟩)] w fun e w' => e = .returned (.tuple #[]) ∧ RD w' r t k0 ⟨0, f, 0, m⟩ ∧ Ex [r] w w'

set_option maxHeartbeats 400000 in
theorem foldMark_no (t : ByteArray) (l : List UInt8) (hp : Lib.hasPrefix t.data.toList [40, 63, 105] = false) (hi : Items t 0 l) : FM t false l := by
  refine ⟨0, hi, fun r m w hr => ?_⟩
  have h0 := hr.c0
  have HR := hide hr
  clear hr
  go_enter Tryd.func30, Tryd.ntmps30
  go_wp2_with (go_at_call 40; refine (Tryd.strings_HasPrefix _ _ _).mono ?_; rintro e w' ⟨rfl, rfl⟩)
  go_end0
  exact ⟨rfl, HR.out, Ex.refl _ _⟩

theorem RD.at3 {w : World} {r : Nat} {t : ByteArray} {k : Nat} {mv : Rest} (h : RD w r t k mv) : RD (w.setCell ⟨r, 1, none⟩ (.int .i64 3)) r t 3 mv := by
  unfold RD at h ⊢
  simp [World.setCell, Array.getElem?_modify, h]
theorem RD.fold {w : World} {r : Nat} {t : ByteArray} {k : Nat} {d g : Nat} {f : Bool} {m : Value} (h : RD w r t k ⟨d, f, g, m⟩) : RD (w.setCell ⟨r, 3, none⟩ (.bool true)) r t k ⟨d, true, g, m⟩ := by
  unfold RD at h ⊢
  simp [World.setCell, Array.getElem?_modify, h]

set_option maxHeartbeats 400000 in
theorem foldMark_yes (t : ByteArray) (l : List UInt8) (hp : Lib.hasPrefix t.data.toList [40, 63, 105] = true) (h3 : 3 < t.size) (h41 : (t[3]'h3) = 41) (ht : t.size ≤ 60) (hi : Items t 4 l) : FM t true l := by
  refine ⟨4, hi, fun r m w hr => ?_⟩
  obtain ⟨hcR, hfR⟩ := hr.bk.all
  have hlt := hr.lt
  have HR := hide hr
  have H41 := hide h41
  clear hr h41
  go_enter Tryd.func30, Tryd.ntmps30
  go_wp2_with (go_at_call 40; refine (Tryd.strings_HasPrefix _ _ _).mono ?_; rintro e w' ⟨rfl, rfl⟩)
  refine (must_yes r t 3 ⟨0, false, 0, m⟩ _ _ HR.out.at3 h3 ht (by rw [H41.out]; rfl)).mono ?_
  rintro e w1 ⟨rfl, hr1, hx1⟩
  obtain ⟨hc1, hf1⟩ := hr1.bk.all
  have hl1 := hr1.lt
  have HR1 := hide hr1
  have HX1 := hide hx1
  clear hr1 hx1 hcR hfR
  go_wp2_with fail
  go_end0
  exact ⟨rfl, HR1.out.fold, (((Ex.refl _ _).setCell (Or.inl (by simp)) _).trans HX1.out).setCell (Or.inl (by simp)) _⟩

set_option maxHeartbeats 1000000 in
set_option maxRecDepth 100000 in
theorem readForm_items (t : ByteArray) (f : Bool) (l : List UInt8) (w : World) (hfm : FM t f l) (ht : t.size ≤ 60) (hl : l.length ≤ 60) :
    Calls Tryd.prog 17 #[.string t] w fun e w' => ∃ r g v mb, e = .returned (.tuple #[.pointer (some ⟨r, 0, none⟩), partOf 2 (.slice (some ⟨g, 0, none⟩) 1 1), .bool true]) ∧ w.heap.size ≤ r ∧ w.heap.size ≤ g ∧ BK w' g (.cells #[.int .i64 1, v, .int .u64 0, .int .u64 0, .bool false, .int .i64 0, .int .i64 0, .int .i64 0, .bool false] 59 (0, 0)) ∧ w'.ownsRow w.heap.size 59 9 v l.length (partsL (clsOf f l)) ∧ RD w' r t t.size ⟨0, f, 0, .map (some mb)⟩ ∧ Ex [] w w' := by
  have hmf : ∀ (fn : Fn) (first cap : Array Value) (w : World), (Instr.makeFunc fn first cap).run Tryd.prog w = .ok (.func fn first cap) w := fun _ _ _ _ => rfl
  have hmm := @run_makeMap Tryd.prog
  obtain ⟨k0, hit, hfm⟩ := hfm
  have HF := hide hfm
  have HI := hide hit
  clear hfm hit
  have HR : ∀ (w : World) (mv : Value), Hid (RD (w.alloc (Obj.cells #[.string t, .int .i64 0, .int .i64 0, .bool false, .int .i64 0, mv] 63)) w.heap.size t 0 ⟨0, false, 0, mv⟩) := fun w mv => heap_alloc_new w _
  go_enter_defers Tryd.func17, Tryd.ntmps17
  go_wp2_with fail
  refine (HF.out (w.heap.size + 1 + 1 + 1) (.map (some (w.heap.size + 1 + 1))) _ (by have := (HR (((w.alloc (Obj.cells #[.int .i64 0, .slice none 0 0, .int .u64 0, .int .u64 0, .bool false, .int .i64 0, .int .i64 0, .int .i64 0, .bool false] 59)).alloc (Obj.cells #[.bool false] 4)).alloc (Obj.map #[] 0)) (.map (some (w.heap.size + 1 + 1)))).out; simpa using this)).mono ?_
  rintro e w0 ⟨rfl, hr0, hx0⟩
  have hA0 : BK w0 w.heap.size (.cells #[.int .i64 0, .slice none 0 0, .int .u64 0, .int .u64 0, .bool false, .int .i64 0, .int .i64 0, .int .i64 0, .bool false] 59) := ((((BK.new _ _).alloc _).alloc _).alloc _).ex hx0 (by simp; omega)
  have hB0 : BK w0 (w.heap.size + 1) (.cells #[.bool false] 4) := (((by simpa using BK.new (w.alloc (Obj.cells #[.int .i64 0, .slice none 0 0, .int .u64 0, .int .u64 0, .bool false, .int .i64 0, .int .i64 0, .int .i64 0, .bool false] 59)) (.cells #[.bool false] 4) : BK _ _ _).alloc _).alloc _).ex hx0 (by simp)
  have hz0 : w.heap.size + 1 + 1 + 1 < w0.heap.size := by have := hx0.size; simp at this; omega
  have HX0 : Hid (Ex [w.heap.size + 1 + 1 + 1] w w0) := ((((((Ex.refl _ _).alloc _).alloc _).alloc _).alloc _)).trans hx0
  have HR0 := hide hr0
  have HA0 := hide hA0
  have HB0 := hide hB0
  clear hr0 hx0 hA0 hB0 HR
  go_wp2_with fail
  refine (expression_items (w.heap.size + 1 + 1 + 1) t k0 ⟨0, f, 0, .map (some (w.heap.size + 1 + 1))⟩ l _ HR0.out HI.out ht hl).mono ?_
  rintro e w1 ⟨g, v, rfl, hg, hbk, hown, hr1, hx1⟩
  have HX := hide hx1
  have HB := hide hbk
  have HO := hide hown
  have HR1 := hide hr1
  have hz : w.heap.size + 1 + 1 + 1 < w1.heap.size := by have := hx1.size; omega
  have hA := HA0.out.ex hx1 (by simp; omega)
  have hB := HB0.out.ex hx1 (by simp)
  obtain ⟨hcA, hfA⟩ := hA.all
  obtain ⟨hcB, hfB⟩ := hB.all
  have HA := hide hA
  have HBB := hide hB
  clear hx1 hbk hown hr1 hA hB
  unfold partOf
  go_wp2_with fail
  refine (ended_yes (w.heap.size + 1 + 1 + 1) t t.size ⟨0, f, 0, .map (some (w.heap.size + 1 + 1))⟩ _ (by (repeat (refine RD.set ?_ (by simp; omega) _)); exact HR1.out) rfl).mono ?_
  rintro e w2 ⟨rfl, n2, hw2⟩
  have hA2 : BK w2 w.heap.size (.cells #[.int .i64 2, .slice (some ⟨g, 0, none⟩) 1 1, .int .u64 0, .int .u64 0, .bool false, .int .i64 0, .int .i64 0, .int .i64 0, .bool false] 59) := by
    have h := BK.fill9 (unhide HA) rfl (.int .i64 2) (.slice (some ⟨g, 0, none⟩) 1 1) (.int .u64 0) (.int .u64 0) (.bool false) (.int .i64 0) (.int .i64 0) (.int .i64 0) (.bool false)
    rw [hw2]; exact BK.drewN h _
  have hx2 : Ex [w.heap.size] w1 w2 := by rw [hw2]; exact (Ex.fill9 _ _ _ _ _ _ _ _ _ _ _).drewN _
  clear hw2 hcA hfA hcB hfB
  have HX2 := hide hx2
  have HB2 := hide ((unhide HB).ex hx2 (by simp; omega))
  have HO2 := hide (own_ex (unhide HO) hx2 (by simp; omega))
  have HR2 := hide ((unhide HR1).ex hx2 (by simp; omega))
  have hB2 := (unhide HBB).ex hx2 (by simp)
  obtain ⟨hcA, hfA⟩ := hA2.all
  obtain ⟨hcB, hfB⟩ := hB2.all
  have HA2 := hide hA2
  have HBB2 := hide hB2
  clear hA2 hB2 hx2 HB HO HR1 HA HBB
  go_wp2_with fail
  go_region
  go_wp2_with fail
  refine leaves_cons (f := 29) (args := #[.pointer (some ⟨w.heap.size, 0, none⟩), .pointer (some ⟨w.heap.size + 1, 0, none⟩)]) (by simp) (by simp [go_sem]) ?_
  refine (catch_idle ⟨w.heap.size, 0, none⟩ ⟨w.heap.size + 1, 0, none⟩ _).mono ?_
  rintro e u' w3 ⟨rfl, rfl, hw3⟩
  have hA3 : BK w3 w.heap.size (.cells #[.int .i64 2, .slice (some ⟨g, 0, none⟩) 1 1, .int .u64 0, .int .u64 0, .bool false, .int .i64 0, .int .i64 0, .int .i64 0, .bool false] 59) := by
    have h := BK.fill9 (unhide HA2) rfl (.int .i64 2) (.slice (some ⟨g, 0, none⟩) 1 1) (.int .u64 0) (.int .u64 0) (.bool false) (.int .i64 0) (.int .i64 0) (.int .i64 0) (.bool false)
    rw [hw3]; exact BK.drew (BK.set h (by simp) _)
  have hB3 : BK w3 (w.heap.size + 1) (.cells #[.bool true] 4) := by
    have h := BK.ex (unhide HBB2) (Ex.fill9 w2 w.heap.size (.int .i64 2) (.slice (some ⟨g, 0, none⟩) 1 1) (.int .u64 0) (.int .u64 0) (.bool false) (.int .i64 0) (.int .i64 0) (.int .i64 0) (.bool false)) (by simp)
    have h' := BK.self h 0 (.bool true)
    simp only [List.setIfInBounds_toArray, List.set_cons_zero] at h'
    rw [hw3]; exact BK.drew h'
  have hx3 : Ex [w.heap.size, w.heap.size + 1] w2 w3 := by
    rw [hw3]
    refine Ex.drew (Ex.setCell ?_ (Or.inl (by simp)) _)
    exact (Ex.fill9 w2 w.heap.size (.int .i64 2) (.slice (some ⟨g, 0, none⟩) 1 1) (.int .u64 0) (.int .u64 0) (.bool false) (.int .i64 0) (.int .i64 0) (.int .i64 0) (.bool false)).drop (by simp)
  clear hw3 hcA hfA hcB hfB
  obtain ⟨hcA, hfA⟩ := hA3.all
  obtain ⟨hcB, hfB⟩ := hB3.all
  refine ⟨.tuple #[.pointer (some ⟨w.heap.size + 1 + 1 + 1, 0, none⟩), partOf 2 (.slice (some ⟨g, 0, none⟩) 1 1), .bool true], ?_, w.heap.size + 1 + 1 + 1, g, v, w.heap.size + 1 + 1, rfl, by omega, by omega, ?_, ?_, ?_, ?_⟩
  · simp [results, Tryd.results17, go_sem, hcA, hcB, partOf]
  · exact (unhide HB2).ex hx3 (by simp; omega)
  · exact own_base (own_ex (unhide HO2) hx3 (by simp; omega)) (by omega)
  · exact (unhide HR2).ex hx3 (by simp; omega)
  · refine Ex.drop (l := [w.heap.size + 1 + 1 + 1, w.heap.size, w.heap.size + 1]) ?_ (by simp; omega)
    exact ((HX0.out.drop (by simp)).trans ((unhide HX).drop (by simp))).trans (((unhide HX2).drop (by simp)).trans (hx3.drop (by simp)))
end Go.Proofs.YtmeffeigamaipaaDoor.Q
