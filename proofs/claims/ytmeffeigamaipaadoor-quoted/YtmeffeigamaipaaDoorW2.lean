/- Contracts of the pattern reader at a text of dots: the class of every rune, counts that are not there. -/
import Derived.Test.YtmeffeigamaipaaDoorW1
set_option linter.unusedVariables false
set_option linter.unusedSimpArgs false
namespace Go.Proofs.YtmeffeigamaipaaDoor
open Go.RowKit

/-- Nothing that was there has turned, but for the blocks listed. -/
structure Ex (own : List Nat) (w w' : World) : Prop where
  os : w'.os = w.os
  tape : w'.tape = w.tape
  output : w'.output = w.output
  size : w.heap.size ≤ w'.heap.size
  block : ∀ k, k < w.heap.size → k ∉ own → w'.heap[k]? = w.heap[k]?

theorem Ex.refl (l : List Nat) (w : World) : Ex l w w := ⟨rfl, rfl, rfl, Nat.le_refl _, fun _ _ _ => rfl⟩
theorem Ex.drewN {l : List Nat} {a w : World} (h : Ex l a w) (n : Nat) : Ex l a (w.drewN n) := ⟨h.os, h.tape, h.output, h.size, h.block⟩
theorem Ex.drew {l : List Nat} {a w : World} (h : Ex l a w) : Ex l a w.drew := ⟨h.os, h.tape, h.output, h.size, h.block⟩
theorem Ex.trans {l : List Nat} {a b c : World} (h : Ex l a b) (k : Ex l b c) : Ex l a c :=
  ⟨k.os.trans h.os, k.tape.trans h.tape, k.output.trans h.output, Nat.le_trans h.size k.size, fun i hi hn => (k.block i (Nat.lt_of_lt_of_le hi h.size) hn).trans (h.block i hi hn)⟩
theorem Ex.drop {l l' : List Nat} {a b : World} (h : Ex l a b) (hl : ∀ x, x ∈ l → x < a.heap.size → x ∈ l') : Ex l' a b :=
  ⟨h.os, h.tape, h.output, h.size, fun i hi hn => h.block i hi (fun hm => hn (hl i hm hi))⟩
theorem Ex.alloc {l : List Nat} {a w : World} (h : Ex l a w) (o : Obj) : Ex l a (w.alloc o) :=
  h.trans ⟨rfl, rfl, rfl, by simp, fun k hk _ => Below.heap_alloc _ _ _ hk⟩
theorem Ex.setCell {l : List Nat} {a w : World} (h : Ex l a w) {p : Addr} (hp : p.block ∈ l ∨ a.heap.size ≤ p.block) (u : Value) : Ex l a (w.setCell p u) :=
  ⟨h.os, h.tape, h.output, by simpa [World.setCell] using h.size, fun k hk hn => by
    rw [Below.heap_setCell _ _ _ _ (by rintro rfl; rcases hp with hp | hp; · exact hn hp
                                       · omega)]; exact h.block k hk hn⟩
theorem Ex.below {a w : World} (h : Below a.heap.size a w) : Ex [] a w := ⟨h.os, h.tape, h.output, h.size, fun k hk _ => h.block k hk⟩
theorem Ex.toBelow {a w : World} (h : Ex [] a w) : Below a.heap.size a w := ⟨h.os, h.tape, h.output, h.size, fun k hk => h.block k hk (by simp)⟩

theorem Ex.cell {l : List Nat} {W w1 : World} (h : Ex l W w1) : (∀ b o, b < W.heap.size → b ∉ l → w1.cell? ⟨b, o, none⟩ = W.cell? ⟨b, o, none⟩) ∧ (∀ b o, b < W.heap.size → b ∉ l → w1.frozen? ⟨b, o, none⟩ = W.frozen? ⟨b, o, none⟩) :=
  ⟨fun b _ hb hn => World.cell?_of_block (h.block b hb hn), fun b _ hb hn => World.frozen?_of_block (h.block b hb hn)⟩
theorem Ex.cell0 {W w1 : World} (h : Ex [] W w1) : (∀ b o, b < W.heap.size → w1.cell? ⟨b, o, none⟩ = W.cell? ⟨b, o, none⟩) ∧ (∀ b o, b < W.heap.size → w1.frozen? ⟨b, o, none⟩ = W.frozen? ⟨b, o, none⟩) :=
  ⟨fun b o hb => h.cell.1 b o hb (by simp), fun b o hb => h.cell.2 b o hb (by simp)⟩

theorem Ex.cell1 {r : Nat} {W w1 : World} (h : Ex [r] W w1) : (∀ b o, b < W.heap.size → b ≠ r → w1.cell? ⟨b, o, none⟩ = W.cell? ⟨b, o, none⟩) ∧ (∀ b o, b < W.heap.size → b ≠ r → w1.frozen? ⟨b, o, none⟩ = W.frozen? ⟨b, o, none⟩) :=
  ⟨fun b o hb hn => h.cell.1 b o hb (by simpa using hn), fun b o hb hn => h.cell.2 b o hb (by simpa using hn)⟩

/-- The text is dots. -/
def DT (t : ByteArray) : Prop := ∀ k (h : k < t.size), t[k] = 46

def ones : Int := 18446744073709551615
def dotClass : Value := .agg #[.int .u64 ones, .int .u64 ones, .bool true]

theorem ones_eq : bits BinOp.xor IntKind.u64 IntKind.u64.max 0 = ones := by decide +kernel

set_option maxHeartbeats 400000 in
theorem others_zero (w : World) :
    Calls Tryd.prog 68 #[.agg #[.int .u64 0, .int .u64 0, .bool false]] w fun e w' => e = .returned dotClass ∧ Ex [] w w' := by
  have ho := ones_eq
  go_enter Tryd.func68, Tryd.ntmps68
  go_wp2
  refine bodyPost_ret (v := dotClass) (by simp [results, Tryd.results68, go_sem, dotClass]) rfl ⟨rfl, ?_⟩
  repeat (first | exact Ex.refl _ _ | refine Ex.setCell ?_ (Or.inr (by simp)) _ | refine Ex.alloc ?_ _)

set_option maxHeartbeats 400000 in
theorem everyRune_any (w : World) :
    Calls Tryd.prog 59 #[] w fun e w' => e = .returned dotClass ∧ Ex [] w w' := by
  go_enter Tryd.func59, Tryd.ntmps59
  go_wp2_with fail
  refine (others_zero _).mono ?_
  rintro e w' ⟨rfl, hx⟩
  obtain ⟨hc, hf⟩ := hx.cell0
  have hz := hx.size
  simp at hz
  unfold dotClass
  go_wp2
  refine bodyPost_ret (v := dotClass) (by simp [results, Tryd.results59, go_sem, dotClass, hc]) rfl ⟨rfl, ?_⟩
  repeat (first | refine Ex.setCell ?_ (Or.inr (by simp)) _)
  exact ((Ex.refl _ _).alloc _).trans hx

theorem look_dot (r : Nat) (t : ByteArray) (k : Nat) (mv : Value) (w : World) (hr : RD w r t k mv) (hd : DT t) (hk : k < t.size) (ht : t.size ≤ 60) :
    Calls Tryd.prog 56 #[.pointer (some ⟨r, 0, none⟩)] w fun e w' => e = .returned (.int .u8 46) ∧ ∃ n, w' = w.drewN n := by
  refine (look_any r t k mv w hr hk ht).mono ?_
  rintro e w' ⟨rfl, h⟩
  rw [hd k hk]
  exact ⟨rfl, h⟩

theorem sees_dot (r : Nat) (t : ByteArray) (k : Nat) (mv : Value) (w : World) (b : Int) (hr : RD w r t k mv) (hd : DT t) (hk : k ≤ t.size) (ht : t.size ≤ 60) (hb : b ≠ 46) :
    Calls Tryd.prog 48 #[.pointer (some ⟨r, 0, none⟩), .int .u8 b] w fun e w' => e = .returned (.bool false) ∧ ∃ n, w' = w.drewN n := by
  by_cases h : k < t.size
  · exact sees_no r t k mv w b hr h ht (by rw [hd k h, beq_eq_false_iff_ne]; exact fun e => hb e.symm)
  · exact sees_end r t k mv w b hr (by omega)

theorem takes_dot (r : Nat) (t : ByteArray) (k : Nat) (mv : Value) (w : World) (b : Int) (hr : RD w r t k mv) (hd : DT t) (hk : k ≤ t.size) (ht : t.size ≤ 60) (hb : b ≠ 46) :
    Calls Tryd.prog 43 #[.pointer (some ⟨r, 0, none⟩), .int .u8 b] w fun e w' => e = .returned (.bool false) ∧ ∃ n, w' = w.drewN n := by
  by_cases h : k < t.size
  · exact takes_no r t k mv w b hr h ht (by rw [hd k h, beq_eq_false_iff_ne]; exact fun e => hb e.symm)
  · exact takes_end r t k mv w b hr (by omega)

set_option maxHeartbeats 400000 in
theorem count_dot (r : Nat) (t : ByteArray) (k : Nat) (mv : Value) (w : World) (hr : RD w r t k mv) (hd : DT t) (hk : k ≤ t.size) (ht : t.size ≤ 60) :
    Calls Tryd.prog 54 #[.pointer (some ⟨r, 0, none⟩)] w fun e w' => e = .returned (.tuple #[.int .i64 0, .int .i64 0, .bool false]) ∧ ∃ n, w' = w.drewN n := by
  have HR : ∀ n, Hid (RD (w.drewN n) r t k mv) := fun n => hr.drew n
  have HD : Hid (DT t) := hd
  clear hr hd
  go_enter Tryd.func54, Tryd.ntmps54
  go_wp2_with fail
  refine (takes_dot r t k mv _ _ (HR 0).out HD.out hk ht (by decide)).mono ?_
  rintro e w' ⟨rfl, n1, rfl⟩
  go_wp2_with fail
  refine (takes_dot r t k mv _ _ (HR n1).out HD.out hk ht (by decide)).mono ?_
  rintro e w' ⟨rfl, n2, rfl⟩
  rw [World.drewN_drewN]
  go_wp2_with fail
  refine (takes_dot r t k mv _ _ (HR _).out HD.out hk ht (by decide)).mono ?_
  rintro e w' ⟨rfl, n3, rfl⟩
  rw [World.drewN_drewN]
  go_wp2_with fail
  refine (takes_dot r t k mv _ _ (HR _).out HD.out hk ht (by decide)).mono ?_
  rintro e w' ⟨rfl, n4, rfl⟩
  rw [World.drewN_drewN]
  go_wp2_with fail
  go_ret3
  exact ⟨rfl, _, rfl⟩

def dotPart : Value := .agg #[.int .i64 0, .slice none 0 0, .int .u64 ones, .int .u64 ones, .bool true, .int .i64 0, .int .i64 0, .int .i64 0, .bool false]

theorem RD.ex {l : List Nat} {w w' : World} {r : Nat} {t : ByteArray} {k : Nat} {mv : Value} (h : RD w r t k mv) (hx : Ex l w w') (hn : r ∉ l) : RD w' r t k mv := by
  unfold RD; rw [hx.block r h.lt hn]; exact h
theorem RD.alloc {w : World} {r : Nat} {t : ByteArray} {k : Nat} {mv : Value} (h : RD w r t k mv) (o : Obj) : RD (w.alloc o) r t k mv := h.ex ((Ex.refl [] _).alloc o) (by simp)
theorem RD.set {w : World} {r : Nat} {t : ByteArray} {k : Nat} {mv : Value} (h : RD w r t k mv) {p : Addr} (hp : r ≠ p.block) (u : Value) : RD (w.setCell p u) r t k mv := by
  unfold RD; rw [Below.heap_setCell _ _ _ _ hp]; exact h
theorem RD.step {w : World} {r : Nat} {t : ByteArray} {k : Nat} {mv : Value} (h : RD w r t k mv) : RD (w.setCell ⟨r, 1, none⟩ (.int .i64 ((k + 1 : Nat) : Int))) r t (k + 1) mv := by
  unfold RD at h ⊢
  simp [World.setCell, Array.getElem?_modify, h]

theorem RD.f1 {w : World} {r : Nat} {t : ByteArray} {k : Nat} {mv : Value} (h : RD w r t k mv) : w.frozen? ⟨r, 1, none⟩ = false := by
  unfold RD at h; simp [World.frozen?, h]

set_option maxHeartbeats 400000 in
theorem atom_dot (r : Nat) (t : ByteArray) (k : Nat) (mv : Value) (w : World) (hr : RD w r t k mv) (hd : DT t) (hk : k < t.size) (ht : t.size ≤ 60) :
    Calls Tryd.prog 53 #[.pointer (some ⟨r, 0, none⟩)] w fun e w' => e = .returned dotPart ∧ RD w' r t (k + 1) mv ∧ Ex [r] w w' := by
  have HR : Hid (RD w r t k mv) := hr
  have HD : Hid (DT t) := hd
  have hlt := hr.lt
  have h1 := hr.c1
  have hf1 := hr.f1
  clear hr hd
  go_enter Tryd.func53, Tryd.ntmps53
  go_wp2_with fail
  refine (look_dot r t k mv _ (HR.out.alloc _) HD.out hk ht).mono ?_
  rintro e w' ⟨rfl, n1, rfl⟩
  go_wp2_with fail
  refine (everyRune_any _).mono ?_
  rintro e w' ⟨rfl, hx⟩
  obtain ⟨hc, hf⟩ := hx.cell0
  have hz := hx.size
  simp at hz
  unfold dotClass
  go_wp2
  refine bodyPost_ret (v := dotPart) (by simp [results, Tryd.results53, go_sem, dotPart, hc]) rfl ⟨rfl, ?_, ?_⟩
  · repeat (refine RD.set ?_ (by simp; omega) _)
    refine RD.ex ?_ hx (by simp)
    have := ((HR.out.alloc (Obj.cells #[.int .i64 0, .slice none 0 0, .int .u64 0, .int .u64 0, .bool false, .int .i64 0, .int .i64 0, .int .i64 0, .bool false] 59)).drew n1).step
    simpa using this
  · repeat (refine Ex.setCell ?_ (Or.inr (by simp)) _)
    refine Ex.trans ?_ (hx.drop (by simp))
    exact (((Ex.refl _ _).alloc _).drewN _).setCell (Or.inl (by simp)) _

def partOf (kd : Int) (v : Value) : Value := .agg #[.int .i64 kd, v, .int .u64 0, .int .u64 0, .bool false, .int .i64 0, .int .i64 0, .int .i64 0, .bool false]

set_option maxHeartbeats 400000 in
theorem piece_dot (r : Nat) (t : ByteArray) (k : Nat) (mv : Value) (w : World) (hr : RD w r t k mv) (hd : DT t) (hk : k < t.size) (ht : t.size ≤ 60) :
    Calls Tryd.prog 49 #[.pointer (some ⟨r, 0, none⟩)] w fun e w' => e = .returned dotPart ∧ RD w' r t (k + 1) mv ∧ Ex [r] w w' := by
  have HR : Hid (RD w r t k mv) := hr
  have HD : Hid (DT t) := hd
  have hlt := hr.lt
  clear hr hd
  go_enter Tryd.func49, Tryd.ntmps49
  go_wp2_with fail
  refine (atom_dot r t k mv _ (HR.out.alloc _) HD.out hk ht).mono ?_
  rintro e w1 ⟨rfl, hr1, hx1⟩
  obtain ⟨hc, hf⟩ := hx1.cell1
  have hz : w.heap.size < w1.heap.size := by have := hx1.size; simp at this; omega
  have HR1 : Hid (RD w1 r t (k + 1) mv) := hr1
  clear hr1
  unfold dotPart
  have hne : w.heap.size ≠ r := by omega
  go_wp2_with fail
  refine (count_dot r t (k + 1) mv _ (HR1.out.alloc _) HD.out hk ht).mono ?_
  rintro e w2 ⟨rfl, n2, rfl⟩
  go_wp2_with fail
  refine bodyPost_ret (v := dotPart) (by simp [results, Tryd.results49, go_sem, dotPart, hc, hne, hz]) rfl ⟨rfl, ?_, ?_⟩
  · repeat (refine RD.set ?_ (by simp; omega) _)
    exact (HR1.out.alloc _).drew _
  · repeat (refine Ex.setCell ?_ (Or.inr (by simp)) _)
    exact (((((Ex.refl _ _).alloc _).trans hx1).alloc _).drewN _)
end Go.Proofs.YtmeffeigamaipaaDoor
