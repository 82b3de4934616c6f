/- W2 W3, one behind the other. -/
import Derived.Test.YtmeffeigamaipabGreatDoorM33
import Derived.Deep.LoopGhost
set_option linter.unusedVariables false
set_option linter.unusedSimpArgs false
/- Contracts of the pattern reader at a text of dots: the class of every rune, counts that are not there. -/
namespace Go.Proofs.YtmeffeigamaipabGreatDoor.Rx
open Go.RowKit

/-- Nothing that was there has turned, but for the blocks listed. -/
structure Ex (own : List Nat) (w w' : World) : Prop where
  os : w'.os = w.os
  tape : w'.tape = w.tape
  output : w'.output = w.output
  size : w.heap.size ≤ w'.heap.size
  block : ∀ k, k < w.heap.size → k ∉ own → w'.heap[k]? = w.heap[k]?

theorem Ex.refl (l : List Nat) (w : World) : Ex l w w := ⟨rfl, rfl, rfl, Nat.le_refl _, fun _ _ _ => rfl⟩
theorem Ex.drewN {l : List Nat} {a w : World} (h : Ex l a w) (n : Nat) : Ex l a (w.drewN n) := ⟨h.os, h.tape, h.output, h.size, h.block⟩
theorem Ex.drew {l : List Nat} {a w : World} (h : Ex l a w) : Ex l a w.drew := ⟨h.os, h.tape, h.output, h.size, h.block⟩
theorem Ex.trans {l : List Nat} {a b c : World} (h : Ex l a b) (k : Ex l b c) : Ex l a c :=
  ⟨k.os.trans h.os, k.tape.trans h.tape, k.output.trans h.output, Nat.le_trans h.size k.size, fun i hi hn => (k.block i (Nat.lt_of_lt_of_le hi h.size) hn).trans (h.block i hi hn)⟩
theorem Ex.drop {l l' : List Nat} {a b : World} (h : Ex l a b) (hl : ∀ x, x ∈ l → x < a.heap.size → x ∈ l') : Ex l' a b :=
  ⟨h.os, h.tape, h.output, h.size, fun i hi hn => h.block i hi (fun hm => hn (hl i hm hi))⟩
theorem Ex.alloc {l : List Nat} {a w : World} (h : Ex l a w) (o : Obj) : Ex l a (w.alloc o) :=
  h.trans ⟨rfl, rfl, rfl, by simp, fun k hk _ => Below.heap_alloc _ _ _ hk⟩
theorem Ex.setCell {l : List Nat} {a w : World} (h : Ex l a w) {p : Addr} (hp : p.block ∈ l ∨ a.heap.size ≤ p.block) (u : Value) : Ex l a (w.setCell p u) :=
  ⟨h.os, h.tape, h.output, by simpa [World.setCell] using h.size, fun k hk hn => by
    rw [Below.heap_setCell _ _ _ _ (by rintro rfl; rcases hp with hp | hp; · exact hn hp
                                       · omega)]; exact h.block k hk hn⟩
theorem Ex.below {a w : World} (h : Below a.heap.size a w) : Ex [] a w := ⟨h.os, h.tape, h.output, h.size, fun k hk _ => h.block k hk⟩
theorem Ex.toBelow {a w : World} (h : Ex [] a w) : Below a.heap.size a w := ⟨h.os, h.tape, h.output, h.size, fun k hk => h.block k hk (by simp)⟩

theorem Ex.cell {l : List Nat} {W w1 : World} (h : Ex l W w1) : (∀ b o, b < W.heap.size → b ∉ l → w1.cell? ⟨b, o, none⟩ = W.cell? ⟨b, o, none⟩) ∧ (∀ b o, b < W.heap.size → b ∉ l → w1.frozen? ⟨b, o, none⟩ = W.frozen? ⟨b, o, none⟩) :=
  ⟨fun b _ hb hn => World.cell?_of_block (h.block b hb hn), fun b _ hb hn => World.frozen?_of_block (h.block b hb hn)⟩
theorem Ex.cell0 {W w1 : World} (h : Ex [] W w1) : (∀ b o, b < W.heap.size → w1.cell? ⟨b, o, none⟩ = W.cell? ⟨b, o, none⟩) ∧ (∀ b o, b < W.heap.size → w1.frozen? ⟨b, o, none⟩ = W.frozen? ⟨b, o, none⟩) :=
  ⟨fun b o hb => h.cell.1 b o hb (by simp), fun b o hb => h.cell.2 b o hb (by simp)⟩

theorem Ex.cell1 {r : Nat} {W w1 : World} (h : Ex [r] W w1) : (∀ b o, b < W.heap.size → b ≠ r → w1.cell? ⟨b, o, none⟩ = W.cell? ⟨b, o, none⟩) ∧ (∀ b o, b < W.heap.size → b ≠ r → w1.frozen? ⟨b, o, none⟩ = W.frozen? ⟨b, o, none⟩) :=
  ⟨fun b o hb hn => h.cell.1 b o hb (by simpa using hn), fun b o hb hn => h.cell.2 b o hb (by simpa using hn)⟩

/-- The text is dots. -/
def DT (t : ByteArray) : Prop := ∀ k (h : k < t.size), t[k] = 46

def ones : Int := 18446744073709551615
def dotClass : Value := .agg #[.int .u64 ones, .int .u64 ones, .bool true]

theorem ones_eq : bits BinOp.xor IntKind.u64 IntKind.u64.max 0 = ones := by decide +kernel

set_option maxHeartbeats 400000 in
theorem others_zero (w : World) :
    Calls Tryz.prog 192 #[.agg #[.int .u64 0, .int .u64 0, .bool false]] w fun e w' => e = .returned dotClass ∧ Ex [] w w' := by
  have ho := ones_eq
  go_enter Tryz.func192, Tryz.ntmps192
  go_wp2
  refine bodyPost_ret (v := dotClass) (by simp [results, Tryz.results192, go_sem, dotClass]) rfl ⟨rfl, ?_⟩
  repeat (first | exact Ex.refl _ _ | refine Ex.setCell ?_ (Or.inr (by simp)) _ | refine Ex.alloc ?_ _)

set_option maxHeartbeats 400000 in
theorem everyRune_any (w : World) :
    Calls Tryz.prog 180 #[] w fun e w' => e = .returned dotClass ∧ Ex [] w w' := by
  go_enter Tryz.func180, Tryz.ntmps180
  go_wp2_with fail
  refine (others_zero _).mono ?_
  rintro e w' ⟨rfl, hx⟩
  obtain ⟨hc, hf⟩ := hx.cell0
  have hz := hx.size
  simp at hz
  unfold dotClass
  go_wp2
  refine bodyPost_ret (v := dotClass) (by simp [results, Tryz.results180, go_sem, dotClass, hc]) rfl ⟨rfl, ?_⟩
  repeat (first | refine Ex.setCell ?_ (Or.inr (by simp)) _)
  exact ((Ex.refl _ _).alloc _).trans hx

theorem look_dot (r : Nat) (t : ByteArray) (k : Nat) (mv : Value) (w : World) (hr : RD w r t k mv) (hd : DT t) (hk : k < t.size) (ht : t.size ≤ 60) :
    Calls Tryz.prog 177 #[.pointer (some ⟨r, 0, none⟩)] w fun e w' => e = .returned (.int .u8 46) ∧ ∃ n, w' = w.drewN n := by
  refine (look_any r t k mv w hr hk ht).mono ?_
  rintro e w' ⟨rfl, h⟩
  rw [hd k hk]
  exact ⟨rfl, h⟩

theorem sees_dot (r : Nat) (t : ByteArray) (k : Nat) (mv : Value) (w : World) (b : Int) (hr : RD w r t k mv) (hd : DT t) (hk : k ≤ t.size) (ht : t.size ≤ 60) (hb : b ≠ 46) :
    Calls Tryz.prog 151 #[.pointer (some ⟨r, 0, none⟩), .int .u8 b] w fun e w' => e = .returned (.bool false) ∧ ∃ n, w' = w.drewN n := by
  by_cases h : k < t.size
  · exact sees_no r t k mv w b hr h ht (by rw [hd k h, beq_eq_false_iff_ne]; exact fun e => hb e.symm)
  · exact sees_end r t k mv w b hr (by omega)

theorem takes_dot (r : Nat) (t : ByteArray) (k : Nat) (mv : Value) (w : World) (b : Int) (hr : RD w r t k mv) (hd : DT t) (hk : k ≤ t.size) (ht : t.size ≤ 60) (hb : b ≠ 46) :
    Calls Tryz.prog 134 #[.pointer (some ⟨r, 0, none⟩), .int .u8 b] w fun e w' => e = .returned (.bool false) ∧ ∃ n, w' = w.drewN n := by
  by_cases h : k < t.size
  · exact takes_no r t k mv w b hr h ht (by rw [hd k h, beq_eq_false_iff_ne]; exact fun e => hb e.symm)
  · exact takes_end r t k mv w b hr (by omega)

set_option maxHeartbeats 400000 in
theorem count_dot (r : Nat) (t : ByteArray) (k : Nat) (mv : Value) (w : World) (hr : RD w r t k mv) (hd : DT t) (hk : k ≤ t.size) (ht : t.size ≤ 60) :
    Calls Tryz.prog 169 #[.pointer (some ⟨r, 0, none⟩)] w fun e w' => e = .returned (.tuple #[.int .i64 0, .int .i64 0, .bool false]) ∧ ∃ n, w' = w.drewN n := by
  have HR : ∀ n, Hid (RD (w.drewN n) r t k mv) := fun n => hr.drew n
  have HD : Hid (DT t) := hd
  clear hr hd
  go_enter Tryz.func169, Tryz.ntmps169
  go_wp2_with fail
  refine (takes_dot r t k mv _ _ (HR 0).out HD.out hk ht (by decide)).mono ?_
  rintro e w' ⟨rfl, n1, rfl⟩
  go_wp2_with fail
  refine (takes_dot r t k mv _ _ (HR n1).out HD.out hk ht (by decide)).mono ?_
  rintro e w' ⟨rfl, n2, rfl⟩
  rw [World.drewN_drewN]
  go_wp2_with fail
  refine (takes_dot r t k mv _ _ (HR _).out HD.out hk ht (by decide)).mono ?_
  rintro e w' ⟨rfl, n3, rfl⟩
  rw [World.drewN_drewN]
  go_wp2_with fail
  refine (takes_dot r t k mv _ _ (HR _).out HD.out hk ht (by decide)).mono ?_
  rintro e w' ⟨rfl, n4, rfl⟩
  rw [World.drewN_drewN]
  go_wp2_with fail
  go_ret3
  exact ⟨rfl, _, rfl⟩

def dotPart : Value := .agg #[.int .i64 0, .slice none 0 0, .int .u64 ones, .int .u64 ones, .bool true, .int .i64 0, .int .i64 0, .int .i64 0, .bool false]

theorem RD.ex {l : List Nat} {w w' : World} {r : Nat} {t : ByteArray} {k : Nat} {mv : Value} (h : RD w r t k mv) (hx : Ex l w w') (hn : r ∉ l) : RD w' r t k mv := by
  unfold RD; rw [hx.block r h.lt hn]; exact h
theorem RD.alloc {w : World} {r : Nat} {t : ByteArray} {k : Nat} {mv : Value} (h : RD w r t k mv) (o : Obj) : RD (w.alloc o) r t k mv := h.ex ((Ex.refl [] _).alloc o) (by simp)
theorem RD.set {w : World} {r : Nat} {t : ByteArray} {k : Nat} {mv : Value} (h : RD w r t k mv) {p : Addr} (hp : r ≠ p.block) (u : Value) : RD (w.setCell p u) r t k mv := by
  unfold RD; rw [Below.heap_setCell _ _ _ _ hp]; exact h
theorem RD.step {w : World} {r : Nat} {t : ByteArray} {k : Nat} {mv : Value} (h : RD w r t k mv) : RD (w.setCell ⟨r, 1, none⟩ (.int .i64 ((k + 1 : Nat) : Int))) r t (k + 1) mv := by
  unfold RD at h ⊢
  simp [World.setCell, Array.getElem?_modify, h]

theorem RD.f1 {w : World} {r : Nat} {t : ByteArray} {k : Nat} {mv : Value} (h : RD w r t k mv) : w.frozen? ⟨r, 1, none⟩ = false := by
  unfold RD at h; simp [World.frozen?, h]

set_option maxHeartbeats 400000 in
theorem atom_dot (r : Nat) (t : ByteArray) (k : Nat) (mv : Value) (w : World) (hr : RD w r t k mv) (hd : DT t) (hk : k < t.size) (ht : t.size ≤ 60) :
    Calls Tryz.prog 168 #[.pointer (some ⟨r, 0, none⟩)] w fun e w' => e = .returned dotPart ∧ RD w' r t (k + 1) mv ∧ Ex [r] w w' := by
  have HR : Hid (RD w r t k mv) := hr
  have HD : Hid (DT t) := hd
  have hlt := hr.lt
  have h1 := hr.c1
  have hf1 := hr.f1
  clear hr hd
  go_enter Tryz.func168, Tryz.ntmps168
  go_wp2_with fail
  refine (look_dot r t k mv _ (HR.out.alloc _) HD.out hk ht).mono ?_
  rintro e w' ⟨rfl, n1, rfl⟩
  go_wp2_with fail
  refine (everyRune_any _).mono ?_
  rintro e w' ⟨rfl, hx⟩
  obtain ⟨hc, hf⟩ := hx.cell0
  have hz := hx.size
  simp at hz
  unfold dotClass
  go_wp2
  refine bodyPost_ret (v := dotPart) (by simp [results, Tryz.results168, go_sem, dotPart, hc]) rfl ⟨rfl, ?_, ?_⟩
  · repeat (refine RD.set ?_ (by simp; omega) _)
    refine RD.ex ?_ hx (by simp)
    have := ((HR.out.alloc (Obj.cells #[.int .i64 0, .slice none 0 0, .int .u64 0, .int .u64 0, .bool false, .int .i64 0, .int .i64 0, .int .i64 0, .bool false] 143)).drew n1).step
    simpa using this
  · repeat (refine Ex.setCell ?_ (Or.inr (by simp)) _)
    refine Ex.trans ?_ (hx.drop (by simp))
    exact (((Ex.refl _ _).alloc _).drewN _).setCell (Or.inl (by simp)) _

def partOf (kd : Int) (v : Value) : Value := .agg #[.int .i64 kd, v, .int .u64 0, .int .u64 0, .bool false, .int .i64 0, .int .i64 0, .int .i64 0, .bool false]

set_option maxHeartbeats 400000 in
theorem piece_dot (r : Nat) (t : ByteArray) (k : Nat) (mv : Value) (w : World) (hr : RD w r t k mv) (hd : DT t) (hk : k < t.size) (ht : t.size ≤ 60) :
    Calls Tryz.prog 152 #[.pointer (some ⟨r, 0, none⟩)] w fun e w' => e = .returned dotPart ∧ RD w' r t (k + 1) mv ∧ Ex [r] w w' := by
  have HR : Hid (RD w r t k mv) := hr
  have HD : Hid (DT t) := hd
  have hlt := hr.lt
  clear hr hd
  go_enter Tryz.func152, Tryz.ntmps152
  go_wp2_with fail
  refine (atom_dot r t k mv _ (HR.out.alloc _) HD.out hk ht).mono ?_
  rintro e w1 ⟨rfl, hr1, hx1⟩
  obtain ⟨hc, hf⟩ := hx1.cell1
  have hz : w.heap.size < w1.heap.size := by have := hx1.size; simp at this; omega
  have HR1 : Hid (RD w1 r t (k + 1) mv) := hr1
  clear hr1
  unfold dotPart
  have hne : w.heap.size ≠ r := by omega
  go_wp2_with fail
  refine (count_dot r t (k + 1) mv _ (HR1.out.alloc _) HD.out hk ht).mono ?_
  rintro e w2 ⟨rfl, n2, rfl⟩
  go_wp2_with fail
  refine bodyPost_ret (v := dotPart) (by simp [results, Tryz.results152, go_sem, dotPart, hc, hne, hz]) rfl ⟨rfl, ?_, ?_⟩
  · repeat (refine RD.set ?_ (by simp; omega) _)
    exact (HR1.out.alloc _).drew _
  · repeat (refine Ex.setCell ?_ (Or.inr (by simp)) _)
    exact (((((Ex.refl _ _).alloc _).trans hx1).alloc _).drewN _)
end Go.Proofs.YtmeffeigamaipabGreatDoor.Rx

/- Contracts of the pattern reader at a text of dots: a branch, an expression. -/
namespace Go.Proofs.YtmeffeigamaipabGreatDoor.Rx
open Go.RowKit

theorem info71 : (Tryz.prog.info? 143).map (fun i => (i.zero, i.size, i.bytes)) = some (some (partOf 0 (.slice none 0 0)), 9, 88) := by kernel_rfl

def dotCells : List Value := [.int .i64 0, .slice none 0 0, .int .u64 ones, .int .u64 ones, .bool true, .int .i64 0, .int .i64 0, .int .i64 0, .bool false]
def dots : Nat → List Value
  | 0 => []
  | n + 1 => dots n ++ dotCells
theorem dots_len (n : Nat) : (dots n).length = n * 9 := by
  induction n with
  | zero => rfl
  | succ n ih => simp [dots, dotCells, ih]; omega

theorem Ex.grown {l : List Nat} {a w w' : World} {row : Option Nat} (h : Ex l a w) (hg : w.grownBy w' row) (hr : ∀ k, row = some k → k ∈ l ∨ a.heap.size ≤ k) : Ex l a w' :=
  ⟨hg.os.trans h.os, hg.tape.trans h.tape, hg.output.trans h.output, Nat.le_trans h.size hg.size, fun k hk hn =>
    (hg.block k (Nat.lt_of_lt_of_le hk h.size) (fun e => by rcases hr k e.symm with h | h; · exact hn h
                                                            · omega)).trans (h.block k hk hn)⟩
theorem own_ex {l : List Nat} {w w' : World} {base : Nat} {e : TypeId} {size : Nat} {v : Value} {n : Nat} {xs : List Value} (h : w.ownsRow base e size v n xs) (hx : Ex l w w') (hl : ∀ x, x ∈ l → x < base) : w'.ownsRow base e size v n xs := by
  refine ⟨h.1, ?_⟩
  rcases h.2 with hn | ⟨g, cap, cur, rfl, hb, hgg, rest⟩
  · exact .inl hn
  · refine .inr ⟨g, cap, cur, rfl, hb, ?_, rest⟩
    rw [hx.block g (Array.getElem?_eq_some_iff.1 hgg).1 (fun hm => by have := hl g hm; omega)]
    exact hgg

theorem own_slice {w : World} {base : Nat} {e : TypeId} {size : Nat} {v : Value} {n : Nat} {xs : List Value} (h : w.ownsRow base e size v n xs) : ∃ p c, v = .slice p n c := by
  rcases h.2 with ⟨rfl, rfl⟩ | ⟨g, cap, cur, rfl, _⟩
  · exact ⟨_, _, rfl⟩
  · exact ⟨_, _, rfl⟩
theorem own_base {w : World} {b b' : Nat} {e : TypeId} {size : Nat} {v : Value} {n : Nat} {xs : List Value} (h : w.ownsRow b e size v n xs) (hb : b' ≤ b) : w.ownsRow b' e size v n xs := by
  refine ⟨h.1, ?_⟩
  rcases h.2 with hn | ⟨g, cap, cur, rfl, hb', rest⟩
  · exact .inl hn
  · exact .inr ⟨g, cap, cur, rfl, by omega, rest⟩
theorem own_drewN {w : World} {base : Nat} {e : TypeId} {size : Nat} {v : Value} {n : Nat} {xs : List Value} (h : w.ownsRow base e size v n xs) (k : Nat) : (w.drewN k).ownsRow base e size v n xs := h
theorem own_block {w : World} {base : Nat} {e : TypeId} {size : Nat} {v : Value} {n : Nat} {xs : List Value} (h : w.ownsRow base e size v n xs) : ∀ k, v.ownBlock = some k → base ≤ k := fun k hk => (h.lt k hk).1
theorem cells_new (w : World) (cs : Array Value) (t : TypeId) : ∀ j u, cs.toList[j]? = some u → (w.alloc (.cells cs t)).cell? ((⟨w.heap.size, 0, none⟩ : Addr).add j) = some u := by
  intro j u hj
  have hadd : (⟨w.heap.size, 0, none⟩ : Addr).add j = ⟨w.heap.size, j, none⟩ := by unfold Addr.add; split <;> simp_all
  rw [hadd, cell_of_row (w.alloc (.cells cs t)) w.heap.size j cs t (0, 0) (heap_alloc_new w _)]
  simpa using hj
theorem own_set {w : World} {base : Nat} {e : TypeId} {size : Nat} {v : Value} {n : Nat} {xs : List Value} (h : w.ownsRow base e size v n xs) {a : Addr} (ha : a.block < base) (u : Value) : (w.setCell a u).ownsRow base e size v n xs := ownsRow_setCell_below h ha u

/-- What a block holds. -/
def BK (w : World) (b : Nat) (o : Obj) : Prop := w.heap[b]? = some o
theorem BK.lt {w : World} {b : Nat} {o : Obj} (h : BK w b o) : b < w.heap.size := (Array.getElem?_eq_some_iff.1 h).1
theorem BK.new (w : World) (o : Obj) : BK (w.alloc o) w.heap.size o := heap_alloc_new w o
theorem BK.ex {l : List Nat} {w w' : World} {b : Nat} {o : Obj} (h : BK w b o) (hx : Ex l w w') (hn : b ∉ l) : BK w' b o := by
  unfold BK; rw [hx.block b h.lt hn]; exact h
theorem BK.alloc {w : World} {b : Nat} {o : Obj} (h : BK w b o) (o' : Obj) : BK (w.alloc o') b o := h.ex ((Ex.refl [] _).alloc o') (by simp)
theorem BK.set {w : World} {b : Nat} {o : Obj} (h : BK w b o) {p : Addr} (hp : b ≠ p.block) (u : Value) : BK (w.setCell p u) b o := by
  unfold BK; rw [Below.heap_setCell _ _ _ _ hp]; exact h
theorem BK.drewN {w : World} {b : Nat} {o : Obj} (h : BK w b o) (n : Nat) : BK (w.drewN n) b o := h
theorem BK.drew {w : World} {b : Nat} {o : Obj} (h : BK w b o) : BK w.drew b o := h
theorem BK.grown {w w' : World} {row : Option Nat} {b : Nat} {o : Obj} (h : BK w b o) (hg : w.grownBy w' row) (hn : row ≠ some b) : BK w' b o := by
  unfold BK; rw [hg.block b h.lt (fun e => hn e.symm)]; exact h

theorem BK.all {w : World} {b : Nat} {cs : Array Value} {e : TypeId} (h : BK w b (.cells cs e (0, 0))) : (∀ o, w.cell? ⟨b, o, none⟩ = cs[o]?) ∧ (∀ o, w.frozen? ⟨b, o, none⟩ = false) :=
  ⟨fun o => cell_of_row w b o cs e (0, 0) h, fun o => by unfold BK at h; simp [World.frozen?, h]⟩

theorem RD.grown {w w' : World} {row : Option Nat} {r : Nat} {t : ByteArray} {k : Nat} {mv : Value} (h : RD w r t k mv) (hg : w.grownBy w' row) (hn : ∀ k, row = some k → r < k) : RD w' r t k mv := by
  unfold RD; rw [hg.block r h.lt (fun e => by have := hn r e.symm; omega)]; exact h

set_option maxHeartbeats 1000000 in
set_option maxRecDepth 100000 in
theorem branch_dot (r : Nat) (t : ByteArray) (mv : Value) (w : World) (hr : RD w r t 0 mv) (hd : DT t) (ht : t.size ≤ 60) :
    Calls Tryz.prog 133 #[.pointer (some ⟨r, 0, none⟩)] w fun e w' => ∃ v, e = .returned (partOf 1 v) ∧ w'.ownsRow w.heap.size 143 9 v t.size (dots t.size) ∧ RD w' r t t.size mv ∧ Ex [r] w w' := by
  obtain ⟨i0, hi, hz0, hz1, hz2⟩ := info_parts info71
  have HR : Hid (RD w r t 0 mv) := hr
  have HD : Hid (DT t) := hd
  have hlt := hr.lt
  clear hr hd
  go_enter Tryz.func133, Tryz.ntmps133
  go_wp2_with fail
  go_loopg [3] t.size (fun g v wr => ∃ k, k + g = t.size ∧ RD wr r t k mv ∧ wr.ownsRow (w.heap.size + 1) 143 9 v k (dots k) ∧ Ex [r] (w.alloc (Obj.cells #[.int .i64 0, .slice none 0 0, .int .u64 0, .int .u64 0, .bool false, .int .i64 0, .int .i64 0, .int .i64 0, .bool false] 143)) wr)
  case atStart => exact ⟨0, by omega, HR.out.alloc _, World.ownsRow_nil _ _ _ _, Ex.refl _ _⟩
  case round =>
    obtain ⟨k, hk, hrd, hown, hx⟩ := hrel
    have HW : Hid (RD wr r t k mv) := hrd
    have HX : Hid (Ex [r] (w.alloc (Obj.cells #[.int .i64 0, .slice none 0 0, .int .u64 0, .int .u64 0, .bool false, .int .i64 0, .int .i64 0, .int .i64 0, .bool false] 143)) wr) := hx
    have hz : w.heap.size < wr.heap.size := by have := hx.size; simp at this; omega
    obtain ⟨hc, hf⟩ := hx.cell1
    have hne : w.heap.size ≠ r := by omega
    clear hrd hx
    cases gk with
    | zero =>
      have HK : Hid (k = t.size) := by show k = t.size; omega
      clear hk
      obtain ⟨p3, c3, rfl⟩ := own_slice hown
      go_wp2_with (go_at_call 114; refine (ended_yes r t k mv _ HW.out HK.out).mono ?_; rintro e w1 ⟨rfl, n1, rfl⟩)
      refine bodyPost_ret (v := partOf 1 (.slice p3 k c3)) (by simp [results, Tryz.results133, go_sem, partOf, hc, hne, hz]) rfl ⟨.slice p3 k c3, rfl, ?_, ?_, ?_⟩
      · rw [← HK.out]
        refine own_base (b := w.heap.size + 1) ?_ (by omega)
        repeat (refine own_set ?_ (by simp) _)
        exact own_drewN hown _
      · rw [← HK.out]
        repeat (refine RD.set ?_ (by simp; omega) _)
        exact HW.out.drew _
      · repeat (refine Ex.setCell ?_ (Or.inr (by simp)) _)
        exact (((Ex.refl _ _).alloc _).trans HX.out).drewN _
    | succ g =>
      have hk2 : k < t.size := by omega
      go_wp2_with fail
      refine (ended_no r t k mv _ HW.out hk2).mono ?_
      rintro e w1 ⟨rfl, n1, rfl⟩
      go_wp2_with fail
      refine (sees_dot r t k mv _ _ (HW.out.drew _) HD.out (by omega) ht (by decide)).mono ?_
      rintro e w1 ⟨rfl, n2, rfl⟩
      rw [World.drewN_drewN]
      go_wp2_with fail
      refine (sees_dot r t k mv _ _ (HW.out.drew _) HD.out (by omega) ht (by decide)).mono ?_
      rintro e w1 ⟨rfl, n3, rfl⟩
      rw [World.drewN_drewN]
      go_wp2_with fail
      refine (piece_dot r t k mv _ (HW.out.drew _) HD.out hk2 ht).mono ?_
      rintro e w1 ⟨rfl, hr1, hx1⟩
      unfold dotPart
      have hz3 : wr.heap.size ≤ w1.heap.size := hx1.size
      have hown1 := own_ex (own_drewN hown (n1 + n2 + n3)) hx1 (by simp; omega)
      go_wp2_with (at_builtin; refine wpList_append_own _ rfl (.tmp 17) (.tmp 20) 138 rfl (w.heap.size + 1) 143 i0 (partOf 0 (.slice none 0 0)) 9 88 Tryz.underlying138 hi hz0 hz1 hz2 rfl (by decide) u3 k (dots k) rfl (hown1.alloc _) ⟨w1.heap.size, 0, none⟩ 1 1 dotCells rfl rfl (cells_new _ _ _) (by simp [dotCells, Value.oneCell']) (by unfold maxLen; omega) (by omega) (by simp; omega) ?_)
      intro v' w2 hown2 hg2 _
      go_wp2
      have hob := own_block hown
      go_roundg g
      case measure => omega
      case rel =>
        refine ⟨k + 1, by omega, RD.grown (hr1.alloc _) hg2 (fun j hj => by have := hob j hj; omega), hown2, ?_⟩
        exact Ex.grown (((HX.out.drewN _).trans hx1).alloc _) hg2 (fun j hj => Or.inr (by have := hob j hj; simp; omega))

set_option maxHeartbeats 1000000 in
set_option maxRecDepth 100000 in
theorem expression_dot (r : Nat) (t : ByteArray) (mv : Value) (w : World) (hr : RD w r t 0 mv) (hd : DT t) (ht : t.size ≤ 60) :
    Calls Tryz.prog 113 #[.pointer (some ⟨r, 0, none⟩)] w fun e w' => ∃ g v, e = .returned (partOf 2 (.slice (some ⟨g, 0, none⟩) 1 1)) ∧ w.heap.size ≤ g ∧ BK w' g (.cells #[.int .i64 1, v, .int .u64 0, .int .u64 0, .bool false, .int .i64 0, .int .i64 0, .int .i64 0, .bool false] 143 (0, 0)) ∧ w'.ownsRow w.heap.size 143 9 v t.size (dots t.size) ∧ RD w' r t t.size mv ∧ Ex [r] w w' := by
  have HR : Hid (RD w r t 0 mv) := hr
  have HD : Hid (DT t) := hd
  have hlt := hr.lt
  clear hr hd
  go_enter Tryz.func113, Tryz.ntmps113
  go_wp2_with fail
  refine (branch_dot r t mv _ (HR.out.alloc _) HD.out ht).mono ?_
  rintro e w1 ⟨v, rfl, hown, hr1, hx1⟩
  obtain ⟨p3, c3, rfl⟩ := own_slice hown
  unfold partOf
  have hz : w.heap.size < w1.heap.size := by have := hx1.size; simp at this; omega
  have HX : Hid (Ex [r] (w.alloc (Obj.cells #[.int .i64 0, .slice none 0 0, .int .u64 0, .int .u64 0, .bool false, .int .i64 0, .int .i64 0, .int .i64 0, .bool false] 143)) w1) := hx1
  obtain ⟨hc, hf⟩ := hx1.cell1
  have hne : w.heap.size ≠ r := by omega
  have HR1 : Hid (RD w1 r t t.size mv) := hr1
  clear hx1 hr1
  go_wp2_with fail
  refine wp_loop_rounds 1 ?_
  rw [rounds_succ]
  go_wp2_with (go_at_call 134; refine (takes_dot r t t.size mv _ _ (HR1.out.alloc _) HD.out (Nat.le_refl _) ht (by decide)).mono ?_; rintro e w2 ⟨rfl, n2, rfl⟩)
  refine bodyPost_ret (v := partOf 2 (.slice (some ⟨w1.heap.size, 0, none⟩) 1 1)) (by simp [results, Tryz.results113, go_sem, partOf, hc, hne, hz]) rfl ⟨w1.heap.size, .slice p3 t.size c3, rfl, by omega, ?_, ?_, ?_, ?_⟩
  · repeat (refine BK.set ?_ (by simp; omega) _)
    exact (BK.new _ _).drewN _
  · refine own_base (b := w.heap.size + 1) ?_ (by omega)
    repeat (refine own_set ?_ (by simp) _)
    have h9 := own_drewN (hown.alloc (Obj.cells #[.int .i64 1, .slice p3 t.size c3, .int .u64 0, .int .u64 0, .bool false, .int .i64 0, .int .i64 0, .int .i64 0, .bool false] 143)) n2
    simp only [World.size_alloc] at h9
    exact h9
  · repeat (refine RD.set ?_ (by simp; omega) _)
    exact (HR1.out.alloc _).drew _
  · repeat (refine Ex.setCell ?_ (Or.inr (by simp)) _)
    exact ((((Ex.refl _ _).alloc _).trans HX.out).alloc _).drewN _
end Go.Proofs.YtmeffeigamaipabGreatDoor.Rx
