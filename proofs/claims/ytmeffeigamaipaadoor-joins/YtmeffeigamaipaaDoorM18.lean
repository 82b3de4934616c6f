/- W1 W2 W3 W4 W5 W6 K1 K2, one behind the other. -/
import Derived.Test.YtmeffeigamaipaaDoorProg
import Derived.WalkKit
import Derived.WalkSpells
import Derived.WalkLawsBesides
import Derived.Deep.QuietTactic
import Derived.BigQuiet
import Derived.ShutString
import Derived.Deep.LoopGhost
import Derived.Test.YtmeffeigamaipaaDoorShelf
import Derived.Carry
import Derived.Deep.RegionLaw
import Derived.Deep.AppendLies
import Derived.Test.YtmeffeigamaipaaDoorM17
set_option linter.unusedVariables false
set_option linter.unusedSimpArgs false
/- Contracts of the pattern reader's small functions: what they read, at a text of which the next byte is known. -/
namespace Go.Proofs.YtmeffeigamaipaaDoor.Rx
open Go.RowKit

def RD (w : World) (r : Nat) (t : ByteArray) (k : Nat) (mv : Value) : Prop :=
  w.heap[r]? = some (.cells #[.string t, .int .i64 k, .int .i64 0, .bool false, .int .i64 0, mv] 63 (0, 0))

theorem RD.c0 {w : World} {r : Nat} {t : ByteArray} {k : Nat} {mv : Value} (h : RD w r t k mv) : w.cell? ⟨r, 0, none⟩ = some (.string t) := by
  rw [cell_of_row w r 0 _ 63 (0, 0) h]; rfl
theorem RD.c1 {w : World} {r : Nat} {t : ByteArray} {k : Nat} {mv : Value} (h : RD w r t k mv) : w.cell? ⟨r, 1, none⟩ = some (.int .i64 k) := by
  rw [cell_of_row w r 1 _ 63 (0, 0) h]; rfl
theorem RD.c3 {w : World} {r : Nat} {t : ByteArray} {k : Nat} {mv : Value} (h : RD w r t k mv) : w.cell? ⟨r, 3, none⟩ = some (.bool false) := by
  rw [cell_of_row w r 3 _ 63 (0, 0) h]; rfl
theorem RD.drew {w : World} {r : Nat} {t : ByteArray} {k : Nat} {mv : Value} (h : RD w r t k mv) (n : Nat) : RD (w.drewN n) r t k mv := h
theorem RD.lt {w : World} {r : Nat} {t : ByteArray} {k : Nat} {mv : Value} (h : RD w r t k mv) : r < w.heap.size := (Array.getElem?_eq_some_iff.1 h).1

end Go.Proofs.YtmeffeigamaipaaDoor.Rx

/- Contracts of the pattern reader at a text of dots: the class of every rune, counts that are not there. -/
namespace Go.Proofs.YtmeffeigamaipaaDoor.Rx
open Go.RowKit

structure Ex (own : List Nat) (w w' : World) : Prop where
  os : w'.os = w.os
  tape : w'.tape = w.tape
  output : w'.output = w.output
  size : w.heap.size ≤ w'.heap.size
  block : ∀ k, k < w.heap.size → k ∉ own → w'.heap[k]? = w.heap[k]?

theorem Ex.refl (l : List Nat) (w : World) : Ex l w w := ⟨rfl, rfl, rfl, Nat.le_refl _, fun _ _ _ => rfl⟩
theorem Ex.drewN {l : List Nat} {a w : World} (h : Ex l a w) (n : Nat) : Ex l a (w.drewN n) := ⟨h.os, h.tape, h.output, h.size, h.block⟩
theorem Ex.drew {l : List Nat} {a w : World} (h : Ex l a w) : Ex l a w.drew := ⟨h.os, h.tape, h.output, h.size, h.block⟩
theorem Ex.trans {l : List Nat} {a b c : World} (h : Ex l a b) (k : Ex l b c) : Ex l a c :=
  ⟨k.os.trans h.os, k.tape.trans h.tape, k.output.trans h.output, Nat.le_trans h.size k.size, fun i hi hn => (k.block i (Nat.lt_of_lt_of_le hi h.size) hn).trans (h.block i hi hn)⟩
theorem Ex.drop {l l' : List Nat} {a b : World} (h : Ex l a b) (hl : ∀ x, x ∈ l → x < a.heap.size → x ∈ l') : Ex l' a b :=
  ⟨h.os, h.tape, h.output, h.size, fun i hi hn => h.block i hi (fun hm => hn (hl i hm hi))⟩
theorem Ex.alloc {l : List Nat} {a w : World} (h : Ex l a w) (o : Obj) : Ex l a (w.alloc o) :=
  h.trans ⟨rfl, rfl, rfl, by simp, fun k hk _ => Below.heap_alloc _ _ _ hk⟩
theorem Ex.setCell {l : List Nat} {a w : World} (h : Ex l a w) {p : Addr} (hp : p.block ∈ l ∨ a.heap.size ≤ p.block) (u : Value) : Ex l a (w.setCell p u) :=
  ⟨h.os, h.tape, h.output, by simpa [World.setCell] using h.size, fun k hk hn => by
    rw [Below.heap_setCell _ _ _ _ (by rintro rfl; rcases hp with hp | hp; · exact hn hp
                                       · omega)]; exact h.block k hk hn⟩
theorem Ex.below {a w : World} (h : Below a.heap.size a w) : Ex [] a w := ⟨h.os, h.tape, h.output, h.size, fun k hk _ => h.block k hk⟩
theorem Ex.toBelow {a w : World} (h : Ex [] a w) : Below a.heap.size a w := ⟨h.os, h.tape, h.output, h.size, fun k hk => h.block k hk (by simp)⟩

theorem Ex.cell {l : List Nat} {W w1 : World} (h : Ex l W w1) : (∀ b o, b < W.heap.size → b ∉ l → w1.cell? ⟨b, o, none⟩ = W.cell? ⟨b, o, none⟩) ∧ (∀ b o, b < W.heap.size → b ∉ l → w1.frozen? ⟨b, o, none⟩ = W.frozen? ⟨b, o, none⟩) :=
  ⟨fun b _ hb hn => World.cell?_of_block (h.block b hb hn), fun b _ hb hn => World.frozen?_of_block (h.block b hb hn)⟩
theorem Ex.cell0 {W w1 : World} (h : Ex [] W w1) : (∀ b o, b < W.heap.size → w1.cell? ⟨b, o, none⟩ = W.cell? ⟨b, o, none⟩) ∧ (∀ b o, b < W.heap.size → w1.frozen? ⟨b, o, none⟩ = W.frozen? ⟨b, o, none⟩) :=
  ⟨fun b o hb => h.cell.1 b o hb (by simp), fun b o hb => h.cell.2 b o hb (by simp)⟩

theorem RD.ex {l : List Nat} {w w' : World} {r : Nat} {t : ByteArray} {k : Nat} {mv : Value} (h : RD w r t k mv) (hx : Ex l w w') (hn : r ∉ l) : RD w' r t k mv := by
  unfold RD; rw [hx.block r h.lt hn]; exact h
theorem RD.step {w : World} {r : Nat} {t : ByteArray} {k : Nat} {mv : Value} (h : RD w r t k mv) : RD (w.setCell ⟨r, 1, none⟩ (.int .i64 ((k + 1 : Nat) : Int))) r t (k + 1) mv := by
  unfold RD at h ⊢
  simp [World.setCell, Array.getElem?_modify, h]

theorem RD.f1 {w : World} {r : Nat} {t : ByteArray} {k : Nat} {mv : Value} (h : RD w r t k mv) : w.frozen? ⟨r, 1, none⟩ = false := by
  unfold RD at h; simp [World.frozen?, h]

end Go.Proofs.YtmeffeigamaipaaDoor.Rx

/- Contracts of the pattern reader at a text of dots: a branch, an expression. -/
namespace Go.Proofs.YtmeffeigamaipaaDoor.Rx
open Go.RowKit

theorem Ex.grown {l : List Nat} {a w w' : World} {row : Option Nat} (h : Ex l a w) (hg : w.grownBy w' row) (hr : ∀ k, row = some k → k ∈ l ∨ a.heap.size ≤ k) : Ex l a w' :=
  ⟨hg.os.trans h.os, hg.tape.trans h.tape, hg.output.trans h.output, Nat.le_trans h.size hg.size, fun k hk hn =>
    (hg.block k (Nat.lt_of_lt_of_le hk h.size) (fun e => by rcases hr k e.symm with h | h; · exact hn h
                                                            · omega)).trans (h.block k hk hn)⟩
theorem own_ex {l : List Nat} {w w' : World} {base : Nat} {e : TypeId} {size : Nat} {v : Value} {n : Nat} {xs : List Value} (h : w.ownsRow base e size v n xs) (hx : Ex l w w') (hl : ∀ x, x ∈ l → x < base) : w'.ownsRow base e size v n xs := by
  refine ⟨h.1, ?_⟩
  rcases h.2 with hn | ⟨g, cap, cur, rfl, hb, hgg, rest⟩
  · exact .inl hn
  · refine .inr ⟨g, cap, cur, rfl, hb, ?_, rest⟩
    rw [hx.block g (Array.getElem?_eq_some_iff.1 hgg).1 (fun hm => by have := hl g hm; omega)]
    exact hgg

theorem own_slice {w : World} {base : Nat} {e : TypeId} {size : Nat} {v : Value} {n : Nat} {xs : List Value} (h : w.ownsRow base e size v n xs) : ∃ p c, v = .slice p n c := by
  rcases h.2 with ⟨rfl, rfl⟩ | ⟨g, cap, cur, rfl, _⟩
  · exact ⟨_, _, rfl⟩
  · exact ⟨_, _, rfl⟩
theorem own_block {w : World} {base : Nat} {e : TypeId} {size : Nat} {v : Value} {n : Nat} {xs : List Value} (h : w.ownsRow base e size v n xs) : ∀ k, v.ownBlock = some k → base ≤ k := fun k hk => (h.lt k hk).1
theorem own_set {w : World} {base : Nat} {e : TypeId} {size : Nat} {v : Value} {n : Nat} {xs : List Value} (h : w.ownsRow base e size v n xs) {a : Addr} (ha : a.block < base) (u : Value) : (w.setCell a u).ownsRow base e size v n xs := ownsRow_setCell_below h ha u

def BK (w : World) (b : Nat) (o : Obj) : Prop := w.heap[b]? = some o
theorem BK.lt {w : World} {b : Nat} {o : Obj} (h : BK w b o) : b < w.heap.size := (Array.getElem?_eq_some_iff.1 h).1
theorem BK.new (w : World) (o : Obj) : BK (w.alloc o) w.heap.size o := heap_alloc_new w o
theorem BK.ex {l : List Nat} {w w' : World} {b : Nat} {o : Obj} (h : BK w b o) (hx : Ex l w w') (hn : b ∉ l) : BK w' b o := by
  unfold BK; rw [hx.block b h.lt hn]; exact h
theorem BK.alloc {w : World} {b : Nat} {o : Obj} (h : BK w b o) (o' : Obj) : BK (w.alloc o') b o := h.ex ((Ex.refl [] _).alloc o') (by simp)
theorem BK.set {w : World} {b : Nat} {o : Obj} (h : BK w b o) {p : Addr} (hp : b ≠ p.block) (u : Value) : BK (w.setCell p u) b o := by
  unfold BK; rw [Below.heap_setCell _ _ _ _ hp]; exact h
theorem BK.drewN {w : World} {b : Nat} {o : Obj} (h : BK w b o) (n : Nat) : BK (w.drewN n) b o := h
theorem BK.drew {w : World} {b : Nat} {o : Obj} (h : BK w b o) : BK w.drew b o := h
theorem BK.grown {w w' : World} {row : Option Nat} {b : Nat} {o : Obj} (h : BK w b o) (hg : w.grownBy w' row) (hn : row ≠ some b) : BK w' b o := by
  unfold BK; rw [hg.block b h.lt (fun e => hn e.symm)]; exact h

theorem BK.all {w : World} {b : Nat} {cs : Array Value} {e : TypeId} (h : BK w b (.cells cs e (0, 0))) : (∀ o, w.cell? ⟨b, o, none⟩ = cs[o]?) ∧ (∀ o, w.frozen? ⟨b, o, none⟩ = false) :=
  ⟨fun o => cell_of_row w b o cs e (0, 0) h, fun o => by unfold BK at h; simp [World.frozen?, h]⟩

end Go.Proofs.YtmeffeigamaipaaDoor.Rx

/- Contracts of the pattern reader at a text of dots: the face, behind which it would give up by a panic. -/
namespace Go.Proofs.YtmeffeigamaipaaDoor.Rx
open Go.RowKit

theorem hide {p : Prop} (h : p) : Hid p := h
theorem BK.self {w : World} {b : Nat} {cs : Array Value} {e : TypeId} (h : BK w b (.cells cs e (0, 0))) (i : Nat) (u : Value) : BK (w.setCell ⟨b, i, none⟩ u) b (.cells (cs.setIfInBounds i u) e (0, 0)) := by
  unfold BK at h ⊢
  simp [World.setCell, Array.getElem?_modify, h]
end Go.Proofs.YtmeffeigamaipaaDoor.Rx

/- Contracts of the weight, at what the reader made of dots. -/
namespace Go.Proofs.YtmeffeigamaipaaDoor.Rx
open Go.RowKit

end Go.Proofs.YtmeffeigamaipaaDoor.Rx

/- Contracts of the builder of programs, at what the reader made of dots. -/
namespace Go.Proofs.YtmeffeigamaipaaDoor.Rx
open Go.RowKit

structure EB (B : Nat) (own : List Nat) (w w' : World) : Prop where
  os : w'.os = w.os
  tape : w'.tape = w.tape
  output : w'.output = w.output
  size : w.heap.size ≤ w'.heap.size
  block : ∀ k, k < B → k ∉ own → w'.heap[k]? = w.heap[k]?

theorem EB.refl (B : Nat) (l : List Nat) (w : World) : EB B l w w := ⟨rfl, rfl, rfl, Nat.le_refl _, fun _ _ _ => rfl⟩
theorem EB.drew {B : Nat} {l : List Nat} {a w : World} (h : EB B l a w) : EB B l a w.drew := ⟨h.os, h.tape, h.output, h.size, h.block⟩
theorem EB.trans {B : Nat} {l : List Nat} {a b c : World} (h : EB B l a b) (k : EB B l b c) : EB B l a c :=
  ⟨k.os.trans h.os, k.tape.trans h.tape, k.output.trans h.output, Nat.le_trans h.size k.size, fun i hi hn => (k.block i hi hn).trans (h.block i hi hn)⟩
theorem EB.mono {B B' : Nat} {l l' : List Nat} {a b : World} (h : EB B l a b) (hB : B' ≤ B) (hl : ∀ x, x ∈ l → x < B' → x ∈ l') : EB B' l' a b :=
  ⟨h.os, h.tape, h.output, h.size, fun i hi hn => h.block i (by omega) (fun hm => hn (hl i hm hi))⟩
theorem EB.alloc {B : Nat} {l : List Nat} {a w : World} (h : EB B l a w) (hB : B ≤ w.heap.size) (o : Obj) : EB B l a (w.alloc o) :=
  h.trans ⟨rfl, rfl, rfl, by simp, fun k hk _ => Below.heap_alloc _ _ _ (by omega)⟩
theorem EB.setCell {B : Nat} {l : List Nat} {a w : World} (h : EB B l a w) {p : Addr} (hp : p.block ∈ l ∨ B ≤ p.block) (u : Value) : EB B l a (w.setCell p u) :=
  ⟨h.os, h.tape, h.output, by simpa [World.setCell] using h.size, fun k hk hn => by
    rw [Below.heap_setCell _ _ _ _ (by rintro rfl; rcases hp with hp | hp; · exact hn hp
                                       · omega)]; exact h.block k hk hn⟩
theorem EB.ofEx {B : Nat} {l : List Nat} {a w : World} (h : Ex l a w) (hB : B ≤ a.heap.size) : EB B l a w := ⟨h.os, h.tape, h.output, h.size, fun k hk hn => h.block k (by omega) hn⟩
theorem EB.toEx {l : List Nat} {a w : World} (h : EB a.heap.size l a w) : Ex l a w := ⟨h.os, h.tape, h.output, h.size, h.block⟩
theorem BK.eb {B : Nat} {l : List Nat} {w w' : World} {b : Nat} {o : Obj} (h : BK w b o) (hx : EB B l w w') (hb : b < B) (hn : b ∉ l) : BK w' b o := by
  unfold BK; rw [hx.block b hb hn]; exact h

theorem info116 : (Tryd.prog.info? 98).map (fun i => (i.zero, i.size, i.bytes)) = some (some (.agg #[.int .i64 0, .int .u64 0, .int .u64 0, .bool false, .int .i64 0, .int .i64 0, .int .i64 0]), 7, 56) := by kernel_rfl

end Go.Proofs.YtmeffeigamaipaaDoor.Rx

/- The program that a builder lays: instructions in memory. -/
namespace Go.Proofs.YtmeffeigamaipaaDoor.G
open Go.RowKit

structure Ins where
  op : Int
  lo : Int
  hi : Int
  hg : Bool
  t0 : Int
  t1 : Int
  sl : Int
def Ins.cells (i : Ins) : List Value := [.int .i64 i.op, .int .u64 i.lo, .int .u64 i.hi, .bool i.hg, .int .i64 i.t0, .int .i64 i.t1, .int .i64 i.sl]
def Ins.val (i : Ins) : Value := .agg #[.int .i64 i.op, .int .u64 i.lo, .int .u64 i.hi, .bool i.hg, .int .i64 i.t0, .int .i64 i.t1, .int .i64 i.sl]
def codeL (l : List Ins) : List Value := l.flatMap Ins.cells
theorem codeL_append (a b : List Ins) : codeL (a ++ b) = codeL a ++ codeL b := by simp [codeL]
theorem codeL_len (l : List Ins) : (codeL l).length = l.length * 7 := by
  induction l with
  | nil => rfl
  | cons i l ih =>
    have h1 : codeL (i :: l) = i.cells ++ codeL l := rfl
    rw [h1, List.length_append, ih]
    simp [Ins.cells]
    omega
theorem codeL_at (l : List Ins) (k o : Nat) (i : Ins) (hk : l[k]? = some i) (ho : o < 7) : (codeL l)[k * 7 + o]? = i.cells[o]? := by
  induction l generalizing k with
  | nil => simp at hk
  | cons a l ih =>
    have h1 : codeL (a :: l) = a.cells ++ codeL l := rfl
    have h2 : a.cells.length = 7 := rfl
    rw [h1]
    cases k with
    | zero =>
      simp at hk
      subst hk
      rw [List.getElem?_append_left (by omega)]; simp
    | succ k =>
      rw [List.getElem?_append_right (by omega), h2, show (k + 1) * 7 + o - 7 = k * 7 + o by omega]
      exact ih k (by simpa using hk)
def Ins.way (i : Ins) (s : Bool) (n : Nat) : Ins := if s then { i with t1 := n } else { i with t0 := n }
def wayAt (l : List Ins) (k : Nat) (s : Bool) (n : Nat) : List Ins := l.modify k fun i => i.way s n
theorem wayAt_len (l : List Ins) (k : Nat) (s : Bool) (n : Nat) : (wayAt l k s n).length = l.length := by simp [wayAt]
theorem codeL_way (l : List Ins) (k : Nat) (s : Bool) (n : Nat) (hk : k < l.length) : (codeL l).set (k * 7 + (4 + s.toNat)) (.int .i64 n) = codeL (wayAt l k s n) := by
  induction l generalizing k with
  | nil => simp at hk
  | cons a l ih =>
    have h1 : codeL (a :: l) = a.cells ++ codeL l := rfl
    have h2 : a.cells.length = 7 := rfl
    have hs : s.toNat < 2 := by cases s <;> decide
    rw [h1]
    cases k with
    | zero =>
      rw [List.set_append_left _ _ (by omega)]
      have h3 : codeL (wayAt (a :: l) 0 s n) = (a.way s n).cells ++ codeL l := rfl
      rw [h3]
      congr 1
      cases s <;> rfl
    | succ k =>
      rw [List.set_append_right _ _ (by omega), h2, show (k + 1) * 7 + (4 + s.toNat) - 7 = k * 7 + (4 + s.toNat) by omega, ih k (by simpa using hk)]
      rfl

def IB (w : World) (k : Nat) : Prop := ∃ cur fr, w.heap[k]? = some (.cells cur 98 fr)
structure BF (base b : Nat) (w w' : World) : Prop where
  os : w'.os = w.os
  tape : w'.tape = w.tape
  output : w'.output = w.output
  size : w.heap.size ≤ w'.heap.size
  block : ∀ k, k < w.heap.size → k ≠ b → (k < base ∨ ¬ IB w k) → w'.heap[k]? = w.heap[k]?
theorem BF.refl (base b : Nat) (w : World) : BF base b w w := ⟨rfl, rfl, rfl, Nat.le_refl _, fun _ _ _ _ => rfl⟩
theorem BF.trans {base b : Nat} {w w1 w2 : World} (h : BF base b w w1) (k : BF base b w1 w2) : BF base b w w2 :=
  ⟨k.os.trans h.os, k.tape.trans h.tape, k.output.trans h.output, Nat.le_trans h.size k.size, fun i hi hn hc => by
    have h1 := h.block i hi hn hc
    exact (k.block i (Nat.lt_of_lt_of_le hi h.size) hn (hc.imp id (fun hb hI => hb (by obtain ⟨c, f, he⟩ := hI; exact ⟨c, f, h1 ▸ he⟩)))).trans h1⟩
theorem BF.alloc {base b : Nat} {w w1 : World} (h : BF base b w w1) (o : Obj) : BF base b w (w1.alloc o) :=
  ⟨h.os, h.tape, h.output, by have := h.size; simp; omega, fun k hk hn hc => (((Ex.refl [] w1).alloc o).block k (Nat.lt_of_lt_of_le hk h.size) (by simp)).trans (h.block k hk hn hc)⟩
theorem BF.drew {base b : Nat} {w w1 : World} (h : BF base b w w1) : BF base b w w1.drew := ⟨h.os, h.tape, h.output, h.size, h.block⟩
theorem BF.toEB {base b : Nat} {w w1 : World} (h : BF base b w w1) (hb : base ≤ w.heap.size) : EB base [b] w w1 := ⟨h.os, h.tape, h.output, h.size, fun k hk hn => h.block k (by omega) (by simpa using hn) (.inl hk)⟩
theorem BF.setCell {base b : Nat} {w w1 : World} (h : BF base b w w1) {p : Addr} (hp : p.block = b ∨ w.heap.size ≤ p.block ∨ (base ≤ p.block ∧ IB w1 p.block)) (u : Value) : BF base b w (w1.setCell p u) :=
  ⟨h.os, h.tape, h.output, by simpa [World.setCell] using h.size, fun k hk hn hc => by
    have h1 := h.block k hk hn hc
    rw [Below.heap_setCell _ _ _ _ (fun e => by
      rcases hp with hp | hp | ⟨hp, c, f, hI⟩
      · omega
      · omega
      · rcases hc with hc | hc
        · omega
        · exact hc ⟨c, f, by rw [← h1, e]; exact hI⟩)]
    exact h1⟩
theorem BF.grown {base b : Nat} {w w1 w2 : World} {row : Option Nat} (h : BF base b w w1) (hg : w1.grownBy w2 row) (hr : ∀ k, row = some k → k = b ∨ w.heap.size ≤ k ∨ (base ≤ k ∧ IB w1 k)) : BF base b w w2 :=
  ⟨hg.os.trans h.os, hg.tape.trans h.tape, hg.output.trans h.output, Nat.le_trans h.size hg.size, fun k hk hn hc => by
    have h1 := h.block k hk hn hc
    refine (hg.block k (Nat.lt_of_lt_of_le hk h.size) (fun e => ?_)).trans h1
    rcases hr k e.symm with hp | hp | ⟨hp, c, f, hI⟩
    · omega
    · omega
    · rcases hc with hc | hc
      · omega
      · exact hc ⟨c, f, by rw [← h1]; exact hI⟩⟩
theorem BK.bf {base b : Nat} {w w' : World} {k : Nat} {cs : Array Value} {e : TypeId} {fr : Nat × Nat} (h : BK w k (.cells cs e fr)) (hx : BF base b w w') (hn : k ≠ b) (he : e ≠ 98) : BK w' k (.cells cs e fr) := by
  unfold BK at h ⊢
  rw [hx.block k (BK.lt h) hn (.inr (fun ⟨c, f, hI⟩ => he (by rw [h] at hI; cases hI; rfl)))]
  exact h

structure BG (w : World) (b base : Nat) (l : List Ins) : Prop where
  lt : b < base
  le : base ≤ w.heap.size
  ex : ∃ v, BK w b (.cells #[v] 93 (0, 0)) ∧ w.ownsRow base 98 7 v l.length (codeL l)
theorem BG.alloc {w : World} {b base : Nat} {l : List Ins} (h : BG w b base l) (o : Obj) : BG (w.alloc o) b base l := by
  obtain ⟨v, hb, ho⟩ := h.ex
  exact ⟨h.lt, by have := h.le; simp; omega, v, hb.alloc o, ho.alloc o⟩
theorem own_IB {w : World} {base n : Nat} {v : Value} {xs : List Value} (h : w.ownsRow base 98 7 v n xs) : ∀ k, v.ownBlock = some k → base ≤ k ∧ IB w k := by
  intro k hk
  rcases h.2 with ⟨rfl, _⟩ | ⟨g, cap, cur, rfl, hb, hgg, _⟩
  · simp [Value.ownBlock] at hk
  · simp [Value.ownBlock] at hk
    subst hk
    exact ⟨hb, cur, _, hgg⟩

set_option maxHeartbeats 1000000 in
set_option maxRecDepth 100000 in
theorem put_gen (i : Ins) {b base : Nat} {l : List Ins} {w : World} (hd : BG w b base l) (hn : l.length ≤ 100000) :
    Calls Tryd.prog 35 #[.pointer (some ⟨b, 0, none⟩), i.val] w fun e w' => e = .returned (.int .i64 l.length) ∧ BG w' b base (l ++ [i]) ∧ BF base b w w' := by
  obtain ⟨t0, hi, hz0, hz1, hz2⟩ := info_parts Rx.info116
  obtain ⟨v, hb, hown⟩ := hd.ex
  have hbb := hd.lt
  have hbw := hd.le
  obtain ⟨p, cp, rfl⟩ := own_slice hown
  obtain ⟨op, a, c, h, u0, u1, us⟩ := i
  obtain ⟨n, hnl⟩ : ∃ n, n = l.length := ⟨_, rfl⟩
  rw [← hnl] at hown hb hn ⊢
  have HNL := hide hnl
  obtain ⟨hcb, hfb⟩ := hb.all
  have hbl := hb.lt
  have HO := hide hown
  have HB := hide hb
  clear hown hb hd hnl
  unfold Ins.val
  dsimp only
  go_enter Tryd.func35, Tryd.ntmps35
  go_wp2_with fail
  have HN : ∀ j u, (Ins.cells ⟨op, a, c, h, u0, u1, us⟩)[j]? = some u → ((w.alloc (Obj.cells #[.int .i64 op, .int .u64 a, .int .u64 c, .bool h, .int .i64 u0, .int .i64 u1, .int .i64 us] 98)).alloc (Obj.cells #[.int .i64 op, .int .u64 a, .int .u64 c, .bool h, .int .i64 u0, .int .i64 u1, .int .i64 us] 98)).drew.cell? ((⟨w.heap.size + 1, 0, none⟩ : Addr).add j) = some u := by
    have h := BK.new (w.alloc (Obj.cells #[.int .i64 op, .int .u64 a, .int .u64 c, .bool h, .int .i64 u0, .int .i64 u1, .int .i64 us] 98)) (Obj.cells #[.int .i64 op, .int .u64 a, .int .u64 c, .bool h, .int .i64 u0, .int .i64 u1, .int .i64 us] 98)
    simp only [World.size_alloc] at h
    exact World.news_of_block (BK.drew h)
  have HNN := hide HN
  clear HN
  go_region_law (refine step_append_lies _ rfl (.tmp 9) (.tmp 11) 65 rfl base 98 t0 _ 7 56 Tryd.underlying65 hi hz0 hz1 hz2 rfl (by decide) (.slice p n cp) n (codeL l) (by simp [Act.eval, Act.put]) (World.ownsRow.drew ((HO.out.alloc _).alloc _)) ⟨w.heap.size + 1, 0, none⟩ 1 1 (Ins.cells ⟨op, a, c, h, u0, u1, us⟩) (by simp [Act.eval, Act.put]) rfl HNN.out (by simp [Ins.cells, Value.oneCell']) (by decide) (by unfold maxLen; omega) (by omega) (by simp; omega) _ rfl ?_; intro g cap w1 hown1 hgrow hat hlt; have hb1 := BK.grown ((HB.out.alloc _).alloc _).drew hgrow (fun e => by have := own_block HO.out _ e; omega); obtain ⟨hcb1, hfb1⟩ := hb1.all)
  all_goals
    have HB1 := hide hb1
    have HO1 := hide hown1
    have HG1 := hide hgrow
    have hlt1 := hgrow.size
    clear hb1 hown1 hgrow hat
    go_wp2
    go_ret
    refine ⟨by simp, ⟨hbb, by simp [World.setCell] at hlt1 ⊢; omega, _, BK.self HB1.out 0 _, ?_⟩, ?_⟩
    · have h1 := own_set HO1.out (a := ⟨b, 0, none⟩) hbb (.slice (some ⟨g, 0, none⟩) (n + 1) cap)
      rw [codeL_append]
      rw [show (l ++ [(⟨op, a, c, h, u0, u1, us⟩ : Ins)]).length = n + 1 by simp [HNL.out]]
      exact h1
    · refine BF.setCell (p := ⟨b, 0, none⟩) ?_ (Or.inl rfl) _
      exact BF.grown (((((BF.refl _ _ _).alloc _).alloc _).drew)) HG1.out (fun k hk => Or.inr (Or.inr (own_IB (World.ownsRow.drew ((HO.out.alloc _).alloc _)) k hk)))
end Go.Proofs.YtmeffeigamaipaaDoor.G

/- A builder's splits. -/
namespace Go.Proofs.YtmeffeigamaipaaDoor.G
open Go.RowKit

set_option maxRecDepth 100000 in
theorem enters_any (z : Bool) (w : World) : Calls Tryd.prog 55 #[.bool z] w fun e w' => e = .returned (.int .i64 (z.toNat : Int)) ∧ w' = w := by
  cases z
  · go_enter Tryd.func55, Tryd.ntmps55
    go_wp2_with fail
    go_ret
    exact ⟨rfl, rfl⟩
  · go_enter Tryd.func55, Tryd.ntmps55
    go_wp2_with fail
    go_ret
    exact ⟨rfl, rfl⟩

theorem own_way {w : World} {base g c k : Nat} {l : List Ins} (h : w.ownsRow base 98 7 (.slice (some ⟨g, 0, none⟩) l.length c) l.length (codeL l)) (s : Bool) (n : Nat) (hk : k < l.length) :
    (w.setCell ⟨g, k * 7 + (4 + s.toNat), none⟩ (.int .i64 n)).ownsRow base 98 7 (.slice (some ⟨g, 0, none⟩) l.length c) l.length (codeL (wayAt l k s n)) := by
  refine ⟨by rw [codeL_len, wayAt_len], ?_⟩
  rcases h.2 with ⟨hn, _⟩ | ⟨g', cap, cur, hv, hb, hgg, hnc, hcm, hcs, htake⟩
  · cases hn
  · cases hv
    refine .inr ⟨g, c, cur.setIfInBounds (k * 7 + (4 + s.toNat)) (.int .i64 n), rfl, hb, BK.self hgg _ _, hnc, hcm, by simpa using hcs, ?_⟩
    rw [Array.toList_setIfInBounds, List.take_set, htake, codeL_way l k s n hk]
end Go.Proofs.YtmeffeigamaipaaDoor.G
