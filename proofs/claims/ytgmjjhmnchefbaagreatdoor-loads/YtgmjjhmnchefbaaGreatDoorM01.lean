/- B0 C1 C2 S0 C3 B1 C4 C5 B2 B3 B4 C10 C11 C6 C7 C12 C8 C9, one behind the other. -/
import Derived.WalkKit
import Derived.WalkSpells
import Derived.WalkLawsBesides
import Derived.Deep.QuietTactic
import Derived.BigQuiet
import Derived.ShutString
import Derived.Deep.LoopGhost
import Derived.OrdersHeld
import Derived.StillTail
import Derived.Deep.MidRow
import Derived.MapKept
import Derived.Test.YtgmjjhmnchefbaaGreatDoorProg
import Derived.Test.YtgmjjhmnchefbaaGreatDoorShelf
import Derived.Lib.Bytealg
import Derived.Laws.OwnMore
import Derived.Laws.CopyRow
import Derived.Laws.AppendOwnNone
import Derived.Deep.AppendLies
import Derived.Deep.RegionLaw
import Derived.Lib.SliceRun
import Derived.Great.BuildSlice
import Derived.Lib.AppendZeros
import Derived.Lib.Overlaps
import Derived.Laws.Externs
import Derived.Deep.RegionHeld3
set_option linter.unusedVariables false
set_option linter.unusedSimpArgs false
/- What every text here leans on: frames (which blocks a call may turn), whole blocks, rows that a call owns, and a region that draws its order. -/
namespace Go.Proofs.YtgmjjhmnchefbaaGreatDoor
open Go.RowKit

structure Ex (own : List Nat) (w w' : World) : Prop where
  os : w'.os = w.os
  tape : w'.tape = w.tape
  output : w'.output = w.output
  size : w.heap.size ≤ w'.heap.size
  block : ∀ k, k < w.heap.size → k ∉ own → w'.heap[k]? = w.heap[k]?

theorem Ex.refl (l : List Nat) (w : World) : Ex l w w := ⟨rfl, rfl, rfl, Nat.le_refl _, fun _ _ _ => rfl⟩

theorem Ex.drewN {l : List Nat} {a w : World} (h : Ex l a w) (n : Nat) : Ex l a (w.drewN n) := ⟨h.os, h.tape, h.output, h.size, h.block⟩

theorem Ex.drew {l : List Nat} {a w : World} (h : Ex l a w) : Ex l a w.drew := ⟨h.os, h.tape, h.output, h.size, h.block⟩

theorem Ex.trans {l : List Nat} {a b c : World} (h : Ex l a b) (k : Ex l b c) : Ex l a c :=
  ⟨k.os.trans h.os, k.tape.trans h.tape, k.output.trans h.output, Nat.le_trans h.size k.size, fun i hi hn => (k.block i (Nat.lt_of_lt_of_le hi h.size) hn).trans (h.block i hi hn)⟩

theorem Ex.drop {l l' : List Nat} {a b : World} (h : Ex l a b) (hl : ∀ x, x ∈ l → x < a.heap.size → x ∈ l') : Ex l' a b :=
  ⟨h.os, h.tape, h.output, h.size, fun i hi hn => h.block i hi (fun hm => hn (hl i hm hi))⟩

theorem Ex.alloc {l : List Nat} {a w : World} (h : Ex l a w) (o : Obj) : Ex l a (w.alloc o) :=
  h.trans ⟨rfl, rfl, rfl, by simp, fun k hk _ => Below.heap_alloc _ _ _ hk⟩

theorem Ex.setCell {l : List Nat} {a w : World} (h : Ex l a w) {p : Addr} (hp : p.block ∈ l ∨ a.heap.size ≤ p.block) (u : Value) : Ex l a (w.setCell p u) :=
  ⟨h.os, h.tape, h.output, by simpa [World.setCell] using h.size, fun k hk hn => by
    rw [Below.heap_setCell _ _ _ _ (by rintro rfl; rcases hp with hp | hp; · exact hn hp
                                       · omega)]; exact h.block k hk hn⟩

theorem Ex.below {a w : World} (h : Below a.heap.size a w) : Ex [] a w := ⟨h.os, h.tape, h.output, h.size, fun k hk _ => h.block k hk⟩

theorem Ex.toBelow {a w : World} (h : Ex [] a w) : Below a.heap.size a w := ⟨h.os, h.tape, h.output, h.size, fun k hk => h.block k hk (by simp)⟩

theorem Ex.cell {l : List Nat} {W w1 : World} (h : Ex l W w1) : (∀ b o, b < W.heap.size → b ∉ l → w1.cell? ⟨b, o, none⟩ = W.cell? ⟨b, o, none⟩) ∧ (∀ b o, b < W.heap.size → b ∉ l → w1.frozen? ⟨b, o, none⟩ = W.frozen? ⟨b, o, none⟩) :=
  ⟨fun b _ hb hn => World.cell?_of_block (h.block b hb hn), fun b _ hb hn => World.frozen?_of_block (h.block b hb hn)⟩

theorem Ex.cell0 {W w1 : World} (h : Ex [] W w1) : (∀ b o, b < W.heap.size → w1.cell? ⟨b, o, none⟩ = W.cell? ⟨b, o, none⟩) ∧ (∀ b o, b < W.heap.size → w1.frozen? ⟨b, o, none⟩ = W.frozen? ⟨b, o, none⟩) :=
  ⟨fun b o hb => h.cell.1 b o hb (by simp), fun b o hb => h.cell.2 b o hb (by simp)⟩

theorem Ex.cell1 {r : Nat} {W w1 : World} (h : Ex [r] W w1) : (∀ b o, b < W.heap.size → b ≠ r → w1.cell? ⟨b, o, none⟩ = W.cell? ⟨b, o, none⟩) ∧ (∀ b o, b < W.heap.size → b ≠ r → w1.frozen? ⟨b, o, none⟩ = W.frozen? ⟨b, o, none⟩) :=
  ⟨fun b o hb hn => h.cell.1 b o hb (by simpa using hn), fun b o hb hn => h.cell.2 b o hb (by simpa using hn)⟩

theorem Ex.grown {l : List Nat} {a w w' : World} {row : Option Nat} (h : Ex l a w) (hg : w.grownBy w' row) (hr : ∀ k, row = some k → k ∈ l ∨ a.heap.size ≤ k) : Ex l a w' :=
  ⟨hg.os.trans h.os, hg.tape.trans h.tape, hg.output.trans h.output, Nat.le_trans h.size hg.size, fun k hk hn =>
    (hg.block k (Nat.lt_of_lt_of_le hk h.size) (fun e => by rcases hr k e.symm with h | h; · exact hn h
                                                            · omega)).trans (h.block k hk hn)⟩

theorem own_ex {l : List Nat} {w w' : World} {base : Nat} {e : TypeId} {size : Nat} {v : Value} {n : Nat} {xs : List Value} (h : w.ownsRow base e size v n xs) (hx : Ex l w w') (hl : ∀ x, x ∈ l → x < base) : w'.ownsRow base e size v n xs := by
  refine ⟨h.1, ?_⟩
  rcases h.2 with hn | ⟨g, cap, cur, rfl, hb, hgg, rest⟩
  · exact .inl hn
  · refine .inr ⟨g, cap, cur, rfl, hb, ?_, rest⟩
    rw [hx.block g (Array.getElem?_eq_some_iff.1 hgg).1 (fun hm => by have := hl g hm; omega)]
    exact hgg

theorem own_slice {w : World} {base : Nat} {e : TypeId} {size : Nat} {v : Value} {n : Nat} {xs : List Value} (h : w.ownsRow base e size v n xs) : ∃ p c, v = .slice p n c := by
  rcases h.2 with ⟨rfl, rfl⟩ | ⟨g, cap, cur, rfl, _⟩
  · exact ⟨_, _, rfl⟩
  · exact ⟨_, _, rfl⟩

theorem own_block {w : World} {base : Nat} {e : TypeId} {size : Nat} {v : Value} {n : Nat} {xs : List Value} (h : w.ownsRow base e size v n xs) : ∀ k, v.ownBlock = some k → base ≤ k := fun k hk => (h.lt k hk).1

theorem cells_new (w : World) (cs : Array Value) (t : TypeId) : ∀ j u, cs.toList[j]? = some u → (w.alloc (.cells cs t)).cell? ((⟨w.heap.size, 0, none⟩ : Addr).add j) = some u := by
  intro j u hj
  have hadd : (⟨w.heap.size, 0, none⟩ : Addr).add j = ⟨w.heap.size, j, none⟩ := by unfold Addr.add; split <;> simp_all
  rw [hadd, cell_of_row (w.alloc (.cells cs t)) w.heap.size j cs t (0, 0) (heap_alloc_new w _)]
  simpa using hj

theorem own_set {w : World} {base : Nat} {e : TypeId} {size : Nat} {v : Value} {n : Nat} {xs : List Value} (h : w.ownsRow base e size v n xs) {a : Addr} (ha : a.block < base) (u : Value) : (w.setCell a u).ownsRow base e size v n xs := ownsRow_setCell_below h ha u

def BK (w : World) (b : Nat) (o : Obj) : Prop := w.heap[b]? = some o

theorem BK.lt {w : World} {b : Nat} {o : Obj} (h : BK w b o) : b < w.heap.size := (Array.getElem?_eq_some_iff.1 h).1

theorem BK.new (w : World) (o : Obj) : BK (w.alloc o) w.heap.size o := heap_alloc_new w o

theorem BK.ex {l : List Nat} {w w' : World} {b : Nat} {o : Obj} (h : BK w b o) (hx : Ex l w w') (hn : b ∉ l) : BK w' b o := by
  unfold BK; rw [hx.block b h.lt hn]; exact h

theorem BK.alloc {w : World} {b : Nat} {o : Obj} (h : BK w b o) (o' : Obj) : BK (w.alloc o') b o := h.ex ((Ex.refl [] _).alloc o') (by simp)

theorem BK.set {w : World} {b : Nat} {o : Obj} (h : BK w b o) {p : Addr} (hp : b ≠ p.block) (u : Value) : BK (w.setCell p u) b o := by
  unfold BK; rw [Below.heap_setCell _ _ _ _ hp]; exact h

theorem BK.drewN {w : World} {b : Nat} {o : Obj} (h : BK w b o) (n : Nat) : BK (w.drewN n) b o := h

theorem BK.drew {w : World} {b : Nat} {o : Obj} (h : BK w b o) : BK w.drew b o := h

theorem BK.grown {w w' : World} {row : Option Nat} {b : Nat} {o : Obj} (h : BK w b o) (hg : w.grownBy w' row) (hn : row ≠ some b) : BK w' b o := by
  unfold BK; rw [hg.block b h.lt (fun e => hn e.symm)]; exact h

theorem BK.all {w : World} {b : Nat} {cs : Array Value} {e : TypeId} (h : BK w b (.cells cs e (0, 0))) : (∀ o, w.cell? ⟨b, o, none⟩ = cs[o]?) ∧ (∀ o, w.frozen? ⟨b, o, none⟩ = false) :=
  ⟨fun o => cell_of_row w b o cs e (0, 0) h, fun o => by unfold BK at h; simp [World.frozen?, h]⟩

theorem hide {p : Prop} (h : p) : Hid p := h

theorem unhide {p : Prop} (h : Hid p) : p := h

theorem BK.self {w : World} {b : Nat} {cs : Array Value} {e : TypeId} (h : BK w b (.cells cs e (0, 0))) (i : Nat) (u : Value) : BK (w.setCell ⟨b, i, none⟩ u) b (.cells (cs.setIfInBounds i u) e (0, 0)) := by
  unfold BK at h ⊢
  simp [World.setCell, Array.getElem?_modify, h]

structure EB (B : Nat) (own : List Nat) (w w' : World) : Prop where
  os : w'.os = w.os
  tape : w'.tape = w.tape
  output : w'.output = w.output
  size : w.heap.size ≤ w'.heap.size
  block : ∀ k, k < B → k ∉ own → w'.heap[k]? = w.heap[k]?

theorem EB.refl (B : Nat) (l : List Nat) (w : World) : EB B l w w := ⟨rfl, rfl, rfl, Nat.le_refl _, fun _ _ _ => rfl⟩

theorem EB.drewN {B : Nat} {l : List Nat} {a w : World} (h : EB B l a w) (n : Nat) : EB B l a (w.drewN n) := ⟨h.os, h.tape, h.output, h.size, h.block⟩

theorem EB.drew {B : Nat} {l : List Nat} {a w : World} (h : EB B l a w) : EB B l a w.drew := ⟨h.os, h.tape, h.output, h.size, h.block⟩

theorem EB.trans {B : Nat} {l : List Nat} {a b c : World} (h : EB B l a b) (k : EB B l b c) : EB B l a c :=
  ⟨k.os.trans h.os, k.tape.trans h.tape, k.output.trans h.output, Nat.le_trans h.size k.size, fun i hi hn => (k.block i hi hn).trans (h.block i hi hn)⟩

theorem EB.mono {B B' : Nat} {l l' : List Nat} {a b : World} (h : EB B l a b) (hB : B' ≤ B) (hl : ∀ x, x ∈ l → x < B' → x ∈ l') : EB B' l' a b :=
  ⟨h.os, h.tape, h.output, h.size, fun i hi hn => h.block i (by omega) (fun hm => hn (hl i hm hi))⟩

theorem EB.alloc {B : Nat} {l : List Nat} {a w : World} (h : EB B l a w) (hB : B ≤ w.heap.size) (o : Obj) : EB B l a (w.alloc o) :=
  h.trans ⟨rfl, rfl, rfl, by simp, fun k hk _ => Below.heap_alloc _ _ _ (by omega)⟩

theorem EB.setCell {B : Nat} {l : List Nat} {a w : World} (h : EB B l a w) {p : Addr} (hp : p.block ∈ l ∨ B ≤ p.block) (u : Value) : EB B l a (w.setCell p u) :=
  ⟨h.os, h.tape, h.output, by simpa [World.setCell] using h.size, fun k hk hn => by
    rw [Below.heap_setCell _ _ _ _ (by rintro rfl; rcases hp with hp | hp; · exact hn hp
                                       · omega)]; exact h.block k hk hn⟩

theorem EB.grown {B : Nat} {l : List Nat} {a w w' : World} {row : Option Nat} (h : EB B l a w) (hg : w.grownBy w' row) (hB : B ≤ w.heap.size) (hr : ∀ k, row = some k → k ∈ l ∨ B ≤ k) : EB B l a w' :=
  ⟨hg.os.trans h.os, hg.tape.trans h.tape, hg.output.trans h.output, Nat.le_trans h.size hg.size, fun k hk hn =>
    (hg.block k (by omega) (fun e => by rcases hr k e.symm with h | h; · exact hn h
                                        · omega)).trans (h.block k hk hn)⟩

theorem EB.ofEx {B : Nat} {l : List Nat} {a w : World} (h : Ex l a w) (hB : B ≤ a.heap.size) : EB B l a w := ⟨h.os, h.tape, h.output, h.size, fun k hk hn => h.block k (by omega) hn⟩

theorem EB.toEx {l : List Nat} {a w : World} (h : EB a.heap.size l a w) : Ex l a w := ⟨h.os, h.tape, h.output, h.size, h.block⟩

def putB (w : World) (b : Nat) (o : Obj) : World := { w with heap := w.heap.setIfInBounds b o }

theorem putB_size (w : World) (b : Nat) (o : Obj) : (putB w b o).heap.size = w.heap.size := by simp [putB]

theorem putB_ex (w : World) (b : Nat) (o : Obj) : Ex [b] w (putB w b o) :=
  ⟨rfl, rfl, rfl, by simp [putB], fun k hk hn => by
    simp only [List.mem_singleton] at hn
    simp only [putB]
    rw [Array.getElem?_setIfInBounds_ne (Ne.symm hn)]⟩

theorem own_cells {w : World} {base n : Nat} {e : TypeId} {size : Nat} {v : Value} {xs : List Value} (h : w.ownsRow base e size v n xs) (hn : 0 < n) :
    ∃ g c, v = .slice (some ⟨g, 0, none⟩) n c ∧ base ≤ g ∧ g < w.heap.size ∧ n ≤ c ∧ (∀ j, j < n * size → w.cell? ⟨g, j, none⟩ = xs[j]?) ∧ ∀ j, w.frozen? ⟨g, j, none⟩ = false := by
  rcases h.2 with ⟨_, h0⟩ | ⟨g, cap, cur, rfl, hb, hgg, hnc, hcm, hcs, htake⟩
  · omega
  · refine ⟨g, cap, rfl, hb, (Array.getElem?_eq_some_iff.1 hgg).1, hnc, fun j hj => ?_, fun j => by simp [World.frozen?, hgg]⟩
    rw [cell_of_row w g _ cur e (0, 0) hgg, ← htake, List.getElem?_take, if_pos hj]
    simp

theorem BK.range {w : World} {b : Nat} {cs : Array Value} {e : TypeId} (h : BK w b (.cells cs e (0, 0))) : w.rangeAt b 0 cs.toList := by
  intro j v hv
  rw [h.all.1, Nat.zero_add]
  simpa using hv

theorem own_exn {l : List Nat} {w w' : World} {base : Nat} {e : TypeId} {size : Nat} {v : Value} {n : Nat} {xs : List Value} (h : w.ownsRow base e size v n xs) (hx : Ex l w w') (hl : ∀ k, v.ownBlock = some k → k ∉ l) : w'.ownsRow base e size v n xs := by
  refine ⟨h.1, ?_⟩
  rcases h.2 with hn | ⟨g, cap, cur, rfl, hb, hgg, rest⟩
  · exact .inl hn
  · refine .inr ⟨g, cap, cur, rfl, hb, ?_, rest⟩
    rw [hx.block g (Array.getElem?_eq_some_iff.1 hgg).1 (hl g rfl)]
    exact hgg

theorem BK.selfL {w : World} {b : Nat} {cs : List Value} {e : TypeId} (h : BK w b (.cells cs.toArray e (0, 0))) (i : Nat) (u : Value) : BK (w.setCell ⟨b, i, none⟩ u) b (.cells (cs.set i u).toArray e (0, 0)) := by
  have := h.self i u
  simpa using this

theorem BK.rangeL {w : World} {b : Nat} {cs : List Value} {e : TypeId} (h : BK w b (.cells cs.toArray e (0, 0))) : w.rangeAt b 0 cs := by
  have := h.range
  simpa using this

section
variable {P : Program} {ops : Array Oper} {Q : Exit → Act → World → Prop} {md : Region.Mode} {S : Nat → World → Prop} {T : World → Prop}

def wpAnyJ (P : Program) (md : Region.Mode) (ops : Array Oper) (Q : Exit → Act → World → Prop) (S : Nat → World → Prop) : Nat → Array Bool → Act → World → Prop
  | 0, listed, a, w => Region.ready md ops listed = [] ∧ Q .normal a w
  | fuel + 1, listed, a, w =>
    (Region.ready md ops listed = [] → Q .normal a w) ∧
    ∀ i ∈ Region.ready md ops listed, wpOp P ops Q i (fun a' w' => S i w' ∧ wpAnyJ P md ops Q S fuel (listed.setIfInBounds i true) a' w') a w

theorem wpAny_of_J : ∀ (fuel : Nat) (listed : Array Bool) (a : Act) (w : World), wpAnyJ P md ops Q S fuel listed a w → wpAny P md ops Q fuel listed a w
  | 0, _, _, _, h => h
  | fuel + 1, _, _, _, h => ⟨h.1, fun i hi => wpOp_mono (fun a' w' h' => wpAny_of_J fuel _ a' w' h'.2) (h.2 i hi)⟩

theorem wpAnyJ_first {i : Nat} {oi : Oper} {v : Value} (hi : ops[i]? = some oi) (hsel : ∀ (j : Nat) (o : Oper) cs b, ops[j]? = some o → o.op ≠ .select cs b)
    (hQ : ∀ c a w, Q (.panic c) (a.put oi.dst v) w → Q (.panic c) a w) (hTi : ∀ w, T w → S i w) :
    ∀ (fuel : Nat) (listed : Array Bool) (a : Act) (w : World),
      (∀ j oj, ops[j]? = some oj → j ≠ i → listed.getD j true = false → (∀ e ∈ oj.after, Region.binds md e = true → e.on ≠ i) → oi.apart ops oj = true ∧ ∀ w, S j w → T w) →
      i ∈ Region.ready md ops listed → YieldsIf P ops T oi v a → T w →
      wpAnyJ P md ops Q S fuel (listed.setIfInBounds i true) (a.put oi.dst v) w → wpAnyJ P md ops Q S (fuel + 1) listed a w := by
  intro fuel
  induction fuel with
  | zero =>
    intro listed a w _ hr hy hS H
    refine ⟨fun h => (by rw [h] at hr; cases hr), fun j hj => ?_⟩
    by_cases hji : j = i
    · subst hji; exact hy.wpOp hi hS ⟨hTi _ hS, H⟩
    · have := ready_mono hj hji
      rw [H.1] at this
      cases this
  | succ fuel ih =>
    intro listed a w hfree hr hy hS H
    refine ⟨fun h => (by rw [h] at hr; cases hr), fun j hj => ?_⟩
    by_cases hji : j = i
    · subst hji; exact hy.wpOp hi hS ⟨hTi _ hS, H⟩
    · have h1 := H.2 j (ready_mono hj hji)
      obtain ⟨hjun, oj, hoj, hall⟩ := mem_ready.1 hj
      have hnot : ∀ e ∈ oj.after, Region.binds md e = true → e.on ≠ i := fun e he hb heq => by
        have h1 := hall e he hb
        have h0 := (mem_ready.1 hr).1
        rw [heq] at h1
        rcases Nat.lt_or_ge i listed.size with h' | h'
        · simp [h'] at h0 h1; rw [h0] at h1; cases h1
        · simp [Array.getElem?_eq_none h'] at h1
      have h2 := wpOp_putIf hoj (hfree j oj hoj hji hjun hnot).1 (fun cs b => hsel i oi cs b hi) (fun cs b => hsel j oj cs b hoj) hQ hy h1
      have hfree' : ∀ k ok, ops[k]? = some ok → k ≠ i → (listed.setIfInBounds j true).getD k true = false →
          (∀ e ∈ ok.after, Region.binds md e = true → e.on ≠ i) → oi.apart ops ok = true ∧ ∀ w, S k w → T w := fun k ok hk hki hun hno => by
        refine hfree k ok hk hki ?_ hno
        by_cases hjk : j = k
        · subst hjk; exact hjun
        · rw [getD_set_ne true hjk] at hun; exact hun
      refine wpOp_mono (fun a' w' h3 => ⟨h3.2.1, ih (listed.setIfInBounds j true) a' w' hfree' (ready_mono hr (Ne.symm hji)) h3.1 ((hfree j oj hoj hji hjun hnot).2 _ h3.2.1) ?_⟩) h2
      rw [Array.setIfInBounds_comm _ _ hji]
      exact h3.2.2

def waitAll (md : Region.Mode) (ops : Array Oper) (listed : Array Bool) (f : Nat → Bool) (i : Nat) : Bool := (List.range ops.size).all fun j => f j || listed.getD j true || Region.waitsFor md ops j i

theorem wpAnyJ_take {i : Nat} {oi : Oper} {v : Value} {fuel : Nat} {listed : Array Bool} {a : Act} {w : World} (f : Nat → Bool) (hi : ops[i]? = some oi)
    (hs : Region.noSelect ops = true) (hf : Region.free md ops listed i = true) (hr : (Region.ready md ops listed).contains i = true) (hwa : waitAll md ops listed f i = true)
    (hST : ∀ j w, f j = true → S j w → T w) (hTi : ∀ w, T w → S i w)
    (hQ : ∀ c a w, Q (.panic c) (a.put oi.dst v) w → Q (.panic c) a w) (hS : T w) (hy : YieldsIf P ops T oi v a)
    (h : wpAnyJ P md ops Q S fuel (listed.setIfInBounds i true) (a.put oi.dst v) w) : wpAnyJ P md ops Q S (fuel + 1) listed a w := by
  refine wpAnyJ_first hi (Region.noSelect_spec hs) hQ hTi fuel listed a w (fun j oj hj hji hun hno => ⟨Region.free_spec hi hf j oj hj hji hun hno, fun w => hST j w ?_⟩) (by simpa using hr) hy hS h
  have h1 := List.all_eq_true.1 hwa j (List.mem_range.2 (Array.getElem?_eq_some_iff.1 hj).1)
  simp only [Bool.or_eq_true, hun, Bool.false_eq_true, or_false] at h1
  rcases h1 with h1 | h1
  · exact h1
  · obtain ⟨o', ho', e, he, hb, hon⟩ := Region.waitsFor_spec h1
    have : o' = oj := Option.some.inj (ho'.symm.trans hj)
    subst this
    exact absurd hon (hno e he hb)

theorem wpAnyJ_one {i : Nat} {oi : Oper} {fuel : Nat} {listed : Array Bool} {a : Act} {w : World} (hi : ops[i]? = some oi) (hg : oi.guard = none)
    (hr : Region.ready md ops listed = [i])
    (h : ∀ K : Act → World → Prop, Hid (∀ a' w', S i w' → wpAnyJ P md ops Q S fuel (listed.setIfInBounds i true) a' w' → K a' w') → oi.wp P a w K Q) : wpAnyJ P md ops Q S (fuel + 1) listed a w := by
  refine ⟨fun h0 => absurd (hr ▸ h0) (by simp), fun j hj => ?_⟩
  rw [hr, List.mem_singleton] at hj
  subst hj
  unfold wpOp
  simp only [hi]
  rw [if_pos (by simp [Region.wanted, hg])]
  exact .inl (h _ (fun a' w' h1 h2 => ⟨h1, h2⟩))

theorem wpAnyJ_done {listed : Array Bool} {a : Act} {w : World} (hr : Region.ready md ops listed = []) (h : Q .normal a w) :
    ∀ fuel, wpAnyJ P md ops Q S fuel listed a w
  | 0 => ⟨hr, h⟩
  | _ + 1 => ⟨fun _ => h, by rw [hr]; simp⟩

theorem wp_region_J {id : Nat} {a : Act} {w : World} (hm : P.follows .mixedOrders = true)
    (h : wpAny P .any ops Q ops.size (Array.replicate ops.size false) a w.drew) : (Code.region id ops true).wp P Q a w :=
  wp_region_any hm h
end
end Go.Proofs.YtgmjjhmnchefbaaGreatDoor

/- Contracts of package series: which texts are names, which labels are wrong. -/
namespace Go.Proofs.YtgmjjhmnchefbaaGreatDoor
open Go.RowKit

def digB (x : Int) : Bool := decide (48 ≤ x) && decide (x ≤ 57)
def letB (x : Int) : Bool := (decide (97 ≤ x) && decide (x ≤ 122)) || (decide (65 ≤ x) && decide (x ≤ 90))
def wordB (x : Int) : Bool := letB x || digB x || x == 95
def nameB (s : ByteArray) : Bool := !(s.size == 0) && !decide (60 < s.size) && !digB ((s.data.toList.headD 0).toNat : Int) && s.data.toList.all (fun b => wordB (b.toNat : Int))

set_option maxHeartbeats 400000 in
theorem isDigit_any (x : Int) (w : World) :
    Calls Tryz.prog 110 #[.int .u8 x] w fun e w' => e = .returned (.bool (digB x)) ∧ w' = w := by
  unfold digB
  by_cases h1 : 48 ≤ x
  · by_cases h2 : x ≤ 57
    · go_enter Tryz.func110, Tryz.ntmps110
      go_wp2
      go_ret
      exact ⟨by simp [h1, h2], rfl⟩
    · go_enter Tryz.func110, Tryz.ntmps110
      go_wp2
      go_ret
      exact ⟨by simp [h1, h2], rfl⟩
  · go_enter Tryz.func110, Tryz.ntmps110
    go_wp2
    go_ret
    exact ⟨by simp; omega, rfl⟩

set_option maxHeartbeats 400000 in
theorem isLetter_any (x : Int) (w : World) :
    Calls Tryz.prog 111 #[.int .u8 x] w fun e w' => e = .returned (.bool (letB x)) ∧ w' = w := by
  unfold letB
  by_cases h1 : 97 ≤ x <;> by_cases h2 : x ≤ 122 <;> by_cases h3 : 65 ≤ x <;> by_cases h4 : x ≤ 90
  all_goals
    first
    | (exfalso; omega)
    | (go_enter Tryz.func111, Tryz.ntmps111
       go_wp2
       go_ret
       exact ⟨by simp [h1, h2, h3, h4], rfl⟩)

theorem at_list {s : ByteArray} {k : Nat} (hk : k < s.size) : s.data.toList[k]? = some (s[k]'hk) := by
  rw [Array.getElem?_toList, Array.getElem?_eq_getElem (show k < s.data.size from hk)]; rfl

theorem head_list {s : ByteArray} (hk : 0 < s.size) : s.data.toList.headD 0 = s[0]'hk := by
  have h := at_list hk
  cases hl : s.data.toList with
  | nil => rw [hl] at h; cases h
  | cons a r => rw [hl] at h; simpa using h

theorem len_list (s : ByteArray) : s.data.toList.length = s.size := by rw [Array.length_toList]; rfl

theorem nonempty_list {s : ByteArray} (h0 : ¬ s.size = 0) : s.toList.isEmpty = false := by
  rw [ByteArray.toList_eq, List.isEmpty_eq_false_iff]
  intro h
  have := len_list s
  rw [h] at this
  simp at this
  omega

def wordsTo (s : ByteArray) (j : Nat) : Prop := ∀ i (h : i < s.size), i < j → wordB ((s[i]'h).toNat : Int) = true

theorem all_of_words {s : ByteArray} (h : wordsTo s s.size) : s.data.toList.all (fun b => wordB (b.toNat : Int)) = true := by
  rw [List.all_eq_true]
  intro b hb
  obtain ⟨i, hi, rfl⟩ := List.getElem_of_mem hb
  have hi' : i < s.size := by rw [← len_list]; exact hi
  have := h i hi' hi'
  have e := at_list hi'
  rw [List.getElem?_eq_getElem hi] at e
  rw [Option.some.inj e]; exact this

theorem not_all_of {s : ByteArray} {j : Nat} (hj : j < s.size) (h : wordB ((s[j]'hj).toNat : Int) = false) : s.data.toList.all (fun b => wordB (b.toNat : Int)) = false := by
  rw [List.all_eq_false]
  exact ⟨s[j]'hj, List.mem_of_getElem? (at_list hj), by simpa using h⟩

set_option maxHeartbeats 1000000 in
set_option maxRecDepth 100000 in
theorem isName_any (s : ByteArray) (w : World) (hs : s.size ≤ maxLen) :
    Calls Tryz.prog 77 #[.string s] w fun e w' => e = .returned (.bool (nameB s)) ∧ w' = w := by
  by_cases h0 : s.size = 0
  · have hs : s = ⟨#[]⟩ := by apply ByteArray.ext; exact Array.eq_empty_of_size_eq_zero h0
    subst hs
    go_enter Tryz.func77, Tryz.ntmps77
    go_wp2
    go_ret
    exact ⟨rfl, rfl⟩
  have hem := nonempty_list h0
  have hz : (s.size == 0) = false := by simpa using h0
  by_cases h60 : 60 < s.size
  · have hn : nameB s = false := by simp [nameB, hz, h60]
    rw [hn]; clear hn
    go_enter Tryz.func77, Tryz.ntmps77
    go_wp2
    go_ret
    exact ⟨rfl, rfl⟩
  have hp : 0 < s.size := by omega
  have hnm : nameB s = (!digB ((s[0]'hp).toNat : Int) && s.data.toList.all (fun b => wordB (b.toNat : Int))) := by
    simp only [nameB, hz, head_list hp, h60, Bool.not_false, Bool.true_and, decide_false]
  rw [hnm]
  have H60 := hide h60
  clear hnm hz
  cases hd : digB ((s[0]'hp).toNat : Int) with
  | true =>
    have HD := hide hd
    clear hd
    go_enter Tryz.func77, Tryz.ntmps77
    go_wp2_with fail
    refine (isDigit_any _ _).mono ?_
    rintro e w' ⟨rfl, rfl⟩
    rw [show digB ((s[0]'hp).toNat : Int) = true from HD.out]
    go_wp2_with fail
    go_ret
    exact ⟨rfl, rfl⟩
  | false =>
    have HD := hide hd
    clear hd
    go_enter Tryz.func77, Tryz.ntmps77
    go_wp2_with fail
    refine (isDigit_any _ _).mono ?_
    rintro e w' ⟨rfl, rfl⟩
    rw [show digB ((s[0]'hp).toNat : Int) = false from HD.out]
    go_wp2_with fail
    go_loopg [18] s.size (fun gk i wr => ∃ j : Nat, j + gk = s.size ∧ i = .int .i64 j ∧ wordsTo s j ∧ wr = w')
    case atStart => exact ⟨0, by omega, rfl, fun i _ h => by omega, rfl⟩
    case round =>
      obtain ⟨j, hj, rfl, hw, rfl⟩ := hrel
      have HW := hide hw
      clear hw
      cases gk with
      | zero =>
        obtain rfl : j = s.size := by omega
        clear hj
        go_wp2_with fail
        go_ret
        exact ⟨by rw [all_of_words HW.out]; rfl, rfl⟩
      | succ g =>
        have hjl : j < s.size := by omega
        have hj' : (j : Int) < (s.size : Int) := by omega
        have hstep : wordB ((s[j]'hjl).toNat : Int) = true → wordsTo s (j + 1) := fun hb i hi hlt => by
          by_cases hij : i = j
          · subst hij; exact hb
          · exact HW.out i hi (by omega)
        have HS := hide hstep
        obtain ⟨x, hx⟩ : ∃ x : Int, x = ((s[j]'hjl).toNat : Int) := ⟨_, rfl⟩
        have HX := hide hx
        clear hstep hx
        go_wp2_with fail
        refine (isLetter_any _ _).mono ?_
        rintro e w' ⟨rfl, rfl⟩
        rw [← show x = ((s[j]'hjl).toNat : Int) from HX.out]
        cases hl : letB x with
        | true =>
          have HL := hide hl
          clear hl
          go_wp2_with fail
          go_roundg g
          case measure => omega
          case rel => exact ⟨j + 1, by omega, by simp, HS.out (by rw [← HX.out]; simp [wordB, unhide HL]), rfl⟩
        | false =>
          have HL := hide hl
          clear hl
          go_wp2_with fail
          refine (isDigit_any _ _).mono ?_
          rintro e w' ⟨rfl, rfl⟩
          rw [← show x = ((s[j]'hjl).toNat : Int) from HX.out]
          cases hd : digB x with
          | true =>
            have HL2 := hide hd
            clear hd
            go_wp2_with fail
            go_roundg g
            case measure => omega
            case rel => exact ⟨j + 1, by omega, by simp, HS.out (by rw [← HX.out]; simp [wordB, unhide HL2]), rfl⟩
          | false =>
            have HL2 := hide hd
            clear hd
            by_cases h95 : ((s[j]'hjl).toNat : Int) = 95
            · have hb : (((s[j]'hjl).toNat : Int) == 95) = true := by simpa using h95
              have HB := hide hb
              clear h95
              go_wp2_with fail
              go_roundg g
              case measure => omega
              case rel => exact ⟨j + 1, by omega, by simp, HS.out (by simp [wordB, unhide HB]), rfl⟩
            · have hb : (((s[j]'hjl).toNat : Int) == 95) = false := by simpa using h95
              have HB := hide hb
              have H95 := hide h95
              go_wp2_with fail
              go_ret
              exact ⟨by rw [not_all_of hjl (by unfold wordB; rw [← HX.out, unhide HL, unhide HL2, HX.out, unhide HB]; rfl)]; rfl, rfl⟩
end Go.Proofs.YtgmjjhmnchefbaaGreatDoor

/- Contracts of package series: a label that is wrong, and whether there is one among many. -/
namespace Go.Proofs.YtgmjjhmnchefbaaGreatDoor
open Go.RowKit

abbrev Lab := ByteArray × ByteArray
def SL (w : World) (v : Value) (ls : List Lab) : Prop :=
  (v = .slice none 0 0 ∧ ls = []) ∨ ∃ b c, v = .slice (some ⟨b, 0, none⟩) ls.length c ∧ b < w.heap.size ∧ ∀ j l, ls[j]? = some l → w.cell? ⟨b, j * 2, none⟩ = some (.string l.1) ∧ w.cell? ⟨b, j * 2 + 1, none⟩ = some (.string l.2)

theorem SL.ex {w w' : World} {v : Value} {ls : List Lab} {o : List Nat} (h : SL w v ls) (hx : Ex o w w') (hn : ∀ k, v.ownBlock = some k → k ∉ o) : SL w' v ls := by
  rcases h with h | ⟨b, c, rfl, hb, hc⟩
  · exact .inl h
  · refine .inr ⟨b, c, rfl, Nat.lt_of_lt_of_le hb hx.size, fun j l hj => ?_⟩
    rw [hx.cell.1 b _ hb (hn b rfl), hx.cell.1 b _ hb (hn b rfl)]
    exact hc j l hj

end Go.Proofs.YtgmjjhmnchefbaaGreatDoor

/- The shelf's two contracts, under names of our own. -/
namespace Go.Proofs.YtgmjjhmnchefbaaGreatDoor
open Go.RowKit
theorem cloneIn_any (s : ByteArray) (w : World) (hlim : s.size ≤ 281474976710656) :
    Calls Tryz.prog 112 #[.string s] w fun e w' => e = .returned (.string s) ∧ Below w.heap.size w w' := Tryz.stringslite_Clone s w hlim
end Go.Proofs.YtgmjjhmnchefbaaGreatDoor

/- Contracts of package series: where a label is, or where it would belong. -/
namespace Go.Proofs.YtgmjjhmnchefbaaGreatDoor
open Go.RowKit

set_option maxHeartbeats 1000000 in
theorem clone_any (s : ByteArray) (w : World) (hs : s.size ≤ 281474976710656) :
    Calls Tryz.prog 78 #[.string s] w fun e w' => e = .returned (.string s) ∧ Ex [] w w' := by
  go_enter Tryz.func78, Tryz.ntmps78
  go_wp2_with fail
  refine (cloneIn_any _ _ hs).mono ?_
  rintro e w' ⟨rfl, hb⟩
  have HB := hide hb
  clear hb
  go_wp2_with fail
  go_ret
  exact ⟨rfl, Ex.below HB.out⟩

def cmpN (a b : ByteArray) : Int := Lib.compareBytes a.data.toList b.data.toList

def posN (ls : List Lab) (t : ByteArray) : Nat := (ls.takeWhile fun l => decide (cmpN l.1 t < 0)).length
def thereN (ls : List Lab) (t : ByteArray) : Bool := match ls[posN ls t]? with | some l => cmpN l.1 t == 0 | none => false

end Go.Proofs.YtgmjjhmnchefbaaGreatDoor

/- Laws of no program: 'clear' on the last element of a row that is owned. -/
namespace Go.Proofs.YtgmjjhmnchefbaaGreatDoor
open Go.RowKit

theorem Ex.setRow {l : List Nat} {a w : World} (h : Ex l a w) {g : Nat} (hg : g ∈ l ∨ a.heap.size ≤ g) (cs : Array Value) : Ex l a (w.setRow g cs) :=
  ⟨h.os, h.tape, h.output, by simpa using h.size, fun k hk hn => by
    rw [setRow_other w g k cs (by rintro rfl; rcases hg with hg | hg; · exact hn hg
                                  · omega)]; exact h.block k hk hn⟩

end Go.Proofs.YtgmjjhmnchefbaaGreatDoor

/- Contracts of slices.Delete, Insert and Clone at labels. -/
namespace Go.Proofs.YtgmjjhmnchefbaaGreatDoor
open Go.RowKit

end Go.Proofs.YtgmjjhmnchefbaaGreatDoor

/- Contracts of slices.Insert behind the last label, slices.Clone of labels, cut. -/
namespace Go.Proofs.YtgmjjhmnchefbaaGreatDoor
open Go.RowKit

end Go.Proofs.YtgmjjhmnchefbaaGreatDoor

/- Laws of no program: 'copy' from a row that is owned. -/
namespace Go.Proofs.YtgmjjhmnchefbaaGreatDoor
open Go.RowKit

theorem results_cell1 {P : Program} {fn : Func} {tmps : Array Value} {w : World} {a : Tmp} {t : TypeId} {ad : Addr} {v : Value} (hf : fn.results = #[.cell a t]) (ha : tmps.getD a undef = .pointer (some ad)) (hl : (loadVar t ad).run P w = .ok v w) :
    (results fn tmps).run P w = .ok v w := by
  have ha' : tmps[a]?.getD undef = .pointer (some ad) := by rw [← ha]; simp
  unfold results
  rw [hf]
  simp [ha', hl, asAddr]
theorem results_cell_tmp {P : Program} {fn : Func} {tmps : Array Value} {w : World} {a k : Tmp} {t : TypeId} {ad : Addr} {v : Value} (hf : fn.results = #[.cell a t, .tmp k]) (ha : tmps.getD a undef = .pointer (some ad)) (hl : (loadVar t ad).run P w = .ok v w) :
    (results fn tmps).run P w = .ok (.tuple #[v, tmps.getD k undef]) w := by
  have ha' : tmps[a]?.getD undef = .pointer (some ad) := by rw [← ha]; simp
  unfold results
  rw [hf]
  simp [ha', hl, asAddr]
end Go.Proofs.YtgmjjhmnchefbaaGreatDoor

/- Laws of no program: a slice of one struct, laid out of the struct's cells. -/
namespace Go.Proofs.YtgmjjhmnchefbaaGreatDoor
open Go.RowKit

theorem fill_seg : ∀ (S : List Value) (k : Nat) (C : Array Value), k + S.length ≤ C.size → (S.zipIdx k).foldl (fun (cs : Array Value) (x : Value × Nat) => cs.setIfInBounds (0 + x.2) x.1) C = (C.toList.take k ++ S ++ C.toList.drop (k + S.length)).toArray
  | [], k, C, h => by simp
  | v :: r, k, C, h => by
    have e := list_seg_step C.toList k v r (by simp at h ⊢; omega)
    rw [List.zipIdx_cons, List.foldl_cons, fill_seg r (k + 1) _ (by simp at h ⊢; omega)]
    congr 1
    simpa [Array.toList_setIfInBounds, Nat.add_assoc] using e

theorem fill_one {S : List Value} {n : Nat} {C : Array Value} (hS : S.length = n) (hC : C.size = n) : Instr.fill (fun i => some (i * n, n)) C [(0, .agg S.toArray)] = some S.toArray := by
  have h := fill_seg S 0 C (by omega)
  unfold Instr.fill
  simp only [Nat.zero_mul, Value.cells, List.size_toArray, hS, hC]
  rw [if_neg (by simp)]
  unfold Instr.fill
  congr 1
  rw [← Array.foldl_toList, Array.toList_zipIdx]
  simp only [List.take_zero, List.nil_append, Nat.zero_add] at h
  rw [List.drop_of_length_le (by rw [Array.length_toList]; omega), List.append_nil] at h
  simpa using h
end Go.Proofs.YtgmjjhmnchefbaaGreatDoor

/- Laws of no program: an append of zero values that grows a row; a copy to the middle of a block. -/
namespace Go.Proofs.YtgmjjhmnchefbaaGreatDoor
open Go.RowKit

end Go.Proofs.YtgmjjhmnchefbaaGreatDoor

/- Contract of slices.Insert amid labels, where there is room. -/
namespace Go.Proofs.YtgmjjhmnchefbaaGreatDoor
open Go.RowKit

end Go.Proofs.YtgmjjhmnchefbaaGreatDoor

/- Contract of slices.Insert amid labels, where there is no room. -/
namespace Go.Proofs.YtgmjjhmnchefbaaGreatDoor
open Go.RowKit



end Go.Proofs.YtgmjjhmnchefbaaGreatDoor

/- Contracts of (*series.Labels).Set, where the label comes behind all others. -/
namespace Go.Proofs.YtgmjjhmnchefbaaGreatDoor
open Go.RowKit

end Go.Proofs.YtgmjjhmnchefbaaGreatDoor

/- Contracts of (*series.Labels).Set, where the label comes behind all others and is there. -/
namespace Go.Proofs.YtgmjjhmnchefbaaGreatDoor
open Go.RowKit

end Go.Proofs.YtgmjjhmnchefbaaGreatDoor

/- Contract of (*series.Labels).Set at whatever labels. -/
namespace Go.Proofs.YtgmjjhmnchefbaaGreatDoor
open Go.RowKit

end Go.Proofs.YtgmjjhmnchefbaaGreatDoor

/- Contract of series.Read, whatever Set makes of the labels one by one. -/
namespace Go.Proofs.YtgmjjhmnchefbaaGreatDoor
open Go.RowKit

end Go.Proofs.YtgmjjhmnchefbaaGreatDoor

/- Contracts of what an engine without rules does with a series. -/
namespace Go.Proofs.YtgmjjhmnchefbaaGreatDoor
open Go.RowKit

def ansV (v : Value) (b : Bool) : Value := .agg #[v, .bool b]

end Go.Proofs.YtgmjjhmnchefbaaGreatDoor
