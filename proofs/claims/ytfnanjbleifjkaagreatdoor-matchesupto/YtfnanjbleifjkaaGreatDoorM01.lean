import Derived.WalkKit
import Derived.WalkSpells
import Derived.WalkLawsBesides
import Derived.Deep.QuietTactic
import Derived.BigQuiet
import Derived.ShutString
import Derived.Deep.LoopGhost
import Derived.OrdersHeld
import Derived.StillTail
import Derived.Deep.MidRow
import Derived.MapKept
import Derived.Laws.OwnMore
import Derived.Laws.CopyRow
import Derived.Laws.AppendOwnNone
import Derived.Deep.AppendLies
import Derived.Deep.RegionLaw
import Derived.Test.YtfnanjbleifjkaaGreatDoorShelf
import Derived.Lib.Bytealg
set_option linter.unusedVariables false
set_option linter.unusedSimpArgs false
namespace Go.Proofs.YtfnanjbleifjkaaGreatDoor
variable {l : List Nat} {a w w' : World} {B b base g i n size : Nat} {p : Addr} {e : TypeId} {v : Value} {xs : List Value} {o : Obj}
open Go.RowKit
structure Ex (own : List Nat) (w w' : World) : Prop where
 os : w'.os = w.os
 tape : w'.tape = w.tape
 output : w'.output = w.output
 size : w.heap.size <= w'.heap.size
 block : ∀ k, k < w.heap.size -> k ∉ own -> w'.heap[k]? = w.heap[k]?
theorem Ex.refl (l : List Nat) (w : World) : Ex l w w := ⟨rfl, rfl, rfl, Nat.le_refl _, fun _ _ _ => rfl⟩
theorem Ex.drewN (h : Ex l a w) (n : Nat) : Ex l a (w.drewN n) := ⟨h.os, h.tape, h.output, h.size, h.block⟩
theorem Ex.drew (h : Ex l a w) : Ex l a w.drew := ⟨h.os, h.tape, h.output, h.size, h.block⟩
theorem Ex.trans {b c : World} (h : Ex l a b) (k : Ex l b c) : Ex l a c :=
 ⟨k.os.trans h.os, k.tape.trans h.tape, k.output.trans h.output, Nat.le_trans h.size k.size, fun i hi hn => (k.block i (Nat.lt_of_lt_of_le hi h.size) hn).trans (h.block i hi hn)⟩
theorem Ex.drop {l' : List Nat} {b : World} (h : Ex l a b) (hl : ∀ x, x ∈ l -> x < a.heap.size -> x ∈ l') : Ex l' a b :=
 ⟨h.os, h.tape, h.output, h.size, fun i hi hn => h.block i hi (fun hm => hn (hl i hm hi))⟩
theorem Ex.alloc (h : Ex l a w) (o : Obj) : Ex l a (w.alloc o) :=
 h.trans ⟨rfl, rfl, rfl, by simp, fun k hk _ => Below.heap_alloc _ _ _ hk⟩
theorem Ex.setCell (h : Ex l a w) (hp : p.block ∈ l \/ a.heap.size <= p.block) (u : Value) : Ex l a (w.setCell p u) :=
 ⟨h.os, h.tape, h.output, by simpa [World.setCell] using h.size, fun k hk hn => by
  rw [Below.heap_setCell _ _ _ _ (by rintro rfl; rcases hp with hp | hp; (· exact hn hp); · omega)]; exact h.block k hk hn⟩
theorem Ex.below (h : Below a.heap.size a w) : Ex [] a w := ⟨h.os, h.tape, h.output, h.size, fun k hk _ => h.block k hk⟩
theorem Ex.toBelow (h : Ex [] a w) : Below a.heap.size a w := ⟨h.os, h.tape, h.output, h.size, fun k hk => h.block k hk (by simp)⟩
theorem Ex.cell {W w1 : World} (h : Ex l W w1) : (∀ b o, b < W.heap.size -> b ∉ l -> w1.cell? ⟨b, o, none⟩ = W.cell? ⟨b, o, none⟩) /\ (∀ b o, b < W.heap.size -> b ∉ l -> w1.frozen? ⟨b, o, none⟩ = W.frozen? ⟨b, o, none⟩) :=
 ⟨fun b _ hb hn => World.cell?_of_block (h.block b hb hn), fun b _ hb hn => World.frozen?_of_block (h.block b hb hn)⟩
theorem Ex.cell0 {W w1 : World} (h : Ex [] W w1) : (∀ b o, b < W.heap.size -> w1.cell? ⟨b, o, none⟩ = W.cell? ⟨b, o, none⟩) /\ (∀ b o, b < W.heap.size -> w1.frozen? ⟨b, o, none⟩ = W.frozen? ⟨b, o, none⟩) :=
 ⟨fun b o hb => h.cell.1 b o hb (by simp), fun b o hb => h.cell.2 b o hb (by simp)⟩
theorem Ex.grown {row : Option Nat} (h : Ex l a w) (hg : w.grownBy w' row) (hr : ∀ k, row = some k -> k ∈ l \/ a.heap.size <= k) : Ex l a w' :=
 ⟨hg.os.trans h.os, hg.tape.trans h.tape, hg.output.trans h.output, Nat.le_trans h.size hg.size, fun k hk hn =>
  (hg.block k (Nat.lt_of_lt_of_le hk h.size) (fun e => by rcases hr k e.symm with h | h; (· exact hn h); · omega)).trans (h.block k hk hn)⟩
theorem aE (h : w.ownsRow base e size v n xs) (hx : Ex l w w') (hl : ∀ x, x ∈ l -> x < base) : w'.ownsRow base e size v n xs := by
 refine ⟨h.1, ?_⟩
 rcases h.2 with hn | ⟨g, cap, cur, rfl, hb, hgg, rest⟩
 ·exact .inl hn
 ·refine .inr ⟨g, cap, cur, rfl, hb, ?_, rest⟩
  rw [hx.block g (Array.getElem?_eq_some_iff.1 hgg).1 (fun hm => by have := hl g hm; omega)]
  exact hgg
theorem aw (h : w.ownsRow base e size v n xs) : ∃ p c, v = .slice p n c := by
 rcases h.2 with ⟨rfl, rfl⟩ | ⟨g, cap, cur, rfl, _⟩
 ·exact ⟨_, _, rfl⟩
 ·exact ⟨_, _, rfl⟩
theorem vz {b' : Nat} (h : w.ownsRow b e size v n xs) (hb : b' <= b) : w.ownsRow b' e size v n xs := by
 refine ⟨h.1, ?_⟩
 rcases h.2 with hn | ⟨g, cap, cur, rfl, hb', rest⟩
 ·exact .inl hn
 ·exact .inr ⟨g, cap, cur, rfl, by omega, rest⟩
theorem mW (h : w.ownsRow base e size v n xs) (k : Nat) : (w.drewN k).ownsRow base e size v n xs := h
theorem aG (h : w.ownsRow base e size v n xs) : ∀ k, v.ownBlock = some k -> base <= k := fun k hk => (h.lt k hk).1
theorem bu (w : World) (cs : Array Value) (t : TypeId) : ∀ j u, cs.toList[j]? = some u -> (w.alloc (.cells cs t)).cell? ((⟨w.heap.size, 0, none⟩ : Addr).add j) = some u := by
 intro j u hj
 have hadd : (⟨w.heap.size, 0, none⟩ : Addr).add j = ⟨w.heap.size, j, none⟩ := by unfold Addr.add; split <;> simp_all
 rw [hadd, cell_of_row (w.alloc (.cells cs t)) w.heap.size j cs t (0, 0) (heap_alloc_new w _)]
 simpa using hj
theorem dg (h : w.ownsRow base e size v n xs) {a : Addr} (ha : a.block < base) (u : Value) : (w.setCell a u).ownsRow base e size v n xs := ownsRow_setCell_below h ha u
def BK (w : World) (b : Nat) (o : Obj) : Prop := w.heap[b]? = some o
theorem BK.lt (h : BK w b o) : b < w.heap.size := (Array.getElem?_eq_some_iff.1 h).1
theorem BK.new (w : World) (o : Obj) : BK (w.alloc o) w.heap.size o := heap_alloc_new w o
theorem BK.ex (h : BK w b o) (hx : Ex l w w') (hn : b ∉ l) : BK w' b o := by
 unfold BK; rw [hx.block b h.lt hn]; exact h
theorem BK.alloc (h : BK w b o) (o' : Obj) : BK (w.alloc o') b o := h.ex ((Ex.refl [] _).alloc o') (by simp)
theorem BK.set (h : BK w b o) (hp : b ≠ p.block) (u : Value) : BK (w.setCell p u) b o := by
 unfold BK; rw [Below.heap_setCell _ _ _ _ hp]; exact h
theorem BK.drewN (h : BK w b o) (n : Nat) : BK (w.drewN n) b o := h
theorem BK.drew (h : BK w b o) : BK w.drew b o := h
theorem BK.grown {row : Option Nat} (h : BK w b o) (hg : w.grownBy w' row) (hn : row ≠ some b) : BK w' b o := by
 unfold BK; rw [hg.block b h.lt (fun e => hn e.symm)]; exact h
theorem BK.all {cs : Array Value} (h : BK w b (.cells cs e (0, 0))) : (∀ o, w.cell? ⟨b, o, none⟩ = cs[o]?) /\ (∀ o, w.frozen? ⟨b, o, none⟩ = false) :=
 ⟨fun o => cell_of_row w b o cs e (0, 0) h, fun o => by unfold BK at h; simp [World.frozen?, h]⟩
theorem aa {p : Prop} (h : p) : Hid p := h
theorem af {p : Prop} (h : Hid p) : p := h
theorem BK.self {cs : Array Value} (h : BK w b (.cells cs e (0, 0))) (i : Nat) (u : Value) : BK (w.setCell ⟨b, i, none⟩ u) b (.cells (cs.setIfInBounds i u) e (0, 0)) := by
 unfold BK at h ⊢
 simp [World.setCell, Array.getElem?_modify, h]
structure EB (B : Nat) (own : List Nat) (w w' : World) : Prop where
 os : w'.os = w.os
 tape : w'.tape = w.tape
 output : w'.output = w.output
 size : w.heap.size <= w'.heap.size
 block : ∀ k, k < B -> k ∉ own -> w'.heap[k]? = w.heap[k]?
theorem EB.refl (B : Nat) (l : List Nat) (w : World) : EB B l w w := ⟨rfl, rfl, rfl, Nat.le_refl _, fun _ _ _ => rfl⟩
theorem EB.drewN (h : EB B l a w) (n : Nat) : EB B l a (w.drewN n) := ⟨h.os, h.tape, h.output, h.size, h.block⟩
theorem EB.drew (h : EB B l a w) : EB B l a w.drew := ⟨h.os, h.tape, h.output, h.size, h.block⟩
theorem EB.trans {b c : World} (h : EB B l a b) (k : EB B l b c) : EB B l a c :=
 ⟨k.os.trans h.os, k.tape.trans h.tape, k.output.trans h.output, Nat.le_trans h.size k.size, fun i hi hn => (k.block i hi hn).trans (h.block i hi hn)⟩
theorem EB.mono {B' : Nat} {l' : List Nat} {b : World} (h : EB B l a b) (hB : B' <= B) (hl : ∀ x, x ∈ l -> x < B' -> x ∈ l') : EB B' l' a b :=
 ⟨h.os, h.tape, h.output, h.size, fun i hi hn => h.block i (by omega) (fun hm => hn (hl i hm hi))⟩
theorem EB.alloc (h : EB B l a w) (hB : B <= w.heap.size) (o : Obj) : EB B l a (w.alloc o) :=
 h.trans ⟨rfl, rfl, rfl, by simp, fun k hk _ => Below.heap_alloc _ _ _ (by omega)⟩
theorem EB.setCell (h : EB B l a w) (hp : p.block ∈ l \/ B <= p.block) (u : Value) : EB B l a (w.setCell p u) :=
 ⟨h.os, h.tape, h.output, by simpa [World.setCell] using h.size, fun k hk hn => by
  rw [Below.heap_setCell _ _ _ _ (by rintro rfl; rcases hp with hp | hp; (· exact hn hp); · omega)]; exact h.block k hk hn⟩
theorem EB.grown {row : Option Nat} (h : EB B l a w) (hg : w.grownBy w' row) (hB : B <= w.heap.size) (hr : ∀ k, row = some k -> k ∈ l \/ B <= k) : EB B l a w' :=
 ⟨hg.os.trans h.os, hg.tape.trans h.tape, hg.output.trans h.output, Nat.le_trans h.size hg.size, fun k hk hn =>
  (hg.block k (by omega) (fun e => by rcases hr k e.symm with h | h; (· exact hn h); · omega)).trans (h.block k hk hn)⟩
theorem EB.ofEx (h : Ex l a w) (hB : B <= a.heap.size) : EB B l a w := ⟨h.os, h.tape, h.output, h.size, fun k hk hn => h.block k (by omega) hn⟩
theorem EB.toEx (h : EB a.heap.size l a w) : Ex l a w := ⟨h.os, h.tape, h.output, h.size, h.block⟩
theorem BK.eb (h : BK w b o) (hx : EB B l w w') (hb : b < B) (hn : b ∉ l) : BK w' b o := by
 unfold BK; rw [hx.block b hb hn]; exact h
def kG (w : World) (b : Nat) (o : Obj) : World := { w with heap := w.heap.setIfInBounds b o }
theorem r5 (w : World) (b : Nat) (o : Obj) : Ex [b] w (kG w b o) :=
 ⟨rfl, rfl, rfl, by simp [kG], fun k hk hn => by
  simp only [List.mem_singleton] at hn
  simp only [kG]
  rw [Array.getElem?_setIfInBounds_ne (Ne.symm hn)]⟩
theorem jw (h : w.ownsRow base e size v n xs) (hn : 0 < n) :
  ∃ g c, v = .slice (some ⟨g, 0, none⟩) n c /\ base <= g /\ g < w.heap.size /\ n <= c /\ (∀ j, j < n * size -> w.cell? ⟨g, j, none⟩ = xs[j]?) /\ ∀ j, w.frozen? ⟨g, j, none⟩ = false := by
 rcases h.2 with ⟨_, h0⟩ | ⟨g, cap, cur, rfl, hb, hgg, hnc, hcm, hcs, htake⟩
 ·omega
 ·refine ⟨g, cap, rfl, hb, (Array.getElem?_eq_some_iff.1 hgg).1, hnc, fun j hj => ?_, fun j => by simp [World.frozen?, hgg]⟩
  rw [cell_of_row w g _ cur e (0, 0) hgg, <- htake, List.getElem?_take, if_pos hj]
  simp
theorem BK.range {cs : Array Value} (h : BK w b (.cells cs e (0, 0))) : w.rangeAt b 0 cs.toList := by
 intro j v hv
 rw [h.all.1, Nat.zero_add]
 simpa using hv
theorem fR (h : w.ownsRow base e size v n xs) (hx : Ex l w w') (hl : ∀ k, v.ownBlock = some k -> k ∉ l) : w'.ownsRow base e size v n xs := by
 refine ⟨h.1, ?_⟩
 rcases h.2 with hn | ⟨g, cap, cur, rfl, hb, hgg, rest⟩
 ·exact .inl hn
 ·refine .inr ⟨g, cap, cur, rfl, hb, ?_, rest⟩
  rw [hx.block g (Array.getElem?_eq_some_iff.1 hgg).1 (hl g rfl)]
  exact hgg
theorem EB.cell (h : EB B [] w w') {o : Nat} (hb : b < B) : w'.cell? ⟨b, o, none⟩ = w.cell? ⟨b, o, none⟩ := World.cell?_of_block (h.block b hb (by simp))
theorem BK.selfL {cs : List Value} (h : BK w b (.cells cs.toArray e (0, 0))) (i : Nat) (u : Value) : BK (w.setCell ⟨b, i, none⟩ u) b (.cells (cs.set i u).toArray e (0, 0)) := by
 have := h.self i u
 simpa using this
theorem BK.rangeL {cs : List Value} (h : BK w b (.cells cs.toArray e (0, 0))) : w.rangeAt b 0 cs := by
 have := h.range
 simpa using this
section
variable {P : Program} {ops : Array Oper} {Q : Exit -> Act -> World -> Prop} {md : Region.Mode} {S : Nat -> World -> Prop} {T : World -> Prop}
def dm (P : Program) (md : Region.Mode) (ops : Array Oper) (Q : Exit -> Act -> World -> Prop) (S : Nat -> World -> Prop) : Nat -> Array Bool -> Act -> World -> Prop
 | 0, listed, a, w => Region.ready md ops listed = [] /\ Q .normal a w
 |fuel + 1, listed, a, w =>
  (Region.ready md ops listed = [] -> Q .normal a w) /\
  ∀ i ∈ Region.ready md ops listed, wpOp P ops Q i (fun a' w' => S i w' /\ dm P md ops Q S fuel (listed.setIfInBounds i true) a' w') a w
theorem aU : ∀ (fuel : Nat) (listed : Array Bool) (a : Act) (w : World), dm P md ops Q S fuel listed a w -> wpAny P md ops Q fuel listed a w
 | 0, _, _, _, h => h
 |fuel + 1, _, _, _, h => ⟨h.1, fun i hi => wpOp_mono (fun a' w' h' => aU fuel _ a' w' h'.2) (h.2 i hi)⟩
theorem nR {oi : Oper} (hi : ops[i]? = some oi) (hsel : ∀ (j : Nat) (o : Oper) cs b, ops[j]? = some o -> o.op ≠ .select cs b)
  (hQ : ∀ c a w, Q (.panic c) (a.put oi.dst v) w -> Q (.panic c) a w) (hTi : ∀ w, T w -> S i w) :
  ∀ (fuel : Nat) (listed : Array Bool) (a : Act) (w : World),
   (∀ j oj, ops[j]? = some oj -> j ≠ i -> listed.getD j true = false -> (∀ e ∈ oj.after, Region.binds md e = true -> e.on ≠ i) -> oi.apart ops oj = true /\ ∀ w, S j w -> T w) ->
   i ∈ Region.ready md ops listed -> YieldsIf P ops T oi v a -> T w ->
   dm P md ops Q S fuel (listed.setIfInBounds i true) (a.put oi.dst v) w -> dm P md ops Q S (fuel + 1) listed a w := by
 intro fuel
 induction fuel with
 |zero =>
  intro listed a w _ hr hy hS H
  refine ⟨fun h => (by rw [h] at hr; cases hr), fun j hj => ?_⟩
  by_cases hji : j = i
  ·subst hji; exact hy.wpOp hi hS ⟨hTi _ hS, H⟩
  ·have := ready_mono hj hji
   rw [H.1] at this
   cases this
 |succ fuel ih =>
  intro listed a w hfree hr hy hS H
  refine ⟨fun h => (by rw [h] at hr; cases hr), fun j hj => ?_⟩
  by_cases hji : j = i
  ·subst hji; exact hy.wpOp hi hS ⟨hTi _ hS, H⟩
  ·have h1 := H.2 j (ready_mono hj hji)
   obtain ⟨hjun, oj, hoj, hall⟩ := mem_ready.1 hj
   have hnot : ∀ e ∈ oj.after, Region.binds md e = true -> e.on ≠ i := fun e he hb heq => by
    have h1 := hall e he hb
    have h0 := (mem_ready.1 hr).1
    rw [heq] at h1
    rcases Nat.lt_or_ge i listed.size with h' | h'
    ·simp [h'] at h0 h1; rw [h0] at h1; cases h1
    ·simp [Array.getElem?_eq_none h'] at h1
   have h2 := wpOp_putIf hoj (hfree j oj hoj hji hjun hnot).1 (fun cs b => hsel i oi cs b hi) (fun cs b => hsel j oj cs b hoj) hQ hy h1
   have hfree' : ∀ k ok, ops[k]? = some ok -> k ≠ i -> (listed.setIfInBounds j true).getD k true = false ->
     (∀ e ∈ ok.after, Region.binds md e = true -> e.on ≠ i) -> oi.apart ops ok = true /\ ∀ w, S k w -> T w := fun k ok hk hki hun hno => by
    refine hfree k ok hk hki ?_ hno
    by_cases hjk : j = k
    ·subst hjk; exact hjun
    ·rw [getD_set_ne true hjk] at hun; exact hun
   refine wpOp_mono (fun a' w' h3 => ⟨h3.2.1, ih (listed.setIfInBounds j true) a' w' hfree' (ready_mono hr (Ne.symm hji)) h3.1 ((hfree j oj hoj hji hjun hnot).2 _ h3.2.1) ?_⟩) h2
   rw [Array.setIfInBounds_comm _ _ hji]
   exact h3.2.2
def ow (md : Region.Mode) (ops : Array Oper) (listed : Array Bool) (f : Nat -> Bool) (i : Nat) : Bool := (List.range ops.size).all fun j => f j || listed.getD j true || Region.waitsFor md ops j i
theorem ce {oi : Oper} {fuel : Nat} {listed : Array Bool} {a : Act} (f : Nat -> Bool) (hi : ops[i]? = some oi)
  (hs : Region.noSelect ops = true) (hf : Region.free md ops listed i = true) (hr : (Region.ready md ops listed).contains i = true) (hwa : ow md ops listed f i = true)
  (hST : ∀ j w, f j = true -> S j w -> T w) (hTi : ∀ w, T w -> S i w)
  (hQ : ∀ c a w, Q (.panic c) (a.put oi.dst v) w -> Q (.panic c) a w) (hS : T w) (hy : YieldsIf P ops T oi v a)
  (h : dm P md ops Q S fuel (listed.setIfInBounds i true) (a.put oi.dst v) w) : dm P md ops Q S (fuel + 1) listed a w := by
 refine nR hi (Region.noSelect_spec hs) hQ hTi fuel listed a w (fun j oj hj hji hun hno => ⟨Region.free_spec hi hf j oj hj hji hun hno, fun w => hST j w ?_⟩) (by simpa using hr) hy hS h
 have h1 := List.all_eq_true.1 hwa j (List.mem_range.2 (Array.getElem?_eq_some_iff.1 hj).1)
 simp only [Bool.or_eq_true, hun, Bool.false_eq_true, or_false] at h1
 rcases h1 with h1 | h1
 ·exact h1
 ·obtain ⟨o', ho', e, he, hb, hon⟩ := Region.waitsFor_spec h1
  have : o' = oj := Option.some.inj (ho'.symm.trans hj)
  subst this
  exact absurd hon (hno e he hb)
theorem ae {oi : Oper} {fuel : Nat} {listed : Array Bool} {a : Act} (hi : ops[i]? = some oi) (hg : oi.guard = none)
  (hr : Region.ready md ops listed = [i])
  (h : ∀ K : Act -> World -> Prop, Hid (∀ a' w', S i w' -> dm P md ops Q S fuel (listed.setIfInBounds i true) a' w' -> K a' w') -> oi.wp P a w K Q) : dm P md ops Q S (fuel + 1) listed a w := by
 refine ⟨fun h0 => absurd (hr ▸ h0) (by simp), fun j hj => ?_⟩
 rw [hr, List.mem_singleton] at hj
 subst hj
 unfold wpOp
 simp only [hi]
 rw [if_pos (by simp [Region.wanted, hg])]
 exact .inl (h _ (fun a' w' h1 h2 => ⟨h1, h2⟩))
theorem aP {listed : Array Bool} {a : Act} (hr : Region.ready md ops listed = []) (h : Q .normal a w) :
  ∀ fuel, dm P md ops Q S fuel listed a w
 | 0 => ⟨hr, h⟩
 |_ + 1 => ⟨fun _ => h, by rw [hr]; simp⟩
theorem aO {id : Nat} {a : Act} (hm : P.follows .mixedOrders = true)
  (h : wpAny P .any ops Q ops.size (Array.replicate ops.size false) a w.drew) : (Code.region id ops true).wp P Q a w :=
 wp_region_any hm h
end
theorem _root_.Go.RowKit.Hid.O {p : Prop} (h : Go.RowKit.Hid p) : p := h
theorem exq {α : Sort _} (a : α) : ∃ x, x = a := ⟨a, rfl⟩
theorem lx : (∀ {α : Type} (l : List α) (i : Nat) (a : α), l.toArray.setIfInBounds i a = (l.set i a).toArray) /\ (∀ {α : Type} (x a : α) (l : List α), (x :: l).set 0 a = a :: l) /\ (∀ {α : Type} (x a : α) (l : List α) (i : Nat), (x :: l).set (i + 1) a = x :: l.set i a)
 /\ (∀ {α : Type} (l : List α) (i : Nat) (h : i < l.toArray.size), l.toArray[i] = l[i]'(by simpa using h)) /\ (∀ {α : Type} (x : α) (l : List α) (h : 0 < (x :: l).length), (x :: l)[0] = x) /\ (∀ {α : Type} (x : α) (l : List α) (i : Nat) (h : i + 1 < (x :: l).length), (x :: l)[i + 1] = l[i]'(by simpa using h))
 /\ (∀ {α : Type} (l : List α), l.toArray.size = l.length) /\ (∀ {α : Type} (x : α) (l : List α), (x :: l).length = l.length + 1) /\ (∀ {α : Type}, ([] : List α).length = 0) := by
 refine ⟨?_, ?_, ?_, ?_, ?_, ?_, ?_, ?_, ?_⟩ <;> intros <;> simp
section
variable {P : Program} {ops : Array Oper} {Q : Exit -> Act -> World -> Prop} {md : Region.Mode} {i : Nat} {oi : Oper} {v : Value} {fuel : Nat} {listed : Array Bool} {a : Act} {w : World} {n : Nat} {F : World -> Prop}
theorem tk (hi : ops[i]? = some oi) (hy : ∀ w', (execOp a.eval oi).run P w' = .ok (.value v) w') (h : wpAny P md ops Q fuel (listed.setIfInBounds i true) (a.put oi.dst v) w)
  (hs : Region.noSelect ops = true := by kernel_rfl) (hf : Region.free md ops listed i = true := by kernel_rfl) (hr : (Region.ready md ops listed).contains i = true := by kernel_rfl)
  (hQ : ∀ c a w, Q (.panic c) (a.put oi.dst v) w -> Q (.panic c) a w := by exact fun _ _ _ h => h) (hw : Region.wanted oi (yielded ops a.tmps) = true := by rfl) : wpAny P md ops Q (fuel + 1) listed a w :=
 wpAny_take hi hs hf hr hQ (Or.inl ⟨hw, hy⟩) h
theorem tkR (hi : ops[i]? = some oi) (h0 : F w) (hy : YieldsIf P ops F oi v a) (h : dm P md ops Q (fun oi w' => oi < n -> F w') fuel (listed.setIfInBounds i true) (a.put oi.dst v) w)
  (hs : Region.noSelect ops = true := by kernel_rfl) (hf : Region.free md ops listed i = true := by kernel_rfl) (hr : (Region.ready md ops listed).contains i = true := by kernel_rfl) (hwa : ow md ops listed (fun oi => decide (oi < n)) i = true := by kernel_rfl)
  (hQ : ∀ c a w, Q (.panic c) (a.put oi.dst v) w -> Q (.panic c) a w := by exact fun _ _ _ h => h) : dm P md ops Q (fun oi w' => oi < n -> F w') (fuel + 1) listed a w :=
 ce (T := F) (fun oi => decide (oi < n)) hi hs hf hr hwa (fun _ _ hj h => h (by simpa using hj)) (fun _ h _ => h) hQ h0 hy h
theorem tkJ (hi : ops[i]? = some oi) (h0 : F w) (hy : ∀ w', F w' -> (execOp a.eval oi).run P w' = .ok (.value v) w') (h : dm P md ops Q (fun oi w' => oi < n -> F w') fuel (listed.setIfInBounds i true) (a.put oi.dst v) w)
  (hs : Region.noSelect ops = true := by kernel_rfl) (hf : Region.free md ops listed i = true := by kernel_rfl) (hr : (Region.ready md ops listed).contains i = true := by kernel_rfl) (hwa : ow md ops listed (fun oi => decide (oi < n)) i = true := by kernel_rfl)
  (hQ : ∀ c a w, Q (.panic c) (a.put oi.dst v) w -> Q (.panic c) a w := by exact fun _ _ _ h => h) (hw : Region.wanted oi (yielded ops a.tmps) = true := by rfl) : dm P md ops Q (fun oi w' => oi < n -> F w') (fuel + 1) listed a w :=
 tkR hi h0 (Or.inl ⟨hw, hy⟩) h hs hf hr hwa hQ
end
theorem Ex.setRow (h : Ex l a w) (hg : g ∈ l \/ a.heap.size <= g) (cs : Array Value) : Ex l a (w.setRow g cs) :=
 ⟨h.os, h.tape, h.output, by simpa using h.size, fun k hk hn => by
  rw [setRow_other w g k cs (by rintro rfl; rcases hg with hg | hg; (· exact hn hg); · omega)]; exact h.block k hk hn⟩
theorem lQ {P : Program} (w : World) (t e ty : TypeId) (z : Value) (ht : P.underlying t = some (.slice e)) (hv : ∀ w, (zeroValue e).run P w = .ok z w)
  (zs : List Value) (hzs : (Builtin.zeroCells z.cells 1).toList = zs) (h1 : ∀ v ∈ zs, v.oneCell' = true) (g o c : Nat) (cur : Array Value) (te : TypeId)
  (hg : w.heap[g]? = some (.cells cur te (0, 0))) (hl : o + zs.length <= cur.size) :
  (Builtin.clear_ #[t] ty #[.slice (some ⟨g, o, none⟩) 1 c]).run P w = .ok (.tuple #[]) (w.setRow g (cur.toList.take o ++ zs ++ cur.toList.drop (o + zs.length)).toArray) := by
 have hst := run_storeCells_at P g o te zs 0 cur w hg (by simpa using hl) h1
 simp only [Nat.add_zero] at hst
 simp [Builtin.clear_, run_underlying ht, hv, hzs, hst]
theorem gx {P : Program} (w : World) (t e ty : TypeId) (z : Value) (ht : P.underlying t = some (.slice e)) (hv : ∀ w, (zeroValue e).run P w = .ok z w)
  (zs : List Value) (hzs : (Builtin.zeroCells z.cells 1).toList = zs) (h1 : ∀ v ∈ zs, v.oneCell' = true) (base sz g n m cap c : Nat) (xs : List Value)
  (hz : zs.length = sz) (hm : m + 1 <= cap) (hnm : n <= m) (hown : w.ownsRow base e sz (.slice (some ⟨g, 0, none⟩) n cap) n xs) :
  ∃ w', (Builtin.clear_ #[t] ty #[.slice (some ⟨g, m * sz, none⟩) 1 c]).run P w = .ok (.tuple #[]) w' /\ w'.ownsRow base e sz (.slice (some ⟨g, 0, none⟩) n cap) n xs /\ Ex [g] w w' := by
 rcases hown.2 with ⟨h, _⟩ | ⟨g', cap', cur, h, hbg, hg, hnc, hcm, hcs, htake⟩
 ·cases h
 ·cases h
  have hle : m * sz + zs.length <= cur.size := by rw [hcs, hz, <- Nat.succ_mul]; exact Nat.mul_le_mul_right _ hm
  have hnl : n * sz <= m * sz := Nat.mul_le_mul_right _ hnm
  refine ⟨_, lQ w t e ty z ht hv zs hzs h1 g (m * sz) c cur e hg hle, ⟨hown.1, .inr ⟨g, cap, _, rfl, hbg, setRow_heap w g cur _ e (0, 0) hg, hnc, hcm, ?_, ?_⟩⟩, (Ex.refl _ _).setRow (.inl (by simp)) _⟩
  ·simp only [List.size_toArray, List.length_append, List.length_take, List.length_drop, Array.length_toList]
   omega
  ·rw [<- htake, List.toList_toArray, List.append_assoc, List.take_append_of_le_length (by simp; omega), List.take_take, Nat.min_eq_left hnl]
theorem ke {e sz cap : Nat} (h : w.ownsRow base e sz (.slice (some ⟨g, 0, none⟩) n cap) n xs) (hi : i <= n) :
  w.ownsRow base e sz (.slice (some ⟨g, 0, none⟩) i cap) i (xs.take (i * sz)) := by
 have hle : i * sz <= n * sz := Nat.mul_le_mul_right _ hi
 rcases h.2 with ⟨h', _⟩ | ⟨g', cap', cur, h', hbg, hg, hnc, hcm, hcs, htake⟩
 ·cases h'
 ·cases h'
  refine ⟨by rw [List.length_take, h.1]; exact Nat.min_eq_left hle, .inr ⟨g, cap, cur, rfl, hbg, hg, by omega, hcm, hcs, ?_⟩⟩
  rw [<- htake, List.take_take, Nat.min_eq_left hle]
theorem gy {e sz cap : Nat} (h : w.ownsRow base e sz (.slice (some ⟨g, 0, none⟩) n cap) n xs) {j : Nat} {u : Value} (hj : xs[j]? = some u) :
  w.cell? ⟨g, j, none⟩ = some u := by
 rcases h.2 with ⟨h', _⟩ | ⟨g', cap', cur, h', hbg, hg, hnc, hcm, hcs, htake⟩
 ·cases h'
 ·cases h'
  have hjl : j < n * sz := by rw [<- h.1]; exact (List.getElem?_eq_some_iff.1 hj).1
  rw [cell_of_row w g _ cur _ _ hg]
  rw [<- htake, List.getElem?_take, if_pos hjl] at hj
  simpa using hj
theorem fU {P : Program} {ops : Array Oper} {o : Oper} {a : Act} {K : Act -> World -> Prop} {Q : Exit -> Act -> World -> Prop} {E : Prop}
  (hg : o.guard = none) (s x : Operand) (t : TypeId) (hop : o.op = Op.call { callee := Callee.builtin Builtin.append, args := #[s, x], argTypes := #[t, t] })
  (v u : Value) (hd : a.eval s = v) (hx : a.eval x = u) {v' : Value} {w' : World} (hr : (Builtin.append_ #[t, t] o.type #[v, u]).run P w = .ok v' w') (hK : K (a.put o.dst v') w') :
  if Region.wanted o (yielded ops a.tmps) = true then Oper.wp P o a w K Q else E := by
 have hw : Region.wanted o (yielded ops a.tmps) = true := by simp [Region.wanted, hg]
 rw [if_pos hw]
 unfold Oper.wp
 simp [execOp, hop, resolve, invoke, builtin, hd, hx, hr, Result.andThen]
 exact hK
theorem fd {P : Program} (w : World) {ops : Array Oper} {rest : List Oper} {o : Oper} {a : Act} {Q : Exit -> Act -> World -> Prop} (hgd : o.guard = none) (s : Operand) (t : TypeId)
  (ho : o.op = .call { callee := .builtin .clear, args := #[s], argTypes := #[t] }) (v : Value) (hs : a.eval s = v) {v' : Value} {w' : World}
  (hr : (Builtin.clear_ #[t] o.type #[v]).run P w = .ok v' w') (h : wpList P ops Q rest (a.put o.dst v') w') : wpList P ops Q (o :: rest) a w := by
 refine wpList_plain hgd fun K hK => ?_
 unfold Oper.wp
 simp [execOp, ho, resolve, invoke, builtin, hs, hr, Result.andThen]
 exact hK _ _ h
def rM (xs : List Value) : Prop := ∀ u ∈ xs, u.oneCell' = true
theorem ii {P : Program} {ops : Array Oper} {o : Oper} {a : Act} {K : Act -> World -> Prop} {Q : Exit -> Act -> World -> Prop} {E : Prop}
  (hg : o.guard = none) (s x : Operand) (t t' : TypeId) (hop : o.op = Op.call { callee := Callee.builtin Builtin.copy, args := #[s, x], argTypes := #[t, t'] })
  (v u : Value) (hd : a.eval s = v) (hx : a.eval x = u) {v' : Value} {w' : World} (hr : (Builtin.copy_ #[t, t'] o.type #[v, u]).run P w = .ok v' w') (hK : K (a.put o.dst v') w') :
  if Region.wanted o (yielded ops a.tmps) = true then Oper.wp P o a w K Q else E := by
 have hw : Region.wanted o (yielded ops a.tmps) = true := by simp [Region.wanted, hg]
 rw [if_pos hw]
 unfold Oper.wp
 simp [execOp, hop, resolve, invoke, builtin, hd, hx, hr, Result.andThen]
 exact hK
theorem ap {P : Program} {fn : Func} {tmps : Array Value} {a : Tmp} {t : TypeId} {ad : Addr} (hf : fn.results = #[.cell a t]) (ha : tmps.getD a undef = .pointer (some ad)) (hl : (loadVar t ad).run P w = .ok v w) :
  (results fn tmps).run P w = .ok v w := by
 have ha' : tmps[a]?.getD undef = .pointer (some ad) := by rw [<- ha]; simp
 unfold results
 rw [hf]
 simp [ha', hl, asAddr]
theorem ao {P : Program} {fn : Func} {tmps : Array Value} {a k : Tmp} {t : TypeId} {ad : Addr} (hf : fn.results = #[.cell a t, .tmp k]) (ha : tmps.getD a undef = .pointer (some ad)) (hl : (loadVar t ad).run P w = .ok v w) :
  (results fn tmps).run P w = .ok (.tuple #[v, tmps.getD k undef]) w := by
 have ha' : tmps[a]?.getD undef = .pointer (some ad) := by rw [<- ha]; simp
 unfold results
 rw [hf]
 simp [ha', hl, asAddr]
def fY (x : Int) : Bool := decide (48 <= x) && decide (x <= 57)
def fD (x : Int) : Bool := (decide (97 <= x) && decide (x <= 122)) || (decide (65 <= x) && decide (x <= 90))
def xZ (x : Int) : Bool := fD x || fY x || x == 95
def xX (s : ByteArray) : Bool := !(s.size == 0) && !decide (60 < s.size) && !fY ((s.data.toList.headD 0).toNat : Int) && s.data.toList.all (fun b => xZ (b.toNat : Int))
theorem uK (s : ByteArray) : s.data.toList.length = s.size := by rw [Array.length_toList]; rfl
theorem cr {s : ByteArray} (h0 : ¬ s.size = 0) : s.toList.isEmpty = false := by
 rw [ByteArray.toList_eq, List.isEmpty_eq_false_iff]
 intro h
 have := uK s
 rw [h] at this
 simp at this
 omega
abbrev Lab := ByteArray × ByteArray
def xD (l : Lab) : Value := .agg #[.string l.1, .string l.2]
def SL (w : World) (v : Value) (ls : List Lab) : Prop :=
 (v = .slice none 0 0 /\ ls = []) \/ ∃ b c, v = .slice (some ⟨b, 0, none⟩) ls.length c /\ b < w.heap.size /\ ∀ j l, ls[j]? = some l -> w.cell? ⟨b, j * 2, none⟩ = some (.string l.1) /\ w.cell? ⟨b, j * 2 + 1, none⟩ = some (.string l.2)
theorem SL.slice {ls : List Lab} (h : SL w v ls) : ∃ p c, v = .slice p ls.length c := by
 rcases h with ⟨rfl, rfl⟩ | ⟨b, c, rfl, _⟩
 ·exact ⟨_, _, rfl⟩
 ·exact ⟨_, _, rfl⟩
theorem oZ (a b : ByteArray) (w : World) :
  Calls Tryz.prog 212 #[.string a, .string b] w fun e w' => e = .returned (.int .i64 (Lib.compareBytes a.data.toList b.data.toList)) /\ w' = w := Tryz.strings_Compare a b w
theorem qg (s : ByteArray) (w : World) (hlim : s.size <= 281474976710656) :
  Calls Tryz.prog 175 #[.string s] w fun e w' => e = .returned (.string s) /\ Below w.heap.size w w' := Tryz.stringslite_Clone s w hlim
end Go.Proofs.YtfnanjbleifjkaaGreatDoor
