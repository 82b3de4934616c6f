/- Q1 Ord, one behind the other. -/
import Derived.Test.YtmeffeigamaipabGreatDoorM22
import Derived.Test.YtmeffeigamaipabGreatDoorProg
import Derived.WalkKit
import Derived.OrdersHeld
import Derived.StillTail
import Derived.Deep.MidRow
set_option linter.unusedVariables false
set_option linter.unusedSimpArgs false
/- Contracts of the pattern reader's small functions, whatever the reader's other cells hold. -/
namespace Go.Proofs.YtmeffeigamaipabGreatDoor.Rx.Q
open Go.RowKit

structure Rest where
  d : Nat
  f : Bool
  g : Nat
  m : Value
def RD (w : World) (r : Nat) (t : ByteArray) (k : Nat) (mv : Rest) : Prop :=
  w.heap[r]? = some (.cells #[.string t, .int .i64 k, .int .i64 mv.d, .bool mv.f, .int .i64 mv.g, mv.m] 147 (0, 0))

theorem RD.c0 {w : World} {r : Nat} {t : ByteArray} {k : Nat} {mv : Rest} (h : RD w r t k mv) : w.cell? ⟨r, 0, none⟩ = some (.string t) := by
  rw [cell_of_row w r 0 _ 147 (0, 0) h]; rfl
theorem RD.c1 {w : World} {r : Nat} {t : ByteArray} {k : Nat} {mv : Rest} (h : RD w r t k mv) : w.cell? ⟨r, 1, none⟩ = some (.int .i64 k) := by
  rw [cell_of_row w r 1 _ 147 (0, 0) h]; rfl
theorem RD.c3 {w : World} {r : Nat} {t : ByteArray} {k : Nat} {mv : Rest} (h : RD w r t k mv) : w.cell? ⟨r, 3, none⟩ = some (.bool mv.f) := by
  rw [cell_of_row w r 3 _ 147 (0, 0) h]; rfl
theorem RD.drew {w : World} {r : Nat} {t : ByteArray} {k : Nat} {mv : Rest} (h : RD w r t k mv) (n : Nat) : RD (w.drewN n) r t k mv := h
theorem RD.lt {w : World} {r : Nat} {t : ByteArray} {k : Nat} {mv : Rest} (h : RD w r t k mv) : r < w.heap.size := (Array.getElem?_eq_some_iff.1 h).1

set_option maxHeartbeats 400000 in
theorem ended_no (r : Nat) (t : ByteArray) (k : Nat) (mv : Rest) (w : World) (hr : RD w r t k mv) (hk : k < t.size) :
    Calls Tryz.prog 114 #[.pointer (some ⟨r, 0, none⟩)] w fun e w' => e = .returned (.bool false) ∧ ∃ n, w' = w.drewN n := by
  have h0 := hr.c0; have h1 := hr.c1; clear hr
  have he : ((k : Int) == (t.size : Int)) = false := by rw [beq_eq_false_iff_ne]; omega
  go_enter Tryz.func114, Tryz.ntmps114
  go_wp2
  go_quiet (fail)
  go_wp2
  go_ret
  exact ⟨by simp, _, rfl⟩

set_option maxHeartbeats 400000 in
theorem ended_yes (r : Nat) (t : ByteArray) (k : Nat) (mv : Rest) (w : World) (hr : RD w r t k mv) (hk : k = t.size) :
    Calls Tryz.prog 114 #[.pointer (some ⟨r, 0, none⟩)] w fun e w' => e = .returned (.bool true) ∧ ∃ n, w' = w.drewN n := by
  have h0 := hr.c0; have h1 := hr.c1; clear hr
  subst hk
  go_enter Tryz.func114, Tryz.ntmps114
  go_wp2
  go_quiet (fail)
  go_wp2
  go_ret
  exact ⟨by simp, _, rfl⟩

set_option maxHeartbeats 400000 in
theorem sees_end (r : Nat) (t : ByteArray) (k : Nat) (mv : Rest) (w : World) (b : Int) (hr : RD w r t k mv) (hk : k = t.size) :
    Calls Tryz.prog 151 #[.pointer (some ⟨r, 0, none⟩), .int .u8 b] w fun e w' => e = .returned (.bool false) ∧ ∃ n, w' = w.drewN n := by
  go_enter Tryz.func151, Tryz.ntmps151
  go_wp2
  go_quiet ((go_at_call 114; exact Calls.quiet_of (ended_yes r t k mv _ (hr.drew _) hk)))
  go_wp2
  go_ret
  exact ⟨by simp, _, rfl⟩

set_option maxHeartbeats 400000 in
theorem sees_no (r : Nat) (t : ByteArray) (k : Nat) (mv : Rest) (w : World) (b : Int) (hr : RD w r t k mv) (hk : k < t.size) (ht : t.size ≤ 60) (hb : (((t[k]'hk).toNat : Int) == b) = false) :
    Calls Tryz.prog 151 #[.pointer (some ⟨r, 0, none⟩), .int .u8 b] w fun e w' => e = .returned (.bool false) ∧ ∃ n, w' = w.drewN n := by
  have h0 := hr.c0; have h1 := hr.c1
  have HR : Hid (RD w r t k mv) := hr
  clear hr
  go_enter Tryz.func151, Tryz.ntmps151
  go_wp2
  go_quiet ((go_at_call 114; exact Calls.quiet_of (ended_no r t k mv _ (HR.out.drew _) hk)))
  go_wp2
  go_ret
  exact ⟨by simp, _, rfl⟩

set_option maxHeartbeats 400000 in
theorem look_any (r : Nat) (t : ByteArray) (k : Nat) (mv : Rest) (w : World) (hr : RD w r t k mv) (hk : k < t.size) (ht : t.size ≤ 60) :
    Calls Tryz.prog 177 #[.pointer (some ⟨r, 0, none⟩)] w fun e w' => e = .returned (.int .u8 ((t[k]'hk).toNat : Int)) ∧ ∃ n, w' = w.drewN n := by
  have h0 := hr.c0; have h1 := hr.c1
  have HR : Hid (RD w r t k mv) := hr
  clear hr
  go_enter Tryz.func177, Tryz.ntmps177
  go_wp2_with (go_at_call 114; refine (ended_no r t k mv _ HR.out hk).mono ?_; rintro e w' ⟨rfl, n, rfl⟩)
  go_quiet (fail)
  go_wp2
  go_ret
  exact ⟨rfl, _, by rw [World.drewN_drewN]⟩

set_option maxHeartbeats 400000 in
theorem takes_end (r : Nat) (t : ByteArray) (k : Nat) (mv : Rest) (w : World) (b : Int) (hr : RD w r t k mv) (hk : k = t.size) :
    Calls Tryz.prog 134 #[.pointer (some ⟨r, 0, none⟩), .int .u8 b] w fun e w' => e = .returned (.bool false) ∧ ∃ n, w' = w.drewN n := by
  go_enter Tryz.func134, Tryz.ntmps134
  go_wp2_with (go_at_call 151; refine (sees_end r t k mv _ _ hr hk).mono ?_; rintro e w' ⟨rfl, n, rfl⟩)
  go_ret
  exact ⟨rfl, _, rfl⟩

set_option maxHeartbeats 400000 in
theorem takes_no (r : Nat) (t : ByteArray) (k : Nat) (mv : Rest) (w : World) (b : Int) (hr : RD w r t k mv) (hk : k < t.size) (ht : t.size ≤ 60) (hb : (((t[k]'hk).toNat : Int) == b) = false) :
    Calls Tryz.prog 134 #[.pointer (some ⟨r, 0, none⟩), .int .u8 b] w fun e w' => e = .returned (.bool false) ∧ ∃ n, w' = w.drewN n := by
  go_enter Tryz.func134, Tryz.ntmps134
  go_wp2_with (go_at_call 151; refine (sees_no r t k mv _ _ hr hk ht hb).mono ?_; rintro e w' ⟨rfl, n, rfl⟩)
  go_ret
  exact ⟨rfl, _, rfl⟩

theorem RD.ex {l : List Nat} {w w' : World} {r : Nat} {t : ByteArray} {k : Nat} {mv : Rest} (h : RD w r t k mv) (hx : Ex l w w') (hn : r ∉ l) : RD w' r t k mv := by
  unfold RD; rw [hx.block r h.lt hn]; exact h
theorem RD.alloc {w : World} {r : Nat} {t : ByteArray} {k : Nat} {mv : Rest} (h : RD w r t k mv) (o : Obj) : RD (w.alloc o) r t k mv := h.ex ((Ex.refl [] _).alloc o) (by simp)
theorem RD.set {w : World} {r : Nat} {t : ByteArray} {k : Nat} {mv : Rest} (h : RD w r t k mv) {p : Addr} (hp : r ≠ p.block) (u : Value) : RD (w.setCell p u) r t k mv := by
  unfold RD; rw [Below.heap_setCell _ _ _ _ hp]; exact h
theorem RD.step {w : World} {r : Nat} {t : ByteArray} {k : Nat} {mv : Rest} (h : RD w r t k mv) : RD (w.setCell ⟨r, 1, none⟩ (.int .i64 ((k + 1 : Nat) : Int))) r t (k + 1) mv := by
  unfold RD at h ⊢
  simp [World.setCell, Array.getElem?_modify, h]

theorem RD.f1 {w : World} {r : Nat} {t : ByteArray} {k : Nat} {mv : Rest} (h : RD w r t k mv) : w.frozen? ⟨r, 1, none⟩ = false := by
  unfold RD at h; simp [World.frozen?, h]

theorem RD.grown {w w' : World} {row : Option Nat} {r : Nat} {t : ByteArray} {k : Nat} {mv : Rest} (h : RD w r t k mv) (hg : w.grownBy w' row) (hn : ∀ k, row = some k → r < k) : RD w' r t k mv := by
  unfold RD; rw [hg.block r h.lt (fun e => by have := hn r e.symm; omega)]; exact h

theorem RD.bk {w : World} {r : Nat} {t : ByteArray} {k : Nat} {mv : Rest} (h : RD w r t k mv) : BK w r (.cells #[.string t, .int .i64 k, .int .i64 mv.d, .bool mv.f, .int .i64 mv.g, mv.m] 147 (0, 0)) := h

set_option maxHeartbeats 400000 in
theorem sees_yes (r : Nat) (t : ByteArray) (k : Nat) (mv : Rest) (w : World) (b : Int) (hr : RD w r t k mv) (hk : k < t.size) (ht : t.size ≤ 60) (hb : (((t[k]'hk).toNat : Int) == b) = true) :
    Calls Tryz.prog 151 #[.pointer (some ⟨r, 0, none⟩), .int .u8 b] w fun e w' => e = .returned (.bool true) ∧ ∃ n, w' = w.drewN n := by
  have h0 := hr.c0; have h1 := hr.c1
  have HR : Hid (RD w r t k mv) := hr
  clear hr
  go_enter Tryz.func151, Tryz.ntmps151
  go_wp2
  go_quiet ((go_at_call 114; exact Calls.quiet_of (ended_no r t k mv _ (HR.out.drew _) hk)))
  go_wp2
  go_ret
  exact ⟨by simp, _, rfl⟩

set_option maxHeartbeats 400000 in
theorem takes_yes (r : Nat) (t : ByteArray) (k : Nat) (mv : Rest) (w : World) (b : Int) (hr : RD w r t k mv) (hk : k < t.size) (ht : t.size ≤ 60) (hb : (((t[k]'hk).toNat : Int) == b) = true) :
    Calls Tryz.prog 134 #[.pointer (some ⟨r, 0, none⟩), .int .u8 b] w fun e w' => e = .returned (.bool true) ∧ RD w' r t (k + 1) mv ∧ Ex [r] w w' := by
  have HR : Hid (RD w r t k mv) := hr
  have h1 := hr.c1
  have hf1 := hr.f1
  have hlt := hr.lt
  clear hr
  go_enter Tryz.func134, Tryz.ntmps134
  go_wp2_with (go_at_call 151; refine (sees_yes r t k mv _ _ HR.out hk ht hb).mono ?_; rintro e w' ⟨rfl, n, rfl⟩)
  go_ret
  refine ⟨rfl, ?_, ?_⟩
  · have := (HR.out.drew n).step
    simpa using this
  · exact ((Ex.refl _ _).drewN _).setCell (Or.inl (by simp)) _

end Go.Proofs.YtmeffeigamaipabGreatDoor.Rx.Q

/- A region that draws its order, reads cells, and in the end writes one that it read: what is read holds behind the first n operations alone; those behind them wait for the reads. -/
namespace Go.Proofs.YtmeffeigamaipabGreatDoor.Rx
open Go.RowKit

section
variable {P : Program} {ops : Array Oper} {Q : Exit → Act → World → Prop} {md : Region.Mode} {S : Nat → World → Prop} {T : World → Prop}

def wpAnyJ (P : Program) (md : Region.Mode) (ops : Array Oper) (Q : Exit → Act → World → Prop) (S : Nat → World → Prop) : Nat → Array Bool → Act → World → Prop
  | 0, listed, a, w => Region.ready md ops listed = [] ∧ Q .normal a w
  | fuel + 1, listed, a, w =>
    (Region.ready md ops listed = [] → Q .normal a w) ∧
    ∀ i ∈ Region.ready md ops listed, wpOp P ops Q i (fun a' w' => S i w' ∧ wpAnyJ P md ops Q S fuel (listed.setIfInBounds i true) a' w') a w

theorem wpAny_of_J : ∀ (fuel : Nat) (listed : Array Bool) (a : Act) (w : World), wpAnyJ P md ops Q S fuel listed a w → wpAny P md ops Q fuel listed a w
  | 0, _, _, _, h => h
  | fuel + 1, _, _, _, h => ⟨h.1, fun i hi => wpOp_mono (fun a' w' h' => wpAny_of_J fuel _ a' w' h'.2) (h.2 i hi)⟩

theorem wpAnyJ_first {i : Nat} {oi : Oper} {v : Value} (hi : ops[i]? = some oi) (hsel : ∀ (j : Nat) (o : Oper) cs b, ops[j]? = some o → o.op ≠ .select cs b)
    (hQ : ∀ c a w, Q (.panic c) (a.put oi.dst v) w → Q (.panic c) a w) (hTi : ∀ w, T w → S i w) :
    ∀ (fuel : Nat) (listed : Array Bool) (a : Act) (w : World),
      (∀ j oj, ops[j]? = some oj → j ≠ i → listed.getD j true = false → (∀ e ∈ oj.after, Region.binds md e = true → e.on ≠ i) → oi.apart ops oj = true ∧ ∀ w, S j w → T w) →
      i ∈ Region.ready md ops listed → YieldsIf P ops T oi v a → T w →
      wpAnyJ P md ops Q S fuel (listed.setIfInBounds i true) (a.put oi.dst v) w → wpAnyJ P md ops Q S (fuel + 1) listed a w := by
  intro fuel
  induction fuel with
  | zero =>
    intro listed a w _ hr hy hS H
    refine ⟨fun h => (by rw [h] at hr; cases hr), fun j hj => ?_⟩
    by_cases hji : j = i
    · subst hji; exact hy.wpOp hi hS ⟨hTi _ hS, H⟩
    · have := ready_mono hj hji
      rw [H.1] at this
      cases this
  | succ fuel ih =>
    intro listed a w hfree hr hy hS H
    refine ⟨fun h => (by rw [h] at hr; cases hr), fun j hj => ?_⟩
    by_cases hji : j = i
    · subst hji; exact hy.wpOp hi hS ⟨hTi _ hS, H⟩
    · have h1 := H.2 j (ready_mono hj hji)
      obtain ⟨hjun, oj, hoj, hall⟩ := mem_ready.1 hj
      have hnot : ∀ e ∈ oj.after, Region.binds md e = true → e.on ≠ i := fun e he hb heq => by
        have h1 := hall e he hb
        have h0 := (mem_ready.1 hr).1
        rw [heq] at h1
        rcases Nat.lt_or_ge i listed.size with h' | h'
        · simp [h'] at h0 h1; rw [h0] at h1; cases h1
        · simp [Array.getElem?_eq_none h'] at h1
      have h2 := wpOp_putIf hoj (hfree j oj hoj hji hjun hnot).1 (fun cs b => hsel i oi cs b hi) (fun cs b => hsel j oj cs b hoj) hQ hy h1
      have hfree' : ∀ k ok, ops[k]? = some ok → k ≠ i → (listed.setIfInBounds j true).getD k true = false →
          (∀ e ∈ ok.after, Region.binds md e = true → e.on ≠ i) → oi.apart ops ok = true ∧ ∀ w, S k w → T w := fun k ok hk hki hun hno => by
        refine hfree k ok hk hki ?_ hno
        by_cases hjk : j = k
        · subst hjk; exact hjun
        · rw [getD_set_ne true hjk] at hun; exact hun
      refine wpOp_mono (fun a' w' h3 => ⟨h3.2.1, ih (listed.setIfInBounds j true) a' w' hfree' (ready_mono hr (Ne.symm hji)) h3.1 ((hfree j oj hoj hji hjun hnot).2 _ h3.2.1) ?_⟩) h2
      rw [Array.setIfInBounds_comm _ _ hji]
      exact h3.2.2

def waitAll (md : Region.Mode) (ops : Array Oper) (listed : Array Bool) (f : Nat → Bool) (i : Nat) : Bool := (List.range ops.size).all fun j => f j || listed.getD j true || Region.waitsFor md ops j i

theorem wpAnyJ_take {i : Nat} {oi : Oper} {v : Value} {fuel : Nat} {listed : Array Bool} {a : Act} {w : World} (f : Nat → Bool) (hi : ops[i]? = some oi)
    (hs : Region.noSelect ops = true) (hf : Region.free md ops listed i = true) (hr : (Region.ready md ops listed).contains i = true) (hwa : waitAll md ops listed f i = true)
    (hST : ∀ j w, f j = true → S j w → T w) (hTi : ∀ w, T w → S i w)
    (hQ : ∀ c a w, Q (.panic c) (a.put oi.dst v) w → Q (.panic c) a w) (hS : T w) (hy : YieldsIf P ops T oi v a)
    (h : wpAnyJ P md ops Q S fuel (listed.setIfInBounds i true) (a.put oi.dst v) w) : wpAnyJ P md ops Q S (fuel + 1) listed a w := by
  refine wpAnyJ_first hi (Region.noSelect_spec hs) hQ hTi fuel listed a w (fun j oj hj hji hun hno => ⟨Region.free_spec hi hf j oj hj hji hun hno, fun w => hST j w ?_⟩) (by simpa using hr) hy hS h
  have h1 := List.all_eq_true.1 hwa j (List.mem_range.2 (Array.getElem?_eq_some_iff.1 hj).1)
  simp only [Bool.or_eq_true, hun, Bool.false_eq_true, or_false] at h1
  rcases h1 with h1 | h1
  · exact h1
  · obtain ⟨o', ho', e, he, hb, hon⟩ := Region.waitsFor_spec h1
    have : o' = oj := Option.some.inj (ho'.symm.trans hj)
    subst this
    exact absurd hon (hno e he hb)

theorem wpAnyJ_one {i : Nat} {oi : Oper} {fuel : Nat} {listed : Array Bool} {a : Act} {w : World} (hi : ops[i]? = some oi) (hg : oi.guard = none)
    (hr : Region.ready md ops listed = [i])
    (h : ∀ K : Act → World → Prop, Hid (∀ a' w', S i w' → wpAnyJ P md ops Q S fuel (listed.setIfInBounds i true) a' w' → K a' w') → oi.wp P a w K Q) : wpAnyJ P md ops Q S (fuel + 1) listed a w := by
  refine ⟨fun h0 => absurd (hr ▸ h0) (by simp), fun j hj => ?_⟩
  rw [hr, List.mem_singleton] at hj
  subst hj
  unfold wpOp
  simp only [hi]
  rw [if_pos (by simp [Region.wanted, hg])]
  exact .inl (h _ (fun a' w' h1 h2 => ⟨h1, h2⟩))

theorem wpAnyJ_done {listed : Array Bool} {a : Act} {w : World} (hr : Region.ready md ops listed = []) (h : Q .normal a w) :
    ∀ fuel, wpAnyJ P md ops Q S fuel listed a w
  | 0 => ⟨hr, h⟩
  | _ + 1 => ⟨fun _ => h, by rw [hr]; simp⟩

theorem wp_region_J {id : Nat} {a : Act} {w : World} (hm : P.follows .mixedOrders = true)
    (h : wpAny P .any ops Q ops.size (Array.replicate ops.size false) a w.drew) : (Code.region id ops true).wp P Q a w :=
  wp_region_any hm h
end
end Go.Proofs.YtmeffeigamaipabGreatDoor.Rx
