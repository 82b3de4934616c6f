/- Contracts of the pattern reader's small functions, whatever the reader's other cells hold. -/
import Derived.Test.YtmeffeigamaipaaDoorM01
import Derived.Test.YtmeffeigamaipaaDoorShelf
import Derived.Carry
set_option linter.unusedVariables false
set_option linter.unusedSimpArgs false
namespace Go.Proofs.YtmeffeigamaipaaDoor.G
open Go.RowKit

structure Rest where
  d : Nat
  f : Bool
  g : Nat
  m : Value
def RD (w : World) (r : Nat) (t : ByteArray) (k : Nat) (mv : Rest) : Prop :=
  w.heap[r]? = some (.cells #[.string t, .int .i64 k, .int .i64 mv.d, .bool mv.f, .int .i64 mv.g, mv.m] 63 (0, 0))

theorem RD.c0 {w : World} {r : Nat} {t : ByteArray} {k : Nat} {mv : Rest} (h : RD w r t k mv) : w.cell? ⟨r, 0, none⟩ = some (.string t) := by
  rw [cell_of_row w r 0 _ 63 (0, 0) h]; rfl
theorem RD.c1 {w : World} {r : Nat} {t : ByteArray} {k : Nat} {mv : Rest} (h : RD w r t k mv) : w.cell? ⟨r, 1, none⟩ = some (.int .i64 k) := by
  rw [cell_of_row w r 1 _ 63 (0, 0) h]; rfl
theorem RD.c3 {w : World} {r : Nat} {t : ByteArray} {k : Nat} {mv : Rest} (h : RD w r t k mv) : w.cell? ⟨r, 3, none⟩ = some (.bool mv.f) := by
  rw [cell_of_row w r 3 _ 63 (0, 0) h]; rfl
theorem RD.drew {w : World} {r : Nat} {t : ByteArray} {k : Nat} {mv : Rest} (h : RD w r t k mv) (n : Nat) : RD (w.drewN n) r t k mv := h
theorem RD.lt {w : World} {r : Nat} {t : ByteArray} {k : Nat} {mv : Rest} (h : RD w r t k mv) : r < w.heap.size := (Array.getElem?_eq_some_iff.1 h).1

set_option maxHeartbeats 400000 in
theorem ended_no (r : Nat) (t : ByteArray) (k : Nat) (mv : Rest) (w : World) (hr : RD w r t k mv) (hk : k < t.size) :
    Calls Tryd.prog 32 #[.pointer (some ⟨r, 0, none⟩)] w fun e w' => e = .returned (.bool false) ∧ ∃ n, w' = w.drewN n := by
  have h0 := hr.c0; have h1 := hr.c1; clear hr
  have he : ((k : Int) == (t.size : Int)) = false := by rw [beq_eq_false_iff_ne]; omega
  go_enter Tryd.func32, Tryd.ntmps32
  go_wp2
  go_quiet (fail)
  go_wp2
  go_ret
  exact ⟨by simp, _, rfl⟩

set_option maxHeartbeats 400000 in
theorem ended_yes (r : Nat) (t : ByteArray) (k : Nat) (mv : Rest) (w : World) (hr : RD w r t k mv) (hk : k = t.size) :
    Calls Tryd.prog 32 #[.pointer (some ⟨r, 0, none⟩)] w fun e w' => e = .returned (.bool true) ∧ ∃ n, w' = w.drewN n := by
  have h0 := hr.c0; have h1 := hr.c1; clear hr
  subst hk
  go_enter Tryd.func32, Tryd.ntmps32
  go_wp2
  go_quiet (fail)
  go_wp2
  go_ret
  exact ⟨by simp, _, rfl⟩

set_option maxHeartbeats 400000 in
theorem sees_end (r : Nat) (t : ByteArray) (k : Nat) (mv : Rest) (w : World) (b : Int) (hr : RD w r t k mv) (hk : k = t.size) :
    Calls Tryd.prog 48 #[.pointer (some ⟨r, 0, none⟩), .int .u8 b] w fun e w' => e = .returned (.bool false) ∧ ∃ n, w' = w.drewN n := by
  go_enter Tryd.func48, Tryd.ntmps48
  go_wp2
  go_quiet ((go_at_call 32; exact Calls.quiet_of (ended_yes r t k mv _ (hr.drew _) hk)))
  go_wp2
  go_ret
  exact ⟨by simp, _, rfl⟩

set_option maxHeartbeats 400000 in
theorem sees_no (r : Nat) (t : ByteArray) (k : Nat) (mv : Rest) (w : World) (b : Int) (hr : RD w r t k mv) (hk : k < t.size) (ht : t.size ≤ 60) (hb : (((t[k]'hk).toNat : Int) == b) = false) :
    Calls Tryd.prog 48 #[.pointer (some ⟨r, 0, none⟩), .int .u8 b] w fun e w' => e = .returned (.bool false) ∧ ∃ n, w' = w.drewN n := by
  have h0 := hr.c0; have h1 := hr.c1
  have HR : Hid (RD w r t k mv) := hr
  clear hr
  go_enter Tryd.func48, Tryd.ntmps48
  go_wp2
  go_quiet ((go_at_call 32; exact Calls.quiet_of (ended_no r t k mv _ (HR.out.drew _) hk)))
  go_wp2
  go_ret
  exact ⟨by simp, _, rfl⟩

set_option maxHeartbeats 400000 in
theorem look_any (r : Nat) (t : ByteArray) (k : Nat) (mv : Rest) (w : World) (hr : RD w r t k mv) (hk : k < t.size) (ht : t.size ≤ 60) :
    Calls Tryd.prog 56 #[.pointer (some ⟨r, 0, none⟩)] w fun e w' => e = .returned (.int .u8 ((t[k]'hk).toNat : Int)) ∧ ∃ n, w' = w.drewN n := by
  have h0 := hr.c0; have h1 := hr.c1
  have HR : Hid (RD w r t k mv) := hr
  clear hr
  go_enter Tryd.func56, Tryd.ntmps56
  go_wp2_with (go_at_call 32; refine (ended_no r t k mv _ HR.out hk).mono ?_; rintro e w' ⟨rfl, n, rfl⟩)
  go_quiet (fail)
  go_wp2
  go_ret
  exact ⟨rfl, _, by rw [World.drewN_drewN]⟩

set_option maxHeartbeats 400000 in
theorem takes_end (r : Nat) (t : ByteArray) (k : Nat) (mv : Rest) (w : World) (b : Int) (hr : RD w r t k mv) (hk : k = t.size) :
    Calls Tryd.prog 43 #[.pointer (some ⟨r, 0, none⟩), .int .u8 b] w fun e w' => e = .returned (.bool false) ∧ ∃ n, w' = w.drewN n := by
  go_enter Tryd.func43, Tryd.ntmps43
  go_wp2_with (go_at_call 48; refine (sees_end r t k mv _ _ hr hk).mono ?_; rintro e w' ⟨rfl, n, rfl⟩)
  go_ret
  exact ⟨rfl, _, rfl⟩

set_option maxHeartbeats 400000 in
theorem takes_no (r : Nat) (t : ByteArray) (k : Nat) (mv : Rest) (w : World) (b : Int) (hr : RD w r t k mv) (hk : k < t.size) (ht : t.size ≤ 60) (hb : (((t[k]'hk).toNat : Int) == b) = false) :
    Calls Tryd.prog 43 #[.pointer (some ⟨r, 0, none⟩), .int .u8 b] w fun e w' => e = .returned (.bool false) ∧ ∃ n, w' = w.drewN n := by
  go_enter Tryd.func43, Tryd.ntmps43
  go_wp2_with (go_at_call 48; refine (sees_no r t k mv _ _ hr hk ht hb).mono ?_; rintro e w' ⟨rfl, n, rfl⟩)
  go_ret
  exact ⟨rfl, _, rfl⟩

theorem RD.ex {l : List Nat} {w w' : World} {r : Nat} {t : ByteArray} {k : Nat} {mv : Rest} (h : RD w r t k mv) (hx : Ex l w w') (hn : r ∉ l) : RD w' r t k mv := by
  unfold RD; rw [hx.block r h.lt hn]; exact h
theorem RD.step {w : World} {r : Nat} {t : ByteArray} {k : Nat} {mv : Rest} (h : RD w r t k mv) : RD (w.setCell ⟨r, 1, none⟩ (.int .i64 ((k + 1 : Nat) : Int))) r t (k + 1) mv := by
  unfold RD at h ⊢
  simp [World.setCell, Array.getElem?_modify, h]

theorem RD.f1 {w : World} {r : Nat} {t : ByteArray} {k : Nat} {mv : Rest} (h : RD w r t k mv) : w.frozen? ⟨r, 1, none⟩ = false := by
  unfold RD at h; simp [World.frozen?, h]

theorem RD.bk {w : World} {r : Nat} {t : ByteArray} {k : Nat} {mv : Rest} (h : RD w r t k mv) : BK w r (.cells #[.string t, .int .i64 k, .int .i64 mv.d, .bool mv.f, .int .i64 mv.g, mv.m] 63 (0, 0)) := h

set_option maxHeartbeats 400000 in
theorem sees_yes (r : Nat) (t : ByteArray) (k : Nat) (mv : Rest) (w : World) (b : Int) (hr : RD w r t k mv) (hk : k < t.size) (ht : t.size ≤ 60) (hb : (((t[k]'hk).toNat : Int) == b) = true) :
    Calls Tryd.prog 48 #[.pointer (some ⟨r, 0, none⟩), .int .u8 b] w fun e w' => e = .returned (.bool true) ∧ ∃ n, w' = w.drewN n := by
  have h0 := hr.c0; have h1 := hr.c1
  have HR : Hid (RD w r t k mv) := hr
  clear hr
  go_enter Tryd.func48, Tryd.ntmps48
  go_wp2
  go_quiet ((go_at_call 32; exact Calls.quiet_of (ended_no r t k mv _ (HR.out.drew _) hk)))
  go_wp2
  go_ret
  exact ⟨by simp, _, rfl⟩

set_option maxHeartbeats 400000 in
theorem takes_yes (r : Nat) (t : ByteArray) (k : Nat) (mv : Rest) (w : World) (b : Int) (hr : RD w r t k mv) (hk : k < t.size) (ht : t.size ≤ 60) (hb : (((t[k]'hk).toNat : Int) == b) = true) :
    Calls Tryd.prog 43 #[.pointer (some ⟨r, 0, none⟩), .int .u8 b] w fun e w' => e = .returned (.bool true) ∧ RD w' r t (k + 1) mv ∧ Ex [r] w w' := by
  have HR : Hid (RD w r t k mv) := hr
  have h1 := hr.c1
  have hf1 := hr.f1
  have hlt := hr.lt
  clear hr
  go_enter Tryd.func43, Tryd.ntmps43
  go_wp2_with (go_at_call 48; refine (sees_yes r t k mv _ _ HR.out hk ht hb).mono ?_; rintro e w' ⟨rfl, n, rfl⟩)
  go_ret
  refine ⟨rfl, ?_, ?_⟩
  · have := (HR.out.drew n).step
    simpa using this
  · exact ((Ex.refl _ _).drewN _).setCell (Or.inl (by simp)) _

end Go.Proofs.YtmeffeigamaipaaDoor.G
