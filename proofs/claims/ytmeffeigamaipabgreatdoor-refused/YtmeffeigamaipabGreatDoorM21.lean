/- F15 G1, one behind the other. -/
import Derived.Test.YtmeffeigamaipabGreatDoorM12
import Derived.Test.YtmeffeigamaipabGreatDoorM20
import Derived.Test.YtmeffeigamaipabGreatDoorM01
import Derived.Test.YtmeffeigamaipabGreatDoorShelf
import Derived.Carry
set_option linter.unusedVariables false
set_option linter.unusedSimpArgs false
/- Relabel of one label by a rule that raises its value. -/
namespace Go.Proofs.YtmeffeigamaipabGreatDoor
open Go.RowKit

def vN : ByteArray := ⟨#[118]⟩
def bN : ByteArray := ⟨#[98]⟩
def upVN : ByteArray := ⟨#[86]⟩
/-- What is answered: the label, and its value raised. -/
def R1 : List Value → List Lab → Bool → Prop := fun _ ls b => ls = [(aN, vN), (bN, upVN)] ∧ b = true

set_option maxRecDepth 100000 in
theorem set_up : setL [(aN, vN)] bN (upperA (valN [(aN, vN)] aN)) = [(aN, vN), (bN, upVN)] := by kernel_rfl
theorem sorted_for (x a : ByteArray) : SortedFor [(aN, x)] a := fun i j p q _ ha hb h => by
  have h1 : i = 0 := by have := (List.getElem?_eq_some_iff.1 ha).1; simp at this; omega
  have h2 : j = 0 := by have := (List.getElem?_eq_some_iff.1 hb).1; simp at this; omega
  subst h1; subst h2
  rw [ha] at hb; cases hb; exact h

theorem works_raise {w : World} {e gb cap b1 b2 : Nat} {p : Option Addr} {c : Nat} {se : ByteArray} {pp : Option Addr} {mp : Value} (he : BK w e (.cells #[.slice (some ⟨gb, 0, none⟩) 1 cap, mp] 69 (0, 0))) (hg : w.cell? ⟨gb, 0, none⟩ = some (upFn b1 b2)) (hgl : gb < w.heap.size) (hr : RU w w.heap.size b1 b2 p c aN se pp bN ⟨#[]⟩ 0) :
    Works R1 w (serC [(aN, vN)]) (.pointer (some ⟨e, 0, none⟩)) := fun W hW => by
  have hr' : RU W W.heap.size b1 b2 p c aN se pp bN ⟨#[]⟩ 0 := by
    have h := hr.ex0 hW
    exact ⟨h.h1, h.h2, h.hs, Nat.lt_of_lt_of_le h.l1 hW.size, Nat.lt_of_lt_of_le h.l2 hW.size⟩
  have h := rewrite_raise e gb cap b1 b2 p c aN se pp bN ⟨#[]⟩ 0 mp [(aN, vN)] W (he.ex hW (by simp)) ((hW.cell0.1 gb 0 hgl).trans hg) hr' (by simp) (sorted_for _ _) (sorted_for _ _) (by decide) (by rw [set_up]; decide)
  rw [set_up] at h
  refine h.mono ?_
  rintro x w' ⟨v, rfl, ho, hx⟩
  exact ⟨v, [(aN, vN), (bN, upVN)], true, rfl, ⟨rfl, rfl⟩, by decide, ho, hx⟩

theorem asks_raise {e m mb base room gb cap b1 b2 : Nat} {ts : List (List Value)} {tv : Value} {es : Array MapEntry} {clk : Nat} {v : Value} {p : Option Addr} {c : Nat} {se : ByteArray} {pp : Option Addr} {w : World}
    (he : EN R1 w e m mb base room (.slice (some ⟨gb, 0, none⟩) 1 cap) ts tv es clk) (hg : w.cell? ⟨gb, 0, none⟩ = some (upFn b1 b2)) (hgl : gb < w.heap.size) (hr : RU w w.heap.size b1 b2 p c aN se pp bN ⟨#[]⟩ 0) (hv : SL w v [(aN, vN)]) :
    Calls Tryz.prog 12 #[.pointer (some ⟨e, 0, none⟩), v] w fun x w' => ∃ v', x = .returned (.tuple #[v', .bool true, .int .i64 0]) ∧ SL w' v' [(aN, vN), (bN, upVN)] ∧ EB base [m, mb] w w' := by
  have hst := read_any v [(aN, vN)] (fun j => if j = 0 then [] else [(aN, vN)]) w hv (by simp) (by decide) (steps_one (by decide) (by decide)) (by simp)
  have hok : SerOk (serC [(aN, vN)]) := serOk (by simp) (by
    intro l hl
    simp at hl
    subst hl
    exact ⟨(show aN.size ≤ maxLen by decide), (show vN.size ≤ maxLen by decide)⟩)
  refine (relabel_any R1 e m mb base room (.slice (some ⟨gb, 0, none⟩) 1 cap) ts tv es clk (serC [(aN, vN)]) v w he hok (by have h9 := hst; simp at h9; exact h9) (works_raise he.blk hg hgl hr)).mono ?_
  rintro x w' ⟨v', ls', b, rfl, ⟨rfl, rfl⟩, _, ho, _, hx⟩
  exact ⟨v', rfl, own_sl ho, hx⟩
end Go.Proofs.YtmeffeigamaipabGreatDoor

/- Contracts of the pattern reader's small functions, whatever the reader's other cells hold. -/
namespace Go.Proofs.YtmeffeigamaipabGreatDoor.G
open Go.RowKit

/-- The reader's cells but its text and its place. -/
structure Rest where
  d : Nat
  f : Bool
  g : Nat
  m : Value
/-- The reader's block. -/
def RD (w : World) (r : Nat) (t : ByteArray) (k : Nat) (mv : Rest) : Prop :=
  w.heap[r]? = some (.cells #[.string t, .int .i64 k, .int .i64 mv.d, .bool mv.f, .int .i64 mv.g, mv.m] 147 (0, 0))

theorem RD.c0 {w : World} {r : Nat} {t : ByteArray} {k : Nat} {mv : Rest} (h : RD w r t k mv) : w.cell? ⟨r, 0, none⟩ = some (.string t) := by
  rw [cell_of_row w r 0 _ 147 (0, 0) h]; rfl
theorem RD.c1 {w : World} {r : Nat} {t : ByteArray} {k : Nat} {mv : Rest} (h : RD w r t k mv) : w.cell? ⟨r, 1, none⟩ = some (.int .i64 k) := by
  rw [cell_of_row w r 1 _ 147 (0, 0) h]; rfl
theorem RD.c3 {w : World} {r : Nat} {t : ByteArray} {k : Nat} {mv : Rest} (h : RD w r t k mv) : w.cell? ⟨r, 3, none⟩ = some (.bool mv.f) := by
  rw [cell_of_row w r 3 _ 147 (0, 0) h]; rfl
theorem RD.drew {w : World} {r : Nat} {t : ByteArray} {k : Nat} {mv : Rest} (h : RD w r t k mv) (n : Nat) : RD (w.drewN n) r t k mv := h
theorem RD.lt {w : World} {r : Nat} {t : ByteArray} {k : Nat} {mv : Rest} (h : RD w r t k mv) : r < w.heap.size := (Array.getElem?_eq_some_iff.1 h).1

set_option maxHeartbeats 400000 in
theorem ended_no (r : Nat) (t : ByteArray) (k : Nat) (mv : Rest) (w : World) (hr : RD w r t k mv) (hk : k < t.size) :
    Calls Tryz.prog 114 #[.pointer (some ⟨r, 0, none⟩)] w fun e w' => e = .returned (.bool false) ∧ ∃ n, w' = w.drewN n := by
  have h0 := hr.c0; have h1 := hr.c1; clear hr
  have he : ((k : Int) == (t.size : Int)) = false := by rw [beq_eq_false_iff_ne]; omega
  go_enter Tryz.func114, Tryz.ntmps114
  go_wp2
  go_quiet (fail)
  go_wp2
  go_ret
  exact ⟨by simp, _, rfl⟩

set_option maxHeartbeats 400000 in
theorem ended_yes (r : Nat) (t : ByteArray) (k : Nat) (mv : Rest) (w : World) (hr : RD w r t k mv) (hk : k = t.size) :
    Calls Tryz.prog 114 #[.pointer (some ⟨r, 0, none⟩)] w fun e w' => e = .returned (.bool true) ∧ ∃ n, w' = w.drewN n := by
  have h0 := hr.c0; have h1 := hr.c1; clear hr
  subst hk
  go_enter Tryz.func114, Tryz.ntmps114
  go_wp2
  go_quiet (fail)
  go_wp2
  go_ret
  exact ⟨by simp, _, rfl⟩

set_option maxHeartbeats 400000 in
theorem sees_end (r : Nat) (t : ByteArray) (k : Nat) (mv : Rest) (w : World) (b : Int) (hr : RD w r t k mv) (hk : k = t.size) :
    Calls Tryz.prog 151 #[.pointer (some ⟨r, 0, none⟩), .int .u8 b] w fun e w' => e = .returned (.bool false) ∧ ∃ n, w' = w.drewN n := by
  go_enter Tryz.func151, Tryz.ntmps151
  go_wp2
  go_quiet ((go_at_call 114; exact Calls.quiet_of (ended_yes r t k mv _ (hr.drew _) hk)))
  go_wp2
  go_ret
  exact ⟨by simp, _, rfl⟩

set_option maxHeartbeats 400000 in
theorem sees_no (r : Nat) (t : ByteArray) (k : Nat) (mv : Rest) (w : World) (b : Int) (hr : RD w r t k mv) (hk : k < t.size) (ht : t.size ≤ 60) (hb : (((t[k]'hk).toNat : Int) == b) = false) :
    Calls Tryz.prog 151 #[.pointer (some ⟨r, 0, none⟩), .int .u8 b] w fun e w' => e = .returned (.bool false) ∧ ∃ n, w' = w.drewN n := by
  have h0 := hr.c0; have h1 := hr.c1
  have HR : Hid (RD w r t k mv) := hr
  clear hr
  go_enter Tryz.func151, Tryz.ntmps151
  go_wp2
  go_quiet ((go_at_call 114; exact Calls.quiet_of (ended_no r t k mv _ (HR.out.drew _) hk)))
  go_wp2
  go_ret
  exact ⟨by simp, _, rfl⟩

set_option maxHeartbeats 400000 in
theorem look_any (r : Nat) (t : ByteArray) (k : Nat) (mv : Rest) (w : World) (hr : RD w r t k mv) (hk : k < t.size) (ht : t.size ≤ 60) :
    Calls Tryz.prog 177 #[.pointer (some ⟨r, 0, none⟩)] w fun e w' => e = .returned (.int .u8 ((t[k]'hk).toNat : Int)) ∧ ∃ n, w' = w.drewN n := by
  have h0 := hr.c0; have h1 := hr.c1
  have HR : Hid (RD w r t k mv) := hr
  clear hr
  go_enter Tryz.func177, Tryz.ntmps177
  go_wp2_with (go_at_call 114; refine (ended_no r t k mv _ HR.out hk).mono ?_; rintro e w' ⟨rfl, n, rfl⟩)
  go_quiet (fail)
  go_wp2
  go_ret
  exact ⟨rfl, _, by rw [World.drewN_drewN]⟩

set_option maxHeartbeats 400000 in
theorem takes_end (r : Nat) (t : ByteArray) (k : Nat) (mv : Rest) (w : World) (b : Int) (hr : RD w r t k mv) (hk : k = t.size) :
    Calls Tryz.prog 134 #[.pointer (some ⟨r, 0, none⟩), .int .u8 b] w fun e w' => e = .returned (.bool false) ∧ ∃ n, w' = w.drewN n := by
  go_enter Tryz.func134, Tryz.ntmps134
  go_wp2_with (go_at_call 151; refine (sees_end r t k mv _ _ hr hk).mono ?_; rintro e w' ⟨rfl, n, rfl⟩)
  go_ret
  exact ⟨rfl, _, rfl⟩

set_option maxHeartbeats 400000 in
theorem takes_no (r : Nat) (t : ByteArray) (k : Nat) (mv : Rest) (w : World) (b : Int) (hr : RD w r t k mv) (hk : k < t.size) (ht : t.size ≤ 60) (hb : (((t[k]'hk).toNat : Int) == b) = false) :
    Calls Tryz.prog 134 #[.pointer (some ⟨r, 0, none⟩), .int .u8 b] w fun e w' => e = .returned (.bool false) ∧ ∃ n, w' = w.drewN n := by
  go_enter Tryz.func134, Tryz.ntmps134
  go_wp2_with (go_at_call 151; refine (sees_no r t k mv _ _ hr hk ht hb).mono ?_; rintro e w' ⟨rfl, n, rfl⟩)
  go_ret
  exact ⟨rfl, _, rfl⟩

theorem RD.ex {l : List Nat} {w w' : World} {r : Nat} {t : ByteArray} {k : Nat} {mv : Rest} (h : RD w r t k mv) (hx : Ex l w w') (hn : r ∉ l) : RD w' r t k mv := by
  unfold RD; rw [hx.block r h.lt hn]; exact h
theorem RD.alloc {w : World} {r : Nat} {t : ByteArray} {k : Nat} {mv : Rest} (h : RD w r t k mv) (o : Obj) : RD (w.alloc o) r t k mv := h.ex ((Ex.refl [] _).alloc o) (by simp)
theorem RD.set {w : World} {r : Nat} {t : ByteArray} {k : Nat} {mv : Rest} (h : RD w r t k mv) {p : Addr} (hp : r ≠ p.block) (u : Value) : RD (w.setCell p u) r t k mv := by
  unfold RD; rw [Below.heap_setCell _ _ _ _ hp]; exact h
theorem RD.step {w : World} {r : Nat} {t : ByteArray} {k : Nat} {mv : Rest} (h : RD w r t k mv) : RD (w.setCell ⟨r, 1, none⟩ (.int .i64 ((k + 1 : Nat) : Int))) r t (k + 1) mv := by
  unfold RD at h ⊢
  simp [World.setCell, Array.getElem?_modify, h]

theorem RD.f1 {w : World} {r : Nat} {t : ByteArray} {k : Nat} {mv : Rest} (h : RD w r t k mv) : w.frozen? ⟨r, 1, none⟩ = false := by
  unfold RD at h; simp [World.frozen?, h]

theorem RD.grown {w w' : World} {row : Option Nat} {r : Nat} {t : ByteArray} {k : Nat} {mv : Rest} (h : RD w r t k mv) (hg : w.grownBy w' row) (hn : ∀ k, row = some k → r < k) : RD w' r t k mv := by
  unfold RD; rw [hg.block r h.lt (fun e => by have := hn r e.symm; omega)]; exact h

theorem RD.bk {w : World} {r : Nat} {t : ByteArray} {k : Nat} {mv : Rest} (h : RD w r t k mv) : BK w r (.cells #[.string t, .int .i64 k, .int .i64 mv.d, .bool mv.f, .int .i64 mv.g, mv.m] 147 (0, 0)) := h

set_option maxHeartbeats 400000 in
theorem sees_yes (r : Nat) (t : ByteArray) (k : Nat) (mv : Rest) (w : World) (b : Int) (hr : RD w r t k mv) (hk : k < t.size) (ht : t.size ≤ 60) (hb : (((t[k]'hk).toNat : Int) == b) = true) :
    Calls Tryz.prog 151 #[.pointer (some ⟨r, 0, none⟩), .int .u8 b] w fun e w' => e = .returned (.bool true) ∧ ∃ n, w' = w.drewN n := by
  have h0 := hr.c0; have h1 := hr.c1
  have HR : Hid (RD w r t k mv) := hr
  clear hr
  go_enter Tryz.func151, Tryz.ntmps151
  go_wp2
  go_quiet ((go_at_call 114; exact Calls.quiet_of (ended_no r t k mv _ (HR.out.drew _) hk)))
  go_wp2
  go_ret
  exact ⟨by simp, _, rfl⟩

set_option maxHeartbeats 400000 in
theorem takes_yes (r : Nat) (t : ByteArray) (k : Nat) (mv : Rest) (w : World) (b : Int) (hr : RD w r t k mv) (hk : k < t.size) (ht : t.size ≤ 60) (hb : (((t[k]'hk).toNat : Int) == b) = true) :
    Calls Tryz.prog 134 #[.pointer (some ⟨r, 0, none⟩), .int .u8 b] w fun e w' => e = .returned (.bool true) ∧ RD w' r t (k + 1) mv ∧ Ex [r] w w' := by
  have HR : Hid (RD w r t k mv) := hr
  have h1 := hr.c1
  have hf1 := hr.f1
  have hlt := hr.lt
  clear hr
  go_enter Tryz.func134, Tryz.ntmps134
  go_wp2_with (go_at_call 151; refine (sees_yes r t k mv _ _ HR.out hk ht hb).mono ?_; rintro e w' ⟨rfl, n, rfl⟩)
  go_ret
  refine ⟨rfl, ?_, ?_⟩
  · have := (HR.out.drew n).step
    simpa using this
  · exact ((Ex.refl _ _).drewN _).setCell (Or.inl (by simp)) _

set_option maxHeartbeats 400000 in
theorem must_yes (r : Nat) (t : ByteArray) (k : Nat) (mv : Rest) (w : World) (b : Int) (hr : RD w r t k mv) (hk : k < t.size) (ht : t.size ≤ 60) (hb : (((t[k]'hk).toNat : Int) == b) = true) :
    Calls Tryz.prog 132 #[.pointer (some ⟨r, 0, none⟩), .int .u8 b] w fun e w' => e = .returned (.tuple #[]) ∧ RD w' r t (k + 1) mv ∧ Ex [r] w w' := by
  have HR : Hid (RD w r t k mv) := hr
  clear hr
  go_enter Tryz.func132, Tryz.ntmps132
  go_wp2_with (go_at_call 134; refine (takes_yes r t k mv _ _ HR.out hk ht hb).mono ?_; rintro e w' ⟨rfl, h1, h2⟩)
  go_end0
  exact ⟨rfl, h1, h2⟩
end Go.Proofs.YtmeffeigamaipabGreatDoor.G
