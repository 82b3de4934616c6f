/- Contracts of the pattern reader at bytes that stand for themselves: a branch, an expression, the face. -/
import Derived.Test.YtmeffeigamaipaaDoorQ3
import Derived.Deep.LoopGhost
set_option linter.unusedVariables false
set_option linter.unusedSimpArgs false
namespace Go.Proofs.YtmeffeigamaipaaDoor.Q
open Go.RowKit

def partCells (c : Cls) : List Value := [.int .i64 0, .slice none 0 0, .int .u64 c.lo, .int .u64 c.hi, .bool c.hg, .int .i64 0, .int .i64 0, .int .i64 0, .bool false]
def partsL (cs : List Cls) : List Value := cs.flatMap partCells
def clsOf (f : Bool) (l : List UInt8) : List Cls := l.map fun b => sing f (oneC b.toNat)
theorem partsL_snoc (f : Bool) (l : List UInt8) (b : UInt8) : partsL (clsOf f (l ++ [b])) = partsL (clsOf f l) ++ partCells (sing f (oneC b.toNat)) := by
  simp [partsL, clsOf, List.flatMap_append]

set_option maxHeartbeats 1000000 in
set_option maxRecDepth 100000 in
theorem branch_items (r : Nat) (t : ByteArray) (k0 : Nat) (mv : Rest) (l : List UInt8) (w : World) (hr : RD w r t k0 mv) (hd : Items t k0 l) (ht : t.size ≤ 60) (hl : l.length ≤ 60) :
    Calls Tryd.prog 42 #[.pointer (some ⟨r, 0, none⟩)] w fun e w' => ∃ v, e = .returned (partOf 1 v) ∧ w'.ownsRow w.heap.size 59 9 v l.length (partsL (clsOf mv.f l)) ∧ RD w' r t t.size mv ∧ Ex [r] w w' := by
  obtain ⟨i0, hi, hz0, hz1, hz2⟩ := info_parts info71
  have HR := hide hr
  have HD := hide hd
  have hlt := hr.lt
  clear hr hd
  go_enter Tryd.func42, Tryd.ntmps42
  go_wp2_with fail
  go_loopg [3] l.length (fun g v wr => ∃ pre post k, post.length = g ∧ pre ++ post = l ∧ Items t k post ∧ RD wr r t k mv ∧ wr.ownsRow (w.heap.size + 1) 59 9 v pre.length (partsL (clsOf mv.f pre)) ∧ Ex [r] (w.alloc (Obj.cells #[.int .i64 0, .slice none 0 0, .int .u64 0, .int .u64 0, .bool false, .int .i64 0, .int .i64 0, .int .i64 0, .bool false] 59)) wr)
  case atStart => exact ⟨[], l, k0, rfl, rfl, HD.out, HR.out.alloc _, World.ownsRow_nil _ _ _ _, Ex.refl _ _⟩
  case round =>
    obtain ⟨pre, post, k, hk, hpp, hit, hrd, hown, hx⟩ := hrel
    have HW : Hid (RD wr r t k mv) := hrd
    have HI := hide hit
    have HPP := hide hpp
    have HX : Hid (Ex [r] (w.alloc (Obj.cells #[.int .i64 0, .slice none 0 0, .int .u64 0, .int .u64 0, .bool false, .int .i64 0, .int .i64 0, .int .i64 0, .bool false] 59)) wr) := hx
    have hz : w.heap.size < wr.heap.size := by have := hx.size; simp at this; omega
    obtain ⟨hc, hf⟩ := hx.cell1
    have hne : w.heap.size ≠ r := by omega
    clear hrd hx hit hpp
    cases gk with
    | zero =>
      obtain rfl : post = [] := List.length_eq_zero_iff.1 hk
      have HK : Hid (k = t.size) := HI.out
      have HPL : Hid (pre = l) := by show pre = l; have h1 := HPP.out; simpa using h1
      clear hk
      obtain ⟨p3, c3, rfl⟩ := own_slice hown
      go_wp2_with (go_at_call 32; refine (ended_yes r t k mv _ HW.out HK.out).mono ?_; rintro e w1 ⟨rfl, n1, rfl⟩)
      refine bodyPost_ret (v := partOf 1 (.slice p3 pre.length c3)) (by simp [results, Tryd.results42, go_sem, partOf, hc, hne, hz]) rfl ⟨.slice p3 pre.length c3, rfl, ?_, ?_, ?_⟩
      · rw [← HPL.out]
        refine own_base (b := w.heap.size + 1) ?_ (by omega)
        repeat (refine own_set ?_ (by simp) _)
        exact own_drewN hown _
      · rw [← HK.out]
        repeat (refine RD.set ?_ (by simp; omega) _)
        exact HW.out.drew _
      · repeat (refine Ex.setCell ?_ (Or.inr (by simp)) _)
        exact (((Ex.refl _ _).alloc _).trans HX.out).drewN _
    | succ g =>
      obtain ⟨b, post, rfl⟩ : ∃ b p, post = b :: p := by cases post with
        | nil => simp at hk
        | cons b p => exact ⟨b, p, rfl⟩
      have hk2 : k < t.size := HI.out.lt
      have hnx := HI.out.nx
      have HNX := hide hnx
      have hpl : pre.length < l.length := by have h1 := HPP.out; rw [← h1]; simp
      obtain ⟨c, hcc⟩ : ∃ c, sing mv.f (oneC b.toNat) = c := ⟨_, rfl⟩
      have HCC := hide hcc
      have KP := hide (fun w hr => piece_item r t k mv b post w hr HI.out ht)
      rw [hcc] at KP
      clear hnx hcc
      go_wp2_with fail
      refine (ended_no r t k mv _ HW.out hk2).mono ?_
      rintro e w1 ⟨rfl, n1, rfl⟩
      go_wp2_with fail
      refine (sees_nx r t k mv _ 124 (HW.out.drew _) (by omega) ht (fun h => (HNX.out h).2.2.2.2.1) (by decide)).mono ?_
      rintro e w1 ⟨rfl, n2, rfl⟩
      rw [World.drewN_drewN]
      go_wp2_with fail
      refine (sees_nx r t k mv _ 41 (HW.out.drew _) (by omega) ht (fun h => (HNX.out h).2.2.2.2.2) (by decide)).mono ?_
      rintro e w1 ⟨rfl, n3, rfl⟩
      rw [World.drewN_drewN]
      go_wp2_with fail
      refine (KP.out _ (HW.out.drew _)).mono ?_
      rintro e w1 ⟨rfl, ⟨k1, hi1, hr1⟩, hx1⟩
      have HI1 := hide hi1
      clear hi1
      unfold partV
      have hz3 : wr.heap.size ≤ w1.heap.size := hx1.size
      have hown1 := own_ex (own_drewN hown (n1 + n2 + n3)) hx1 (by simp; omega)
      go_wp2_with (at_builtin; refine wpList_append_own _ rfl (.tmp 17) (.tmp 20) 53 rfl (w.heap.size + 1) 59 i0 (partOf 0 (.slice none 0 0)) 9 88 Tryd.underlying53 hi hz0 hz1 hz2 rfl (by decide) u3 pre.length (partsL (clsOf mv.f pre)) rfl (hown1.alloc _) ⟨w1.heap.size, 0, none⟩ 1 1 (partCells c) rfl rfl (cells_new _ _ _) (by simp [partCells, Value.oneCell']) (by unfold maxLen; omega) (by omega) (by simp; omega) ?_)
      intro v' w2 hown2 hg2 _
      go_wp2
      have hob := own_block hown
      go_roundg g
      case measure => omega
      case rel =>
        refine ⟨pre ++ [b], post, k1, by simpa using hk, by simpa using HPP.out, HI1.out, RD.grown (hr1.alloc _) hg2 (fun j hj => by have := hob j hj; omega), ?_, ?_⟩
        · have h1 : partsL (clsOf mv.f (pre ++ [b])) = partsL (clsOf mv.f pre) ++ partCells c := by rw [partsL_snoc, HCC.out]
          rw [h1]
          simpa using hown2
        exact Ex.grown (((HX.out.drewN _).trans hx1).alloc _) hg2 (fun j hj => Or.inr (by have := hob j hj; simp; omega))

set_option maxHeartbeats 1000000 in
set_option maxRecDepth 100000 in
theorem expression_items (r : Nat) (t : ByteArray) (k0 : Nat) (mv : Rest) (l : List UInt8) (w : World) (hr : RD w r t k0 mv) (hd : Items t k0 l) (ht : t.size ≤ 60) (hl : l.length ≤ 60) :
    Calls Tryd.prog 31 #[.pointer (some ⟨r, 0, none⟩)] w fun e w' => ∃ g v, e = .returned (partOf 2 (.slice (some ⟨g, 0, none⟩) 1 1)) ∧ w.heap.size ≤ g ∧ BK w' g (.cells #[.int .i64 1, v, .int .u64 0, .int .u64 0, .bool false, .int .i64 0, .int .i64 0, .int .i64 0, .bool false] 59 (0, 0)) ∧ w'.ownsRow w.heap.size 59 9 v l.length (partsL (clsOf mv.f l)) ∧ RD w' r t t.size mv ∧ Ex [r] w w' := by
  have HR := hide hr
  have HD := hide hd
  have hlt := hr.lt
  clear hr hd
  go_enter Tryd.func31, Tryd.ntmps31
  go_wp2_with fail
  refine (branch_items r t k0 mv l _ (HR.out.alloc _) HD.out ht hl).mono ?_
  rintro e w1 ⟨v, rfl, hown, hr1, hx1⟩
  obtain ⟨p3, c3, rfl⟩ := own_slice hown
  unfold partOf
  have hz : w.heap.size < w1.heap.size := by have := hx1.size; simp at this; omega
  have HX : Hid (Ex [r] (w.alloc (Obj.cells #[.int .i64 0, .slice none 0 0, .int .u64 0, .int .u64 0, .bool false, .int .i64 0, .int .i64 0, .int .i64 0, .bool false] 59)) w1) := hx1
  obtain ⟨hc, hf⟩ := hx1.cell1
  have hne : w.heap.size ≠ r := by omega
  have HR1 : Hid (RD w1 r t t.size mv) := hr1
  clear hx1 hr1
  go_wp2_with fail
  refine wp_loop_rounds 1 ?_
  rw [rounds_succ]
  go_wp2_with (go_at_call 43; refine (takes_end r t t.size mv _ _ (HR1.out.alloc _) rfl).mono ?_; rintro e w2 ⟨rfl, n2, rfl⟩)
  refine bodyPost_ret (v := partOf 2 (.slice (some ⟨w1.heap.size, 0, none⟩) 1 1)) (by simp [results, Tryd.results31, go_sem, partOf, hc, hne, hz]) rfl ⟨w1.heap.size, .slice p3 l.length c3, rfl, by omega, ?_, ?_, ?_, ?_⟩
  · repeat (refine BK.set ?_ (by simp; omega) _)
    exact (BK.new _ _).drewN _
  · refine own_base (b := w.heap.size + 1) ?_ (by omega)
    repeat (refine own_set ?_ (by simp) _)
    have h9 := own_drewN (hown.alloc (Obj.cells #[.int .i64 1, .slice p3 l.length c3, .int .u64 0, .int .u64 0, .bool false, .int .i64 0, .int .i64 0, .int .i64 0, .bool false] 59)) n2
    simp only [World.size_alloc] at h9
    exact h9
  · repeat (refine RD.set ?_ (by simp; omega) _)
    exact (HR1.out.alloc _).drew _
  · repeat (refine Ex.setCell ?_ (Or.inr (by simp)) _)
    exact ((((Ex.refl _ _).alloc _).trans HX.out).alloc _).drewN _
end Go.Proofs.YtmeffeigamaipaaDoor.Q
