/- Q4 Q5 W5, one behind the other. -/
import Derived.Test.YtmeffeigamaipabGreatDoorM38
import Derived.Deep.LoopGhost
import Derived.Test.YtmeffeigamaipabGreatDoorM35
set_option linter.unusedVariables false
set_option linter.unusedSimpArgs false
/- Contracts of the pattern reader at bytes that stand for themselves: a branch, an expression, the face. -/
namespace Go.Proofs.YtmeffeigamaipabGreatDoor.Rx.Q
open Go.RowKit

def partCells (c : Cls) : List Value := [.int .i64 0, .slice none 0 0, .int .u64 c.lo, .int .u64 c.hi, .bool c.hg, .int .i64 0, .int .i64 0, .int .i64 0, .bool false]
def partsL (cs : List Cls) : List Value := cs.flatMap partCells
def clsOf (f : Bool) (l : List UInt8) : List Cls := l.map fun b => sing f (oneC b.toNat)
theorem partsL_snoc (f : Bool) (l : List UInt8) (b : UInt8) : partsL (clsOf f (l ++ [b])) = partsL (clsOf f l) ++ partCells (sing f (oneC b.toNat)) := by
  simp [partsL, clsOf, List.flatMap_append]

set_option maxHeartbeats 1000000 in
set_option maxRecDepth 100000 in
theorem branch_items (r : Nat) (t : ByteArray) (k0 : Nat) (mv : Rest) (l : List UInt8) (w : World) (hr : RD w r t k0 mv) (hd : Items t k0 l) (ht : t.size ≤ 60) (hl : l.length ≤ 60) :
    Calls Tryz.prog 133 #[.pointer (some ⟨r, 0, none⟩)] w fun e w' => ∃ v, e = .returned (partOf 1 v) ∧ w'.ownsRow w.heap.size 143 9 v l.length (partsL (clsOf mv.f l)) ∧ RD w' r t t.size mv ∧ Ex [r] w w' := by
  obtain ⟨i0, hi, hz0, hz1, hz2⟩ := info_parts info71
  have HR := hide hr
  have HD := hide hd
  have hlt := hr.lt
  clear hr hd
  go_enter Tryz.func133, Tryz.ntmps133
  go_wp2_with fail
  go_loopg [3] l.length (fun g v wr => ∃ pre post k, post.length = g ∧ pre ++ post = l ∧ Items t k post ∧ RD wr r t k mv ∧ wr.ownsRow (w.heap.size + 1) 143 9 v pre.length (partsL (clsOf mv.f pre)) ∧ Ex [r] (w.alloc (Obj.cells #[.int .i64 0, .slice none 0 0, .int .u64 0, .int .u64 0, .bool false, .int .i64 0, .int .i64 0, .int .i64 0, .bool false] 143)) wr)
  case atStart => exact ⟨[], l, k0, rfl, rfl, HD.out, HR.out.alloc _, World.ownsRow_nil _ _ _ _, Ex.refl _ _⟩
  case round =>
    obtain ⟨pre, post, k, hk, hpp, hit, hrd, hown, hx⟩ := hrel
    have HW : Hid (RD wr r t k mv) := hrd
    have HI := hide hit
    have HPP := hide hpp
    have HX : Hid (Ex [r] (w.alloc (Obj.cells #[.int .i64 0, .slice none 0 0, .int .u64 0, .int .u64 0, .bool false, .int .i64 0, .int .i64 0, .int .i64 0, .bool false] 143)) wr) := hx
    have hz : w.heap.size < wr.heap.size := by have := hx.size; simp at this; omega
    obtain ⟨hc, hf⟩ := hx.cell1
    have hne : w.heap.size ≠ r := by omega
    clear hrd hx hit hpp
    cases gk with
    | zero =>
      obtain rfl : post = [] := List.length_eq_zero_iff.1 hk
      have HK : Hid (k = t.size) := HI.out
      have HPL : Hid (pre = l) := by show pre = l; have h1 := HPP.out; simpa using h1
      clear hk
      obtain ⟨p3, c3, rfl⟩ := own_slice hown
      go_wp2_with (go_at_call 114; refine (ended_yes r t k mv _ HW.out HK.out).mono ?_; rintro e w1 ⟨rfl, n1, rfl⟩)
      refine bodyPost_ret (v := partOf 1 (.slice p3 pre.length c3)) (by simp [results, Tryz.results133, go_sem, partOf, hc, hne, hz]) rfl ⟨.slice p3 pre.length c3, rfl, ?_, ?_, ?_⟩
      · rw [← HPL.out]
        refine own_base (b := w.heap.size + 1) ?_ (by omega)
        repeat (refine own_set ?_ (by simp) _)
        exact own_drewN hown _
      · rw [← HK.out]
        repeat (refine RD.set ?_ (by simp; omega) _)
        exact HW.out.drew _
      · repeat (refine Ex.setCell ?_ (Or.inr (by simp)) _)
        exact (((Ex.refl _ _).alloc _).trans HX.out).drewN _
    | succ g =>
      obtain ⟨b, post, rfl⟩ : ∃ b p, post = b :: p := by cases post with
        | nil => simp at hk
        | cons b p => exact ⟨b, p, rfl⟩
      have hk2 : k < t.size := HI.out.lt
      have hnx := HI.out.nx
      have HNX := hide hnx
      have hpl : pre.length < l.length := by have h1 := HPP.out; rw [← h1]; simp
      obtain ⟨c, hcc⟩ : ∃ c, sing mv.f (oneC b.toNat) = c := ⟨_, rfl⟩
      have HCC := hide hcc
      have KP := hide (fun w hr => piece_item r t k mv b post w hr HI.out ht)
      rw [hcc] at KP
      clear hnx hcc
      go_wp2_with fail
      refine (ended_no r t k mv _ HW.out hk2).mono ?_
      rintro e w1 ⟨rfl, n1, rfl⟩
      go_wp2_with fail
      refine (sees_nx r t k mv _ 124 (HW.out.drew _) (by omega) ht (fun h => (HNX.out h).2.2.2.2.1) (by decide)).mono ?_
      rintro e w1 ⟨rfl, n2, rfl⟩
      rw [World.drewN_drewN]
      go_wp2_with fail
      refine (sees_nx r t k mv _ 41 (HW.out.drew _) (by omega) ht (fun h => (HNX.out h).2.2.2.2.2) (by decide)).mono ?_
      rintro e w1 ⟨rfl, n3, rfl⟩
      rw [World.drewN_drewN]
      go_wp2_with fail
      refine (KP.out _ (HW.out.drew _)).mono ?_
      rintro e w1 ⟨rfl, ⟨k1, hi1, hr1⟩, hx1⟩
      have HI1 := hide hi1
      clear hi1
      unfold partV
      have hz3 : wr.heap.size ≤ w1.heap.size := hx1.size
      have hown1 := own_ex (own_drewN hown (n1 + n2 + n3)) hx1 (by simp; omega)
      go_wp2_with (at_builtin; refine wpList_append_own _ rfl (.tmp 17) (.tmp 20) 138 rfl (w.heap.size + 1) 143 i0 (partOf 0 (.slice none 0 0)) 9 88 Tryz.underlying138 hi hz0 hz1 hz2 rfl (by decide) u3 pre.length (partsL (clsOf mv.f pre)) rfl (hown1.alloc _) ⟨w1.heap.size, 0, none⟩ 1 1 (partCells c) rfl rfl (cells_new _ _ _) (by simp [partCells, Value.oneCell']) (by unfold maxLen; omega) (by omega) (by simp; omega) ?_)
      intro v' w2 hown2 hg2 _
      go_wp2
      have hob := own_block hown
      go_roundg g
      case measure => omega
      case rel =>
        refine ⟨pre ++ [b], post, k1, by simpa using hk, by simpa using HPP.out, HI1.out, RD.grown (hr1.alloc _) hg2 (fun j hj => by have := hob j hj; omega), ?_, ?_⟩
        · have h1 : partsL (clsOf mv.f (pre ++ [b])) = partsL (clsOf mv.f pre) ++ partCells c := by rw [partsL_snoc, HCC.out]
          rw [h1]
          simpa using hown2
        exact Ex.grown (((HX.out.drewN _).trans hx1).alloc _) hg2 (fun j hj => Or.inr (by have := hob j hj; simp; omega))

set_option maxHeartbeats 1000000 in
set_option maxRecDepth 100000 in
theorem expression_items (r : Nat) (t : ByteArray) (k0 : Nat) (mv : Rest) (l : List UInt8) (w : World) (hr : RD w r t k0 mv) (hd : Items t k0 l) (ht : t.size ≤ 60) (hl : l.length ≤ 60) :
    Calls Tryz.prog 113 #[.pointer (some ⟨r, 0, none⟩)] w fun e w' => ∃ g v, e = .returned (partOf 2 (.slice (some ⟨g, 0, none⟩) 1 1)) ∧ w.heap.size ≤ g ∧ BK w' g (.cells #[.int .i64 1, v, .int .u64 0, .int .u64 0, .bool false, .int .i64 0, .int .i64 0, .int .i64 0, .bool false] 143 (0, 0)) ∧ w'.ownsRow w.heap.size 143 9 v l.length (partsL (clsOf mv.f l)) ∧ RD w' r t t.size mv ∧ Ex [r] w w' := by
  have HR := hide hr
  have HD := hide hd
  have hlt := hr.lt
  clear hr hd
  go_enter Tryz.func113, Tryz.ntmps113
  go_wp2_with fail
  refine (branch_items r t k0 mv l _ (HR.out.alloc _) HD.out ht hl).mono ?_
  rintro e w1 ⟨v, rfl, hown, hr1, hx1⟩
  obtain ⟨p3, c3, rfl⟩ := own_slice hown
  unfold partOf
  have hz : w.heap.size < w1.heap.size := by have := hx1.size; simp at this; omega
  have HX : Hid (Ex [r] (w.alloc (Obj.cells #[.int .i64 0, .slice none 0 0, .int .u64 0, .int .u64 0, .bool false, .int .i64 0, .int .i64 0, .int .i64 0, .bool false] 143)) w1) := hx1
  obtain ⟨hc, hf⟩ := hx1.cell1
  have hne : w.heap.size ≠ r := by omega
  have HR1 : Hid (RD w1 r t t.size mv) := hr1
  clear hx1 hr1
  go_wp2_with fail
  refine wp_loop_rounds 1 ?_
  rw [rounds_succ]
  go_wp2_with (go_at_call 134; refine (takes_end r t t.size mv _ _ (HR1.out.alloc _) rfl).mono ?_; rintro e w2 ⟨rfl, n2, rfl⟩)
  refine bodyPost_ret (v := partOf 2 (.slice (some ⟨w1.heap.size, 0, none⟩) 1 1)) (by simp [results, Tryz.results113, go_sem, partOf, hc, hne, hz]) rfl ⟨w1.heap.size, .slice p3 l.length c3, rfl, by omega, ?_, ?_, ?_, ?_⟩
  · repeat (refine BK.set ?_ (by simp; omega) _)
    exact (BK.new _ _).drewN _
  · refine own_base (b := w.heap.size + 1) ?_ (by omega)
    repeat (refine own_set ?_ (by simp) _)
    have h9 := own_drewN (hown.alloc (Obj.cells #[.int .i64 1, .slice p3 l.length c3, .int .u64 0, .int .u64 0, .bool false, .int .i64 0, .int .i64 0, .int .i64 0, .bool false] 143)) n2
    simp only [World.size_alloc] at h9
    exact h9
  · repeat (refine RD.set ?_ (by simp; omega) _)
    exact (HR1.out.alloc _).drew _
  · repeat (refine Ex.setCell ?_ (Or.inr (by simp)) _)
    exact ((((Ex.refl _ _).alloc _).trans HX.out).alloc _).drewN _
end Go.Proofs.YtmeffeigamaipabGreatDoor.Rx.Q

/- Contracts of the pattern reader at bytes that stand for themselves: the mark ahead of all, the face. -/
namespace Go.Proofs.YtmeffeigamaipabGreatDoor.Rx.Q
open Go.RowKit

/-- What the mark leaves to be read. -/
def FM (t : ByteArray) (f : Bool) (l : List UInt8) : Prop := ∃ k0, Items t k0 l ∧ ∀ (r : Nat) (m : Value) (w : World), RD w r t 0 ⟨0, false, 0, m⟩ →
  Calls Tryz.prog 112 #[.pointer (some ⟨r, 0, none⟩)] w fun e w' => e = .returned (.tuple #[]) ∧ RD w' r t k0 ⟨0, f, 0, m⟩ ∧ Ex [r] w w'

set_option maxHeartbeats 400000 in
theorem foldMark_no (t : ByteArray) (l : List UInt8) (hp : Lib.hasPrefix t.data.toList [40, 63, 105] = false) (hi : Items t 0 l) : FM t false l := by
  refine ⟨0, hi, fun r m w hr => ?_⟩
  have h0 := hr.c0
  have HR := hide hr
  clear hr
  go_enter Tryz.func112, Tryz.ntmps112
  go_wp2_with (go_at_call 131; refine (Tryz.strings_HasPrefix _ _ _).mono ?_; rintro e w' ⟨rfl, rfl⟩)
  go_end0
  exact ⟨rfl, HR.out, Ex.refl _ _⟩

theorem RD.at3 {w : World} {r : Nat} {t : ByteArray} {k : Nat} {mv : Rest} (h : RD w r t k mv) : RD (w.setCell ⟨r, 1, none⟩ (.int .i64 3)) r t 3 mv := by
  unfold RD at h ⊢
  simp [World.setCell, Array.getElem?_modify, h]
theorem RD.fold {w : World} {r : Nat} {t : ByteArray} {k : Nat} {d g : Nat} {f : Bool} {m : Value} (h : RD w r t k ⟨d, f, g, m⟩) : RD (w.setCell ⟨r, 3, none⟩ (.bool true)) r t k ⟨d, true, g, m⟩ := by
  unfold RD at h ⊢
  simp [World.setCell, Array.getElem?_modify, h]

set_option maxHeartbeats 400000 in
theorem foldMark_yes (t : ByteArray) (l : List UInt8) (hp : Lib.hasPrefix t.data.toList [40, 63, 105] = true) (h3 : 3 < t.size) (h41 : (t[3]'h3) = 41) (ht : t.size ≤ 60) (hi : Items t 4 l) : FM t true l := by
  refine ⟨4, hi, fun r m w hr => ?_⟩
  obtain ⟨hcR, hfR⟩ := hr.bk.all
  have hlt := hr.lt
  have HR := hide hr
  have H41 := hide h41
  clear hr h41
  go_enter Tryz.func112, Tryz.ntmps112
  go_wp2_with (go_at_call 131; refine (Tryz.strings_HasPrefix _ _ _).mono ?_; rintro e w' ⟨rfl, rfl⟩)
  refine (must_yes r t 3 ⟨0, false, 0, m⟩ _ _ HR.out.at3 h3 ht (by rw [H41.out]; rfl)).mono ?_
  rintro e w1 ⟨rfl, hr1, hx1⟩
  obtain ⟨hc1, hf1⟩ := hr1.bk.all
  have hl1 := hr1.lt
  have HR1 := hide hr1
  have HX1 := hide hx1
  clear hr1 hx1 hcR hfR
  go_wp2_with fail
  go_end0
  exact ⟨rfl, HR1.out.fold, (((Ex.refl _ _).setCell (Or.inl (by simp)) _).trans HX1.out).setCell (Or.inl (by simp)) _⟩

set_option maxHeartbeats 1000000 in
set_option maxRecDepth 100000 in
theorem readForm_items (t : ByteArray) (f : Bool) (l : List UInt8) (w : World) (hfm : FM t f l) (ht : t.size ≤ 60) (hl : l.length ≤ 60) :
    Calls Tryz.prog 80 #[.string t] w fun e w' => ∃ r g v mb, e = .returned (.tuple #[.pointer (some ⟨r, 0, none⟩), partOf 2 (.slice (some ⟨g, 0, none⟩) 1 1), .bool true]) ∧ w.heap.size ≤ r ∧ w.heap.size ≤ g ∧ BK w' g (.cells #[.int .i64 1, v, .int .u64 0, .int .u64 0, .bool false, .int .i64 0, .int .i64 0, .int .i64 0, .bool false] 143 (0, 0)) ∧ w'.ownsRow w.heap.size 143 9 v l.length (partsL (clsOf f l)) ∧ RD w' r t t.size ⟨0, f, 0, .map (some mb)⟩ ∧ Ex [] w w' := by
  have hmf : ∀ (fn : Fn) (first cap : Array Value) (w : World), (Instr.makeFunc fn first cap).run Tryz.prog w = .ok (.func fn first cap) w := fun _ _ _ _ => rfl
  have hmm := @run_makeMap Tryz.prog
  obtain ⟨k0, hit, hfm⟩ := hfm
  have HF := hide hfm
  have HI := hide hit
  clear hfm hit
  have HR : ∀ (w : World) (mv : Value), Hid (RD (w.alloc (Obj.cells #[.string t, .int .i64 0, .int .i64 0, .bool false, .int .i64 0, mv] 147)) w.heap.size t 0 ⟨0, false, 0, mv⟩) := fun w mv => heap_alloc_new w _
  go_enter_defers Tryz.func80, Tryz.ntmps80
  go_wp2_with fail
  refine (HF.out (w.heap.size + 1 + 1 + 1) (.map (some (w.heap.size + 1 + 1))) _ (by have := (HR (((w.alloc (Obj.cells #[.int .i64 0, .slice none 0 0, .int .u64 0, .int .u64 0, .bool false, .int .i64 0, .int .i64 0, .int .i64 0, .bool false] 143)).alloc (Obj.cells #[.bool false] 4)).alloc (Obj.map #[] 0)) (.map (some (w.heap.size + 1 + 1)))).out; simpa using this)).mono ?_
  rintro e w0 ⟨rfl, hr0, hx0⟩
  have hA0 : BK w0 w.heap.size (.cells #[.int .i64 0, .slice none 0 0, .int .u64 0, .int .u64 0, .bool false, .int .i64 0, .int .i64 0, .int .i64 0, .bool false] 143) := ((((BK.new _ _).alloc _).alloc _).alloc _).ex hx0 (by simp; omega)
  have hB0 : BK w0 (w.heap.size + 1) (.cells #[.bool false] 4) := (((by simpa using BK.new (w.alloc (Obj.cells #[.int .i64 0, .slice none 0 0, .int .u64 0, .int .u64 0, .bool false, .int .i64 0, .int .i64 0, .int .i64 0, .bool false] 143)) (.cells #[.bool false] 4) : BK _ _ _).alloc _).alloc _).ex hx0 (by simp)
  have hz0 : w.heap.size + 1 + 1 + 1 < w0.heap.size := by have := hx0.size; simp at this; omega
  have HX0 : Hid (Ex [w.heap.size + 1 + 1 + 1] w w0) := ((((((Ex.refl _ _).alloc _).alloc _).alloc _).alloc _)).trans hx0
  have HR0 := hide hr0
  have HA0 := hide hA0
  have HB0 := hide hB0
  clear hr0 hx0 hA0 hB0 HR
  go_wp2_with fail
  refine (expression_items (w.heap.size + 1 + 1 + 1) t k0 ⟨0, f, 0, .map (some (w.heap.size + 1 + 1))⟩ l _ HR0.out HI.out ht hl).mono ?_
  rintro e w1 ⟨g, v, rfl, hg, hbk, hown, hr1, hx1⟩
  have HX := hide hx1
  have HB := hide hbk
  have HO := hide hown
  have HR1 := hide hr1
  have hz : w.heap.size + 1 + 1 + 1 < w1.heap.size := by have := hx1.size; omega
  have hA := HA0.out.ex hx1 (by simp; omega)
  have hB := HB0.out.ex hx1 (by simp)
  obtain ⟨hcA, hfA⟩ := hA.all
  obtain ⟨hcB, hfB⟩ := hB.all
  have HA := hide hA
  have HBB := hide hB
  clear hx1 hbk hown hr1 hA hB
  unfold partOf
  go_wp2_with fail
  refine (ended_yes (w.heap.size + 1 + 1 + 1) t t.size ⟨0, f, 0, .map (some (w.heap.size + 1 + 1))⟩ _ (by (repeat (refine RD.set ?_ (by simp; omega) _)); exact HR1.out) rfl).mono ?_
  rintro e w2 ⟨rfl, n2, hw2⟩
  have hA2 : BK w2 w.heap.size (.cells #[.int .i64 2, .slice (some ⟨g, 0, none⟩) 1 1, .int .u64 0, .int .u64 0, .bool false, .int .i64 0, .int .i64 0, .int .i64 0, .bool false] 143) := by
    have h := BK.fill9 (unhide HA) rfl (.int .i64 2) (.slice (some ⟨g, 0, none⟩) 1 1) (.int .u64 0) (.int .u64 0) (.bool false) (.int .i64 0) (.int .i64 0) (.int .i64 0) (.bool false)
    rw [hw2]; exact BK.drewN h _
  have hx2 : Ex [w.heap.size] w1 w2 := by rw [hw2]; exact (Ex.fill9 _ _ _ _ _ _ _ _ _ _ _).drewN _
  clear hw2 hcA hfA hcB hfB
  have HX2 := hide hx2
  have HB2 := hide ((unhide HB).ex hx2 (by simp; omega))
  have HO2 := hide (own_ex (unhide HO) hx2 (by simp; omega))
  have HR2 := hide ((unhide HR1).ex hx2 (by simp; omega))
  have hB2 := (unhide HBB).ex hx2 (by simp)
  obtain ⟨hcA, hfA⟩ := hA2.all
  obtain ⟨hcB, hfB⟩ := hB2.all
  have HA2 := hide hA2
  have HBB2 := hide hB2
  clear hA2 hB2 hx2 HB HO HR1 HA HBB
  go_wp2_with fail
  go_region
  go_wp2_with fail
  refine leaves_cons (f := 111) (args := #[.pointer (some ⟨w.heap.size, 0, none⟩), .pointer (some ⟨w.heap.size + 1, 0, none⟩)]) (by simp) (by simp [go_sem]) ?_
  refine (catch_idle ⟨w.heap.size, 0, none⟩ ⟨w.heap.size + 1, 0, none⟩ _).mono ?_
  rintro e u' w3 ⟨rfl, rfl, hw3⟩
  have hA3 : BK w3 w.heap.size (.cells #[.int .i64 2, .slice (some ⟨g, 0, none⟩) 1 1, .int .u64 0, .int .u64 0, .bool false, .int .i64 0, .int .i64 0, .int .i64 0, .bool false] 143) := by
    have h := BK.fill9 (unhide HA2) rfl (.int .i64 2) (.slice (some ⟨g, 0, none⟩) 1 1) (.int .u64 0) (.int .u64 0) (.bool false) (.int .i64 0) (.int .i64 0) (.int .i64 0) (.bool false)
    rw [hw3]; exact BK.drew (BK.set h (by simp) _)
  have hB3 : BK w3 (w.heap.size + 1) (.cells #[.bool true] 4) := by
    have h := BK.ex (unhide HBB2) (Ex.fill9 w2 w.heap.size (.int .i64 2) (.slice (some ⟨g, 0, none⟩) 1 1) (.int .u64 0) (.int .u64 0) (.bool false) (.int .i64 0) (.int .i64 0) (.int .i64 0) (.bool false)) (by simp)
    have h' := BK.self h 0 (.bool true)
    simp only [List.setIfInBounds_toArray, List.set_cons_zero] at h'
    rw [hw3]; exact BK.drew h'
  have hx3 : Ex [w.heap.size, w.heap.size + 1] w2 w3 := by
    rw [hw3]
    refine Ex.drew (Ex.setCell ?_ (Or.inl (by simp)) _)
    exact (Ex.fill9 w2 w.heap.size (.int .i64 2) (.slice (some ⟨g, 0, none⟩) 1 1) (.int .u64 0) (.int .u64 0) (.bool false) (.int .i64 0) (.int .i64 0) (.int .i64 0) (.bool false)).drop (by simp)
  clear hw3 hcA hfA hcB hfB
  obtain ⟨hcA, hfA⟩ := hA3.all
  obtain ⟨hcB, hfB⟩ := hB3.all
  refine ⟨.tuple #[.pointer (some ⟨w.heap.size + 1 + 1 + 1, 0, none⟩), partOf 2 (.slice (some ⟨g, 0, none⟩) 1 1), .bool true], ?_, w.heap.size + 1 + 1 + 1, g, v, w.heap.size + 1 + 1, rfl, by omega, by omega, ?_, ?_, ?_, ?_⟩
  · simp [results, Tryz.results80, go_sem, hcA, hcB, partOf]
  · exact (unhide HB2).ex hx3 (by simp; omega)
  · exact own_base (own_ex (unhide HO2) hx3 (by simp; omega)) (by omega)
  · exact (unhide HR2).ex hx3 (by simp; omega)
  · refine Ex.drop (l := [w.heap.size + 1 + 1 + 1, w.heap.size, w.heap.size + 1]) ?_ (by simp; omega)
    exact ((HX0.out.drop (by simp)).trans ((unhide HX).drop (by simp))).trans (((unhide HX2).drop (by simp)).trans (hx3.drop (by simp)))
end Go.Proofs.YtmeffeigamaipabGreatDoor.Rx.Q

/- Contracts of the weight, at what the reader made of dots. -/
namespace Go.Proofs.YtmeffeigamaipabGreatDoor.Rx
open Go.RowKit

set_option maxHeartbeats 1000000 in
set_option maxRecDepth 100000 in
theorem weight_single (w : World) :
    Calls Tryz.prog 81 #[dotPart] w fun e w' => e = .returned (.int .i64 1) ∧ Ex [] w w' := by
  unfold dotPart
  go_enter Tryz.func81, Tryz.ntmps81
  go_wp2_with fail
  refine wp_loop_rounds 1 ?_
  rw [rounds_succ]
  go_wp2_with fail
  go_ret
  exact ⟨rfl, (Ex.refl _ _).alloc _⟩

theorem dots_at (n j o : Nat) (hj : j < n) (ho : o < 9) : (dots n)[j * 9 + o]? = dotCells[o]? := by
  induction n with
  | zero => omega
  | succ n ih =>
    rw [dots]
    by_cases h : j < n
    · rw [List.getElem?_append_left (by rw [dots_len]; omega)]
      exact ih h
    · have : j = n := by omega
      subst this
      rw [List.getElem?_append_right (by rw [dots_len]; omega), dots_len]
      congr 1
      omega

/-- The cells of the j-th part of a row of dots. -/
theorem own_dot {w : World} {base n j : Nat} {v : Value} (h : w.ownsRow base 143 9 v n (dots n)) (hj : j < n) :
    ∃ g c, v = .slice (some ⟨g, 0, none⟩) n c ∧ base ≤ g ∧ n ≤ c ∧ ∀ o, o < 9 → w.cell? ⟨g, j * 9 + o, none⟩ = dotCells[o]? := by
  rcases h.2 with ⟨_, hn⟩ | ⟨g, cap, cur, rfl, hb, hgg, hnc, hcm, hcs, htake⟩
  · omega
  · refine ⟨g, cap, rfl, hb, hnc, fun o ho => ?_⟩
    rw [cell_of_row w g _ cur 143 (0, 0) hgg, ← dots_at n j o hj ho, ← htake, List.getElem?_take, if_pos (by omega)]
    simp

set_option maxHeartbeats 1000000 in
set_option maxRecDepth 100000 in
theorem weight_seq (v : Value) (n base : Nat) (w : World) (hown : w.ownsRow base 143 9 v n (dots n)) (hn : n ≤ 60) (hb : base ≤ w.heap.size) :
    Calls Tryz.prog 81 #[partOf 1 v] w fun e w' => e = .returned (.int .i64 n) ∧ Ex [] w w' := by
  obtain ⟨p, c, rfl⟩ := own_slice hown
  have HO := hide hown
  clear hown
  unfold partOf
  go_enter Tryz.func81, Tryz.ntmps81
  go_wp2_with fail
  go_loopg [3, 9] n (fun gk s i wr => ∃ j : Nat, j + gk = n ∧ s = .int .i64 j ∧ i = .int .i64 j ∧ Ex [] (w.alloc (Obj.cells #[.int .i64 1, .slice p n c, .int .u64 0, .int .u64 0, .bool false, .int .i64 0, .int .i64 0, .int .i64 0, .bool false] 143)) wr)
  case atStart => exact ⟨0, by omega, rfl, rfl, Ex.refl _ _⟩
  case round =>
    obtain ⟨j, hj, rfl, rfl, hx⟩ := hrel
    have HX := hide hx
    have hA : BK wr w.heap.size (.cells #[.int .i64 1, .slice p n c, .int .u64 0, .int .u64 0, .bool false, .int .i64 0, .int .i64 0, .int .i64 0, .bool false] 143) := (BK.new _ _).ex hx (by simp)
    obtain ⟨hcA, hfA⟩ := hA.all
    cases gk with
    | zero =>
      obtain rfl : j = n := by omega
      clear hx hA hj
      go_wp2_with fail
      go_ret
      exact ⟨by simp, ((Ex.refl _ _).alloc _).trans HX.out⟩
    | succ g =>
      have hj' : ((j : Int) < (n : Int)) := by omega
      obtain ⟨g1, c1, hv, hg1, hnc, hcell⟩ := own_dot (own_ex (HO.out.alloc _) hx (by simp)) (show j < n by omega)
      simp only [Value.slice.injEq, true_and] at hv
      obtain ⟨rfl, rfl⟩ := hv
      clear hx hA
      have k0 := hcell 0 (by omega); have k1 := hcell 1 (by omega); have k2 := hcell 2 (by omega); have k3 := hcell 3 (by omega); have k4 := hcell 4 (by omega)
      have k5 := hcell 5 (by omega); have k6 := hcell 6 (by omega); have k7 := hcell 7 (by omega); have k8 := hcell 8 (by omega)
      simp only [dotCells, List.getElem?_cons_zero, List.getElem?_cons_succ, Nat.add_zero] at k0 k1 k2 k3 k4 k5 k6 k7 k8
      clear hcell
      go_wp2_with fail
      refine (weight_single _).mono ?_
      rintro e w1 ⟨rfl, hx1⟩
      have HX1 := hide hx1
      clear hx1 k0 k1 k2 k3 k4 k5 k6 k7 k8
      go_wp2_with fail
      go_roundg g
      case measure => omega
      case rel => exact ⟨j + 1, by omega, by simp, by simp, (HX.out.alloc _).trans HX1.out⟩

set_option maxHeartbeats 1000000 in
set_option maxRecDepth 100000 in
theorem weight_choice (v : Value) (n base g : Nat) (w : World) (hown : w.ownsRow base 143 9 v n (dots n)) (hn : n ≤ 60) (hb : base ≤ w.heap.size)
    (hg : BK w g (.cells #[.int .i64 1, v, .int .u64 0, .int .u64 0, .bool false, .int .i64 0, .int .i64 0, .int .i64 0, .bool false] 143 (0, 0))) :
    Calls Tryz.prog 81 #[partOf 2 (.slice (some ⟨g, 0, none⟩) 1 1)] w fun e w' => e = .returned (.int .i64 n) ∧ Ex [] w w' := by
  obtain ⟨p, c, rfl⟩ := own_slice hown
  have HO := hide hown
  have hgl := hg.lt
  obtain ⟨hcG, hfG⟩ := hg.all
  clear hown hg
  unfold partOf
  go_enter Tryz.func81, Tryz.ntmps81
  go_wp2_with fail
  refine wp_loop_rounds 2 ?_
  rw [rounds_succ]
  go_wp2_with fail
  refine (weight_seq _ n base _ ((HO.out.alloc _).alloc _) hn (by simp; omega)).mono ?_
  rintro e w1 ⟨rfl, hx1⟩
  have HX1 := hide hx1
  have hA := BK.ex ((BK.new w (Obj.cells #[.int .i64 2, .slice (some ⟨g, 0, none⟩) 1 1, .int .u64 0, .int .u64 0, .bool false, .int .i64 0, .int .i64 0, .int .i64 0, .bool false] 143)).alloc _) hx1 (by simp)
  obtain ⟨hcA, hfA⟩ := hA.all
  clear hx1 hA
  go_wp2_with fail
  rw [rounds_succ]
  go_wp2_with fail
  go_ret
  exact ⟨by simp, (((Ex.refl _ _).alloc _).alloc _).trans HX1.out⟩
end Go.Proofs.YtmeffeigamaipabGreatDoor.Rx
