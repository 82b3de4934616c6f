/- Contracts of Open, Cached, Flush and Load, as far as the count of what is remembered asks. -/
import Derived.Test.YtmeffeigamaipabGreatDoorD8
set_option linter.unusedVariables false
set_option linter.unusedSimpArgs false
namespace Go.Proofs.YtmeffeigamaipabGreatDoor
open Go.RowKit

/-- What a cache counts as. -/
def roomOf (c : Int) : Nat := (max 1 (min c 50)).toNat

set_option maxHeartbeats 1000000 in
set_option maxRecDepth 100000 in
theorem new_any (room : Nat) (w : World) (h1 : 1 ≤ room) (h50 : room ≤ 50) :
    Calls Tryz.prog 30 #[.int .i64 room] w fun x w' => x = .returned (.pointer (some ⟨w.heap.size + 1, 0, none⟩)) ∧
      w' = (w.alloc (.map #[] 0)).alloc (.cells #[.map (some w.heap.size), .slice none 0 0, .int .i64 room] 94) := by
  have hmm := @run_makeMap Tryz.prog
  go_enter Tryz.func30, Tryz.ntmps30
  go_wp2_with fail
  go_ret
  exact ⟨by simp, rfl⟩

set_option maxHeartbeats 1000000 in
set_option maxRecDepth 100000 in
theorem open_any (R : List Value → List Lab → Bool → Prop) (c : Int) (w : World) :
    Calls Tryz.prog 11 #[.int .i64 c] w fun x w' => ∃ e m mb, x = .returned (.pointer (some ⟨e, 0, none⟩)) ∧ EN R w' e m mb w'.heap.size (roomOf c) (.slice none 0 0) [] (.slice none 0 0) #[] 0 ∧ Ex [] w w' ∧ w.heap.size ≤ e ∧ w.heap.size ≤ m ∧ w.heap.size ≤ mb := by
  have h1 : 1 ≤ roomOf c := by unfold roomOf; omega
  have h50 : roomOf c ≤ 50 := by unfold roomOf; omega
  have hc : max 1 (min c 50) = (roomOf c : Int) := by unfold roomOf; omega
  obtain ⟨r, hr⟩ : ∃ r, roomOf c = r := ⟨_, rfl⟩
  rw [hr] at h1 h50 hc
  have HR := hide hr
  clear hr
  go_enter Tryz.func11, Tryz.ntmps11
  go_wp2_with fail
  refine (new_any r w h1 h50).mono ?_
  rintro x w1 ⟨rfl, hw1⟩
  have hx1 : Ex [] w w1 := by rw [hw1]; exact ((Ex.refl _ _).alloc _).alloc _
  have hmap : BK w1 w.heap.size (.map #[] 0) := by rw [hw1]; exact (BK.new _ _).alloc _
  have hmem : BK w1 (w.heap.size + 1) (.cells #[.map (some w.heap.size), .slice none 0 0, .int .i64 r] 94 (0, 0)) := by
    have h := BK.new (w.alloc (.map #[] 0)) (.cells #[.map (some w.heap.size), .slice none 0 0, .int .i64 r] 94)
    simp only [World.size_alloc] at h
    rw [hw1]; exact h
  have hz : w1.heap.size = w.heap.size + 2 := by rw [hw1]; simp
  have HX := hide hx1
  have HMP := hide hmap
  have HMM := hide hmem
  have HZ := hide hz
  clear hw1 hx1 hmap hmem hz hc
  go_wp2_with fail
  go_ret
  have hz := unhide HZ
  refine ⟨w1.heap.size, w.heap.size + 1, w.heap.size, rfl, ⟨BK.new _ _, ?_, by simp, by omega, by omega⟩, HX.out.alloc _, by omega, by omega, by omega⟩
  rw [unhide HR]
  exact ⟨HMM.out.alloc _, HMP.out.alloc _, World.ownsRow_nil _ _ _ _, by simp, fun e he => by simp at he, fun S hS => by simp at hS, by simp, by simp, h1, h50, by simp; omega, by simp; omega, by omega, by simp⟩

set_option maxHeartbeats 1000000 in
set_option maxRecDepth 100000 in
theorem cached_any (R : List Value → List Lab → Bool → Prop) (e m mb base room : Nat) (rv : Value) (ts : List (List Value)) (tv : Value) (es : Array MapEntry) (clk : Nat) (w : World) (he : EN R w e m mb base room rv ts tv es clk) :
    Calls Tryz.prog 29 #[.pointer (some ⟨e, 0, none⟩)] w fun x w' => x = .returned (.int .i64 ts.length) ∧ w' = w := by
  obtain ⟨hce, hfe⟩ := he.blk.all
  have hel := he.blk.lt
  have hcount : Calls Tryz.prog 38 #[.pointer (some ⟨m, 0, none⟩)] w fun x w' => x = .returned (.int .i64 ts.length) ∧ w' = w := by
    obtain ⟨hcm, hfm⟩ := he.mem.blk.all
    have hml := he.mem.blk.lt
    have hsz := he.mem.size
    have hmap := he.mem.map
    have hlen : ∀ ty, (Builtin.len_ #[91] ty #[.map (some mb)]).run Tryz.prog w = .ok (.int .i64 ts.length) w := fun ty => by
      unfold Builtin.len_
      simp [MapKept.run_getObj_map hmap, hsz, goInt]
    clear hce hfe hel he hsz hmap
    go_enter Tryz.func38, Tryz.ntmps38
    go_wp2_with fail
    go_ret
    exact ⟨rfl, rfl⟩
  have HC := hide hcount
  clear hcount he
  go_enter Tryz.func29, Tryz.ntmps29
  go_wp2_with fail
  refine HC.out.mono ?_
  rintro x w' ⟨rfl, rfl⟩
  go_wp2_with fail
  go_ret
  exact ⟨rfl, rfl⟩

/-- What is left of a memory that was emptied. -/
theorem MM.empty {R : List Value → List Lab → Bool → Prop} {w : World} {m mb base room : Nat} {ts : List (List Value)} {tv : Value} {es : Array MapEntry} {clk : Nat} (h : MM R w m mb base room ts tv es clk) :
    MM R ((putB w mb (.map #[] clk)).setCell ⟨m, 1, none⟩ (.slice none 0 0)) m mb base room [] (.slice none 0 0) #[] clk := by
  refine ⟨?_, (putB_bk h.map).set (by simpa using Ne.symm h.ne) _, World.ownsRow_nil _ _ _ _, by simp, fun e he => by simp at he, fun S hS => by simp at hS, by simp, by simp, h.room1, h.room50, h.mlt, h.mblt, h.ne, ?_⟩
  · have := (h.blk.putB (o := .map #[] clk) h.ne).self 1 (.slice none 0 0)
    simpa using this
  · simpa [putB_size] using h.le

set_option maxHeartbeats 1000000 in
set_option maxRecDepth 100000 in
theorem forget_any (R : List Value → List Lab → Bool → Prop) (m mb base room : Nat) (ts : List (List Value)) (tv : Value) (es : Array MapEntry) (clk : Nat) (w : World) (hm : MM R w m mb base room ts tv es clk) :
    Calls Tryz.prog 35 #[.pointer (some ⟨m, 0, none⟩)] w fun x w' => x = .returned (.tuple #[]) ∧ MM R w' m mb base room [] (.slice none 0 0) #[] clk ∧ Ex [m, mb] w w' := by
  have HM := hide hm
  obtain ⟨hcm, hfm⟩ := hm.blk.all
  have hml := hm.blk.lt
  have hcl := clear_map (w := w) 0 hm.map
  have hb1 := hm.blk.putB (o := .map #[] clk) hm.ne
  obtain ⟨w1, hw1⟩ : ∃ w1, w1 = putB w mb (.map #[] clk) := ⟨_, rfl⟩
  have HW1 := hide hw1
  rw [← hw1] at hcl hb1
  obtain ⟨hcm1, hfm1⟩ := hb1.all
  have hml1 := hb1.lt
  clear hm hw1 hb1
  go_enter Tryz.func35, Tryz.ntmps35
  go_wp2_with (at_builtin; refine wpList_clear_run _ rfl _ 91 rfl _ rfl hcl ?_)
  go_end0
  rw [unhide HW1]
  exact ⟨rfl, HM.out.empty, ((putB_ex w mb _).drop (fun x hx _ => by simp at hx; simp [hx])).setCell (.inl (by simp)) _⟩

set_option maxHeartbeats 1000000 in
set_option maxRecDepth 100000 in
theorem flush_any (R : List Value → List Lab → Bool → Prop) (e m mb base room : Nat) (rv : Value) (ts : List (List Value)) (tv : Value) (es : Array MapEntry) (clk : Nat) (w : World) (he : EN R w e m mb base room rv ts tv es clk) :
    Calls Tryz.prog 16 #[.pointer (some ⟨e, 0, none⟩)] w fun x w' => x = .returned (.tuple #[]) ∧ EN R w' e m mb base room rv [] (.slice none 0 0) #[] clk ∧ Ex [m, mb] w w' := by
  have HE := hide he
  obtain ⟨hce, hfe⟩ := he.blk.all
  have hel := he.blk.lt
  clear he
  go_enter Tryz.func16, Tryz.ntmps16
  go_wp2_with fail
  refine (forget_any R m mb base room ts tv es clk w HE.out.mem).mono ?_
  rintro x w1 ⟨rfl, hm1, hx1⟩
  have HM1 := hide hm1
  have HX1 := hide hx1
  clear hm1 hx1 hce hfe
  go_wp2_with fail
  go_end0
  exact ⟨rfl, ⟨HE.out.blk.ex HX1.out (by simp [HE.out.nem, HE.out.nemb]), HM1.out, HE.out.lt, HE.out.nem, HE.out.nemb⟩, HX1.out⟩

set_option maxHeartbeats 1000000 in
set_option maxRecDepth 100000 in
theorem load_none (R : List Value → List Lab → Bool → Prop) (e m mb base room : Nat) (rv : Value) (ts : List (List Value)) (tv : Value) (es : Array MapEntry) (clk : Nat) (w : World) (he : EN R w e m mb base room rv ts tv es clk) :
    Calls Tryz.prog 15 #[.pointer (some ⟨e, 0, none⟩), .slice none 0 0] w fun x w' => x = .returned (.tuple #[.int .i64 0, .int .i64 0, .int .i64 0]) ∧ EN R w' e m mb base room (.slice none 0 0) [] (.slice none 0 0) #[] clk ∧ Ex [e, m, mb] w w' := by
  have HE := hide he
  obtain ⟨hce, hfe⟩ := he.blk.all
  have hel := he.blk.lt
  clear he
  go_enter Tryz.func15, Tryz.ntmps15
  go_wp2_with fail
  refine wp_loop_rounds 1 ?_
  rw [rounds_succ]
  go_wp2_with fail
  have hb1 := HE.out.blk.self 0 (.slice none 0 0)
  have hm1 : MM R (w.setCell ⟨e, 0, none⟩ (.slice none 0 0)) m mb base room ts tv es clk := HE.out.mem.ex (o := [e]) ((Ex.refl _ _).setCell (.inl (by simp)) _) (by simp [HE.out.lt, HE.out.nem, HE.out.nemb])
  refine (forget_any R m mb base room ts tv es clk _ hm1).mono ?_
  rintro x w1 ⟨rfl, hm2, hx1⟩
  have hb2 := hb1.ex hx1 (by simp [HE.out.nem, HE.out.nemb])
  have HB2 := hide hb2
  have HM2 := hide hm2
  have HX1 := hide hx1
  clear hb1 hm1 hb2 hm2 hx1 hce hfe
  go_wp2_with fail
  go_ret3
  refine ⟨rfl, ⟨by simpa using HB2.out, HM2.out, HE.out.lt, HE.out.nem, HE.out.nemb⟩, ?_⟩
  exact (((Ex.refl _ _).setCell (.inl (by simp)) _) : Ex [e, m, mb] w _).trans (HX1.out.drop (fun x hx _ => by simp at hx ⊢; omega))
end Go.Proofs.YtmeffeigamaipabGreatDoor
