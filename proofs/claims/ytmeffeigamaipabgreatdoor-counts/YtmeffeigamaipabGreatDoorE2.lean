/- Contracts of Load at a rule whose action is none; of the labels that a count asks for. -/
import Derived.Test.YtmeffeigamaipabGreatDoorE1
set_option linter.unusedVariables false
set_option linter.unusedSimpArgs false
namespace Go.Proofs.YtmeffeigamaipabGreatDoor
open Go.RowKit

set_option maxHeartbeats 1000000 in
set_option maxRecDepth 100000 in
theorem isAction_no (a : Int) (w : World) (h : a < 0 ∨ 11 ≤ a) :
    Calls Tryz.prog 48 #[.int .i64 a] w fun x w' => x = .returned (.bool false) ∧ w' = w := by
  by_cases h0 : 0 ≤ a
  · have h11 : 11 ≤ a := by omega
    go_enter Tryz.func48, Tryz.ntmps48
    go_wp2_with fail
    go_ret
    exact ⟨by simp <;> omega, rfl⟩
  · go_enter Tryz.func48, Tryz.ntmps48
    go_wp2_with fail
    go_ret
    exact ⟨by simp <;> omega, rfl⟩

/-- Three results, the first kept in memory. -/
theorem results_cell_tmp2 {P : Program} {fn : Func} {tmps : Array Value} {w : World} {a k l : Tmp} {t : TypeId} {ad : Addr} {v : Value} (hf : fn.results = #[.cell a t, .tmp k, .tmp l]) (ha : tmps.getD a undef = .pointer (some ad)) (hl : (loadVar t ad).run P w = .ok v w) :
    (results fn tmps).run P w = .ok (.tuple #[v, tmps.getD k undef, tmps.getD l undef]) w := by
  have ha' : tmps[a]?.getD undef = .pointer (some ad) := by rw [← ha]; simp
  unfold results
  rw [hf]
  simp [ha', hl, asAddr]

/-- A rule as a value. -/
def ruleV (a : Int) (so : Value) (se re ta rp : ByteArray) (mo : Int) : Value := .agg #[.int .i64 a, so, .string se, .string re, .string ta, .string rp, .int .u64 mo]

theorem store_nilFunc {w : World} {b : Nat} {t : TypeId} (hb : BK w b (.cells #[.nilFunc] t (0, 0))) :
    (store ⟨b, 0, none⟩ Value.nilFunc).run Tryz.prog w = .ok () (w.setCell ⟨b, 0, none⟩ .nilFunc) := by
  obtain ⟨hc, hf⟩ := hb.all
  rw [run_store Tryz.prog w _ Value.nilFunc _ rfl]
  simp [hc, hf]

set_option maxHeartbeats 1000000 in
set_option maxRecDepth 100000 in
theorem make_noAction (a : Int) (so : Value) (se re ta rp : ByteArray) (mo : Int) (w : World) (h : a < 0 ∨ 11 ≤ a) :
    Calls Tryz.prog 34 #[ruleV a so se re ta rp mo] w fun x w' => x = .returned (.tuple #[.agg #[.nilFunc], .int .i64 1, .int .i64 0]) ∧ Ex [] w w' := by
  unfold ruleV
  obtain ⟨w1, hw1⟩ : ∃ w1, w1 = (w.alloc (Obj.cells #[.int .i64 a, so, .string se, .string re, .string ta, .string rp, .int .u64 mo] 37)).alloc (Obj.cells #[.nilFunc] 81) := ⟨_, rfl⟩
  have hb : BK w1 (w.heap.size + 1) (.cells #[.nilFunc] 81 (0, 0)) := by
    have h := BK.new (w.alloc (Obj.cells #[.int .i64 a, so, .string se, .string re, .string ta, .string rp, .int .u64 mo] 37)) (Obj.cells #[.nilFunc] 81)
    simp only [World.size_alloc] at h
    rw [hw1]; exact h
  have hst := store_nilFunc hb
  have hx1 : Ex [] w w1 := by rw [hw1]; exact ((Ex.refl _ _).alloc _).alloc _
  have HB := hide hb
  have HX := hide hx1
  have HW := hide hw1
  rw [hw1] at hst
  clear hb hx1 hw1
  go_enter Tryz.func34, Tryz.ntmps34
  go_wp2_with fail
  refine (isAction_no a _ h).mono ?_
  rintro x w2 ⟨rfl, rfl⟩
  go_wp2_with fail
  rw [← unhide HW]
  have hl3 := run_loadVar_mid (P := Tryz.prog) w1 (w.heap.size + 1) 0 81 [.nilFunc] _ (BK.rangeL (cs := [.nilFunc]) HB.out) Tryz.underlying81 rfl (by kernel_rfl)
  exact bodyPost_ret (results_cell_tmp2 rfl rfl hl3) rfl ⟨rfl, HX.out⟩

set_option maxHeartbeats 1000000 in
set_option maxRecDepth 100000 in
theorem load_noAction (e rb : Nat) (a : Int) (sp : Option Addr) (sn sc : Nat) (se re ta rp : ByteArray) (mo : Int) (w : World) (h : a < 0 ∨ 11 ≤ a)
    (hr : BK w rb (.cells #[.int .i64 a, .slice sp sn sc, .string se, .string re, .string ta, .string rp, .int .u64 mo] 37 (0, 0))) :
    Calls Tryz.prog 15 #[.pointer (some ⟨e, 0, none⟩), .slice (some ⟨rb, 0, none⟩) 1 1] w fun x w' => x = .returned (.tuple #[.int .i64 1, .int .i64 0, .int .i64 0]) ∧ Ex [] w w' := by
  obtain ⟨hc, hf⟩ := hr.all
  have hrl := hr.lt
  clear hr
  go_enter Tryz.func15, Tryz.ntmps15
  go_wp2_with fail
  refine wp_loop_rounds 1 ?_
  rw [rounds_succ]
  go_wp2_with fail
  have hmk := make_noAction a (.slice sp sn sc) se re ta rp mo (w.alloc (Obj.cells #[.int .i64 a, .slice sp sn sc, .string se, .string re, .string ta, .string rp, .int .u64 mo] 37)) h
  unfold ruleV at hmk
  refine hmk.mono ?_
  clear hmk
  rintro x w1 ⟨rfl, hx1⟩
  have HX1 := hide hx1
  have hst := store_nilFunc (BK.new w1 (Obj.cells #[.nilFunc] 81))
  clear hx1 hc hf
  go_wp2_with fail
  go_ret3
  exact ⟨rfl, (((Ex.refl _ _).alloc _).trans HX1.out).alloc _⟩
end Go.Proofs.YtmeffeigamaipabGreatDoor
