/- Contracts of the small functions of a run: places, classes. -/
import Derived.Test.YtmeffeigamaipaaDoorW11
import Derived.Handy
set_option linter.unusedVariables false
set_option linter.unusedSimpArgs false
namespace Go.Proofs.YtmeffeigamaipaaDoor
open Go.RowKit

def unsetV : Value := .agg #[.int .i64 (-1), .int .i64 (-1), .int .i64 (-1), .int .i64 (-1), .int .i64 (-1), .int .i64 (-1), .int .i64 (-1), .int .i64 (-1), .int .i64 (-1), .int .i64 (-1)]

set_option maxHeartbeats 2000000 in
set_option maxRecDepth 100000 in
theorem unset_any (w : World) : Calls Tryd.prog 24 #[] w fun e w' => e = .returned unsetV ∧ Ex [] w w' := by
  go_enter Tryd.func24, Tryd.ntmps24
  go_wp2_with fail
  go_rounds 11
  refine bodyPost_ret (v := unsetV) (by simp [results, Tryd.results24, go_sem, unsetV]) rfl ⟨rfl, ?_⟩
  repeat (first | exact Ex.refl _ _ | refine Ex.setCell ?_ (Or.inr (by simp)) _ | refine Ex.alloc ?_ _)

set_option maxHeartbeats 2000000 in
set_option maxRecDepth 100000 in
theorem marked_none (pl : Int) (w : World) : Calls Tryd.prog 37 #[unsetV, .int .u64 0, .int .i64 pl] w fun e w' => e = .returned unsetV ∧ Ex [] w w' := by
  have hb : (bits BinOp.and IntKind.u64 0 1 == 1) = false := by decide +kernel
  unfold unsetV
  go_enter Tryd.func37, Tryd.ntmps37
  go_wp2_with fail
  go_rounds 11
  refine bodyPost_ret (v := unsetV) (by simp [results, Tryd.results37, go_sem, unsetV]) rfl ⟨rfl, ?_⟩
  repeat (first | exact Ex.refl _ _ | refine Ex.setCell ?_ (Or.inr (by simp)) _ | refine Ex.alloc ?_ _)

set_option maxHeartbeats 1000000 in
set_option maxRecDepth 100000 in
theorem has_high (r : Int) (w : World) (hr : 128 ≤ r) : Calls Tryd.prog 39 #[dotClass, .int .i32 r] w fun e w' => e = .returned (.bool true) ∧ Ex [] w w' := by
  unfold dotClass
  go_enter Tryd.func39, Tryd.ntmps39
  go_wp2_with fail
  go_ret
  exact ⟨rfl, (Ex.refl _ _).alloc _⟩

theorem idx_ones (r : Nat) (hr : r < 128) : [Value.int IntKind.u64 ones, Value.int IntKind.u64 ones, Value.bool true][r / 64]? = some (.int .u64 ones) := by
  have : r / 64 = 0 ∨ r / 64 = 1 := by omega
  rcases this with h | h <;> rw [h] <;> rfl

def shv (r : Int) : Int := ones / 2 ^ min (bits BinOp.and IntKind.i32 r 63).toNat 64
theorem low_facts : ∀ r : Fin 128, 0 ≤ bits BinOp.and IntKind.i32 ((r.val : Nat) : Int) 63 ∧ (bits BinOp.and IntKind.u64 (shv ((r.val : Nat) : Int)) 1 == 1) = true := by decide +kernel
theorem shift_low (r : Nat) (hr : r < 128) (W : World) : (Op.shift BinOp.shr IntKind.u64 ones IntKind.i32 (bits BinOp.and IntKind.i32 (r : Int) 63)).run Tryd.prog W = .ok (.int .u64 (shv r)) W := by
  rw [shift_shr_any _ _ _ _ (low_facts ⟨r, hr⟩).1]
  rfl

set_option maxHeartbeats 1000000 in
set_option maxRecDepth 100000 in
theorem has_low (r : Nat) (w : World) (hr : r < 128) : Calls Tryd.prog 39 #[dotClass, .int .i32 r] w fun e w' => e = .returned (.bool true) ∧ Ex [] w w' := by
  have hidx := idx_ones r hr
  have hsh := shift_low r hr
  have hbit := (low_facts ⟨r, hr⟩).2
  simp only at hbit
  unfold dotClass
  go_enter Tryd.func39, Tryd.ntmps39
  go_wp2_with fail
  go_ret
  exact ⟨rfl, (Ex.refl _ _).alloc _⟩

theorem has_dot (r : Int) (w : World) (hr : 0 ≤ r) : Calls Tryd.prog 39 #[dotClass, .int .i32 r] w fun e w' => e = .returned (.bool true) ∧ Ex [] w w' := by
  by_cases h : 128 ≤ r
  · exact has_high r w h
  · obtain ⟨n, rfl⟩ := Int.eq_ofNat_of_zero_le hr
    exact has_low n w (by omega)
end Go.Proofs.YtmeffeigamaipaaDoor
