/- Laws of no program: a slice of one struct, laid out of the struct's cells. -/
import Derived.Test.YtmeffeigamaipabGreatDoorB2
import Derived.Great.BuildSlice
set_option linter.unusedVariables false
set_option linter.unusedSimpArgs false
namespace Go.Proofs.YtmeffeigamaipabGreatDoor
open Go.RowKit

theorem fill_seg : ∀ (S : List Value) (k : Nat) (C : Array Value), k + S.length ≤ C.size → (S.zipIdx k).foldl (fun (cs : Array Value) (x : Value × Nat) => cs.setIfInBounds (0 + x.2) x.1) C = (C.toList.take k ++ S ++ C.toList.drop (k + S.length)).toArray
  | [], k, C, h => by simp
  | v :: r, k, C, h => by
    have e := list_seg_step C.toList k v r (by simp at h ⊢; omega)
    rw [List.zipIdx_cons, List.foldl_cons, fill_seg r (k + 1) _ (by simp at h ⊢; omega)]
    congr 1
    simpa [Array.toList_setIfInBounds, Nat.add_assoc] using e

theorem fill_one {S : List Value} {n : Nat} {C : Array Value} (hS : S.length = n) (hC : C.size = n) : Instr.fill (fun i => some (i * n, n)) C [(0, .agg S.toArray)] = some S.toArray := by
  have h := fill_seg S 0 C (by omega)
  unfold Instr.fill
  simp only [Nat.zero_mul, Value.cells, List.size_toArray, hS, hC]
  rw [if_neg (by simp)]
  unfold Instr.fill
  congr 1
  rw [← Array.foldl_toList, Array.toList_zipIdx]
  simp only [List.take_zero, List.nil_append, Nat.zero_add] at h
  rw [List.drop_of_length_le (by rw [Array.length_toList]; omega), List.append_nil] at h
  simpa using h
/-- 'delete' whose run is known by an equation. -/
theorem wp_delete_run {P : Program} (w : World) {o : Oper} {a : Act} {K : Act → World → Prop} {Q : Exit → Act → World → Prop} (x k : Operand) (t kt : TypeId)
    (ho : o.op = .call { callee := .builtin .delete, args := #[x, k], argTypes := #[t, kt] }) (v u : Value) (hx : a.eval x = v) (hk : a.eval k = u) {v' : Value} {w' : World}
    (hr : (Builtin.delete_ #[t, kt] o.type #[v, u]).run P w = .ok v' w') (h : K (a.put o.dst v') w') : o.wp P a w K Q := by
  unfold Oper.wp execOp
  simp only [ho, resolve, invoke, builtin, Sem.run_bind, Sem.run_pure, Result.andThen_ok, List.map_toArray, List.map_cons, List.map_nil, hx, hk, hr]
  exact h
end Go.Proofs.YtmeffeigamaipabGreatDoor
