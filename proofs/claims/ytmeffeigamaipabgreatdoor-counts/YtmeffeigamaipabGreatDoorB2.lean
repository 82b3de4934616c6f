/- Laws of no program: 'copy' from a row that is owned. -/
import Derived.Test.YtmeffeigamaipabGreatDoorB1
import Derived.Deep.MidRow
set_option linter.unusedVariables false
set_option linter.unusedSimpArgs false
namespace Go.Proofs.YtmeffeigamaipabGreatDoor
open Go.RowKit

/-- 'copy' into the head of a block, from a row that is owned. -/
theorem run_copy_own {P : Program} (w : World) (dT sT ty elem : TypeId) (i : TypeInfo) (base sz n : Nat) (v : Value) (xs : List Value) (d dLen dCap : Nat) (cur : Array Value) (t : TypeId)
    (hu : P.underlying dT = some (.slice elem)) (hi : P.info? elem = some i) (hsz : i.size = sz) (hown : w.ownsRow base elem sz v n xs) (hp : ∀ u ∈ xs, u.oneCell' = true)
    (hd : w.heap[d]? = some (.cells cur t (0, 0))) (hn : n ≤ dLen) (hfit : n * sz ≤ cur.size) :
    (Builtin.copy_ #[dT, sT] ty #[.slice (some ⟨d, 0, none⟩) dLen dCap, v]).run P w = .ok (goInt n) (w.setRow d (xs ++ cur.toList.drop (n * sz)).toArray) := by
  subst hsz
  rcases hown.2 with ⟨rfl, rfl⟩ | ⟨g, cap, c2, rfl, hb, hg, hnc, hcm, hcs, ht⟩
  · have hx : xs = [] := List.length_eq_zero_iff.1 (by simpa using hown.1)
    subst hx
    have hself : w.setRow d ([] ++ cur.toList.drop (0 * i.size)).toArray = w := by
      simp only [Nat.zero_mul, List.drop_zero, List.nil_append, Array.toArray_toList]
      exact setRow_self w d cur t (0, 0) hd
    rw [hself]
    simp [Builtin.copy_, run_underlying hu, Builtin.lenOf, Builtin.firstCells, sizeOf, typeInfo, hi, storeCells]
  · have hmin : Nat.min n dLen = n := Nat.min_eq_left hn
    have hl : (loadCells ⟨g, 0, none⟩ xs.length).run P w = .ok xs.toArray w := run_loadCells_list (P := P) w ⟨g, 0, none⟩ xs (fun j u hj => by rw [Addr.add_lit, Nat.zero_add]; exact own_cell hown hj)
    have hst := run_storeCells_at P d 0 t xs 0 cur w hd (by simp only [Nat.zero_add]; rw [hown.1]; exact hfit) hp
    simp only [Nat.add_zero, Nat.zero_add, List.take_zero, List.nil_append] at hst
    rw [hown.1] at hl hst
    simp [Builtin.copy_, run_underlying hu, Builtin.lenOf, Builtin.firstCells, sizeOf, typeInfo, hi, hmin, hl, hst]

/-- 'copy' whose run is known by an equation, as one step of a region that draws. -/
theorem step_copy_run {P : Program} {ops : Array Oper} {o : Oper} {a : Act} {w : World} {K : Act → World → Prop} {Q : Exit → Act → World → Prop} {E : Prop}
    (hg : o.guard = none) (s x : Operand) (t t' : TypeId) (hop : o.op = Op.call { callee := Callee.builtin Builtin.copy, args := #[s, x], argTypes := #[t, t'] })
    (v u : Value) (hd : a.eval s = v) (hx : a.eval x = u) {v' : Value} {w' : World} (hr : (Builtin.copy_ #[t, t'] o.type #[v, u]).run P w = .ok v' w') (hK : K (a.put o.dst v') w') :
    if Region.wanted o (yielded ops a.tmps) = true then Oper.wp P o a w K Q else E := by
  have hw : Region.wanted o (yielded ops a.tmps) = true := by simp [Region.wanted, hg]
  rw [if_pos hw]
  unfold Oper.wp
  simp [execOp, hop, resolve, invoke, builtin, hd, hx, hr, Result.andThen]
  exact hK

/-- One result, kept in memory. -/
theorem results_cell1 {P : Program} {fn : Func} {tmps : Array Value} {w : World} {a : Tmp} {t : TypeId} {ad : Addr} {v : Value} (hf : fn.results = #[.cell a t]) (ha : tmps.getD a undef = .pointer (some ad)) (hl : (loadVar t ad).run P w = .ok v w) :
    (results fn tmps).run P w = .ok v w := by
  have ha' : tmps[a]?.getD undef = .pointer (some ad) := by rw [← ha]; simp
  unfold results
  rw [hf]
  simp [ha', hl, asAddr]
/-- Two results, the first kept in memory. -/
theorem results_cell_tmp {P : Program} {fn : Func} {tmps : Array Value} {w : World} {a k : Tmp} {t : TypeId} {ad : Addr} {v : Value} (hf : fn.results = #[.cell a t, .tmp k]) (ha : tmps.getD a undef = .pointer (some ad)) (hl : (loadVar t ad).run P w = .ok v w) :
    (results fn tmps).run P w = .ok (.tuple #[v, tmps.getD k undef]) w := by
  have ha' : tmps[a]?.getD undef = .pointer (some ad) := by rw [← ha]; simp
  unfold results
  rw [hf]
  simp [ha', hl, asAddr]
end Go.Proofs.YtmeffeigamaipabGreatDoor
