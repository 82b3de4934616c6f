/- The map of answers: what is looked up, laid down, taken away. -/
import Derived.Test.YtmeffeigamaipabGreatDoorD1
set_option linter.unusedVariables false
set_option linter.unusedSimpArgs false
namespace Go.Proofs.YtmeffeigamaipabGreatDoor
open Go.RowKit

def KeysOk (es : Array MapEntry) : Prop := ∀ e ∈ es.toList, ∃ S, SerOk S ∧ e.key = .agg S.toArray
theorem KeysOk.keyed {es : Array MapEntry} (h : KeysOk es) : ∀ e ∈ es.toList, ∃ l, keyOf Tryz.prog 72 e.key = some l := fun e he => by
  obtain ⟨S, hS, hk⟩ := h e he
  rw [hk]; exact keyOf_ser hS

theorem zeroAns (w : World) : (zeroValue 76).run Tryz.prog w = .ok (.agg #[.slice none 0 0, .bool false]) w := by kernel_rfl

theorem look_miss {w : World} {mb : Nat} {es : Array MapEntry} {clk : Nat} {S : List Value} (hm : w.heap[mb]? = some (.map es clk)) (hk : KeysOk es) (hS : SerOk S) (hno : ∀ e ∈ es.toList, e.key ≠ .agg S.toArray) :
    (Instr.lookup 91 (.map (some mb)) (.agg S.toArray) true).run Tryz.prog w = .ok (.tuple #[.agg #[.slice none 0 0, .bool false], .bool false]) w := by
  obtain ⟨l, hl⟩ := keyOf_ser hS
  have hg := MapKept.run_getObj_map (P := Tryz.prog) hm
  have hc := serKeyed.check w es.isEmpty hl
  have hf : (Instr.findKey 72 (.agg S.toArray) es.toList).run Tryz.prog w = .ok none w := by
    rcases serKeyed.find w hl es.toList hk.keyed with ⟨h, _⟩ | ⟨j, e, _, hj, he⟩
    · exact h
    · exact absurd he (hno e (List.mem_of_getElem? hj))
  unfold Instr.lookup
  simp [run_underlying Tryz.underlying91, hg, hc, hf, zeroAns]

theorem look_hit {w : World} {mb : Nat} {es : Array MapEntry} {clk : Nat} {S : List Value} (hm : w.heap[mb]? = some (.map es clk)) (hk : KeysOk es) (hS : SerOk S) (hyes : ∃ e ∈ es.toList, e.key = .agg S.toArray) :
    ∃ e ∈ es.toList, e.key = .agg S.toArray ∧ (Instr.lookup 91 (.map (some mb)) (.agg S.toArray) true).run Tryz.prog w = .ok (.tuple #[e.val, .bool true]) w := by
  obtain ⟨l, hl⟩ := keyOf_ser hS
  have hg := MapKept.run_getObj_map (P := Tryz.prog) hm
  have hc := serKeyed.check w es.isEmpty hl
  rcases serKeyed.find w hl es.toList hk.keyed with ⟨_, h⟩ | ⟨j, e, hf, hj, he⟩
  · obtain ⟨e, hm, he⟩ := hyes
    exact absurd he (h e hm)
  · refine ⟨e, List.mem_of_getElem? hj, he, ?_⟩
    unfold Instr.lookup
    simp [run_underlying Tryz.underlying91, hg, hc, hf]

/-- A block put in another's place (of a map). -/
theorem upd_miss {w : World} {mb : Nat} {es : Array MapEntry} {clk : Nat} {S : List Value} (v : Value) (hm : w.heap[mb]? = some (.map es clk)) (hk : KeysOk es) (hS : SerOk S) (hno : ∀ e ∈ es.toList, e.key ≠ .agg S.toArray) :
    (Instr.mapUpdate 91 (.map (some mb)) (.agg S.toArray) v).run Tryz.prog w = .ok () (putB w mb (.map (es.push { key := .agg S.toArray, val := v, born := clk }) (clk + 1))) := by
  obtain ⟨l, hl⟩ := keyOf_ser hS
  have hg := MapKept.run_getObj_map (P := Tryz.prog) hm
  have hc := serKeyed.check w false hl
  have hf : (Instr.findKey 72 (.agg S.toArray) es.toList).run Tryz.prog w = .ok none w := by
    rcases serKeyed.find w hl es.toList hk.keyed with ⟨h, _⟩ | ⟨j, e, _, hj, he⟩
    · exact h
    · exact absurd he (hno e (List.mem_of_getElem? hj))
  unfold Instr.mapUpdate
  simp [run_underlying Tryz.underlying91, hg, hc, hf, MapKept.run_setObj_map _ hm, putB]

theorem del_hit {w : World} {mb : Nat} {es : Array MapEntry} {clk : Nat} {S : List Value} (ty : TypeId) (hm : w.heap[mb]? = some (.map es clk)) (hk : KeysOk es) (hS : SerOk S) (hyes : ∃ e ∈ es.toList, e.key = .agg S.toArray) :
    ∃ j e, es[j]? = some e ∧ e.key = .agg S.toArray ∧ (Builtin.delete_ #[91, 72] ty #[.map (some mb), .agg S.toArray]).run Tryz.prog w = .ok (.tuple #[]) (putB w mb (.map (es.eraseIdxIfInBounds j) clk)) := by
  obtain ⟨l, hl⟩ := keyOf_ser hS
  have hg := MapKept.run_getObj_map (P := Tryz.prog) hm
  have hc := serKeyed.check w es.isEmpty hl
  rcases serKeyed.find w hl es.toList hk.keyed with ⟨_, h⟩ | ⟨j, e, hf, hj, he⟩
  · obtain ⟨e, hm, he⟩ := hyes
    exact absurd he (h e hm)
  · refine ⟨j, e, by simpa using hj, he, ?_⟩
    unfold Builtin.delete_
    simp [run_underlying Tryz.underlying91, hg, hc, hf, MapKept.run_setObj_map _ hm, putB]

theorem clear_map {w : World} {mb : Nat} {es : Array MapEntry} {clk : Nat} (ty : TypeId) (hm : w.heap[mb]? = some (.map es clk)) :
    (Builtin.clear_ #[91] ty #[.map (some mb)]).run Tryz.prog w = .ok (.tuple #[]) (putB w mb (.map #[] clk)) := by
  have hg := MapKept.run_getObj_map (P := Tryz.prog) hm
  unfold Builtin.clear_
  simp [run_underlying Tryz.underlying91, hg, MapKept.run_setObj_map _ hm, putB]

theorem putB_bk {w : World} {b : Nat} {o o' : Obj} (h : BK w b o') : BK (putB w b o) b o := by
  have := h.lt
  simp [BK, putB, this]
theorem BK.putB {w : World} {b k : Nat} {o o' : Obj} (h : BK w k o') (hk : k ≠ b) : BK (putB w b o) k o' := h.ex (putB_ex w b o) (by simpa using hk)
end Go.Proofs.YtmeffeigamaipabGreatDoor
