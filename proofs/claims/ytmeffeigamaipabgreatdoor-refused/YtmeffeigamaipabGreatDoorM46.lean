/- H1 H2 RefusedA, one behind the other. -/
import Derived.Test.YtmeffeigamaipabGreatDoorM17
import Derived.Test.YtmeffeigamaipabGreatDoorM23
import Derived.Lib.LaidU8
import Derived.Test.YtmeffeigamaipabGreatDoorRows
import Derived.Test.YtmeffeigamaipabGreatDoorCards
import Derived.Test.YtmeffeigamaipabGreatDoorTie
import Derived.Test.YtmeffeigamaipabGreatDoorF16
import Derived.ProofKit
import Derived.LaidMore
import Derived.MakeChecks
import Derived.OpenShut
import Derived.Stop.Joined
set_option linter.unusedVariables false
set_option linter.unusedSimpArgs false
/- What a row's list gives: the table of the actions, the value by which the reader gives up. -/
namespace Go.Proofs.YtmeffeigamaipabGreatDoor
open Go.RowKit

theorem bools_of_struct {H : Type} {enc : TypeId × Value → H} {P : Program} {w : World} {base : Nat} {sp : Nat → Bool} {held : Bool} {fuel : Nat} {t : TypeId} {fs : Array Field} {cs : List Value} {zs : List Bool} {p : List MemPlace} (ht : P.underlying t = some (.struct fs))
    (hf : ∀ (i : Nat) (f : Field), fs[i]? = some f → P.underlying f.type = some .bool ∧ f.offset = i ∧ P.cellsOf f.type = 1) (hct : P.cellsOf t = fs.size)
    (h : DataW.trod enc P w base sp held fuel t cs = some (.agg (zs.map fun z => .lit (.bool z)), p)) : cs = zs.map fun z => Value.bool z := by
  obtain ⟨xs, n, rfl, hx, hl, hxl, hall⟩ := DataW.trod_struct ht h
  have hxs : xs.map (·.1) = zs.map fun z => (DataW.lit (.bool z) : DataW H) := by
    have := congrArg Prod.fst hx
    simpa using this.symm
  have hzl : zs.length = fs.size := by
    have := congrArg List.length hxs
    simp at this
    omega
  apply List.ext_getElem?
  intro i
  by_cases hi : i < fs.size
  · obtain ⟨hu, ho, hc⟩ := hf i fs[i] (by simp [hi])
    have h1 := hall i fs[i] (by simp [hi])
    obtain ⟨b, hb⟩ : ∃ b, xs[i]? = some b := ⟨xs[i]'(by omega), List.getElem?_eq_getElem (by omega)⟩
    rw [hb, ho, hc] at h1
    obtain ⟨z, hcz, rfl⟩ := DataW.trod_bool hu h1
    have h2 : cs[i]? = some (.bool z) := by
      have := congrArg (·[0]?) hcz
      simpa [List.getElem?_take, List.getElem?_drop] using this
    have h3 : (xs.map (·.1))[i]? = some (DataW.lit (.bool z) : DataW H) := by simp [hb]
    rw [hxs] at h3
    simp only [List.getElem?_map, Option.map_eq_some_iff, DataW.lit.injEq, Lit.bool.injEq] at h3
    obtain ⟨z', hz', rfl⟩ := h3
    simp [h2, hz']
  · rw [List.getElem?_eq_none (by omega), List.getElem?_eq_none (by simp; omega)]

theorem iface_of {H : Type} {enc : TypeId × Value → H} {P : Program} {w : World} {base : Nat} {sp : Nat → Bool} {held : Bool} {fuel : Nat} {t : TypeId} {cs : List Value} {n : String} {d : DataW H} {p : List MemPlace} (ht : ∃ ms, P.underlying t = some (.interface ms))
    (h : DataW.trod enc P w base sp held fuel t cs = some (.iface n d, p)) : ∃ u v, cs = [.iface u v] := by
  obtain ⟨ms, ht⟩ := ht
  cases fuel with
  | zero => simp [DataW.trod] at h
  | succ fuel =>
    unfold DataW.trod at h
    rw [ht] at h
    split at h <;> first | cases h | (rename_i heq; exact ⟨_, _, rfl⟩) | simp_all
end Go.Proofs.YtmeffeigamaipabGreatDoor

/- From a row's list to the table of the actions and the value by which the reader gives up. -/
namespace Go.Proofs.YtmeffeigamaipabGreatDoor
open Go.RowKit

def useD (u : Use) : DataW Unit := .agg ([u.text, u.regex, u.target, u.repl, u.modulus].map fun z => .lit (.bool z))
set_option maxRecDepth 100000 in
theorem used_eq : (Rows.laid_retag_rule_usedBy : DataW Unit) = .agg (usesL.map useD) := by kernel_rfl

set_option maxRecDepth 100000 in
theorem ub_of_reads {W : World} (h : Lib.VarReads Tryz.prog W "retag/rule.usedBy" Rows.laid_retag_rule_usedBy) : UB W := by
  obtain ⟨g, t, cs, fuel, p, hg, hty, hvar, hd⟩ := h
  obtain rfl : g = 0 := (Option.some.inj ((show Tryz.prog.globalNamed "retag/rule.usedBy" = some 0 by kernel_rfl).symm.trans hg)).symm
  obtain rfl : t = 108 := (Option.some.inj ((show (Tryz.prog.globals[0]?).map (·.type) = some 108 by kernel_rfl).symm.trans hty)).symm
  rw [used_eq] at hd
  have key : ∀ (n : Nat) (u : Use), usesL[n]? = some u → W.rangeAt 0 (n * 5) u.cells := by
    intro n u hu
    have hn : n < 11 := (List.getElem?_eq_some_iff.1 hu).1
    obtain ⟨fuel', d, q, hdi, he⟩ := Lib.array_elem Tryz.underlying108 hd n hn
    rw [List.getElem?_map, hu] at hdi
    simp only [Option.map_some, Option.some.injEq] at hdi
    subst hdi
    rw [show Tryz.prog.cellsOf 107 = 5 by kernel_rfl] at he
    have hcs := bools_of_struct Tryz.underlying107 (fun j f hj => by
      match j, hj with
      | 0, hj => simp at hj; subst hj; exact ⟨Tryz.underlying4, rfl, by kernel_rfl⟩
      | 1, hj => simp at hj; subst hj; exact ⟨Tryz.underlying4, rfl, by kernel_rfl⟩
      | 2, hj => simp at hj; subst hj; exact ⟨Tryz.underlying4, rfl, by kernel_rfl⟩
      | 3, hj => simp at hj; subst hj; exact ⟨Tryz.underlying4, rfl, by kernel_rfl⟩
      | 4, hj => simp at hj; subst hj; exact ⟨Tryz.underlying4, rfl, by kernel_rfl⟩
      | j + 5, hj => simp at hj) (by kernel_rfl) he
    intro j v hv
    rw [World.var?_cell hg hvar (n * 5 + j), ← Array.getElem?_toList]
    have hj5 : j < 5 := (List.getElem?_eq_some_iff.1 hv).1
    have h1 := congrArg (·[j]?) hcs
    simp only [List.getElem?_take, List.getElem?_drop, if_pos hj5] at h1
    rw [h1]
    exact hv
  refine ⟨?_, key⟩
  exact G.lt_of_cell (key 0 _ rfl 0 _ rfl)

theorem ev_of_reads {W : World} (h : Lib.VarReads Tryz.prog W "retag/regex.errForm" Rows.laid_retag_regex_errForm) : ∃ x : G.EV, W.cell? ⟨1, 0, none⟩ = some (.iface x.1 x.2) := by
  obtain ⟨g, t, cs, fuel, p, hg, hty, hvar, hd⟩ := h
  obtain rfl : g = 1 := (Option.some.inj ((show Tryz.prog.globalNamed "retag/regex.errForm" = some 1 by kernel_rfl).symm.trans hg)).symm
  obtain rfl : t = 186 := (Option.some.inj ((show (Tryz.prog.globals[1]?).map (·.type) = some 186 by kernel_rfl).symm.trans hty)).symm
  obtain ⟨u, v, hcs⟩ := iface_of ⟨_, Tryz.underlying186⟩ hd
  refine ⟨(u, v), ?_⟩
  rw [World.var?_cell hg hvar 0, ← Array.getElem?_toList, hcs]
  rfl
end Go.Proofs.YtmeffeigamaipabGreatDoor

/- A start at which retagkeep.Refused may be called. -/
namespace Go.Proofs.YtmeffeigamaipabGreatDoor
open Go.ChangeShapes Go.WideShapes Go.ChangeAt Go.ChangeMaps Go.RowKit

theorem own : ownKnob Tryz.prog.godebug = none := by kernel_rfl

set_option maxRecDepth 100000 in
/-- A start that fits: what the door's run lays, and the pinned table in its place. -/
theorem start_fits (os : Os) (H : Type) (enc : TypeId × Value → H) : ∃ w0 : World, w0.os = os ∧ (w0.forCall (fun _ _ => 0) ⟨#[], #[.int .i64 0, .int .i64 0], []⟩).Shaped Tryz.prog ∧
    Input.okWideB Tryz.prog (w0.forCall (fun _ _ => 0) ⟨#[], #[.int .i64 0, .int .i64 0], []⟩) 8 ⟨#[], #[.int .i64 0, .int .i64 0], []⟩ = true ∧
    Rows.refusedSpec.preB enc Tryz.prog Tryz.f8 [] false (w0.forCall (fun _ _ => 0) ⟨#[], #[.int .i64 0, .int .i64 0], []⟩).memory #[.int .i64 0, .int .i64 0] 8 = true ∧
    Rows.refusedSpec.sizedB enc Tryz.prog Tryz.f8 false (w0.forCall (fun _ _ => 0) ⟨#[], #[.int .i64 0, .int .i64 0], []⟩).memory #[.int .i64 0, .int .i64 0] 8 = true ∧
    laidMetH Tryz.prog Rows.refusedRow.laid (w0.forCall (fun _ _ => 0) ⟨#[], #[.int .i64 0, .int .i64 0], []⟩).memory := by
  refine ⟨{ World.doorLaid Tryz.prog 400 os with heap := (World.doorLaid Tryz.prog 400 os).heap.modify 2 fun
      | .cells _ t frozen => .cells ⟨Go.Pinned.utf8FirstZ.map fun (z : Nat) => .int .u8 (z : Int)⟩ t frozen
      | o => o }, rfl, World.shaped_of_RefB (by kernel_rfl) (by kernel_rfl), by kernel_rfl, by kernel_rfl, by kernel_rfl, ?_⟩
  exact laidMetH_of_parts3 (fuel := 8) (laidMet_of_run' 8 (by kernel_rfl) (by kernel_rfl)) (by kernel_rfl) (by kernel_rfl)


theorem wf_i64 {a : Int} (h : (Lit.int .i64 a).wf = true) : -9223372036854775808 ≤ a ∧ a ≤ 9223372036854775807 := by
  simp only [Lit.wf, Bool.and_eq_true, decide_eq_true_eq] at h
  exact h

/-- What the row's list gives: the table of the actions, and the value by which the reader gives up. -/
theorem refused_list {W : World} (h : laidMetH Tryz.prog Rows.refusedRow.laid W) : UB W ∧ ∃ x : G.EV, W.cell? ⟨1, 0, none⟩ = some (.iface x.1 x.2) := by
  rw [MakeChecks.laidMetH_plain _ _ _ (by kernel_rfl)] at h
  exact ⟨ub_of_reads (Lib.laidMet.reads h (n := "retag/rule.usedBy") (d := Rows.laid_retag_rule_usedBy) (by simp [Rows.refusedRow])),
    ev_of_reads (Lib.laidMet.reads h (n := "retag/regex.errForm") (d := Rows.laid_retag_regex_errForm) (by simp [Rows.refusedRow]))⟩
end Go.Proofs.YtmeffeigamaipabGreatDoor
