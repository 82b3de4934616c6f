/- For every list of rules and every list of labels (of whatever content), retagkeep.Sorted answers true and leaves its arguments as they read (what comes out is sorted by names, each once, none empty; without rules it is what was handed in); taking that the package variables that the row lists read as listed when the call begins, which the card ties to the program's text. -/
import Derived.Test.YtcbiidoebpkifaaGreatDoorU3
import Derived.Test.YtcbiidoebpkifaaGreatDoorM50
set_option linter.unusedVariables false
set_option linter.unusedSimpArgs false
namespace Go.Proofs.YtcbiidoebpkifaaGreatDoor
open Go.ChangeShapes Go.WideShapes Go.ChangeAt Go.ChangeMaps Go.RowKit

set_option maxRecDepth 100000 in
theorem sorted_lifted (os : Os) (started : os.Started) (H : Type) (enc : TypeId × Value → H) :
    ReturnsInHanded {} Tryz.checked os 4 .any (fun w args => (Rows.sortedSpec.pre enc Tryz.prog Tryz.f4 [] false w args ∧ laidMetH Tryz.prog Rows.sortedRow.laid w) ∧ sizedMet enc Tryz.prog Tryz.f4 (OpenSpec.ofChange Rows.sortedSpec) false w args)
      (Rows.sortedSpec.post enc Tryz.prog Tryz.f4 false true false false) := by
  obtain ⟨w0, k1, k2, k3, k4, k5, k6⟩ := start_fits os H enc
  refine returnsInHanded_of_change_and (C := Tryz.checked) (X := fun w _ => laidMetH Tryz.prog Rows.sortedRow.laid w) (fun _ _ _ hh h => h.of_heap hh) own started (by kernel_rfl) Tryz.func4
    (ChangeSpec.witness_shaped (enc := enc) (C := Tryz.checked) (os := os) (X := fun w _ => laidMetH Tryz.prog Rows.sortedRow.laid w) false w0 #[.slice none 0 0, .slice none 0 0] 8 k1 k2 k3 k4 k5 k6) ?_
  intro W base args ds gs before hval0 hW _ _ hL _
  have hval : ∀ (j : Nat) t v, Tryz.f4.params[j]? = some t → args[j]? = some v → Value.okWide Tryz.prog W .any base t v := hval0
  have hW' := hW
  obtain ⟨ps, qs, hA0, hV, rfl, hfz, hnd⟩ := hW
  have hA : DataW.TrodAll enc Tryz.prog W 0 (fun _ => true) true Tryz.f4.params.toList args.toList ds ps := hA0
  rw [Tryz.params4] at hA hval
  obtain ⟨v0, v1, d0, d1, p0, p1, rfl, rfl, rfl, h0, h1⟩ := trodAll_two hA
  obtain ⟨rfl, rfl⟩ := trodVars_none hV
  have h0k := h0
  have h1k := h1
  obtain ⟨p, c, rl, rfl, hrl, hrn⟩ := open_rlo (hval 0 31 v0 rfl rfl) h0
  obtain ⟨pl, cl, ll, rfl, hlo, hll, hlz⟩ := open_slo (hval 1 32 v1 rfl rfl) h1
  clear hA0 hval0
  simp only [List.append_nil] at hW'
  obtain ⟨ev, hpre⟩ := sorted_list hL
  have hlt : ∀ x ∈ p0 ++ p1, x.block < W.heap.size := fun x hx => by simpa using hW'.lt x hx
  refine (G.sorted_any p c rl pl cl ll ev W ⟨hrl, hrn, hlo, hll, hlz⟩ hpre).mono fun x W' ⟨he, hx⟩ => ?_
  subst he
  have bel := hx.toBelow
  refine ⟨_, rfl, _, _, _, [], p0 ++ p1, [], hW', ?_, ?_, ?_, bel.frame _, fun h => by cases h⟩
  · exact trodAll_mk1 (shut_bool Tryz.underlying4 _)
  · exact trodAll_mk2 (Below.trod laidOut (by kernel_rfl) (of_decide_eq_true (by kernel_rfl)) h0k bel (fun x hx => hlt x (List.mem_append_left _ hx))) (Below.trod laidOut (by kernel_rfl) (of_decide_eq_true (by kernel_rfl)) h1k bel (fun x hx => hlt x (List.mem_append_right _ hx)))
  · rfl

theorem sorted_said : Rows.SortedSaid :=
  OpenClaim.holds_of_wide 4 Tryz.f4 rfl rfl rfl rfl rfl rfl rfl ⟨rfl, rfl, rfl, rfl, rfl⟩ rfl rfl rfl rfl rfl (by kernel_rfl) Tryz.func4 (by kernel_rfl)
    (of_decide_eq_true (by kernel_rfl)) (by unfold Func.isWrapper; first | (rw [if_pos (by decide +kernel)]; kernel_rfl) | (rw [if_neg (by decide +kernel)]; exact ⟨rfl, rfl⟩))
    (fun os started H enc _ => sorted_lifted os started H enc)

theorem sorted_plain (f : FuncId) (fn : Func) (hf : Tryz.pinned.checked.prog.funcNamed "retag/retagkeep.Sorted" = some f) (hfn : Tryz.pinned.checked.prog.funcs[f]? = some fn) :
    true = Tryz.pinned.checked.prog.looks [] ∧ ∀ (j : Nat) t, fn.params[j]? = some t → Tryz.pinned.checked.prog.wantsStandIn t = false := by
  obtain rfl : f = 4 := Option.some.inj ((show Tryz.prog.funcNamed "retag/retagkeep.Sorted" = some 4 by kernel_rfl).symm.trans hf) |>.symm
  obtain rfl : fn = Tryz.f4 := (Option.some.inj (Tryz.func4.symm.trans hfn)).symm
  refine ⟨by kernel_rfl, fun j t ht => ?_⟩
  rw [Tryz.params4] at ht
  rcases (show t = 31 ∨ t = 32 by simpa using Array.mem_of_getElem? ht) with rfl | rfl
  · exact (show Tryz.prog.wantsStandIn 31 = false by kernel_rfl)
  · exact (show Tryz.prog.wantsStandIn 32 = false by kernel_rfl)

theorem sorted_card : Rows.SortedCardSaid :=
  Claim7.holds_tied_plain_at .later [] _ _ _ _ sorted_said (fun _ h => by cases h) (by kernel_rfl) (fun _ h => by cases h) sorted_row_tie rfl ⟨rfl, rfl⟩ (by kernel_rfl) rfl sorted_plain (by kernel_rfl)
#print axioms sorted_card
end Go.Proofs.YtcbiidoebpkifaaGreatDoor
