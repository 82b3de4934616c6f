/- For every list of rules, of whatever content, retaglaw.Loads answers true and leaves its argument as it reads (the program and the document say alike which rule of a list is not right, why, and where its text gives up being a pattern; the list that is handed in stays as it was); taking that the package variables that the row lists read as listed when the call begins, which the card ties to the program's text. -/
import Derived.Test.YtgmjjhmnchefbaaGreatDoorM47
set_option linter.unusedVariables false
set_option linter.unusedSimpArgs false
namespace Go.Proofs.YtgmjjhmnchefbaaGreatDoor
open Go.ChangeShapes Go.WideShapes Go.ChangeAt Go.ChangeMaps Go.RowKit

set_option maxRecDepth 100000 in
theorem loads_lifted (os : Os) (started : os.Started) (H : Type) (enc : TypeId × Value → H) :
    ReturnsInHanded {} Tryz.checked os 4 .any (fun w args => (Rows.loadsSpec.pre enc Tryz.prog Tryz.f4 [] false w args ∧ laidMetH Tryz.prog Rows.loadsRow.laid w) ∧ sizedMet enc Tryz.prog Tryz.f4 (OpenSpec.ofChange Rows.loadsSpec) false w args)
      (Rows.loadsSpec.post enc Tryz.prog Tryz.f4 false true false false) := by
  obtain ⟨w0, k1, k2, k3, k4, k5, k6⟩ := start_fits os H enc
  refine returnsInHanded_of_change_and (C := Tryz.checked) (X := fun w _ => laidMetH Tryz.prog Rows.loadsRow.laid w) (fun _ _ _ hh h => h.of_heap hh) own started (by kernel_rfl) Tryz.func4
    (ChangeSpec.witness_shaped (enc := enc) (C := Tryz.checked) (os := os) (X := fun w _ => laidMetH Tryz.prog Rows.loadsRow.laid w) false w0 #[.slice none 0 0] 8 k1 k2 k3 k4 k5 k6) ?_
  intro W base args ds gs before hval0 hW _ hsz hL _
  have hval : ∀ (j : Nat) t v, Tryz.f4.params[j]? = some t → args[j]? = some v → Value.okWide Tryz.prog W .any base t v := hval0
  have hW' := hW
  obtain ⟨ps, qs, hA0, hV, rfl, hfz, hnd⟩ := hW
  have hA : DataW.TrodAll enc Tryz.prog W 0 (fun _ => true) true Tryz.f4.params.toList args.toList ds ps := hA0
  rw [Tryz.params4] at hA hval
  obtain ⟨v0, d0, rfl, rfl, h0⟩ := trodAll_one hA
  have h0k := h0
  obtain ⟨rfl, rfl⟩ := trodVars_none hV
  rw [Tryz.params4] at hsz
  obtain ⟨rs, us, hz⟩ := open_rz (hval 0 31 v0 rfl rfl) h0 (weights_cons hsz).1
  clear hA0 hval0
  simp only [List.append_nil] at hW'
  obtain ⟨hub, ev, hev⟩ := loads_list hL
  have hlt : ∀ x ∈ ps, x.block < W.heap.size := fun x hx => by simpa using hW'.lt x hx
  refine (G.Loads_any v0 rs us (x := ev) W hz.al hz.len hz.say hz.f1 hz.f2 hz.f3 hz.n hub hev).mono fun x W' ⟨he, hx⟩ => ?_
  subst he
  have bel := hx.toBelow
  refine ⟨_, rfl, _, _, _, [], ps, [], hW', ?_, ?_, ?_, bel.frame _, fun h => by cases h⟩
  · exact trodAll_mk1 (shut_bool Tryz.underlying4 _)
  · exact trodAll_mk1 (Below.trod laidOut (by kernel_rfl) (of_decide_eq_true (by kernel_rfl)) h0k bel (fun x hx => hlt x hx))
  · rfl

theorem loads_said : Rows.LoadsSaid :=
  OpenClaim.holds_of_wide 4 Tryz.f4 rfl rfl rfl rfl rfl rfl rfl ⟨rfl, rfl, rfl, rfl, rfl⟩ rfl rfl rfl rfl rfl (by kernel_rfl) Tryz.func4 (by kernel_rfl)
    (of_decide_eq_true (by kernel_rfl)) (by unfold Func.isWrapper; first | (rw [if_pos (by decide +kernel)]; kernel_rfl) | (rw [if_neg (by decide +kernel)]; exact ⟨rfl, rfl⟩))
    (fun os started H enc _ => loads_lifted os started H enc)

theorem loads_plain (f : FuncId) (fn : Func) (hf : Tryz.pinned.checked.prog.funcNamed "retag/retaglaw.Loads" = some f) (hfn : Tryz.pinned.checked.prog.funcs[f]? = some fn) :
    true = Tryz.pinned.checked.prog.looks [] ∧ ∀ (j : Nat) t, fn.params[j]? = some t → Tryz.pinned.checked.prog.wantsStandIn t = false := by
  obtain rfl : f = 4 := Option.some.inj ((show Tryz.prog.funcNamed "retag/retaglaw.Loads" = some 4 by kernel_rfl).symm.trans hf) |>.symm
  obtain rfl : fn = Tryz.f4 := (Option.some.inj (Tryz.func4.symm.trans hfn)).symm
  refine ⟨by kernel_rfl, fun j t ht => ?_⟩
  rw [Tryz.params4] at ht
  obtain rfl : t = 31 := by simpa using Array.mem_of_getElem? ht
  exact (show Tryz.prog.wantsStandIn 31 = false by kernel_rfl)

theorem loads_card : Rows.LoadsCardSaid :=
  Claim7.holds_tied_plain_at .later [] _ _ _ _ loads_said (fun _ h => by cases h) (by kernel_rfl) (fun _ h => by cases h) loads_row_tie rfl ⟨rfl, rfl⟩ (by kernel_rfl) rfl loads_plain (by kernel_rfl)
#print axioms loads_card
end Go.Proofs.YtgmjjhmnchefbaaGreatDoor
