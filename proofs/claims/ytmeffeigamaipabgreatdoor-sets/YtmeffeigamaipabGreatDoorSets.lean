/- For every three texts, every modulus and every number, retagkeep.Sets answers true and leaves its arguments as they read (Replace by (.*) and a reference to its group sets the text, Lowercase and Uppercase the text in their case, twice as once, HashMod what is left of the hash); taking that the package variables that the row lists read as listed when the call begins, which the card ties to the program's text. -/
import Derived.Test.YtmeffeigamaipabGreatDoorN8
import Derived.Test.YtmeffeigamaipabGreatDoorS6
import Derived.ChangeMaps5
import Derived.Carry
set_option linter.unusedVariables false
set_option linter.unusedSimpArgs false
namespace Go.Proofs.YtmeffeigamaipabGreatDoor
open Go.ChangeShapes Go.WideShapes Go.ChangeAt Go.ChangeMaps Go.RowKit

set_option maxRecDepth 100000 in
theorem sets_lifted (os : Os) (started : os.Started) (H : Type) (enc : TypeId × Value → H) :
    ReturnsInHanded {} Tryz.checked os 6 .any (fun w args => (Rows.setsSpec.pre enc Tryz.prog Tryz.f6 [] false w args ∧ laidMetH Tryz.prog Rows.setsRow.laid w) ∧ sizedMet enc Tryz.prog Tryz.f6 (OpenSpec.ofChange Rows.setsSpec) false w args)
      (Rows.setsSpec.post enc Tryz.prog Tryz.f6 false true false false) := by
  obtain ⟨w0, k1, k2, k3, k4, k5, k6⟩ := start_fits os H enc
  refine returnsInHanded_of_change_and (C := Tryz.checked) (X := fun w _ => laidMetH Tryz.prog Rows.setsRow.laid w) (fun _ _ _ hh h => h.of_heap hh) own started (by kernel_rfl) Tryz.func6
    (ChangeSpec.witness_shaped (enc := enc) (C := Tryz.checked) (os := os) (X := fun w _ => laidMetH Tryz.prog Rows.setsRow.laid w) false w0 #[.string ⟨#[]⟩, .string ⟨#[]⟩, .string ⟨#[]⟩, .int .u64 0, .int .i64 0] 8 k1 k2 k3 k4 k5 k6) ?_
  intro W base args ds gs before hval0 hW _ _ hL _
  have hval : ∀ (j : Nat) t v, Tryz.f6.params[j]? = some t → args[j]? = some v → Value.okWide Tryz.prog W .any base t v := hval0
  have hW' := hW
  obtain ⟨ps, qs, hA0, hV, rfl, hfz, hnd⟩ := hW
  have hA : DataW.TrodAll enc Tryz.prog W 0 (fun _ => true) true Tryz.f6.params.toList args.toList ds ps := hA0
  rw [Tryz.params6] at hA hval
  obtain ⟨v0, vs, d0, ds', p0, qq, hargs, rfl, rfl, h0, hrest⟩ := trodAll_cons hA
  obtain ⟨args⟩ := args
  simp only at hargs
  subst hargs
  have hA4 : DataW.TrodAll enc Tryz.prog W 0 (fun _ => true) true [9, 9, 35, 3] vs.toArray.toList ds' qq := by simpa using hrest
  obtain ⟨v1, v2, v3, v4, d1, d2, d3, d4, p1, p2, p3, p4, hvs, rfl, rfl, h1, h2, h3, h4⟩ := trodAll_four hA4
  have hvs' : vs = [v1, v2, v3, v4] := by have := congrArg Array.toList hvs; simpa using this
  subst hvs'
  obtain ⟨rfl, rfl⟩ := trodVars_none hV
  obtain ⟨a0, rfl, rfl, rfl, w0'⟩ := open_string Tryz.underlying9 (hval 0 9 v0 rfl rfl) h0
  obtain ⟨a1, rfl, rfl, rfl, w1'⟩ := open_string Tryz.underlying9 (hval 1 9 v1 rfl rfl) h1
  obtain ⟨a2, rfl, rfl, rfl, w2'⟩ := open_string Tryz.underlying9 (hval 2 9 v2 rfl rfl) h2
  obtain ⟨a3, rfl, rfl, rfl, w3'⟩ := open_int Tryz.underlying35 (hval 3 35 v3 rfl rfl) h3
  obtain ⟨a4, rfl, rfl, rfl, w4'⟩ := open_int Tryz.underlying3 (hval 4 3 v4 rfl rfl) h4
  clear hA0 hval0
  simp only [List.append_nil] at hW'
  obtain ⟨ev, hpre⟩ := sets_list hL
  have m0 : a0.size ≤ 9223372036854775807 := by unfold maxLen at w0'; omega
  have m1 : a1.size ≤ 9223372036854775807 := by unfold maxLen at w1'; omega
  have m2 : a2.size ≤ 9223372036854775807 := by unfold maxLen at w2'; omega
  have m3 : 0 ≤ a3 ∧ a3 < 18446744073709551616 := by
    have u0 : IntKind.u64.min = 0 := rfl
    have u1 : IntKind.u64.max = 18446744073709551615 := rfl
    have h9 := w3'
    simp only [Lit.wf, Bool.and_eq_true, decide_eq_true_eq] at h9
    omega
  refine (G.sets_any a0 a1 a2 a3 a4 ev W m0 m1 m2 m3 (wf_i64 w4') hpre).mono fun x W' ⟨he, hx⟩ => ?_
  subst he
  have bel := hx.toBelow
  refine ⟨_, rfl, _, _, _, [], [], [], hW', ?_, ?_, ?_, bel.frame _, fun h => by cases h⟩
  · exact trodAll_mk1 (shut_bool Tryz.underlying4 _)
  · exact ⟨_, _, shut_string Tryz.underlying9 w0', ⟨_, _, shut_string Tryz.underlying9 w1', trodAll_mk3 (shut_string Tryz.underlying9 w2') (shut_int Tryz.underlying35 w3') (shut_int Tryz.underlying3 w4'), rfl⟩, rfl⟩
  · rfl

theorem sets_said : Rows.SetsSaid :=
  OpenClaim.holds_of_wide 6 Tryz.f6 rfl rfl rfl rfl rfl rfl rfl ⟨rfl, rfl, rfl, rfl, rfl⟩ rfl rfl rfl rfl rfl (by kernel_rfl) Tryz.func6 (by kernel_rfl)
    (of_decide_eq_true (by kernel_rfl)) (by unfold Func.isWrapper; first | (rw [if_pos (by decide +kernel)]; kernel_rfl) | (rw [if_neg (by decide +kernel)]; exact ⟨rfl, rfl⟩))
    (fun os started H enc _ => sets_lifted os started H enc)

theorem sets_plain (f : FuncId) (fn : Func) (hf : Tryz.pinned.checked.prog.funcNamed "retag/retagkeep.Sets" = some f) (hfn : Tryz.pinned.checked.prog.funcs[f]? = some fn) :
    true = Tryz.pinned.checked.prog.looks [] ∧ ∀ (j : Nat) t, fn.params[j]? = some t → Tryz.pinned.checked.prog.wantsStandIn t = false := by
  obtain rfl : f = 6 := Option.some.inj ((show Tryz.prog.funcNamed "retag/retagkeep.Sets" = some 6 by kernel_rfl).symm.trans hf) |>.symm
  obtain rfl : fn = Tryz.f6 := (Option.some.inj (Tryz.func6.symm.trans hfn)).symm
  refine ⟨by kernel_rfl, fun j t ht => ?_⟩
  rw [Tryz.params6] at ht
  rcases (show t = 9 ∨ t = 9 ∨ t = 9 ∨ t = 35 ∨ t = 3 by simpa using Array.mem_of_getElem? ht) with rfl | rfl | rfl | rfl | rfl
  · exact (show Tryz.prog.wantsStandIn 9 = false by kernel_rfl)
  · exact (show Tryz.prog.wantsStandIn 9 = false by kernel_rfl)
  · exact (show Tryz.prog.wantsStandIn 9 = false by kernel_rfl)
  · exact (show Tryz.prog.wantsStandIn 35 = false by kernel_rfl)
  · exact (show Tryz.prog.wantsStandIn 3 = false by kernel_rfl)

theorem sets_card : Rows.SetsCardSaid :=
  Claim7.holds_tied_plain_at .later [] _ _ _ _ sets_said (fun _ h => by cases h) (by kernel_rfl) (fun _ h => by cases h) sets_row_tie rfl ⟨rfl, rfl⟩ (by kernel_rfl) rfl sets_plain (by kernel_rfl)
#print axioms sets_card
end Go.Proofs.YtmeffeigamaipabGreatDoor
