/- For every two strings of together at most 1048576 letters and values, retaglaw.Matches answers true and leaves its arguments as they read (the program and the document find the same match, or none); taking that the package variables that the row lists read as listed when the call begins, which the card ties to the program's text. -/
import Derived.Test.YtfnanjbleifjkaaGreatDoorM51
import Derived.Deep.DeepHandedRow
set_option linter.unusedVariables false
set_option linter.unusedSimpArgs false
set_option maxRecDepth 100000
namespace Go.Proofs.YtfnanjbleifjkaaGreatDoor
open Go.ChangeShapes Go.WideShapes Go.ChangeAt Go.ChangeMaps Go.RowKit
theorem kH (os : Os) (started : os.Started) (H : Type) (enc : TypeId × Value -> H) (F : Stop.Interp) :
  ReturnsInHanded {} Tryz.checked os 3 .any ((Rows.OpenSpec.upto Rows.matchesSpec).preRow enc Tryz.prog Tryz.f3 Rows.matchesUptoRow.domain false Rows.matchesUptoRow.laid) (((Rows.OpenSpec.upto Rows.matchesSpec).at F).post enc Tryz.prog Tryz.f3 false true false false) := by
 obtain ⟨w0, k1, k2, k3, ⟨places, k4⟩, k5, k6⟩ := lJ os H enc
 refine returnsInHanded_of_row (C := Tryz.checked) (s := Rows.OpenSpec.upto Rows.matchesSpec) own started (by kernel_rfl) Tryz.func3
  ⟨w0, fun _ _ => 0, ⟨#[], #[.string ⟨#[]⟩, .string ⟨#[]⟩], []⟩, k1, k2, (Input.okWide_of_okWideB (base := 0) k3).1, (Input.okWide_of_okWideB k3).2, OpenSpec.preRow_of_cond 8 k4 (by kernel_rfl) (fun k hk => by cases hk; kernel_rfl) k5 k6, by
   simp only [Assume.holds]
   exact ⟨by simp, by simp, fun _ => Modest.zero, by simp, by simp⟩⟩ ?_
 intro W base args ds gs before hval0 hW _ hcond _ hL _ _
 have hval : ∀ (j : Nat) t v, Tryz.f3.params[j]? = some t -> args[j]? = some v -> Value.okWide Tryz.prog W .any base t v := hval0
 have hW' := hW
 have hk := hcond _ rfl
 clear hcond
 obtain ⟨ps, qs, hA0, hV, rfl, hfz, hnd⟩ := hW
 have hA : DataW.TrodAll enc Tryz.prog W 0 (fun _ => true) true Tryz.f3.params.toList args.toList ds ps := hA0
 rw [Tryz.params3] at hA hval
 obtain ⟨v0, v1, d0, d1, p0, p1, rfl, rfl, rfl, h0, h1⟩ := trodAll_two hA
 obtain ⟨rfl, rfl⟩ := trodVars_none hV
 obtain ⟨t, rfl, rfl, rfl, w1'⟩ := open_string Tryz.underlying9 (hval 0 9 v0 rfl rfl) h0
 obtain ⟨s, rfl, rfl, rfl, w2'⟩ := open_string Tryz.underlying9 (hval 1 9 v1 rfl rfl) h1
 clear hA0 hval0
 simp only [List.append_nil] at hW'
 have hz : s.size <= 1048576 := by
  have h := of_decide_eq_true hk
  simp only [Rows.uptoBulkAll, Rows.uptoBulk, List.append_nil] at h
  have e : s.data.toList.length = s.size := by rw [Array.length_toList]; rfl
  omega
 clear hk
 obtain ⟨ev, hev, hgl⟩ := oC hL
 refine (G.matchesLaw_any t s hz ev W hev hgl).mono fun x W' ⟨he, hx⟩ => ?_
 subst he
 have bel := hx.toBelow
 refine ⟨_, rfl, _, _, _, [], [], [], hW', ?_, ?_, ?_, bel.frame _, fun h => by cases h⟩
 ·exact trodAll_mk1 (shut_bool Tryz.underlying4 _)
 ·exact trodAll_mk2 (shut_string Tryz.underlying9 w1') (shut_string Tryz.underlying9 w2')
 ·rfl
theorem nE : Rows.MatchesUptoSaid :=
 OpenClaim.holds_of_cond 3 Tryz.f3 rfl rfl rfl rfl rfl rfl rfl ⟨rfl, rfl, rfl, rfl, rfl⟩ rfl rfl rfl rfl rfl (by kernel_rfl) Tryz.func3 (by kernel_rfl)
  (of_decide_eq_true (by kernel_rfl)) (by unfold Func.isWrapper; first | (rw [if_pos (by decide +kernel)]; kernel_rfl) | (rw [if_neg (by decide +kernel)]; exact ⟨rfl, rfl⟩))
  (fun os started H enc _ F => by rw [OpenClaim.pre_eq_preRow]; exact kH os started H enc F)
theorem lU (f : FuncId) (fn : Func) (hf : Tryz.pinned.checked.prog.funcNamed "retag/retaglaw.Matches" = some f) (hfn : Tryz.pinned.checked.prog.funcs[f]? = some fn) :
  true = Tryz.pinned.checked.prog.looks [] /\ ∀ (j : Nat) t, fn.params[j]? = some t -> Tryz.pinned.checked.prog.wantsStandIn t = false := by
 obtain rfl : f = 3 := Option.some.inj ((show Tryz.prog.funcNamed "retag/retaglaw.Matches" = some 3 by kernel_rfl).symm.trans hf) |>.symm
 obtain rfl : fn = Tryz.f3 := (Option.some.inj (Tryz.func3.symm.trans hfn)).symm
 refine ⟨by kernel_rfl, fun j t ht => ?_⟩
 rw [Tryz.params3] at ht
 obtain rfl : t = 9 := by simpa using Array.mem_of_getElem? ht
 exact (show Tryz.prog.wantsStandIn 9 = false by kernel_rfl)
theorem matches_card : Rows.MatchesUptoCardSaid :=
 Claim7.holds_tied_plain_at .later [] _ _ _ _ nE (fun _ h => by cases h) (by kernel_rfl) (fun _ h => by cases h) matchesUpto_row_tie rfl ⟨rfl, rfl⟩ (by kernel_rfl) rfl lU (by kernel_rfl)
#print axioms matches_card
end Go.Proofs.YtfnanjbleifjkaaGreatDoor
