/- For every three strings of together at most 1048576 letters and values, retaglaw.Templates answers true and leaves its arguments as they read (the program and the document build the same text, and hash alike); taking that the package variables that the row lists read as listed when the call begins, which the card ties to the program's text. -/
import Derived.Test.YtfnanjbleifjkaaGreatDoorM47
import Derived.Deep.DeepHandedRow
set_option linter.unusedVariables false
set_option linter.unusedSimpArgs false
set_option maxRecDepth 100000
namespace Go.Proofs.YtfnanjbleifjkaaGreatDoor
open Go.ChangeShapes Go.WideShapes Go.ChangeAt Go.ChangeMaps Go.RowKit
theorem ko (os:Os) (started:os.Started) (H:Type) (enc:TypeId×Value ->H) (F:Stop.Interp):
  ReturnsInHanded {} Tryz.checked os 4 .any ((Rows.OpenSpec.upto Rows.templatesSpec).preRow enc Tryz.prog Tryz.f4 Rows.templatesUptoRow.domain false Rows.templatesUptoRow.laid) (((Rows.OpenSpec.upto Rows.templatesSpec).at F).post enc Tryz.prog Tryz.f4 false true false false):=by
 obtain⟨w0,k1,k2,k3,⟨places,k4⟩,k5,k6⟩:=kQ os H enc
 refine returnsInHanded_of_row (C:=Tryz.checked) (s:=Rows.OpenSpec.upto Rows.templatesSpec) own started (by kernel_rfl) Tryz.func4
  ⟨w0,fun _ _=>0,⟨#[],#[.string ⟨#[]⟩,.string ⟨#[]⟩,.string ⟨#[]⟩],[]⟩,k1,k2,(Input.okWide_of_okWideB (base:=0) k3).1,(Input.okWide_of_okWideB k3).2,OpenSpec.preRow_of_cond 8 k4 (by kernel_rfl) (fun k hk=>by cases hk;kernel_rfl) k5 k6,by
   simp only[Assume.holds]
   exact⟨by simp,by simp,fun _=>Modest.zero,by simp,by simp⟩⟩ ?_
 intro W base args ds gs before hval0 hW _ hcond _ hL _ _
 have hval:∀(j:Nat) t v,Tryz.f4.params[j]? =some t ->args[j]? =some v ->Value.okWide Tryz.prog W .any base t v:=hval0
 have hW':=hW
 have hk:=hcond _ rfl
 clear hcond
 obtain⟨ps,qs,hA0,hV,rfl,hfz,hnd⟩:=hW
 have hA:DataW.TrodAll enc Tryz.prog W 0 (fun _=>true) true Tryz.f4.params.toList args.toList ds ps:=hA0
 rw[Tryz.params4]at hA hval
 obtain⟨v0,v1,v2,d0,d1,d2,p0,p1,p2,rfl,rfl,rfl,h0,h1,h2⟩:=trodAll_three hA
 obtain⟨rfl,rfl⟩:=trodVars_none hV
 obtain⟨t,rfl,rfl,rfl,w1'⟩:=open_string Tryz.underlying9 (hval 0 9 v0 rfl rfl) h0
 obtain⟨s,rfl,rfl,rfl,w2'⟩:=open_string Tryz.underlying9 (hval 1 9 v1 rfl rfl) h1
 obtain⟨u,rfl,rfl,rfl,w3'⟩:=open_string Tryz.underlying9 (hval 2 9 v2 rfl rfl) h2
 clear hA0 hval0
 simp only[List.append_nil]at hW'
 have hz:s.size<=1048576:=by
  have h:=of_decide_eq_true hk
  simp only[Rows.uptoBulkAll,Rows.uptoBulk,List.append_nil]at h
  have e:s.data.toList.length=s.size:=by rw[Array.length_toList];rfl
  omega
 have hz2:u.size<=1048576:=by
  have h:=of_decide_eq_true hk
  simp only[Rows.uptoBulkAll,Rows.uptoBulk,List.append_nil]at h
  have e:u.data.toList.length=u.size:=by rw[Array.length_toList];rfl
  omega
 clear hk
 obtain⟨ev,hev,hgl⟩:=mH hL
 refine (G.templatesLaw_any t s u hz hz2 ev W hev hgl).mono fun x W' ⟨he,hx⟩=> ?_
 subst he
 have bel:=hx.toBelow
 refine⟨_,rfl,_,_,_,[],[],[],hW',?_,?_,?_,bel.frame _,fun h=>by cases h⟩
 ·exact trodAll_mk1 (shut_bool Tryz.underlying4 _)
 ·exact trodAll_mk3 (shut_string Tryz.underlying9 w1') (shut_string Tryz.underlying9 w2') (shut_string Tryz.underlying9 w3')
 ·rfl
theorem mI:Rows.TemplatesUptoSaid:=
 OpenClaim.holds_of_cond 4 Tryz.f4 rfl rfl rfl rfl rfl rfl rfl ⟨rfl,rfl,rfl,rfl,rfl⟩ rfl rfl rfl rfl rfl (by kernel_rfl) Tryz.func4 (by kernel_rfl)
  (of_decide_eq_true (by kernel_rfl)) (by unfold Func.isWrapper;first|(rw[if_pos (by decide+kernel)];kernel_rfl)|(rw[if_neg (by decide+kernel)];exact⟨rfl,rfl⟩))
  (fun os started H enc _ F=>by rw[OpenClaim.pre_eq_preRow];exact ko os started H enc F)
theorem kP (f : FuncId) (fn : Func) (hf : Tryz.pinned.checked.prog.funcNamed "retag/retaglaw.Templates" = some f) (hfn : Tryz.pinned.checked.prog.funcs[f]? = some fn) :
  true=Tryz.pinned.checked.prog.looks []/\∀(j:Nat) t,fn.params[j]? =some t ->Tryz.pinned.checked.prog.wantsStandIn t=false:=by
 obtain rfl : f = 4 := Option.some.inj ((show Tryz.prog.funcNamed "retag/retaglaw.Templates" = some 4 by kernel_rfl).symm.trans hf) |>.symm
 obtain rfl:fn=Tryz.f4:=(Option.some.inj (Tryz.func4.symm.trans hfn)).symm
 refine⟨by kernel_rfl,fun j t ht=> ?_⟩
 rw[Tryz.params4]at ht
 obtain rfl:t=9:=by simpa using Array.mem_of_getElem? ht
 exact (show Tryz.prog.wantsStandIn 9=false by kernel_rfl)
theorem templates_card:Rows.TemplatesUptoCardSaid:=
 Claim7.holds_tied_plain_at .later [] _ _ _ _ mI (fun _ h=>by cases h) (by kernel_rfl) (fun _ h=>by cases h) templatesUpto_row_tie rfl ⟨rfl,rfl⟩ (by kernel_rfl) rfl kP (by kernel_rfl)
#print axioms templates_card
end Go.Proofs.YtfnanjbleifjkaaGreatDoor
