/- Contracts of what an engine without rules does with a series. -/
import Derived.Test.YtmeffeigamaipabGreatDoorC8
set_option linter.unusedVariables false
set_option linter.unusedSimpArgs false
namespace Go.Proofs.YtmeffeigamaipabGreatDoor
open Go.RowKit

theorem ser_at (ls : List Lab) (j : Nat) (l : Lab) (h : ls[j]? = some l) : (serC ls)[j * 2]? = some (.string l.1) ∧ (serC ls)[j * 2 + 1]? = some (.string l.2) := by
  have hl := flat_at ls j l h
  have hjl : j < ls.length := (List.getElem?_eq_some_iff.1 h).1
  unfold serC
  rw [List.append_assoc, List.getElem?_append_left (by rw [flat_len]; omega), List.getElem?_append_left (by rw [flat_len]; omega)]
  exact hl
theorem ser_count {ls : List Lab} (h : ls.length ≤ 20) : (serC ls).toArray[40]? = some (.int .i64 ls.length) := by
  unfold serC
  rw [List.getElem?_toArray, List.getElem?_append_right (by rw [List.length_append, flat_len, List.length_replicate]; omega)]
  have : 40 - (cellsOfL ls ++ List.replicate (40 - ls.length * 2) (Value.string ⟨#[]⟩)).length = 0 := by rw [List.length_append, flat_len, List.length_replicate]; omega
  rw [this]; rfl

theorem sl_of_ser {w : World} {b c : Nat} {ls : List Lab} {t : TypeId} (h : BK w b (.cells (serC ls).toArray t (0, 0))) : SL w (.slice (some ⟨b, 0, none⟩) ls.length c) ls := by
  refine .inr ⟨b, c, rfl, h.lt, fun j l hj => ?_⟩
  rw [h.all.1, h.all.1, List.getElem?_toArray, List.getElem?_toArray]
  exact ser_at ls j l hj

theorem sl_own {w : World} {base n : Nat} {v : Value} {ls : List Lab} (h : w.ownsRow base 48 2 v n (cellsOfL ls)) (hn : n = ls.length) : SL w v ls := by subst hn; exact own_sl h

set_option maxHeartbeats 1000000 in
set_option maxRecDepth 100000 in
theorem serLabels (ls : List Lab) (w : World) (hn : ls.length ≤ 20) :
    Calls Tryz.prog 45 #[serV ls] w fun e w' => ∃ q v, e = .returned (.pointer (some ⟨q, 0, none⟩)) ∧ BK w' q (.cells #[v] 98 (0, 0)) ∧ w'.ownsRow w.heap.size 48 2 v ls.length (cellsOfL ls) ∧ w.heap.size ≤ q ∧ (∀ k, v.ownBlock = some k → k ≠ q) ∧ Ex [] w w' := by
  unfold serV
  have hc40 := ser_count hn
  obtain ⟨S, hS⟩ : ∃ S, S = (serC ls).toArray := ⟨_, rfl⟩
  rw [← hS] at hc40 ⊢
  have HS := hide hS
  have H40 := hide hc40
  clear hS hc40
  obtain ⟨n, hnn⟩ : ∃ n, ls.length = n := ⟨_, rfl⟩
  have HN := hide hnn
  have hn' : (n : Int) ≤ 20 := by omega
  have hn2 : n ≤ 20 := by omega
  have k40 : (w.alloc (.cells S 72)).cell? ⟨w.heap.size, 40, none⟩ = some (.int .i64 n) := by
    rw [(BK.new w _).all.1, unhide H40, hnn]
  clear hnn
  go_enter Tryz.func45, Tryz.ntmps45
  go_wp2_with fail
  refine (cloneLab _ ls _ ?_ (by omega)).mono ?_
  · have := sl_of_ser (c := 20) (t := 72) (show BK (w.alloc (.cells S 72)) w.heap.size (.cells (serC ls).toArray 72 (0, 0)) by rw [← unhide HS]; exact BK.new _ _)
    rw [unhide HN] at this
    exact this
  rintro e w1 ⟨v1, rfl, ho1, hx1⟩
  simp only [World.size_alloc] at ho1
  have hz := hx1.size
  simp only [World.size_alloc] at hz
  have HO1 := hide ho1
  have HX1 := hide hx1
  clear ho1 hx1 k40
  obtain ⟨p1, c1, rfl⟩ := own_slice HO1.out
  go_wp2_with fail
  go_ret
  refine ⟨w1.heap.size, _, rfl, BK.new _ _, (own_base HO1.out (by omega)).alloc _, by omega, fun k hk e => ?_, (((Ex.refl _ _).alloc _).trans HX1.out).alloc _⟩
  have := (HO1.out.lt k hk).2
  omega

set_option maxHeartbeats 1000000 in
set_option maxRecDepth 100000 in
theorem labList (q : Nat) (v : Value) (ls : List Lab) (w : World) (hq : BK w q (.cells #[v] 98 (0, 0))) (hv : SL w v ls) (hn : ls.length ≤ 1000) :
    Calls Tryz.prog 47 #[.pointer (some ⟨q, 0, none⟩)] w fun e w' => ∃ v', e = .returned v' ∧
      w'.ownsRow w.heap.size 48 2 v' ls.length (cellsOfL ls) ∧ Ex [] w w' := by
  obtain ⟨hc, hf⟩ := hq.all
  have HV := hide hv
  clear hq hv
  go_enter Tryz.func47, Tryz.ntmps47
  go_wp2_with fail
  refine (cloneLab _ ls _ HV.out hn).mono ?_
  rintro e w1 ⟨v1, rfl, ho1, hx1⟩
  have HO1 := hide ho1
  have HX1 := hide hx1
  clear ho1 hx1 hc hf
  go_wp2_with fail
  go_ret
  exact ⟨_, rfl, HO1.out, HX1.out⟩

/-- An answer as a value. -/
def ansV (v : Value) (b : Bool) : Value := .agg #[v, .bool b]

set_option maxHeartbeats 1000000 in
set_option maxRecDepth 100000 in
/-- Without rules a series is answered by its own labels. -/
theorem rewrite_bare (e : Nat) (mp : Value) (ls : List Lab) (w : World) (he : BK w e (.cells #[.slice none 0 0, mp] 69 (0, 0))) (hn : ls.length ≤ 20) :
    Calls Tryz.prog 33 #[.pointer (some ⟨e, 0, none⟩), serV ls] w fun x w' => ∃ v, x = .returned (ansV v true) ∧
      w'.ownsRow w.heap.size 48 2 v ls.length (cellsOfL ls) ∧ Ex [] w w' := by
  have HE := hide he
  have hel := he.lt
  have hlen := serC_len hn
  have hser : serV ls = .agg (serC ls).toArray := rfl
  rw [hser]
  clear hser
  obtain ⟨S, hS⟩ : ∃ S, S = serC ls := ⟨_, rfl⟩
  rw [← hS] at hlen ⊢
  have HS := hide hS
  have hisz : (Tryz.prog.info? 72).map (·.size) = some S.length := by rw [hlen]; kernel_rfl
  have HI := hide hisz
  clear he hS hlen hisz
  have HRG := hide (BK.rangeL (BK.new w (.cells S.toArray 72)))
  have HRG' := hide (World.rangeAt_alloc HRG.out (.cells #[.slice none 0 0, .bool false] 76))
  go_enter Tryz.func33, Tryz.ntmps33
  go_wp2_with (first
    | (refine wpList_load_mid rfl 72 _ rfl w.heap.size 0 rfl S _ HRG'.out Tryz.underlying72 rfl HI.out ?_))
  have hlb := serLabels ls ((w.alloc (Obj.cells S.toArray 72)).alloc (Obj.cells #[.slice none 0 0, .bool false] 76)) hn
  unfold serV at hlb
  rw [← unhide HS] at hlb
  refine hlb.mono ?_
  clear hlb
  rintro x w1 ⟨q, v1, rfl, hq1, ho1, hlq, hdj, hx1⟩
  have hx01 : Ex [] w w1 := (((Ex.refl _ _).alloc _).alloc _).trans hx1
  have hres : BK w1 (w.heap.size + 1) (.cells #[.slice none 0 0, .bool false] 76 (0, 0)) := by
    have h1 := BK.new (w.alloc (Obj.cells S.toArray 72)) (Obj.cells #[.slice none 0 0, .bool false] 76)
    simp only [World.size_alloc] at h1
    exact h1.ex hx1 (by simp)
  have he1 := HE.out.ex hx01 (by simp)
  simp only [World.size_alloc] at hlq ho1
  have hz1 := hx1.size
  simp only [World.size_alloc] at hz1
  have HQ1 := hide hq1
  have HO1 := hide ho1
  have HX01 := hide hx01
  have HRES := hide hres
  obtain ⟨hce, hfe⟩ := he1.all
  have hel1 := he1.lt
  clear hq1 ho1 hx1 hx01 hres he1 hdj
  go_wp2_with fail
  refine wp_loop_rounds 1 ?_
  rw [rounds_succ]
  go_wp2_with fail
  refine (labList q v1 ls _ HQ1.out (own_sl HO1.out) (by omega)).mono ?_
  rintro x w2 ⟨v2, rfl, ho2, hx2⟩
  have hres2 := HRES.out.ex hx2 (by simp)
  have hz2 := hx2.size
  have HO2 := hide ho2
  have HX2 := hide hx2
  have HR2 := hide hres2
  obtain ⟨p2, c2, rfl⟩ := own_slice ho2
  obtain ⟨hcr, hfr⟩ := hres2.all
  have hrl := hres2.lt
  clear hx2 hres2 ho2 hce hfe
  go_wp2_with fail
  have hb3 := (HR2.out.self 0 (.slice p2 ls.length c2)).self 1 (.bool true)
  simp only [List.setIfInBounds_toArray, List.set_cons_zero, List.set_cons_succ] at hb3
  have hl3 := run_loadVar_mid (P := Tryz.prog) _ (w.heap.size + 1) 0 76 [.slice p2 ls.length c2, .bool true] _ hb3.rangeL Tryz.underlying76 rfl (by kernel_rfl)
  refine bodyPost_ret (results_cell1 rfl rfl hl3) rfl ⟨_, rfl, ?_, ?_⟩
  · exact own_base (own_set (own_set HO2.out (by simp; omega) _) (by simp; omega) _) (by omega)
  · exact ((HX01.out.trans HX2.out).setCell (.inr (by simp)) _).setCell (.inr (by simp)) _
end Go.Proofs.YtmeffeigamaipabGreatDoor
