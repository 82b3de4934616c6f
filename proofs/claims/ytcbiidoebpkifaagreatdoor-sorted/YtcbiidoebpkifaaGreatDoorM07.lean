/- Contract of (*memory.Memory).remember where there is room. -/
import Derived.Test.YtcbiidoebpkifaaGreatDoorM06
import Derived.Test.YtcbiidoebpkifaaGreatDoorM03
import Derived.Deep.RegionHeld3
set_option linter.unusedVariables false
set_option linter.unusedSimpArgs false
namespace Go.Proofs.YtcbiidoebpkifaaGreatDoor
open Go.RowKit

set_option maxHeartbeats 2000000 in
set_option maxRecDepth 100000 in
theorem remember_room (R : List Value → List Lab → Bool → Prop) (m mb base room : Nat) (ts : List (List Value)) (tv : Value) (es : Array MapEntry) (clk : Nat) (S : List Value) (sl : Value) (ls : List Lab) (b : Bool) (w : World)
    (hm : MM R w m mb base room ts tv es clk) (hS : SerOk S) (hno : S ∉ ts) (hroom : ts.length < room) (hsl : SL w sl ls) (hl60 : ls.length ≤ 60) (hR : R S ls b) (hfr : ∀ k, sl.ownBlock = some k → base ≤ k ∧ tv.ownBlock ≠ some k ∧ IsLabs w k) :
    Calls Tryz.prog 50 #[.pointer (some ⟨m, 0, none⟩), .agg S.toArray, ansV sl b] w fun e w' => e = .returned (.tuple #[]) ∧ ∃ tv' es' clk', MM R w' m mb base room (ts ++ [S]) tv' es' clk' ∧ Ex (m :: mb :: tv.ownBlock.toList) w w' := by
  have HM := hide hm
  have HS := hide hS
  have HNO := hide (hm.not_mem hno)
  have HNT := hide hno
  have hle := hm.le
  have hr50 := hm.room50
  have hmlt := hm.mlt
  have hmblt := hm.mblt
  have hne := hm.ne
  obtain ⟨pt, ct, rfl⟩ := own_slice hm.row
  obtain ⟨psl, csl, rfl⟩ := hsl.slice
  have HSL := hide hsl
  have HR := hide hR
  have HFR := hide hfr
  obtain ⟨hcm, hfm⟩ := hm.blk.all
  have hml := hm.blk.lt
  have hlr : ¬ (ts.length : Int) = (room : Int) := by omega
  have hlr' : ((ts.length : Int) == (room : Int)) = false := by simpa using hlr
  clear hm hS hno hsl hR hfr
  unfold ansV
  go_enter Tryz.func50, Tryz.ntmps50
  go_wp2_with fail
  go_quiet (fail)
  go_wp2_with fail
  generalize hw0 : World.drewN _ nq = w0
  have hx0 : Ex [] w w0 := by rw [← hw0]; exact (((Ex.refl _ _).alloc _).alloc _).drewN _
  have hb4 : BK w0 w.heap.size (.cells S.toArray 74 (0, 0)) := by rw [← hw0]; exact ((BK.new _ _).alloc _).drewN _
  have hb5 : BK w0 (w.heap.size + 1) (.cells #[.slice psl ls.length csl, .bool b] 78 (0, 0)) := by
    have h1 := BK.new (w.alloc (Obj.cells S.toArray 74)) (Obj.cells #[.slice psl ls.length csl, .bool b] 78)
    simp only [World.size_alloc] at h1
    rw [← hw0]; exact h1.drewN _
  have hm0 := HM.out.ex hx0 (by simp)
  have hisz : (Tryz.prog.info? 74).map (·.size) = some S.length := by rw [HS.out.1]; kernel_rfl
  have HI := hide hisz
  have hld := run_loadAt_mid (P := Tryz.prog) w0.drew w.heap.size 0 74 S _ hb4.drew.rangeL Tryz.underlying74 rfl hisz
  have hup := upd_miss (w := w0.drew) (.agg #[.slice psl ls.length csl, .bool b]) hm0.map.drew hm0.keysOk HS.out HNO.out
  obtain ⟨w1, hw1⟩ : ∃ w1, w1 = putB w0.drew mb (.map (es.push { key := .agg S.toArray, val := .agg #[.slice psl ls.length csl, .bool b], born := clk }) (clk + 1)) := ⟨_, rfl⟩
  rw [← hw1] at hup
  have hx1 : Ex [mb] w0 w1 := by rw [hw1]; exact ((Ex.refl _ _).drew).trans (putB_ex _ _ _)
  have hmap1 : BK w1 mb (.map (es.push { key := .agg S.toArray, val := .agg #[.slice psl ls.length csl, .bool b], born := clk }) (clk + 1)) := by rw [hw1]; exact putB_bk hm0.map.drew
  have hz0 : w.heap.size + 2 ≤ w0.heap.size := hb5.lt
  have r0 := hb4.rangeL
  have c0 : w0.cell? ⟨m, 0, none⟩ = some (.map (some mb)) := hm0.blk.all.1 0
  have d0 : w0.cell? ⟨w.heap.size + 1, 0, none⟩ = some (.slice psl ls.length csl) := hb5.all.1 0
  have d1 : w0.cell? ⟨w.heap.size + 1, 1, none⟩ = some (.bool b) := hb5.all.1 1
  have hb41 := hb4.ex hx1 (by simp; omega)
  have hb51 := hb5.ex hx1 (by simp; omega)
  have hbm1 := hm0.blk.ex hx1 (by simpa using hne)
  have r1 := hb41.rangeL
  have c1 : w1.cell? ⟨m, 0, none⟩ = some (.map (some mb)) := hbm1.all.1 0
  have e0 : w1.cell? ⟨w.heap.size + 1, 0, none⟩ = some (.slice psl ls.length csl) := hb51.all.1 0
  have e1 : w1.cell? ⟨w.heap.size + 1, 1, none⟩ = some (.bool b) := hb51.all.1 1
  have hload : ∀ w' : World, w'.rangeAt w.heap.size 0 S → (Instr.loadAt 74 (.pointer (some ⟨w.heap.size, 0, none⟩))).run Tryz.prog w' = .ok (.agg S.toArray) w' := fun w' h => run_loadAt_mid (P := Tryz.prog) w' w.heap.size 0 74 S _ h Tryz.underlying74 rfl hisz
  have hml0 := hm0.blk.lt
  have hl5 := hb5.lt
  have HX0 := hide hx0
  have HX1 := hide hx1
  have HM0 := hide hm0
  have HMAP1 := hide hmap1
  have HB41 := hide hb41
  have HBM1 := hide hbm1
  clear hw0 hw1 hx0 hx1 hm0 hmap1 hb4 hb5 hb41 hb51 hbm1 hisz hlr hlr' hcm hfm hml hld
  refine wp_region_J (by kernel_rfl) ?_
  refine wpAny_take (i := 0) (v := ?_) rfl (by kernel_rfl) (by kernel_rfl) (by kernel_rfl) (fun _ _ _ h => h) (Or.inl ⟨by rfl, ?_⟩) ?_
  rotate_left
  · intro w'
    go_simp
    try with_reducible rfl
  simp only [Act.put, List.setIfInBounds_toArray, List.set_cons_zero, List.set_cons_succ, List.getElem_toArray, List.getElem_cons_zero, List.getElem_cons_succ, List.replicate, Array.replicate, List.size_toArray, List.length_cons, List.length_nil]
  refine wpAny_take (i := 1) (v := ?_) rfl (by kernel_rfl) (by kernel_rfl) (by kernel_rfl) (fun _ _ _ h => h) (Or.inl ⟨by rfl, ?_⟩) ?_
  rotate_left
  · intro w'
    go_simp
    try with_reducible rfl
  simp only [Act.put, List.setIfInBounds_toArray, List.set_cons_zero, List.set_cons_succ, List.getElem_toArray, List.getElem_cons_zero, List.getElem_cons_succ, List.replicate, Array.replicate, List.size_toArray, List.length_cons, List.length_nil]
  refine wpAny_take (i := 2) (v := ?_) rfl (by kernel_rfl) (by kernel_rfl) (by kernel_rfl) (fun _ _ _ h => h) (Or.inl ⟨by rfl, ?_⟩) ?_
  rotate_left
  · intro w'
    go_simp
    try with_reducible rfl
  simp only [Act.put, List.setIfInBounds_toArray, List.set_cons_zero, List.set_cons_succ, List.getElem_toArray, List.getElem_cons_zero, List.getElem_cons_succ, List.replicate, Array.replicate, List.size_toArray, List.length_cons, List.length_nil]
  refine wpAny_of_J (S := (fun j w' => j < 6 → w'.rangeAt w.heap.size 0 S ∧ w'.cell? ⟨m, 0, none⟩ = some (.map (some mb)) ∧ w'.cell? ⟨w.heap.size + 1, 0, none⟩ = some (.slice psl ls.length csl) ∧ w'.cell? ⟨w.heap.size + 1, 1, none⟩ = some (.bool b))) _ _ _ _ ?_
  refine wpAnyJ_take (i := 3) (T := (fun w' => w'.rangeAt w.heap.size 0 S ∧ w'.cell? ⟨m, 0, none⟩ = some (.map (some mb)) ∧ w'.cell? ⟨w.heap.size + 1, 0, none⟩ = some (.slice psl ls.length csl) ∧ w'.cell? ⟨w.heap.size + 1, 1, none⟩ = some (.bool b))) (v := ?_) (fun j => decide (j < 6)) rfl (by kernel_rfl) (by kernel_rfl) (by kernel_rfl) (by kernel_rfl) (fun j w' hj h => h (by simpa using hj)) (fun w' h _ => h) (fun _ _ _ h => h) ⟨r0, c0, d0, d1⟩ (Or.inl ⟨by rfl, ?_⟩) ?_
  rotate_left
  · intro w' hSw
    obtain ⟨f1, f2, f3, f4⟩ := hSw
    go_simp
    try with_reducible rfl
  simp only [Act.put, List.setIfInBounds_toArray, List.set_cons_zero, List.set_cons_succ, List.getElem_toArray, List.getElem_cons_zero, List.getElem_cons_succ, List.replicate, Array.replicate, List.size_toArray, List.length_cons, List.length_nil]
  refine wpAnyJ_take (i := 4) (T := (fun w' => w'.rangeAt w.heap.size 0 S ∧ w'.cell? ⟨m, 0, none⟩ = some (.map (some mb)) ∧ w'.cell? ⟨w.heap.size + 1, 0, none⟩ = some (.slice psl ls.length csl) ∧ w'.cell? ⟨w.heap.size + 1, 1, none⟩ = some (.bool b))) (v := _) (fun j => decide (j < 6)) rfl (by kernel_rfl) (by kernel_rfl) (by kernel_rfl) (by kernel_rfl) (fun j w' hj h => h (by simpa using hj)) (fun w' h _ => h) (fun _ _ _ h => h) ⟨r0, c0, d0, d1⟩ (yieldsIf_load_mid (by rfl) _ _ rfl _ _ rfl S _ (fun w' h => h.1) Tryz.underlying74 rfl HI.out) ?_
  simp only [Act.put, List.setIfInBounds_toArray, List.set_cons_zero, List.set_cons_succ, List.getElem_toArray, List.getElem_cons_zero, List.getElem_cons_succ, List.replicate, Array.replicate, List.size_toArray, List.length_cons, List.length_nil]
  refine wpAnyJ_take (i := 5) (T := (fun w' => w'.rangeAt w.heap.size 0 S ∧ w'.cell? ⟨m, 0, none⟩ = some (.map (some mb)) ∧ w'.cell? ⟨w.heap.size + 1, 0, none⟩ = some (.slice psl ls.length csl) ∧ w'.cell? ⟨w.heap.size + 1, 1, none⟩ = some (.bool b))) (v := ?_) (fun j => decide (j < 6)) rfl (by kernel_rfl) (by kernel_rfl) (by kernel_rfl) (by kernel_rfl) (fun j w' hj h => h (by simpa using hj)) (fun w' h _ => h) (fun _ _ _ h => h) ⟨r0, c0, d0, d1⟩ (Or.inl ⟨by rfl, ?_⟩) ?_
  rotate_left
  · intro w' hSw
    obtain ⟨f1, f2, f3, f4⟩ := hSw
    go_simp
    try with_reducible rfl
  simp only [Act.put, List.setIfInBounds_toArray, List.set_cons_zero, List.set_cons_succ, List.getElem_toArray, List.getElem_cons_zero, List.getElem_cons_succ, List.replicate, Array.replicate, List.size_toArray, List.length_cons, List.length_nil]
  refine wpAnyJ_one (i := 6) rfl rfl (by kernel_rfl) (fun K hK => ?_)
  go_simp
  refine hK.out _ _ (fun h => by omega) ?_
  clear hK K
  refine wpAnyJ_done (by kernel_rfl) ?_ _
  have t1 : w1.cell? ⟨m, 1, none⟩ = some (.slice pt ts.length ct) := HBM1.out.all.1 1
  have hml1 := HBM1.out.lt
  obtain ⟨ti, hti, hzz0, hzz1, hzz2⟩ := info_parts infoSer
  have HROW := hide HM.out.row
  have HROW1 := hide (own_ex HM0.out.row HX1.out (by simpa using hmblt))
  have hz1 : w0.heap.size ≤ w1.heap.size := HX1.out.size
  clear c0 d0 d1 c1 e0 e1 r0 hup hload
  go_wp2_with fail
  refine wp_region_J (by kernel_rfl) ?_
  refine wpAny_take (i := 0) (v := ?_) rfl (by kernel_rfl) (by kernel_rfl) (by kernel_rfl) (fun _ _ _ h => h) (Or.inl ⟨by rfl, ?_⟩) ?_
  rotate_left
  · intro w'
    go_simp
    try with_reducible rfl
  simp only [Act.put, List.setIfInBounds_toArray, List.set_cons_zero, List.set_cons_succ, List.getElem_toArray, List.getElem_cons_zero, List.getElem_cons_succ, List.replicate, Array.replicate, List.size_toArray, List.length_cons, List.length_nil]
  refine wpAny_take (i := 1) (v := ?_) rfl (by kernel_rfl) (by kernel_rfl) (by kernel_rfl) (fun _ _ _ h => h) (Or.inl ⟨by rfl, ?_⟩) ?_
  rotate_left
  · intro w'
    go_simp
    try with_reducible rfl
  simp only [Act.put, List.setIfInBounds_toArray, List.set_cons_zero, List.set_cons_succ, List.getElem_toArray, List.getElem_cons_zero, List.getElem_cons_succ, List.replicate, Array.replicate, List.size_toArray, List.length_cons, List.length_nil]
  refine wpAny_take (i := 2) (v := ?_) rfl (by kernel_rfl) (by kernel_rfl) (by kernel_rfl) (fun _ _ _ h => h) (Or.inl ⟨by rfl, ?_⟩) ?_
  rotate_left
  · intro w'
    go_simp
    try with_reducible rfl
  simp only [Act.put, List.setIfInBounds_toArray, List.set_cons_zero, List.set_cons_succ, List.getElem_toArray, List.getElem_cons_zero, List.getElem_cons_succ, List.replicate, Array.replicate, List.size_toArray, List.length_cons, List.length_nil]
  refine wpAny_take (i := 3) (v := ?_) rfl (by kernel_rfl) (by kernel_rfl) (by kernel_rfl) (fun _ _ _ h => h) (Or.inl ⟨by rfl, ?_⟩) ?_
  rotate_left
  · intro w'
    go_simp
    try with_reducible rfl
  simp only [Act.put, List.setIfInBounds_toArray, List.set_cons_zero, List.set_cons_succ, List.getElem_toArray, List.getElem_cons_zero, List.getElem_cons_succ, List.replicate, Array.replicate, List.size_toArray, List.length_cons, List.length_nil]
  refine wpAny_of_J (S := (fun j w' => j < 10 → w'.rangeAt w.heap.size 0 S ∧ w'.cell? ⟨m, 1, none⟩ = some (.slice pt ts.length ct))) _ _ _ _ ?_
  refine wpAnyJ_take (i := 4) (T := (fun w' => w'.rangeAt w.heap.size 0 S ∧ w'.cell? ⟨m, 1, none⟩ = some (.slice pt ts.length ct))) (v := ?_) (fun j => decide (j < 10)) rfl (by kernel_rfl) (by kernel_rfl) (by kernel_rfl) (by kernel_rfl) (fun j w' hj h => h (by simpa using hj)) (fun w' h _ => h) (fun _ _ _ h => h) ⟨r1, t1⟩ (Or.inl ⟨by rfl, ?_⟩) ?_
  rotate_left
  · intro w' hSw
    obtain ⟨f1, f2⟩ := hSw
    go_simp
    try with_reducible rfl
  simp only [Act.put, List.setIfInBounds_toArray, List.set_cons_zero, List.set_cons_succ, List.getElem_toArray, List.getElem_cons_zero, List.getElem_cons_succ, List.replicate, Array.replicate, List.size_toArray, List.length_cons, List.length_nil]
  refine wpAnyJ_take (i := 5) (T := (fun w' => w'.rangeAt w.heap.size 0 S ∧ w'.cell? ⟨m, 1, none⟩ = some (.slice pt ts.length ct))) (v := _) (fun j => decide (j < 10)) rfl (by kernel_rfl) (by kernel_rfl) (by kernel_rfl) (by kernel_rfl) (fun j w' hj h => h (by simpa using hj)) (fun w' h _ => h) (fun _ _ _ h => h) ⟨r1, t1⟩ (yieldsIf_load_mid (by rfl) _ _ rfl _ _ rfl S _ (fun w' h => h.1) Tryz.underlying74 rfl HI.out) ?_
  simp only [Act.put, List.setIfInBounds_toArray, List.set_cons_zero, List.set_cons_succ, List.getElem_toArray, List.getElem_cons_zero, List.getElem_cons_succ, List.replicate, Array.replicate, List.size_toArray, List.length_cons, List.length_nil]
  refine wpAnyJ_one (i := 6) rfl rfl (by kernel_rfl) (fun K hK => ?_)
  refine wp_buildSlice 137 74 1 _ rfl S.toArray ti _ Tryz.underlying137 hti hzz0 (by rw [hzz1]; decide) (by rw [hzz1]; decide) (by rw [hzz1]; simp only [List.map_toArray, List.map_cons, List.map_nil, Act.eval, List.getElem?_toArray, Array.getD_eq_getD_getElem?, List.getElem?_cons_succ, List.getElem?_cons_zero, Option.getD_some]; refine fill_one HS.out.1 ?_; rw [Array.size_map, Array.size_range]) ?_
  have r2 : (w1.drew.alloc (.cells S.toArray 74)).rangeAt w.heap.size 0 S := (HB41.out.drew.alloc _).rangeL
  have t2 : (w1.drew.alloc (.cells S.toArray 74)).cell? ⟨m, 1, none⟩ = some (.slice pt ts.length ct) := (HBM1.out.drew.alloc _).all.1 1
  refine hK.out _ _ (fun _ => ⟨r2, t2⟩) ?_
  clear hK K
  simp only [Act.put, List.setIfInBounds_toArray, List.set_cons_zero, List.set_cons_succ, List.getElem_toArray, List.getElem_cons_zero, List.getElem_cons_succ, List.replicate, Array.replicate, List.size_toArray, List.length_cons, List.length_nil]
  refine wpAnyJ_one (i := 7) rfl rfl (by kernel_rfl) (fun K hK => ?_)
  refine wp_append_lies _ (.tmp 44) (.tmp 46) 137 rfl base 74 ti _ 41 648 Tryz.underlying137 hti hzz0 hzz1 hzz2 rfl (by decide) (.slice pt ts.length ct) ts.length ts.flatten rfl ((World.ownsRow.drew HROW1.out).alloc _) ⟨w1.heap.size, 0, none⟩ 1 1 S rfl (by rw [HS.out.1]) (cells_new _ _ _) HS.out.plain (by decide) (by unfold maxLen; omega) (by omega) (by simp; omega) _ rfl ?_
  intro g cap w3 hown3 hgrow3 hat3 hlt3
  have hmo : (Value.slice pt ts.length ct).ownBlock ≠ some m := fun e => by have := own_block HROW1.out m e; omega
  have hb43 := BK.grown (HB41.out.drew.alloc (.cells S.toArray 74)) hgrow3 (fun e => by have h1 := (HROW.out.lt _ e).2; omega)
  have hbm3 := BK.grown (HBM1.out.drew.alloc (.cells S.toArray 74)) hgrow3 hmo
  refine hK.out _ _ (fun _ => ⟨hb43.rangeL, hbm3.all.1 1⟩) ?_
  clear hK K
  obtain ⟨hcm3, hfm3⟩ := hbm3.all
  have hml3 := hbm3.lt
  simp only [Act.put, List.setIfInBounds_toArray, List.set_cons_zero, List.set_cons_succ, List.getElem_toArray, List.getElem_cons_zero, List.getElem_cons_succ, List.replicate, Array.replicate, List.size_toArray, List.length_cons, List.length_nil]
  refine wpAnyJ_one (i := 8) rfl rfl (by kernel_rfl) (fun K hK => ?_)
  go_simp
  refine hK.out _ _ (fun _ => ⟨hb43.rangeL, hbm3.all.1 1⟩) ?_
  clear hK K
  simp only [Act.put, List.setIfInBounds_toArray, List.set_cons_zero, List.set_cons_succ, List.getElem_toArray, List.getElem_cons_zero, List.getElem_cons_succ, List.replicate, Array.replicate, List.size_toArray, List.length_cons, List.length_nil]
  refine wpAnyJ_one (i := 9) rfl rfl (by kernel_rfl) (fun K hK => ?_)
  go_simp
  refine hK.out _ _ (fun _ => ⟨hb43.rangeL, hbm3.all.1 1⟩) ?_
  clear hK K
  simp only [Act.put, List.setIfInBounds_toArray, List.set_cons_zero, List.set_cons_succ, List.getElem_toArray, List.getElem_cons_zero, List.getElem_cons_succ, List.replicate, Array.replicate, List.size_toArray, List.length_cons, List.length_nil]
  refine wpAnyJ_one (i := 10) rfl rfl (by kernel_rfl) (fun K hK => ?_)
  go_simp
  refine hK.out _ _ (fun h => by omega) ?_
  clear hK K
  refine wpAnyJ_done (by kernel_rfl) ?_ _
  have hx4 : Ex (m :: mb :: (Value.slice pt ts.length ct).ownBlock.toList) w w3 :=
    (((((HX0.out.drop (by simp)).trans (HX1.out.drop (by simp))).drew).alloc _).grown hgrow3 (fun k hk => .inl (by rw [hk]; simp)))
  have he4 : EB base [m, mb] w w3 :=
    ((((((EB.ofEx HX0.out hle).mono (Nat.le_refl _) (by simp)).trans ((EB.ofEx HX1.out (by omega)).mono (Nat.le_refl _) (fun x hx _ => by simp at hx; subst hx; simp))).drew).alloc (by simp; omega) _).grown hgrow3 (by simp; omega) (fun k hk => .inr (own_block HROW1.out k hk)))
  have hmap3 := BK.grown ((HMAP1.out.drew).alloc (.cells S.toArray 74)) hgrow3 (fun e => by have := own_block HROW1.out mb e; omega)
  have HX4 := hide hx4
  have HE4 := hide he4
  have HMAP3 := hide hmap3
  have HBM3 := hide hbm3
  have HO3 := hide hown3
  have HAT := hide hat3
  clear hx4 he4 hmap3 hbm3 hown3 hat3 hgrow3 hb43 hcm3 hfm3 r1 t1 r2 t2
  go_end0
  have hmm := HM.out
  have htv : (Value.slice (some ⟨g, 0, none⟩) (ts.length + 1) cap).ownBlock = (Value.slice pt ts.length ct).ownBlock ∨ (Value.slice (some ⟨g, 0, none⟩) (ts.length + 1) cap).ownBlock = none ∨ ∃ k, (Value.slice (some ⟨g, 0, none⟩) (ts.length + 1) cap).ownBlock = some k ∧ w.heap.size ≤ k := by
    rcases HAT.out with h | h
    · exact .inl h.symm
    · refine .inr (.inr ⟨g, rfl, ?_⟩)
      simp at h; omega
  have hxx := HX4.out.setCell (p := ⟨m, 1, none⟩) (.inl (by simp)) (Value.slice (some ⟨g, 0, none⟩) (ts.length + 1) cap)
  have hoo : ∀ k ∈ (m :: mb :: (Value.slice pt ts.length ct).ownBlock.toList), k < base ∨ (Value.slice pt ts.length ct).ownBlock = some k := by
    intro k hk
    simp only [List.mem_cons, Option.mem_toList] at hk
    rcases hk with rfl | rfl | hk
    · exact .inl hmlt
    · exact .inl hmblt
    · exact .inr hk
  refine ⟨rfl, .slice (some ⟨g, 0, none⟩) (ts.length + 1) cap, es.push { key := .agg S.toArray, val := .agg #[.slice psl ls.length csl, .bool b], born := clk }, clk + 1, ⟨?_, HMAP3.out.set (by simpa using Ne.symm hne) _, ?_, ?_, ?_, ?_, ?_, by simp; omega, hmm.room1, hmm.room50, hmlt, hmblt, hne, ?_⟩, hxx⟩
  · have := HBM3.out.self 1 (.slice (some ⟨g, 0, none⟩) (ts.length + 1) cap)
    simpa using this
  · have := own_set HO3.out (a := ⟨m, 1, none⟩) hmlt (.slice (some ⟨g, 0, none⟩) (ts.length + 1) cap)
    simpa using this
  · rw [Array.toList_push, List.map_append, List.map_append]
    exact hmm.keys.append (by simp)
  · intro e he
    rw [Array.toList_push, List.mem_append] at he
    rcases he with he | he
    · exact (hmm.ans e he).step hxx hoo htv
    · simp only [List.mem_singleton] at he
      subst he
      exact AnsOk.step ⟨S, _, ls, b, rfl, rfl, HSL.out, hl60, HR.out, HFR.out⟩ hxx hoo htv
  · intro S' hS'
    rcases List.mem_append.1 hS' with h | h
    · exact hmm.ok S' h
    · simp only [List.mem_singleton] at h; subst h; exact HS.out
  · rw [List.nodup_append]
    refine ⟨hmm.nodup, by simp, fun a ha b hb => ?_⟩
    simp only [List.mem_singleton] at hb
    subst hb
    rintro rfl
    exact HNT.out ha
  · have := HE4.out.size; simp; omega
end Go.Proofs.YtcbiidoebpkifaaGreatDoor
