/- W8 W9, one behind the other. -/
import Derived.Test.YtmeffeigamaipabGreatDoorM40
import Derived.MapKept
set_option linter.unusedVariables false
set_option linter.unusedSimpArgs false
/- Contracts of the ways between instructions, at a program of dots. -/
namespace Go.Proofs.YtmeffeigamaipabGreatDoor.Rx
open Go.RowKit

theorem check_key (w : World) (e : Bool) (a m : Int) : (Instr.checkKey e 10000 153 (.agg #[.int .i64 a, .int .i64 m])).run Tryz.prog w = .ok () w := by
  kernel_rfl
theorem find_empty (w : World) (a m : Int) : (Instr.findKey 153 (.agg #[.int .i64 a, .int .i64 m]) []).run Tryz.prog w = .ok none w := by
  kernel_rfl
theorem zero_unit (w : World) : (zeroValue 224).run Tryz.prog w = .ok (.agg #[]) w := by
  kernel_rfl

theorem look_empty (w : World) (mb : Nat) (a m : Int) (hm : w.heap[mb]? = some (.map #[] 0)) :
    (Instr.lookup 196 (.map (some mb)) (.agg #[.int .i64 a, .int .i64 m]) true).run Tryz.prog w = .ok (.tuple #[.agg #[], .bool false]) w := by
  have hg := MapKept.run_getObj_map (P := Tryz.prog) hm
  unfold Instr.lookup
  simp [run_underlying Tryz.underlying196, hg, go_sem, check_key, find_empty, zero_unit]

/-- A block put in another's place. -/
def putB (w : World) (b : Nat) (o : Obj) : World := { w with heap := w.heap.setIfInBounds b o }
theorem putB_size (w : World) (b : Nat) (o : Obj) : (putB w b o).heap.size = w.heap.size := by simp [putB]
theorem putB_ex (w : World) (b : Nat) (o : Obj) : Ex [b] w (putB w b o) :=
  ⟨rfl, rfl, rfl, by simp [putB], fun k hk hn => by
    simp only [List.mem_singleton] at hn
    simp only [putB]
    rw [Array.getElem?_setIfInBounds_ne (Ne.symm hn)]⟩

theorem update_empty (w : World) (mb : Nat) (a m : Int) (hm : w.heap[mb]? = some (.map #[] 0)) :
    (Instr.mapUpdate 196 (.map (some mb)) (.agg #[.int .i64 a, .int .i64 m]) (.agg #[])).run Tryz.prog w = .ok () (putB w mb (.map #[{ key := .agg #[.int .i64 a, .int .i64 m], val := .agg #[], born := 0 }] 1)) := by
  have hg := MapKept.run_getObj_map (P := Tryz.prog) hm
  unfold Instr.mapUpdate
  simp [run_underlying Tryz.underlying196, hg, go_sem, check_key, find_empty, MapKept.run_setObj_map _ hm, putB]

theorem info128 : (Tryz.prog.info? 206).map (fun i => (i.zero, i.size, i.bytes)) = some (some (.agg #[.int .i64 0, .int .u64 0]), 2, 16) := by kernel_rfl

set_option maxHeartbeats 1000000 in
set_option maxRecDepth 100000 in
theorem visit_take (q mb cg cl cc k : Nat) (mo a c : Int) (h : Bool) (w : World)
    (hq : BK w q (.cells #[.slice (some ⟨cg, 0, none⟩) cl cc, .map (some mb), .slice none 0 0] 198 (0, 0))) (hm : BK w mb (.map #[] 0))
    (hqlt : q < w.heap.size) (hk : k < cl) (hcl : cl ≤ 1000) (hqm : q ≠ mb) (hcq : cg ≠ q) (hcm : cg ≠ mb) (hclt : cg < w.heap.size)
    (hcell : ∀ o, o < 7 → w.cell? ⟨cg, k * 7 + o, none⟩ = (insOf 0 a c h)[o]?) :
    Calls Tryz.prog 118 #[.pointer (some ⟨q, 0, none⟩), .agg #[.int .i64 k, .int .i64 mo], .int .u64 0] w fun e w' => e = .returned (.tuple #[]) ∧
      ∃ v, BK w' q (.cells #[.slice (some ⟨cg, 0, none⟩) cl cc, .map (some mb), v] 198 (0, 0)) ∧ w'.ownsRow w.heap.size 206 2 v 1 [.int .i64 k, .int .u64 0] ∧ Ex [q, mb] w w' := by
  have HQ := hide hq
  have HM := hide hm
  have HC := hide hcell
  obtain ⟨t0, hi, hzz0, hzz1, hzz2⟩ := info_parts info128
  obtain ⟨hcq0, hfq0⟩ := hq.all
  have hql := hq.lt
  have hml := hm.lt
  have hlk1 := look_empty (w.alloc (Obj.cells #[.int .i64 k, .int .i64 mo] 153)).drew mb k mo (hm.alloc _).drew
  have hlk2 := look_empty ((w.alloc (Obj.cells #[.int .i64 k, .int .i64 mo] 153)).alloc (Obj.cells #[] 224)).drew mb k mo ((hm.alloc _).alloc _).drew
  clear hq hm hcell
  go_enter Tryz.func118, Tryz.ntmps118
  go_wp2_with fail
  go_region
  all_goals
    generalize hw1 : World.drew _ = w1
    have hq1 : BK w1 q (.cells #[.slice (some ⟨cg, 0, none⟩) cl cc, .map (some mb), .slice none 0 0] 198 (0, 0)) := by rw [← hw1]; exact ((HQ.out.alloc _).alloc _).drew
    have hm1 : BK w1 mb (.map #[] 0) := by rw [← hw1]; exact ((HM.out.alloc _).alloc _).drew
    have hs1 : BK w1 w.heap.size (.cells #[.int .i64 k, .int .i64 mo] 153 (0, 0)) := by rw [← hw1]; exact ((BK.new _ _).alloc _).drew
    have hx1 : Ex [] w w1 := by rw [← hw1]; exact (((Ex.refl _ _).alloc _).alloc _).drew
    have hz1 : w.heap.size < w1.heap.size := by rw [← hw1]; simp [World.drew]; omega
    clear hw1 hlk1 hlk2 hcq0 hfq0
    have hup := update_empty w1.drew mb k mo hm1.drew
    obtain ⟨hcq0, hfq0⟩ := hq1.all
    obtain ⟨hcs0, hfs0⟩ := hs1.all
    have HQ1 := hide hq1
    have HM1 := hide hm1
    have HS1 := hide hs1
    have HX1 := hide hx1
    clear hq1 hm1 hs1 hx1
    go_wp2_with fail
    go_region
  all_goals
    generalize hw2 : putB _ _ _ = w2
    have hxp : Ex [mb] w1 w2 := by rw [← hw2]; exact ((Ex.refl _ _).drew).trans (putB_ex _ _ _)
    clear hw2 hup hcq0 hfq0 hcs0 hfs0
    have hq2 := HQ1.out.ex hxp (by simpa using hqm)
    have hs2 := HS1.out.ex hxp (by simp; omega)
    have hx2 : Ex [mb] w w2 := (HX1.out.drop (by simp)).trans hxp
    have hz2 : w.heap.size < w2.heap.size := Nat.lt_of_lt_of_le hz1 hxp.size
    obtain ⟨hcs0, hfs0⟩ := hs2.all
    have HQ2 := hide hq2
    have HX2 := hide hx2
    clear hq2 hs2 hx2 hxp HQ1 HM1 HS1 HX1 HM hql hml
    go_wp2_with fail
    go_quiet (fail)
    generalize hw3 : World.drewN w2 nq = w3
    have hq3 : BK w3 q (.cells #[.slice (some ⟨cg, 0, none⟩) cl cc, .map (some mb), .slice none 0 0] 198 (0, 0)) := by rw [← hw3]; exact HQ2.out.drewN _
    have hx3 : Ex [mb] w w3 := by rw [← hw3]; exact HX2.out.drewN _
    have hz3 : w.heap.size < w3.heap.size := by rw [← hw3]; exact hz2
    clear hw3 hcs0 hfs0 HQ2 HX2 hz2 hz1
    have hql := hq3.lt
    obtain ⟨hcq0, hfq0⟩ := hq3.all
    have hcc : ∀ o, o < 7 → w3.cell? ⟨cg, k * 7 + o, none⟩ = (insOf 0 a c h)[o]? := fun o ho => (hx3.cell.1 cg _ hclt (by simpa using hcm)).trans (HC.out o ho)
    have k0 := hcc 0 (by omega); have k1 := hcc 1 (by omega); have k2 := hcc 2 (by omega); have k3 := hcc 3 (by omega); have k4 := hcc 4 (by omega)
    have k5 := hcc 5 (by omega); have k6 := hcc 6 (by omega)
    simp only [insOf, List.getElem?_cons_zero, List.getElem?_cons_succ, Nat.add_zero] at k0 k1 k2 k3 k4 k5 k6
    have hk' : (k : Int) < (cl : Int) := by omega
    have HQ3 := hide hq3
    have HX3 := hide hx3
    clear hcc hq3 hx3
    have HN : Hid (∀ j u, [Value.int .i64 k, .int .u64 0][j]? = some u → ((w3.alloc (Obj.cells #[.int .i64 0, .int .u64 a, .int .u64 c, .bool h, .int .i64 0, .int .i64 0, .int .i64 0] 194)).alloc (Obj.cells #[.int .i64 k, .int .u64 0] 206)).cell? ((⟨w3.heap.size + 1, 0, none⟩ : Addr).add j) = some u) := by
      have h1 := cells_new (w3.alloc (Obj.cells #[.int .i64 0, .int .u64 a, .int .u64 c, .bool h, .int .i64 0, .int .i64 0, .int .i64 0] 194)) #[.int .i64 k, .int .u64 0] 206
      simp only [World.size_alloc] at h1
      exact h1
    go_wp2_with (at_builtin; refine wpList_append_lies _ rfl (.tmp 47) (.tmp 51) 150 rfl w.heap.size 206 t0 _ 2 16 Tryz.underlying150 hi hzz0 hzz1 hzz2 rfl (by decide) (.slice none 0 0) 0 [] rfl (World.ownsRow_nil _ _ _ _) ⟨w3.heap.size + 1, 0, none⟩ 1 1 [.int .i64 k, .int .u64 0] rfl rfl HN.out (by simp [Value.oneCell']) (by decide) (by unfold maxLen; omega) (by omega) (by simp; omega) _ rfl ?_)
    intro g cap w4 hown hgrow _ hlt
    have hq4 := BK.grown ((HQ3.out.alloc _).alloc _) hgrow (by simp [Value.ownBlock])
    have HQ4 := hide hq4
    have HX4 : Hid (Ex [mb] w w4) := Ex.grown ((HX3.out.alloc _).alloc _) hgrow (by simp [Value.ownBlock])
    have HO4 := hide hown
    have hgb := own_block hown g rfl
    clear hcq0 hfq0 k0 k1 k2 k3 k4 k5 k6 HQ3 HX3
    obtain ⟨hcq0, hfq0⟩ := hq4.all
    clear hq4 hown hgrow
    go_wp2_with fail
    go_end0
    refine ⟨rfl, _, BK.self HQ4.out 2 _, ?_, ?_⟩
    · refine ⟨HO4.out.1, ?_⟩
      rcases HO4.out.2 with ⟨hv, _⟩ | ⟨g', cap', cur, hv, hb', hgg, rest⟩
      · cases hv
      · cases hv
        refine .inr ⟨g, cap, cur, rfl, hb', ?_, rest⟩
        rw [Below.heap_setCell _ _ _ _ (by simp; omega)]; exact hgg
    · exact (HX4.out.drop (by simp)).setCell (Or.inl (by simp)) _

set_option maxHeartbeats 1000000 in
set_option maxRecDepth 100000 in
theorem visit_accept (q mb cg cl cc k : Nat) (mo a c : Int) (h : Bool) (w : World)
    (hq : BK w q (.cells #[.slice (some ⟨cg, 0, none⟩) cl cc, .map (some mb), .slice none 0 0] 198 (0, 0))) (hm : BK w mb (.map #[] 0))
    (hqlt : q < w.heap.size) (hk : k < cl) (hcl : cl ≤ 1000) (hqm : q ≠ mb) (hcq : cg ≠ q) (hcm : cg ≠ mb) (hclt : cg < w.heap.size)
    (hcell : ∀ o, o < 7 → w.cell? ⟨cg, k * 7 + o, none⟩ = (insOf 6 a c h)[o]?) :
    Calls Tryz.prog 118 #[.pointer (some ⟨q, 0, none⟩), .agg #[.int .i64 k, .int .i64 mo], .int .u64 0] w fun e w' => e = .returned (.tuple #[]) ∧
      ∃ v, BK w' q (.cells #[.slice (some ⟨cg, 0, none⟩) cl cc, .map (some mb), v] 198 (0, 0)) ∧ w'.ownsRow w.heap.size 206 2 v 1 [.int .i64 k, .int .u64 0] ∧ Ex [q, mb] w w' := by
  have HQ := hide hq
  have HM := hide hm
  have HC := hide hcell
  obtain ⟨t0, hi, hzz0, hzz1, hzz2⟩ := info_parts info128
  obtain ⟨hcq0, hfq0⟩ := hq.all
  have hql := hq.lt
  have hml := hm.lt
  have hlk1 := look_empty (w.alloc (Obj.cells #[.int .i64 k, .int .i64 mo] 153)).drew mb k mo (hm.alloc _).drew
  have hlk2 := look_empty ((w.alloc (Obj.cells #[.int .i64 k, .int .i64 mo] 153)).alloc (Obj.cells #[] 224)).drew mb k mo ((hm.alloc _).alloc _).drew
  clear hq hm hcell
  go_enter Tryz.func118, Tryz.ntmps118
  go_wp2_with fail
  go_region
  all_goals
    generalize hw1 : World.drew _ = w1
    have hq1 : BK w1 q (.cells #[.slice (some ⟨cg, 0, none⟩) cl cc, .map (some mb), .slice none 0 0] 198 (0, 0)) := by rw [← hw1]; exact ((HQ.out.alloc _).alloc _).drew
    have hm1 : BK w1 mb (.map #[] 0) := by rw [← hw1]; exact ((HM.out.alloc _).alloc _).drew
    have hs1 : BK w1 w.heap.size (.cells #[.int .i64 k, .int .i64 mo] 153 (0, 0)) := by rw [← hw1]; exact ((BK.new _ _).alloc _).drew
    have hx1 : Ex [] w w1 := by rw [← hw1]; exact (((Ex.refl _ _).alloc _).alloc _).drew
    have hz1 : w.heap.size < w1.heap.size := by rw [← hw1]; simp [World.drew]; omega
    clear hw1 hlk1 hlk2 hcq0 hfq0
    have hup := update_empty w1.drew mb k mo hm1.drew
    obtain ⟨hcq0, hfq0⟩ := hq1.all
    obtain ⟨hcs0, hfs0⟩ := hs1.all
    have HQ1 := hide hq1
    have HM1 := hide hm1
    have HS1 := hide hs1
    have HX1 := hide hx1
    clear hq1 hm1 hs1 hx1
    go_wp2_with fail
    go_region
  all_goals
    generalize hw2 : putB _ _ _ = w2
    have hxp : Ex [mb] w1 w2 := by rw [← hw2]; exact ((Ex.refl _ _).drew).trans (putB_ex _ _ _)
    clear hw2 hup hcq0 hfq0 hcs0 hfs0
    have hq2 := HQ1.out.ex hxp (by simpa using hqm)
    have hs2 := HS1.out.ex hxp (by simp; omega)
    have hx2 : Ex [mb] w w2 := (HX1.out.drop (by simp)).trans hxp
    have hz2 : w.heap.size < w2.heap.size := Nat.lt_of_lt_of_le hz1 hxp.size
    obtain ⟨hcs0, hfs0⟩ := hs2.all
    have HQ2 := hide hq2
    have HX2 := hide hx2
    clear hq2 hs2 hx2 hxp HQ1 HM1 HS1 HX1 HM hql hml
    go_wp2_with fail
    go_quiet (fail)
    generalize hw3 : World.drewN w2 nq = w3
    have hq3 : BK w3 q (.cells #[.slice (some ⟨cg, 0, none⟩) cl cc, .map (some mb), .slice none 0 0] 198 (0, 0)) := by rw [← hw3]; exact HQ2.out.drewN _
    have hx3 : Ex [mb] w w3 := by rw [← hw3]; exact HX2.out.drewN _
    have hz3 : w.heap.size < w3.heap.size := by rw [← hw3]; exact hz2
    clear hw3 hcs0 hfs0 HQ2 HX2 hz2 hz1
    have hql := hq3.lt
    obtain ⟨hcq0, hfq0⟩ := hq3.all
    have hcc : ∀ o, o < 7 → w3.cell? ⟨cg, k * 7 + o, none⟩ = (insOf 6 a c h)[o]? := fun o ho => (hx3.cell.1 cg _ hclt (by simpa using hcm)).trans (HC.out o ho)
    have k0 := hcc 0 (by omega); have k1 := hcc 1 (by omega); have k2 := hcc 2 (by omega); have k3 := hcc 3 (by omega); have k4 := hcc 4 (by omega)
    have k5 := hcc 5 (by omega); have k6 := hcc 6 (by omega)
    simp only [insOf, List.getElem?_cons_zero, List.getElem?_cons_succ, Nat.add_zero] at k0 k1 k2 k3 k4 k5 k6
    have hk' : (k : Int) < (cl : Int) := by omega
    have HQ3 := hide hq3
    have HX3 := hide hx3
    clear hcc hq3 hx3
    have HN : Hid (∀ j u, [Value.int .i64 k, .int .u64 0][j]? = some u → ((w3.alloc (Obj.cells #[.int .i64 6, .int .u64 a, .int .u64 c, .bool h, .int .i64 0, .int .i64 0, .int .i64 0] 194)).alloc (Obj.cells #[.int .i64 k, .int .u64 0] 206)).cell? ((⟨w3.heap.size + 1, 0, none⟩ : Addr).add j) = some u) := by
      have h1 := cells_new (w3.alloc (Obj.cells #[.int .i64 6, .int .u64 a, .int .u64 c, .bool h, .int .i64 0, .int .i64 0, .int .i64 0] 194)) #[.int .i64 k, .int .u64 0] 206
      simp only [World.size_alloc] at h1
      exact h1
    go_wp2_with (at_builtin; refine wpList_append_lies _ rfl (.tmp 47) (.tmp 51) 150 rfl w.heap.size 206 t0 _ 2 16 Tryz.underlying150 hi hzz0 hzz1 hzz2 rfl (by decide) (.slice none 0 0) 0 [] rfl (World.ownsRow_nil _ _ _ _) ⟨w3.heap.size + 1, 0, none⟩ 1 1 [.int .i64 k, .int .u64 0] rfl rfl HN.out (by simp [Value.oneCell']) (by decide) (by unfold maxLen; omega) (by omega) (by simp; omega) _ rfl ?_)
    intro g cap w4 hown hgrow _ hlt
    have hq4 := BK.grown ((HQ3.out.alloc _).alloc _) hgrow (by simp [Value.ownBlock])
    have HQ4 := hide hq4
    have HX4 : Hid (Ex [mb] w w4) := Ex.grown ((HX3.out.alloc _).alloc _) hgrow (by simp [Value.ownBlock])
    have HO4 := hide hown
    have hgb := own_block hown g rfl
    clear hcq0 hfq0 k0 k1 k2 k3 k4 k5 k6 HQ3 HX3
    obtain ⟨hcq0, hfq0⟩ := hq4.all
    clear hq4 hown hgrow
    go_wp2_with fail
    go_end0
    refine ⟨rfl, _, BK.self HQ4.out 2 _, ?_, ?_⟩
    · refine ⟨HO4.out.1, ?_⟩
      rcases HO4.out.2 with ⟨hv, _⟩ | ⟨g', cap', cur, hv, hb', hgg, rest⟩
      · cases hv
      · cases hv
        refine .inr ⟨g, cap, cur, rfl, hb', ?_, rest⟩
        rw [Below.heap_setCell _ _ _ _ (by simp; omega)]; exact hgg
    · exact (HX4.out.drop (by simp)).setCell (Or.inl (by simp)) _
end Go.Proofs.YtmeffeigamaipabGreatDoor.Rx

/- Contracts of the ways between instructions, at a program of dots: all of them. -/
namespace Go.Proofs.YtmeffeigamaipabGreatDoor.Rx
open Go.RowKit

theorem takesL_len (m : Nat) : (takesL m).length = m * 7 := by
  induction m with
  | zero => rfl
  | succ n ih => simp [takesL, insOf, ih]; omega
theorem takesL_at (m k o : Nat) (hk : k < m) (ho : o < 7) : (takesL m)[k * 7 + o]? = (insOf 0 ones ones true)[o]? := by
  induction m with
  | zero => omega
  | succ n ih =>
    rw [takesL]
    by_cases h : k < n
    · rw [List.getElem?_append_left (by rw [takesL_len]; omega)]
      exact ih h
    · have : k = n := by omega
      subst this
      rw [List.getElem?_append_right (by rw [takesL_len]; omega), takesL_len]
      congr 1
      omega
theorem progL_take (m k o : Nat) (hk : k < m) (ho : o < 7) : (progL m)[k * 7 + o]? = (insOf 0 ones ones true)[o]? := by
  rw [progL, List.getElem?_append_left (by rw [takesL_len]; omega)]
  exact takesL_at m k o hk ho
theorem progL_accept (m o : Nat) : (progL m)[m * 7 + o]? = (insOf 6 0 0 false)[o]? := by
  rw [progL, List.getElem?_append_right (by rw [takesL_len]; omega), takesL_len]
  congr 1
  omega

/-- The cells of a row. -/
theorem own_cells {w : World} {base n : Nat} {e : TypeId} {size : Nat} {v : Value} {xs : List Value} (h : w.ownsRow base e size v n xs) (hn : 0 < n) :
    ∃ g c, v = .slice (some ⟨g, 0, none⟩) n c ∧ base ≤ g ∧ g < w.heap.size ∧ n ≤ c ∧ (∀ j, j < n * size → w.cell? ⟨g, j, none⟩ = xs[j]?) ∧ ∀ j, w.frozen? ⟨g, j, none⟩ = false := by
  rcases h.2 with ⟨_, h0⟩ | ⟨g, cap, cur, rfl, hb, hgg, hnc, hcm, hcs, htake⟩
  · omega
  · refine ⟨g, cap, rfl, hb, (Array.getElem?_eq_some_iff.1 hgg).1, hnc, fun j hj => ?_, fun j => by simp [World.frozen?, hgg]⟩
    rw [cell_of_row w g _ cur e (0, 0) hgg, ← htake, List.getElem?_take, if_pos hj]
    simp

set_option maxHeartbeats 1000000 in
set_option maxRecDepth 100000 in
theorem waysFrom_dot (cv : Value) (m k base : Nat) (mo : Int) (w : World) (hown : w.ownsRow base 194 7 cv (m + 1) (progL m)) (hk : k ≤ m) (hm : m ≤ 60) :
    Calls Tryz.prog 83 #[cv, .agg #[.int .i64 k, .int .i64 mo]] w fun e w' => ∃ v, e = .returned v ∧ w'.ownsRow w.heap.size 206 2 v 1 [.int .i64 k, .int .u64 0] ∧ Ex [] w w' := by
  have hmm := @run_makeMap Tryz.prog
  obtain ⟨cg, cc, rfl, hb, hlt, hnc, hcells, _⟩ := own_cells hown (by omega)
  have HC := hide hcells
  clear hown hcells
  go_enter Tryz.func83, Tryz.ntmps83
  go_wp2_with fail
  have hq : BK (((w.alloc (Obj.cells #[.int .i64 k, .int .i64 mo] 153)).alloc (Obj.map #[] 0)).alloc (Obj.cells #[.slice (some ⟨cg, 0, none⟩) (m + 1) cc, .map (some (w.heap.size + 1)), .slice none 0 0] 198)) (w.heap.size + 1 + 1) (.cells #[.slice (some ⟨cg, 0, none⟩) (m + 1) cc, .map (some (w.heap.size + 1)), .slice none 0 0] 198 (0, 0)) := by
    have := BK.new ((w.alloc (Obj.cells #[.int .i64 k, .int .i64 mo] 153)).alloc (Obj.map #[] 0)) (Obj.cells #[.slice (some ⟨cg, 0, none⟩) (m + 1) cc, .map (some (w.heap.size + 1)), .slice none 0 0] 198)
    simpa using this
  have hmp : BK (((w.alloc (Obj.cells #[.int .i64 k, .int .i64 mo] 153)).alloc (Obj.map #[] 0)).alloc (Obj.cells #[.slice (some ⟨cg, 0, none⟩) (m + 1) cc, .map (some (w.heap.size + 1)), .slice none 0 0] 198)) (w.heap.size + 1) (.map #[] 0) := by
    have := (BK.new (w.alloc (Obj.cells #[.int .i64 k, .int .i64 mo] 153)) (Obj.map #[] 0)).alloc (Obj.cells #[.slice (some ⟨cg, 0, none⟩) (m + 1) cc, .map (some (w.heap.size + 1)), .slice none 0 0] 198)
    simpa using this
  have hce : ∀ o, o < 7 → (((w.alloc (Obj.cells #[.int .i64 k, .int .i64 mo] 153)).alloc (Obj.map #[] 0)).alloc (Obj.cells #[.slice (some ⟨cg, 0, none⟩) (m + 1) cc, .map (some (w.heap.size + 1)), .slice none 0 0] 198)).cell? ⟨cg, k * 7 + o, none⟩ = (progL m)[k * 7 + o]? := by
    intro o ho
    have hx : Ex [] w (((w.alloc (Obj.cells #[.int .i64 k, .int .i64 mo] 153)).alloc (Obj.map #[] 0)).alloc (Obj.cells #[.slice (some ⟨cg, 0, none⟩) (m + 1) cc, .map (some (w.heap.size + 1)), .slice none 0 0] 198)) := (((Ex.refl _ _).alloc _).alloc _).alloc _
    rw [hx.cell.1 cg _ hlt (by simp)]
    exact HC.out _ (by omega)
  have key : Calls Tryz.prog 118 #[.pointer (some ⟨w.heap.size + 1 + 1, 0, none⟩), .agg #[.int .i64 k, .int .i64 mo], .int .u64 0] (((w.alloc (Obj.cells #[.int .i64 k, .int .i64 mo] 153)).alloc (Obj.map #[] 0)).alloc (Obj.cells #[.slice (some ⟨cg, 0, none⟩) (m + 1) cc, .map (some (w.heap.size + 1)), .slice none 0 0] 198)) fun e w' => e = .returned (.tuple #[]) ∧
      ∃ v, BK w' (w.heap.size + 1 + 1) (.cells #[.slice (some ⟨cg, 0, none⟩) (m + 1) cc, .map (some (w.heap.size + 1)), v] 198 (0, 0)) ∧ w'.ownsRow (w.heap.size + 1 + 1 + 1) 206 2 v 1 [.int .i64 k, .int .u64 0] ∧ Ex [w.heap.size + 1 + 1, w.heap.size + 1] (((w.alloc (Obj.cells #[.int .i64 k, .int .i64 mo] 153)).alloc (Obj.map #[] 0)).alloc (Obj.cells #[.slice (some ⟨cg, 0, none⟩) (m + 1) cc, .map (some (w.heap.size + 1)), .slice none 0 0] 198)) w' := by
    by_cases hkm : k < m
    · have := visit_take (w.heap.size + 1 + 1) (w.heap.size + 1) cg (m + 1) cc k mo ones ones true _ hq hmp (by simp) (by omega) (by omega) (by omega) (by omega) (by omega) (by simp; omega) (fun o ho => (hce o ho).trans (progL_take m k o hkm ho))
      simpa using this
    · obtain rfl : k = m := by omega
      have := visit_accept (w.heap.size + 1 + 1) (w.heap.size + 1) cg (k + 1) cc k mo 0 0 false _ hq hmp (by simp) (by omega) (by omega) (by omega) (by omega) (by omega) (by simp; omega) (fun o ho => (hce o ho).trans (progL_accept k o))
      simpa using this
  refine key.mono ?_
  rintro e w1 ⟨rfl, v, hq1, ho1, hx1⟩
  have HX1 := hide hx1
  have HO1 := hide ho1
  obtain ⟨hcq, hfq⟩ := hq1.all
  clear key hq hmp hce hx1 ho1 hq1
  go_wp2_with fail
  go_ret
  refine ⟨v, by simp, own_base HO1.out (by omega), ?_⟩
  refine Ex.drop (l := [w.heap.size + 1 + 1, w.heap.size + 1]) ?_ (by simp; omega)
  exact ((((Ex.refl _ _).alloc _).alloc _).alloc _).trans HX1.out
end Go.Proofs.YtmeffeigamaipabGreatDoor.Rx
