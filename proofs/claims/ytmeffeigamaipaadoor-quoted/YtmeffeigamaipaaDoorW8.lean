/- Contracts of the ways between instructions, at a program of dots. -/
import Derived.Test.YtmeffeigamaipaaDoorW7
import Derived.MapKept
set_option linter.unusedVariables false
set_option linter.unusedSimpArgs false
namespace Go.Proofs.YtmeffeigamaipaaDoor
open Go.RowKit

theorem check_key (w : World) (e : Bool) (a m : Int) : (Instr.checkKey e 10000 70 (.agg #[.int .i64 a, .int .i64 m])).run Tryd.prog w = .ok () w := by
  kernel_rfl
theorem find_empty (w : World) (a m : Int) : (Instr.findKey 70 (.agg #[.int .i64 a, .int .i64 m]) []).run Tryd.prog w = .ok none w := by
  kernel_rfl
theorem zero_unit (w : World) : (zeroValue 118).run Tryd.prog w = .ok (.agg #[]) w := by
  kernel_rfl

theorem look_empty (w : World) (mb : Nat) (a m : Int) (hm : w.heap[mb]? = some (.map #[] 0)) :
    (Instr.lookup 100 (.map (some mb)) (.agg #[.int .i64 a, .int .i64 m]) true).run Tryd.prog w = .ok (.tuple #[.agg #[], .bool false]) w := by
  have hg := MapKept.run_getObj_map (P := Tryd.prog) hm
  unfold Instr.lookup
  simp [run_underlying Tryd.underlying100, hg, go_sem, check_key, find_empty, zero_unit]

/-- A block put in another's place. -/
def putB (w : World) (b : Nat) (o : Obj) : World := { w with heap := w.heap.setIfInBounds b o }
theorem putB_size (w : World) (b : Nat) (o : Obj) : (putB w b o).heap.size = w.heap.size := by simp [putB]
theorem putB_ex (w : World) (b : Nat) (o : Obj) : Ex [b] w (putB w b o) :=
  ⟨rfl, rfl, rfl, by simp [putB], fun k hk hn => by
    simp only [List.mem_singleton] at hn
    simp only [putB]
    rw [Array.getElem?_setIfInBounds_ne (Ne.symm hn)]⟩

theorem update_empty (w : World) (mb : Nat) (a m : Int) (hm : w.heap[mb]? = some (.map #[] 0)) :
    (Instr.mapUpdate 100 (.map (some mb)) (.agg #[.int .i64 a, .int .i64 m]) (.agg #[])).run Tryd.prog w = .ok () (putB w mb (.map #[{ key := .agg #[.int .i64 a, .int .i64 m], val := .agg #[], born := 0 }] 1)) := by
  have hg := MapKept.run_getObj_map (P := Tryd.prog) hm
  unfold Instr.mapUpdate
  simp [run_underlying Tryd.underlying100, hg, go_sem, check_key, find_empty, MapKept.run_setObj_map _ hm, putB]

theorem info128 : (Tryd.prog.info? 110).map (fun i => (i.zero, i.size, i.bytes)) = some (some (.agg #[.int .i64 0, .int .u64 0]), 2, 16) := by kernel_rfl

set_option maxHeartbeats 1000000 in
set_option maxRecDepth 100000 in
theorem visit_take (q mb cg cl cc k : Nat) (mo a c : Int) (h : Bool) (w : World)
    (hq : BK w q (.cells #[.slice (some ⟨cg, 0, none⟩) cl cc, .map (some mb), .slice none 0 0] 102 (0, 0))) (hm : BK w mb (.map #[] 0))
    (hqlt : q < w.heap.size) (hk : k < cl) (hcl : cl ≤ 1000) (hqm : q ≠ mb) (hcq : cg ≠ q) (hcm : cg ≠ mb) (hclt : cg < w.heap.size)
    (hcell : ∀ o, o < 7 → w.cell? ⟨cg, k * 7 + o, none⟩ = (insOf 0 a c h)[o]?) :
    Calls Tryd.prog 36 #[.pointer (some ⟨q, 0, none⟩), .agg #[.int .i64 k, .int .i64 mo], .int .u64 0] w fun e w' => e = .returned (.tuple #[]) ∧
      ∃ v, BK w' q (.cells #[.slice (some ⟨cg, 0, none⟩) cl cc, .map (some mb), v] 102 (0, 0)) ∧ w'.ownsRow w.heap.size 110 2 v 1 [.int .i64 k, .int .u64 0] ∧ Ex [q, mb] w w' := by
  have HQ := hide hq
  have HM := hide hm
  have HC := hide hcell
  obtain ⟨t0, hi, hzz0, hzz1, hzz2⟩ := info_parts info128
  obtain ⟨hcq0, hfq0⟩ := hq.all
  have hql := hq.lt
  have hml := hm.lt
  have hlk1 := look_empty (w.alloc (Obj.cells #[.int .i64 k, .int .i64 mo] 70)).drew mb k mo (hm.alloc _).drew
  have hlk2 := look_empty ((w.alloc (Obj.cells #[.int .i64 k, .int .i64 mo] 70)).alloc (Obj.cells #[] 118)).drew mb k mo ((hm.alloc _).alloc _).drew
  clear hq hm hcell
  go_enter Tryd.func36, Tryd.ntmps36
  go_wp2_with fail
  go_region
  all_goals
    generalize hw1 : World.drew _ = w1
    have hq1 : BK w1 q (.cells #[.slice (some ⟨cg, 0, none⟩) cl cc, .map (some mb), .slice none 0 0] 102 (0, 0)) := by rw [← hw1]; exact ((HQ.out.alloc _).alloc _).drew
    have hm1 : BK w1 mb (.map #[] 0) := by rw [← hw1]; exact ((HM.out.alloc _).alloc _).drew
    have hs1 : BK w1 w.heap.size (.cells #[.int .i64 k, .int .i64 mo] 70 (0, 0)) := by rw [← hw1]; exact ((BK.new _ _).alloc _).drew
    have hx1 : Ex [] w w1 := by rw [← hw1]; exact (((Ex.refl _ _).alloc _).alloc _).drew
    have hz1 : w.heap.size < w1.heap.size := by rw [← hw1]; simp [World.drew]; omega
    clear hw1 hlk1 hlk2 hcq0 hfq0
    have hup := update_empty w1.drew mb k mo hm1.drew
    obtain ⟨hcq0, hfq0⟩ := hq1.all
    obtain ⟨hcs0, hfs0⟩ := hs1.all
    have HQ1 := hide hq1
    have HM1 := hide hm1
    have HS1 := hide hs1
    have HX1 := hide hx1
    clear hq1 hm1 hs1 hx1
    go_wp2_with fail
    go_region
  all_goals
    generalize hw2 : putB _ _ _ = w2
    have hxp : Ex [mb] w1 w2 := by rw [← hw2]; exact ((Ex.refl _ _).drew).trans (putB_ex _ _ _)
    clear hw2 hup hcq0 hfq0 hcs0 hfs0
    have hq2 := HQ1.out.ex hxp (by simpa using hqm)
    have hs2 := HS1.out.ex hxp (by simp; omega)
    have hx2 : Ex [mb] w w2 := (HX1.out.drop (by simp)).trans hxp
    have hz2 : w.heap.size < w2.heap.size := Nat.lt_of_lt_of_le hz1 hxp.size
    obtain ⟨hcs0, hfs0⟩ := hs2.all
    have HQ2 := hide hq2
    have HX2 := hide hx2
    clear hq2 hs2 hx2 hxp HQ1 HM1 HS1 HX1 HM hql hml
    go_wp2_with fail
    go_quiet (fail)
    generalize hw3 : World.drewN w2 nq = w3
    have hq3 : BK w3 q (.cells #[.slice (some ⟨cg, 0, none⟩) cl cc, .map (some mb), .slice none 0 0] 102 (0, 0)) := by rw [← hw3]; exact HQ2.out.drewN _
    have hx3 : Ex [mb] w w3 := by rw [← hw3]; exact HX2.out.drewN _
    have hz3 : w.heap.size < w3.heap.size := by rw [← hw3]; exact hz2
    clear hw3 hcs0 hfs0 HQ2 HX2 hz2 hz1
    have hql := hq3.lt
    obtain ⟨hcq0, hfq0⟩ := hq3.all
    have hcc : ∀ o, o < 7 → w3.cell? ⟨cg, k * 7 + o, none⟩ = (insOf 0 a c h)[o]? := fun o ho => (hx3.cell.1 cg _ hclt (by simpa using hcm)).trans (HC.out o ho)
    have k0 := hcc 0 (by omega); have k1 := hcc 1 (by omega); have k2 := hcc 2 (by omega); have k3 := hcc 3 (by omega); have k4 := hcc 4 (by omega)
    have k5 := hcc 5 (by omega); have k6 := hcc 6 (by omega)
    simp [insOf] at k0 k1 k2 k3 k4 k5 k6
    have hk' : (k : Int) < (cl : Int) := by omega
    have HQ3 := hide hq3
    have HX3 := hide hx3
    clear hcc hq3 hx3
    have HN : Hid (∀ j u, [Value.int .i64 k, .int .u64 0][j]? = some u → ((w3.alloc (Obj.cells #[.int .i64 0, .int .u64 a, .int .u64 c, .bool h, .int .i64 0, .int .i64 0, .int .i64 0] 98)).alloc (Obj.cells #[.int .i64 k, .int .u64 0] 110)).cell? ((⟨w3.heap.size + 1, 0, none⟩ : Addr).add j) = some u) := by
      have h1 := cells_new (w3.alloc (Obj.cells #[.int .i64 0, .int .u64 a, .int .u64 c, .bool h, .int .i64 0, .int .i64 0, .int .i64 0] 98)) #[.int .i64 k, .int .u64 0] 110
      simp only [World.size_alloc] at h1
      exact h1
    go_wp2_with (at_builtin; refine wpList_append_lies _ rfl (.tmp 47) (.tmp 51) 67 rfl w.heap.size 110 t0 _ 2 16 Tryd.underlying67 hi hzz0 hzz1 hzz2 rfl (by decide) (.slice none 0 0) 0 [] rfl (World.ownsRow_nil _ _ _ _) ⟨w3.heap.size + 1, 0, none⟩ 1 1 [.int .i64 k, .int .u64 0] rfl rfl HN.out (by simp [Value.oneCell']) (by decide) (by unfold maxLen; omega) (by omega) (by simp; omega) _ rfl ?_)
    intro g cap w4 hown hgrow _ hlt
    have hq4 := BK.grown ((HQ3.out.alloc _).alloc _) hgrow (by simp [Value.ownBlock])
    have HQ4 := hide hq4
    have HX4 : Hid (Ex [mb] w w4) := Ex.grown ((HX3.out.alloc _).alloc _) hgrow (by simp [Value.ownBlock])
    have HO4 := hide hown
    have hgb := own_block hown g rfl
    clear hcq0 hfq0 k0 k1 k2 k3 k4 k5 k6 HQ3 HX3
    obtain ⟨hcq0, hfq0⟩ := hq4.all
    clear hq4 hown hgrow
    go_wp2_with fail
    go_end0
    refine ⟨rfl, _, BK.self HQ4.out 2 _, ?_, ?_⟩
    · refine ⟨HO4.out.1, ?_⟩
      rcases HO4.out.2 with ⟨hv, _⟩ | ⟨g', cap', cur, hv, hb', hgg, rest⟩
      · cases hv
      · cases hv
        refine .inr ⟨g, cap, cur, rfl, hb', ?_, rest⟩
        rw [Below.heap_setCell _ _ _ _ (by simp; omega)]; exact hgg
    · exact (HX4.out.drop (by simp)).setCell (Or.inl (by simp)) _

set_option maxHeartbeats 1000000 in
set_option maxRecDepth 100000 in
theorem visit_accept (q mb cg cl cc k : Nat) (mo a c : Int) (h : Bool) (w : World)
    (hq : BK w q (.cells #[.slice (some ⟨cg, 0, none⟩) cl cc, .map (some mb), .slice none 0 0] 102 (0, 0))) (hm : BK w mb (.map #[] 0))
    (hqlt : q < w.heap.size) (hk : k < cl) (hcl : cl ≤ 1000) (hqm : q ≠ mb) (hcq : cg ≠ q) (hcm : cg ≠ mb) (hclt : cg < w.heap.size)
    (hcell : ∀ o, o < 7 → w.cell? ⟨cg, k * 7 + o, none⟩ = (insOf 6 a c h)[o]?) :
    Calls Tryd.prog 36 #[.pointer (some ⟨q, 0, none⟩), .agg #[.int .i64 k, .int .i64 mo], .int .u64 0] w fun e w' => e = .returned (.tuple #[]) ∧
      ∃ v, BK w' q (.cells #[.slice (some ⟨cg, 0, none⟩) cl cc, .map (some mb), v] 102 (0, 0)) ∧ w'.ownsRow w.heap.size 110 2 v 1 [.int .i64 k, .int .u64 0] ∧ Ex [q, mb] w w' := by
  have HQ := hide hq
  have HM := hide hm
  have HC := hide hcell
  obtain ⟨t0, hi, hzz0, hzz1, hzz2⟩ := info_parts info128
  obtain ⟨hcq0, hfq0⟩ := hq.all
  have hql := hq.lt
  have hml := hm.lt
  have hlk1 := look_empty (w.alloc (Obj.cells #[.int .i64 k, .int .i64 mo] 70)).drew mb k mo (hm.alloc _).drew
  have hlk2 := look_empty ((w.alloc (Obj.cells #[.int .i64 k, .int .i64 mo] 70)).alloc (Obj.cells #[] 118)).drew mb k mo ((hm.alloc _).alloc _).drew
  clear hq hm hcell
  go_enter Tryd.func36, Tryd.ntmps36
  go_wp2_with fail
  go_region
  all_goals
    generalize hw1 : World.drew _ = w1
    have hq1 : BK w1 q (.cells #[.slice (some ⟨cg, 0, none⟩) cl cc, .map (some mb), .slice none 0 0] 102 (0, 0)) := by rw [← hw1]; exact ((HQ.out.alloc _).alloc _).drew
    have hm1 : BK w1 mb (.map #[] 0) := by rw [← hw1]; exact ((HM.out.alloc _).alloc _).drew
    have hs1 : BK w1 w.heap.size (.cells #[.int .i64 k, .int .i64 mo] 70 (0, 0)) := by rw [← hw1]; exact ((BK.new _ _).alloc _).drew
    have hx1 : Ex [] w w1 := by rw [← hw1]; exact (((Ex.refl _ _).alloc _).alloc _).drew
    have hz1 : w.heap.size < w1.heap.size := by rw [← hw1]; simp [World.drew]; omega
    clear hw1 hlk1 hlk2 hcq0 hfq0
    have hup := update_empty w1.drew mb k mo hm1.drew
    obtain ⟨hcq0, hfq0⟩ := hq1.all
    obtain ⟨hcs0, hfs0⟩ := hs1.all
    have HQ1 := hide hq1
    have HM1 := hide hm1
    have HS1 := hide hs1
    have HX1 := hide hx1
    clear hq1 hm1 hs1 hx1
    go_wp2_with fail
    go_region
  all_goals
    generalize hw2 : putB _ _ _ = w2
    have hxp : Ex [mb] w1 w2 := by rw [← hw2]; exact ((Ex.refl _ _).drew).trans (putB_ex _ _ _)
    clear hw2 hup hcq0 hfq0 hcs0 hfs0
    have hq2 := HQ1.out.ex hxp (by simpa using hqm)
    have hs2 := HS1.out.ex hxp (by simp; omega)
    have hx2 : Ex [mb] w w2 := (HX1.out.drop (by simp)).trans hxp
    have hz2 : w.heap.size < w2.heap.size := Nat.lt_of_lt_of_le hz1 hxp.size
    obtain ⟨hcs0, hfs0⟩ := hs2.all
    have HQ2 := hide hq2
    have HX2 := hide hx2
    clear hq2 hs2 hx2 hxp HQ1 HM1 HS1 HX1 HM hql hml
    go_wp2_with fail
    go_quiet (fail)
    generalize hw3 : World.drewN w2 nq = w3
    have hq3 : BK w3 q (.cells #[.slice (some ⟨cg, 0, none⟩) cl cc, .map (some mb), .slice none 0 0] 102 (0, 0)) := by rw [← hw3]; exact HQ2.out.drewN _
    have hx3 : Ex [mb] w w3 := by rw [← hw3]; exact HX2.out.drewN _
    have hz3 : w.heap.size < w3.heap.size := by rw [← hw3]; exact hz2
    clear hw3 hcs0 hfs0 HQ2 HX2 hz2 hz1
    have hql := hq3.lt
    obtain ⟨hcq0, hfq0⟩ := hq3.all
    have hcc : ∀ o, o < 7 → w3.cell? ⟨cg, k * 7 + o, none⟩ = (insOf 6 a c h)[o]? := fun o ho => (hx3.cell.1 cg _ hclt (by simpa using hcm)).trans (HC.out o ho)
    have k0 := hcc 0 (by omega); have k1 := hcc 1 (by omega); have k2 := hcc 2 (by omega); have k3 := hcc 3 (by omega); have k4 := hcc 4 (by omega)
    have k5 := hcc 5 (by omega); have k6 := hcc 6 (by omega)
    simp [insOf] at k0 k1 k2 k3 k4 k5 k6
    have hk' : (k : Int) < (cl : Int) := by omega
    have HQ3 := hide hq3
    have HX3 := hide hx3
    clear hcc hq3 hx3
    have HN : Hid (∀ j u, [Value.int .i64 k, .int .u64 0][j]? = some u → ((w3.alloc (Obj.cells #[.int .i64 6, .int .u64 a, .int .u64 c, .bool h, .int .i64 0, .int .i64 0, .int .i64 0] 98)).alloc (Obj.cells #[.int .i64 k, .int .u64 0] 110)).cell? ((⟨w3.heap.size + 1, 0, none⟩ : Addr).add j) = some u) := by
      have h1 := cells_new (w3.alloc (Obj.cells #[.int .i64 6, .int .u64 a, .int .u64 c, .bool h, .int .i64 0, .int .i64 0, .int .i64 0] 98)) #[.int .i64 k, .int .u64 0] 110
      simp only [World.size_alloc] at h1
      exact h1
    go_wp2_with (at_builtin; refine wpList_append_lies _ rfl (.tmp 47) (.tmp 51) 67 rfl w.heap.size 110 t0 _ 2 16 Tryd.underlying67 hi hzz0 hzz1 hzz2 rfl (by decide) (.slice none 0 0) 0 [] rfl (World.ownsRow_nil _ _ _ _) ⟨w3.heap.size + 1, 0, none⟩ 1 1 [.int .i64 k, .int .u64 0] rfl rfl HN.out (by simp [Value.oneCell']) (by decide) (by unfold maxLen; omega) (by omega) (by simp; omega) _ rfl ?_)
    intro g cap w4 hown hgrow _ hlt
    have hq4 := BK.grown ((HQ3.out.alloc _).alloc _) hgrow (by simp [Value.ownBlock])
    have HQ4 := hide hq4
    have HX4 : Hid (Ex [mb] w w4) := Ex.grown ((HX3.out.alloc _).alloc _) hgrow (by simp [Value.ownBlock])
    have HO4 := hide hown
    have hgb := own_block hown g rfl
    clear hcq0 hfq0 k0 k1 k2 k3 k4 k5 k6 HQ3 HX3
    obtain ⟨hcq0, hfq0⟩ := hq4.all
    clear hq4 hown hgrow
    go_wp2_with fail
    go_end0
    refine ⟨rfl, _, BK.self HQ4.out 2 _, ?_, ?_⟩
    · refine ⟨HO4.out.1, ?_⟩
      rcases HO4.out.2 with ⟨hv, _⟩ | ⟨g', cap', cur, hv, hb', hgg, rest⟩
      · cases hv
      · cases hv
        refine .inr ⟨g, cap, cur, rfl, hb', ?_, rest⟩
        rw [Below.heap_setCell _ _ _ _ (by simp; omega)]; exact hgg
    · exact (HX4.out.drop (by simp)).setCell (Or.inl (by simp)) _
end Go.Proofs.YtmeffeigamaipaaDoor
