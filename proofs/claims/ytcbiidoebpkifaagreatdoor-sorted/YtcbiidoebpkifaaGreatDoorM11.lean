/- D8 E1 E2 E3 E4, one behind the other. -/
import Derived.Test.YtcbiidoebpkifaaGreatDoorM10
set_option linter.unusedVariables false
set_option linter.unusedSimpArgs false
/- Contract of (*retag.Engine).Relabel, whatever its rules work out. -/
namespace Go.Proofs.YtcbiidoebpkifaaGreatDoor
open Go.RowKit

structure EN (R : List Value → List Lab → Bool → Prop) (w : World) (e m mb base room : Nat) (rv : Value) (ts : List (List Value)) (tv : Value) (es : Array MapEntry) (clk : Nat) : Prop where
  blk : BK w e (.cells #[rv, .pointer (some ⟨m, 0, none⟩)] 71 (0, 0))
  mem : MM R w m mb base room ts tv es clk
  lt : e < base
  nem : e ≠ m
  nemb : e ≠ mb

def After (room : Nat) (ts : List (List Value)) (S : List Value) (ts' : List (List Value)) : Prop := (S ∈ ts ∧ ts' = ts) ∨ (S ∉ ts ∧ ts' = nextTs room ts S)

theorem recall_any (R : List Value → List Lab → Bool → Prop) (m mb base room : Nat) (ts : List (List Value)) (tv : Value) (es : Array MapEntry) (clk : Nat) (S : List Value) (ev : Value) (w : World)
    (hm : MM R w m mb base room ts tv es clk) (hS : SerOk S) (hwk : Works R w S ev) :
    Calls Tryz.prog 25 #[.pointer (some ⟨m, 0, none⟩), .agg S.toArray, .func (.func 26) #[ev] #[]] w fun x w' => ∃ v ls b, x = .returned (ansV v b) ∧ R S ls b ∧ ls.length ≤ 60 ∧
      w'.ownsRow w.heap.size 42 2 v ls.length (cellsOfL ls) ∧ (∃ ts' tv' es' clk', After room ts S ts' ∧ MM R w' m mb base room ts' tv' es' clk') ∧ Ex (m :: mb :: tv.ownBlock.toList) w w' := by
  by_cases hy : S ∈ ts
  · refine (recall_hit R m mb base room ts tv es clk S _ w hm hS hy).mono ?_
    rintro x w' ⟨v, ls, b, h1, h2, h3, h4, h5⟩
    exact ⟨v, ls, b, h1, h2, h3, h4, ⟨ts, tv, es, clk, .inl ⟨hy, rfl⟩, hm.ex h5 (by simp)⟩, h5.drop (by simp)⟩
  · refine (recall_miss R m mb base room ts tv es clk S ev w hm hS hy hwk).mono ?_
    rintro x w' ⟨v, ls, b, h1, h2, h3, h4, ⟨tv', es', clk', h5⟩, h6⟩
    exact ⟨v, ls, b, h1, h2, h3, h4, ⟨_, tv', es', clk', .inr ⟨hy, rfl⟩, h5⟩, h6⟩

theorem MM.alloc {R : List Value → List Lab → Bool → Prop} {w : World} {m mb base room : Nat} {ts : List (List Value)} {tv : Value} {es : Array MapEntry} {clk : Nat} (h : MM R w m mb base room ts tv es clk) (o : Obj) : MM R (w.alloc o) m mb base room ts tv es clk := h.ex ((Ex.refl [] _).alloc o) (by simp)
theorem MM.drewN {R : List Value → List Lab → Bool → Prop} {w : World} {m mb base room : Nat} {ts : List (List Value)} {tv : Value} {es : Array MapEntry} {clk : Nat} (h : MM R w m mb base room ts tv es clk) (n : Nat) : MM R (w.drewN n) m mb base room ts tv es clk := h.ex ((Ex.refl [] _).drewN n) (by simp)

section
variable {P : Program} {ops : Array Oper} {Q : Exit → Act → World → Prop} {md : Region.Mode} {S : Nat → World → Prop}
theorem wpAnyJ_two {i j : Nat} {oi oj : Oper} {fuel : Nat} {listed : Array Bool} {a : Act} {w : World} (hi : ops[i]? = some oi) (hj : ops[j]? = some oj) (hg : oi.guard = none) (hg' : oj.guard = none)
    (hr : Region.ready md ops listed = [i, j])
    (h : ∀ K : Act → World → Prop, Hid (∀ a' w', S i w' → wpAnyJ P md ops Q S fuel (listed.setIfInBounds i true) a' w' → K a' w') → oi.wp P a w K Q)
    (h' : ∀ K : Act → World → Prop, Hid (∀ a' w', S j w' → wpAnyJ P md ops Q S fuel (listed.setIfInBounds j true) a' w' → K a' w') → oj.wp P a w K Q) : wpAnyJ P md ops Q S (fuel + 1) listed a w := by
  refine ⟨fun h0 => absurd (hr ▸ h0) (by simp), fun k hk => ?_⟩
  rw [hr, List.mem_cons, List.mem_singleton] at hk
  rcases hk with rfl | rfl
  · unfold wpOp
    simp only [hi]
    rw [if_pos (by simp [Region.wanted, hg])]
    exact .inl (h _ (fun a' w' h1 h2 => ⟨h1, h2⟩))
  · unfold wpOp
    simp only [hj]
    rw [if_pos (by simp [Region.wanted, hg'])]
    exact .inl (h' _ (fun a' w' h1 h2 => ⟨h1, h2⟩))
end

set_option maxHeartbeats 2000000 in
set_option maxRecDepth 100000 in
theorem relabel_any (R : List Value → List Lab → Bool → Prop) (e m mb base room : Nat) (rv : Value) (ts : List (List Value)) (tv : Value) (es : Array MapEntry) (clk : Nat) (S : List Value) (v : Value) (w : World)
    (he : EN R w e m mb base room rv ts tv es clk) (hS : SerOk S) (hrd : Calls Tryz.prog 24 #[v] w fun x w' => x = .returned (.tuple #[.agg S.toArray, .int .i64 0]) ∧ Ex [] w w')
    (hwk : Works R w S (.pointer (some ⟨e, 0, none⟩))) :
    Calls Tryz.prog 13 #[.pointer (some ⟨e, 0, none⟩), v] w fun x w' => ∃ v' ls b, x = .returned (.tuple #[v', .bool b, .int .i64 0]) ∧ R S ls b ∧ ls.length ≤ 60 ∧
      w'.ownsRow w.heap.size 42 2 v' ls.length (cellsOfL ls) ∧ (∃ ts' tv' es' clk', After room ts S ts' ∧ EN R w' e m mb base room rv ts' tv' es' clk') ∧ EB base [m, mb] w w' := by
  have HE := hide he
  have HS := hide hS
  have HWK := hide hwk
  have hle := he.mem.le
  have hel := he.lt
  have hisz : (Tryz.prog.info? 74).map (·.size) = some S.length := by rw [hS.1]; kernel_rfl
  have hisz' : (Tryz.prog.info? 74).map (·.size) = some S.toArray.size := by rw [List.size_toArray]; exact hisz
  have HI := hide hisz
  have HI' := hide hisz'
  have HAL := hide (all_oneCell_toArray hS.plain)
  have HRD := hide hrd
  clear he hS hwk hisz hisz' hrd
  go_enter Tryz.func13, Tryz.ntmps13
  go_wp2_with fail
  refine HRD.out.mono ?_
  rintro x w1 ⟨rfl, hx1⟩
  have hz1 := hx1.size
  have HX1 := hide hx1
  have HB := hide (BK.new w1 (.cells (serC []).toArray 74))
  have hold : (serC []).toArray.size = S.toArray.size := by rw [List.size_toArray, List.size_toArray, HS.out.1, serC_len (by simp)]
  have HOLD := hide hold
  clear hx1 hold
  go_wp2_with (refine wpList_store_row rfl 74 _ _ rfl w1.heap.size S.toArray rfl rfl 74 _ HB.out HI'.out HOLD.out HAL.out ?_)
  generalize hw2 : World.setRow _ _ _ = w2
  have hb7 : BK w2 w1.heap.size (.cells S.toArray 74 (0, 0)) := by rw [← hw2]; exact setRow_heap _ _ _ _ _ _ HB.out
  have hx12 : Ex [] w1 w2 := by rw [← hw2]; exact ((Ex.refl _ _).alloc _).setRow (.inr (Nat.le_refl _)) _
  have hx02 : Ex [] w w2 := HX1.out.trans hx12
  have he2 : BK w2 e (.cells #[rv, .pointer (some ⟨m, 0, none⟩)] 71 (0, 0)) := HE.out.blk.ex hx02 (by simp)
  have hm2 := HE.out.mem.ex hx02 (by simp)
  have c0 : w2.cell? ⟨e, 1, none⟩ = some (.pointer (some ⟨m, 0, none⟩)) := he2.all.1 1
  have r0 := hb7.rangeL
  have hz2 : w1.heap.size < w2.heap.size := hb7.lt
  have hel2 := he2.lt
  have HB7 := hide hb7
  have HX02 := hide hx02
  have HE2 := hide he2
  have HM2 := hide hm2
  have hrt : ∀ k, tv.ownBlock = some k → base ≤ k ∧ k < w.heap.size := fun k hk => ⟨own_block HE.out.mem.row k hk, (HE.out.mem.row.lt k hk).2⟩
  have hmlt := HE.out.mem.mlt
  have hmblt := HE.out.mem.mblt
  have hnb : ∀ k, w.heap.size ≤ k → k ∉ (m :: mb :: tv.ownBlock.toList) := fun k hk hm => by
    simp only [List.mem_cons, Option.mem_toList] at hm
    rcases hm with h | h | h
    · omega
    · omega
    · have := hrt k h; omega
  have hne : e ∉ (m :: mb :: tv.ownBlock.toList) := fun hm => by
    simp only [List.mem_cons, Option.mem_toList] at hm
    rcases hm with h | h | h
    · exact HE.out.nem h
    · exact HE.out.nemb h
    · have := hrt e h; omega
  have HNB := hide hnb
  have HNE := hide hne
  clear hw2 hb7 hx12 hx02 he2 hm2 HB HOLD hnb hne hrt
  refine wp_region_J (by kernel_rfl) ?_
  refine wpAny_take (i := 0) (v := ?_) rfl (by kernel_rfl) (by kernel_rfl) (by kernel_rfl) (fun _ _ _ h => h) (Or.inl ⟨by rfl, ?_⟩) ?_
  rotate_left
  · intro w'
    go_simp
    try with_reducible rfl
  simp only [Act.put, List.setIfInBounds_toArray, List.set_cons_zero, List.set_cons_succ, List.getElem_toArray, List.getElem_cons_zero, List.getElem_cons_succ, List.replicate, Array.replicate, List.size_toArray, List.length_cons, List.length_nil]
  refine wpAny_take (i := 1) (v := ?_) rfl (by kernel_rfl) (by kernel_rfl) (by kernel_rfl) (fun _ _ _ h => h) (Or.inl ⟨by rfl, ?_⟩) ?_
  rotate_left
  · intro w'
    go_simp
    try with_reducible rfl
  simp only [Act.put, List.setIfInBounds_toArray, List.set_cons_zero, List.set_cons_succ, List.getElem_toArray, List.getElem_cons_zero, List.getElem_cons_succ, List.replicate, Array.replicate, List.size_toArray, List.length_cons, List.length_nil]
  refine wpAny_take (i := 2) (v := ?_) rfl (by kernel_rfl) (by kernel_rfl) (by kernel_rfl) (fun _ _ _ h => h) (Or.inl ⟨by rfl, ?_⟩) ?_
  rotate_left
  · intro w'
    go_simp
    try with_reducible rfl
  simp only [Act.put, List.setIfInBounds_toArray, List.set_cons_zero, List.set_cons_succ, List.getElem_toArray, List.getElem_cons_zero, List.getElem_cons_succ, List.replicate, Array.replicate, List.size_toArray, List.length_cons, List.length_nil]
  refine wpAny_take (i := 5) (v := ?_) rfl (by kernel_rfl) (by kernel_rfl) (by kernel_rfl) (fun _ _ _ h => h) (Or.inl ⟨by rfl, ?_⟩) ?_
  rotate_left
  · intro w'
    go_simp
    try with_reducible rfl
  simp only [Act.put, List.setIfInBounds_toArray, List.set_cons_zero, List.set_cons_succ, List.getElem_toArray, List.getElem_cons_zero, List.getElem_cons_succ, List.replicate, Array.replicate, List.size_toArray, List.length_cons, List.length_nil]
  refine wpAny_take (i := 6) (v := ?_) rfl (by kernel_rfl) (by kernel_rfl) (by kernel_rfl) (fun _ _ _ h => h) (Or.inl ⟨by rfl, ?_⟩) ?_
  rotate_left
  · intro w'
    go_simp
    try with_reducible rfl
  simp only [Act.put, List.setIfInBounds_toArray, List.set_cons_zero, List.set_cons_succ, List.getElem_toArray, List.getElem_cons_zero, List.getElem_cons_succ, List.replicate, Array.replicate, List.size_toArray, List.length_cons, List.length_nil]
  refine wpAny_of_J (S := (fun j w' => j < 9 → w'.cell? ⟨e, 1, none⟩ = some (.pointer (some ⟨m, 0, none⟩)) ∧ w'.rangeAt w1.heap.size 0 S)) _ _ _ _ ?_
  refine wpAnyJ_take (i := 3) (T := (fun w' => w'.cell? ⟨e, 1, none⟩ = some (.pointer (some ⟨m, 0, none⟩)) ∧ w'.rangeAt w1.heap.size 0 S)) (v := ?_) (fun j => decide (j < 9)) rfl (by kernel_rfl) (by kernel_rfl) (by kernel_rfl) (by kernel_rfl) (fun j w' hj h => h (by simpa using hj)) (fun w' h _ => h) (fun _ _ _ h => h) ⟨c0, r0⟩ (Or.inl ⟨by rfl, ?_⟩) ?_
  rotate_left
  · intro w' hSw
    obtain ⟨f1, f2⟩ := hSw
    go_simp
    try with_reducible rfl
  simp only [Act.put, List.setIfInBounds_toArray, List.set_cons_zero, List.set_cons_succ, List.getElem_toArray, List.getElem_cons_zero, List.getElem_cons_succ, List.replicate, Array.replicate, List.size_toArray, List.length_cons, List.length_nil]
  refine wpAnyJ_take (i := 4) (T := (fun w' => w'.cell? ⟨e, 1, none⟩ = some (.pointer (some ⟨m, 0, none⟩)) ∧ w'.rangeAt w1.heap.size 0 S)) (v := _) (fun j => decide (j < 9)) rfl (by kernel_rfl) (by kernel_rfl) (by kernel_rfl) (by kernel_rfl) (fun j w' hj h => h (by simpa using hj)) (fun w' h _ => h) (fun _ _ _ h => h) ⟨c0, r0⟩ (yieldsIf_load_mid (by rfl) _ _ rfl _ _ rfl S _ (fun w' h => h.2) Tryz.underlying74 rfl HI.out) ?_
  simp only [Act.put, List.setIfInBounds_toArray, List.set_cons_zero, List.set_cons_succ, List.getElem_toArray, List.getElem_cons_zero, List.getElem_cons_succ, List.replicate, Array.replicate, List.size_toArray, List.length_cons, List.length_nil]
  refine wpAnyJ_two (i := 7) (j := 8) rfl rfl rfl rfl (by kernel_rfl) (fun K hK => ?_) (fun K hK => ?_)
  · go_simp
    have hxd : Ex [] w w2.drew := HX02.out.drew
    refine (recall_any R m mb base room ts tv es clk S (.pointer (some ⟨e, 0, none⟩)) w2.drew (HM2.out.ex ((Ex.refl [] _).drew) (by simp)) HS.out (fun W hW => HWK.out W (hxd.trans hW))).mono ?_
    rintro x w3 ⟨v3, ls, b, rfl, hR3, hl60, ho3, ⟨ts', tv', es', clk', haf, hm3⟩, hx3⟩
    obtain ⟨p3, c3, rfl⟩ := own_slice ho3
    have he3 := HE2.out.drew.ex hx3 (HNE.out)
    have hb73 := HB7.out.drew.ex hx3 (HNB.out _ (by omega))
    have HR3 := hide hR3
    refine hK.out _ _ (fun _ => ⟨he3.all.1 1, hb73.rangeL⟩) ?_
    clear hK K hR3
    simp only [Act.put, List.setIfInBounds_toArray, List.set_cons_zero, List.set_cons_succ, List.getElem_toArray, List.getElem_cons_zero, List.getElem_cons_succ, List.replicate, Array.replicate, List.size_toArray, List.length_cons, List.length_nil]
    refine wpAnyJ_one (i := 8) rfl rfl (by kernel_rfl) (fun K hK => ?_)
    go_simp
    refine hK.out _ _ (fun _ => ⟨(he3.alloc _).all.1 1, (hb73.alloc _).rangeL⟩) ?_
    clear hK K
    unfold ansV
    simp only [Act.put, List.setIfInBounds_toArray, List.set_cons_zero, List.set_cons_succ, List.getElem_toArray, List.getElem_cons_zero, List.getElem_cons_succ, List.replicate, Array.replicate, List.size_toArray, List.length_cons, List.length_nil]
    refine wpAnyJ_one (i := 9) rfl rfl (by kernel_rfl) (fun K hK => ?_)
    go_simp
    refine hK.out _ _ (fun h => by omega) ?_
    clear hK K
    refine wpAnyJ_done (by kernel_rfl) ?_ _
    generalize hw4 : World.alloc _ _ = w4
    have hz3 : w2.heap.size ≤ w3.heap.size := hx3.size
    have hb9 : BK w4 w3.heap.size (.cells #[.slice p3 ls.length c3, .bool b] 78 (0, 0)) := by rw [← hw4]; exact BK.new _ _
    have he4 : BK w4 e (.cells #[rv, .pointer (some ⟨m, 0, none⟩)] 71 (0, 0)) := by rw [← hw4]; exact he3.alloc _
    have hm4 : MM R w4 m mb base room ts' tv' es' clk' := by rw [← hw4]; exact hm3.alloc _
    have ho4 : w4.ownsRow w.heap.size 42 2 (.slice p3 ls.length c3) ls.length (cellsOfL ls) := by rw [← hw4]; exact (own_base ho3 (show w.heap.size ≤ w2.heap.size by omega)).alloc _
    have hx4 : Ex (m :: mb :: tv.ownBlock.toList) w w4 := by rw [← hw4]; exact ((hxd.drop (by simp)).trans hx3).alloc _
    clear hw4 he3 hm3 ho3 hx3 hb73 c0 r0 hxd
    have HE4 := hide he4
    have HM4 := hide hm4
    have HO4 := hide ho4
    have HX4 := hide hx4
    obtain ⟨hc9, hf9⟩ := hb9.all
    have hl9 := hb9.lt
    have HAF := hide haf
    clear he4 hm4 ho4 hx4 haf hb9
    go_wp2_with fail
    go_quiet (fail)
    go_wp2_with fail
    go_ret3
    refine ⟨_, ls, b, rfl, HR3.out, hl60, own_drewN HO4.out _, ⟨ts', tv', es', clk', HAF.out, HE4.out.drewN _, HM4.out.drewN _, hel, HE.out.nem, HE.out.nemb⟩, ?_⟩
    refine (EB.ofEx (HX4.out.drewN _) hle).mono (Nat.le_refl _) (fun x hx hlt => ?_)
    simp only [List.mem_cons, Option.mem_toList] at hx
    rcases hx with h | h | h
    · simp [h]
    · simp [h]
    · have := own_block HE.out.mem.row x h; omega
  · go_simp
    have hxd : Ex [] w (w2.alloc (Obj.cells #[.slice none 0 0, .bool false] 78)).drew := (HX02.out.alloc _).drew
    have he25 := ((HE2.out.alloc (Obj.cells #[.slice none 0 0, .bool false] 78)).drew)
    have hb75 := ((HB7.out.alloc (Obj.cells #[.slice none 0 0, .bool false] 78)).drew)
    have hb95 : BK (w2.alloc (Obj.cells #[.slice none 0 0, .bool false] 78)).drew w2.heap.size (.cells #[.slice none 0 0, .bool false] 78 (0, 0)) := (BK.new _ _).drew
    refine hK.out _ _ (fun _ => ⟨he25.all.1 1, hb75.rangeL⟩) ?_
    clear hK K
    simp only [Act.put, List.setIfInBounds_toArray, List.set_cons_zero, List.set_cons_succ, List.getElem_toArray, List.getElem_cons_zero, List.getElem_cons_succ, List.replicate, Array.replicate, List.size_toArray, List.length_cons, List.length_nil]
    refine wpAnyJ_one (i := 7) rfl rfl (by kernel_rfl) (fun K hK => ?_)
    go_simp
    refine (recall_any R m mb base room ts tv es clk S (.pointer (some ⟨e, 0, none⟩)) _ ((HM2.out.alloc (Obj.cells #[.slice none 0 0, .bool false] 78)).ex ((Ex.refl [] _).drew) (by simp)) HS.out (fun W hW => HWK.out W (hxd.trans hW))).mono ?_
    rintro x w3 ⟨v3, ls, b, rfl, hR3, hl60, ho3, ⟨ts', tv', es', clk', haf, hm3⟩, hx3⟩
    obtain ⟨p3, c3, rfl⟩ := own_slice ho3
    have he3 := he25.ex hx3 (HNE.out)
    have hb73 := hb75.ex hx3 (HNB.out _ (by omega))
    have hb93 := hb95.ex hx3 (HNB.out _ (by omega))
    have hz3 : w2.heap.size + 1 ≤ w3.heap.size := by have := hx3.size; simpa using this
    have HR3 := hide hR3
    obtain ⟨hc93, hf93⟩ := hb93.all
    have hl93 := hb93.lt
    refine hK.out _ _ (fun _ => ⟨he3.all.1 1, hb73.rangeL⟩) ?_
    clear hK K hR3
    unfold ansV
    simp only [Act.put, List.setIfInBounds_toArray, List.set_cons_zero, List.set_cons_succ, List.getElem_toArray, List.getElem_cons_zero, List.getElem_cons_succ, List.replicate, Array.replicate, List.size_toArray, List.length_cons, List.length_nil]
    refine wpAnyJ_one (i := 9) rfl rfl (by kernel_rfl) (fun K hK => ?_)
    go_simp
    refine hK.out _ _ (fun h => by omega) ?_
    clear hK K
    refine wpAnyJ_done (by kernel_rfl) ?_ _
    obtain ⟨w4, hw4⟩ : ∃ w4, w4 = (w3.setCell ⟨w2.heap.size, 0, none⟩ (.slice p3 ls.length c3)).setCell ⟨w2.heap.size, 1, none⟩ (.bool b) := ⟨_, rfl⟩
    rw [← hw4]
    have hb9 : BK w4 w2.heap.size (.cells #[.slice p3 ls.length c3, .bool b] 78 (0, 0)) := by
      have := (hb93.self 0 (.slice p3 ls.length c3)).self 1 (.bool b)
      simp only [List.setIfInBounds_toArray, List.set_cons_zero, List.set_cons_succ] at this
      rw [hw4]; exact this
    have he4 : BK w4 e (.cells #[rv, .pointer (some ⟨m, 0, none⟩)] 71 (0, 0)) := by rw [hw4]; exact (he3.set (by simp; omega) _).set (by simp; omega) _
    have hm4 : MM R w4 m mb base room ts' tv' es' clk' := by
      have hs1 := hm3.set hb93 (by decide) (by decide) (by have := HM2.out.blk.lt; omega) 0 (.slice p3 ls.length c3)
      rw [hw4]; exact hs1.set (hb93.self 0 (.slice p3 ls.length c3)) (by decide) (by decide) (by have := HM2.out.blk.lt; omega) 1 (.bool b)
    have ho4 : w4.ownsRow w.heap.size 42 2 (.slice p3 ls.length c3) ls.length (cellsOfL ls) := by
      have h1 : w3.ownsRow (w2.heap.size + 1) 42 2 (.slice p3 ls.length c3) ls.length (cellsOfL ls) := by simpa using ho3
      rw [hw4]; exact own_base (own_set (own_set h1 (by simp) _) (by simp) _) (by omega)
    have hx4 : Ex (m :: mb :: tv.ownBlock.toList) w w4 := by rw [hw4]; exact (((hxd.drop (by simp)).trans hx3).setCell (.inr (by simp; omega)) _).setCell (.inr (by simp; omega)) _
    clear hw4 he3 hm3 ho3 hx3 hb73 hb93 hc93 hf93 he25 hb75 hb95 c0 r0 hxd
    have HE4 := hide he4
    have HM4 := hide hm4
    have HO4 := hide ho4
    have HX4 := hide hx4
    obtain ⟨hc9, hf9⟩ := hb9.all
    have hl9 := hb9.lt
    have HAF := hide haf
    clear he4 hm4 ho4 hx4 haf hb9
    go_wp2_with fail
    go_quiet (fail)
    go_wp2_with fail
    go_ret3
    refine ⟨_, ls, b, rfl, HR3.out, hl60, own_drewN HO4.out _, ⟨ts', tv', es', clk', HAF.out, HE4.out.drewN _, HM4.out.drewN _, hel, HE.out.nem, HE.out.nemb⟩, ?_⟩
    refine (EB.ofEx (HX4.out.drewN _) hle).mono (Nat.le_refl _) (fun x hx hlt => ?_)
    simp only [List.mem_cons, Option.mem_toList] at hx
    rcases hx with h | h | h
    · simp [h]
    · simp [h]
    · have := own_block HE.out.mem.row x h; omega
end Go.Proofs.YtcbiidoebpkifaaGreatDoor

/- Contracts of Open, Cached, Flush and Load, as far as the count of what is remembered asks. -/
namespace Go.Proofs.YtcbiidoebpkifaaGreatDoor
open Go.RowKit

def roomOf (c : Int) : Nat := (max 1 (min c 50)).toNat

set_option maxHeartbeats 1000000 in
set_option maxRecDepth 100000 in
theorem new_any (room : Nat) (w : World) (h1 : 1 ≤ room) (h50 : room ≤ 50) :
    Calls Tryz.prog 23 #[.int .i64 room] w fun x w' => x = .returned (.pointer (some ⟨w.heap.size + 1, 0, none⟩)) ∧
      w' = (w.alloc (.map #[] 0)).alloc (.cells #[.map (some w.heap.size), .slice none 0 0, .int .i64 room] 139) := by
  have hmm := @run_makeMap Tryz.prog
  go_enter Tryz.func23, Tryz.ntmps23
  go_wp2_with fail
  go_ret
  exact ⟨by simp, rfl⟩

set_option maxHeartbeats 1000000 in
set_option maxRecDepth 100000 in
theorem open_any (R : List Value → List Lab → Bool → Prop) (c : Int) (w : World) :
    Calls Tryz.prog 12 #[.int .i64 c] w fun x w' => ∃ e m mb, x = .returned (.pointer (some ⟨e, 0, none⟩)) ∧ EN R w' e m mb w'.heap.size (roomOf c) (.slice none 0 0) [] (.slice none 0 0) #[] 0 ∧ Ex [] w w' ∧ w.heap.size ≤ e ∧ w.heap.size ≤ m ∧ w.heap.size ≤ mb := by
  have h1 : 1 ≤ roomOf c := by unfold roomOf; omega
  have h50 : roomOf c ≤ 50 := by unfold roomOf; omega
  have hc : max 1 (min c 50) = (roomOf c : Int) := by unfold roomOf; omega
  obtain ⟨r, hr⟩ : ∃ r, roomOf c = r := ⟨_, rfl⟩
  rw [hr] at h1 h50 hc
  have HR := hide hr
  clear hr
  go_enter Tryz.func12, Tryz.ntmps12
  go_wp2_with fail
  refine (new_any r w h1 h50).mono ?_
  rintro x w1 ⟨rfl, hw1⟩
  have hx1 : Ex [] w w1 := by rw [hw1]; exact ((Ex.refl _ _).alloc _).alloc _
  have hmap : BK w1 w.heap.size (.map #[] 0) := by rw [hw1]; exact (BK.new _ _).alloc _
  have hmem : BK w1 (w.heap.size + 1) (.cells #[.map (some w.heap.size), .slice none 0 0, .int .i64 r] 139 (0, 0)) := by
    have h := BK.new (w.alloc (.map #[] 0)) (.cells #[.map (some w.heap.size), .slice none 0 0, .int .i64 r] 139)
    simp only [World.size_alloc] at h
    rw [hw1]; exact h
  have hz : w1.heap.size = w.heap.size + 2 := by rw [hw1]; simp
  have HX := hide hx1
  have HMP := hide hmap
  have HMM := hide hmem
  have HZ := hide hz
  clear hw1 hx1 hmap hmem hz hc
  go_wp2_with fail
  go_ret
  have hz := unhide HZ
  refine ⟨w1.heap.size, w.heap.size + 1, w.heap.size, rfl, ⟨BK.new _ _, ?_, by simp, by omega, by omega⟩, HX.out.alloc _, by omega, by omega, by omega⟩
  rw [unhide HR]
  exact ⟨HMM.out.alloc _, HMP.out.alloc _, World.ownsRow_nil _ _ _ _, by simp, fun e he => by simp at he, fun S hS => by simp at hS, by simp, by simp, h1, h50, by simp; omega, by simp; omega, by omega, by simp⟩

theorem MM.empty {R : List Value → List Lab → Bool → Prop} {w : World} {m mb base room : Nat} {ts : List (List Value)} {tv : Value} {es : Array MapEntry} {clk : Nat} (h : MM R w m mb base room ts tv es clk) :
    MM R ((putB w mb (.map #[] clk)).setCell ⟨m, 1, none⟩ (.slice none 0 0)) m mb base room [] (.slice none 0 0) #[] clk := by
  refine ⟨?_, (putB_bk h.map).set (by simpa using Ne.symm h.ne) _, World.ownsRow_nil _ _ _ _, by simp, fun e he => by simp at he, fun S hS => by simp at hS, by simp, by simp, h.room1, h.room50, h.mlt, h.mblt, h.ne, ?_⟩
  · have := (h.blk.putB (o := .map #[] clk) h.ne).self 1 (.slice none 0 0)
    simpa using this
  · simpa [putB_size] using h.le

set_option maxHeartbeats 1000000 in
set_option maxRecDepth 100000 in
theorem forget_any (R : List Value → List Lab → Bool → Prop) (m mb base room : Nat) (ts : List (List Value)) (tv : Value) (es : Array MapEntry) (clk : Nat) (w : World) (hm : MM R w m mb base room ts tv es clk) :
    Calls Tryz.prog 45 #[.pointer (some ⟨m, 0, none⟩)] w fun x w' => x = .returned (.tuple #[]) ∧ MM R w' m mb base room [] (.slice none 0 0) #[] clk ∧ Ex [m, mb] w w' := by
  have HM := hide hm
  obtain ⟨hcm, hfm⟩ := hm.blk.all
  have hml := hm.blk.lt
  have hcl := clear_map (w := w) 0 hm.map
  have hb1 := hm.blk.putB (o := .map #[] clk) hm.ne
  obtain ⟨w1, hw1⟩ : ∃ w1, w1 = putB w mb (.map #[] clk) := ⟨_, rfl⟩
  have HW1 := hide hw1
  rw [← hw1] at hcl hb1
  obtain ⟨hcm1, hfm1⟩ := hb1.all
  have hml1 := hb1.lt
  clear hm hw1 hb1
  go_enter Tryz.func45, Tryz.ntmps45
  go_wp2_with (at_builtin; refine wpList_clear_run _ rfl _ 136 rfl _ rfl hcl ?_)
  go_end0
  rw [unhide HW1]
  exact ⟨rfl, HM.out.empty, ((putB_ex w mb _).drop (fun x hx _ => by simp at hx; simp [hx])).setCell (.inl (by simp)) _⟩

end Go.Proofs.YtcbiidoebpkifaaGreatDoor

/- Contracts of Load at a rule whose action is none; of the labels that a count asks for. -/
namespace Go.Proofs.YtcbiidoebpkifaaGreatDoor
open Go.RowKit

theorem results_cell_tmp2 {P : Program} {fn : Func} {tmps : Array Value} {w : World} {a k l : Tmp} {t : TypeId} {ad : Addr} {v : Value} (hf : fn.results = #[.cell a t, .tmp k, .tmp l]) (ha : tmps.getD a undef = .pointer (some ad)) (hl : (loadVar t ad).run P w = .ok v w) :
    (results fn tmps).run P w = .ok (.tuple #[v, tmps.getD k undef, tmps.getD l undef]) w := by
  have ha' : tmps[a]?.getD undef = .pointer (some ad) := by rw [← ha]; simp
  unfold results
  rw [hf]
  simp [ha', hl, asAddr]

def ruleV (a : Int) (so : Value) (se re ta rp : ByteArray) (mo : Int) : Value := .agg #[.int .i64 a, so, .string se, .string re, .string ta, .string rp, .int .u64 mo]

theorem store_nilFunc {w : World} {b : Nat} {t : TypeId} (hb : BK w b (.cells #[.nilFunc] t (0, 0))) :
    (store ⟨b, 0, none⟩ Value.nilFunc).run Tryz.prog w = .ok () (w.setCell ⟨b, 0, none⟩ .nilFunc) := by
  obtain ⟨hc, hf⟩ := hb.all
  rw [run_store Tryz.prog w _ Value.nilFunc _ rfl]
  simp [hc, hf]

end Go.Proofs.YtcbiidoebpkifaaGreatDoor

/- Contracts of Relabel of an engine without rules, at the lists that Counts hands in. -/
namespace Go.Proofs.YtcbiidoebpkifaaGreatDoor
open Go.RowKit

end Go.Proofs.YtcbiidoebpkifaaGreatDoor

/- How much is remembered: plain facts. -/
namespace Go.Proofs.YtcbiidoebpkifaaGreatDoor
open Go.RowKit

end Go.Proofs.YtcbiidoebpkifaaGreatDoor
