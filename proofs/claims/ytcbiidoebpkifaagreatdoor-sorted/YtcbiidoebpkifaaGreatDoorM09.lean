/- Contract of (*memory.Memory).Recall: a series that is remembered. -/
import Derived.Test.YtcbiidoebpkifaaGreatDoorM08
set_option linter.unusedVariables false
set_option linter.unusedSimpArgs false
namespace Go.Proofs.YtcbiidoebpkifaaGreatDoor
open Go.RowKit

theorem uniq_of_nodup : ∀ (l : List MapEntry), (l.map (·.key)).Nodup → ∀ x ∈ l, ∀ y ∈ l, x.key = y.key → x = y
  | [], _, x, hx, _, _, _ => by cases hx
  | a :: r, h, x, hx, y, hy, hxy => by
    simp only [List.map_cons, List.nodup_cons, List.mem_map] at h
    rcases List.mem_cons.1 hx with rfl | hx' <;> rcases List.mem_cons.1 hy with rfl | hy'
    · rfl
    · exact absurd ⟨y, hy', hxy.symm⟩ h.1
    · exact absurd ⟨x, hx', hxy⟩ h.1
    · exact uniq_of_nodup r h.2 x hx' y hy' hxy

theorem agg_inj {S S' : List Value} (h : (Value.agg S.toArray) = .agg S'.toArray) : S = S' := by
  have := congrArg Array.toList (Value.agg.inj h)
  simpa using this

theorem MM.keysNodup {R : List Value → List Lab → Bool → Prop} {w : World} {m mb base room : Nat} {ts : List (List Value)} {tv : Value} {es : Array MapEntry} {clk : Nat} (h : MM R w m mb base room ts tv es clk) : (es.toList.map (·.key)).Nodup := by
  refine h.keys.nodup_iff.2 ?_
  have := h.nodup
  unfold List.Nodup at *
  rw [List.pairwise_map]
  exact this.imp (fun hne he => hne (agg_inj he))

set_option maxHeartbeats 2000000 in
set_option maxRecDepth 100000 in
theorem recall_hit (R : List Value → List Lab → Bool → Prop) (m mb base room : Nat) (ts : List (List Value)) (tv : Value) (es : Array MapEntry) (clk : Nat) (S : List Value) (fv : Value) (w : World)
    (hm : MM R w m mb base room ts tv es clk) (hS : SerOk S) (hyes : S ∈ ts) :
    Calls Tryz.prog 25 #[.pointer (some ⟨m, 0, none⟩), .agg S.toArray, fv] w fun x w' => ∃ v ls b, x = .returned (ansV v b) ∧ R S ls b ∧ ls.length ≤ 60 ∧
      w'.ownsRow w.heap.size 42 2 v ls.length (cellsOfL ls) ∧ Ex [] w w' := by
  have HM := hide hm
  have HS := hide hS
  obtain ⟨e, he, hek, _⟩ := look_hit hm.map hm.keysOk hS (hm.mem hyes)
  obtain ⟨S', sl, ls, b, hk', hv, hsl, hl60, hR, hown⟩ := hm.ans e he
  obtain rfl : S = S' := agg_inj (hek.symm.trans hk')
  have hlk : ∀ w' : World, w'.heap[mb]? = some (.map es clk) → (Instr.lookup 136 (.map (some mb)) (.agg S.toArray) true).run Tryz.prog w' = .ok (.tuple #[.agg #[sl, .bool b], .bool true]) w' := fun w' hw' => by
    obtain ⟨e', he', hek', hr⟩ := look_hit (w := w') hw' hm.keysOk hS (hm.mem hyes)
    obtain rfl := uniq_of_nodup _ hm.keysNodup e' he' e he (hek'.trans hek.symm)
    rw [hv] at hr
    exact hr
  have hisz : (Tryz.prog.info? 74).map (·.size) = some S.length := by rw [hS.1]; kernel_rfl
  have HI := hide hisz
  have HSL := hide hsl
  have HR := hide hR
  have hle := hm.le
  have hmlt := hm.mlt
  have hmblt := hm.mblt
  obtain ⟨psl, csl, rfl⟩ := hsl.slice
  clear hm hS hyes he hek hk' hv hsl hR hown hisz
  go_enter Tryz.func25, Tryz.ntmps25
  go_wp2_with fail
  generalize hw0 : World.alloc _ _ = w0
  have hx0 : Ex [] w w0 := by rw [← hw0]; exact ((Ex.refl _ _).alloc _).alloc _
  have hb4 : BK w0 w.heap.size (.cells S.toArray 74 (0, 0)) := by rw [← hw0]; exact (BK.new _ _).alloc _
  have hb6 : BK w0 (w.heap.size + 1) (.cells #[.slice none 0 0, .bool false] 78 (0, 0)) := by
    have h1 := BK.new (w.alloc (Obj.cells S.toArray 74)) (Obj.cells #[.slice none 0 0, .bool false] 78)
    simp only [World.size_alloc] at h1
    rw [← hw0]; exact h1
  have hm0 := HM.out.ex hx0 (by simp)
  have hz0 : w.heap.size + 2 ≤ w0.heap.size := hb6.lt
  have c0 : w0.cell? ⟨m, 0, none⟩ = some (.map (some mb)) := hm0.blk.all.1 0
  have m0 : w0.heap[mb]? = some (.map es clk) := hm0.map
  have r0 := hb4.rangeL
  have hb4a := (hb4.drew.alloc (Obj.cells #[.slice none 0 0, .bool false] 78))
  have hma := (hm0.blk.drew.alloc (Obj.cells #[.slice none 0 0, .bool false] 78))
  have hmapa := (hm0.map.drew.alloc (Obj.cells #[.slice none 0 0, .bool false] 78))
  have HB4A := hide hb4a
  have HMA := hide hma
  have HMAPA := hide hmapa
  have HX0 := hide hx0
  have HB6 := hide hb6
  have HM0 := hide hm0
  have HB4 := hide hb4
  have hml := hm0.blk.lt
  have hmbl := hm0.map.lt
  clear hw0 hx0 hb4 hb6 hm0 hb4a hma hmapa
  refine wp_region_J (by kernel_rfl) ?_
  refine wpAny_take (i := 0) (v := ?_) rfl (by kernel_rfl) (by kernel_rfl) (by kernel_rfl) (fun _ _ _ h => h) (Or.inl ⟨by rfl, ?_⟩) ?_
  rotate_left
  · intro w'
    go_simp
    try with_reducible rfl
  simp only [Act.put, List.setIfInBounds_toArray, List.set_cons_zero, List.set_cons_succ, List.getElem_toArray, List.getElem_cons_zero, List.getElem_cons_succ, List.replicate, Array.replicate, List.size_toArray, List.length_cons, List.length_nil]
  refine wpAny_take (i := 1) (v := ?_) rfl (by kernel_rfl) (by kernel_rfl) (by kernel_rfl) (fun _ _ _ h => h) (Or.inl ⟨by rfl, ?_⟩) ?_
  rotate_left
  · intro w'
    go_simp
    try with_reducible rfl
  simp only [Act.put, List.setIfInBounds_toArray, List.set_cons_zero, List.set_cons_succ, List.getElem_toArray, List.getElem_cons_zero, List.getElem_cons_succ, List.replicate, Array.replicate, List.size_toArray, List.length_cons, List.length_nil]
  refine wpAny_take (i := 2) (v := ?_) rfl (by kernel_rfl) (by kernel_rfl) (by kernel_rfl) (fun _ _ _ h => h) (Or.inl ⟨by rfl, ?_⟩) ?_
  rotate_left
  · intro w'
    go_simp
    try with_reducible rfl
  simp only [Act.put, List.setIfInBounds_toArray, List.set_cons_zero, List.set_cons_succ, List.getElem_toArray, List.getElem_cons_zero, List.getElem_cons_succ, List.replicate, Array.replicate, List.size_toArray, List.length_cons, List.length_nil]
  refine wpAny_of_J (S := (fun j w' => j < 12 → w'.cell? ⟨m, 0, none⟩ = some (.map (some mb)) ∧ w'.heap[mb]? = some (.map es clk) ∧ w'.rangeAt w.heap.size 0 S)) _ _ _ _ ?_
  refine wpAnyJ_take (i := 3) (T := (fun w' => w'.cell? ⟨m, 0, none⟩ = some (.map (some mb)) ∧ w'.heap[mb]? = some (.map es clk) ∧ w'.rangeAt w.heap.size 0 S)) (v := ?_) (fun j => decide (j < 12)) rfl (by kernel_rfl) (by kernel_rfl) (by kernel_rfl) (by kernel_rfl) (fun j w' hj h => h (by simpa using hj)) (fun w' h _ => h) (fun _ _ _ h => h) ⟨c0, m0, r0⟩ (Or.inl ⟨by rfl, ?_⟩) ?_
  rotate_left
  · intro w' hSw
    obtain ⟨f1, f2, f3⟩ := hSw
    go_simp
    try with_reducible rfl
  simp only [Act.put, List.setIfInBounds_toArray, List.set_cons_zero, List.set_cons_succ, List.getElem_toArray, List.getElem_cons_zero, List.getElem_cons_succ, List.replicate, Array.replicate, List.size_toArray, List.length_cons, List.length_nil]
  refine wpAnyJ_take (i := 4) (T := (fun w' => w'.cell? ⟨m, 0, none⟩ = some (.map (some mb)) ∧ w'.heap[mb]? = some (.map es clk) ∧ w'.rangeAt w.heap.size 0 S)) (v := _) (fun j => decide (j < 12)) rfl (by kernel_rfl) (by kernel_rfl) (by kernel_rfl) (by kernel_rfl) (fun j w' hj h => h (by simpa using hj)) (fun w' h _ => h) (fun _ _ _ h => h) ⟨c0, m0, r0⟩ (yieldsIf_load_mid (by rfl) _ _ rfl _ _ rfl S _ (fun w' h => h.2.2) Tryz.underlying74 rfl HI.out) ?_
  simp only [Act.put, List.setIfInBounds_toArray, List.set_cons_zero, List.set_cons_succ, List.getElem_toArray, List.getElem_cons_zero, List.getElem_cons_succ, List.replicate, Array.replicate, List.size_toArray, List.length_cons, List.length_nil]
  refine wpAnyJ_take (i := 5) (T := (fun w' => w'.cell? ⟨m, 0, none⟩ = some (.map (some mb)) ∧ w'.heap[mb]? = some (.map es clk) ∧ w'.rangeAt w.heap.size 0 S)) (v := ?_) (fun j => decide (j < 12)) rfl (by kernel_rfl) (by kernel_rfl) (by kernel_rfl) (by kernel_rfl) (fun j w' hj h => h (by simpa using hj)) (fun w' h _ => h) (fun _ _ _ h => h) ⟨c0, m0, r0⟩ (Or.inl ⟨by rfl, ?_⟩) ?_
  rotate_left
  · intro w' hSw
    obtain ⟨f1, f2, f3⟩ := hSw
    have hlw := hlk w' f2
    go_simp
    try with_reducible rfl
  simp only [Act.put, List.setIfInBounds_toArray, List.set_cons_zero, List.set_cons_succ, List.getElem_toArray, List.getElem_cons_zero, List.getElem_cons_succ, List.replicate, Array.replicate, List.size_toArray, List.length_cons, List.length_nil]
  refine wpAnyJ_take (i := 6) (T := (fun w' => w'.cell? ⟨m, 0, none⟩ = some (.map (some mb)) ∧ w'.heap[mb]? = some (.map es clk) ∧ w'.rangeAt w.heap.size 0 S)) (v := ?_) (fun j => decide (j < 12)) rfl (by kernel_rfl) (by kernel_rfl) (by kernel_rfl) (by kernel_rfl) (fun j w' hj h => h (by simpa using hj)) (fun w' h _ => h) (fun _ _ _ h => h) ⟨c0, m0, r0⟩ (Or.inl ⟨by rfl, ?_⟩) ?_
  rotate_left
  · intro w' hSw
    obtain ⟨f1, f2, f3⟩ := hSw
    go_simp
    try with_reducible rfl
  simp only [Act.put, List.setIfInBounds_toArray, List.set_cons_zero, List.set_cons_succ, List.getElem_toArray, List.getElem_cons_zero, List.getElem_cons_succ, List.replicate, Array.replicate, List.size_toArray, List.length_cons, List.length_nil]
  refine wpAnyJ_take (i := 7) (T := (fun w' => w'.cell? ⟨m, 0, none⟩ = some (.map (some mb)) ∧ w'.heap[mb]? = some (.map es clk) ∧ w'.rangeAt w.heap.size 0 S)) (v := ?_) (fun j => decide (j < 12)) rfl (by kernel_rfl) (by kernel_rfl) (by kernel_rfl) (by kernel_rfl) (fun j w' hj h => h (by simpa using hj)) (fun w' h _ => h) (fun _ _ _ h => h) ⟨c0, m0, r0⟩ (Or.inl ⟨by rfl, ?_⟩) ?_
  rotate_left
  · intro w' hSw
    obtain ⟨f1, f2, f3⟩ := hSw
    go_simp
    try with_reducible rfl
  simp only [Act.put, List.setIfInBounds_toArray, List.set_cons_zero, List.set_cons_succ, List.getElem_toArray, List.getElem_cons_zero, List.getElem_cons_succ, List.replicate, Array.replicate, List.size_toArray, List.length_cons, List.length_nil]
  refine wpAnyJ_take (i := 8) (T := (fun w' => w'.cell? ⟨m, 0, none⟩ = some (.map (some mb)) ∧ w'.heap[mb]? = some (.map es clk) ∧ w'.rangeAt w.heap.size 0 S)) (v := ?_) (fun j => decide (j < 12)) rfl (by kernel_rfl) (by kernel_rfl) (by kernel_rfl) (by kernel_rfl) (fun j w' hj h => h (by simpa using hj)) (fun w' h _ => h) (fun _ _ _ h => h) ⟨c0, m0, r0⟩ (Or.inl ⟨by rfl, ?_⟩) ?_
  rotate_left
  · intro w' hSw
    obtain ⟨f1, f2, f3⟩ := hSw
    go_simp
    try with_reducible rfl
  simp only [Act.put, List.setIfInBounds_toArray, List.set_cons_zero, List.set_cons_succ, List.getElem_toArray, List.getElem_cons_zero, List.getElem_cons_succ, List.replicate, Array.replicate, List.size_toArray, List.length_cons, List.length_nil]
  refine wpAnyJ_one (i := 9) rfl rfl (by kernel_rfl) (fun K hK => ?_)
  go_simp
  refine hK.out _ _ (fun _ => ⟨HMA.out.all.1 0, HMAPA.out, HB4A.out.rangeL⟩) ?_
  clear hK K
  simp only [Act.put, List.setIfInBounds_toArray, List.set_cons_zero, List.set_cons_succ, List.getElem_toArray, List.getElem_cons_zero, List.getElem_cons_succ, List.replicate, Array.replicate, List.size_toArray, List.length_cons, List.length_nil]
  refine wpAnyJ_one (i := 10) rfl rfl (by kernel_rfl) (fun K hK => ?_)
  go_simp
  have hf1 : (w0.alloc (Obj.cells #[.slice psl ls.length csl, .bool b] 78)).drew.cell? ⟨m, 0, none⟩ = some (.map (some mb)) ∧ (w0.alloc (Obj.cells #[.slice psl ls.length csl, .bool b] 78)).drew.heap[mb]? = some (.map es clk) ∧ (w0.alloc (Obj.cells #[.slice psl ls.length csl, .bool b] 78)).drew.rangeAt w.heap.size 0 S :=
    ⟨((HM0.out.blk.alloc _).drew).all.1 0, (HM0.out.map.alloc _).drew, ((HB4.out.alloc _).drew).rangeL⟩
  refine hK.out _ _ (fun _ => hf1) ?_
  clear hK K
  simp only [Act.put, List.setIfInBounds_toArray, List.set_cons_zero, List.set_cons_succ, List.getElem_toArray, List.getElem_cons_zero, List.getElem_cons_succ, List.replicate, Array.replicate, List.size_toArray, List.length_cons, List.length_nil]
  refine wpAnyJ_one (i := 11) rfl rfl (by kernel_rfl) (fun K hK => ?_)
  go_simp
  refine hK.out _ _ (fun _ => hf1) ?_
  clear hK K hf1
  refine wpAnyJ_done (by kernel_rfl) ?_ _
  generalize hw1 : World.drew _ = w1
  have hb7 : BK w1 w0.heap.size (.cells #[.slice psl ls.length csl, .bool b] 78 (0, 0)) := by rw [← hw1]; exact (BK.new _ _).drew
  have hx1 : Ex [] w0 w1 := by rw [← hw1]; exact ((Ex.refl _ _).alloc _).drew
  have hz1 : w0.heap.size < w1.heap.size := hb7.lt
  have k0 : w1.cell? ⟨w0.heap.size, 0, none⟩ = some (.slice psl ls.length csl) := hb7.all.1 0
  have k1 : w1.cell? ⟨w0.heap.size, 1, none⟩ = some (.bool b) := hb7.all.1 1
  have hx01 : Ex [] w w1 := HX0.out.trans hx1
  have hb61 := HB6.out.ex hx1 (by simp)
  have HX01 := hide hx01
  have HB7 := hide hb7
  have HB61 := hide hb61
  have HSL1 := hide (HSL.out.ex hx01 (by simp))
  clear hw1 hb7 hx1 hx01 hb61 c0 m0 r0 hlk HB4A HMA HMAPA HX0 HB6
  go_wp2_with fail
  refine wp_region_J (by kernel_rfl) ?_
  refine wpAny_take (i := 0) (v := ?_) rfl (by kernel_rfl) (by kernel_rfl) (by kernel_rfl) (fun _ _ _ h => h) (Or.inl ⟨by rfl, ?_⟩) ?_
  rotate_left
  · intro w'
    go_simp
    try with_reducible rfl
  simp only [Act.put, List.setIfInBounds_toArray, List.set_cons_zero, List.set_cons_succ, List.getElem_toArray, List.getElem_cons_zero, List.getElem_cons_succ, List.replicate, Array.replicate, List.size_toArray, List.length_cons, List.length_nil]
  refine wpAny_take (i := 3) (v := ?_) rfl (by kernel_rfl) (by kernel_rfl) (by kernel_rfl) (fun _ _ _ h => h) (Or.inl ⟨by rfl, ?_⟩) ?_
  rotate_left
  · intro w'
    go_simp
    try with_reducible rfl
  simp only [Act.put, List.setIfInBounds_toArray, List.set_cons_zero, List.set_cons_succ, List.getElem_toArray, List.getElem_cons_zero, List.getElem_cons_succ, List.replicate, Array.replicate, List.size_toArray, List.length_cons, List.length_nil]
  refine wpAny_of_J (S := (fun j w' => j < 7 → w'.cell? ⟨w0.heap.size, 0, none⟩ = some (.slice psl ls.length csl) ∧ w'.cell? ⟨w0.heap.size, 1, none⟩ = some (.bool b))) _ _ _ _ ?_
  refine wpAnyJ_take (i := 1) (T := (fun w' => w'.cell? ⟨w0.heap.size, 0, none⟩ = some (.slice psl ls.length csl) ∧ w'.cell? ⟨w0.heap.size, 1, none⟩ = some (.bool b))) (v := ?_) (fun j => decide (j < 7)) rfl (by kernel_rfl) (by kernel_rfl) (by kernel_rfl) (by kernel_rfl) (fun j w' hj h => h (by simpa using hj)) (fun w' h _ => h) (fun _ _ _ h => h) ⟨k0, k1⟩ (Or.inl ⟨by rfl, ?_⟩) ?_
  rotate_left
  · intro w' hSw
    obtain ⟨f1, f2⟩ := hSw
    go_simp
    try with_reducible rfl
  simp only [Act.put, List.setIfInBounds_toArray, List.set_cons_zero, List.set_cons_succ, List.getElem_toArray, List.getElem_cons_zero, List.getElem_cons_succ, List.replicate, Array.replicate, List.size_toArray, List.length_cons, List.length_nil]
  refine wpAnyJ_take (i := 4) (T := (fun w' => w'.cell? ⟨w0.heap.size, 0, none⟩ = some (.slice psl ls.length csl) ∧ w'.cell? ⟨w0.heap.size, 1, none⟩ = some (.bool b))) (v := ?_) (fun j => decide (j < 7)) rfl (by kernel_rfl) (by kernel_rfl) (by kernel_rfl) (by kernel_rfl) (fun j w' hj h => h (by simpa using hj)) (fun w' h _ => h) (fun _ _ _ h => h) ⟨k0, k1⟩ (Or.inl ⟨by rfl, ?_⟩) ?_
  rotate_left
  · intro w' hSw
    obtain ⟨f1, f2⟩ := hSw
    go_simp
    try with_reducible rfl
  simp only [Act.put, List.setIfInBounds_toArray, List.set_cons_zero, List.set_cons_succ, List.getElem_toArray, List.getElem_cons_zero, List.getElem_cons_succ, List.replicate, Array.replicate, List.size_toArray, List.length_cons, List.length_nil]
  refine wpAnyJ_one (i := 2) rfl rfl (by kernel_rfl) (fun K hK => ?_)
  go_simp
  refine (cloneLab _ ls _ (HSL1.out.ex (Ex.refl [] _).drew (by simp)) (by omega)).mono ?_
  rintro x w2 ⟨v2, rfl, ho2, hx2⟩
  have hb72 := HB7.out.drew.ex hx2 (by simp)
  have hb62 := HB61.out.drew.ex hx2 (by simp)
  obtain ⟨p2, c2, rfl⟩ := own_slice ho2
  obtain ⟨hc6, hf6⟩ := hb62.all
  have hl6 := hb62.lt
  refine hK.out _ _ (fun _ => ⟨hb72.all.1 0, hb72.all.1 1⟩) ?_
  clear hK K
  simp only [Act.put, List.setIfInBounds_toArray, List.set_cons_zero, List.set_cons_succ, List.getElem_toArray, List.getElem_cons_zero, List.getElem_cons_succ, List.replicate, Array.replicate, List.size_toArray, List.length_cons, List.length_nil]
  refine wpAnyJ_one (i := 5) rfl rfl (by kernel_rfl) (fun K hK => ?_)
  go_simp
  refine hK.out _ _ (fun _ => ⟨hb72.all.1 0, hb72.all.1 1⟩) ?_
  clear hK K
  simp only [Act.put, List.setIfInBounds_toArray, List.set_cons_zero, List.set_cons_succ, List.getElem_toArray, List.getElem_cons_zero, List.getElem_cons_succ, List.replicate, Array.replicate, List.size_toArray, List.length_cons, List.length_nil]
  refine wpAnyJ_one (i := 6) rfl rfl (by kernel_rfl) (fun K hK => ?_)
  go_simp
  have hb73 := ((hb72.set (p := ⟨w.heap.size + 1, 0, none⟩) (by simp; omega) (.slice p2 ls.length c2)).set (p := ⟨w.heap.size + 1, 1, none⟩) (by simp; omega) (.bool b))
  refine hK.out _ _ (fun _ => ⟨hb73.all.1 0, hb73.all.1 1⟩) ?_
  clear hK K
  refine wpAnyJ_done (by kernel_rfl) ?_ _
  have hz2 : w1.heap.size ≤ w2.heap.size := hx2.size
  have ho2' : w2.ownsRow w1.heap.size 42 2 (.slice p2 ls.length c2) ls.length (cellsOfL ls) := ho2
  have hx02 : Ex [] w w2 := (HX01.out.drew).trans hx2
  have HO2 := hide ho2'
  have HX02 := hide hx02
  have HB62 := hide hb62
  clear ho2 ho2' hx2 hx02 hb62 hb72 hb73 hc6 hf6 k0 k1
  go_wp2_with fail
  have hb3 := (HB62.out.self 0 (.slice p2 ls.length c2)).self 1 (.bool b)
  simp only [List.setIfInBounds_toArray, List.set_cons_zero, List.set_cons_succ] at hb3
  have hl3 := run_loadVar_mid (P := Tryz.prog) _ (w.heap.size + 1) 0 78 [.slice p2 ls.length c2, .bool b] _ hb3.rangeL Tryz.underlying78 rfl (by kernel_rfl)
  refine bodyPost_ret (results_cell1 rfl rfl hl3) rfl ⟨_, ls, b, rfl, HR.out, hl60, ?_, ?_⟩
  · exact own_base (own_set (own_set HO2.out (by simp; omega) _) (by simp; omega) _) (by omega)
  · exact (HX02.out.setCell (.inr (by simp)) _).setCell (.inr (by simp)) _
end Go.Proofs.YtcbiidoebpkifaaGreatDoor
