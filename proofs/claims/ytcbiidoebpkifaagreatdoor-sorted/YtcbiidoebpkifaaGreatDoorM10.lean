/- Contract of (*memory.Memory).Recall: a series that is not remembered. -/
import Derived.Test.YtcbiidoebpkifaaGreatDoorM09
set_option linter.unusedVariables false
set_option linter.unusedSimpArgs false
namespace Go.Proofs.YtcbiidoebpkifaaGreatDoor
open Go.RowKit

def nextTs (room : Nat) (ts : List (List Value)) (S : List Value) : List (List Value) := if ts.length < room then ts ++ [S] else ts.tail ++ [S]

theorem remember_any (R : List Value → List Lab → Bool → Prop) (m mb base room : Nat) (ts : List (List Value)) (tv : Value) (es : Array MapEntry) (clk : Nat) (S : List Value) (sl : Value) (ls : List Lab) (b : Bool) (w : World)
    (hm : MM R w m mb base room ts tv es clk) (hS : SerOk S) (hno : S ∉ ts) (hsl : SL w sl ls) (hl60 : ls.length ≤ 60) (hR : R S ls b) (hfr : ∀ k, sl.ownBlock = some k → base ≤ k ∧ tv.ownBlock ≠ some k ∧ IsLabs w k) :
    Calls Tryz.prog 50 #[.pointer (some ⟨m, 0, none⟩), .agg S.toArray, ansV sl b] w fun e w' => e = .returned (.tuple #[]) ∧ ∃ tv' es' clk', MM R w' m mb base room (nextTs room ts S) tv' es' clk' ∧ Ex (m :: mb :: tv.ownBlock.toList) w w' := by
  unfold nextTs
  by_cases hr : ts.length < room
  · rw [if_pos hr]; exact remember_room R m mb base room ts tv es clk S sl ls b w hm hS hno hr hsl hl60 hR hfr
  · rw [if_neg hr]
    have h1 := hm.len
    have h2 := hm.room1
    cases ts with
    | nil => simp at hr; omega
    | cons S0 tt =>
      obtain rfl : room = tt.length + 1 := by simp at h1 hr; omega
      exact remember_full R m mb base S0 tt tv es clk S sl ls b w hm hS hno hsl hl60 hR hfr

def Works (R : List Value → List Lab → Bool → Prop) (w : World) (S : List Value) (ev : Value) : Prop := ∀ W : World, Ex [] w W →
  Calls Tryz.prog 26 #[ev, .agg S.toArray] W fun x w' => ∃ v ls b, x = .returned (ansV v b) ∧ R S ls b ∧ ls.length ≤ 60 ∧ w'.ownsRow W.heap.size 42 2 v ls.length (cellsOfL ls) ∧ Ex [] W w'

set_option maxHeartbeats 2000000 in
set_option maxRecDepth 100000 in
theorem recall_miss (R : List Value → List Lab → Bool → Prop) (m mb base room : Nat) (ts : List (List Value)) (tv : Value) (es : Array MapEntry) (clk : Nat) (S : List Value) (ev : Value) (w : World)
    (hm : MM R w m mb base room ts tv es clk) (hS : SerOk S) (hno : S ∉ ts) (hwk : Works R w S ev) :
    Calls Tryz.prog 25 #[.pointer (some ⟨m, 0, none⟩), .agg S.toArray, .func (.func 26) #[ev] #[]] w fun x w' => ∃ v ls b, x = .returned (ansV v b) ∧ R S ls b ∧ ls.length ≤ 60 ∧
      w'.ownsRow w.heap.size 42 2 v ls.length (cellsOfL ls) ∧ (∃ tv' es' clk', MM R w' m mb base room (nextTs room ts S) tv' es' clk') ∧ Ex (m :: mb :: tv.ownBlock.toList) w w' := by
  have HM := hide hm
  have HS := hide hS
  have HNO := hide hno
  have HWK := hide hwk
  have hlk : ∀ w' : World, w'.heap[mb]? = some (.map es clk) → (Instr.lookup 136 (.map (some mb)) (.agg S.toArray) true).run Tryz.prog w' = .ok (.tuple #[.agg #[.slice none 0 0, .bool false], .bool false]) w' := fun w' hw' =>
    look_miss (w := w') hw' hm.keysOk hS (hm.not_mem hno)
  have hisz : (Tryz.prog.info? 74).map (·.size) = some S.length := by rw [hS.1]; kernel_rfl
  have HI := hide hisz
  have hle := hm.le
  have hmlt := hm.mlt
  have hmblt := hm.mblt
  clear hm hS hno hwk hisz
  go_enter Tryz.func25, Tryz.ntmps25
  go_wp2_with fail
  generalize hw0 : World.alloc _ _ = w0
  have hx0 : Ex [] w w0 := by rw [← hw0]; exact ((Ex.refl _ _).alloc _).alloc _
  have hb4 : BK w0 w.heap.size (.cells S.toArray 74 (0, 0)) := by rw [← hw0]; exact (BK.new _ _).alloc _
  have hb6 : BK w0 (w.heap.size + 1) (.cells #[.slice none 0 0, .bool false] 78 (0, 0)) := by
    have h1 := BK.new (w.alloc (Obj.cells S.toArray 74)) (Obj.cells #[.slice none 0 0, .bool false] 78)
    simp only [World.size_alloc] at h1
    rw [← hw0]; exact h1
  have hm0 := HM.out.ex hx0 (by simp)
  have hz0 : w.heap.size + 2 ≤ w0.heap.size := hb6.lt
  have c0 : w0.cell? ⟨m, 0, none⟩ = some (.map (some mb)) := hm0.blk.all.1 0
  have m0 : w0.heap[mb]? = some (.map es clk) := hm0.map
  have r0 := hb4.rangeL
  have hb4a := (hb4.drew.alloc (Obj.cells #[.slice none 0 0, .bool false] 78))
  have hma := (hm0.blk.drew.alloc (Obj.cells #[.slice none 0 0, .bool false] 78))
  have hmapa := (hm0.map.drew.alloc (Obj.cells #[.slice none 0 0, .bool false] 78))
  have HB4A := hide hb4a
  have HMA := hide hma
  have HMAPA := hide hmapa
  have HX0 := hide hx0
  have HB6 := hide hb6
  have HM0 := hide hm0
  have HB4 := hide hb4
  have hml := hm0.blk.lt
  have hmbl := hm0.map.lt
  clear hw0 hx0 hb4 hb6 hm0 hb4a hma hmapa
  refine wp_region_J (by kernel_rfl) ?_
  refine wpAny_take (i := 0) (v := ?_) rfl (by kernel_rfl) (by kernel_rfl) (by kernel_rfl) (fun _ _ _ h => h) (Or.inl ⟨by rfl, ?_⟩) ?_
  rotate_left
  · intro w'
    go_simp
    try with_reducible rfl
  simp only [Act.put, List.setIfInBounds_toArray, List.set_cons_zero, List.set_cons_succ, List.getElem_toArray, List.getElem_cons_zero, List.getElem_cons_succ, List.replicate, Array.replicate, List.size_toArray, List.length_cons, List.length_nil]
  refine wpAny_take (i := 1) (v := ?_) rfl (by kernel_rfl) (by kernel_rfl) (by kernel_rfl) (fun _ _ _ h => h) (Or.inl ⟨by rfl, ?_⟩) ?_
  rotate_left
  · intro w'
    go_simp
    try with_reducible rfl
  simp only [Act.put, List.setIfInBounds_toArray, List.set_cons_zero, List.set_cons_succ, List.getElem_toArray, List.getElem_cons_zero, List.getElem_cons_succ, List.replicate, Array.replicate, List.size_toArray, List.length_cons, List.length_nil]
  refine wpAny_take (i := 2) (v := ?_) rfl (by kernel_rfl) (by kernel_rfl) (by kernel_rfl) (fun _ _ _ h => h) (Or.inl ⟨by rfl, ?_⟩) ?_
  rotate_left
  · intro w'
    go_simp
    try with_reducible rfl
  simp only [Act.put, List.setIfInBounds_toArray, List.set_cons_zero, List.set_cons_succ, List.getElem_toArray, List.getElem_cons_zero, List.getElem_cons_succ, List.replicate, Array.replicate, List.size_toArray, List.length_cons, List.length_nil]
  refine wpAny_of_J (S := (fun j w' => j < 12 → w'.cell? ⟨m, 0, none⟩ = some (.map (some mb)) ∧ w'.heap[mb]? = some (.map es clk) ∧ w'.rangeAt w.heap.size 0 S)) _ _ _ _ ?_
  refine wpAnyJ_take (i := 3) (T := (fun w' => w'.cell? ⟨m, 0, none⟩ = some (.map (some mb)) ∧ w'.heap[mb]? = some (.map es clk) ∧ w'.rangeAt w.heap.size 0 S)) (v := ?_) (fun j => decide (j < 12)) rfl (by kernel_rfl) (by kernel_rfl) (by kernel_rfl) (by kernel_rfl) (fun j w' hj h => h (by simpa using hj)) (fun w' h _ => h) (fun _ _ _ h => h) ⟨c0, m0, r0⟩ (Or.inl ⟨by rfl, ?_⟩) ?_
  rotate_left
  · intro w' hSw
    obtain ⟨f1, f2, f3⟩ := hSw
    go_simp
    try with_reducible rfl
  simp only [Act.put, List.setIfInBounds_toArray, List.set_cons_zero, List.set_cons_succ, List.getElem_toArray, List.getElem_cons_zero, List.getElem_cons_succ, List.replicate, Array.replicate, List.size_toArray, List.length_cons, List.length_nil]
  refine wpAnyJ_take (i := 4) (T := (fun w' => w'.cell? ⟨m, 0, none⟩ = some (.map (some mb)) ∧ w'.heap[mb]? = some (.map es clk) ∧ w'.rangeAt w.heap.size 0 S)) (v := _) (fun j => decide (j < 12)) rfl (by kernel_rfl) (by kernel_rfl) (by kernel_rfl) (by kernel_rfl) (fun j w' hj h => h (by simpa using hj)) (fun w' h _ => h) (fun _ _ _ h => h) ⟨c0, m0, r0⟩ (yieldsIf_load_mid (by rfl) _ _ rfl _ _ rfl S _ (fun w' h => h.2.2) Tryz.underlying74 rfl HI.out) ?_
  simp only [Act.put, List.setIfInBounds_toArray, List.set_cons_zero, List.set_cons_succ, List.getElem_toArray, List.getElem_cons_zero, List.getElem_cons_succ, List.replicate, Array.replicate, List.size_toArray, List.length_cons, List.length_nil]
  refine wpAnyJ_take (i := 5) (T := (fun w' => w'.cell? ⟨m, 0, none⟩ = some (.map (some mb)) ∧ w'.heap[mb]? = some (.map es clk) ∧ w'.rangeAt w.heap.size 0 S)) (v := ?_) (fun j => decide (j < 12)) rfl (by kernel_rfl) (by kernel_rfl) (by kernel_rfl) (by kernel_rfl) (fun j w' hj h => h (by simpa using hj)) (fun w' h _ => h) (fun _ _ _ h => h) ⟨c0, m0, r0⟩ (Or.inl ⟨by rfl, ?_⟩) ?_
  rotate_left
  · intro w' hSw
    obtain ⟨f1, f2, f3⟩ := hSw
    have hlw := hlk w' f2
    go_simp
    try with_reducible rfl
  simp only [Act.put, List.setIfInBounds_toArray, List.set_cons_zero, List.set_cons_succ, List.getElem_toArray, List.getElem_cons_zero, List.getElem_cons_succ, List.replicate, Array.replicate, List.size_toArray, List.length_cons, List.length_nil]
  refine wpAnyJ_take (i := 6) (T := (fun w' => w'.cell? ⟨m, 0, none⟩ = some (.map (some mb)) ∧ w'.heap[mb]? = some (.map es clk) ∧ w'.rangeAt w.heap.size 0 S)) (v := ?_) (fun j => decide (j < 12)) rfl (by kernel_rfl) (by kernel_rfl) (by kernel_rfl) (by kernel_rfl) (fun j w' hj h => h (by simpa using hj)) (fun w' h _ => h) (fun _ _ _ h => h) ⟨c0, m0, r0⟩ (Or.inl ⟨by rfl, ?_⟩) ?_
  rotate_left
  · intro w' hSw
    obtain ⟨f1, f2, f3⟩ := hSw
    go_simp
    try with_reducible rfl
  simp only [Act.put, List.setIfInBounds_toArray, List.set_cons_zero, List.set_cons_succ, List.getElem_toArray, List.getElem_cons_zero, List.getElem_cons_succ, List.replicate, Array.replicate, List.size_toArray, List.length_cons, List.length_nil]
  refine wpAnyJ_take (i := 7) (T := (fun w' => w'.cell? ⟨m, 0, none⟩ = some (.map (some mb)) ∧ w'.heap[mb]? = some (.map es clk) ∧ w'.rangeAt w.heap.size 0 S)) (v := ?_) (fun j => decide (j < 12)) rfl (by kernel_rfl) (by kernel_rfl) (by kernel_rfl) (by kernel_rfl) (fun j w' hj h => h (by simpa using hj)) (fun w' h _ => h) (fun _ _ _ h => h) ⟨c0, m0, r0⟩ (Or.inl ⟨by rfl, ?_⟩) ?_
  rotate_left
  · intro w' hSw
    obtain ⟨f1, f2, f3⟩ := hSw
    go_simp
    try with_reducible rfl
  simp only [Act.put, List.setIfInBounds_toArray, List.set_cons_zero, List.set_cons_succ, List.getElem_toArray, List.getElem_cons_zero, List.getElem_cons_succ, List.replicate, Array.replicate, List.size_toArray, List.length_cons, List.length_nil]
  refine wpAnyJ_take (i := 8) (T := (fun w' => w'.cell? ⟨m, 0, none⟩ = some (.map (some mb)) ∧ w'.heap[mb]? = some (.map es clk) ∧ w'.rangeAt w.heap.size 0 S)) (v := ?_) (fun j => decide (j < 12)) rfl (by kernel_rfl) (by kernel_rfl) (by kernel_rfl) (by kernel_rfl) (fun j w' hj h => h (by simpa using hj)) (fun w' h _ => h) (fun _ _ _ h => h) ⟨c0, m0, r0⟩ (Or.inl ⟨by rfl, ?_⟩) ?_
  rotate_left
  · intro w' hSw
    obtain ⟨f1, f2, f3⟩ := hSw
    go_simp
    try with_reducible rfl
  simp only [Act.put, List.setIfInBounds_toArray, List.set_cons_zero, List.set_cons_succ, List.getElem_toArray, List.getElem_cons_zero, List.getElem_cons_succ, List.replicate, Array.replicate, List.size_toArray, List.length_cons, List.length_nil]
  refine wpAnyJ_one (i := 9) rfl rfl (by kernel_rfl) (fun K hK => ?_)
  go_simp
  refine hK.out _ _ (fun _ => ⟨HMA.out.all.1 0, HMAPA.out, HB4A.out.rangeL⟩) ?_
  clear hK K
  simp only [Act.put, List.setIfInBounds_toArray, List.set_cons_zero, List.set_cons_succ, List.getElem_toArray, List.getElem_cons_zero, List.getElem_cons_succ, List.replicate, Array.replicate, List.size_toArray, List.length_cons, List.length_nil]
  refine wpAnyJ_one (i := 10) rfl rfl (by kernel_rfl) (fun K hK => ?_)
  go_simp
  have hf1 : (w0.alloc (Obj.cells #[.slice none 0 0, .bool false] 78)).drew.cell? ⟨m, 0, none⟩ = some (.map (some mb)) ∧ (w0.alloc (Obj.cells #[.slice none 0 0, .bool false] 78)).drew.heap[mb]? = some (.map es clk) ∧ (w0.alloc (Obj.cells #[.slice none 0 0, .bool false] 78)).drew.rangeAt w.heap.size 0 S :=
    ⟨((HM0.out.blk.alloc _).drew).all.1 0, (HM0.out.map.alloc _).drew, ((HB4.out.alloc _).drew).rangeL⟩
  refine hK.out _ _ (fun _ => hf1) ?_
  clear hK K
  simp only [Act.put, List.setIfInBounds_toArray, List.set_cons_zero, List.set_cons_succ, List.getElem_toArray, List.getElem_cons_zero, List.getElem_cons_succ, List.replicate, Array.replicate, List.size_toArray, List.length_cons, List.length_nil]
  refine wpAnyJ_one (i := 11) rfl rfl (by kernel_rfl) (fun K hK => ?_)
  go_simp
  refine hK.out _ _ (fun _ => hf1) ?_
  clear hK K hf1
  refine wpAnyJ_done (by kernel_rfl) ?_ _
  generalize hw1 : World.drew _ = w1
  have hb7 : BK w1 w0.heap.size (.cells #[.slice none 0 0, .bool false] 78 (0, 0)) := by rw [← hw1]; exact (BK.new _ _).drew
  have hx1 : Ex [] w0 w1 := by rw [← hw1]; exact ((Ex.refl _ _).alloc _).drew
  have hz1 : w0.heap.size < w1.heap.size := hb7.lt
  have hx01 : Ex [] w w1 := HX0.out.trans hx1
  have hb61 := HB6.out.ex hx1 (by simp)
  have hb41 := HB4.out.ex hx1 (by simp)
  have r1 := hb41.rangeL
  have HR1 := hide r1
  have HX01 := hide hx01
  have HB7 := hide hb7
  have HB61 := hide hb61
  have HB41 := hide hb41
  clear hw1 hb7 hx1 hx01 hb61 hb41 r1 c0 m0 r0 hlk HB4A HMA HMAPA HX0 HB6
  go_wp2_with (refine wpList_load_mid rfl 74 _ rfl w.heap.size 0 rfl S _ HR1.out Tryz.underlying74 rfl HI.out ?_)
  refine (HWK.out w1 HX01.out).mono ?_
  rintro x w2 ⟨v2, ls, b, rfl, hR2, hl60, ho2, hx2⟩
  obtain ⟨p2, c2, rfl⟩ := own_slice ho2
  have hz2 := hx2.size
  have hb72 := HB7.out.ex hx2 (by simp)
  have hb42 := HB41.out.ex hx2 (by simp)
  have hb62 := HB61.out.ex hx2 (by simp)
  have hx02 : Ex [] w w2 := HX01.out.trans hx2
  obtain ⟨w3, hw3⟩ : ∃ w3, w3 = (w2.setCell ⟨w0.heap.size, 0, none⟩ (.slice p2 ls.length c2)).setCell ⟨w0.heap.size, 1, none⟩ (.bool b) := ⟨_, rfl⟩
  have hb73 : BK w3 w0.heap.size (.cells #[.slice p2 ls.length c2, .bool b] 78 (0, 0)) := by
    have := (hb72.self 0 (.slice p2 ls.length c2)).self 1 (.bool b)
    simp only [List.setIfInBounds_toArray, List.set_cons_zero, List.set_cons_succ] at this
    rw [hw3]; exact this
  have hb43 : BK w3 w.heap.size (.cells S.toArray 74 (0, 0)) := by rw [hw3]; exact (hb42.set (by simp; omega) _).set (by simp; omega) _
  have hb63 : BK w3 (w.heap.size + 1) (.cells #[.slice none 0 0, .bool false] 78 (0, 0)) := by rw [hw3]; exact (hb62.set (by simp; omega) _).set (by simp; omega) _
  have hx03 : Ex [] w w3 := by rw [hw3]; exact (hx02.setCell (.inr (by simp; omega)) _).setCell (.inr (by simp; omega)) _
  have ho3 : w3.ownsRow w1.heap.size 42 2 (.slice p2 ls.length c2) ls.length (cellsOfL ls) := by rw [hw3]; exact own_set (own_set ho2 (by simp; omega) _) (by simp; omega) _
  have hz3 : w2.heap.size = w3.heap.size := by rw [hw3]; simp
  have HR3 := hide hb43.rangeL
  rw [hw3] at HR3
  have HW3 := hide hw3
  obtain ⟨hc7, hf7⟩ := hb72.all
  have hl7 := hb72.lt
  have HB73 := hide hb73
  have HB63 := hide hb63
  have HX03 := hide hx03
  have HO3 := hide ho3
  have HR2 := hide hR2
  clear hR2 ho2 hx2 hb72 hb42 hb62 hx02 hb73 hb43 hb63 hx03 ho3 hw3 hz3
  unfold ansV
  go_wp2_with (refine wpList_load_mid rfl 74 _ rfl w.heap.size 0 rfl S _ HR3.out Tryz.underlying74 rfl HI.out ?_)
  rw [← unhide HW3]
  have hm3 := HM.out.ex HX03.out (by simp)
  have hfr3 : ∀ k, (Value.slice p2 ls.length c2).ownBlock = some k → base ≤ k ∧ tv.ownBlock ≠ some k ∧ IsLabs w3 k := fun k hk => by
    have h1 := own_block HO3.out k hk
    refine ⟨by omega, fun h => ?_, own_labs HO3.out k hk⟩
    have h2 := (HM.out.row.lt k h).2
    omega
  refine (remember_any R m mb base room ts tv es clk S (.slice p2 ls.length c2) ls b w3 hm3 HS.out HNO.out (own_sl HO3.out) hl60 HR2.out hfr3).mono ?_
  rintro x w4 ⟨rfl, tv', es', clk', hm4, hx4⟩
  have hz4 := hx4.size
  have hrt : ∀ k, tv.ownBlock = some k → k < w.heap.size := fun k hk => (HM.out.row.lt k hk).2
  have hnot : ∀ k, w.heap.size ≤ k → k ∉ (m :: mb :: tv.ownBlock.toList) := fun k hk hm => by
    simp only [List.mem_cons, Option.mem_toList] at hm
    rcases hm with h | h | h
    · omega
    · omega
    · have := hrt k h; omega
  have hb74 := HB73.out.ex hx4 (hnot _ (by omega))
  have hb64 := HB63.out.ex hx4 (hnot _ (by omega))
  have hsl4 : SL w4 (.slice p2 ls.length c2) ls := (own_sl HO3.out).ex hx4 (fun k hk => hnot k (by have := own_block HO3.out k hk; omega))
  have hx04 : Ex (m :: mb :: tv.ownBlock.toList) w w4 := (HX03.out.drop (by simp)).trans hx4
  have k0 : w4.cell? ⟨w0.heap.size, 0, none⟩ = some (.slice p2 ls.length c2) := hb74.all.1 0
  have k1 : w4.cell? ⟨w0.heap.size, 1, none⟩ = some (.bool b) := hb74.all.1 1
  have hl74 := hb74.lt
  have hz04 : w.heap.size ≤ w4.heap.size := hx04.size
  clear HX01 HB7 HB61
  have HX01 := hide hx04
  have HB7 := hide hb74
  have HB61 := hide hb64
  have HSL1 := hide hsl4
  have HM4 := hide hm4
  clear hx4 hm4 hb74 hb64 hsl4 hx04 hm3 hfr3 hc7 hf7 hnot hrt
  go_wp2_with fail
  refine wp_region_J (by kernel_rfl) ?_
  refine wpAny_take (i := 0) (v := ?_) rfl (by kernel_rfl) (by kernel_rfl) (by kernel_rfl) (fun _ _ _ h => h) (Or.inl ⟨by rfl, ?_⟩) ?_
  rotate_left
  · intro w'
    go_simp
    try with_reducible rfl
  simp only [Act.put, List.setIfInBounds_toArray, List.set_cons_zero, List.set_cons_succ, List.getElem_toArray, List.getElem_cons_zero, List.getElem_cons_succ, List.replicate, Array.replicate, List.size_toArray, List.length_cons, List.length_nil]
  refine wpAny_take (i := 3) (v := ?_) rfl (by kernel_rfl) (by kernel_rfl) (by kernel_rfl) (fun _ _ _ h => h) (Or.inl ⟨by rfl, ?_⟩) ?_
  rotate_left
  · intro w'
    go_simp
    try with_reducible rfl
  simp only [Act.put, List.setIfInBounds_toArray, List.set_cons_zero, List.set_cons_succ, List.getElem_toArray, List.getElem_cons_zero, List.getElem_cons_succ, List.replicate, Array.replicate, List.size_toArray, List.length_cons, List.length_nil]
  refine wpAny_of_J (S := (fun j w' => j < 7 → w'.cell? ⟨w0.heap.size, 0, none⟩ = some (.slice p2 ls.length c2) ∧ w'.cell? ⟨w0.heap.size, 1, none⟩ = some (.bool b))) _ _ _ _ ?_
  refine wpAnyJ_take (i := 1) (T := (fun w' => w'.cell? ⟨w0.heap.size, 0, none⟩ = some (.slice p2 ls.length c2) ∧ w'.cell? ⟨w0.heap.size, 1, none⟩ = some (.bool b))) (v := ?_) (fun j => decide (j < 7)) rfl (by kernel_rfl) (by kernel_rfl) (by kernel_rfl) (by kernel_rfl) (fun j w' hj h => h (by simpa using hj)) (fun w' h _ => h) (fun _ _ _ h => h) ⟨k0, k1⟩ (Or.inl ⟨by rfl, ?_⟩) ?_
  rotate_left
  · intro w' hSw
    obtain ⟨f1, f2⟩ := hSw
    go_simp
    try with_reducible rfl
  simp only [Act.put, List.setIfInBounds_toArray, List.set_cons_zero, List.set_cons_succ, List.getElem_toArray, List.getElem_cons_zero, List.getElem_cons_succ, List.replicate, Array.replicate, List.size_toArray, List.length_cons, List.length_nil]
  refine wpAnyJ_take (i := 4) (T := (fun w' => w'.cell? ⟨w0.heap.size, 0, none⟩ = some (.slice p2 ls.length c2) ∧ w'.cell? ⟨w0.heap.size, 1, none⟩ = some (.bool b))) (v := ?_) (fun j => decide (j < 7)) rfl (by kernel_rfl) (by kernel_rfl) (by kernel_rfl) (by kernel_rfl) (fun j w' hj h => h (by simpa using hj)) (fun w' h _ => h) (fun _ _ _ h => h) ⟨k0, k1⟩ (Or.inl ⟨by rfl, ?_⟩) ?_
  rotate_left
  · intro w' hSw
    obtain ⟨f1, f2⟩ := hSw
    go_simp
    try with_reducible rfl
  simp only [Act.put, List.setIfInBounds_toArray, List.set_cons_zero, List.set_cons_succ, List.getElem_toArray, List.getElem_cons_zero, List.getElem_cons_succ, List.replicate, Array.replicate, List.size_toArray, List.length_cons, List.length_nil]
  refine wpAnyJ_one (i := 2) rfl rfl (by kernel_rfl) (fun K hK => ?_)
  go_simp
  refine (cloneLab _ ls _ (HSL1.out.ex (Ex.refl [] _).drew (by simp)) (by omega)).mono ?_
  rintro x w5 ⟨v2, rfl, ho2, hx2⟩
  have hb72 := HB7.out.drew.ex hx2 (by simp)
  have hb62 := HB61.out.drew.ex hx2 (by simp)
  obtain ⟨p5, c5, rfl⟩ := own_slice ho2
  obtain ⟨hc6, hf6⟩ := hb62.all
  have hl6 := hb62.lt
  refine hK.out _ _ (fun _ => ⟨hb72.all.1 0, hb72.all.1 1⟩) ?_
  clear hK K
  simp only [Act.put, List.setIfInBounds_toArray, List.set_cons_zero, List.set_cons_succ, List.getElem_toArray, List.getElem_cons_zero, List.getElem_cons_succ, List.replicate, Array.replicate, List.size_toArray, List.length_cons, List.length_nil]
  refine wpAnyJ_one (i := 5) rfl rfl (by kernel_rfl) (fun K hK => ?_)
  go_simp
  refine hK.out _ _ (fun _ => ⟨hb72.all.1 0, hb72.all.1 1⟩) ?_
  clear hK K
  simp only [Act.put, List.setIfInBounds_toArray, List.set_cons_zero, List.set_cons_succ, List.getElem_toArray, List.getElem_cons_zero, List.getElem_cons_succ, List.replicate, Array.replicate, List.size_toArray, List.length_cons, List.length_nil]
  refine wpAnyJ_one (i := 6) rfl rfl (by kernel_rfl) (fun K hK => ?_)
  go_simp
  have hb73 := ((hb72.set (p := ⟨w.heap.size + 1, 0, none⟩) (by simp; omega) (.slice p5 ls.length c5)).set (p := ⟨w.heap.size + 1, 1, none⟩) (by simp; omega) (.bool b))
  refine hK.out _ _ (fun _ => ⟨hb73.all.1 0, hb73.all.1 1⟩) ?_
  clear hK K
  refine wpAnyJ_done (by kernel_rfl) ?_ _
  have hz2 : w4.heap.size ≤ w5.heap.size := hx2.size
  have ho2' : w5.ownsRow w4.heap.size 42 2 (.slice p5 ls.length c5) ls.length (cellsOfL ls) := ho2
  have hx02 : Ex (m :: mb :: tv.ownBlock.toList) w w5 := (HX01.out.drew).trans (hx2.drop (by simp))
  have HO2 := hide ho2'
  have HX02 := hide hx02
  have HB62 := hide hb62
  have HX45 := hide hx2
  clear ho2 ho2' hx2 hx02 hb62 hb72 hb73 hc6 hf6 k0 k1
  go_wp2_with fail
  have hb3 := (HB62.out.self 0 (.slice p5 ls.length c5)).self 1 (.bool b)
  simp only [List.setIfInBounds_toArray, List.set_cons_zero, List.set_cons_succ] at hb3
  have hl3 := run_loadVar_mid (P := Tryz.prog) _ (w.heap.size + 1) 0 78 [.slice p5 ls.length c5, .bool b] _ hb3.rangeL Tryz.underlying78 rfl (by kernel_rfl)
  refine bodyPost_ret (results_cell1 rfl rfl hl3) rfl ⟨_, ls, b, rfl, HR2.out, hl60, ?_, ⟨tv', es', clk', ?_⟩, ?_⟩
  · exact own_base (own_set (own_set HO2.out (by simp; omega) _) (by simp; omega) _) (by omega)
  · have hm5 := (HM4.out.ex ((Ex.refl [] _).drew) (by simp)).ex HX45.out (by simp)
    have hs1 := hm5.set HB62.out (by decide) (by decide) (by omega) 0 (.slice p5 ls.length c5)
    have hb63 := HB62.out.self 0 (.slice p5 ls.length c5)
    exact hs1.set hb63 (by decide) (by decide) (by omega) 1 (.bool b)
  · exact (HX02.out.setCell (.inr (by simp)) _).setCell (.inr (by simp)) _
end Go.Proofs.YtcbiidoebpkifaaGreatDoor
