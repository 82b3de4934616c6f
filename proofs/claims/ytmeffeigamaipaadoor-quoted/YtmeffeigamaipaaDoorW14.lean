/- The contract of follow: one way, to an instruction that was not reached yet. -/
import Derived.Test.YtmeffeigamaipaaDoorW13
import Derived.Test.YtmeffeigamaipaaDoorOrd
set_option linter.unusedVariables false
set_option linter.unusedSimpArgs false
namespace Go.Proofs.YtmeffeigamaipaaDoor
open Go.RowKit

theorem info131 : (Tryd.prog.info? 113).map (fun i => (i.zero, i.size, i.bytes)) = some (some (.agg #[.int .i64 0, .int .i64 0, .int .i64 0, .int .i64 0, .int .i64 0, .int .i64 0, .int .i64 0, .int .i64 0, .int .i64 0, .int .i64 0, .int .i64 0]), 11, 88) := by kernel_rfl

/-- A thread at instruction k. -/
def thr (k : Nat) : List Value := [.int .i64 k, .int .i64 (-1), .int .i64 (-1), .int .i64 (-1), .int .i64 (-1), .int .i64 (-1), .int .i64 (-1), .int .i64 (-1), .int .i64 (-1), .int .i64 (-1), .int .i64 (-1)]

def unsetL : List Value := [.int .i64 (-1), .int .i64 (-1), .int .i64 (-1), .int .i64 (-1), .int .i64 (-1), .int .i64 (-1), .int .i64 (-1), .int .i64 (-1), .int .i64 (-1), .int .i64 (-1)]
theorem size90 : (Tryd.prog.info? 79).map (·.size) = some unsetL.length := by kernel_rfl
theorem BK.range {w : World} {b : Nat} {cs : Array Value} {e : TypeId} (h : BK w b (.cells cs e (0, 0))) : w.rangeAt b 0 cs.toList := by
  intro j v hv
  rw [h.all.1, Nat.zero_add]
  simpa using hv

set_option maxHeartbeats 2000000 in
set_option maxRecDepth 100000 in
theorem follow_one (u gr gw cw n k base : Nat) (pl : Int) (pv nowV nextV : Value) (w : World) (cs : Array Value) (c0 : Int)
    (hnow : w.ownsRow base 113 11 nowV 0 [])
    (hu : BK w u (.cells #[pv, nowV, nextV, .slice (some ⟨gr, 0, none⟩) n n] 108 (0, 0))) (hgr : BK w gr (.cells cs 3 (0, 0))) (hcs : cs.size = n) (hk : k < n) (hn : n ≤ 1000)
    (hck : cs[k]? = some (.int .i64 c0)) (hne : (c0 == pl) = false) (hbu : u < base) (hbg : gr < base) (hug : u ≠ gr) (hbw : base ≤ w.heap.size)
    (hw0 : w.cell? ⟨gw, 0, none⟩ = some (.int .i64 k)) (hw1 : w.cell? ⟨gw, 1, none⟩ = some (.int .u64 0)) (hgw : gw < w.heap.size) :
    Calls Tryd.prog 23 #[.pointer (some ⟨u, 0, none⟩), .slice (some ⟨gw, 0, none⟩) 1 cw, unsetV, .int .i64 pl] w fun e w' => e = .returned (.tuple #[]) ∧
      ∃ nowV', BK w' u (.cells #[pv, nowV', nextV, .slice (some ⟨gr, 0, none⟩) n n] 108 (0, 0)) ∧ w'.ownsRow base 113 11 nowV' 1 (thr k) ∧ BK w' gr (.cells (cs.setIfInBounds k (.int .i64 pl)) 3 (0, 0)) ∧
        Ex (u :: gr :: nowV.ownBlock.toList) w w' ∧ (nowV'.ownBlock = nowV.ownBlock ∨ ∃ g, nowV'.ownBlock = some g ∧ w.heap.size ≤ g) := by
  obtain ⟨t0, hi, hz0, hz1, hz2⟩ := info_parts info131
  obtain ⟨p, c, rfl⟩ := own_slice hnow
  have HN := hide hnow
  have HU := hide hu
  have HG := hide hgr
  obtain ⟨hcu, hfu⟩ := hu.all
  obtain ⟨hcg, hfg⟩ := hgr.all
  have hul := hu.lt
  have hgl := hgr.lt
  have kg : w.cell? ⟨gr, k, none⟩ = some (.int .i64 c0) := by rw [hcg, hck]
  have kf := hfg k
  have hk' : (k : Int) < (n : Int) := by omega
  clear hnow hu hgr hcg hfg
  unfold unsetV
  go_enter Tryd.func23, Tryd.ntmps23
  go_wp2_with fail
  refine wp_loop_rounds 2 ?_
  rw [rounds_succ]
  go_wp2_with fail
  go_quiet (fail)
  go_wp2_with fail
  go_region
  generalize hw3 : World.setCell _ (⟨gr, k, none⟩ : Addr) _ = w3
  have hx3 : Ex [gr] w w3 := by
    rw [← hw3]; exact ((((Ex.refl _ _).alloc _).alloc _).drewN _).setCell (Or.inl (by simp)) _
  have hu3 := HU.out.ex hx3 (by simpa using hug)
  have hg3 : BK w3 gr (.cells (cs.setIfInBounds k (.int .i64 pl)) 3 (0, 0)) := by
    rw [← hw3]; exact (((HG.out.alloc _).alloc _).drewN _).self k _
  have hs3 : BK w3 w.heap.size (.cells #[.int .i64 (-1), .int .i64 (-1), .int .i64 (-1), .int .i64 (-1), .int .i64 (-1), .int .i64 (-1), .int .i64 (-1), .int .i64 (-1), .int .i64 (-1), .int .i64 (-1)] 79 (0, 0)) := by
    rw [← hw3]; exact (((BK.new _ _).alloc _).drewN _).set (by simp; omega) _
  have hb3 : BK w3 (w.heap.size + 1) (.cells #[.int .i64 k, .int .u64 0] 110 (0, 0)) := by
    have h1 := BK.new (w.alloc (Obj.cells #[.int .i64 (-1), .int .i64 (-1), .int .i64 (-1), .int .i64 (-1), .int .i64 (-1), .int .i64 (-1), .int .i64 (-1), .int .i64 (-1), .int .i64 (-1), .int .i64 (-1)] 79)) (Obj.cells #[.int .i64 k, .int .u64 0] 110)
    simp only [World.size_alloc] at h1
    rw [← hw3]; exact (h1.drewN _).set (by simp; omega) _
  have hn3 := own_ex HN.out hx3 (by simp; omega)
  clear hw3 hcu hfu kg kf hw0 hw1
  have HX3 := hide hx3
  have HU3 := hide hu3
  have HG3 := hide hg3
  have HS3 := hide hs3
  have HB3 := hide hb3
  have HN3 := hide hn3
  have hul3 := hu3.lt
  have hsl3 := hs3.lt
  have hbl3 := hb3.lt
  have hgl3 := hg3.lt
  obtain ⟨hcu3, hfu3⟩ := hu3.all
  have hcs3 : w3.rangeAt w.heap.size 0 unsetL := hs3.range
  obtain ⟨hcb3, hfb3⟩ := hb3.all
  have h90 := Tryd.underlying79
  have hfresh : ∀ b, w.heap.size ≤ b → (Value.slice p 0 c).ownBlock = some b → False := fun b hb e => by have := (HN.out.lt b e).2; omega
  have hs90 := size90
  clear hx3 hu3 hg3 hs3 hb3 hn3
  go_wp2_with fail
  refine wp_region_J (by kernel_rfl) ?_
  refine wpAny_take (i := 0) (v := ?_) rfl (by kernel_rfl) (by kernel_rfl) (by kernel_rfl) (fun _ _ _ h => h) (Or.inl ⟨by rfl, ?_⟩) ?_
  rotate_left
  · intro w'
    go_simp
    try with_reducible rfl
  simp only [Act.put, List.setIfInBounds_toArray, List.set_cons_zero, List.set_cons_succ, List.getElem_toArray, List.getElem_cons_zero, List.getElem_cons_succ, List.replicate, Array.replicate, List.size_toArray, List.length_cons, List.length_nil]
  refine wpAny_take (i := 1) (v := ?_) rfl (by kernel_rfl) (by kernel_rfl) (by kernel_rfl) (fun _ _ _ h => h) (Or.inl ⟨by rfl, ?_⟩) ?_
  rotate_left
  · intro w'
    go_simp
    try with_reducible rfl
  simp only [Act.put, List.setIfInBounds_toArray, List.set_cons_zero, List.set_cons_succ, List.getElem_toArray, List.getElem_cons_zero, List.getElem_cons_succ, List.replicate, Array.replicate, List.size_toArray, List.length_cons, List.length_nil]
  refine wpAny_take (i := 2) (v := ?_) rfl (by kernel_rfl) (by kernel_rfl) (by kernel_rfl) (fun _ _ _ h => h) (Or.inl ⟨by rfl, ?_⟩) ?_
  rotate_left
  · intro w'
    go_simp
    try with_reducible rfl
  simp only [Act.put, List.setIfInBounds_toArray, List.set_cons_zero, List.set_cons_succ, List.getElem_toArray, List.getElem_cons_zero, List.getElem_cons_succ, List.replicate, Array.replicate, List.size_toArray, List.length_cons, List.length_nil]
  refine wpAny_take (i := 3) (v := ?_) rfl (by kernel_rfl) (by kernel_rfl) (by kernel_rfl) (fun _ _ _ h => h) (Or.inl ⟨by rfl, ?_⟩) ?_
  rotate_left
  · intro w'
    go_simp
    try with_reducible rfl
  simp only [Act.put, List.setIfInBounds_toArray, List.set_cons_zero, List.set_cons_succ, List.getElem_toArray, List.getElem_cons_zero, List.getElem_cons_succ, List.replicate, Array.replicate, List.size_toArray, List.length_cons, List.length_nil]
  refine wpAny_take (i := 5) (v := ?_) rfl (by kernel_rfl) (by kernel_rfl) (by kernel_rfl) (fun _ _ _ h => h) (Or.inl ⟨by rfl, ?_⟩) ?_
  rotate_left
  · intro w'
    go_simp
    try with_reducible rfl
  simp only [Act.put, List.setIfInBounds_toArray, List.set_cons_zero, List.set_cons_succ, List.getElem_toArray, List.getElem_cons_zero, List.getElem_cons_succ, List.replicate, Array.replicate, List.size_toArray, List.length_cons, List.length_nil]
  refine wpAny_take (i := 8) (v := ?_) rfl (by kernel_rfl) (by kernel_rfl) (by kernel_rfl) (fun _ _ _ h => h) (Or.inl ⟨by rfl, ?_⟩) ?_
  rotate_left
  · intro w'
    go_simp
    try with_reducible rfl
  simp only [Act.put, List.setIfInBounds_toArray, List.set_cons_zero, List.set_cons_succ, List.getElem_toArray, List.getElem_cons_zero, List.getElem_cons_succ, List.replicate, Array.replicate, List.size_toArray, List.length_cons, List.length_nil]
  refine wpAny_take (i := 10) (v := ?_) rfl (by kernel_rfl) (by kernel_rfl) (by kernel_rfl) (fun _ _ _ h => h) (Or.inl ⟨by rfl, ?_⟩) ?_
  rotate_left
  · intro w'
    go_simp
    try with_reducible rfl
  simp only [Act.put, List.setIfInBounds_toArray, List.set_cons_zero, List.set_cons_succ, List.getElem_toArray, List.getElem_cons_zero, List.getElem_cons_succ, List.replicate, Array.replicate, List.size_toArray, List.length_cons, List.length_nil]
  refine wpAny_of_J (S := (fun j w' => ((∀ o, w'.cell? ⟨w.heap.size + 1, o, none⟩ = #[Value.int .i64 k, .int .u64 0][o]?) ∧ w'.rangeAt w.heap.size 0 unsetL) ∧ ((j = 4 ∨ 11 ≤ j ∧ j ≤ 13) → ∀ o, w'.cell? ⟨u, o, none⟩ = #[pv, .slice p 0 c, nextV, .slice (some ⟨gr, 0, none⟩) n n][o]?))) _ _ _ _ ?_
  refine wpAnyJ_take (i := 6) (T := (fun w' => (∀ o, w'.cell? ⟨w.heap.size + 1, o, none⟩ = #[Value.int .i64 k, .int .u64 0][o]?) ∧ w'.rangeAt w.heap.size 0 unsetL)) (v := ?_) (fun _ => true) rfl (by kernel_rfl) (by kernel_rfl) (by kernel_rfl) (by kernel_rfl) (fun j w' _ h => h.1) (fun w' h => ⟨h, fun hj => by omega⟩) (fun _ _ _ h => h) ⟨hcb3, hcs3⟩ (Or.inl ⟨by rfl, ?_⟩) ?_
  rotate_left
  · intro w' hSw
    try obtain ⟨⟨hSb, hSs⟩, hSu⟩ := hSw
    try obtain ⟨hSb, hSs⟩ := hSw
    go_simp
    try with_reducible rfl
  simp only [Act.put, List.setIfInBounds_toArray, List.set_cons_zero, List.set_cons_succ, List.getElem_toArray, List.getElem_cons_zero, List.getElem_cons_succ, List.replicate, Array.replicate, List.size_toArray, List.length_cons, List.length_nil]
  refine wpAnyJ_take (i := 7) (T := (fun w' => (∀ o, w'.cell? ⟨w.heap.size + 1, o, none⟩ = #[Value.int .i64 k, .int .u64 0][o]?) ∧ w'.rangeAt w.heap.size 0 unsetL)) (v := _) (fun _ => true) rfl (by kernel_rfl) (by kernel_rfl) (by kernel_rfl) (by kernel_rfl) (fun j w' _ h => h.1) (fun w' h => ⟨h, fun hj => by omega⟩) (fun _ _ _ h => h) ⟨hcb3, hcs3⟩ (yieldsIf_load_mid (by rfl) _ _ rfl _ _ rfl unsetL _ (fun w' h => h.2) h90 rfl hs90) ?_
  simp only [Act.put, List.setIfInBounds_toArray, List.set_cons_zero, List.set_cons_succ, List.getElem_toArray, List.getElem_cons_zero, List.getElem_cons_succ, List.replicate, Array.replicate, List.size_toArray, List.length_cons, List.length_nil]
  refine wpAnyJ_take (i := 9) (T := (fun w' => (∀ o, w'.cell? ⟨w.heap.size + 1, o, none⟩ = #[Value.int .i64 k, .int .u64 0][o]?) ∧ w'.rangeAt w.heap.size 0 unsetL)) (v := ?_) (fun _ => true) rfl (by kernel_rfl) (by kernel_rfl) (by kernel_rfl) (by kernel_rfl) (fun j w' _ h => h.1) (fun w' h => ⟨h, fun hj => by omega⟩) (fun _ _ _ h => h) ⟨hcb3, hcs3⟩ (Or.inl ⟨by rfl, ?_⟩) ?_
  rotate_left
  · intro w' hSw
    try obtain ⟨⟨hSb, hSs⟩, hSu⟩ := hSw
    try obtain ⟨hSb, hSs⟩ := hSw
    go_simp
    try with_reducible rfl
  simp only [Act.put, List.setIfInBounds_toArray, List.set_cons_zero, List.set_cons_succ, List.getElem_toArray, List.getElem_cons_zero, List.getElem_cons_succ, List.replicate, Array.replicate, List.size_toArray, List.length_cons, List.length_nil]
  refine wpAnyJ_take (i := 4) (T := (fun w' => ((∀ o, w'.cell? ⟨w.heap.size + 1, o, none⟩ = #[Value.int .i64 k, .int .u64 0][o]?) ∧ w'.rangeAt w.heap.size 0 unsetL) ∧ ∀ o, w'.cell? ⟨u, o, none⟩ = #[pv, .slice p 0 c, nextV, .slice (some ⟨gr, 0, none⟩) n n][o]?)) (v := ?_) (fun j => decide (j = 4) || decide (11 ≤ j) && decide (j ≤ 13)) rfl (by kernel_rfl) (by kernel_rfl) (by kernel_rfl) (by kernel_rfl) (fun j w' hf h => ⟨h.1, h.2 (by simpa using hf)⟩) (fun w' h => ⟨h.1, fun _ => h.2⟩) (fun _ _ _ h => h) ⟨⟨hcb3, hcs3⟩, hcu3⟩ (Or.inl ⟨by rfl, ?_⟩) ?_
  rotate_left
  · intro w' hSw
    try obtain ⟨⟨hSb, hSs⟩, hSu⟩ := hSw
    try obtain ⟨hSb, hSs⟩ := hSw
    go_simp
    try with_reducible rfl
  simp only [Act.put, List.setIfInBounds_toArray, List.set_cons_zero, List.set_cons_succ, List.getElem_toArray, List.getElem_cons_zero, List.getElem_cons_succ, List.replicate, Array.replicate, List.size_toArray, List.length_cons, List.length_nil]
  refine wpAnyJ_one (i := 11) rfl rfl (by kernel_rfl) (fun K hK => ?_)
  go_simp
  refine (marked_none pl _).mono ?_
  rintro e w4 ⟨rfl, hx4⟩
  have hu4 := HU3.out.drew.ex hx4 (by simp)
  have hb4 := HB3.out.drew.ex hx4 (by simp)
  have hs4 := HS3.out.drew.ex hx4 (by simp)
  unfold unsetV
  go_wp2_with fail
  refine hK.out _ _ ⟨⟨hb4.all.1, hs4.range⟩, fun _ => hu4.all.1⟩ ?_
  clear hK K
  simp only [Act.put, List.setIfInBounds_toArray, List.set_cons_zero, List.set_cons_succ, List.getElem_toArray, List.getElem_cons_zero, List.getElem_cons_succ]
  refine wpAnyJ_one (i := 12) rfl rfl (by kernel_rfl) (fun K hK => ?_)
  go_simp
  refine hK.out _ _ ⟨⟨hb4.all.1, hs4.range⟩, fun _ => hu4.all.1⟩ ?_
  clear hK K
  simp only [Act.put, List.setIfInBounds_toArray, List.set_cons_zero, List.set_cons_succ, List.getElem_toArray, List.getElem_cons_zero, List.getElem_cons_succ]
  refine wpAnyJ_one (i := 13) rfl rfl (by kernel_rfl) (fun K hK => ?_)
  go_simp
  refine hK.out _ _ ⟨⟨(hb4.alloc _).all.1, (hs4.alloc _).range⟩, fun _ => (hu4.alloc _).all.1⟩ ?_
  clear hK K
  simp only [Act.put, List.setIfInBounds_toArray, List.set_cons_zero, List.set_cons_succ, List.getElem_toArray, List.getElem_cons_zero, List.getElem_cons_succ]
  refine wpAnyJ_one (i := 14) rfl rfl (by kernel_rfl) (fun K hK => ?_)
  refine wp_append_lies _ (.tmp 38) (.tmp 47) 106 rfl base 113 t0 _ 11 88 Tryd.underlying106 hi hz0 hz1 hz2 rfl (by decide) (.slice p 0 c) 0 [] rfl ((own_ex (own_drewN HN3.out 1) hx4 (by simp)).alloc _) ⟨w4.heap.size, 0, none⟩ 1 1 (thr k) rfl rfl (cells_new _ _ _) (by simp [thr, Value.oneCell']) (by decide) (by unfold maxLen; omega) (by omega) (by have h1 : w3.heap.size ≤ w4.heap.size := hx4.size; simp; omega) _ rfl ?_
  intro g cap w5 hown5 hgrow5 hat5 hlt5
  have hu5 := BK.grown (hu4.alloc _) hgrow5 (fun e => by have := own_block HN3.out _ e; omega)
  have hb5 := BK.grown (hb4.alloc _) hgrow5 (fun e => hfresh (w.heap.size + 1) (by omega) e)
  have hs5 := BK.grown (hs4.alloc _) hgrow5 (fun e => hfresh w.heap.size (by omega) e)
  refine hK.out _ _ ⟨⟨hb5.all.1, hs5.range⟩, fun _ => hu5.all.1⟩ ?_
  clear hK K
  simp only [Act.put, List.setIfInBounds_toArray, List.set_cons_zero, List.set_cons_succ, List.getElem_toArray, List.getElem_cons_zero, List.getElem_cons_succ]
  obtain ⟨hcu5, hfu5⟩ := hu5.all
  refine wpAnyJ_one (i := 15) rfl rfl (by kernel_rfl) (fun K hK => ?_)
  go_simp
  refine hK.out _ _ ⟨⟨hb5.all.1, hs5.range⟩, fun _ => hu5.all.1⟩ ?_
  clear hK K
  simp only [Act.put, List.setIfInBounds_toArray, List.set_cons_zero, List.set_cons_succ, List.getElem_toArray, List.getElem_cons_zero, List.getElem_cons_succ]
  refine wpAnyJ_one (i := 16) rfl rfl (by kernel_rfl) (fun K hK => ?_)
  go_simp
  refine hK.out _ _ ⟨⟨hb5.all.1, hs5.range⟩, fun _ => hu5.all.1⟩ ?_
  clear hK K
  simp only [Act.put, List.setIfInBounds_toArray, List.set_cons_zero, List.set_cons_succ, List.getElem_toArray, List.getElem_cons_zero, List.getElem_cons_succ]
  refine wpAnyJ_one (i := 17) rfl rfl (by kernel_rfl) (fun K hK => ?_)
  go_simp
  refine hK.out _ _ ⟨⟨(hb5.set (by simp; omega) _).all.1, (hs5.set (by simp; omega) _).range⟩, fun hj => by omega⟩ ?_
  clear hK K
  refine wpAnyJ_done (by kernel_rfl) ?_ _
  have HX4 : Hid (Ex [] w3 w4) := ((Ex.refl _ _).drew).trans hx4
  have HU5 := hide hu5
  have HO5 := hide hown5
  have HX5 := hide hgrow5
  have hz4 : w3.heap.size ≤ w4.heap.size := hx4.size
  have HG5 := hide (BK.grown (((HG3.out.drew).ex hx4 (by simp)).alloc _) hgrow5 (fun e => by have := own_block HN3.out _ e; omega))
  have hob := own_block hown5 g rfl
  clear hx4 hu4 hb4 hs4 hu5 hb5 hs5 hcu5 hfu5 hown5 hgrow5 hcu3 hfu3 hcb3 hfb3 hcs3 hs90 h90
  go_wp2_with fail
  rw [rounds_succ]
  go_wp2_with fail
  go_end0
  refine ⟨rfl, _, BK.self HU5.out 1 _, own_set HO5.out hbu _, HG5.out.set (by simp; omega) _, ?_, ?_⟩
  · refine Ex.setCell ?_ (Or.inl (by simp)) _
    refine Ex.grown (((HX3.out.drop (by simp)).trans (HX4.out.drop (by simp))).alloc _) HX5.out (fun j hj => Or.inl ?_)
    simp [hj]
  · rcases hat5 with h | h
    · exact Or.inl (by rw [h]; rfl)
    · exact Or.inr ⟨g, rfl, by rw [h]; simp; omega⟩
end Go.Proofs.YtmeffeigamaipaaDoor
