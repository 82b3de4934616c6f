/- L5 L8, one behind the other. -/
import Derived.Test.YtgmjjhmnchefbaaGreatDoorM25
import Derived.Test.YtgmjjhmnchefbaaGreatDoorM03
import Derived.Test.YtgmjjhmnchefbaaGreatDoorM21
set_option linter.unusedVariables false
set_option linter.unusedSimpArgs false
/- The document's own reader of patterns: an expression is kept. -/
namespace Go.Proofs.YtgmjjhmnchefbaaGreatDoor.G
open Go.RowKit

def zeroE : List Value := [.int .i64 0, .int .i64 0, .int .i64 0, .int .i64 0, .bool false] ++ sB noB
set_option maxRecDepth 100000 in
theorem infoExpr : (Tryz.prog.info? 109).map (fun i => (i.zero, i.size, i.bytes)) = some (some (.agg zeroE.toArray), 134, 168) := by kernel_rfl
theorem row_ne {w : World} {base b : Nat} {e e' : TypeId} {size : Nat} {v : Value} {m : Nat} {ys : List Value} {cs : Array Value} {fz : Nat × Nat} (ho : w.ownsRow base e size v m ys) (hb : BK w b (.cells cs e' fz)) (hne : e ≠ e') : v.ownBlock ≠ some b := fun hv => by
  rcases ho.2 with ⟨hn, _⟩ | ⟨g2, cap, cur, hv2, _, hgg, _⟩
  · rw [hn] at hv; simp [Value.ownBlock] at hv
  · rw [hv2] at hv
    simp [Value.ownBlock] at hv
    subst hv
    unfold BK at hb
    rw [hgg] at hb
    injection hb with hb
    injection hb with _ h9 _
    exact hne h9
theorem own_grown {w w' : World} {base : Nat} {e : TypeId} {size : Nat} {v : Value} {n : Nat} {xs : List Value} {row : Option Nat} (h : w.ownsRow base e size v n xs) (hg : w.grownBy w' row) (hne : ∀ g, v.ownBlock = some g → row ≠ some g) : w'.ownsRow base e size v n xs := by
  refine ⟨h.1, ?_⟩
  rcases h.2 with hn | ⟨g, cap, cur, rfl, hb, hgg, rest⟩
  · exact .inl hn
  · exact .inr ⟨g, cap, cur, rfl, hb, BK.grown (w := w) (b := g) hgg hg (hne g rfl), rest⟩
theorem rows_ne {w : World} {base base' : Nat} {e e' : TypeId} {size size' : Nat} {v v' : Value} {m m' : Nat} {ys ys' : List Value} (ho : w.ownsRow base e size v m ys) (ho' : w.ownsRow base' e' size' v' m' ys') (hne : e ≠ e') : ∀ g, v'.ownBlock = some g → v.ownBlock ≠ some g := fun g hg => by
  rcases ho'.2 with ⟨hn, _⟩ | ⟨g2, cap, cur, hv2, _, hgg, _⟩
  · rw [hn] at hg; simp [Value.ownBlock] at hg
  · rw [hv2] at hg
    simp [Value.ownBlock] at hg
    subst hg
    exact row_ne ho hgg hne
theorem sb_ne {w : World} {b b' : Nat} {bs : List Bool} {cs : Array Value} {e : TypeId} {fz : Nat × Nat} (h : SB w b bs) (hb : BK w b' (.cells cs e fz)) (hne : e ≠ 107) : b ≠ b' := fun e2 => by
  subst e2
  have h1 := h.1
  unfold BK at h1 hb
  rw [hb] at h1
  injection h1 with h1
  injection h1 with _ h2 _
  exact hne h2
set_option maxHeartbeats 4000000 in
set_option maxRecDepth 100000 in
theorem node_any {w : World} {p r base : Nat} {t : ByteArray} {s : RS} {bad : Bool} {hv : Int} {n : Nat} (S : List Value) (hS : S.length = 134) (hSP : ∀ u ∈ S, u.oneCell' = true) (h : RA w p r base t s bad hv n) (hn : n ≤ 100000) :
    Calls Tryz.prog 35 #[.pointer (some ⟨p, 0, none⟩), .agg S.toArray] w fun e w' => e = .returned (.int .i64 (n : Int)) ∧ RA w' p r base t s bad hv (n + 1) ∧ KS w w' ∧ EB base [] w w' := by
  obtain ⟨ti, hti, hzz0, hzz1, hzz2⟩ := info_parts infoExpr
  obtain ⟨av, nv, xs, ns, h1, h2, h3, h4, h5⟩ := h.rn.ex
  obtain ⟨pa, ca, rfl⟩ := own_slice h2
  have hxw : Ex [] w (w.alloc (Obj.cells S.toArray 109)) := (Ex.refl _ _).alloc _
  obtain ⟨w1, hw1⟩ : ∃ w1, w1 = w.alloc (Obj.cells S.toArray 109) := ⟨_, rfl⟩
  have hbx : BK w1 w.heap.size (.cells S.toArray 109 (0, 0)) := by rw [hw1]; exact BK.new _ _
  rw [← hw1] at hxw
  have hbp := h.rk
  unfold RK at hbp
  have hbp1 := hbp.ex hxw (by simp)
  have hbr1 := h1.ex hxw (by simp)
  have hrow1 := own_ex h2 hxw (by simp)
  have hnm1 := own_ex h3 hxw (by simp)
  have r0 := hbx.rangeL
  have c3 : w1.cell? ⟨p, 3, none⟩ = some (.pointer (some ⟨r, 0, none⟩)) := hbp1.all.1 3
  have c0 : w1.cell? ⟨r, 0, none⟩ = some (.slice pa n ca) := hbr1.all.1 0
  have hpl1 := hbp1.lt
  have hrl1 := hbr1.lt
  have hxl1 := hbx.lt
  have HI : Hid ((Tryz.prog.info? 109).map (·.size) = some S.length) := by show _ = _; rw [hS]; kernel_rfl
  have HS := hide hS
  have HSP := hide hSP
  have HBX := hide hbx
  have HBP := hide hbp1
  have HBR := hide hbr1
  have HROW := hide hrow1
  have HNMR := hide hnm1
  have HX1 := hide hxw
  have HNX : Hid ((Value.slice pa n ca).ownBlock ≠ some w.heap.size) := fun e => by have := (h2.lt _ e).2; omega
  have HNP : Hid ((Value.slice pa n ca).ownBlock ≠ some p) := row_ne h2 hbp (by decide)
  have HNR : Hid ((Value.slice pa n ca).ownBlock ≠ some r) := row_ne h2 h1 (by decide)
  have hle : base ≤ w1.heap.size := Nat.le_trans h.bw hxw.size
  have H := hide h
  have HW1 := hide hw1
  have HNS := hide h4
  have HNL := hide h5
  clear h h1 h2 h3 h4 h5 hbp hbp1 hbr1 hrow1 hnm1 hbx hxw hS hSP hw1
  go_enter Tryz.func35, Tryz.ntmps35
  go_upto_region 1 with fail
  rw [← HW1.out]
  refine wp_region_J (by kernel_rfl) ?_
  refine wpAny_take (i := 0) (v := ?_) rfl (by kernel_rfl) (by kernel_rfl) (by kernel_rfl) (fun _ _ _ h => h) (Or.inl ⟨by rfl, ?_⟩) ?_
  rotate_left
  · intro w'
    go_simp
    try with_reducible rfl
  simp only [Act.put, List.setIfInBounds_toArray, List.set_cons_zero, List.set_cons_succ, List.getElem_toArray, List.getElem_cons_zero, List.getElem_cons_succ, List.replicate, Array.replicate, List.size_toArray, List.length_cons, List.length_nil]
  refine wpAny_take (i := 1) (v := ?_) rfl (by kernel_rfl) (by kernel_rfl) (by kernel_rfl) (fun _ _ _ h => h) (Or.inl ⟨by rfl, ?_⟩) ?_
  rotate_left
  · intro w'
    go_simp
    try with_reducible rfl
  simp only [Act.put, List.setIfInBounds_toArray, List.set_cons_zero, List.set_cons_succ, List.getElem_toArray, List.getElem_cons_zero, List.getElem_cons_succ, List.replicate, Array.replicate, List.size_toArray, List.length_cons, List.length_nil]
  refine wpAny_take (i := 2) (v := ?_) rfl (by kernel_rfl) (by kernel_rfl) (by kernel_rfl) (fun _ _ _ h => h) (Or.inl ⟨by rfl, ?_⟩) ?_
  rotate_left
  · intro w'
    go_simp
    try with_reducible rfl
  simp only [Act.put, List.setIfInBounds_toArray, List.set_cons_zero, List.set_cons_succ, List.getElem_toArray, List.getElem_cons_zero, List.getElem_cons_succ, List.replicate, Array.replicate, List.size_toArray, List.length_cons, List.length_nil]
  refine wpAny_take (i := 4) (v := ?_) rfl (by kernel_rfl) (by kernel_rfl) (by kernel_rfl) (fun _ _ _ h => h) (Or.inl ⟨by rfl, ?_⟩) ?_
  rotate_left
  · intro w'
    go_simp
    try with_reducible rfl
  simp only [Act.put, List.setIfInBounds_toArray, List.set_cons_zero, List.set_cons_succ, List.getElem_toArray, List.getElem_cons_zero, List.getElem_cons_succ, List.replicate, Array.replicate, List.size_toArray, List.length_cons, List.length_nil]
  refine wpAny_take (i := 5) (v := ?_) rfl (by kernel_rfl) (by kernel_rfl) (by kernel_rfl) (fun _ _ _ h => h) (Or.inl ⟨by rfl, ?_⟩) ?_
  rotate_left
  · intro w'
    go_simp
    try with_reducible rfl
  simp only [Act.put, List.setIfInBounds_toArray, List.set_cons_zero, List.set_cons_succ, List.getElem_toArray, List.getElem_cons_zero, List.getElem_cons_succ, List.replicate, Array.replicate, List.size_toArray, List.length_cons, List.length_nil]
  refine wpAny_take (i := 6) (v := ?_) rfl (by kernel_rfl) (by kernel_rfl) (by kernel_rfl) (fun _ _ _ h => h) (Or.inl ⟨by rfl, ?_⟩) ?_
  rotate_left
  · intro w'
    go_simp
    try with_reducible rfl
  simp only [Act.put, List.setIfInBounds_toArray, List.set_cons_zero, List.set_cons_succ, List.getElem_toArray, List.getElem_cons_zero, List.getElem_cons_succ, List.replicate, Array.replicate, List.size_toArray, List.length_cons, List.length_nil]
  refine wpAny_of_J (S := (fun oi w' => oi < 16 → w'.rangeAt w.heap.size 0 S ∧ w'.cell? ⟨p, 3, none⟩ = some (.pointer (some ⟨r, 0, none⟩)) ∧ w'.cell? ⟨r, 0, none⟩ = some (.slice pa n ca))) _ _ _ _ ?_
  refine wpAnyJ_take (i := 3) (T := (fun w' => w'.rangeAt w.heap.size 0 S ∧ w'.cell? ⟨p, 3, none⟩ = some (.pointer (some ⟨r, 0, none⟩)) ∧ w'.cell? ⟨r, 0, none⟩ = some (.slice pa n ca))) (v := ?_) (fun oi => decide (oi < 16)) rfl (by kernel_rfl) (by kernel_rfl) (by kernel_rfl) (by kernel_rfl) (fun oi w' hj h => h (by simpa using hj)) (fun w' h _ => h) (fun _ _ _ h => h) ⟨r0, c3, c0⟩ (Or.inl ⟨by rfl, ?_⟩) ?_
  rotate_left
  · intro w' hSw
    obtain ⟨f1, f2, f3⟩ := hSw
    go_simp
    try with_reducible rfl
  simp only [Act.put, List.setIfInBounds_toArray, List.set_cons_zero, List.set_cons_succ, List.getElem_toArray, List.getElem_cons_zero, List.getElem_cons_succ, List.replicate, Array.replicate, List.size_toArray, List.length_cons, List.length_nil]
  refine wpAnyJ_take (i := 7) (T := (fun w' => w'.rangeAt w.heap.size 0 S ∧ w'.cell? ⟨p, 3, none⟩ = some (.pointer (some ⟨r, 0, none⟩)) ∧ w'.cell? ⟨r, 0, none⟩ = some (.slice pa n ca))) (v := ?_) (fun oi => decide (oi < 16)) rfl (by kernel_rfl) (by kernel_rfl) (by kernel_rfl) (by kernel_rfl) (fun oi w' hj h => h (by simpa using hj)) (fun w' h _ => h) (fun _ _ _ h => h) ⟨r0, c3, c0⟩ (Or.inl ⟨by rfl, ?_⟩) ?_
  rotate_left
  · intro w' hSw
    obtain ⟨f1, f2, f3⟩ := hSw
    go_simp
    try with_reducible rfl
  simp only [Act.put, List.setIfInBounds_toArray, List.set_cons_zero, List.set_cons_succ, List.getElem_toArray, List.getElem_cons_zero, List.getElem_cons_succ, List.replicate, Array.replicate, List.size_toArray, List.length_cons, List.length_nil]
  refine wpAnyJ_take (i := 8) (T := (fun w' => w'.rangeAt w.heap.size 0 S ∧ w'.cell? ⟨p, 3, none⟩ = some (.pointer (some ⟨r, 0, none⟩)) ∧ w'.cell? ⟨r, 0, none⟩ = some (.slice pa n ca))) (v := ?_) (fun oi => decide (oi < 16)) rfl (by kernel_rfl) (by kernel_rfl) (by kernel_rfl) (by kernel_rfl) (fun oi w' hj h => h (by simpa using hj)) (fun w' h _ => h) (fun _ _ _ h => h) ⟨r0, c3, c0⟩ (Or.inl ⟨by rfl, ?_⟩) ?_
  rotate_left
  · intro w' hSw
    obtain ⟨f1, f2, f3⟩ := hSw
    go_simp
    try with_reducible rfl
  simp only [Act.put, List.setIfInBounds_toArray, List.set_cons_zero, List.set_cons_succ, List.getElem_toArray, List.getElem_cons_zero, List.getElem_cons_succ, List.replicate, Array.replicate, List.size_toArray, List.length_cons, List.length_nil]
  refine wpAnyJ_take (i := 9) (T := (fun w' => w'.rangeAt w.heap.size 0 S ∧ w'.cell? ⟨p, 3, none⟩ = some (.pointer (some ⟨r, 0, none⟩)) ∧ w'.cell? ⟨r, 0, none⟩ = some (.slice pa n ca))) (v := ?_) (fun oi => decide (oi < 16)) rfl (by kernel_rfl) (by kernel_rfl) (by kernel_rfl) (by kernel_rfl) (fun oi w' hj h => h (by simpa using hj)) (fun w' h _ => h) (fun _ _ _ h => h) ⟨r0, c3, c0⟩ (Or.inl ⟨by rfl, ?_⟩) ?_
  rotate_left
  · intro w' hSw
    obtain ⟨f1, f2, f3⟩ := hSw
    go_simp
    try with_reducible rfl
  simp only [Act.put, List.setIfInBounds_toArray, List.set_cons_zero, List.set_cons_succ, List.getElem_toArray, List.getElem_cons_zero, List.getElem_cons_succ, List.replicate, Array.replicate, List.size_toArray, List.length_cons, List.length_nil]
  refine wpAnyJ_take (i := 10) (T := (fun w' => w'.rangeAt w.heap.size 0 S ∧ w'.cell? ⟨p, 3, none⟩ = some (.pointer (some ⟨r, 0, none⟩)) ∧ w'.cell? ⟨r, 0, none⟩ = some (.slice pa n ca))) (v := ?_) (fun oi => decide (oi < 16)) rfl (by kernel_rfl) (by kernel_rfl) (by kernel_rfl) (by kernel_rfl) (fun oi w' hj h => h (by simpa using hj)) (fun w' h _ => h) (fun _ _ _ h => h) ⟨r0, c3, c0⟩ (Or.inl ⟨by rfl, ?_⟩) ?_
  rotate_left
  · intro w' hSw
    obtain ⟨f1, f2, f3⟩ := hSw
    go_simp
    try with_reducible rfl
  simp only [Act.put, List.setIfInBounds_toArray, List.set_cons_zero, List.set_cons_succ, List.getElem_toArray, List.getElem_cons_zero, List.getElem_cons_succ, List.replicate, Array.replicate, List.size_toArray, List.length_cons, List.length_nil]
  refine wpAnyJ_take (i := 11) (T := (fun w' => w'.rangeAt w.heap.size 0 S ∧ w'.cell? ⟨p, 3, none⟩ = some (.pointer (some ⟨r, 0, none⟩)) ∧ w'.cell? ⟨r, 0, none⟩ = some (.slice pa n ca))) (v := _) (fun oi => decide (oi < 16)) rfl (by kernel_rfl) (by kernel_rfl) (by kernel_rfl) (by kernel_rfl) (fun oi w' hj h => h (by simpa using hj)) (fun w' h _ => h) (fun _ _ _ h => h) ⟨r0, c3, c0⟩ (yieldsIf_load_mid (by rfl) _ _ rfl _ _ rfl S _ (fun w' h => h.1) Tryz.underlying109 rfl HI.out) ?_
  simp only [Act.put, List.setIfInBounds_toArray, List.set_cons_zero, List.set_cons_succ, List.getElem_toArray, List.getElem_cons_zero, List.getElem_cons_succ, List.replicate, Array.replicate, List.size_toArray, List.length_cons, List.length_nil]
  refine wpAnyJ_one (i := 12) rfl rfl (by kernel_rfl) (fun K hK => ?_)
  refine wp_buildSlice 45 109 1 _ rfl S.toArray ti _ Tryz.underlying45 hti hzz0 (by rw [hzz1]; decide) (by rw [hzz1]; decide) (by rw [hzz1]; simp only [List.map_toArray, List.map_cons, List.map_nil, Act.eval, List.getElem?_toArray, Array.getD_eq_getD_getElem?, List.getElem?_cons_succ, List.getElem?_cons_zero, Option.getD_some]; refine fill_one HS.out ?_; rw [Array.size_map, Array.size_range]) ?_
  have r2 : (w1.drew.alloc (.cells S.toArray 109)).rangeAt w.heap.size 0 S := (HBX.out.drew.alloc _).rangeL
  have c32 : (w1.drew.alloc (.cells S.toArray 109)).cell? ⟨p, 3, none⟩ = some (.pointer (some ⟨r, 0, none⟩)) := (HBP.out.drew.alloc _).all.1 3
  have c02 : (w1.drew.alloc (.cells S.toArray 109)).cell? ⟨r, 0, none⟩ = some (.slice pa n ca) := (HBR.out.drew.alloc _).all.1 0
  refine hK.out _ _ (fun _ => ⟨r2, c32, c02⟩) ?_
  clear hK K
  simp only [Act.put, List.setIfInBounds_toArray, List.set_cons_zero, List.set_cons_succ, List.getElem_toArray, List.getElem_cons_zero, List.getElem_cons_succ, List.replicate, Array.replicate, List.size_toArray, List.length_cons, List.length_nil]
  refine wpAnyJ_one (i := 13) rfl rfl (by kernel_rfl) (fun K hK => ?_)
  refine wp_append_lies _ (.tmp 15) (.tmp 17) 45 rfl base 109 ti _ 134 168 Tryz.underlying45 hti hzz0 hzz1 hzz2 rfl (by decide) (.slice pa n ca) n xs rfl ((World.ownsRow.drew HROW.out).alloc _) ⟨w1.heap.size, 0, none⟩ 1 1 S rfl (by rw [HS.out]) (cells_new _ _ _) HSP.out (by decide) (by unfold maxLen; omega) (by omega) (by simp; omega) _ rfl ?_
  intro g cap w3 hown3 hgrow3 hat3 hlt3
  have hbx3 := BK.grown (HBX.out.drew.alloc (.cells S.toArray 109)) hgrow3 HNX.out
  have hbp3 := BK.grown (HBP.out.drew.alloc (.cells S.toArray 109)) hgrow3 HNP.out
  have hbr3 := BK.grown (HBR.out.drew.alloc (.cells S.toArray 109)) hgrow3 HNR.out
  refine hK.out _ _ (fun _ => ⟨hbx3.rangeL, hbp3.all.1 3, hbr3.all.1 0⟩) ?_
  clear hK K
  obtain ⟨hcr3, hfr3⟩ := hbr3.all
  have hrl3 := hbr3.lt
  simp only [Act.put, List.setIfInBounds_toArray, List.set_cons_zero, List.set_cons_succ, List.getElem_toArray, List.getElem_cons_zero, List.getElem_cons_succ, List.replicate, Array.replicate, List.size_toArray, List.length_cons, List.length_nil]
  refine wpAnyJ_one (i := 14) rfl rfl (by kernel_rfl) (fun K hK => ?_)
  go_simp
  refine hK.out _ _ (fun _ => ⟨hbx3.rangeL, hbp3.all.1 3, hbr3.all.1 0⟩) ?_
  clear hK K
  simp only [Act.put, List.setIfInBounds_toArray, List.set_cons_zero, List.set_cons_succ, List.getElem_toArray, List.getElem_cons_zero, List.getElem_cons_succ, List.replicate, Array.replicate, List.size_toArray, List.length_cons, List.length_nil]
  refine wpAnyJ_one (i := 15) rfl rfl (by kernel_rfl) (fun K hK => ?_)
  go_simp
  refine hK.out _ _ (fun _ => ⟨hbx3.rangeL, hbp3.all.1 3, hbr3.all.1 0⟩) ?_
  clear hK K
  simp only [Act.put, List.setIfInBounds_toArray, List.set_cons_zero, List.set_cons_succ, List.getElem_toArray, List.getElem_cons_zero, List.getElem_cons_succ, List.replicate, Array.replicate, List.size_toArray, List.length_cons, List.length_nil]
  refine wpAnyJ_one (i := 16) rfl rfl (by kernel_rfl) (fun K hK => ?_)
  go_simp
  refine hK.out _ _ (fun h => by omega) ?_
  clear hK K
  refine wpAnyJ_done (by kernel_rfl) ?_ _
  have hrow3 := row_ne hown3 hbr3 (by decide)
  have hnm3 := own_grown ((World.ownsRow.drew HNMR.out).alloc (.cells S.toArray 109)) hgrow3 (rows_ne HROW.out HNMR.out (by decide))
  have hnmr3 := row_ne hnm3 hbr3 (by decide)
  have hks3 : KS w w3 := fun b bs hb => by
    have hb1 := (hb.ex HX1.out (by simp)).1
    exact ⟨BK.grown (hb1.drew.alloc (.cells S.toArray 109)) hgrow3 (row_ne HROW.out hb1 (by decide)), hb.2⟩
  have heb3 : EB base [] w w3 := (((EB.ofEx HX1.out H.out.bw).drew).alloc (by simp; omega) _).grown hgrow3 (by simp; omega) (fun k hk => .inr (own_block HROW.out k hk))
  obtain ⟨w4, hw4⟩ : ∃ w4, w4 = w3.setCell ⟨r, 0, none⟩ (.slice (some ⟨g, 0, none⟩) (n + 1) cap) := ⟨_, rfl⟩
  have hpr : p ≠ r := fun e => by
    subst e
    unfold BK at hbp3 hbr3
    rw [hbp3] at hbr3
    injection hbr3 with h9
    injection h9 with _ h9 _
    exact absurd h9 (by decide)
  have hbp4 := hbp3.set (p := ⟨r, 0, none⟩) hpr (.slice (some ⟨g, 0, none⟩) (n + 1) cap)
  have hbr4 := hbr3.self 0 (.slice (some ⟨g, 0, none⟩) (n + 1) cap)
  simp only [List.setIfInBounds_toArray, List.set_cons_zero] at hbr4
  have hown4 : (w3.setCell ⟨r, 0, none⟩ (.slice (some ⟨g, 0, none⟩) (n + 1) cap)).ownsRow base 109 134 (.slice (some ⟨g, 0, none⟩) (n + 1) cap) (n + 1) (xs ++ S) := own_blk hown3 (fun g2 hg2 => Below.heap_setCell _ _ _ _ (fun e => hrow3 (by rw [hg2, e])))
  have hnm4 : (w3.setCell ⟨r, 0, none⟩ (.slice (some ⟨g, 0, none⟩) (n + 1) cap)).ownsRow base 9 1 nv ns.length (ns.map Value.string) := own_blk hnm3 (fun g2 hg2 => Below.heap_setCell _ _ _ _ (fun e => hnmr3 (by rw [hg2, e])))
  have hks4 : KS w (w3.setCell ⟨r, 0, none⟩ (.slice (some ⟨g, 0, none⟩) (n + 1) cap)) := fun b bs hb => ⟨(hks3 b bs hb).1.set (sb_ne (hks3 b bs hb) hbr3 (by decide)) _, hb.2⟩
  have heb4 : EB base [] w (w3.setCell ⟨r, 0, none⟩ (.slice (some ⟨g, 0, none⟩) (n + 1) cap)) := heb3.setCell (.inr H.out.rb) _
  have hsz4 : base ≤ (w3.setCell ⟨r, 0, none⟩ (.slice (some ⟨g, 0, none⟩) (n + 1) cap)).heap.size := Nat.le_trans H.out.bw heb4.size
  rw [← hw4] at hbp4 hbr4 hown4 hnm4 hks4 heb4 hsz4 ⊢
  have HRA : Hid (RA w4 p r base t s bad hv (n + 1)) := ⟨hbp4, ⟨_, _, _, _, hbr4, hown4, hnm4, HNS.out, HNL.out⟩, H.out.pb, H.out.rb, hsz4⟩
  have k3 : w4.cell? ⟨p, 3, none⟩ = some (.pointer (some ⟨r, 0, none⟩)) := hbp4.all.1 3
  have k0 : w4.cell? ⟨r, 0, none⟩ = some (.slice (some ⟨g, 0, none⟩) (n + 1) cap) := hbr4.all.1 0
  have kl := hbp4.lt
  have krl := hbr4.lt
  have HKS := hide hks4
  have HEB := hide heb4
  clear hw4 hbp4 hbr4 hown4 hnm4 hks4 heb4 hsz4 hks3 heb3 hnm3 hnmr3 hrow3 hown3 hgrow3 hat3 hbx3 hbp3 hbr3 hcr3 hfr3 r2 c32 c02 r0 c3 c0 hti hzz0 hzz1 hzz2
  go_wp2_with fail
  go_ret
  exact ⟨by simp, HRA.out, HKS.out, HEB.out⟩
end Go.Proofs.YtgmjjhmnchefbaaGreatDoor.G

/- The document's own reader of patterns: the numbers of a count. -/
namespace Go.Proofs.YtgmjjhmnchefbaaGreatDoor.G
open Go.RowKit

theorem RA.step {w : World} {p r base : Nat} {t : ByteArray} {s : RS} {bad : Bool} {hv : Int} {n : Nat} (h : RA w p r base t s bad hv n) :
    RA (w.setCell ⟨p, 1, none⟩ (.int .i64 ((s.k : Int) + 1))) p r base t s.up bad hv n ∧ KS w (w.setCell ⟨p, 1, none⟩ (.int .i64 ((s.k : Int) + 1))) ∧ EB base [] w (w.setCell ⟨p, 1, none⟩ (.int .i64 ((s.k : Int) + 1))) :=
  h.setCell (s' := s.up) (bad' := bad) (hv' := hv) 1 (.int .i64 ((s.k : Int) + 1)) (by simp [RS.up]) rfl rfl
theorem RA.gives {w : World} {p r base : Nat} {t : ByteArray} {s : RS} {bad : Bool} {hv : Int} {n : Nat} (h : RA w p r base t s bad hv n) :
    RA (w.setCell ⟨p, 2, none⟩ (.bool true)) p r base t s true hv n ∧ KS w (w.setCell ⟨p, 2, none⟩ (.bool true)) ∧ EB base [] w (w.setCell ⟨p, 2, none⟩ (.bool true)) :=
  h.setCell (s' := s) (bad' := true) (hv' := hv) 2 (.bool true) rfl rfl rfl
structure Fr (w w' : World) (base : Nat) : Prop where
  ks : KS w w'
  eb : EB base [] w w'
theorem Fr.refl (w : World) (base : Nat) : Fr w w base := ⟨KS.refl _, EB.refl _ _ _⟩
theorem Fr.trans {a b c : World} {base : Nat} (h : Fr a b base) (k : Fr b c base) : Fr a c base := ⟨h.ks.trans k.ks, h.eb.trans k.eb⟩
theorem Fr.drewN (w : World) (base k : Nat) : Fr w (w.drewN k) base := ⟨fun _ _ h => h, (EB.refl _ _ _).drewN k⟩
theorem Fr.ex {w w' : World} {base : Nat} (h : Ex [] w w') (hb : base ≤ w.heap.size) : Fr w w' base := ⟨KS.ex h, EB.ofEx h hb⟩
theorem RA.up {w : World} {p r base : Nat} {t : ByteArray} {s : RS} {bad : Bool} {hv : Int} {n : Nat} (h : RA w p r base t s bad hv n) (W : World) (hW : w.setCell ⟨p, 1, none⟩ (.int .i64 ((s.k : Int) + 1)) = W) : RA W p r base t s.up bad hv n ∧ Fr w W base := by
  obtain ⟨a, b, c⟩ := h.step
  rw [hW] at a b c
  exact ⟨a, b, c⟩
theorem RA.bads {w : World} {p r base : Nat} {t : ByteArray} {s : RS} {bad : Bool} {hv : Int} {n : Nat} (h : RA w p r base t s bad hv n) (W : World) (hW : w.setCell ⟨p, 2, none⟩ (.bool true) = W) : RA W p r base t s true hv n ∧ Fr w W base := by
  obtain ⟨a, b, c⟩ := h.gives
  rw [hW] at a b c
  exact ⟨a, b, c⟩
theorem RA.up2 {w : World} {p r base : Nat} {t : ByteArray} {s : RS} {bad : Bool} {hv : Int} {n : Nat} (h : RA w p r base t s bad hv n) (W : World) {v : Int} (hW : w.setCell ⟨p, 1, none⟩ (.int .i64 v) = W) (e : v = (s.k : Int) + 1) : RA W p r base t s.up bad hv n ∧ Fr w W base := h.up W (by rw [← e]; exact hW)
theorem RA.facts {w : World} {p r base : Nat} {t : ByteArray} {s : RS} {bad : Bool} {hv : Int} {n : Nat} (h : RA w p r base t s bad hv n) :
    w.cell? ⟨p, 0, none⟩ = some (.string t) ∧ w.cell? ⟨p, 1, none⟩ = some (.int .i64 (s.k : Int)) ∧ w.cell? ⟨p, 2, none⟩ = some (.bool bad) ∧ w.frozen? ⟨p, 1, none⟩ = false ∧ w.frozen? ⟨p, 2, none⟩ = false ∧ p < w.heap.size :=
  ⟨h.rk.all.1 0, h.rk.all.1 1, h.rk.all.1 2, h.rk.all.2 1, h.rk.all.2 2, h.rk.lt⟩
theorem nextN_lt (t : ByteArray) (k : Nat) : nextN t k < 256 := by
  unfold nextN
  split
  · exact UInt8.toNat_lt _
  · decide

def digN (c : Nat) : Bool := decide (48 ≤ c ∧ c ≤ 57)
inductive TimesR (t : ByteArray) (k : Nat) : Option (Nat × Int) → Nat → Prop
  | noDig : digN (nextN t (k + 1)) = false → TimesR t k none (k + 1)
  | one : digN (nextN t (k + 1)) = true → nextN t (k + 2) = 125 → TimesR t k (some (nextN t (k + 1) - 48, ((nextN t (k + 1) - 48 : Nat) : Int))) (k + 2)
  | oneBad : digN (nextN t (k + 1)) = true → nextN t (k + 2) ≠ 44 → nextN t (k + 2) ≠ 125 → TimesR t k none (k + 2)
  | more : digN (nextN t (k + 1)) = true → nextN t (k + 2) = 44 → nextN t (k + 3) = 125 → TimesR t k (some (nextN t (k + 1) - 48, -1)) (k + 3)
  | twoBad : digN (nextN t (k + 1)) = true → nextN t (k + 2) = 44 → nextN t (k + 3) ≠ 125 → (digN (nextN t (k + 3)) = false ∨ nextN t (k + 3) < nextN t (k + 1)) → TimesR t k none (k + 3)
  | two : digN (nextN t (k + 1)) = true → nextN t (k + 2) = 44 → digN (nextN t (k + 3)) = true → nextN t (k + 1) ≤ nextN t (k + 3) → nextN t (k + 4) = 125 → TimesR t k (some (nextN t (k + 1) - 48, ((nextN t (k + 3) - 48 : Nat) : Int))) (k + 4)
  | endBad : digN (nextN t (k + 1)) = true → nextN t (k + 2) = 44 → digN (nextN t (k + 3)) = true → nextN t (k + 1) ≤ nextN t (k + 3) → nextN t (k + 4) ≠ 125 → TimesR t k none (k + 4)
def TimesPost (w : World) (p r base : Nat) (t : ByteArray) (s : RS) (hv : Int) (n : Nat) (e : Ending) (w' : World) : Prop := ∃ o k', TimesR t s.k o k' ∧ Fr w w' base ∧ match o with
  | some x => e = .returned (.tuple #[.int .i64 (x.1 : Int), .int .i64 x.2]) ∧ RA w' p r base t { s with k := k' } false hv n
  | none => (∃ a b : Int, e = .returned (.tuple #[.int .i64 a, .int .i64 b])) ∧ RA w' p r base t { s with k := k' } true hv n
set_option maxHeartbeats 8000000 in
theorem times_any {w : World} {p r base : Nat} {t : ByteArray} {s : RS} {hv : Int} {n : Nat} (h : RA w p r base t s false hv n) (ht : t.size ≤ 60) (hlt : s.k < t.size) :
    Calls Tryz.prog 72 #[.pointer (some ⟨p, 0, none⟩)] w fun e w' => TimesPost w p r base t s hv n e w' := by
  obtain ⟨k, d, f, g, nm⟩ := s
  dsimp only at hlt
  have Hw := hide h
  have Fw := hide (Fr.refl w base)
  clear h
  obtain ⟨a, ha⟩ : ∃ c, c = nextN t (k + 1) := ⟨_, rfl⟩
  have HCa := hide ha
  have a256 : a < 256 := by rw [ha]; exact nextN_lt _ _
  clear ha
  obtain ⟨b, hb⟩ : ∃ c, c = nextN t (k + 2) := ⟨_, rfl⟩
  have HCb := hide hb
  have b256 : b < 256 := by rw [hb]; exact nextN_lt _ _
  clear hb
  obtain ⟨c, hc⟩ : ∃ c, c = nextN t (k + 3) := ⟨_, rfl⟩
  have HCc := hide hc
  have c256 : c < 256 := by rw [hc]; exact nextN_lt _ _
  clear hc
  obtain ⟨x, hx⟩ : ∃ c, c = nextN t (k + 4) := ⟨_, rfl⟩
  have HCx := hide hx
  have x256 : x < 256 := by rw [hx]; exact nextN_lt _ _
  clear hx
  have c1 : w.cell? ⟨p, 1, none⟩ = some (.int .i64 ((k : Int))) := by have h9 := Hw.out.facts.2.1; simpa using h9
  have c2 := Hw.out.facts.2.2.1
  have f1 := Hw.out.facts.2.2.2.1
  have f2 := Hw.out.facts.2.2.2.2.1
  have hl := Hw.out.facts.2.2.2.2.2
  go_enter Tryz.func72, Tryz.ntmps72
  go_wp2_with fail
  generalize hw9 : World.setCell _ _ _ = w1
  have Hw1 : Hid (RA w1 p r base t ⟨k + 1, d, f, g, nm⟩ false hv n) := (Hw.out.up2 w1 hw9 (by simp)).1
  have Fw1 := hide (Fw.out.trans (Hw.out.up2 w1 hw9 (by simp)).2)
  clear hw9
  clear c1 c2 f1 f2 hl
  have KN := hide (next_any Hw1.out.rk)
  dsimp only at KN
  rw [← show a = nextN t (k + 1) from HCa.out] at KN
  refine KN.out.mono ?_
  rintro e w2 ⟨rfl, q9, hq9⟩
  have Hw2 : Hid (RA w2 p r base t ⟨k + 1, d, f, g, nm⟩ false hv n) := by rw [hq9]; exact Hw1.out.drewN q9
  have Fw2 : Hid (Fr w w2 base) := Fw1.out.trans (by rw [hq9]; exact Fr.drewN _ _ q9)
  clear hq9 KN
  have c1 : w2.cell? ⟨p, 1, none⟩ = some (.int .i64 ((k : Int) + 1)) := by have h9 := Hw2.out.facts.2.1; simpa using h9
  have c2 := Hw2.out.facts.2.2.1
  have f1 := Hw2.out.facts.2.2.2.1
  have f2 := Hw2.out.facts.2.2.2.2.1
  have hl := Hw2.out.facts.2.2.2.2.2
  by_cases ha : 48 ≤ a ∧ a ≤ 57
  · have HD : Hid (digN (nextN t (k + 1)) = true) := by show _ = _; rw [← HCa.out]; unfold digN; exact decide_eq_true ha
    have ha1 : ¬ (a : Int) < 48 := by omega
    have ha2 : ¬ (57 : Int) < (a : Int) := by omega
    obtain ⟨A, hA⟩ : ∃ A, A = a - 48 := ⟨_, rfl⟩
    have HA := hide hA
    have ha3 : IntKind.u8.wrap ((a : Int) - 48) = (A : Int) := by rw [IntKind.wrap_u8]; omega
    go_wp2_with fail
    generalize hw9 : World.setCell _ _ _ = w3
    have Hw3 : Hid (RA w3 p r base t ⟨k + 2, d, f, g, nm⟩ false hv n) := (Hw2.out.up2 w3 hw9 (by simp)).1
    have Fw3 := hide (Fw2.out.trans (Hw2.out.up2 w3 hw9 (by simp)).2)
    clear hw9
    clear c1 c2 f1 f2 hl
    have KN := hide (next_any Hw3.out.rk)
    dsimp only at KN
    rw [← show b = nextN t (k + 2) from HCb.out] at KN
    refine KN.out.mono ?_
    rintro e w4 ⟨rfl, q9, hq9⟩
    have Hw4 : Hid (RA w4 p r base t ⟨k + 2, d, f, g, nm⟩ false hv n) := by rw [hq9]; exact Hw3.out.drewN q9
    have Fw4 : Hid (Fr w w4 base) := Fw3.out.trans (by rw [hq9]; exact Fr.drewN _ _ q9)
    clear hq9 KN
    have c1 : w4.cell? ⟨p, 1, none⟩ = some (.int .i64 ((k : Int) + 2)) := by have h9 := Hw4.out.facts.2.1; simpa using h9
    have c2 := Hw4.out.facts.2.2.1
    have f1 := Hw4.out.facts.2.2.2.1
    have f2 := Hw4.out.facts.2.2.2.2.1
    have hl := Hw4.out.facts.2.2.2.2.2
    by_cases hb1 : b = 44
    · have hb44 : (((b : Nat) : Int) == 44) = true := by rw [beq_iff_eq]; omega
      go_wp2_with fail
      generalize hw9 : World.setCell _ _ _ = w5
      have Hw5 : Hid (RA w5 p r base t ⟨k + 3, d, f, g, nm⟩ false hv n) := (Hw4.out.up2 w5 hw9 (by simp)).1
      have Fw5 := hide (Fw4.out.trans (Hw4.out.up2 w5 hw9 (by simp)).2)
      clear hw9
      clear c1 c2 f1 f2 hl
      have KN := hide (next_any Hw5.out.rk)
      dsimp only at KN
      rw [← show c = nextN t (k + 3) from HCc.out] at KN
      refine KN.out.mono ?_
      rintro e w6 ⟨rfl, q9, hq9⟩
      have Hw6 : Hid (RA w6 p r base t ⟨k + 3, d, f, g, nm⟩ false hv n) := by rw [hq9]; exact Hw5.out.drewN q9
      have Fw6 : Hid (Fr w w6 base) := Fw5.out.trans (by rw [hq9]; exact Fr.drewN _ _ q9)
      clear hq9 KN
      have c1 : w6.cell? ⟨p, 1, none⟩ = some (.int .i64 ((k : Int) + 3)) := by have h9 := Hw6.out.facts.2.1; simpa using h9
      have c2 := Hw6.out.facts.2.2.1
      have f1 := Hw6.out.facts.2.2.2.1
      have f2 := Hw6.out.facts.2.2.2.2.1
      have hl := Hw6.out.facts.2.2.2.2.2
      by_cases hcq : c = 125
      · have hc125 : (((c : Nat) : Int) == 125) = true := by rw [beq_iff_eq]; omega
        go_wp2_with fail
        have KN := hide (next_any Hw6.out.rk)
        dsimp only at KN
        rw [← show c = nextN t (k + 3) from HCc.out] at KN
        refine KN.out.mono ?_
        rintro e w7 ⟨rfl, q9, hq9⟩
        have Hw7 : Hid (RA w7 p r base t ⟨k + 3, d, f, g, nm⟩ false hv n) := by rw [hq9]; exact Hw6.out.drewN q9
        have Fw7 : Hid (Fr w w7 base) := Fw6.out.trans (by rw [hq9]; exact Fr.drewN _ _ q9)
        clear hq9 KN
        clear c1 c2 f1 f2 hl
        go_wp2_with fail
        go_ret2
        have ho := TimesR.more (t := t) (k := k) HD.out (by rw [← HCb.out]; exact hb1) (by rw [← HCc.out]; exact hcq)
        rw [← show a = nextN t (k + 1) from HCa.out] at ho
        exact ⟨_, _, ho, Fw7.out, rfl, Hw7.out⟩
      · have hc125 : (((c : Nat) : Int) == 125) = false := by rw [beq_eq_false_iff_ne]; omega
        by_cases hcd : (48 ≤ c ∧ c ≤ 57) ∧ a ≤ c
        · have hc1 : ¬ (c : Int) < 48 := by omega
          have hc2 : ¬ (57 : Int) < (c : Int) := by omega
          obtain ⟨C, hC⟩ : ∃ C, C = c - 48 := ⟨_, rfl⟩
          have HCC := hide hC
          have hc3 : IntKind.u8.wrap ((c : Int) - 48) = (C : Int) := by rw [IntKind.wrap_u8]; omega
          have hc4 : ¬ (C : Int) < (A : Int) := by omega
          have HD3 : Hid (digN (nextN t (k + 3)) = true) := by show _ = _; rw [← HCc.out]; unfold digN; exact decide_eq_true hcd.1
          have HLE : Hid (nextN t (k + 1) ≤ nextN t (k + 3)) := by show _ ≤ _; rw [← HCc.out, ← HCa.out]; exact hcd.2
          go_wp2_with fail
          generalize hw9 : World.setCell _ _ _ = w7
          have Hw7 : Hid (RA w7 p r base t ⟨k + 4, d, f, g, nm⟩ false hv n) := (Hw6.out.up2 w7 hw9 (by simp)).1
          have Fw7 := hide (Fw6.out.trans (Hw6.out.up2 w7 hw9 (by simp)).2)
          clear hw9
          clear c1 c2 f1 f2 hl
          have KN := hide (next_any Hw7.out.rk)
          dsimp only at KN
          rw [← show x = nextN t (k + 4) from HCx.out] at KN
          refine KN.out.mono ?_
          rintro e w8 ⟨rfl, q9, hq9⟩
          have Hw8 : Hid (RA w8 p r base t ⟨k + 4, d, f, g, nm⟩ false hv n) := by rw [hq9]; exact Hw7.out.drewN q9
          have Fw8 : Hid (Fr w w8 base) := Fw7.out.trans (by rw [hq9]; exact Fr.drewN _ _ q9)
          clear hq9 KN
          have c1 : w8.cell? ⟨p, 1, none⟩ = some (.int .i64 ((k : Int) + 4)) := by have h9 := Hw8.out.facts.2.1; simpa using h9
          have c2 := Hw8.out.facts.2.2.1
          have f1 := Hw8.out.facts.2.2.2.1
          have f2 := Hw8.out.facts.2.2.2.2.1
          have hl := Hw8.out.facts.2.2.2.2.2
          by_cases hx2 : x = 125
          · have hx125 : (((x : Nat) : Int) == 125) = true := by rw [beq_iff_eq]; omega
            clear c1 c2 f1 f2 hl
            go_wp2_with fail
            go_ret2
            have ho := TimesR.two (t := t) (k := k) HD.out (by rw [← HCb.out]; exact hb1) HD3.out HLE.out (by rw [← HCx.out]; exact hx2)
            rw [← show a = nextN t (k + 1) from HCa.out, ← show c = nextN t (k + 3) from HCc.out] at ho
            exact ⟨_, _, ho, Fw8.out, rfl, Hw8.out⟩
          · have hx125 : (((x : Nat) : Int) == 125) = false := by rw [beq_eq_false_iff_ne]; omega
            go_wp2_with fail
            generalize hw9 : World.setCell _ _ _ = wz
            have HZ := hide (Hw8.out.bads wz hw9)
            clear hw9
            clear c1 c2 f1 f2 hl
            go_wp2_with fail
            go_ret2
            exact ⟨none, _, .endBad HD.out (by rw [← HCb.out]; exact hb1) HD3.out HLE.out (by rw [← HCx.out]; exact hx2), Fw8.out.trans HZ.out.2, ⟨_, _, rfl⟩, HZ.out.1⟩
        · by_cases hq1 : c < 48
          · have hc1 : (c : Int) < 48 := by omega
            go_wp2_with fail
            generalize hw9 : World.setCell _ _ _ = wz
            have HZ := hide (Hw6.out.bads wz hw9)
            clear hw9
            clear c1 c2 f1 f2 hl
            go_wp2_with fail
            go_ret2
            exact ⟨none, _, .twoBad HD.out (by rw [← HCb.out]; exact hb1) (by rw [← HCc.out]; exact hcq) (by rw [← HCc.out, ← HCa.out]; unfold digN; simp; omega), Fw6.out.trans HZ.out.2, ⟨_, _, rfl⟩, HZ.out.1⟩
          · by_cases hq2 : 57 < c
            · have hc1 : ¬ (c : Int) < 48 := by omega
              have hc2 : (57 : Int) < (c : Int) := by omega
              go_wp2_with fail
              generalize hw9 : World.setCell _ _ _ = wz
              have HZ := hide (Hw6.out.bads wz hw9)
              clear hw9
              clear c1 c2 f1 f2 hl
              go_wp2_with fail
              go_ret2
              exact ⟨none, _, .twoBad HD.out (by rw [← HCb.out]; exact hb1) (by rw [← HCc.out]; exact hcq) (by rw [← HCc.out, ← HCa.out]; unfold digN; simp; omega), Fw6.out.trans HZ.out.2, ⟨_, _, rfl⟩, HZ.out.1⟩
            · have hc1 : ¬ (c : Int) < 48 := by omega
              have hc2 : ¬ (57 : Int) < (c : Int) := by omega
              have hc3 : IntKind.u8.wrap ((c : Int) - 48) = ((c - 48 : Nat) : Int) := by rw [IntKind.wrap_u8]; omega
              have hc4 : ((c - 48 : Nat) : Int) < (A : Int) := by omega
              obtain ⟨C, hC⟩ : ∃ C, C = c - 48 := ⟨_, rfl⟩
              rw [← hC] at hc3 hc4
              clear hC
              go_wp2_with fail
              generalize hw9 : World.setCell _ _ _ = wz
              have HZ := hide (Hw6.out.bads wz hw9)
              clear hw9
              clear c1 c2 f1 f2 hl
              go_wp2_with fail
              go_ret2
              exact ⟨none, _, .twoBad HD.out (by rw [← HCb.out]; exact hb1) (by rw [← HCc.out]; exact hcq) (by rw [← HCc.out, ← HCa.out]; unfold digN; simp; omega), Fw6.out.trans HZ.out.2, ⟨_, _, rfl⟩, HZ.out.1⟩
    · have hb44 : (((b : Nat) : Int) == 44) = false := by rw [beq_eq_false_iff_ne]; omega
      go_wp2_with fail
      have KN := hide (next_any Hw4.out.rk)
      dsimp only at KN
      rw [← show b = nextN t (k + 2) from HCb.out] at KN
      refine KN.out.mono ?_
      rintro e w5 ⟨rfl, q9, hq9⟩
      have Hw5 : Hid (RA w5 p r base t ⟨k + 2, d, f, g, nm⟩ false hv n) := by rw [hq9]; exact Hw4.out.drewN q9
      have Fw5 : Hid (Fr w w5 base) := Fw4.out.trans (by rw [hq9]; exact Fr.drewN _ _ q9)
      clear hq9 KN
      clear c1 c2 f1 f2 hl
      have c1 : w5.cell? ⟨p, 1, none⟩ = some (.int .i64 ((k : Int) + 2)) := by have h9 := Hw5.out.facts.2.1; simpa using h9
      have c2 := Hw5.out.facts.2.2.1
      have f1 := Hw5.out.facts.2.2.2.1
      have f2 := Hw5.out.facts.2.2.2.2.1
      have hl := Hw5.out.facts.2.2.2.2.2
      by_cases hb2 : b = 125
      · have hb125 : (((b : Nat) : Int) == 125) = true := by rw [beq_iff_eq]; omega
        clear c1 c2 f1 f2 hl
        go_wp2_with fail
        go_ret2
        have ho := TimesR.one (t := t) (k := k) HD.out (by rw [← HCb.out]; exact hb2)
        rw [← show a = nextN t (k + 1) from HCa.out] at ho
        exact ⟨_, _, ho, Fw5.out, rfl, Hw5.out⟩
      · have hb125 : (((b : Nat) : Int) == 125) = false := by rw [beq_eq_false_iff_ne]; omega
        go_wp2_with fail
        generalize hw9 : World.setCell _ _ _ = wz
        have HZ := hide (Hw5.out.bads wz hw9)
        clear hw9
        clear c1 c2 f1 f2 hl
        go_wp2_with fail
        go_ret2
        exact ⟨none, _, .oneBad HD.out (by rw [← HCb.out]; exact hb1) (by rw [← HCb.out]; exact hb2), Fw5.out.trans HZ.out.2, ⟨_, _, rfl⟩, HZ.out.1⟩
  · have HD : Hid (digN (nextN t (k + 1)) = false) := by show _ = _; rw [← HCa.out]; unfold digN; exact decide_eq_false ha
    by_cases ha1 : (a : Int) < 48
    · go_wp2_with fail
      generalize hw9 : World.setCell _ _ _ = wz
      have HZ := hide (Hw2.out.bads wz hw9)
      clear hw9
      clear c1 c2 f1 f2 hl
      go_wp2_with fail
      go_ret2
      exact ⟨none, _, .noDig HD.out, Fw2.out.trans HZ.out.2, ⟨_, _, rfl⟩, HZ.out.1⟩
    · have ha2 : (57 : Int) < (a : Int) := by omega
      go_wp2_with fail
      generalize hw9 : World.setCell _ _ _ = wz
      have HZ := hide (Hw2.out.bads wz hw9)
      clear hw9
      clear c1 c2 f1 f2 hl
      go_wp2_with fail
      go_ret2
      exact ⟨none, _, .noDig HD.out, Fw2.out.trans HZ.out.2, ⟨_, _, rfl⟩, HZ.out.1⟩
end Go.Proofs.YtgmjjhmnchefbaaGreatDoor.G
