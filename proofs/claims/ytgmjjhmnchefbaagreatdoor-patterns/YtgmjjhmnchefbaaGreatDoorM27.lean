/- L4 L5, one behind the other. -/
import Derived.Test.YtgmjjhmnchefbaaGreatDoorM26
import Derived.Test.YtgmjjhmnchefbaaGreatDoorM05
set_option linter.unusedVariables false
set_option linter.unusedSimpArgs false
/- The document's own reader of patterns: a byte that must stand here; expressions are kept. -/
namespace Go.Proofs.YtgmjjhmnchefbaaGreatDoor.G
open Go.RowKit

theorem nextN_at {t : ByteArray} {k : Nat} (h : k < t.size) : nextN t k = (t[k]'h).toNat := by
  unfold nextN byteAt
  rw [Array.getElem?_eq_getElem h]
  rfl
theorem sees_next {t : ByteArray} {s : RS} {b : UInt8} : seesM t s b = (decide (s.k < t.size) && decide (nextN t s.k = b.toNat)) := by
  unfold seesM
  by_cases h : s.k < t.size
  · rw [nextN_at h]
    unfold byteAt
    rw [Array.getElem?_eq_getElem h, decide_eq_true h, Bool.true_and]
    show (some (t.data[s.k]'h) == some b) = decide ((t.data[s.k]'h).toNat = b.toNat)
    rw [Bool.eq_iff_iff]
    simp [UInt8.toNat_inj]
  · unfold byteAt
    rw [Array.getElem?_eq_none (by show t.size ≤ s.k; omega), decide_eq_false h, Bool.false_and]
    rfl
theorem draw_frame {base p : Nat} {w X : World} {q : Nat} {A : Prop} (h : A ∧ KS (w.drewN q) X ∧ EB base [] (w.drewN q) X) : A ∧ KS w X ∧ EB base [] w X :=
  ⟨h.1, fun b bs hb => h.2.1 b bs hb, h.2.2.os, h.2.2.tape, h.2.2.output, h.2.2.size, h.2.2.block⟩
set_option maxHeartbeats 1000000 in
theorem eats_bad {w : World} {p r base : Nat} {t : ByteArray} {s : RS} {hv : Int} {n : Nat} (c : Int) (h : RA w p r base t s true hv n) :
    Calls Tryz.prog 73 #[.pointer (some ⟨p, 0, none⟩), .int .u8 c] w fun e w' => e = .returned (.tuple #[]) ∧ w' = w := by
  have hc2 : w.cell? ⟨p, 2, none⟩ = some (.bool true) := h.rk.all.1 2
  have hl := h.rk.lt
  clear h
  go_enter Tryz.func73, Tryz.ntmps73
  go_wp2_with fail
  refine bodyPost_ret (results_none rfl _ _ _) rfl ⟨rfl, rfl⟩
set_option maxHeartbeats 2000000 in
theorem eats_yes {w : World} {p r base : Nat} {t : ByteArray} {s : RS} {hv : Int} {n : Nat} (c : Nat) (h : RA w p r base t s false hv n) (ht : t.size ≤ 60) (hlt : s.k < t.size) (hc : nextN t s.k = c) :
    Calls Tryz.prog 73 #[.pointer (some ⟨p, 0, none⟩), .int .u8 (c : Int)] w fun e w' => e = .returned (.tuple #[]) ∧ RA w' p r base t s.up false hv n ∧ KS w w' ∧ EB base [] w w' := by
  have hc0 : w.cell? ⟨p, 0, none⟩ = some (.string t) := h.rk.all.1 0
  have hc1 : w.cell? ⟨p, 1, none⟩ = some (.int .i64 (s.k : Int)) := h.rk.all.1 1
  have hc2 : w.cell? ⟨p, 2, none⟩ = some (.bool false) := h.rk.all.1 2
  have hf1 : w.frozen? ⟨p, 1, none⟩ = false := h.rk.all.2 1
  have hl := h.rk.lt
  have H := hide (fun q => draw_frame (p := p) ((h.drewN q).setCell (s' := s.up) (bad' := false) (hv' := hv) 1 (.int .i64 ((s.k : Int) + 1)) (by simp [RS.up]) rfl rfl))
  have hd : decide (t.size ≤ s.k) = false := decide_eq_false (by omega)
  have hget : (((t[s.k]'hlt).toNat : Int) != (c : Int)) = false := by rw [nextN_at hlt] at hc; rw [hc]; simp
  have hki : (s.k : Int) < (t.size : Int) := by omega
  obtain ⟨k, d, f, g, nm⟩ := s
  dsimp only at hc1 H hd hget hki hlt
  clear h hc
  go_enter Tryz.func73, Tryz.ntmps73
  go_wp2_with fail
  go_quiet (fail)
  go_wp2_with fail
  go_end0
  exact ⟨rfl, H.out _⟩
set_option maxHeartbeats 2000000 in
theorem eats_no {w : World} {p r base : Nat} {t : ByteArray} {s : RS} {hv : Int} {n : Nat} (c : Nat) (h : RA w p r base t s false hv n) (hno : t.size ≤ s.k ∨ nextN t s.k ≠ c) :
    Calls Tryz.prog 73 #[.pointer (some ⟨p, 0, none⟩), .int .u8 (c : Int)] w fun e w' => e = .returned (.tuple #[]) ∧ RA w' p r base t s true hv n ∧ KS w w' ∧ EB base [] w w' := by
  have hc0 : w.cell? ⟨p, 0, none⟩ = some (.string t) := h.rk.all.1 0
  have hc1 : w.cell? ⟨p, 1, none⟩ = some (.int .i64 (s.k : Int)) := h.rk.all.1 1
  have hc2 : w.cell? ⟨p, 2, none⟩ = some (.bool false) := h.rk.all.1 2
  have hf2 : w.frozen? ⟨p, 2, none⟩ = false := h.rk.all.2 2
  have hl := h.rk.lt
  have H := hide (fun q => draw_frame (p := p) ((h.drewN q).setCell (s' := s) (bad' := true) (hv' := hv) 2 (.bool true) rfl rfl rfl))
  by_cases hlt : s.k < t.size
  · have hne : nextN t s.k ≠ c := hno.resolve_left (by omega)
    have hd : decide (t.size ≤ s.k) = false := decide_eq_false (by omega)
    have hget : (((t[s.k]'hlt).toNat : Int) != (c : Int)) = true := by rw [nextN_at hlt] at hne; rw [bne_iff_ne]; omega
    have hki : (s.k : Int) < (t.size : Int) := by omega
    obtain ⟨k, d, f, g, nm⟩ := s
    dsimp only at hc1 H hd hget hki hlt
    clear h hno hne
    go_enter Tryz.func73, Tryz.ntmps73
    go_wp2_with fail
    go_quiet (fail)
    go_wp2_with fail
    refine bodyPost_ret (results_none rfl _ _ _) rfl ⟨rfl, H.out _⟩
  · have hd : decide (t.size ≤ s.k) = true := decide_eq_true (by omega)
    obtain ⟨k, d, f, g, nm⟩ := s
    dsimp only at hc1 H hd
    clear h hno hlt
    go_enter Tryz.func73, Tryz.ntmps73
    go_wp2_with fail
    go_quiet (fail)
    go_wp2_with fail
    refine bodyPost_ret (results_none rfl _ _ _) rfl ⟨rfl, H.out _⟩
theorem eats_any {w : World} {p r base : Nat} {t : ByteArray} {s : RS} {hv : Int} {n : Nat} (c : UInt8) (h : RA w p r base t s false hv n) (ht : t.size ≤ 60) :
    Calls Tryz.prog 73 #[.pointer (some ⟨p, 0, none⟩), .int .u8 (c.toNat : Int)] w fun e w' => e = .returned (.tuple #[]) ∧ (if seesM t s c then RA w' p r base t s.up false hv n else RA w' p r base t s true hv n) ∧ KS w w' ∧ EB base [] w w' := by
  rw [sees_next]
  by_cases hlt : s.k < t.size
  · by_cases hc : nextN t s.k = c.toNat
    · rw [decide_eq_true hlt, decide_eq_true hc]
      exact eats_yes c.toNat h ht hlt hc
    · rw [decide_eq_true hlt, decide_eq_false hc]
      exact eats_no c.toNat h (.inr hc)
  · rw [decide_eq_false hlt]
    exact eats_no c.toNat h (.inl (by omega))
end Go.Proofs.YtgmjjhmnchefbaaGreatDoor.G

/- The document's own reader of patterns: an expression is kept. -/
namespace Go.Proofs.YtgmjjhmnchefbaaGreatDoor.G
open Go.RowKit

def zeroE : List Value := [.int .i64 0, .int .i64 0, .int .i64 0, .int .i64 0, .bool false] ++ sB noB
set_option maxRecDepth 100000 in
theorem infoExpr : (Tryz.prog.info? 109).map (fun i => (i.zero, i.size, i.bytes)) = some (some (.agg zeroE.toArray), 134, 168) := by kernel_rfl
theorem row_ne {w : World} {base b : Nat} {e e' : TypeId} {size : Nat} {v : Value} {m : Nat} {ys : List Value} {cs : Array Value} {fz : Nat × Nat} (ho : w.ownsRow base e size v m ys) (hb : BK w b (.cells cs e' fz)) (hne : e ≠ e') : v.ownBlock ≠ some b := fun hv => by
  rcases ho.2 with ⟨hn, _⟩ | ⟨g2, cap, cur, hv2, _, hgg, _⟩
  · rw [hn] at hv; simp [Value.ownBlock] at hv
  · rw [hv2] at hv
    simp [Value.ownBlock] at hv
    subst hv
    unfold BK at hb
    rw [hgg] at hb
    injection hb with hb
    injection hb with _ h9 _
    exact hne h9
theorem own_grown {w w' : World} {base : Nat} {e : TypeId} {size : Nat} {v : Value} {n : Nat} {xs : List Value} {row : Option Nat} (h : w.ownsRow base e size v n xs) (hg : w.grownBy w' row) (hne : ∀ g, v.ownBlock = some g → row ≠ some g) : w'.ownsRow base e size v n xs := by
  refine ⟨h.1, ?_⟩
  rcases h.2 with hn | ⟨g, cap, cur, rfl, hb, hgg, rest⟩
  · exact .inl hn
  · exact .inr ⟨g, cap, cur, rfl, hb, BK.grown (w := w) (b := g) hgg hg (hne g rfl), rest⟩
theorem rows_ne {w : World} {base base' : Nat} {e e' : TypeId} {size size' : Nat} {v v' : Value} {m m' : Nat} {ys ys' : List Value} (ho : w.ownsRow base e size v m ys) (ho' : w.ownsRow base' e' size' v' m' ys') (hne : e ≠ e') : ∀ g, v'.ownBlock = some g → v.ownBlock ≠ some g := fun g hg => by
  rcases ho'.2 with ⟨hn, _⟩ | ⟨g2, cap, cur, hv2, _, hgg, _⟩
  · rw [hn] at hg; simp [Value.ownBlock] at hg
  · rw [hv2] at hg
    simp [Value.ownBlock] at hg
    subst hg
    exact row_ne ho hgg hne
theorem sb_ne {w : World} {b b' : Nat} {bs : List Bool} {cs : Array Value} {e : TypeId} {fz : Nat × Nat} (h : SB w b bs) (hb : BK w b' (.cells cs e fz)) (hne : e ≠ 107) : b ≠ b' := fun e2 => by
  subst e2
  have h1 := h.1
  unfold BK at h1 hb
  rw [hb] at h1
  injection h1 with h1
  injection h1 with _ h2 _
  exact hne h2
set_option maxHeartbeats 4000000 in
set_option maxRecDepth 100000 in
theorem node_any {w : World} {p r base : Nat} {t : ByteArray} {s : RS} {bad : Bool} {hv : Int} {n : Nat} (S : List Value) (hS : S.length = 134) (hSP : ∀ u ∈ S, u.oneCell' = true) (h : RA w p r base t s bad hv n) (hn : n ≤ 100000) :
    Calls Tryz.prog 35 #[.pointer (some ⟨p, 0, none⟩), .agg S.toArray] w fun e w' => e = .returned (.int .i64 (n : Int)) ∧ RA w' p r base t s bad hv (n + 1) ∧ KS w w' ∧ EB base [] w w' := by
  obtain ⟨ti, hti, hzz0, hzz1, hzz2⟩ := info_parts infoExpr
  obtain ⟨av, nv, xs, ns, h1, h2, h3, h4, h5⟩ := h.rn.ex
  obtain ⟨pa, ca, rfl⟩ := own_slice h2
  have hxw : Ex [] w (w.alloc (Obj.cells S.toArray 109)) := (Ex.refl _ _).alloc _
  obtain ⟨w1, hw1⟩ : ∃ w1, w1 = w.alloc (Obj.cells S.toArray 109) := ⟨_, rfl⟩
  have hbx : BK w1 w.heap.size (.cells S.toArray 109 (0, 0)) := by rw [hw1]; exact BK.new _ _
  rw [← hw1] at hxw
  have hbp := h.rk
  unfold RK at hbp
  have hbp1 := hbp.ex hxw (by simp)
  have hbr1 := h1.ex hxw (by simp)
  have hrow1 := own_ex h2 hxw (by simp)
  have hnm1 := own_ex h3 hxw (by simp)
  have r0 := hbx.rangeL
  have c3 : w1.cell? ⟨p, 3, none⟩ = some (.pointer (some ⟨r, 0, none⟩)) := hbp1.all.1 3
  have c0 : w1.cell? ⟨r, 0, none⟩ = some (.slice pa n ca) := hbr1.all.1 0
  have hpl1 := hbp1.lt
  have hrl1 := hbr1.lt
  have hxl1 := hbx.lt
  have HI : Hid ((Tryz.prog.info? 109).map (·.size) = some S.length) := by show _ = _; rw [hS]; kernel_rfl
  have HS := hide hS
  have HSP := hide hSP
  have HBX := hide hbx
  have HBP := hide hbp1
  have HBR := hide hbr1
  have HROW := hide hrow1
  have HNMR := hide hnm1
  have HX1 := hide hxw
  have HNX : Hid ((Value.slice pa n ca).ownBlock ≠ some w.heap.size) := fun e => by have := (h2.lt _ e).2; omega
  have HNP : Hid ((Value.slice pa n ca).ownBlock ≠ some p) := row_ne h2 hbp (by decide)
  have HNR : Hid ((Value.slice pa n ca).ownBlock ≠ some r) := row_ne h2 h1 (by decide)
  have hle : base ≤ w1.heap.size := Nat.le_trans h.bw hxw.size
  have H := hide h
  have HW1 := hide hw1
  have HNS := hide h4
  have HNL := hide h5
  clear h h1 h2 h3 h4 h5 hbp hbp1 hbr1 hrow1 hnm1 hbx hxw hS hSP hw1
  go_enter Tryz.func35, Tryz.ntmps35
  go_upto_region 1 with fail
  rw [← HW1.out]
  refine wp_region_J (by kernel_rfl) ?_
  refine wpAny_take (i := 0) (v := ?_) rfl (by kernel_rfl) (by kernel_rfl) (by kernel_rfl) (fun _ _ _ h => h) (Or.inl ⟨by rfl, ?_⟩) ?_
  rotate_left
  · intro w'
    go_simp
    try with_reducible rfl
  simp only [Act.put, List.setIfInBounds_toArray, List.set_cons_zero, List.set_cons_succ, List.getElem_toArray, List.getElem_cons_zero, List.getElem_cons_succ, List.replicate, Array.replicate, List.size_toArray, List.length_cons, List.length_nil]
  refine wpAny_take (i := 1) (v := ?_) rfl (by kernel_rfl) (by kernel_rfl) (by kernel_rfl) (fun _ _ _ h => h) (Or.inl ⟨by rfl, ?_⟩) ?_
  rotate_left
  · intro w'
    go_simp
    try with_reducible rfl
  simp only [Act.put, List.setIfInBounds_toArray, List.set_cons_zero, List.set_cons_succ, List.getElem_toArray, List.getElem_cons_zero, List.getElem_cons_succ, List.replicate, Array.replicate, List.size_toArray, List.length_cons, List.length_nil]
  refine wpAny_take (i := 2) (v := ?_) rfl (by kernel_rfl) (by kernel_rfl) (by kernel_rfl) (fun _ _ _ h => h) (Or.inl ⟨by rfl, ?_⟩) ?_
  rotate_left
  · intro w'
    go_simp
    try with_reducible rfl
  simp only [Act.put, List.setIfInBounds_toArray, List.set_cons_zero, List.set_cons_succ, List.getElem_toArray, List.getElem_cons_zero, List.getElem_cons_succ, List.replicate, Array.replicate, List.size_toArray, List.length_cons, List.length_nil]
  refine wpAny_take (i := 4) (v := ?_) rfl (by kernel_rfl) (by kernel_rfl) (by kernel_rfl) (fun _ _ _ h => h) (Or.inl ⟨by rfl, ?_⟩) ?_
  rotate_left
  · intro w'
    go_simp
    try with_reducible rfl
  simp only [Act.put, List.setIfInBounds_toArray, List.set_cons_zero, List.set_cons_succ, List.getElem_toArray, List.getElem_cons_zero, List.getElem_cons_succ, List.replicate, Array.replicate, List.size_toArray, List.length_cons, List.length_nil]
  refine wpAny_take (i := 5) (v := ?_) rfl (by kernel_rfl) (by kernel_rfl) (by kernel_rfl) (fun _ _ _ h => h) (Or.inl ⟨by rfl, ?_⟩) ?_
  rotate_left
  · intro w'
    go_simp
    try with_reducible rfl
  simp only [Act.put, List.setIfInBounds_toArray, List.set_cons_zero, List.set_cons_succ, List.getElem_toArray, List.getElem_cons_zero, List.getElem_cons_succ, List.replicate, Array.replicate, List.size_toArray, List.length_cons, List.length_nil]
  refine wpAny_take (i := 6) (v := ?_) rfl (by kernel_rfl) (by kernel_rfl) (by kernel_rfl) (fun _ _ _ h => h) (Or.inl ⟨by rfl, ?_⟩) ?_
  rotate_left
  · intro w'
    go_simp
    try with_reducible rfl
  simp only [Act.put, List.setIfInBounds_toArray, List.set_cons_zero, List.set_cons_succ, List.getElem_toArray, List.getElem_cons_zero, List.getElem_cons_succ, List.replicate, Array.replicate, List.size_toArray, List.length_cons, List.length_nil]
  refine wpAny_of_J (S := (fun oi w' => oi < 16 → w'.rangeAt w.heap.size 0 S ∧ w'.cell? ⟨p, 3, none⟩ = some (.pointer (some ⟨r, 0, none⟩)) ∧ w'.cell? ⟨r, 0, none⟩ = some (.slice pa n ca))) _ _ _ _ ?_
  refine wpAnyJ_take (i := 3) (T := (fun w' => w'.rangeAt w.heap.size 0 S ∧ w'.cell? ⟨p, 3, none⟩ = some (.pointer (some ⟨r, 0, none⟩)) ∧ w'.cell? ⟨r, 0, none⟩ = some (.slice pa n ca))) (v := ?_) (fun oi => decide (oi < 16)) rfl (by kernel_rfl) (by kernel_rfl) (by kernel_rfl) (by kernel_rfl) (fun oi w' hj h => h (by simpa using hj)) (fun w' h _ => h) (fun _ _ _ h => h) ⟨r0, c3, c0⟩ (Or.inl ⟨by rfl, ?_⟩) ?_
  rotate_left
  · intro w' hSw
    obtain ⟨f1, f2, f3⟩ := hSw
    go_simp
    try with_reducible rfl
  simp only [Act.put, List.setIfInBounds_toArray, List.set_cons_zero, List.set_cons_succ, List.getElem_toArray, List.getElem_cons_zero, List.getElem_cons_succ, List.replicate, Array.replicate, List.size_toArray, List.length_cons, List.length_nil]
  refine wpAnyJ_take (i := 7) (T := (fun w' => w'.rangeAt w.heap.size 0 S ∧ w'.cell? ⟨p, 3, none⟩ = some (.pointer (some ⟨r, 0, none⟩)) ∧ w'.cell? ⟨r, 0, none⟩ = some (.slice pa n ca))) (v := ?_) (fun oi => decide (oi < 16)) rfl (by kernel_rfl) (by kernel_rfl) (by kernel_rfl) (by kernel_rfl) (fun oi w' hj h => h (by simpa using hj)) (fun w' h _ => h) (fun _ _ _ h => h) ⟨r0, c3, c0⟩ (Or.inl ⟨by rfl, ?_⟩) ?_
  rotate_left
  · intro w' hSw
    obtain ⟨f1, f2, f3⟩ := hSw
    go_simp
    try with_reducible rfl
  simp only [Act.put, List.setIfInBounds_toArray, List.set_cons_zero, List.set_cons_succ, List.getElem_toArray, List.getElem_cons_zero, List.getElem_cons_succ, List.replicate, Array.replicate, List.size_toArray, List.length_cons, List.length_nil]
  refine wpAnyJ_take (i := 8) (T := (fun w' => w'.rangeAt w.heap.size 0 S ∧ w'.cell? ⟨p, 3, none⟩ = some (.pointer (some ⟨r, 0, none⟩)) ∧ w'.cell? ⟨r, 0, none⟩ = some (.slice pa n ca))) (v := ?_) (fun oi => decide (oi < 16)) rfl (by kernel_rfl) (by kernel_rfl) (by kernel_rfl) (by kernel_rfl) (fun oi w' hj h => h (by simpa using hj)) (fun w' h _ => h) (fun _ _ _ h => h) ⟨r0, c3, c0⟩ (Or.inl ⟨by rfl, ?_⟩) ?_
  rotate_left
  · intro w' hSw
    obtain ⟨f1, f2, f3⟩ := hSw
    go_simp
    try with_reducible rfl
  simp only [Act.put, List.setIfInBounds_toArray, List.set_cons_zero, List.set_cons_succ, List.getElem_toArray, List.getElem_cons_zero, List.getElem_cons_succ, List.replicate, Array.replicate, List.size_toArray, List.length_cons, List.length_nil]
  refine wpAnyJ_take (i := 9) (T := (fun w' => w'.rangeAt w.heap.size 0 S ∧ w'.cell? ⟨p, 3, none⟩ = some (.pointer (some ⟨r, 0, none⟩)) ∧ w'.cell? ⟨r, 0, none⟩ = some (.slice pa n ca))) (v := ?_) (fun oi => decide (oi < 16)) rfl (by kernel_rfl) (by kernel_rfl) (by kernel_rfl) (by kernel_rfl) (fun oi w' hj h => h (by simpa using hj)) (fun w' h _ => h) (fun _ _ _ h => h) ⟨r0, c3, c0⟩ (Or.inl ⟨by rfl, ?_⟩) ?_
  rotate_left
  · intro w' hSw
    obtain ⟨f1, f2, f3⟩ := hSw
    go_simp
    try with_reducible rfl
  simp only [Act.put, List.setIfInBounds_toArray, List.set_cons_zero, List.set_cons_succ, List.getElem_toArray, List.getElem_cons_zero, List.getElem_cons_succ, List.replicate, Array.replicate, List.size_toArray, List.length_cons, List.length_nil]
  refine wpAnyJ_take (i := 10) (T := (fun w' => w'.rangeAt w.heap.size 0 S ∧ w'.cell? ⟨p, 3, none⟩ = some (.pointer (some ⟨r, 0, none⟩)) ∧ w'.cell? ⟨r, 0, none⟩ = some (.slice pa n ca))) (v := ?_) (fun oi => decide (oi < 16)) rfl (by kernel_rfl) (by kernel_rfl) (by kernel_rfl) (by kernel_rfl) (fun oi w' hj h => h (by simpa using hj)) (fun w' h _ => h) (fun _ _ _ h => h) ⟨r0, c3, c0⟩ (Or.inl ⟨by rfl, ?_⟩) ?_
  rotate_left
  · intro w' hSw
    obtain ⟨f1, f2, f3⟩ := hSw
    go_simp
    try with_reducible rfl
  simp only [Act.put, List.setIfInBounds_toArray, List.set_cons_zero, List.set_cons_succ, List.getElem_toArray, List.getElem_cons_zero, List.getElem_cons_succ, List.replicate, Array.replicate, List.size_toArray, List.length_cons, List.length_nil]
  refine wpAnyJ_take (i := 11) (T := (fun w' => w'.rangeAt w.heap.size 0 S ∧ w'.cell? ⟨p, 3, none⟩ = some (.pointer (some ⟨r, 0, none⟩)) ∧ w'.cell? ⟨r, 0, none⟩ = some (.slice pa n ca))) (v := _) (fun oi => decide (oi < 16)) rfl (by kernel_rfl) (by kernel_rfl) (by kernel_rfl) (by kernel_rfl) (fun oi w' hj h => h (by simpa using hj)) (fun w' h _ => h) (fun _ _ _ h => h) ⟨r0, c3, c0⟩ (yieldsIf_load_mid (by rfl) _ _ rfl _ _ rfl S _ (fun w' h => h.1) Tryz.underlying109 rfl HI.out) ?_
  simp only [Act.put, List.setIfInBounds_toArray, List.set_cons_zero, List.set_cons_succ, List.getElem_toArray, List.getElem_cons_zero, List.getElem_cons_succ, List.replicate, Array.replicate, List.size_toArray, List.length_cons, List.length_nil]
  refine wpAnyJ_one (i := 12) rfl rfl (by kernel_rfl) (fun K hK => ?_)
  refine wp_buildSlice 45 109 1 _ rfl S.toArray ti _ Tryz.underlying45 hti hzz0 (by rw [hzz1]; decide) (by rw [hzz1]; decide) (by rw [hzz1]; simp only [List.map_toArray, List.map_cons, List.map_nil, Act.eval, List.getElem?_toArray, Array.getD_eq_getD_getElem?, List.getElem?_cons_succ, List.getElem?_cons_zero, Option.getD_some]; refine fill_one HS.out ?_; rw [Array.size_map, Array.size_range]) ?_
  have r2 : (w1.drew.alloc (.cells S.toArray 109)).rangeAt w.heap.size 0 S := (HBX.out.drew.alloc _).rangeL
  have c32 : (w1.drew.alloc (.cells S.toArray 109)).cell? ⟨p, 3, none⟩ = some (.pointer (some ⟨r, 0, none⟩)) := (HBP.out.drew.alloc _).all.1 3
  have c02 : (w1.drew.alloc (.cells S.toArray 109)).cell? ⟨r, 0, none⟩ = some (.slice pa n ca) := (HBR.out.drew.alloc _).all.1 0
  refine hK.out _ _ (fun _ => ⟨r2, c32, c02⟩) ?_
  clear hK K
  simp only [Act.put, List.setIfInBounds_toArray, List.set_cons_zero, List.set_cons_succ, List.getElem_toArray, List.getElem_cons_zero, List.getElem_cons_succ, List.replicate, Array.replicate, List.size_toArray, List.length_cons, List.length_nil]
  refine wpAnyJ_one (i := 13) rfl rfl (by kernel_rfl) (fun K hK => ?_)
  refine wp_append_lies _ (.tmp 15) (.tmp 17) 45 rfl base 109 ti _ 134 168 Tryz.underlying45 hti hzz0 hzz1 hzz2 rfl (by decide) (.slice pa n ca) n xs rfl ((World.ownsRow.drew HROW.out).alloc _) ⟨w1.heap.size, 0, none⟩ 1 1 S rfl (by rw [HS.out]) (cells_new _ _ _) HSP.out (by decide) (by unfold maxLen; omega) (by omega) (by simp; omega) _ rfl ?_
  intro g cap w3 hown3 hgrow3 hat3 hlt3
  have hbx3 := BK.grown (HBX.out.drew.alloc (.cells S.toArray 109)) hgrow3 HNX.out
  have hbp3 := BK.grown (HBP.out.drew.alloc (.cells S.toArray 109)) hgrow3 HNP.out
  have hbr3 := BK.grown (HBR.out.drew.alloc (.cells S.toArray 109)) hgrow3 HNR.out
  refine hK.out _ _ (fun _ => ⟨hbx3.rangeL, hbp3.all.1 3, hbr3.all.1 0⟩) ?_
  clear hK K
  obtain ⟨hcr3, hfr3⟩ := hbr3.all
  have hrl3 := hbr3.lt
  simp only [Act.put, List.setIfInBounds_toArray, List.set_cons_zero, List.set_cons_succ, List.getElem_toArray, List.getElem_cons_zero, List.getElem_cons_succ, List.replicate, Array.replicate, List.size_toArray, List.length_cons, List.length_nil]
  refine wpAnyJ_one (i := 14) rfl rfl (by kernel_rfl) (fun K hK => ?_)
  go_simp
  refine hK.out _ _ (fun _ => ⟨hbx3.rangeL, hbp3.all.1 3, hbr3.all.1 0⟩) ?_
  clear hK K
  simp only [Act.put, List.setIfInBounds_toArray, List.set_cons_zero, List.set_cons_succ, List.getElem_toArray, List.getElem_cons_zero, List.getElem_cons_succ, List.replicate, Array.replicate, List.size_toArray, List.length_cons, List.length_nil]
  refine wpAnyJ_one (i := 15) rfl rfl (by kernel_rfl) (fun K hK => ?_)
  go_simp
  refine hK.out _ _ (fun _ => ⟨hbx3.rangeL, hbp3.all.1 3, hbr3.all.1 0⟩) ?_
  clear hK K
  simp only [Act.put, List.setIfInBounds_toArray, List.set_cons_zero, List.set_cons_succ, List.getElem_toArray, List.getElem_cons_zero, List.getElem_cons_succ, List.replicate, Array.replicate, List.size_toArray, List.length_cons, List.length_nil]
  refine wpAnyJ_one (i := 16) rfl rfl (by kernel_rfl) (fun K hK => ?_)
  go_simp
  refine hK.out _ _ (fun h => by omega) ?_
  clear hK K
  refine wpAnyJ_done (by kernel_rfl) ?_ _
  have hrow3 := row_ne hown3 hbr3 (by decide)
  have hnm3 := own_grown ((World.ownsRow.drew HNMR.out).alloc (.cells S.toArray 109)) hgrow3 (rows_ne HROW.out HNMR.out (by decide))
  have hnmr3 := row_ne hnm3 hbr3 (by decide)
  have hks3 : KS w w3 := fun b bs hb => by
    have hb1 := (hb.ex HX1.out (by simp)).1
    exact ⟨BK.grown (hb1.drew.alloc (.cells S.toArray 109)) hgrow3 (row_ne HROW.out hb1 (by decide)), hb.2⟩
  have heb3 : EB base [] w w3 := (((EB.ofEx HX1.out H.out.bw).drew).alloc (by simp; omega) _).grown hgrow3 (by simp; omega) (fun k hk => .inr (own_block HROW.out k hk))
  obtain ⟨w4, hw4⟩ : ∃ w4, w4 = w3.setCell ⟨r, 0, none⟩ (.slice (some ⟨g, 0, none⟩) (n + 1) cap) := ⟨_, rfl⟩
  have hpr : p ≠ r := fun e => by
    subst e
    unfold BK at hbp3 hbr3
    rw [hbp3] at hbr3
    injection hbr3 with h9
    injection h9 with _ h9 _
    exact absurd h9 (by decide)
  have hbp4 := hbp3.set (p := ⟨r, 0, none⟩) hpr (.slice (some ⟨g, 0, none⟩) (n + 1) cap)
  have hbr4 := hbr3.self 0 (.slice (some ⟨g, 0, none⟩) (n + 1) cap)
  simp only [List.setIfInBounds_toArray, List.set_cons_zero] at hbr4
  have hown4 : (w3.setCell ⟨r, 0, none⟩ (.slice (some ⟨g, 0, none⟩) (n + 1) cap)).ownsRow base 109 134 (.slice (some ⟨g, 0, none⟩) (n + 1) cap) (n + 1) (xs ++ S) := own_blk hown3 (fun g2 hg2 => Below.heap_setCell _ _ _ _ (fun e => hrow3 (by rw [hg2, e])))
  have hnm4 : (w3.setCell ⟨r, 0, none⟩ (.slice (some ⟨g, 0, none⟩) (n + 1) cap)).ownsRow base 9 1 nv ns.length (ns.map Value.string) := own_blk hnm3 (fun g2 hg2 => Below.heap_setCell _ _ _ _ (fun e => hnmr3 (by rw [hg2, e])))
  have hks4 : KS w (w3.setCell ⟨r, 0, none⟩ (.slice (some ⟨g, 0, none⟩) (n + 1) cap)) := fun b bs hb => ⟨(hks3 b bs hb).1.set (sb_ne (hks3 b bs hb) hbr3 (by decide)) _, hb.2⟩
  have heb4 : EB base [] w (w3.setCell ⟨r, 0, none⟩ (.slice (some ⟨g, 0, none⟩) (n + 1) cap)) := heb3.setCell (.inr H.out.rb) _
  have hsz4 : base ≤ (w3.setCell ⟨r, 0, none⟩ (.slice (some ⟨g, 0, none⟩) (n + 1) cap)).heap.size := Nat.le_trans H.out.bw heb4.size
  rw [← hw4] at hbp4 hbr4 hown4 hnm4 hks4 heb4 hsz4 ⊢
  have HRA : Hid (RA w4 p r base t s bad hv (n + 1)) := ⟨hbp4, ⟨_, _, _, _, hbr4, hown4, hnm4, HNS.out, HNL.out⟩, H.out.pb, H.out.rb, hsz4⟩
  have k3 : w4.cell? ⟨p, 3, none⟩ = some (.pointer (some ⟨r, 0, none⟩)) := hbp4.all.1 3
  have k0 : w4.cell? ⟨r, 0, none⟩ = some (.slice (some ⟨g, 0, none⟩) (n + 1) cap) := hbr4.all.1 0
  have kl := hbp4.lt
  have krl := hbr4.lt
  have HKS := hide hks4
  have HEB := hide heb4
  clear hw4 hbp4 hbr4 hown4 hnm4 hks4 heb4 hsz4 hks3 heb3 hnm3 hnmr3 hrow3 hown3 hgrow3 hat3 hbx3 hbp3 hbr3 hcr3 hfr3 r2 c32 c02 r0 c3 c0 hti hzz0 hzz1 hzz2
  go_wp2_with fail
  go_ret
  exact ⟨by simp, HRA.out, HKS.out, HEB.out⟩
end Go.Proofs.YtgmjjhmnchefbaaGreatDoor.G
