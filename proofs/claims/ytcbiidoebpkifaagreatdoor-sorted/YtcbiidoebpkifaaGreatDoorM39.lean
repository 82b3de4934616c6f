/- rule.Make at an action, and what is known of the pattern that was read. -/
import Derived.Test.YtcbiidoebpkifaaGreatDoorM35
set_option linter.unusedVariables false
set_option linter.unusedSimpArgs false
namespace Go.Proofs.YtcbiidoebpkifaaGreatDoor.G
open Go.RowKit

def ReadsQ (w : World) (re : ByteArray) (ok : Bool) (pl : Nat) (Q : World → Option Addr → Prop) : Prop := ∀ w1, Ex [] w w1 → w.heap.size + 2 ≤ w1.heap.size → Calls Tryz.prog 17 #[.string re] w1 fun x w2 => (∃ pp, x = .returned (.tuple #[.pointer pp, .int .i64 (pl : Int), .bool ok]) ∧ Q w2 pp) ∧ Ex [] w1 w2
set_option maxHeartbeats 400000 in
theorem readUsed_q (re : ByteArray) (ok : Bool) (pl : Nat) (w0 w : World) (hx : Ex [] w0 w) (hz : w0.heap.size + 2 ≤ w.heap.size) (Q : World → Option Addr → Prop) (hQ : ∀ (w1 w2 : World) (pp : Option Addr), Q w1 pp → Ex [] w1 w2 → Q w2 pp) (hr : ReadsQ w0 re ok pl Q) : Calls Tryz.prog 75 #[.string re, .bool true] w fun x w' => (∃ pp, x = .returned (.tuple #[.pointer pp, .int .i64 (pl : Int), .bool ok]) ∧ Q w' pp) ∧ Ex [] w w' := by
  have HR := hide (hr w hx hz)
  clear hr hx
  go_enter Tryz.func75, Tryz.ntmps75
  go_wp2_with fail
  refine HR.out.mono ?_
  rintro x w1 ⟨⟨pp, rfl, hq⟩, hx1⟩
  have HX := hide hx1
  have HQ := hide hq
  clear hx1 hq
  go_wp2_with fail
  go_ret3
  exact ⟨⟨pp, rfl, HQ.out⟩, HX.out⟩

set_option maxHeartbeats 4000000 in
set_option maxRecDepth 100000 in
theorem make_q (n : Nat) (u : Use) (hu : usesL[n]? = some u) (p : Option Addr) (c : Nat) (ss : List ByteArray) (se re ta rp : ByteArray) (mo : Int) (ok : Bool) (pl : Nat) (w : World) (D : World → Value → Prop)
    (hub : UB w) (hv : SS w (.slice p ss.length c) ss) (hn : ss.length ≤ 1000) (hz : ∀ s ∈ ss, s.size ≤ 281474976710656) (hse : se.size ≤ 281474976710656) (hta : ta.size ≤ 281474976710656) (hrp : rp.size ≤ 281474976710656) (Q : World → Option Addr → Prop) (hQ : ∀ (w1 w2 : World) (pp : Option Addr), Q w1 pp → Ex [] w1 w2 → Q w2 pp) (hr : u.regex = true → ReadsQ w re ok pl Q)
    (hd : makeR n ss se re ta rp mo u ok pl = (0, 0) → ∀ w1 sp sc pp, Ex [] w w1 → w.heap.size + 2 ≤ w1.heap.size → SS w1 (.slice sp ss.length sc) ss → (∀ k, (Value.slice sp ss.length sc).ownBlock = some k → w.heap.size + 2 ≤ k) → (u.regex = true → Q w1 pp) → Calls Tryz.prog 79 #[meansV (.slice sp ss.length sc) se (.pointer pp) ta rp mo, .int .i64 n] w1 fun x w2 => (∃ f a b, x = .returned (.func f a b) ∧ D w2 (.func f a b)) ∧ Ex [] w1 w2)
    (hDs : ∀ w2 fv, D w2 fv → D (w2.setCell ⟨w.heap.size + 1, 0, none⟩ fv) fv) :
    Calls Tryz.prog 44 #[ruleV n (.slice p ss.length c) se re ta rp mo] w fun x w' =>
      ((makeR n ss se re ta rp mo u ok pl).1 ≠ 0 → x = .returned (.tuple #[.agg #[.nilFunc], .int .i64 ((makeR n ss se re ta rp mo u ok pl).1 : Int), .int .i64 ((makeR n ss se re ta rp mo u ok pl).2 : Int)])) ∧
      ((makeR n ss se re ta rp mo u ok pl).1 = 0 → ∃ f a b, x = .returned (.tuple #[.agg #[.func f a b], .int .i64 0, .int .i64 0]) ∧ D w' (.func f a b)) ∧ Ex [] w w' := by
  have hn11 : n < 11 := (List.getElem?_eq_some_iff.1 hu).1
  obtain ⟨ux, ur, ug, up, um⟩ := u
  obtain ⟨M, hM⟩ : ∃ M, makeR n ss se re ta rp mo ⟨ux, ur, ug, up, um⟩ ok pl = M := ⟨_, rfl⟩
  have HM := hide hM
  have HD := hide hd
  rw [hM]
  have X0 : Hid (Ex [] w (((w.alloc (Obj.cells #[.int .i64 n, .slice p ss.length c, .string se, .string re, .string ta, .string rp, .int .u64 mo] 65)).alloc (Obj.cells #[.nilFunc] 132)).alloc (Obj.cells #[.bool ux, .bool ur, .bool ug, .bool up, .bool um] 182))) := (((Ex.refl _ _).alloc _).alloc _).alloc _
  have BG : Hid (BK (((w.alloc (Obj.cells #[.int .i64 n, .slice p ss.length c, .string se, .string re, .string ta, .string rp, .int .u64 mo] 65)).alloc (Obj.cells #[.nilFunc] 132)).alloc (Obj.cells #[.bool ux, .bool ur, .bool ug, .bool up, .bool um] 182)) w.heap.size (.cells #[.int .i64 n, .slice p ss.length c, .string se, .string re, .string ta, .string rp, .int .u64 mo] 65 (0, 0))) := ((BK.new _ _).alloc _).alloc _
  have BR : Hid (BK (((w.alloc (Obj.cells #[.int .i64 n, .slice p ss.length c, .string se, .string re, .string ta, .string rp, .int .u64 mo] 65)).alloc (Obj.cells #[.nilFunc] 132)).alloc (Obj.cells #[.bool ux, .bool ur, .bool ug, .bool up, .bool um] 182)) (w.heap.size + 1) (.cells #[.nilFunc] 132 (0, 0))) := by
    have h := (BK.new (w.alloc (Obj.cells #[.int .i64 n, .slice p ss.length c, .string se, .string re, .string ta, .string rp, .int .u64 mo] 65)) (Obj.cells #[.nilFunc] 132)).alloc (Obj.cells #[.bool ux, .bool ur, .bool ug, .bool up, .bool um] 182)
    simp only [World.size_alloc] at h
    exact h
  have BU : Hid (BK (((w.alloc (Obj.cells #[.int .i64 n, .slice p ss.length c, .string se, .string re, .string ta, .string rp, .int .u64 mo] 65)).alloc (Obj.cells #[.nilFunc] 132)).alloc (Obj.cells #[.bool ux, .bool ur, .bool ug, .bool up, .bool um] 182)) (w.heap.size + 1 + 1) (.cells #[.bool ux, .bool ur, .bool ug, .bool up, .bool um] 182 (0, 0))) := by
    have h := BK.new ((w.alloc (Obj.cells #[.int .i64 n, .slice p ss.length c, .string se, .string re, .string ta, .string rp, .int .u64 mo] 65)).alloc (Obj.cells #[.nilFunc] 132)) (Obj.cells #[.bool ux, .bool ur, .bool ug, .bool up, .bool um] 182)
    simp only [World.size_alloc] at h
    exact h
  have hub1 := (hub.ex (((Ex.refl [] w).alloc (Obj.cells #[.int .i64 n, .slice p ss.length c, .string se, .string re, .string ta, .string rp, .int .u64 mo] 65)).alloc (Obj.cells #[.nilFunc] 132)) (by simp)).2 n ⟨ux, ur, ug, up, um⟩ hu
  have HUB := hide hub1
  have HISZ : Hid ((Tryz.prog.info? 182).map (·.size) = some (Use.cells ⟨ux, ur, ug, up, um⟩).length) := by show (Tryz.prog.info? 182).map (·.size) = some 5; kernel_rfl
  have HV := hide hv
  have HZ := hide hz
  have HRD := hide hr
  have HDS := hide hDs
  clear hM hd hub hub1 hv hz hr hDs hu
  unfold ruleV
  go_enter Tryz.func44, Tryz.ntmps44
  go_wp2_with fail
  refine (isAction_yes n _ hn11).mono ?_
  rintro x w1 ⟨rfl, rfl⟩
  have hn11' : (n : Int) < 11 := by omega
  unfold Use.cells at HUB HISZ
  simp only at HUB HISZ HRD
  go_wp2_with (refine wpList_load_mid rfl 182 _ rfl 1 (n * 5) (by simp [Act.eval, Act.put]) [.bool ux, .bool ur, .bool ug, .bool up, .bool um] _ HUB.out Tryz.underlying182 rfl HISZ.out ?_)
  have K1 := isBig_any n (.slice p ss.length c) ss se re ta rp mo (((w.alloc (Obj.cells #[.int .i64 n, .slice p ss.length c, .string se, .string re, .string ta, .string rp, .int .u64 mo] 65)).alloc (Obj.cells #[.nilFunc] 132)).alloc (Obj.cells #[.bool ux, .bool ur, .bool ug, .bool up, .bool um] 182)) (HV.out.ex0 X0.out) hn
  unfold ruleV at K1
  refine K1.mono ?_
  clear K1
  rintro x w1 ⟨rfl, hx⟩
  have X1 : Hid (Ex [] (((w.alloc (Obj.cells #[.int .i64 n, .slice p ss.length c, .string se, .string re, .string ta, .string rp, .int .u64 mo] 65)).alloc (Obj.cells #[.nilFunc] 132)).alloc (Obj.cells #[.bool ux, .bool ur, .bool ug, .bool up, .bool um] 182)) w1) := hx
  clear hx
  obtain ⟨hcg, hfg⟩ := (BG.out.ex X1.out (by simp)).all
  have hlg := (BG.out.ex X1.out (by simp)).lt
  cases hB1 : bigB ss se ta rp with
  | true =>
    have Q1 := hide hB1
    clear hB1
    have MR : Hid (M = (2, 0)) := by show M = _; rw [← HM.out]; simp only [makeR, unhide Q1, if_true] <;> rfl
    have hR := BR.out.ex X1.out (by simp)
    have hst := store_nilFunc hR
    have HRr := hide hR
    clear hR
    go_wp2_with fail
    have hb := HRr.out.self 0 .nilFunc
    simp only [List.setIfInBounds_toArray, List.set_cons_zero] at hb
    have hl3 := run_loadVar_mid (P := Tryz.prog) _ (w.heap.size + 1) 0 132 [.nilFunc] _ (BK.rangeL (cs := [.nilFunc]) hb) Tryz.underlying132 rfl (by kernel_rfl)
    refine bodyPost_ret (results_cell_tmp2 rfl rfl hl3) rfl ⟨fun _ => ?_, fun h0 => ?_, ?_⟩
    · rw [MR.out]; rfl
    · rw [MR.out] at h0; cases h0
    · exact (X0.out.trans X1.out).setCell (Or.inr (by simp)) _
  | false =>
  have Q1 := hide hB1
  clear hB1
  go_wp2_with fail
  refine (areNames_any (.slice p ss.length c) ss w1 (HV.out.ex0 (X0.out.trans X1.out)) hn (fun s hs => by have := HZ.out s hs; unfold maxLen; omega)).mono ?_
  rintro x w2 ⟨rfl, hx⟩
  clear hcg hfg hlg
  have X2 := hide (X1.out.trans hx)
  clear hx
  obtain ⟨hcg, hfg⟩ := (BG.out.ex X2.out (by simp)).all
  have hlg := (BG.out.ex X2.out (by simp)).lt
  obtain ⟨hcu, hfu⟩ := (BU.out.ex X2.out (by simp)).all
  have hlu := (BU.out.ex X2.out (by simp)).lt
  cases hB2 : ss.all nameB with
  | false =>
    have Q2 := hide hB2
    clear hB2
    have MR : Hid (M = (3, 0)) := by show M = _; rw [← HM.out]; simp only [makeR, unhide Q1, unhide Q2, Bool.false_eq_true, if_false, Bool.not_false, if_true] <;> rfl
    have hR := BR.out.ex X2.out (by simp)
    have hst := store_nilFunc hR
    have HRr := hide hR
    clear hR
    go_wp2_with fail
    have hb := HRr.out.self 0 .nilFunc
    simp only [List.setIfInBounds_toArray, List.set_cons_zero] at hb
    have hl3 := run_loadVar_mid (P := Tryz.prog) _ (w.heap.size + 1) 0 132 [.nilFunc] _ (BK.rangeL (cs := [.nilFunc]) hb) Tryz.underlying132 rfl (by kernel_rfl)
    refine bodyPost_ret (results_cell_tmp2 rfl rfl hl3) rfl ⟨fun _ => ?_, fun h0 => ?_, ?_⟩
    · rw [MR.out]; rfl
    · rw [MR.out] at h0; cases h0
    · exact (X0.out.trans X2.out).setCell (Or.inr (by simp)) _
  | true =>
  have Q2 := hide hB2
  clear hB2
  have hRU : ∀ w', Ex [] w w' → w.heap.size + 2 ≤ w'.heap.size → Calls Tryz.prog 75 #[.string re, .bool ur] w' fun x w'' => (∃ pp q o, x = .returned (.tuple #[.pointer pp, .int .i64 q, .bool o]) ∧ (ur = true → Q w'' pp) ∧ ((ur && !ok) = false → o = true) ∧ ((ur && !ok) = true → o = false ∧ q = (pl : Int))) ∧ Ex [] w' w'' := by
    intro w' hx' hz'
    cases hur : ur with
    | false =>
      refine (readUsed_no re w').mono ?_
      rintro x w'' ⟨rfl, rfl⟩
      exact ⟨⟨none, 0, true, rfl, by simp, by simp, by simp⟩, Ex.refl _ _⟩
    | true =>
      refine (readUsed_q re ok pl w w' hx' hz' Q hQ (HRD.out hur)).mono ?_
      rintro x w'' ⟨⟨pp, rfl, hqq⟩, hx''⟩
      exact ⟨⟨pp, pl, ok, rfl, fun _ => hqq, by simp, by simp⟩, hx''⟩
  have HRU := hide hRU
  clear hRU
  go_wp2_with fail
  refine (HRU.out w2 (X0.out.trans X2.out) (by have h9 := X2.out.size; simp only [World.size_alloc] at h9; omega)).mono ?_
  rintro x w3 ⟨⟨pp, q, o, rfl, hqq, ho1, ho2⟩, hx⟩
  have HQ3 := hide hqq
  clear hqq
  clear hcg hfg hlg hcu hfu hlu
  have X3 := hide (X2.out.trans hx)
  clear hx
  obtain ⟨hcg, hfg⟩ := (BG.out.ex X3.out (by simp)).all
  have hlg := (BG.out.ex X3.out (by simp)).lt
  obtain ⟨hcu, hfu⟩ := (BU.out.ex X3.out (by simp)).all
  have hlu := (BU.out.ex X3.out (by simp)).lt
  cases hB3 : (ur && !ok) with
  | true =>
    obtain ⟨rfl, rfl⟩ := ho2 hB3
    have Q3 := hide hB3
    clear hB3 ho1 ho2
    have MR : Hid (M = (4, pl)) := by show M = _; rw [← HM.out]; simp only [makeR, unhide Q1, unhide Q2, unhide Q3, Bool.false_eq_true, if_false, Bool.not_true, if_true] <;> rfl
    have hR := BR.out.ex X3.out (by simp)
    have hst := store_nilFunc hR
    have HRr := hide hR
    clear hR
    go_wp2_with fail
    have hb := HRr.out.self 0 .nilFunc
    simp only [List.setIfInBounds_toArray, List.set_cons_zero] at hb
    have hl3 := run_loadVar_mid (P := Tryz.prog) _ (w.heap.size + 1) 0 132 [.nilFunc] _ (BK.rangeL (cs := [.nilFunc]) hb) Tryz.underlying132 rfl (by kernel_rfl)
    refine bodyPost_ret (results_cell_tmp2 rfl rfl hl3) rfl ⟨fun _ => ?_, fun h0 => ?_, ?_⟩
    · rw [MR.out]; rfl
    · rw [MR.out] at h0; cases h0
    · exact (X0.out.trans X3.out).setCell (Or.inr (by simp)) _
  | false =>
  obtain rfl := ho1 hB3
  have Q3 := hide hB3
  clear hB3 ho1 ho2
  cases ug with
  | true =>
    have K4 := fun w' => isTarget_any n p ss.length c se re ta rp mo w' (by unfold maxLen; omega)
    unfold ruleV at K4
    have HK4 := hide K4
    clear K4
    go_wp2_with fail
    refine (HK4.out _).mono ?_
    rintro x w4 ⟨rfl, hx⟩
    clear hcg hfg hlg hcu hfu hlu
    have X4 := hide (X3.out.trans hx)
    have HQ4 := hide (fun h => hQ _ _ pp (HQ3.out h) hx)
    clear hx
    obtain ⟨hcg, hfg⟩ := (BG.out.ex X4.out (by simp)).all
    have hlg := (BG.out.ex X4.out (by simp)).lt
    obtain ⟨hcu, hfu⟩ := (BU.out.ex X4.out (by simp)).all
    have hlu := (BU.out.ex X4.out (by simp)).lt
    cases hB4 : targetB n ta with
    | false =>
      have Q4 := hide hB4
      clear hB4
      have MR : Hid (M = (5, 0)) := by show M = _; rw [← HM.out]; simp only [makeR, unhide Q1, unhide Q2, unhide Q3, unhide Q4, Bool.false_eq_true, if_false, Bool.not_true, if_true, Bool.not_false, Bool.and_self] <;> rfl
      have hR := BR.out.ex X4.out (by simp)
      have hst := store_nilFunc hR
      have HRr := hide hR
      clear hR
      go_wp2_with fail
      have hb := HRr.out.self 0 .nilFunc
      simp only [List.setIfInBounds_toArray, List.set_cons_zero] at hb
      have hl3 := run_loadVar_mid (P := Tryz.prog) _ (w.heap.size + 1) 0 132 [.nilFunc] _ (BK.rangeL (cs := [.nilFunc]) hb) Tryz.underlying132 rfl (by kernel_rfl)
      refine bodyPost_ret (results_cell_tmp2 rfl rfl hl3) rfl ⟨fun _ => ?_, fun h0 => ?_, ?_⟩
      · rw [MR.out]; rfl
      · rw [MR.out] at h0; cases h0
      · exact (X0.out.trans X4.out).setCell (Or.inr (by simp)) _
    | true =>
    have Q4 : Hid ((true && !targetB (n : Int) ta) = false) := by show _ = _; rw [hB4]; rfl
    clear hB4
    have K5 := fun w' => hasUnused_any n p ss.length c se re ta rp mo ⟨ux, ur, true, up, um⟩ w'
    unfold ruleV useV at K5
    simp only at K5
    have HK5 := hide K5
    clear K5
    go_wp2_with fail
    refine (HK5.out _).mono ?_
    rintro x w5 ⟨rfl, hx⟩
    clear hcg hfg hlg hcu hfu hlu
    have X5 := hide (X4.out.trans hx)
    have HQ5 := hide (fun h => hQ _ _ pp (HQ4.out h) hx)
    clear hx
    obtain ⟨hcg, hfg⟩ := (BG.out.ex X5.out (by simp)).all
    have hlg := (BG.out.ex X5.out (by simp)).lt
    obtain ⟨hcu, hfu⟩ := (BU.out.ex X5.out (by simp)).all
    have hlu := (BU.out.ex X5.out (by simp)).lt
    cases hB5 : unusedB ss.length se re ta rp mo ⟨ux, ur, true, up, um⟩ with
    | true =>
      have Q5 := hide hB5
      clear hB5
      have MR : Hid (M = (6, 0)) := by show M = _; rw [← HM.out]; simp only [makeR, unhide Q1, unhide Q2, unhide Q3, unhide Q4, unhide Q5, Bool.false_eq_true, if_false, Bool.not_true, if_true] <;> rfl
      have hR := BR.out.ex X5.out (by simp)
      have hst := store_nilFunc hR
      have HRr := hide hR
      clear hR
      go_wp2_with fail
      have hb := HRr.out.self 0 .nilFunc
      simp only [List.setIfInBounds_toArray, List.set_cons_zero] at hb
      have hl3 := run_loadVar_mid (P := Tryz.prog) _ (w.heap.size + 1) 0 132 [.nilFunc] _ (BK.rangeL (cs := [.nilFunc]) hb) Tryz.underlying132 rfl (by kernel_rfl)
      refine bodyPost_ret (results_cell_tmp2 rfl rfl hl3) rfl ⟨fun _ => ?_, fun h0 => ?_, ?_⟩
      · rw [MR.out]; rfl
      · rw [MR.out] at h0; cases h0
      · exact (X0.out.trans X5.out).setCell (Or.inr (by simp)) _
    | false =>
    have Q5 := hide hB5
    clear hB5
    cases hB6 : (um && mo == 0) with
    | true =>
      have Q6 := hide hB6
      simp only [Bool.and_eq_true, beq_iff_eq] at hB6
      obtain ⟨rfl, rfl⟩ := hB6
      have MR : Hid (M = (7, 0)) := by show M = _; rw [← HM.out]; simp only [makeR, unhide Q1, unhide Q2, unhide Q3, unhide Q4, unhide Q5, unhide Q6, Bool.false_eq_true, if_false, Bool.not_true, if_true] <;> rfl
      have hR := BR.out.ex X5.out (by simp)
      have hst := store_nilFunc hR
      have HRr := hide hR
      clear hR
      go_wp2_with fail
      have hb := HRr.out.self 0 .nilFunc
      simp only [List.setIfInBounds_toArray, List.set_cons_zero] at hb
      have hl3 := run_loadVar_mid (P := Tryz.prog) _ (w.heap.size + 1) 0 132 [.nilFunc] _ (BK.rangeL (cs := [.nilFunc]) hb) Tryz.underlying132 rfl (by kernel_rfl)
      refine bodyPost_ret (results_cell_tmp2 rfl rfl hl3) rfl ⟨fun _ => ?_, fun h0 => ?_, ?_⟩
      · rw [MR.out]; rfl
      · rw [MR.out] at h0; cases h0
      · exact (X0.out.trans X5.out).setCell (Or.inr (by simp)) _
    | false =>
    have MR : Hid (M = (0, 0)) := by show M = _; rw [← HM.out]; simp only [makeR, unhide Q1, unhide Q2, unhide Q3, unhide Q4, unhide Q5, hB6, Bool.false_eq_true, if_false, Bool.not_true]
    have K6 := fun w' hv' => meansOf_any n (.slice p ss.length c) ss se re ta rp mo pp w' hv' hn HZ.out hse hta hrp
    unfold ruleV at K6
    have HK6 := hide K6
    have HS5 := hide (HV.out.ex0 (X0.out.trans X5.out))
    have BR5 := hide (BR.out.ex X5.out (by simp))
    have BG5 := hide (BG.out.ex X5.out (by simp))
    clear K6
    have HB6 := hide hB6
    clear hB6
    cases um with
    | false =>
      go_wp2_with fail
      refine wp_region_J (by kernel_rfl) ?_
      refine wpAny_take (i := 1) (v := ?_) rfl (by kernel_rfl) (by kernel_rfl) (by kernel_rfl) (fun _ _ _ h => h) (Or.inl ⟨by rfl, ?_⟩) ?_
      rotate_left
      · intro w'
        go_simp
        try with_reducible rfl
      simp only [Act.put, List.setIfInBounds_toArray, List.set_cons_zero, List.set_cons_succ, List.getElem_toArray, List.getElem_cons_zero, List.getElem_cons_succ, List.replicate, Array.replicate, List.size_toArray, List.length_cons, List.length_nil]
      refine wpAny_take (i := 3) (v := ?_) rfl (by kernel_rfl) (by kernel_rfl) (by kernel_rfl) (fun _ _ _ h => h) (Or.inl ⟨by rfl, ?_⟩) ?_
      rotate_left
      · intro w'
        go_simp
        try with_reducible rfl
      simp only [Act.put, List.setIfInBounds_toArray, List.set_cons_zero, List.set_cons_succ, List.getElem_toArray, List.getElem_cons_zero, List.getElem_cons_succ, List.replicate, Array.replicate, List.size_toArray, List.length_cons, List.length_nil]
      refine wpAny_of_J (S := (fun j w' => j < 10 → ∀ o, w'.cell? ⟨w.heap.size, o, none⟩ = #[Value.int .i64 n, .slice p ss.length c, .string se, .string re, .string ta, .string rp, .int .u64 mo][o]?)) _ _ _ _ ?_
      refine wpAnyJ_take (i := 0) (T := (fun w' => ∀ o, w'.cell? ⟨w.heap.size, o, none⟩ = #[Value.int .i64 n, .slice p ss.length c, .string se, .string re, .string ta, .string rp, .int .u64 mo][o]?)) (v := ?_) (fun j => decide (j < 10)) rfl (by kernel_rfl) (by kernel_rfl) (by kernel_rfl) (by kernel_rfl) (fun j w' hj h => h (by simpa using hj)) (fun w' h _ => h) (fun _ _ _ h => h) hcg (Or.inl ⟨by rfl, ?_⟩) ?_
      rotate_left
      · intro w' hSw
        obtain hSw := hSw
        go_simp
        try with_reducible rfl
      simp only [Act.put, List.setIfInBounds_toArray, List.set_cons_zero, List.set_cons_succ, List.getElem_toArray, List.getElem_cons_zero, List.getElem_cons_succ, List.replicate, Array.replicate, List.size_toArray, List.length_cons, List.length_nil]
      refine wpAnyJ_take (i := 4) (T := (fun w' => ∀ o, w'.cell? ⟨w.heap.size, o, none⟩ = #[Value.int .i64 n, .slice p ss.length c, .string se, .string re, .string ta, .string rp, .int .u64 mo][o]?)) (v := ?_) (fun j => decide (j < 10)) rfl (by kernel_rfl) (by kernel_rfl) (by kernel_rfl) (by kernel_rfl) (fun j w' hj h => h (by simpa using hj)) (fun w' h _ => h) (fun _ _ _ h => h) hcg (Or.inl ⟨by rfl, ?_⟩) ?_
      rotate_left
      · intro w' hSw
        obtain hSw := hSw
        go_simp
        try with_reducible rfl
      simp only [Act.put, List.setIfInBounds_toArray, List.set_cons_zero, List.set_cons_succ, List.getElem_toArray, List.getElem_cons_zero, List.getElem_cons_succ, List.replicate, Array.replicate, List.size_toArray, List.length_cons, List.length_nil]
      refine wpAnyJ_one (i := 2) rfl rfl (by kernel_rfl) (fun K hK => ?_)
      go_simp
      refine (HK6.out _ (SS.ex0 HS5.out (Ex.refl _ _).drew)).mono ?_
      rintro x w6 ⟨sv, rfl, hss6, hso6, hx6⟩
      obtain ⟨sp, sc, rfl⟩ := hss6.slice
      have hy6 : Ex [] w5 w6 := ((Ex.refl [] w5).drew).trans hx6
      obtain ⟨q6, hf6⟩ := (BG5.out.ex hy6 (by simp)).all
      have hsz5 : w.heap.size + 2 ≤ w5.heap.size := by have := X5.out.size; simp at this; omega
      have hsz6 := hy6.size
      have HDD := HD.out (HM.out.trans MR.out) w6 sp sc pp ((X0.out.trans X5.out).trans hy6) (by omega) hss6 (fun k hk => by have h9 : w5.heap.size ≤ k := hso6 k hk; omega) (fun h => hQ _ _ pp (HQ5.out h) hy6)
      unfold meansV at HDD
      have HDD' := hide HDD
      clear HDD
      unfold meansV
      go_wp2_with fail
      refine hK.out _ _ (fun _ => q6) ?_
      clear hK K
      simp only [Act.put, List.setIfInBounds_toArray, List.set_cons_zero, List.set_cons_succ, List.getElem_toArray, List.getElem_cons_zero, List.getElem_cons_succ]
      refine wpAnyJ_one (i := 5) rfl rfl (by kernel_rfl) (fun K hK => ?_)
      go_simp
      refine HDD'.out.mono ?_
      rintro x w7 ⟨⟨f, fa, fb, rfl, hD7⟩, hx7⟩
      have hy7 := hy6.trans hx7
      obtain ⟨q7, hf7⟩ := (BG5.out.ex hy7 (by simp)).all
      have hR7 := BR5.out.ex hy7 (by simp)
      have hst := store_func f fa fb hR7
      have HR7 := hide hR7
      have HD7 := hide hD7
      have HY7 := hide hy7
      clear hR7 hD7
      go_wp2_with fail
      refine hK.out _ _ (fun _ => q7) ?_
      clear hK K
      simp only [Act.put, List.setIfInBounds_toArray, List.set_cons_zero, List.set_cons_succ, List.getElem_toArray, List.getElem_cons_zero, List.getElem_cons_succ]
      refine wpAnyJ_one (i := 6) rfl rfl (by kernel_rfl) (fun K hK => ?_)
      go_simp
      refine hK.out _ _ (fun _ => q7) ?_
      clear hK K
      simp only [Act.put, List.setIfInBounds_toArray, List.set_cons_zero, List.set_cons_succ, List.getElem_toArray, List.getElem_cons_zero, List.getElem_cons_succ]
      have q8 : ∀ o, (w7.setCell ⟨w.heap.size + 1, 0, none⟩ (.func f fa fb)).cell? ⟨w.heap.size, o, none⟩ = #[Value.int .i64 n, .slice p ss.length c, .string se, .string re, .string ta, .string rp, .int .u64 mo][o]? := ((BG5.out.ex hy7 (by simp)).set (p := ⟨w.heap.size + 1, 0, none⟩) (by simp) _).all.1
      refine wpAnyJ_one (i := 7) rfl rfl (by kernel_rfl) (fun K hK => ?_)
      go_simp
      refine hK.out _ _ (fun _ => q8) ?_
      clear hK K
      simp only [Act.put, List.setIfInBounds_toArray, List.set_cons_zero, List.set_cons_succ, List.getElem_toArray, List.getElem_cons_zero, List.getElem_cons_succ]
      refine wpAnyJ_one (i := 8) rfl rfl (by kernel_rfl) (fun K hK => ?_)
      go_simp
      refine hK.out _ _ (fun _ => q8) ?_
      clear hK K
      simp only [Act.put, List.setIfInBounds_toArray, List.set_cons_zero, List.set_cons_succ, List.getElem_toArray, List.getElem_cons_zero, List.getElem_cons_succ]
      refine wpAnyJ_one (i := 9) rfl rfl (by kernel_rfl) (fun K hK => ?_)
      go_simp
      refine hK.out _ _ (fun _ => q8) ?_
      clear hK K
      refine wpAnyJ_done (by kernel_rfl) ?_ _
      clear hx6 hx7 hy6 hy7 q6 q7 q8 hf6 hf7 hst hss6 hso6 hcg hfg hcu hfu
      go_wp2_with fail
      have hb8 := HR7.out.self 0 (.func f fa fb)
      simp only [List.setIfInBounds_toArray, List.set_cons_zero] at hb8
      have hl8 := run_loadVar_mid (P := Tryz.prog) _ (w.heap.size + 1) 0 132 [.func f fa fb] _ (BK.rangeL (cs := [.func f fa fb]) hb8) Tryz.underlying132 rfl (by kernel_rfl)
      refine bodyPost_ret (results_cell_tmp2 rfl rfl hl8) rfl ⟨fun h0 => ?_, fun _ => ⟨f, fa, fb, rfl, HDS.out _ _ HD7.out⟩, ?_⟩
      · exact absurd (by rw [MR.out]) h0
      · exact (((X0.out.trans X5.out).trans HY7.out)).setCell (Or.inr (by simp)) _
    | true =>
      have hmo : ¬ mo = 0 := by have := HB6.out; simpa using this
      go_wp2_with fail
      refine wp_region_J (by kernel_rfl) ?_
      refine wpAny_take (i := 1) (v := ?_) rfl (by kernel_rfl) (by kernel_rfl) (by kernel_rfl) (fun _ _ _ h => h) (Or.inl ⟨by rfl, ?_⟩) ?_
      rotate_left
      · intro w'
        go_simp
        try with_reducible rfl
      simp only [Act.put, List.setIfInBounds_toArray, List.set_cons_zero, List.set_cons_succ, List.getElem_toArray, List.getElem_cons_zero, List.getElem_cons_succ, List.replicate, Array.replicate, List.size_toArray, List.length_cons, List.length_nil]
      refine wpAny_take (i := 3) (v := ?_) rfl (by kernel_rfl) (by kernel_rfl) (by kernel_rfl) (fun _ _ _ h => h) (Or.inl ⟨by rfl, ?_⟩) ?_
      rotate_left
      · intro w'
        go_simp
        try with_reducible rfl
      simp only [Act.put, List.setIfInBounds_toArray, List.set_cons_zero, List.set_cons_succ, List.getElem_toArray, List.getElem_cons_zero, List.getElem_cons_succ, List.replicate, Array.replicate, List.size_toArray, List.length_cons, List.length_nil]
      refine wpAny_of_J (S := (fun j w' => j < 10 → ∀ o, w'.cell? ⟨w.heap.size, o, none⟩ = #[Value.int .i64 n, .slice p ss.length c, .string se, .string re, .string ta, .string rp, .int .u64 mo][o]?)) _ _ _ _ ?_
      refine wpAnyJ_take (i := 0) (T := (fun w' => ∀ o, w'.cell? ⟨w.heap.size, o, none⟩ = #[Value.int .i64 n, .slice p ss.length c, .string se, .string re, .string ta, .string rp, .int .u64 mo][o]?)) (v := ?_) (fun j => decide (j < 10)) rfl (by kernel_rfl) (by kernel_rfl) (by kernel_rfl) (by kernel_rfl) (fun j w' hj h => h (by simpa using hj)) (fun w' h _ => h) (fun _ _ _ h => h) hcg (Or.inl ⟨by rfl, ?_⟩) ?_
      rotate_left
      · intro w' hSw
        obtain hSw := hSw
        go_simp
        try with_reducible rfl
      simp only [Act.put, List.setIfInBounds_toArray, List.set_cons_zero, List.set_cons_succ, List.getElem_toArray, List.getElem_cons_zero, List.getElem_cons_succ, List.replicate, Array.replicate, List.size_toArray, List.length_cons, List.length_nil]
      refine wpAnyJ_take (i := 4) (T := (fun w' => ∀ o, w'.cell? ⟨w.heap.size, o, none⟩ = #[Value.int .i64 n, .slice p ss.length c, .string se, .string re, .string ta, .string rp, .int .u64 mo][o]?)) (v := ?_) (fun j => decide (j < 10)) rfl (by kernel_rfl) (by kernel_rfl) (by kernel_rfl) (by kernel_rfl) (fun j w' hj h => h (by simpa using hj)) (fun w' h _ => h) (fun _ _ _ h => h) hcg (Or.inl ⟨by rfl, ?_⟩) ?_
      rotate_left
      · intro w' hSw
        obtain hSw := hSw
        go_simp
        try with_reducible rfl
      simp only [Act.put, List.setIfInBounds_toArray, List.set_cons_zero, List.set_cons_succ, List.getElem_toArray, List.getElem_cons_zero, List.getElem_cons_succ, List.replicate, Array.replicate, List.size_toArray, List.length_cons, List.length_nil]
      refine wpAnyJ_one (i := 2) rfl rfl (by kernel_rfl) (fun K hK => ?_)
      go_simp
      refine (HK6.out _ (SS.ex0 HS5.out (Ex.refl _ _).drew)).mono ?_
      rintro x w6 ⟨sv, rfl, hss6, hso6, hx6⟩
      obtain ⟨sp, sc, rfl⟩ := hss6.slice
      have hy6 : Ex [] w5 w6 := ((Ex.refl [] w5).drew).trans hx6
      obtain ⟨q6, hf6⟩ := (BG5.out.ex hy6 (by simp)).all
      have hsz5 : w.heap.size + 2 ≤ w5.heap.size := by have := X5.out.size; simp at this; omega
      have hsz6 := hy6.size
      have HDD := HD.out (HM.out.trans MR.out) w6 sp sc pp ((X0.out.trans X5.out).trans hy6) (by omega) hss6 (fun k hk => by have h9 : w5.heap.size ≤ k := hso6 k hk; omega) (fun h => hQ _ _ pp (HQ5.out h) hy6)
      unfold meansV at HDD
      have HDD' := hide HDD
      clear HDD
      unfold meansV
      go_wp2_with fail
      refine hK.out _ _ (fun _ => q6) ?_
      clear hK K
      simp only [Act.put, List.setIfInBounds_toArray, List.set_cons_zero, List.set_cons_succ, List.getElem_toArray, List.getElem_cons_zero, List.getElem_cons_succ]
      refine wpAnyJ_one (i := 5) rfl rfl (by kernel_rfl) (fun K hK => ?_)
      go_simp
      refine HDD'.out.mono ?_
      rintro x w7 ⟨⟨f, fa, fb, rfl, hD7⟩, hx7⟩
      have hy7 := hy6.trans hx7
      obtain ⟨q7, hf7⟩ := (BG5.out.ex hy7 (by simp)).all
      have hR7 := BR5.out.ex hy7 (by simp)
      have hst := store_func f fa fb hR7
      have HR7 := hide hR7
      have HD7 := hide hD7
      have HY7 := hide hy7
      clear hR7 hD7
      go_wp2_with fail
      refine hK.out _ _ (fun _ => q7) ?_
      clear hK K
      simp only [Act.put, List.setIfInBounds_toArray, List.set_cons_zero, List.set_cons_succ, List.getElem_toArray, List.getElem_cons_zero, List.getElem_cons_succ]
      refine wpAnyJ_one (i := 6) rfl rfl (by kernel_rfl) (fun K hK => ?_)
      go_simp
      refine hK.out _ _ (fun _ => q7) ?_
      clear hK K
      simp only [Act.put, List.setIfInBounds_toArray, List.set_cons_zero, List.set_cons_succ, List.getElem_toArray, List.getElem_cons_zero, List.getElem_cons_succ]
      have q8 : ∀ o, (w7.setCell ⟨w.heap.size + 1, 0, none⟩ (.func f fa fb)).cell? ⟨w.heap.size, o, none⟩ = #[Value.int .i64 n, .slice p ss.length c, .string se, .string re, .string ta, .string rp, .int .u64 mo][o]? := ((BG5.out.ex hy7 (by simp)).set (p := ⟨w.heap.size + 1, 0, none⟩) (by simp) _).all.1
      refine wpAnyJ_one (i := 7) rfl rfl (by kernel_rfl) (fun K hK => ?_)
      go_simp
      refine hK.out _ _ (fun _ => q8) ?_
      clear hK K
      simp only [Act.put, List.setIfInBounds_toArray, List.set_cons_zero, List.set_cons_succ, List.getElem_toArray, List.getElem_cons_zero, List.getElem_cons_succ]
      refine wpAnyJ_one (i := 8) rfl rfl (by kernel_rfl) (fun K hK => ?_)
      go_simp
      refine hK.out _ _ (fun _ => q8) ?_
      clear hK K
      simp only [Act.put, List.setIfInBounds_toArray, List.set_cons_zero, List.set_cons_succ, List.getElem_toArray, List.getElem_cons_zero, List.getElem_cons_succ]
      refine wpAnyJ_one (i := 9) rfl rfl (by kernel_rfl) (fun K hK => ?_)
      go_simp
      refine hK.out _ _ (fun _ => q8) ?_
      clear hK K
      refine wpAnyJ_done (by kernel_rfl) ?_ _
      clear hx6 hx7 hy6 hy7 q6 q7 q8 hf6 hf7 hst hss6 hso6 hcg hfg hcu hfu
      go_wp2_with fail
      have hb8 := HR7.out.self 0 (.func f fa fb)
      simp only [List.setIfInBounds_toArray, List.set_cons_zero] at hb8
      have hl8 := run_loadVar_mid (P := Tryz.prog) _ (w.heap.size + 1) 0 132 [.func f fa fb] _ (BK.rangeL (cs := [.func f fa fb]) hb8) Tryz.underlying132 rfl (by kernel_rfl)
      refine bodyPost_ret (results_cell_tmp2 rfl rfl hl8) rfl ⟨fun h0 => ?_, fun _ => ⟨f, fa, fb, rfl, HDS.out _ _ HD7.out⟩, ?_⟩
      · exact absurd (by rw [MR.out]) h0
      · exact (((X0.out.trans X5.out).trans HY7.out)).setCell (Or.inr (by simp)) _
  | false =>
    have Q4 : Hid ((false && !targetB (n : Int) ta) = false) := rfl
    have X4 := X3
    have HQ4 := HQ3
    have K5 := fun w' => hasUnused_any n p ss.length c se re ta rp mo ⟨ux, ur, false, up, um⟩ w'
    unfold ruleV useV at K5
    simp only at K5
    have HK5 := hide K5
    clear K5
    go_wp2_with fail
    refine (HK5.out _).mono ?_
    rintro x w5 ⟨rfl, hx⟩
    clear hcg hfg hlg hcu hfu hlu
    have X5 := hide (X4.out.trans hx)
    have HQ5 := hide (fun h => hQ _ _ pp (HQ4.out h) hx)
    clear hx
    obtain ⟨hcg, hfg⟩ := (BG.out.ex X5.out (by simp)).all
    have hlg := (BG.out.ex X5.out (by simp)).lt
    obtain ⟨hcu, hfu⟩ := (BU.out.ex X5.out (by simp)).all
    have hlu := (BU.out.ex X5.out (by simp)).lt
    cases hB5 : unusedB ss.length se re ta rp mo ⟨ux, ur, false, up, um⟩ with
    | true =>
      have Q5 := hide hB5
      clear hB5
      have MR : Hid (M = (6, 0)) := by show M = _; rw [← HM.out]; simp only [makeR, unhide Q1, unhide Q2, unhide Q3, unhide Q4, unhide Q5, Bool.false_eq_true, if_false, Bool.not_true, if_true] <;> rfl
      have hR := BR.out.ex X5.out (by simp)
      have hst := store_nilFunc hR
      have HRr := hide hR
      clear hR
      go_wp2_with fail
      have hb := HRr.out.self 0 .nilFunc
      simp only [List.setIfInBounds_toArray, List.set_cons_zero] at hb
      have hl3 := run_loadVar_mid (P := Tryz.prog) _ (w.heap.size + 1) 0 132 [.nilFunc] _ (BK.rangeL (cs := [.nilFunc]) hb) Tryz.underlying132 rfl (by kernel_rfl)
      refine bodyPost_ret (results_cell_tmp2 rfl rfl hl3) rfl ⟨fun _ => ?_, fun h0 => ?_, ?_⟩
      · rw [MR.out]; rfl
      · rw [MR.out] at h0; cases h0
      · exact (X0.out.trans X5.out).setCell (Or.inr (by simp)) _
    | false =>
    have Q5 := hide hB5
    clear hB5
    cases hB6 : (um && mo == 0) with
    | true =>
      have Q6 := hide hB6
      simp only [Bool.and_eq_true, beq_iff_eq] at hB6
      obtain ⟨rfl, rfl⟩ := hB6
      have MR : Hid (M = (7, 0)) := by show M = _; rw [← HM.out]; simp only [makeR, unhide Q1, unhide Q2, unhide Q3, unhide Q4, unhide Q5, unhide Q6, Bool.false_eq_true, if_false, Bool.not_true, if_true] <;> rfl
      have hR := BR.out.ex X5.out (by simp)
      have hst := store_nilFunc hR
      have HRr := hide hR
      clear hR
      go_wp2_with fail
      have hb := HRr.out.self 0 .nilFunc
      simp only [List.setIfInBounds_toArray, List.set_cons_zero] at hb
      have hl3 := run_loadVar_mid (P := Tryz.prog) _ (w.heap.size + 1) 0 132 [.nilFunc] _ (BK.rangeL (cs := [.nilFunc]) hb) Tryz.underlying132 rfl (by kernel_rfl)
      refine bodyPost_ret (results_cell_tmp2 rfl rfl hl3) rfl ⟨fun _ => ?_, fun h0 => ?_, ?_⟩
      · rw [MR.out]; rfl
      · rw [MR.out] at h0; cases h0
      · exact (X0.out.trans X5.out).setCell (Or.inr (by simp)) _
    | false =>
    have MR : Hid (M = (0, 0)) := by show M = _; rw [← HM.out]; simp only [makeR, unhide Q1, unhide Q2, unhide Q3, unhide Q4, unhide Q5, hB6, Bool.false_eq_true, if_false, Bool.not_true]
    have K6 := fun w' hv' => meansOf_any n (.slice p ss.length c) ss se re ta rp mo pp w' hv' hn HZ.out hse hta hrp
    unfold ruleV at K6
    have HK6 := hide K6
    have HS5 := hide (HV.out.ex0 (X0.out.trans X5.out))
    have BR5 := hide (BR.out.ex X5.out (by simp))
    have BG5 := hide (BG.out.ex X5.out (by simp))
    clear K6
    have HB6 := hide hB6
    clear hB6
    cases um with
    | false =>
      go_wp2_with fail
      refine wp_region_J (by kernel_rfl) ?_
      refine wpAny_take (i := 1) (v := ?_) rfl (by kernel_rfl) (by kernel_rfl) (by kernel_rfl) (fun _ _ _ h => h) (Or.inl ⟨by rfl, ?_⟩) ?_
      rotate_left
      · intro w'
        go_simp
        try with_reducible rfl
      simp only [Act.put, List.setIfInBounds_toArray, List.set_cons_zero, List.set_cons_succ, List.getElem_toArray, List.getElem_cons_zero, List.getElem_cons_succ, List.replicate, Array.replicate, List.size_toArray, List.length_cons, List.length_nil]
      refine wpAny_take (i := 3) (v := ?_) rfl (by kernel_rfl) (by kernel_rfl) (by kernel_rfl) (fun _ _ _ h => h) (Or.inl ⟨by rfl, ?_⟩) ?_
      rotate_left
      · intro w'
        go_simp
        try with_reducible rfl
      simp only [Act.put, List.setIfInBounds_toArray, List.set_cons_zero, List.set_cons_succ, List.getElem_toArray, List.getElem_cons_zero, List.getElem_cons_succ, List.replicate, Array.replicate, List.size_toArray, List.length_cons, List.length_nil]
      refine wpAny_of_J (S := (fun j w' => j < 10 → ∀ o, w'.cell? ⟨w.heap.size, o, none⟩ = #[Value.int .i64 n, .slice p ss.length c, .string se, .string re, .string ta, .string rp, .int .u64 mo][o]?)) _ _ _ _ ?_
      refine wpAnyJ_take (i := 0) (T := (fun w' => ∀ o, w'.cell? ⟨w.heap.size, o, none⟩ = #[Value.int .i64 n, .slice p ss.length c, .string se, .string re, .string ta, .string rp, .int .u64 mo][o]?)) (v := ?_) (fun j => decide (j < 10)) rfl (by kernel_rfl) (by kernel_rfl) (by kernel_rfl) (by kernel_rfl) (fun j w' hj h => h (by simpa using hj)) (fun w' h _ => h) (fun _ _ _ h => h) hcg (Or.inl ⟨by rfl, ?_⟩) ?_
      rotate_left
      · intro w' hSw
        obtain hSw := hSw
        go_simp
        try with_reducible rfl
      simp only [Act.put, List.setIfInBounds_toArray, List.set_cons_zero, List.set_cons_succ, List.getElem_toArray, List.getElem_cons_zero, List.getElem_cons_succ, List.replicate, Array.replicate, List.size_toArray, List.length_cons, List.length_nil]
      refine wpAnyJ_take (i := 4) (T := (fun w' => ∀ o, w'.cell? ⟨w.heap.size, o, none⟩ = #[Value.int .i64 n, .slice p ss.length c, .string se, .string re, .string ta, .string rp, .int .u64 mo][o]?)) (v := ?_) (fun j => decide (j < 10)) rfl (by kernel_rfl) (by kernel_rfl) (by kernel_rfl) (by kernel_rfl) (fun j w' hj h => h (by simpa using hj)) (fun w' h _ => h) (fun _ _ _ h => h) hcg (Or.inl ⟨by rfl, ?_⟩) ?_
      rotate_left
      · intro w' hSw
        obtain hSw := hSw
        go_simp
        try with_reducible rfl
      simp only [Act.put, List.setIfInBounds_toArray, List.set_cons_zero, List.set_cons_succ, List.getElem_toArray, List.getElem_cons_zero, List.getElem_cons_succ, List.replicate, Array.replicate, List.size_toArray, List.length_cons, List.length_nil]
      refine wpAnyJ_one (i := 2) rfl rfl (by kernel_rfl) (fun K hK => ?_)
      go_simp
      refine (HK6.out _ (SS.ex0 HS5.out (Ex.refl _ _).drew)).mono ?_
      rintro x w6 ⟨sv, rfl, hss6, hso6, hx6⟩
      obtain ⟨sp, sc, rfl⟩ := hss6.slice
      have hy6 : Ex [] w5 w6 := ((Ex.refl [] w5).drew).trans hx6
      obtain ⟨q6, hf6⟩ := (BG5.out.ex hy6 (by simp)).all
      have hsz5 : w.heap.size + 2 ≤ w5.heap.size := by have := X5.out.size; simp at this; omega
      have hsz6 := hy6.size
      have HDD := HD.out (HM.out.trans MR.out) w6 sp sc pp ((X0.out.trans X5.out).trans hy6) (by omega) hss6 (fun k hk => by have h9 : w5.heap.size ≤ k := hso6 k hk; omega) (fun h => hQ _ _ pp (HQ5.out h) hy6)
      unfold meansV at HDD
      have HDD' := hide HDD
      clear HDD
      unfold meansV
      go_wp2_with fail
      refine hK.out _ _ (fun _ => q6) ?_
      clear hK K
      simp only [Act.put, List.setIfInBounds_toArray, List.set_cons_zero, List.set_cons_succ, List.getElem_toArray, List.getElem_cons_zero, List.getElem_cons_succ]
      refine wpAnyJ_one (i := 5) rfl rfl (by kernel_rfl) (fun K hK => ?_)
      go_simp
      refine HDD'.out.mono ?_
      rintro x w7 ⟨⟨f, fa, fb, rfl, hD7⟩, hx7⟩
      have hy7 := hy6.trans hx7
      obtain ⟨q7, hf7⟩ := (BG5.out.ex hy7 (by simp)).all
      have hR7 := BR5.out.ex hy7 (by simp)
      have hst := store_func f fa fb hR7
      have HR7 := hide hR7
      have HD7 := hide hD7
      have HY7 := hide hy7
      clear hR7 hD7
      go_wp2_with fail
      refine hK.out _ _ (fun _ => q7) ?_
      clear hK K
      simp only [Act.put, List.setIfInBounds_toArray, List.set_cons_zero, List.set_cons_succ, List.getElem_toArray, List.getElem_cons_zero, List.getElem_cons_succ]
      refine wpAnyJ_one (i := 6) rfl rfl (by kernel_rfl) (fun K hK => ?_)
      go_simp
      refine hK.out _ _ (fun _ => q7) ?_
      clear hK K
      simp only [Act.put, List.setIfInBounds_toArray, List.set_cons_zero, List.set_cons_succ, List.getElem_toArray, List.getElem_cons_zero, List.getElem_cons_succ]
      have q8 : ∀ o, (w7.setCell ⟨w.heap.size + 1, 0, none⟩ (.func f fa fb)).cell? ⟨w.heap.size, o, none⟩ = #[Value.int .i64 n, .slice p ss.length c, .string se, .string re, .string ta, .string rp, .int .u64 mo][o]? := ((BG5.out.ex hy7 (by simp)).set (p := ⟨w.heap.size + 1, 0, none⟩) (by simp) _).all.1
      refine wpAnyJ_one (i := 7) rfl rfl (by kernel_rfl) (fun K hK => ?_)
      go_simp
      refine hK.out _ _ (fun _ => q8) ?_
      clear hK K
      simp only [Act.put, List.setIfInBounds_toArray, List.set_cons_zero, List.set_cons_succ, List.getElem_toArray, List.getElem_cons_zero, List.getElem_cons_succ]
      refine wpAnyJ_one (i := 8) rfl rfl (by kernel_rfl) (fun K hK => ?_)
      go_simp
      refine hK.out _ _ (fun _ => q8) ?_
      clear hK K
      simp only [Act.put, List.setIfInBounds_toArray, List.set_cons_zero, List.set_cons_succ, List.getElem_toArray, List.getElem_cons_zero, List.getElem_cons_succ]
      refine wpAnyJ_one (i := 9) rfl rfl (by kernel_rfl) (fun K hK => ?_)
      go_simp
      refine hK.out _ _ (fun _ => q8) ?_
      clear hK K
      refine wpAnyJ_done (by kernel_rfl) ?_ _
      clear hx6 hx7 hy6 hy7 q6 q7 q8 hf6 hf7 hst hss6 hso6 hcg hfg hcu hfu
      go_wp2_with fail
      have hb8 := HR7.out.self 0 (.func f fa fb)
      simp only [List.setIfInBounds_toArray, List.set_cons_zero] at hb8
      have hl8 := run_loadVar_mid (P := Tryz.prog) _ (w.heap.size + 1) 0 132 [.func f fa fb] _ (BK.rangeL (cs := [.func f fa fb]) hb8) Tryz.underlying132 rfl (by kernel_rfl)
      refine bodyPost_ret (results_cell_tmp2 rfl rfl hl8) rfl ⟨fun h0 => ?_, fun _ => ⟨f, fa, fb, rfl, HDS.out _ _ HD7.out⟩, ?_⟩
      · exact absurd (by rw [MR.out]) h0
      · exact (((X0.out.trans X5.out).trans HY7.out)).setCell (Or.inr (by simp)) _
    | true =>
      have hmo : ¬ mo = 0 := by have := HB6.out; simpa using this
      go_wp2_with fail
      refine wp_region_J (by kernel_rfl) ?_
      refine wpAny_take (i := 1) (v := ?_) rfl (by kernel_rfl) (by kernel_rfl) (by kernel_rfl) (fun _ _ _ h => h) (Or.inl ⟨by rfl, ?_⟩) ?_
      rotate_left
      · intro w'
        go_simp
        try with_reducible rfl
      simp only [Act.put, List.setIfInBounds_toArray, List.set_cons_zero, List.set_cons_succ, List.getElem_toArray, List.getElem_cons_zero, List.getElem_cons_succ, List.replicate, Array.replicate, List.size_toArray, List.length_cons, List.length_nil]
      refine wpAny_take (i := 3) (v := ?_) rfl (by kernel_rfl) (by kernel_rfl) (by kernel_rfl) (fun _ _ _ h => h) (Or.inl ⟨by rfl, ?_⟩) ?_
      rotate_left
      · intro w'
        go_simp
        try with_reducible rfl
      simp only [Act.put, List.setIfInBounds_toArray, List.set_cons_zero, List.set_cons_succ, List.getElem_toArray, List.getElem_cons_zero, List.getElem_cons_succ, List.replicate, Array.replicate, List.size_toArray, List.length_cons, List.length_nil]
      refine wpAny_of_J (S := (fun j w' => j < 10 → ∀ o, w'.cell? ⟨w.heap.size, o, none⟩ = #[Value.int .i64 n, .slice p ss.length c, .string se, .string re, .string ta, .string rp, .int .u64 mo][o]?)) _ _ _ _ ?_
      refine wpAnyJ_take (i := 0) (T := (fun w' => ∀ o, w'.cell? ⟨w.heap.size, o, none⟩ = #[Value.int .i64 n, .slice p ss.length c, .string se, .string re, .string ta, .string rp, .int .u64 mo][o]?)) (v := ?_) (fun j => decide (j < 10)) rfl (by kernel_rfl) (by kernel_rfl) (by kernel_rfl) (by kernel_rfl) (fun j w' hj h => h (by simpa using hj)) (fun w' h _ => h) (fun _ _ _ h => h) hcg (Or.inl ⟨by rfl, ?_⟩) ?_
      rotate_left
      · intro w' hSw
        obtain hSw := hSw
        go_simp
        try with_reducible rfl
      simp only [Act.put, List.setIfInBounds_toArray, List.set_cons_zero, List.set_cons_succ, List.getElem_toArray, List.getElem_cons_zero, List.getElem_cons_succ, List.replicate, Array.replicate, List.size_toArray, List.length_cons, List.length_nil]
      refine wpAnyJ_take (i := 4) (T := (fun w' => ∀ o, w'.cell? ⟨w.heap.size, o, none⟩ = #[Value.int .i64 n, .slice p ss.length c, .string se, .string re, .string ta, .string rp, .int .u64 mo][o]?)) (v := ?_) (fun j => decide (j < 10)) rfl (by kernel_rfl) (by kernel_rfl) (by kernel_rfl) (by kernel_rfl) (fun j w' hj h => h (by simpa using hj)) (fun w' h _ => h) (fun _ _ _ h => h) hcg (Or.inl ⟨by rfl, ?_⟩) ?_
      rotate_left
      · intro w' hSw
        obtain hSw := hSw
        go_simp
        try with_reducible rfl
      simp only [Act.put, List.setIfInBounds_toArray, List.set_cons_zero, List.set_cons_succ, List.getElem_toArray, List.getElem_cons_zero, List.getElem_cons_succ, List.replicate, Array.replicate, List.size_toArray, List.length_cons, List.length_nil]
      refine wpAnyJ_one (i := 2) rfl rfl (by kernel_rfl) (fun K hK => ?_)
      go_simp
      refine (HK6.out _ (SS.ex0 HS5.out (Ex.refl _ _).drew)).mono ?_
      rintro x w6 ⟨sv, rfl, hss6, hso6, hx6⟩
      obtain ⟨sp, sc, rfl⟩ := hss6.slice
      have hy6 : Ex [] w5 w6 := ((Ex.refl [] w5).drew).trans hx6
      obtain ⟨q6, hf6⟩ := (BG5.out.ex hy6 (by simp)).all
      have hsz5 : w.heap.size + 2 ≤ w5.heap.size := by have := X5.out.size; simp at this; omega
      have hsz6 := hy6.size
      have HDD := HD.out (HM.out.trans MR.out) w6 sp sc pp ((X0.out.trans X5.out).trans hy6) (by omega) hss6 (fun k hk => by have h9 : w5.heap.size ≤ k := hso6 k hk; omega) (fun h => hQ _ _ pp (HQ5.out h) hy6)
      unfold meansV at HDD
      have HDD' := hide HDD
      clear HDD
      unfold meansV
      go_wp2_with fail
      refine hK.out _ _ (fun _ => q6) ?_
      clear hK K
      simp only [Act.put, List.setIfInBounds_toArray, List.set_cons_zero, List.set_cons_succ, List.getElem_toArray, List.getElem_cons_zero, List.getElem_cons_succ]
      refine wpAnyJ_one (i := 5) rfl rfl (by kernel_rfl) (fun K hK => ?_)
      go_simp
      refine HDD'.out.mono ?_
      rintro x w7 ⟨⟨f, fa, fb, rfl, hD7⟩, hx7⟩
      have hy7 := hy6.trans hx7
      obtain ⟨q7, hf7⟩ := (BG5.out.ex hy7 (by simp)).all
      have hR7 := BR5.out.ex hy7 (by simp)
      have hst := store_func f fa fb hR7
      have HR7 := hide hR7
      have HD7 := hide hD7
      have HY7 := hide hy7
      clear hR7 hD7
      go_wp2_with fail
      refine hK.out _ _ (fun _ => q7) ?_
      clear hK K
      simp only [Act.put, List.setIfInBounds_toArray, List.set_cons_zero, List.set_cons_succ, List.getElem_toArray, List.getElem_cons_zero, List.getElem_cons_succ]
      refine wpAnyJ_one (i := 6) rfl rfl (by kernel_rfl) (fun K hK => ?_)
      go_simp
      refine hK.out _ _ (fun _ => q7) ?_
      clear hK K
      simp only [Act.put, List.setIfInBounds_toArray, List.set_cons_zero, List.set_cons_succ, List.getElem_toArray, List.getElem_cons_zero, List.getElem_cons_succ]
      have q8 : ∀ o, (w7.setCell ⟨w.heap.size + 1, 0, none⟩ (.func f fa fb)).cell? ⟨w.heap.size, o, none⟩ = #[Value.int .i64 n, .slice p ss.length c, .string se, .string re, .string ta, .string rp, .int .u64 mo][o]? := ((BG5.out.ex hy7 (by simp)).set (p := ⟨w.heap.size + 1, 0, none⟩) (by simp) _).all.1
      refine wpAnyJ_one (i := 7) rfl rfl (by kernel_rfl) (fun K hK => ?_)
      go_simp
      refine hK.out _ _ (fun _ => q8) ?_
      clear hK K
      simp only [Act.put, List.setIfInBounds_toArray, List.set_cons_zero, List.set_cons_succ, List.getElem_toArray, List.getElem_cons_zero, List.getElem_cons_succ]
      refine wpAnyJ_one (i := 8) rfl rfl (by kernel_rfl) (fun K hK => ?_)
      go_simp
      refine hK.out _ _ (fun _ => q8) ?_
      clear hK K
      simp only [Act.put, List.setIfInBounds_toArray, List.set_cons_zero, List.set_cons_succ, List.getElem_toArray, List.getElem_cons_zero, List.getElem_cons_succ]
      refine wpAnyJ_one (i := 9) rfl rfl (by kernel_rfl) (fun K hK => ?_)
      go_simp
      refine hK.out _ _ (fun _ => q8) ?_
      clear hK K
      refine wpAnyJ_done (by kernel_rfl) ?_ _
      clear hx6 hx7 hy6 hy7 q6 q7 q8 hf6 hf7 hst hss6 hso6 hcg hfg hcu hfu
      go_wp2_with fail
      have hb8 := HR7.out.self 0 (.func f fa fb)
      simp only [List.setIfInBounds_toArray, List.set_cons_zero] at hb8
      have hl8 := run_loadVar_mid (P := Tryz.prog) _ (w.heap.size + 1) 0 132 [.func f fa fb] _ (BK.rangeL (cs := [.func f fa fb]) hb8) Tryz.underlying132 rfl (by kernel_rfl)
      refine bodyPost_ret (results_cell_tmp2 rfl rfl hl8) rfl ⟨fun h0 => ?_, fun _ => ⟨f, fa, fb, rfl, HDS.out _ _ HD7.out⟩, ?_⟩
      · exact absurd (by rw [MR.out]) h0
      · exact (((X0.out.trans X5.out).trans HY7.out)).setCell (Or.inr (by simp)) _
end Go.Proofs.YtcbiidoebpkifaaGreatDoor.G
