/- A rule, whatever it is: what Make makes of it. -/
import Derived.Test.YtgmjjhmnchefbaaGreatDoorM22
import Derived.Test.YtgmjjhmnchefbaaGreatDoorM21
set_option linter.unusedVariables false
set_option linter.unusedSimpArgs false
namespace Go.Proofs.YtgmjjhmnchefbaaGreatDoor
open Go.RowKit

set_option maxHeartbeats 1000000 in
set_option maxRecDepth 100000 in
theorem isBig_all (a : Int) (so : Value) (ss : List ByteArray) (se re ta rp : ByteArray) (mo : Int) (w : World) (hv : SS w so ss) :
    Calls Tryz.prog 56 #[ruleV a so se re ta rp mo] w fun x w' => x = .returned (.bool (bigB ss se ta rp)) ∧ Ex [] w w' := by
  unfold ruleV bigB
  have HV := hide hv
  obtain ⟨p, c, rfl⟩ := hv.slice
  clear hv
  obtain ⟨w1, hw1⟩ : ∃ w1, w1 = (w.alloc (Obj.cells #[.int .i64 a, .slice p ss.length c, .string se, .string re, .string ta, .string rp, .int .u64 mo] 118)) := ⟨_, rfl⟩
  have hb : BK w1 w.heap.size (.cells #[.int .i64 a, .slice p ss.length c, .string se, .string re, .string ta, .string rp, .int .u64 mo] 118 (0, 0)) := by rw [hw1]; exact BK.new _ _
  have hx1 : Ex [] w w1 := by rw [hw1]; exact (Ex.refl _ _).alloc _
  by_cases h5 : 5 < ss.length
  · have h5' : ((ss.length : Int) > 5) := by omega
    go_enter Tryz.func56, Tryz.ntmps56
    go_wp2_with fail
    go_ret
    exact ⟨by simp [h5], (Ex.refl _ _).alloc _⟩
  have h5' : ¬ ((ss.length : Int) > 5) := by omega
  have hd5 : decide (5 < ss.length) = false := by simp; omega
  have HD5 := hide hd5
  have HX1 := hide hx1
  have HB := hide hb
  have HW := hide hw1
  clear hb hx1 hw1 hd5
  go_enter Tryz.func56, Tryz.ntmps56
  go_wp2_with fail
  rw [← unhide HW]
  refine (containsLong _ ss _ (HV.out.ex0 HX1.out) (by omega)).mono ?_
  rintro x w2 ⟨rfl, hx2⟩
  have hb2 := HB.out.ex hx2 (by simp)
  obtain ⟨hc, hf⟩ := hb2.all
  have hl := hb2.lt
  have HX2 := hide (HX1.out.trans hx2)
  clear hx2 hb2
  cases h1 : ss.any longB with
  | true =>
    have H1 := hide h1
    clear h1
    go_wp2_with fail
    go_ret
    exact ⟨by simp [unhide H1], HX2.out⟩
  | false =>
    have H1 := hide h1
    clear h1
    go_wp2_with fail
    refine (isLong_any se _).mono ?_
    rintro x w3 ⟨rfl, hx3⟩
    subst hx3
    cases h2 : longB se with
    | true =>
      have H2 := hide h2
      clear h2
      go_wp2_with fail
      go_ret
      exact ⟨by simp [unhide H2], HX2.out⟩
    | false =>
      have H2 := hide h2
      clear h2
      go_wp2_with fail
      refine (isLong_any ta _).mono ?_
      rintro x w3 ⟨rfl, hx3⟩
      subst hx3
      cases h3 : longB ta with
      | true =>
        have H3 := hide h3
        clear h3
        go_wp2_with fail
        go_ret
        exact ⟨by simp [unhide H3], HX2.out⟩
      | false =>
        have H3 := hide h3
        clear h3
        go_wp2_with fail
        refine (isLong_any rp _).mono ?_
        rintro x w3 ⟨rfl, hx3⟩
        subst hx3
        go_wp2_with fail
        go_ret
        exact ⟨by simp [unhide H3, unhide H2, unhide H1, unhide HD5], HX2.out⟩

set_option maxHeartbeats 4000000 in
set_option maxRecDepth 100000 in
theorem make_all0 (n : Nat) (u : Use) (hu : usesL[n]? = some u) (p : Option Addr) (c : Nat) (ss : List ByteArray) (se re ta rp : ByteArray) (mo : Int) (ok : Bool) (pl : Nat) (w : World) (D : World → Value → Prop)
    (hub : UB w) (hv : SS w (.slice p ss.length c) ss) (hz : ∀ s ∈ ss, s.size ≤ 281474976710656) (hse : se.size ≤ 281474976710656) (hta : ta.size ≤ 281474976710656) (hrp : rp.size ≤ 281474976710656) (hr : u.regex = true → ReadsTo w re ok pl)
    (hd : makeR n ss se re ta rp mo u ok pl = (0, 0) → ∀ w1 sp sc pp, Ex [] w w1 → w.heap.size + 2 ≤ w1.heap.size → SS w1 (.slice sp ss.length sc) ss → (∀ k, (Value.slice sp ss.length sc).ownBlock = some k → w.heap.size + 2 ≤ k) → Calls Tryz.prog 62 #[meansV (.slice sp ss.length sc) se (.pointer pp) ta rp mo, .int .i64 n] w1 fun x w2 => (∃ f a b, x = .returned (.func f a b) ∧ D w2 (.func f a b)) ∧ Ex [] w1 w2)
    (hDs : ∀ w2 fv, D w2 fv → D (w2.setCell ⟨w.heap.size + 1, 0, none⟩ fv) fv) :
    Calls Tryz.prog 38 #[ruleV n (.slice p ss.length c) se re ta rp mo] w fun x w' =>
      ((makeR n ss se re ta rp mo u ok pl).1 ≠ 0 → x = .returned (.tuple #[.agg #[.nilFunc], .int .i64 ((makeR n ss se re ta rp mo u ok pl).1 : Int), .int .i64 ((makeR n ss se re ta rp mo u ok pl).2 : Int)])) ∧
      ((makeR n ss se re ta rp mo u ok pl).1 = 0 → ∃ f a b, x = .returned (.tuple #[.agg #[.func f a b], .int .i64 0, .int .i64 0]) ∧ D w' (.func f a b)) ∧ Ex [] w w' := by
  have hn11 : n < 11 := (List.getElem?_eq_some_iff.1 hu).1
  obtain ⟨ux, ur, ug, up, um⟩ := u
  obtain ⟨M, hM⟩ : ∃ M, makeR n ss se re ta rp mo ⟨ux, ur, ug, up, um⟩ ok pl = M := ⟨_, rfl⟩
  have HM := hide hM
  have HD := hide hd
  rw [hM]
  have X0 : Hid (Ex [] w (((w.alloc (Obj.cells #[.int .i64 n, .slice p ss.length c, .string se, .string re, .string ta, .string rp, .int .u64 mo] 118)).alloc (Obj.cells #[.nilFunc] 122)).alloc (Obj.cells #[.bool ux, .bool ur, .bool ug, .bool up, .bool um] 163))) := (((Ex.refl _ _).alloc _).alloc _).alloc _
  have BG : Hid (BK (((w.alloc (Obj.cells #[.int .i64 n, .slice p ss.length c, .string se, .string re, .string ta, .string rp, .int .u64 mo] 118)).alloc (Obj.cells #[.nilFunc] 122)).alloc (Obj.cells #[.bool ux, .bool ur, .bool ug, .bool up, .bool um] 163)) w.heap.size (.cells #[.int .i64 n, .slice p ss.length c, .string se, .string re, .string ta, .string rp, .int .u64 mo] 118 (0, 0))) := ((BK.new _ _).alloc _).alloc _
  have BR : Hid (BK (((w.alloc (Obj.cells #[.int .i64 n, .slice p ss.length c, .string se, .string re, .string ta, .string rp, .int .u64 mo] 118)).alloc (Obj.cells #[.nilFunc] 122)).alloc (Obj.cells #[.bool ux, .bool ur, .bool ug, .bool up, .bool um] 163)) (w.heap.size + 1) (.cells #[.nilFunc] 122 (0, 0))) := by
    have h := (BK.new (w.alloc (Obj.cells #[.int .i64 n, .slice p ss.length c, .string se, .string re, .string ta, .string rp, .int .u64 mo] 118)) (Obj.cells #[.nilFunc] 122)).alloc (Obj.cells #[.bool ux, .bool ur, .bool ug, .bool up, .bool um] 163)
    simp only [World.size_alloc] at h
    exact h
  have BU : Hid (BK (((w.alloc (Obj.cells #[.int .i64 n, .slice p ss.length c, .string se, .string re, .string ta, .string rp, .int .u64 mo] 118)).alloc (Obj.cells #[.nilFunc] 122)).alloc (Obj.cells #[.bool ux, .bool ur, .bool ug, .bool up, .bool um] 163)) (w.heap.size + 1 + 1) (.cells #[.bool ux, .bool ur, .bool ug, .bool up, .bool um] 163 (0, 0))) := by
    have h := BK.new ((w.alloc (Obj.cells #[.int .i64 n, .slice p ss.length c, .string se, .string re, .string ta, .string rp, .int .u64 mo] 118)).alloc (Obj.cells #[.nilFunc] 122)) (Obj.cells #[.bool ux, .bool ur, .bool ug, .bool up, .bool um] 163)
    simp only [World.size_alloc] at h
    exact h
  have hub1 := (hub.ex (((Ex.refl [] w).alloc (Obj.cells #[.int .i64 n, .slice p ss.length c, .string se, .string re, .string ta, .string rp, .int .u64 mo] 118)).alloc (Obj.cells #[.nilFunc] 122)) (by simp)).2 n ⟨ux, ur, ug, up, um⟩ hu
  have HUB := hide hub1
  have HISZ : Hid ((Tryz.prog.info? 163).map (·.size) = some (Use.cells ⟨ux, ur, ug, up, um⟩).length) := by show (Tryz.prog.info? 163).map (·.size) = some 5; kernel_rfl
  have HV := hide hv
  have HZ := hide hz
  have HRD := hide hr
  have HDS := hide hDs
  clear hM hd hub hub1 hv hz hr hDs hu
  unfold ruleV
  go_enter Tryz.func38, Tryz.ntmps38
  go_wp2_with fail
  refine (isAction_yes n _ hn11).mono ?_
  rintro x w1 ⟨rfl, rfl⟩
  have hn11' : (n : Int) < 11 := by omega
  unfold Use.cells at HUB HISZ
  simp only at HUB HISZ HRD
  go_wp2_with (refine wpList_load_mid rfl 163 _ rfl 1 (n * 5) (by simp [Act.eval, Act.put]) [.bool ux, .bool ur, .bool ug, .bool up, .bool um] _ HUB.out Tryz.underlying163 rfl HISZ.out ?_)
  have K1 := isBig_all n (.slice p ss.length c) ss se re ta rp mo (((w.alloc (Obj.cells #[.int .i64 n, .slice p ss.length c, .string se, .string re, .string ta, .string rp, .int .u64 mo] 118)).alloc (Obj.cells #[.nilFunc] 122)).alloc (Obj.cells #[.bool ux, .bool ur, .bool ug, .bool up, .bool um] 163)) (HV.out.ex0 X0.out)
  unfold ruleV at K1
  refine K1.mono ?_
  clear K1
  rintro x w1 ⟨rfl, hx⟩
  have X1 : Hid (Ex [] (((w.alloc (Obj.cells #[.int .i64 n, .slice p ss.length c, .string se, .string re, .string ta, .string rp, .int .u64 mo] 118)).alloc (Obj.cells #[.nilFunc] 122)).alloc (Obj.cells #[.bool ux, .bool ur, .bool ug, .bool up, .bool um] 163)) w1) := hx
  clear hx
  obtain ⟨hcg, hfg⟩ := (BG.out.ex X1.out (by simp)).all
  have hlg := (BG.out.ex X1.out (by simp)).lt
  cases hB1 : bigB ss se ta rp with
  | true =>
    have Q1 := hide hB1
    clear hB1
    have MR : Hid (M = (2, 0)) := by show M = _; rw [← HM.out]; simp only [makeR, unhide Q1, if_true] <;> rfl
    have hR := BR.out.ex X1.out (by simp)
    have hst := store_nilFunc hR
    have HRr := hide hR
    clear hR
    go_wp2_with fail
    have hb := HRr.out.self 0 .nilFunc
    simp only [List.setIfInBounds_toArray, List.set_cons_zero] at hb
    have hl3 := run_loadVar_mid (P := Tryz.prog) _ (w.heap.size + 1) 0 122 [.nilFunc] _ (BK.rangeL (cs := [.nilFunc]) hb) Tryz.underlying122 rfl (by kernel_rfl)
    refine bodyPost_ret (results_cell_tmp2 rfl rfl hl3) rfl ⟨fun _ => ?_, fun h0 => ?_, ?_⟩
    · rw [MR.out]; rfl
    · rw [MR.out] at h0; cases h0
    · exact (X0.out.trans X1.out).setCell (Or.inr (by simp)) _
  | false =>
  have hn : ss.length ≤ 1000 := by
    have h9 : decide (5 < ss.length) = false := by unfold bigB at hB1; simp only [Bool.or_eq_false_iff] at hB1; exact hB1.1.1.1.1
    have := of_decide_eq_false h9
    omega
  have Q1 := hide hB1
  clear hB1
  go_wp2_with fail
  refine (areNames_any (.slice p ss.length c) ss w1 (HV.out.ex0 (X0.out.trans X1.out)) hn (fun s hs => by have := HZ.out s hs; unfold maxLen; omega)).mono ?_
  rintro x w2 ⟨rfl, hx⟩
  clear hcg hfg hlg
  have X2 := hide (X1.out.trans hx)
  clear hx
  obtain ⟨hcg, hfg⟩ := (BG.out.ex X2.out (by simp)).all
  have hlg := (BG.out.ex X2.out (by simp)).lt
  obtain ⟨hcu, hfu⟩ := (BU.out.ex X2.out (by simp)).all
  have hlu := (BU.out.ex X2.out (by simp)).lt
  cases hB2 : ss.all nameB with
  | false =>
    have Q2 := hide hB2
    clear hB2
    have MR : Hid (M = (3, 0)) := by show M = _; rw [← HM.out]; simp only [makeR, unhide Q1, unhide Q2, Bool.false_eq_true, if_false, Bool.not_false, if_true] <;> rfl
    have hR := BR.out.ex X2.out (by simp)
    have hst := store_nilFunc hR
    have HRr := hide hR
    clear hR
    go_wp2_with fail
    have hb := HRr.out.self 0 .nilFunc
    simp only [List.setIfInBounds_toArray, List.set_cons_zero] at hb
    have hl3 := run_loadVar_mid (P := Tryz.prog) _ (w.heap.size + 1) 0 122 [.nilFunc] _ (BK.rangeL (cs := [.nilFunc]) hb) Tryz.underlying122 rfl (by kernel_rfl)
    refine bodyPost_ret (results_cell_tmp2 rfl rfl hl3) rfl ⟨fun _ => ?_, fun h0 => ?_, ?_⟩
    · rw [MR.out]; rfl
    · rw [MR.out] at h0; cases h0
    · exact (X0.out.trans X2.out).setCell (Or.inr (by simp)) _
  | true =>
  have Q2 := hide hB2
  clear hB2
  have hRU : ∀ w', Ex [] w w' → Calls Tryz.prog 58 #[.string re, .bool ur] w' fun x w'' => (∃ pp q o, x = .returned (.tuple #[.pointer pp, .int .i64 q, .bool o]) ∧ ((ur && !ok) = false → o = true) ∧ ((ur && !ok) = true → o = false ∧ q = (pl : Int))) ∧ Ex [] w' w'' := by
    intro w' hx'
    cases hur : ur with
    | false =>
      refine (readUsed_no re w').mono ?_
      rintro x w'' ⟨rfl, rfl⟩
      exact ⟨⟨none, 0, true, rfl, by simp, by simp⟩, Ex.refl _ _⟩
    | true =>
      refine (readUsed_yes re ok pl w w' hx' (HRD.out hur)).mono ?_
      rintro x w'' ⟨⟨pp, rfl⟩, hx''⟩
      exact ⟨⟨pp, pl, ok, rfl, by simp, by simp⟩, hx''⟩
  have HRU := hide hRU
  clear hRU
  go_wp2_with fail
  refine (HRU.out w2 (X0.out.trans X2.out)).mono ?_
  rintro x w3 ⟨⟨pp, q, o, rfl, ho1, ho2⟩, hx⟩
  clear hcg hfg hlg hcu hfu hlu
  have X3 := hide (X2.out.trans hx)
  clear hx
  obtain ⟨hcg, hfg⟩ := (BG.out.ex X3.out (by simp)).all
  have hlg := (BG.out.ex X3.out (by simp)).lt
  obtain ⟨hcu, hfu⟩ := (BU.out.ex X3.out (by simp)).all
  have hlu := (BU.out.ex X3.out (by simp)).lt
  cases hB3 : (ur && !ok) with
  | true =>
    obtain ⟨rfl, rfl⟩ := ho2 hB3
    have Q3 := hide hB3
    clear hB3 ho1 ho2
    have MR : Hid (M = (4, pl)) := by show M = _; rw [← HM.out]; simp only [makeR, unhide Q1, unhide Q2, unhide Q3, Bool.false_eq_true, if_false, Bool.not_true, if_true] <;> rfl
    have hR := BR.out.ex X3.out (by simp)
    have hst := store_nilFunc hR
    have HRr := hide hR
    clear hR
    go_wp2_with fail
    have hb := HRr.out.self 0 .nilFunc
    simp only [List.setIfInBounds_toArray, List.set_cons_zero] at hb
    have hl3 := run_loadVar_mid (P := Tryz.prog) _ (w.heap.size + 1) 0 122 [.nilFunc] _ (BK.rangeL (cs := [.nilFunc]) hb) Tryz.underlying122 rfl (by kernel_rfl)
    refine bodyPost_ret (results_cell_tmp2 rfl rfl hl3) rfl ⟨fun _ => ?_, fun h0 => ?_, ?_⟩
    · rw [MR.out]; rfl
    · rw [MR.out] at h0; cases h0
    · exact (X0.out.trans X3.out).setCell (Or.inr (by simp)) _
  | false =>
  obtain rfl := ho1 hB3
  have Q3 := hide hB3
  clear hB3 ho1 ho2
  cases ug with
  | true =>
    have K4 := fun w' => isTarget_any n p ss.length c se re ta rp mo w' (by unfold maxLen; omega)
    unfold ruleV at K4
    have HK4 := hide K4
    clear K4
    go_wp2_with fail
    refine (HK4.out _).mono ?_
    rintro x w4 ⟨rfl, hx⟩
    clear hcg hfg hlg hcu hfu hlu
    have X4 := hide (X3.out.trans hx)
    clear hx
    obtain ⟨hcg, hfg⟩ := (BG.out.ex X4.out (by simp)).all
    have hlg := (BG.out.ex X4.out (by simp)).lt
    obtain ⟨hcu, hfu⟩ := (BU.out.ex X4.out (by simp)).all
    have hlu := (BU.out.ex X4.out (by simp)).lt
    cases hB4 : targetB n ta with
    | false =>
      have Q4 := hide hB4
      clear hB4
      have MR : Hid (M = (5, 0)) := by show M = _; rw [← HM.out]; simp only [makeR, unhide Q1, unhide Q2, unhide Q3, unhide Q4, Bool.false_eq_true, if_false, Bool.not_true, if_true, Bool.not_false, Bool.and_self] <;> rfl
      have hR := BR.out.ex X4.out (by simp)
      have hst := store_nilFunc hR
      have HRr := hide hR
      clear hR
      go_wp2_with fail
      have hb := HRr.out.self 0 .nilFunc
      simp only [List.setIfInBounds_toArray, List.set_cons_zero] at hb
      have hl3 := run_loadVar_mid (P := Tryz.prog) _ (w.heap.size + 1) 0 122 [.nilFunc] _ (BK.rangeL (cs := [.nilFunc]) hb) Tryz.underlying122 rfl (by kernel_rfl)
      refine bodyPost_ret (results_cell_tmp2 rfl rfl hl3) rfl ⟨fun _ => ?_, fun h0 => ?_, ?_⟩
      · rw [MR.out]; rfl
      · rw [MR.out] at h0; cases h0
      · exact (X0.out.trans X4.out).setCell (Or.inr (by simp)) _
    | true =>
    have Q4 : Hid ((true && !targetB (n : Int) ta) = false) := by show _ = _; rw [hB4]; rfl
    clear hB4
    have K5 := fun w' => hasUnused_any n p ss.length c se re ta rp mo ⟨ux, ur, true, up, um⟩ w'
    unfold ruleV useV at K5
    simp only at K5
    have HK5 := hide K5
    clear K5
    go_wp2_with fail
    refine (HK5.out _).mono ?_
    rintro x w5 ⟨rfl, hx⟩
    clear hcg hfg hlg hcu hfu hlu
    have X5 := hide (X4.out.trans hx)
    clear hx
    obtain ⟨hcg, hfg⟩ := (BG.out.ex X5.out (by simp)).all
    have hlg := (BG.out.ex X5.out (by simp)).lt
    obtain ⟨hcu, hfu⟩ := (BU.out.ex X5.out (by simp)).all
    have hlu := (BU.out.ex X5.out (by simp)).lt
    cases hB5 : unusedB ss.length se re ta rp mo ⟨ux, ur, true, up, um⟩ with
    | true =>
      have Q5 := hide hB5
      clear hB5
      have MR : Hid (M = (6, 0)) := by show M = _; rw [← HM.out]; simp only [makeR, unhide Q1, unhide Q2, unhide Q3, unhide Q4, unhide Q5, Bool.false_eq_true, if_false, Bool.not_true, if_true] <;> rfl
      have hR := BR.out.ex X5.out (by simp)
      have hst := store_nilFunc hR
      have HRr := hide hR
      clear hR
      go_wp2_with fail
      have hb := HRr.out.self 0 .nilFunc
      simp only [List.setIfInBounds_toArray, List.set_cons_zero] at hb
      have hl3 := run_loadVar_mid (P := Tryz.prog) _ (w.heap.size + 1) 0 122 [.nilFunc] _ (BK.rangeL (cs := [.nilFunc]) hb) Tryz.underlying122 rfl (by kernel_rfl)
      refine bodyPost_ret (results_cell_tmp2 rfl rfl hl3) rfl ⟨fun _ => ?_, fun h0 => ?_, ?_⟩
      · rw [MR.out]; rfl
      · rw [MR.out] at h0; cases h0
      · exact (X0.out.trans X5.out).setCell (Or.inr (by simp)) _
    | false =>
    have Q5 := hide hB5
    clear hB5
    cases hB6 : (um && mo == 0) with
    | true =>
      have Q6 := hide hB6
      simp only [Bool.and_eq_true, beq_iff_eq] at hB6
      obtain ⟨rfl, rfl⟩ := hB6
      have MR : Hid (M = (7, 0)) := by show M = _; rw [← HM.out]; simp only [makeR, unhide Q1, unhide Q2, unhide Q3, unhide Q4, unhide Q5, unhide Q6, Bool.false_eq_true, if_false, Bool.not_true, if_true] <;> rfl
      have hR := BR.out.ex X5.out (by simp)
      have hst := store_nilFunc hR
      have HRr := hide hR
      clear hR
      go_wp2_with fail
      have hb := HRr.out.self 0 .nilFunc
      simp only [List.setIfInBounds_toArray, List.set_cons_zero] at hb
      have hl3 := run_loadVar_mid (P := Tryz.prog) _ (w.heap.size + 1) 0 122 [.nilFunc] _ (BK.rangeL (cs := [.nilFunc]) hb) Tryz.underlying122 rfl (by kernel_rfl)
      refine bodyPost_ret (results_cell_tmp2 rfl rfl hl3) rfl ⟨fun _ => ?_, fun h0 => ?_, ?_⟩
      · rw [MR.out]; rfl
      · rw [MR.out] at h0; cases h0
      · exact (X0.out.trans X5.out).setCell (Or.inr (by simp)) _
    | false =>
    have MR : Hid (M = (0, 0)) := by show M = _; rw [← HM.out]; simp only [makeR, unhide Q1, unhide Q2, unhide Q3, unhide Q4, unhide Q5, hB6, Bool.false_eq_true, if_false, Bool.not_true]
    have K6 := fun w' hv' => meansOf_any n (.slice p ss.length c) ss se re ta rp mo pp w' hv' hn HZ.out hse hta hrp
    unfold ruleV at K6
    have HK6 := hide K6
    have HS5 := hide (HV.out.ex0 (X0.out.trans X5.out))
    have BR5 := hide (BR.out.ex X5.out (by simp))
    have BG5 := hide (BG.out.ex X5.out (by simp))
    clear K6
    have HB6 := hide hB6
    clear hB6
    cases um with
    | false =>
      go_wp2_with fail
      refine wp_region_J (by kernel_rfl) ?_
      refine wpAny_take (i := 1) (v := ?_) rfl (by kernel_rfl) (by kernel_rfl) (by kernel_rfl) (fun _ _ _ h => h) (Or.inl ⟨by rfl, ?_⟩) ?_
      rotate_left
      · intro w'
        go_simp
        try with_reducible rfl
      simp only [Act.put, List.setIfInBounds_toArray, List.set_cons_zero, List.set_cons_succ, List.getElem_toArray, List.getElem_cons_zero, List.getElem_cons_succ, List.replicate, Array.replicate, List.size_toArray, List.length_cons, List.length_nil]
      refine wpAny_take (i := 3) (v := ?_) rfl (by kernel_rfl) (by kernel_rfl) (by kernel_rfl) (fun _ _ _ h => h) (Or.inl ⟨by rfl, ?_⟩) ?_
      rotate_left
      · intro w'
        go_simp
        try with_reducible rfl
      simp only [Act.put, List.setIfInBounds_toArray, List.set_cons_zero, List.set_cons_succ, List.getElem_toArray, List.getElem_cons_zero, List.getElem_cons_succ, List.replicate, Array.replicate, List.size_toArray, List.length_cons, List.length_nil]
      refine wpAny_of_J (S := (fun j w' => j < 10 → ∀ o, w'.cell? ⟨w.heap.size, o, none⟩ = #[Value.int .i64 n, .slice p ss.length c, .string se, .string re, .string ta, .string rp, .int .u64 mo][o]?)) _ _ _ _ ?_
      refine wpAnyJ_take (i := 0) (T := (fun w' => ∀ o, w'.cell? ⟨w.heap.size, o, none⟩ = #[Value.int .i64 n, .slice p ss.length c, .string se, .string re, .string ta, .string rp, .int .u64 mo][o]?)) (v := ?_) (fun j => decide (j < 10)) rfl (by kernel_rfl) (by kernel_rfl) (by kernel_rfl) (by kernel_rfl) (fun j w' hj h => h (by simpa using hj)) (fun w' h _ => h) (fun _ _ _ h => h) hcg (Or.inl ⟨by rfl, ?_⟩) ?_
      rotate_left
      · intro w' hSw
        obtain hSw := hSw
        go_simp
        try with_reducible rfl
      simp only [Act.put, List.setIfInBounds_toArray, List.set_cons_zero, List.set_cons_succ, List.getElem_toArray, List.getElem_cons_zero, List.getElem_cons_succ, List.replicate, Array.replicate, List.size_toArray, List.length_cons, List.length_nil]
      refine wpAnyJ_take (i := 4) (T := (fun w' => ∀ o, w'.cell? ⟨w.heap.size, o, none⟩ = #[Value.int .i64 n, .slice p ss.length c, .string se, .string re, .string ta, .string rp, .int .u64 mo][o]?)) (v := ?_) (fun j => decide (j < 10)) rfl (by kernel_rfl) (by kernel_rfl) (by kernel_rfl) (by kernel_rfl) (fun j w' hj h => h (by simpa using hj)) (fun w' h _ => h) (fun _ _ _ h => h) hcg (Or.inl ⟨by rfl, ?_⟩) ?_
      rotate_left
      · intro w' hSw
        obtain hSw := hSw
        go_simp
        try with_reducible rfl
      simp only [Act.put, List.setIfInBounds_toArray, List.set_cons_zero, List.set_cons_succ, List.getElem_toArray, List.getElem_cons_zero, List.getElem_cons_succ, List.replicate, Array.replicate, List.size_toArray, List.length_cons, List.length_nil]
      refine wpAnyJ_one (i := 2) rfl rfl (by kernel_rfl) (fun K hK => ?_)
      go_simp
      refine (HK6.out _ (SS.ex0 HS5.out (Ex.refl _ _).drew)).mono ?_
      rintro x w6 ⟨sv, rfl, hss6, hso6, hx6⟩
      obtain ⟨sp, sc, rfl⟩ := hss6.slice
      have hy6 : Ex [] w5 w6 := ((Ex.refl [] w5).drew).trans hx6
      obtain ⟨q6, hf6⟩ := (BG5.out.ex hy6 (by simp)).all
      have hsz5 : w.heap.size + 2 ≤ w5.heap.size := by have := X5.out.size; simp at this; omega
      have hsz6 := hy6.size
      have HDD := HD.out (HM.out.trans MR.out) w6 sp sc pp ((X0.out.trans X5.out).trans hy6) (by omega) hss6 (fun k hk => by have h9 : w5.heap.size ≤ k := hso6 k hk; omega)
      unfold meansV at HDD
      have HDD' := hide HDD
      clear HDD
      unfold meansV
      go_wp2_with fail
      refine hK.out _ _ (fun _ => q6) ?_
      clear hK K
      simp only [Act.put, List.setIfInBounds_toArray, List.set_cons_zero, List.set_cons_succ, List.getElem_toArray, List.getElem_cons_zero, List.getElem_cons_succ]
      refine wpAnyJ_one (i := 5) rfl rfl (by kernel_rfl) (fun K hK => ?_)
      go_simp
      refine HDD'.out.mono ?_
      rintro x w7 ⟨⟨f, fa, fb, rfl, hD7⟩, hx7⟩
      have hy7 := hy6.trans hx7
      obtain ⟨q7, hf7⟩ := (BG5.out.ex hy7 (by simp)).all
      have hR7 := BR5.out.ex hy7 (by simp)
      have hst := store_func f fa fb hR7
      have HR7 := hide hR7
      have HD7 := hide hD7
      have HY7 := hide hy7
      clear hR7 hD7
      go_wp2_with fail
      refine hK.out _ _ (fun _ => q7) ?_
      clear hK K
      simp only [Act.put, List.setIfInBounds_toArray, List.set_cons_zero, List.set_cons_succ, List.getElem_toArray, List.getElem_cons_zero, List.getElem_cons_succ]
      refine wpAnyJ_one (i := 6) rfl rfl (by kernel_rfl) (fun K hK => ?_)
      go_simp
      refine hK.out _ _ (fun _ => q7) ?_
      clear hK K
      simp only [Act.put, List.setIfInBounds_toArray, List.set_cons_zero, List.set_cons_succ, List.getElem_toArray, List.getElem_cons_zero, List.getElem_cons_succ]
      have q8 : ∀ o, (w7.setCell ⟨w.heap.size + 1, 0, none⟩ (.func f fa fb)).cell? ⟨w.heap.size, o, none⟩ = #[Value.int .i64 n, .slice p ss.length c, .string se, .string re, .string ta, .string rp, .int .u64 mo][o]? := ((BG5.out.ex hy7 (by simp)).set (p := ⟨w.heap.size + 1, 0, none⟩) (by simp) _).all.1
      refine wpAnyJ_one (i := 7) rfl rfl (by kernel_rfl) (fun K hK => ?_)
      go_simp
      refine hK.out _ _ (fun _ => q8) ?_
      clear hK K
      simp only [Act.put, List.setIfInBounds_toArray, List.set_cons_zero, List.set_cons_succ, List.getElem_toArray, List.getElem_cons_zero, List.getElem_cons_succ]
      refine wpAnyJ_one (i := 8) rfl rfl (by kernel_rfl) (fun K hK => ?_)
      go_simp
      refine hK.out _ _ (fun _ => q8) ?_
      clear hK K
      simp only [Act.put, List.setIfInBounds_toArray, List.set_cons_zero, List.set_cons_succ, List.getElem_toArray, List.getElem_cons_zero, List.getElem_cons_succ]
      refine wpAnyJ_one (i := 9) rfl rfl (by kernel_rfl) (fun K hK => ?_)
      go_simp
      refine hK.out _ _ (fun _ => q8) ?_
      clear hK K
      refine wpAnyJ_done (by kernel_rfl) ?_ _
      clear hx6 hx7 hy6 hy7 q6 q7 q8 hf6 hf7 hst hss6 hso6 hcg hfg hcu hfu
      go_wp2_with fail
      have hb8 := HR7.out.self 0 (.func f fa fb)
      simp only [List.setIfInBounds_toArray, List.set_cons_zero] at hb8
      have hl8 := run_loadVar_mid (P := Tryz.prog) _ (w.heap.size + 1) 0 122 [.func f fa fb] _ (BK.rangeL (cs := [.func f fa fb]) hb8) Tryz.underlying122 rfl (by kernel_rfl)
      refine bodyPost_ret (results_cell_tmp2 rfl rfl hl8) rfl ⟨fun h0 => ?_, fun _ => ⟨f, fa, fb, rfl, HDS.out _ _ HD7.out⟩, ?_⟩
      · exact absurd (by rw [MR.out]) h0
      · exact (((X0.out.trans X5.out).trans HY7.out)).setCell (Or.inr (by simp)) _
    | true =>
      have hmo : ¬ mo = 0 := by have := HB6.out; simpa using this
      go_wp2_with fail
      refine wp_region_J (by kernel_rfl) ?_
      refine wpAny_take (i := 1) (v := ?_) rfl (by kernel_rfl) (by kernel_rfl) (by kernel_rfl) (fun _ _ _ h => h) (Or.inl ⟨by rfl, ?_⟩) ?_
      rotate_left
      · intro w'
        go_simp
        try with_reducible rfl
      simp only [Act.put, List.setIfInBounds_toArray, List.set_cons_zero, List.set_cons_succ, List.getElem_toArray, List.getElem_cons_zero, List.getElem_cons_succ, List.replicate, Array.replicate, List.size_toArray, List.length_cons, List.length_nil]
      refine wpAny_take (i := 3) (v := ?_) rfl (by kernel_rfl) (by kernel_rfl) (by kernel_rfl) (fun _ _ _ h => h) (Or.inl ⟨by rfl, ?_⟩) ?_
      rotate_left
      · intro w'
        go_simp
        try with_reducible rfl
      simp only [Act.put, List.setIfInBounds_toArray, List.set_cons_zero, List.set_cons_succ, List.getElem_toArray, List.getElem_cons_zero, List.getElem_cons_succ, List.replicate, Array.replicate, List.size_toArray, List.length_cons, List.length_nil]
      refine wpAny_of_J (S := (fun j w' => j < 10 → ∀ o, w'.cell? ⟨w.heap.size, o, none⟩ = #[Value.int .i64 n, .slice p ss.length c, .string se, .string re, .string ta, .string rp, .int .u64 mo][o]?)) _ _ _ _ ?_
      refine wpAnyJ_take (i := 0) (T := (fun w' => ∀ o, w'.cell? ⟨w.heap.size, o, none⟩ = #[Value.int .i64 n, .slice p ss.length c, .string se, .string re, .string ta, .string rp, .int .u64 mo][o]?)) (v := ?_) (fun j => decide (j < 10)) rfl (by kernel_rfl) (by kernel_rfl) (by kernel_rfl) (by kernel_rfl) (fun j w' hj h => h (by simpa using hj)) (fun w' h _ => h) (fun _ _ _ h => h) hcg (Or.inl ⟨by rfl, ?_⟩) ?_
      rotate_left
      · intro w' hSw
        obtain hSw := hSw
        go_simp
        try with_reducible rfl
      simp only [Act.put, List.setIfInBounds_toArray, List.set_cons_zero, List.set_cons_succ, List.getElem_toArray, List.getElem_cons_zero, List.getElem_cons_succ, List.replicate, Array.replicate, List.size_toArray, List.length_cons, List.length_nil]
      refine wpAnyJ_take (i := 4) (T := (fun w' => ∀ o, w'.cell? ⟨w.heap.size, o, none⟩ = #[Value.int .i64 n, .slice p ss.length c, .string se, .string re, .string ta, .string rp, .int .u64 mo][o]?)) (v := ?_) (fun j => decide (j < 10)) rfl (by kernel_rfl) (by kernel_rfl) (by kernel_rfl) (by kernel_rfl) (fun j w' hj h => h (by simpa using hj)) (fun w' h _ => h) (fun _ _ _ h => h) hcg (Or.inl ⟨by rfl, ?_⟩) ?_
      rotate_left
      · intro w' hSw
        obtain hSw := hSw
        go_simp
        try with_reducible rfl
      simp only [Act.put, List.setIfInBounds_toArray, List.set_cons_zero, List.set_cons_succ, List.getElem_toArray, List.getElem_cons_zero, List.getElem_cons_succ, List.replicate, Array.replicate, List.size_toArray, List.length_cons, List.length_nil]
      refine wpAnyJ_one (i := 2) rfl rfl (by kernel_rfl) (fun K hK => ?_)
      go_simp
      refine (HK6.out _ (SS.ex0 HS5.out (Ex.refl _ _).drew)).mono ?_
      rintro x w6 ⟨sv, rfl, hss6, hso6, hx6⟩
      obtain ⟨sp, sc, rfl⟩ := hss6.slice
      have hy6 : Ex [] w5 w6 := ((Ex.refl [] w5).drew).trans hx6
      obtain ⟨q6, hf6⟩ := (BG5.out.ex hy6 (by simp)).all
      have hsz5 : w.heap.size + 2 ≤ w5.heap.size := by have := X5.out.size; simp at this; omega
      have hsz6 := hy6.size
      have HDD := HD.out (HM.out.trans MR.out) w6 sp sc pp ((X0.out.trans X5.out).trans hy6) (by omega) hss6 (fun k hk => by have h9 : w5.heap.size ≤ k := hso6 k hk; omega)
      unfold meansV at HDD
      have HDD' := hide HDD
      clear HDD
      unfold meansV
      go_wp2_with fail
      refine hK.out _ _ (fun _ => q6) ?_
      clear hK K
      simp only [Act.put, List.setIfInBounds_toArray, List.set_cons_zero, List.set_cons_succ, List.getElem_toArray, List.getElem_cons_zero, List.getElem_cons_succ]
      refine wpAnyJ_one (i := 5) rfl rfl (by kernel_rfl) (fun K hK => ?_)
      go_simp
      refine HDD'.out.mono ?_
      rintro x w7 ⟨⟨f, fa, fb, rfl, hD7⟩, hx7⟩
      have hy7 := hy6.trans hx7
      obtain ⟨q7, hf7⟩ := (BG5.out.ex hy7 (by simp)).all
      have hR7 := BR5.out.ex hy7 (by simp)
      have hst := store_func f fa fb hR7
      have HR7 := hide hR7
      have HD7 := hide hD7
      have HY7 := hide hy7
      clear hR7 hD7
      go_wp2_with fail
      refine hK.out _ _ (fun _ => q7) ?_
      clear hK K
      simp only [Act.put, List.setIfInBounds_toArray, List.set_cons_zero, List.set_cons_succ, List.getElem_toArray, List.getElem_cons_zero, List.getElem_cons_succ]
      refine wpAnyJ_one (i := 6) rfl rfl (by kernel_rfl) (fun K hK => ?_)
      go_simp
      refine hK.out _ _ (fun _ => q7) ?_
      clear hK K
      simp only [Act.put, List.setIfInBounds_toArray, List.set_cons_zero, List.set_cons_succ, List.getElem_toArray, List.getElem_cons_zero, List.getElem_cons_succ]
      have q8 : ∀ o, (w7.setCell ⟨w.heap.size + 1, 0, none⟩ (.func f fa fb)).cell? ⟨w.heap.size, o, none⟩ = #[Value.int .i64 n, .slice p ss.length c, .string se, .string re, .string ta, .string rp, .int .u64 mo][o]? := ((BG5.out.ex hy7 (by simp)).set (p := ⟨w.heap.size + 1, 0, none⟩) (by simp) _).all.1
      refine wpAnyJ_one (i := 7) rfl rfl (by kernel_rfl) (fun K hK => ?_)
      go_simp
      refine hK.out _ _ (fun _ => q8) ?_
      clear hK K
      simp only [Act.put, List.setIfInBounds_toArray, List.set_cons_zero, List.set_cons_succ, List.getElem_toArray, List.getElem_cons_zero, List.getElem_cons_succ]
      refine wpAnyJ_one (i := 8) rfl rfl (by kernel_rfl) (fun K hK => ?_)
      go_simp
      refine hK.out _ _ (fun _ => q8) ?_
      clear hK K
      simp only [Act.put, List.setIfInBounds_toArray, List.set_cons_zero, List.set_cons_succ, List.getElem_toArray, List.getElem_cons_zero, List.getElem_cons_succ]
      refine wpAnyJ_one (i := 9) rfl rfl (by kernel_rfl) (fun K hK => ?_)
      go_simp
      refine hK.out _ _ (fun _ => q8) ?_
      clear hK K
      refine wpAnyJ_done (by kernel_rfl) ?_ _
      clear hx6 hx7 hy6 hy7 q6 q7 q8 hf6 hf7 hst hss6 hso6 hcg hfg hcu hfu
      go_wp2_with fail
      have hb8 := HR7.out.self 0 (.func f fa fb)
      simp only [List.setIfInBounds_toArray, List.set_cons_zero] at hb8
      have hl8 := run_loadVar_mid (P := Tryz.prog) _ (w.heap.size + 1) 0 122 [.func f fa fb] _ (BK.rangeL (cs := [.func f fa fb]) hb8) Tryz.underlying122 rfl (by kernel_rfl)
      refine bodyPost_ret (results_cell_tmp2 rfl rfl hl8) rfl ⟨fun h0 => ?_, fun _ => ⟨f, fa, fb, rfl, HDS.out _ _ HD7.out⟩, ?_⟩
      · exact absurd (by rw [MR.out]) h0
      · exact (((X0.out.trans X5.out).trans HY7.out)).setCell (Or.inr (by simp)) _
  | false =>
    have Q4 : Hid ((false && !targetB (n : Int) ta) = false) := rfl
    have X4 := X3
    have K5 := fun w' => hasUnused_any n p ss.length c se re ta rp mo ⟨ux, ur, false, up, um⟩ w'
    unfold ruleV useV at K5
    simp only at K5
    have HK5 := hide K5
    clear K5
    go_wp2_with fail
    refine (HK5.out _).mono ?_
    rintro x w5 ⟨rfl, hx⟩
    clear hcg hfg hlg hcu hfu hlu
    have X5 := hide (X4.out.trans hx)
    clear hx
    obtain ⟨hcg, hfg⟩ := (BG.out.ex X5.out (by simp)).all
    have hlg := (BG.out.ex X5.out (by simp)).lt
    obtain ⟨hcu, hfu⟩ := (BU.out.ex X5.out (by simp)).all
    have hlu := (BU.out.ex X5.out (by simp)).lt
    cases hB5 : unusedB ss.length se re ta rp mo ⟨ux, ur, false, up, um⟩ with
    | true =>
      have Q5 := hide hB5
      clear hB5
      have MR : Hid (M = (6, 0)) := by show M = _; rw [← HM.out]; simp only [makeR, unhide Q1, unhide Q2, unhide Q3, unhide Q4, unhide Q5, Bool.false_eq_true, if_false, Bool.not_true, if_true] <;> rfl
      have hR := BR.out.ex X5.out (by simp)
      have hst := store_nilFunc hR
      have HRr := hide hR
      clear hR
      go_wp2_with fail
      have hb := HRr.out.self 0 .nilFunc
      simp only [List.setIfInBounds_toArray, List.set_cons_zero] at hb
      have hl3 := run_loadVar_mid (P := Tryz.prog) _ (w.heap.size + 1) 0 122 [.nilFunc] _ (BK.rangeL (cs := [.nilFunc]) hb) Tryz.underlying122 rfl (by kernel_rfl)
      refine bodyPost_ret (results_cell_tmp2 rfl rfl hl3) rfl ⟨fun _ => ?_, fun h0 => ?_, ?_⟩
      · rw [MR.out]; rfl
      · rw [MR.out] at h0; cases h0
      · exact (X0.out.trans X5.out).setCell (Or.inr (by simp)) _
    | false =>
    have Q5 := hide hB5
    clear hB5
    cases hB6 : (um && mo == 0) with
    | true =>
      have Q6 := hide hB6
      simp only [Bool.and_eq_true, beq_iff_eq] at hB6
      obtain ⟨rfl, rfl⟩ := hB6
      have MR : Hid (M = (7, 0)) := by show M = _; rw [← HM.out]; simp only [makeR, unhide Q1, unhide Q2, unhide Q3, unhide Q4, unhide Q5, unhide Q6, Bool.false_eq_true, if_false, Bool.not_true, if_true] <;> rfl
      have hR := BR.out.ex X5.out (by simp)
      have hst := store_nilFunc hR
      have HRr := hide hR
      clear hR
      go_wp2_with fail
      have hb := HRr.out.self 0 .nilFunc
      simp only [List.setIfInBounds_toArray, List.set_cons_zero] at hb
      have hl3 := run_loadVar_mid (P := Tryz.prog) _ (w.heap.size + 1) 0 122 [.nilFunc] _ (BK.rangeL (cs := [.nilFunc]) hb) Tryz.underlying122 rfl (by kernel_rfl)
      refine bodyPost_ret (results_cell_tmp2 rfl rfl hl3) rfl ⟨fun _ => ?_, fun h0 => ?_, ?_⟩
      · rw [MR.out]; rfl
      · rw [MR.out] at h0; cases h0
      · exact (X0.out.trans X5.out).setCell (Or.inr (by simp)) _
    | false =>
    have MR : Hid (M = (0, 0)) := by show M = _; rw [← HM.out]; simp only [makeR, unhide Q1, unhide Q2, unhide Q3, unhide Q4, unhide Q5, hB6, Bool.false_eq_true, if_false, Bool.not_true]
    have K6 := fun w' hv' => meansOf_any n (.slice p ss.length c) ss se re ta rp mo pp w' hv' hn HZ.out hse hta hrp
    unfold ruleV at K6
    have HK6 := hide K6
    have HS5 := hide (HV.out.ex0 (X0.out.trans X5.out))
    have BR5 := hide (BR.out.ex X5.out (by simp))
    have BG5 := hide (BG.out.ex X5.out (by simp))
    clear K6
    have HB6 := hide hB6
    clear hB6
    cases um with
    | false =>
      go_wp2_with fail
      refine wp_region_J (by kernel_rfl) ?_
      refine wpAny_take (i := 1) (v := ?_) rfl (by kernel_rfl) (by kernel_rfl) (by kernel_rfl) (fun _ _ _ h => h) (Or.inl ⟨by rfl, ?_⟩) ?_
      rotate_left
      · intro w'
        go_simp
        try with_reducible rfl
      simp only [Act.put, List.setIfInBounds_toArray, List.set_cons_zero, List.set_cons_succ, List.getElem_toArray, List.getElem_cons_zero, List.getElem_cons_succ, List.replicate, Array.replicate, List.size_toArray, List.length_cons, List.length_nil]
      refine wpAny_take (i := 3) (v := ?_) rfl (by kernel_rfl) (by kernel_rfl) (by kernel_rfl) (fun _ _ _ h => h) (Or.inl ⟨by rfl, ?_⟩) ?_
      rotate_left
      · intro w'
        go_simp
        try with_reducible rfl
      simp only [Act.put, List.setIfInBounds_toArray, List.set_cons_zero, List.set_cons_succ, List.getElem_toArray, List.getElem_cons_zero, List.getElem_cons_succ, List.replicate, Array.replicate, List.size_toArray, List.length_cons, List.length_nil]
      refine wpAny_of_J (S := (fun j w' => j < 10 → ∀ o, w'.cell? ⟨w.heap.size, o, none⟩ = #[Value.int .i64 n, .slice p ss.length c, .string se, .string re, .string ta, .string rp, .int .u64 mo][o]?)) _ _ _ _ ?_
      refine wpAnyJ_take (i := 0) (T := (fun w' => ∀ o, w'.cell? ⟨w.heap.size, o, none⟩ = #[Value.int .i64 n, .slice p ss.length c, .string se, .string re, .string ta, .string rp, .int .u64 mo][o]?)) (v := ?_) (fun j => decide (j < 10)) rfl (by kernel_rfl) (by kernel_rfl) (by kernel_rfl) (by kernel_rfl) (fun j w' hj h => h (by simpa using hj)) (fun w' h _ => h) (fun _ _ _ h => h) hcg (Or.inl ⟨by rfl, ?_⟩) ?_
      rotate_left
      · intro w' hSw
        obtain hSw := hSw
        go_simp
        try with_reducible rfl
      simp only [Act.put, List.setIfInBounds_toArray, List.set_cons_zero, List.set_cons_succ, List.getElem_toArray, List.getElem_cons_zero, List.getElem_cons_succ, List.replicate, Array.replicate, List.size_toArray, List.length_cons, List.length_nil]
      refine wpAnyJ_take (i := 4) (T := (fun w' => ∀ o, w'.cell? ⟨w.heap.size, o, none⟩ = #[Value.int .i64 n, .slice p ss.length c, .string se, .string re, .string ta, .string rp, .int .u64 mo][o]?)) (v := ?_) (fun j => decide (j < 10)) rfl (by kernel_rfl) (by kernel_rfl) (by kernel_rfl) (by kernel_rfl) (fun j w' hj h => h (by simpa using hj)) (fun w' h _ => h) (fun _ _ _ h => h) hcg (Or.inl ⟨by rfl, ?_⟩) ?_
      rotate_left
      · intro w' hSw
        obtain hSw := hSw
        go_simp
        try with_reducible rfl
      simp only [Act.put, List.setIfInBounds_toArray, List.set_cons_zero, List.set_cons_succ, List.getElem_toArray, List.getElem_cons_zero, List.getElem_cons_succ, List.replicate, Array.replicate, List.size_toArray, List.length_cons, List.length_nil]
      refine wpAnyJ_one (i := 2) rfl rfl (by kernel_rfl) (fun K hK => ?_)
      go_simp
      refine (HK6.out _ (SS.ex0 HS5.out (Ex.refl _ _).drew)).mono ?_
      rintro x w6 ⟨sv, rfl, hss6, hso6, hx6⟩
      obtain ⟨sp, sc, rfl⟩ := hss6.slice
      have hy6 : Ex [] w5 w6 := ((Ex.refl [] w5).drew).trans hx6
      obtain ⟨q6, hf6⟩ := (BG5.out.ex hy6 (by simp)).all
      have hsz5 : w.heap.size + 2 ≤ w5.heap.size := by have := X5.out.size; simp at this; omega
      have hsz6 := hy6.size
      have HDD := HD.out (HM.out.trans MR.out) w6 sp sc pp ((X0.out.trans X5.out).trans hy6) (by omega) hss6 (fun k hk => by have h9 : w5.heap.size ≤ k := hso6 k hk; omega)
      unfold meansV at HDD
      have HDD' := hide HDD
      clear HDD
      unfold meansV
      go_wp2_with fail
      refine hK.out _ _ (fun _ => q6) ?_
      clear hK K
      simp only [Act.put, List.setIfInBounds_toArray, List.set_cons_zero, List.set_cons_succ, List.getElem_toArray, List.getElem_cons_zero, List.getElem_cons_succ]
      refine wpAnyJ_one (i := 5) rfl rfl (by kernel_rfl) (fun K hK => ?_)
      go_simp
      refine HDD'.out.mono ?_
      rintro x w7 ⟨⟨f, fa, fb, rfl, hD7⟩, hx7⟩
      have hy7 := hy6.trans hx7
      obtain ⟨q7, hf7⟩ := (BG5.out.ex hy7 (by simp)).all
      have hR7 := BR5.out.ex hy7 (by simp)
      have hst := store_func f fa fb hR7
      have HR7 := hide hR7
      have HD7 := hide hD7
      have HY7 := hide hy7
      clear hR7 hD7
      go_wp2_with fail
      refine hK.out _ _ (fun _ => q7) ?_
      clear hK K
      simp only [Act.put, List.setIfInBounds_toArray, List.set_cons_zero, List.set_cons_succ, List.getElem_toArray, List.getElem_cons_zero, List.getElem_cons_succ]
      refine wpAnyJ_one (i := 6) rfl rfl (by kernel_rfl) (fun K hK => ?_)
      go_simp
      refine hK.out _ _ (fun _ => q7) ?_
      clear hK K
      simp only [Act.put, List.setIfInBounds_toArray, List.set_cons_zero, List.set_cons_succ, List.getElem_toArray, List.getElem_cons_zero, List.getElem_cons_succ]
      have q8 : ∀ o, (w7.setCell ⟨w.heap.size + 1, 0, none⟩ (.func f fa fb)).cell? ⟨w.heap.size, o, none⟩ = #[Value.int .i64 n, .slice p ss.length c, .string se, .string re, .string ta, .string rp, .int .u64 mo][o]? := ((BG5.out.ex hy7 (by simp)).set (p := ⟨w.heap.size + 1, 0, none⟩) (by simp) _).all.1
      refine wpAnyJ_one (i := 7) rfl rfl (by kernel_rfl) (fun K hK => ?_)
      go_simp
      refine hK.out _ _ (fun _ => q8) ?_
      clear hK K
      simp only [Act.put, List.setIfInBounds_toArray, List.set_cons_zero, List.set_cons_succ, List.getElem_toArray, List.getElem_cons_zero, List.getElem_cons_succ]
      refine wpAnyJ_one (i := 8) rfl rfl (by kernel_rfl) (fun K hK => ?_)
      go_simp
      refine hK.out _ _ (fun _ => q8) ?_
      clear hK K
      simp only [Act.put, List.setIfInBounds_toArray, List.set_cons_zero, List.set_cons_succ, List.getElem_toArray, List.getElem_cons_zero, List.getElem_cons_succ]
      refine wpAnyJ_one (i := 9) rfl rfl (by kernel_rfl) (fun K hK => ?_)
      go_simp
      refine hK.out _ _ (fun _ => q8) ?_
      clear hK K
      refine wpAnyJ_done (by kernel_rfl) ?_ _
      clear hx6 hx7 hy6 hy7 q6 q7 q8 hf6 hf7 hst hss6 hso6 hcg hfg hcu hfu
      go_wp2_with fail
      have hb8 := HR7.out.self 0 (.func f fa fb)
      simp only [List.setIfInBounds_toArray, List.set_cons_zero] at hb8
      have hl8 := run_loadVar_mid (P := Tryz.prog) _ (w.heap.size + 1) 0 122 [.func f fa fb] _ (BK.rangeL (cs := [.func f fa fb]) hb8) Tryz.underlying122 rfl (by kernel_rfl)
      refine bodyPost_ret (results_cell_tmp2 rfl rfl hl8) rfl ⟨fun h0 => ?_, fun _ => ⟨f, fa, fb, rfl, HDS.out _ _ HD7.out⟩, ?_⟩
      · exact absurd (by rw [MR.out]) h0
      · exact (((X0.out.trans X5.out).trans HY7.out)).setCell (Or.inr (by simp)) _
    | true =>
      have hmo : ¬ mo = 0 := by have := HB6.out; simpa using this
      go_wp2_with fail
      refine wp_region_J (by kernel_rfl) ?_
      refine wpAny_take (i := 1) (v := ?_) rfl (by kernel_rfl) (by kernel_rfl) (by kernel_rfl) (fun _ _ _ h => h) (Or.inl ⟨by rfl, ?_⟩) ?_
      rotate_left
      · intro w'
        go_simp
        try with_reducible rfl
      simp only [Act.put, List.setIfInBounds_toArray, List.set_cons_zero, List.set_cons_succ, List.getElem_toArray, List.getElem_cons_zero, List.getElem_cons_succ, List.replicate, Array.replicate, List.size_toArray, List.length_cons, List.length_nil]
      refine wpAny_take (i := 3) (v := ?_) rfl (by kernel_rfl) (by kernel_rfl) (by kernel_rfl) (fun _ _ _ h => h) (Or.inl ⟨by rfl, ?_⟩) ?_
      rotate_left
      · intro w'
        go_simp
        try with_reducible rfl
      simp only [Act.put, List.setIfInBounds_toArray, List.set_cons_zero, List.set_cons_succ, List.getElem_toArray, List.getElem_cons_zero, List.getElem_cons_succ, List.replicate, Array.replicate, List.size_toArray, List.length_cons, List.length_nil]
      refine wpAny_of_J (S := (fun j w' => j < 10 → ∀ o, w'.cell? ⟨w.heap.size, o, none⟩ = #[Value.int .i64 n, .slice p ss.length c, .string se, .string re, .string ta, .string rp, .int .u64 mo][o]?)) _ _ _ _ ?_
      refine wpAnyJ_take (i := 0) (T := (fun w' => ∀ o, w'.cell? ⟨w.heap.size, o, none⟩ = #[Value.int .i64 n, .slice p ss.length c, .string se, .string re, .string ta, .string rp, .int .u64 mo][o]?)) (v := ?_) (fun j => decide (j < 10)) rfl (by kernel_rfl) (by kernel_rfl) (by kernel_rfl) (by kernel_rfl) (fun j w' hj h => h (by simpa using hj)) (fun w' h _ => h) (fun _ _ _ h => h) hcg (Or.inl ⟨by rfl, ?_⟩) ?_
      rotate_left
      · intro w' hSw
        obtain hSw := hSw
        go_simp
        try with_reducible rfl
      simp only [Act.put, List.setIfInBounds_toArray, List.set_cons_zero, List.set_cons_succ, List.getElem_toArray, List.getElem_cons_zero, List.getElem_cons_succ, List.replicate, Array.replicate, List.size_toArray, List.length_cons, List.length_nil]
      refine wpAnyJ_take (i := 4) (T := (fun w' => ∀ o, w'.cell? ⟨w.heap.size, o, none⟩ = #[Value.int .i64 n, .slice p ss.length c, .string se, .string re, .string ta, .string rp, .int .u64 mo][o]?)) (v := ?_) (fun j => decide (j < 10)) rfl (by kernel_rfl) (by kernel_rfl) (by kernel_rfl) (by kernel_rfl) (fun j w' hj h => h (by simpa using hj)) (fun w' h _ => h) (fun _ _ _ h => h) hcg (Or.inl ⟨by rfl, ?_⟩) ?_
      rotate_left
      · intro w' hSw
        obtain hSw := hSw
        go_simp
        try with_reducible rfl
      simp only [Act.put, List.setIfInBounds_toArray, List.set_cons_zero, List.set_cons_succ, List.getElem_toArray, List.getElem_cons_zero, List.getElem_cons_succ, List.replicate, Array.replicate, List.size_toArray, List.length_cons, List.length_nil]
      refine wpAnyJ_one (i := 2) rfl rfl (by kernel_rfl) (fun K hK => ?_)
      go_simp
      refine (HK6.out _ (SS.ex0 HS5.out (Ex.refl _ _).drew)).mono ?_
      rintro x w6 ⟨sv, rfl, hss6, hso6, hx6⟩
      obtain ⟨sp, sc, rfl⟩ := hss6.slice
      have hy6 : Ex [] w5 w6 := ((Ex.refl [] w5).drew).trans hx6
      obtain ⟨q6, hf6⟩ := (BG5.out.ex hy6 (by simp)).all
      have hsz5 : w.heap.size + 2 ≤ w5.heap.size := by have := X5.out.size; simp at this; omega
      have hsz6 := hy6.size
      have HDD := HD.out (HM.out.trans MR.out) w6 sp sc pp ((X0.out.trans X5.out).trans hy6) (by omega) hss6 (fun k hk => by have h9 : w5.heap.size ≤ k := hso6 k hk; omega)
      unfold meansV at HDD
      have HDD' := hide HDD
      clear HDD
      unfold meansV
      go_wp2_with fail
      refine hK.out _ _ (fun _ => q6) ?_
      clear hK K
      simp only [Act.put, List.setIfInBounds_toArray, List.set_cons_zero, List.set_cons_succ, List.getElem_toArray, List.getElem_cons_zero, List.getElem_cons_succ]
      refine wpAnyJ_one (i := 5) rfl rfl (by kernel_rfl) (fun K hK => ?_)
      go_simp
      refine HDD'.out.mono ?_
      rintro x w7 ⟨⟨f, fa, fb, rfl, hD7⟩, hx7⟩
      have hy7 := hy6.trans hx7
      obtain ⟨q7, hf7⟩ := (BG5.out.ex hy7 (by simp)).all
      have hR7 := BR5.out.ex hy7 (by simp)
      have hst := store_func f fa fb hR7
      have HR7 := hide hR7
      have HD7 := hide hD7
      have HY7 := hide hy7
      clear hR7 hD7
      go_wp2_with fail
      refine hK.out _ _ (fun _ => q7) ?_
      clear hK K
      simp only [Act.put, List.setIfInBounds_toArray, List.set_cons_zero, List.set_cons_succ, List.getElem_toArray, List.getElem_cons_zero, List.getElem_cons_succ]
      refine wpAnyJ_one (i := 6) rfl rfl (by kernel_rfl) (fun K hK => ?_)
      go_simp
      refine hK.out _ _ (fun _ => q7) ?_
      clear hK K
      simp only [Act.put, List.setIfInBounds_toArray, List.set_cons_zero, List.set_cons_succ, List.getElem_toArray, List.getElem_cons_zero, List.getElem_cons_succ]
      have q8 : ∀ o, (w7.setCell ⟨w.heap.size + 1, 0, none⟩ (.func f fa fb)).cell? ⟨w.heap.size, o, none⟩ = #[Value.int .i64 n, .slice p ss.length c, .string se, .string re, .string ta, .string rp, .int .u64 mo][o]? := ((BG5.out.ex hy7 (by simp)).set (p := ⟨w.heap.size + 1, 0, none⟩) (by simp) _).all.1
      refine wpAnyJ_one (i := 7) rfl rfl (by kernel_rfl) (fun K hK => ?_)
      go_simp
      refine hK.out _ _ (fun _ => q8) ?_
      clear hK K
      simp only [Act.put, List.setIfInBounds_toArray, List.set_cons_zero, List.set_cons_succ, List.getElem_toArray, List.getElem_cons_zero, List.getElem_cons_succ]
      refine wpAnyJ_one (i := 8) rfl rfl (by kernel_rfl) (fun K hK => ?_)
      go_simp
      refine hK.out _ _ (fun _ => q8) ?_
      clear hK K
      simp only [Act.put, List.setIfInBounds_toArray, List.set_cons_zero, List.set_cons_succ, List.getElem_toArray, List.getElem_cons_zero, List.getElem_cons_succ]
      refine wpAnyJ_one (i := 9) rfl rfl (by kernel_rfl) (fun K hK => ?_)
      go_simp
      refine hK.out _ _ (fun _ => q8) ?_
      clear hK K
      refine wpAnyJ_done (by kernel_rfl) ?_ _
      clear hx6 hx7 hy6 hy7 q6 q7 q8 hf6 hf7 hst hss6 hso6 hcg hfg hcu hfu
      go_wp2_with fail
      have hb8 := HR7.out.self 0 (.func f fa fb)
      simp only [List.setIfInBounds_toArray, List.set_cons_zero] at hb8
      have hl8 := run_loadVar_mid (P := Tryz.prog) _ (w.heap.size + 1) 0 122 [.func f fa fb] _ (BK.rangeL (cs := [.func f fa fb]) hb8) Tryz.underlying122 rfl (by kernel_rfl)
      refine bodyPost_ret (results_cell_tmp2 rfl rfl hl8) rfl ⟨fun h0 => ?_, fun _ => ⟨f, fa, fb, rfl, HDS.out _ _ HD7.out⟩, ?_⟩
      · exact absurd (by rw [MR.out]) h0
      · exact (((X0.out.trans X5.out).trans HY7.out)).setCell (Or.inr (by simp)) _
end Go.Proofs.YtgmjjhmnchefbaaGreatDoor
namespace Go.Proofs.YtgmjjhmnchefbaaGreatDoor.G
open Go.RowKit

set_option maxHeartbeats 1000000 in
set_option maxRecDepth 100000 in
theorem n_setTo_fv (p : Option Addr) (n c : Nat) (se : ByteArray) (pp : Option Addr) (ta rp : ByteArray) (mo : Int) (f : FuncId) (a : Array Value) (w : World) :
    Calls Tryz.prog 83 #[meansV (.slice p n c) se (.pointer pp) ta rp mo, .func (.func f) a #[]] w fun x w' => x = .returned (.func (.func 119) #[] #[.pointer (some ⟨w.heap.size, 0, none⟩), .pointer (some ⟨w.heap.size + 1, 0, none⟩)]) ∧
      w' = (w.alloc (.cells #[.slice p n c, .string se, .pointer pp, .string ta, .string rp, .int .u64 mo] 170)).alloc (.cells #[.func (.func f) a #[]] 188) := by
  have hmf : ∀ (fn : Fn) (first cap : Array Value) (w : World), (Instr.makeFunc fn first cap).run Tryz.prog w = .ok (.func fn first cap) w := fun _ _ _ _ => rfl
  unfold meansV
  go_enter Tryz.func83, Tryz.ntmps83
  go_wp2_with fail
  go_ret
  exact ⟨by simp, rfl⟩

set_option maxHeartbeats 1000000 in
set_option maxRecDepth 100000 in
theorem n_deed_lower (p : Option Addr) (n c : Nat) (se : ByteArray) (pp : Option Addr) (ta rp : ByteArray) (mo : Int) (w : World) :
    Calls Tryz.prog 62 #[meansV (.slice p n c) se (.pointer pp) ta rp mo, .int .i64 9] w fun x w' => ∃ b1 b2, x = .returned (.func (.func 119) #[] #[.pointer (some ⟨b1, 0, none⟩), .pointer (some ⟨b2, 0, none⟩)]) ∧
      BK w' b1 (.cells #[.slice p n c, .string se, .pointer pp, .string ta, .string rp, .int .u64 mo] 170 (0, 0)) ∧ BK w' b2 (.cells #[.func (.func 88) #[] #[]] 188 (0, 0)) ∧ w.heap.size ≤ b1 ∧ w.heap.size ≤ b2 ∧ Ex [] w w' := by
  have hmf : ∀ (fn : Fn) (first cap : Array Value) (w : World), (Instr.makeFunc fn first cap).run Tryz.prog w = .ok (.func fn first cap) w := fun _ _ _ _ => rfl
  have KS := hide (fun w => n_setTo_fv p n c se pp ta rp mo 88 #[] w)
  unfold meansV at *
  go_enter Tryz.func62, Tryz.ntmps62
  go_wp2_with fail
  refine (KS.out _).mono ?_
  rintro x w1 ⟨rfl, hw1⟩
  have hb1 : BK w1 (w.heap.size + 1) (.cells #[.slice p n c, .string se, .pointer pp, .string ta, .string rp, .int .u64 mo] 170 (0, 0)) := by
    rw [hw1]
    have h := (BK.new (w.alloc (Obj.cells #[.slice p n c, .string se, .pointer pp, .string ta, .string rp, .int .u64 mo] 170)) (Obj.cells #[.slice p n c, .string se, .pointer pp, .string ta, .string rp, .int .u64 mo] 170)).alloc (Obj.cells #[.func (.func 88) #[] #[]] 188)
    simpa using h
  have hb2 : BK w1 (w.heap.size + 1 + 1) (.cells #[.func (.func 88) #[] #[]] 188 (0, 0)) := by
    rw [hw1]
    have h := BK.new ((w.alloc (Obj.cells #[.slice p n c, .string se, .pointer pp, .string ta, .string rp, .int .u64 mo] 170)).alloc (Obj.cells #[.slice p n c, .string se, .pointer pp, .string ta, .string rp, .int .u64 mo] 170)) (Obj.cells #[.func (.func 88) #[] #[]] 188)
    simpa using h
  have hx1 : Ex [] w w1 := by rw [hw1]; exact (((Ex.refl _ _).alloc _).alloc _).alloc _
  have H1 := hide hb1
  have H2 := hide hb2
  have HX := hide hx1
  clear hw1 hb1 hb2 hx1
  go_wp2_with fail
  go_ret
  refine ⟨w.heap.size + 1, w.heap.size + 1 + 1, by simp, H1.out, H2.out, by omega, by omega, HX.out⟩
set_option maxHeartbeats 1000000 in
set_option maxRecDepth 100000 in
theorem n_deed_remainder (p : Option Addr) (n c : Nat) (se : ByteArray) (pp : Option Addr) (ta rp : ByteArray) (mo : Int) (w : World) :
    Calls Tryz.prog 62 #[meansV (.slice p n c) se (.pointer pp) ta rp mo, .int .i64 5] w fun x w' => ∃ b1 b2, x = .returned (.func (.func 119) #[] #[.pointer (some ⟨b1, 0, none⟩), .pointer (some ⟨b2, 0, none⟩)]) ∧
      BK w' b1 (.cells #[.slice p n c, .string se, .pointer pp, .string ta, .string rp, .int .u64 mo] 170 (0, 0)) ∧ BK w' b2 (.cells #[.func (.func 84) #[.agg #[.slice p n c, .string se, .pointer pp, .string ta, .string rp, .int .u64 mo]] #[]] 188 (0, 0)) ∧ w.heap.size ≤ b1 ∧ w.heap.size ≤ b2 ∧ Ex [] w w' := by
  have hmf : ∀ (fn : Fn) (first cap : Array Value) (w : World), (Instr.makeFunc fn first cap).run Tryz.prog w = .ok (.func fn first cap) w := fun _ _ _ _ => rfl
  have KS := hide (fun w => n_setTo_fv p n c se pp ta rp mo 84 #[.agg #[.slice p n c, .string se, .pointer pp, .string ta, .string rp, .int .u64 mo]] w)
  unfold meansV at *
  go_enter Tryz.func62, Tryz.ntmps62
  go_wp2_with fail
  refine (KS.out _).mono ?_
  rintro x w1 ⟨rfl, hw1⟩
  have hb1 : BK w1 (w.heap.size + 1) (.cells #[.slice p n c, .string se, .pointer pp, .string ta, .string rp, .int .u64 mo] 170 (0, 0)) := by
    rw [hw1]
    have h := (BK.new (w.alloc (Obj.cells #[.slice p n c, .string se, .pointer pp, .string ta, .string rp, .int .u64 mo] 170)) (Obj.cells #[.slice p n c, .string se, .pointer pp, .string ta, .string rp, .int .u64 mo] 170)).alloc (Obj.cells #[.func (.func 84) #[.agg #[.slice p n c, .string se, .pointer pp, .string ta, .string rp, .int .u64 mo]] #[]] 188)
    simpa using h
  have hb2 : BK w1 (w.heap.size + 1 + 1) (.cells #[.func (.func 84) #[.agg #[.slice p n c, .string se, .pointer pp, .string ta, .string rp, .int .u64 mo]] #[]] 188 (0, 0)) := by
    rw [hw1]
    have h := BK.new ((w.alloc (Obj.cells #[.slice p n c, .string se, .pointer pp, .string ta, .string rp, .int .u64 mo] 170)).alloc (Obj.cells #[.slice p n c, .string se, .pointer pp, .string ta, .string rp, .int .u64 mo] 170)) (Obj.cells #[.func (.func 84) #[.agg #[.slice p n c, .string se, .pointer pp, .string ta, .string rp, .int .u64 mo]] #[]] 188)
    simpa using h
  have hx1 : Ex [] w w1 := by rw [hw1]; exact (((Ex.refl _ _).alloc _).alloc _).alloc _
  have H1 := hide hb1
  have H2 := hide hb2
  have HX := hide hx1
  clear hw1 hb1 hb2 hx1
  go_wp2_with fail
  go_ret
  refine ⟨w.heap.size + 1, w.heap.size + 1 + 1, by simp, H1.out, H2.out, by omega, by omega, HX.out⟩
set_option maxHeartbeats 1000000 in
set_option maxRecDepth 100000 in
theorem n_deed_replace (p : Option Addr) (n c : Nat) (se : ByteArray) (pp : Option Addr) (ta rp : ByteArray) (mo : Int) (w : World) :
    Calls Tryz.prog 62 #[meansV (.slice p n c) se (.pointer pp) ta rp mo, .int .i64 0] w fun x w' => x = .returned (.func (.func 79) #[meansV (.slice p n c) se (.pointer pp) ta rp mo] #[]) ∧ Ex [] w w' := by
  have hmf : ∀ (fn : Fn) (first cap : Array Value) (w : World), (Instr.makeFunc fn first cap).run Tryz.prog w = .ok (.func fn first cap) w := fun _ _ _ _ => rfl
  unfold meansV
  go_enter Tryz.func62, Tryz.ntmps62
  go_wp2_with fail
  go_ret
  exact ⟨rfl, (Ex.refl _ _).alloc _⟩
set_option maxHeartbeats 1000000 in
set_option maxRecDepth 100000 in
theorem n_deed_map (p : Option Addr) (n c : Nat) (se : ByteArray) (pp : Option Addr) (ta rp : ByteArray) (mo : Int) (w : World) :
    Calls Tryz.prog 62 #[meansV (.slice p n c) se (.pointer pp) ta rp mo, .int .i64 6] w fun x w' => x = .returned (.func (.func 85) #[meansV (.slice p n c) se (.pointer pp) ta rp mo] #[]) ∧ Ex [] w w' := by
  have hmf : ∀ (fn : Fn) (first cap : Array Value) (w : World), (Instr.makeFunc fn first cap).run Tryz.prog w = .ok (.func fn first cap) w := fun _ _ _ _ => rfl
  unfold meansV
  go_enter Tryz.func62, Tryz.ntmps62
  go_wp2_with fail
  go_ret
  exact ⟨rfl, (Ex.refl _ _).alloc _⟩
theorem deed_all (n : Nat) (hn : n < 11) (p : Option Addr) (k c : Nat) (se : ByteArray) (pp : Option Addr) (ta rp : ByteArray) (mo : Int) (w : World) :
    Calls Tryz.prog 62 #[meansV (.slice p k c) se (.pointer pp) ta rp mo, .int .i64 (n : Int)] w fun x w' => (∃ f a b, x = .returned (.func f a b)) ∧ Ex [] w w' := by
  match n, hn with
  | 0, _ => exact (n_deed_replace p k c se pp ta rp mo w).mono (by rintro x w' ⟨rfl, h⟩; exact ⟨⟨_, _, _, rfl⟩, h⟩)
  | 1, _ => exact (deed_match p k c se pp ta rp mo w).mono (by rintro x w' ⟨rfl, h⟩; exact ⟨⟨_, _, _, rfl⟩, h⟩)
  | 2, _ => exact (deed_notmatch p k c se pp ta rp mo w).mono (by rintro x w' ⟨b, rfl, _, _, h⟩; exact ⟨⟨_, _, _, rfl⟩, h⟩)
  | 3, _ => exact (deed_equal p k c se pp ta rp mo w).mono (by rintro x w' ⟨rfl, h⟩; exact ⟨⟨_, _, _, rfl⟩, h⟩)
  | 4, _ => exact (deed_notequal p k c se pp ta rp mo w).mono (by rintro x w' ⟨b, rfl, _, _, h⟩; exact ⟨⟨_, _, _, rfl⟩, h⟩)
  | 5, _ => exact (n_deed_remainder p k c se pp ta rp mo w).mono (by rintro x w' ⟨b1, b2, rfl, _, _, _, _, h⟩; exact ⟨⟨_, _, _, rfl⟩, h⟩)
  | 6, _ => exact (n_deed_map p k c se pp ta rp mo w).mono (by rintro x w' ⟨rfl, h⟩; exact ⟨⟨_, _, _, rfl⟩, h⟩)
  | 7, _ => exact (deed_dropN p k c se pp ta rp mo w).mono (by rintro x w' ⟨rfl, h⟩; exact ⟨⟨_, _, _, rfl⟩, h⟩)
  | 8, _ => exact (deed_keepN p k c se pp ta rp mo w).mono (by rintro x w' ⟨rfl, h⟩; exact ⟨⟨_, _, _, rfl⟩, h⟩)
  | 9, _ => exact (n_deed_lower p k c se pp ta rp mo w).mono (by rintro x w' ⟨b1, b2, rfl, _, _, _, _, h⟩; exact ⟨⟨_, _, _, rfl⟩, h⟩)
  | 10, _ => exact (deed_upper p k c se pp ta rp mo w).mono (by rintro x w' ⟨b1, b2, rfl, _, _, _, _, h⟩; exact ⟨⟨_, _, _, rfl⟩, h⟩)
theorem reads_all {w : World} {x : EV} (hev : w.cell? ⟨0, 0, none⟩ = some (.iface x.1 x.2)) (re : ByteArray) : ReadsTo w re (placeM re).isNone ((placeM re).getD 0) := fun w1 hx => by
  have hev1 := (hx.cell0.1 _ _ (lt_of_cell hev)).trans hev
  cases h : placeM re with
  | none => exact (readsP hev (place_good h) w1 hx).mono (by rintro e w2 ⟨q, rfl, _, h2⟩; exact ⟨⟨_, rfl⟩, h2⟩)
  | some k =>
    have hR : Calls Tryz.prog 10 #[.string re] w1 fun e w' => e = .returned (.tuple #[.pointer none, .int .i64 (k : Int), .bool false]) ∧ Ex [] w1 w' := by
      unfold placeM at h
      by_cases h60 : 60 < re.size
      · rw [if_pos h60] at h
        cases h
        exact gRead_long h60
      · rw [if_neg h60] at h
        cases hr : readM re with
        | bad s' =>
          rw [hr] at h
          cases h
          exact gRead_bad hev1 (by omega) (NP.all re) hr
        | ok p s' =>
          rw [hr] at h
          dsimp only at h
          split at h
          · next hw =>
            cases h
            exact gRead_heavy hev1 (by omega) (NP.all re) hr (read_fine (by omega) hr).1 hw
          · cases h
    exact hR.mono (by rintro e w2 ⟨rfl, h2⟩; exact ⟨⟨_, rfl⟩, h2⟩)
def ruleR (a : Int) (ss : List ByteArray) (se re ta rp : ByteArray) (mo : Int) : Nat × Nat :=
  if a < 0 ∨ 11 ≤ a then (1, 0) else match usesL[a.toNat]? with
  | some u => makeR a.toNat ss se re ta rp mo u (placeM re).isNone ((placeM re).getD 0)
  | none => (1, 0)
theorem makeR_zero {n : Nat} {ss : List ByteArray} {se re ta rp : ByteArray} {mo : Int} {u : Use} {ok : Bool} {pl : Nat} (h : (makeR n ss se re ta rp mo u ok pl).1 = 0) : makeR n ss se re ta rp mo u ok pl = (0, 0) := by
  unfold makeR at h ⊢
  split
  · next c => rw [if_pos c] at h; cases h
  · next c =>
    rw [if_neg c] at h
    split
    · next c => rw [if_pos c] at h; cases h
    · next c =>
      rw [if_neg c] at h
      split
      · next c => rw [if_pos c] at h; cases h
      · next c =>
        rw [if_neg c] at h
        split
        · next c => rw [if_pos c] at h; cases h
        · next c =>
          rw [if_neg c] at h
          split
          · next c => rw [if_pos c] at h; cases h
          · next c =>
            rw [if_neg c] at h
            split
            · next c => rw [if_pos c] at h; cases h
            · next c =>
              rw [if_neg c] at h
theorem make_any (a : Int) (p : Option Addr) (c : Nat) (ss : List ByteArray) (se re ta rp : ByteArray) (mo : Int) {x : EV} (w : World) (hub : UB w) (hev : w.cell? ⟨0, 0, none⟩ = some (.iface x.1 x.2)) (hv : SS w (.slice p ss.length c) ss)
    (hz : ∀ s ∈ ss, s.size ≤ 281474976710656) (hse : se.size ≤ 281474976710656) (hta : ta.size ≤ 281474976710656) (hrp : rp.size ≤ 281474976710656) :
    Calls Tryz.prog 38 #[ruleV a (.slice p ss.length c) se re ta rp mo] w fun e w' => (∃ fv, e = .returned (.tuple #[.agg #[fv], .int .i64 ((ruleR a ss se re ta rp mo).1 : Int), .int .i64 ((ruleR a ss se re ta rp mo).2 : Int)]) ∧ ((ruleR a ss se re ta rp mo).1 = 0 → ∃ f a b, fv = .func f a b) ∧ ((ruleR a ss se re ta rp mo).1 ≠ 0 → fv = .nilFunc)) ∧ Ex [] w w' := by
  by_cases ha : a < 0 ∨ 11 ≤ a
  · unfold ruleR
    rw [if_pos ha]
    refine (make_noAction a _ se re ta rp mo w ha).mono ?_
    rintro e w' ⟨rfl, h⟩
    exact ⟨⟨_, rfl, (fun h => by cases h), fun _ => rfl⟩, h⟩
  · obtain ⟨n, rfl⟩ : ∃ n : Nat, a = (n : Int) := ⟨a.toNat, by omega⟩
    have hn : n < 11 := by omega
    obtain ⟨u, hu⟩ : ∃ u, usesL[n]? = some u := ⟨_, List.getElem?_eq_getElem (by show n < 11; exact hn)⟩
    have hR : ruleR (n : Int) ss se re ta rp mo = makeR n ss se re ta rp mo u (placeM re).isNone ((placeM re).getD 0) := by
      unfold ruleR
      rw [if_neg ha, Int.toNat_natCast, hu]
    rw [hR]
    refine (make_all0 n u hu p c ss se re ta rp mo _ _ w (fun _ _ => True) hub hv hz hse hta hrp (fun _ => reads_all hev re) (fun _ w1 sp sc pp _ _ _ _ => (deed_all n hn sp ss.length sc se pp ta rp mo w1).mono (by rintro y w2 ⟨⟨f, a, b, rfl⟩, h2⟩; exact ⟨⟨f, a, b, rfl, trivial⟩, h2⟩)) (fun _ _ h => h)).mono ?_
    rintro e w' ⟨h1, h2, h3⟩
    by_cases h0 : (makeR n ss se re ta rp mo u (placeM re).isNone ((placeM re).getD 0)).1 = 0
    · obtain ⟨f, a, b, rfl, _⟩ := h2 h0
      rw [makeR_zero h0]
      exact ⟨⟨_, rfl, (fun _ => ⟨f, a, b, rfl⟩), fun h => absurd rfl h⟩, h3⟩
    · exact ⟨⟨_, h1 h0, (fun h => absurd h h0), fun _ => rfl⟩, h3⟩
end Go.Proofs.YtgmjjhmnchefbaaGreatDoor.G
