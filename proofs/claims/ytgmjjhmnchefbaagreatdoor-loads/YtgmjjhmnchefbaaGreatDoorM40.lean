/- N4 N4a, one behind the other. -/
import Derived.Test.YtgmjjhmnchefbaaGreatDoorM24
import Derived.Test.YtgmjjhmnchefbaaGreatDoorM25
import Derived.Test.YtgmjjhmnchefbaaGreatDoorM39
import Derived.Deep.DeepCutAuto
set_option linter.unusedVariables false
set_option linter.unusedSimpArgs false
/- The document's own check of a rule. -/
namespace Go.Proofs.YtgmjjhmnchefbaaGreatDoor.G
open Go.RowKit

set_option maxHeartbeats 2000000 in
theorem useRegex_any (n : Nat) (u : Use) (hu : usesL[n]? = some u) (w : World) : Calls Tryz.prog 91 #[.int .i64 (n : Int)] w fun e w' => e = .returned (.bool u.regex) ∧ w' = w := by
  have hn : n < 11 := (List.getElem?_eq_some_iff.1 hu).1
  have hc : n = 0 ∨ n = 1 ∨ n = 2 ∨ n = 3 ∨ n = 4 ∨ n = 5 ∨ n = 6 ∨ n = 7 ∨ n = 8 ∨ n = 9 ∨ n = 10 := by omega
  rcases hc with rfl | rfl | rfl | rfl | rfl | rfl | rfl | rfl | rfl | rfl | rfl
  all_goals
    cases hu
    go_enter Tryz.func91, Tryz.ntmps91
    go_wp2_with fail
    go_ret
    exact ⟨rfl, rfl⟩
set_option maxHeartbeats 2000000 in
theorem useTarget_any (n : Nat) (u : Use) (hu : usesL[n]? = some u) (w : World) : Calls Tryz.prog 92 #[.int .i64 (n : Int)] w fun e w' => e = .returned (.bool u.target) ∧ w' = w := by
  have hn : n < 11 := (List.getElem?_eq_some_iff.1 hu).1
  have hc : n = 0 ∨ n = 1 ∨ n = 2 ∨ n = 3 ∨ n = 4 ∨ n = 5 ∨ n = 6 ∨ n = 7 ∨ n = 8 ∨ n = 9 ∨ n = 10 := by omega
  rcases hc with rfl | rfl | rfl | rfl | rfl | rfl | rfl | rfl | rfl | rfl | rfl
  all_goals
    cases hu
    go_enter Tryz.func92, Tryz.ntmps92
    go_wp2_with fail
    go_ret
    exact ⟨rfl, rfl⟩
set_option maxHeartbeats 2000000 in
theorem useSources_any (n : Nat) (u : Use) (hu : usesL[n]? = some u) (w : World) : Calls Tryz.prog 93 #[.int .i64 (n : Int)] w fun e w' => e = .returned (.bool u.text) ∧ w' = w := by
  have hn : n < 11 := (List.getElem?_eq_some_iff.1 hu).1
  have hc : n = 0 ∨ n = 1 ∨ n = 2 ∨ n = 3 ∨ n = 4 ∨ n = 5 ∨ n = 6 ∨ n = 7 ∨ n = 8 ∨ n = 9 ∨ n = 10 := by omega
  rcases hc with rfl | rfl | rfl | rfl | rfl | rfl | rfl | rfl | rfl | rfl | rfl
  all_goals
    cases hu
    go_enter Tryz.func93, Tryz.ntmps93
    go_wp2_with fail
    go_ret
    exact ⟨rfl, rfl⟩
set_option maxHeartbeats 2000000 in
theorem useReplacement_any (n : Nat) (u : Use) (hu : usesL[n]? = some u) (w : World) : Calls Tryz.prog 94 #[.int .i64 (n : Int)] w fun e w' => e = .returned (.bool u.repl) ∧ w' = w := by
  have hn : n < 11 := (List.getElem?_eq_some_iff.1 hu).1
  have hc : n = 0 ∨ n = 1 ∨ n = 2 ∨ n = 3 ∨ n = 4 ∨ n = 5 ∨ n = 6 ∨ n = 7 ∨ n = 8 ∨ n = 9 ∨ n = 10 := by omega
  rcases hc with rfl | rfl | rfl | rfl | rfl | rfl | rfl | rfl | rfl | rfl | rfl
  all_goals
    cases hu
    go_enter Tryz.func94, Tryz.ntmps94
    go_wp2_with fail
    go_ret
    exact ⟨rfl, rfl⟩
theorem any_take {ss : List ByteArray} {j : Nat} {s : ByteArray} (h : ss[j]? = some s) : (ss.take (j + 1)).any longB = ((ss.take j).any longB || longB s) := by
  have hj : j < ss.length := (List.getElem?_eq_some_iff.1 h).1
  rw [List.take_succ_eq_append_getElem hj, List.any_append]
  rw [List.getElem?_eq_getElem hj] at h
  rw [Option.some.inj h]
  simp
theorem all_take {ss : List ByteArray} {j : Nat} {s : ByteArray} (h : ss[j]? = some s) : (ss.take (j + 1)).all nameB = ((ss.take j).all nameB && nameB s) := by
  have hj : j < ss.length := (List.getElem?_eq_some_iff.1 h).1
  rw [List.take_succ_eq_append_getElem hj, List.all_append]
  rw [List.getElem?_eq_getElem hj] at h
  rw [Option.some.inj h]
  simp
theorem not_all {ss : List ByteArray} {j : Nat} {s : ByteArray} (h : ss[j]? = some s) (hn : nameB s = false) : ss.all nameB = false := by
  rw [List.all_eq_false]
  exact ⟨s, List.mem_of_getElem? h, by simp [hn]⟩
set_option maxHeartbeats 8000000 in
set_option maxRecDepth 100000 in
theorem check_no (a : Int) (p : Option Addr) (c : Nat) (ss : List ByteArray) (se re ta rp : ByteArray) (mo : Int) (w : World) (hv : SSo w p ss) (hl : ss.length ≤ 9223372036854775807) (hz : ∀ s ∈ ss, s.size ≤ maxLen) (hta : ta.size ≤ maxLen) (ha : a < 0 ∨ 11 ≤ a) :
    Calls Tryz.prog 63 #[ruleV a (.slice p ss.length c) se re ta rp mo] w fun e w' => e = .returned (.tuple #[.int .i64 ((ruleR a ss se re ta rp mo).1 : Int), .int .i64 ((ruleR a ss se re ta rp mo).2 : Int)]) ∧ Ex [] w w' := by
  obtain ⟨E, hE⟩ : ∃ E, E = ruleR a ss se re ta rp mo := ⟨_, rfl⟩
  rw [← hE]
  have HE := hide hE
  have HV := hide hv
  have HZ := hide hz
  have HTA := hide hta
  obtain ⟨W, hW⟩ : ∃ W, W = w.alloc (Obj.cells #[.int .i64 a, .slice p ss.length c, .string se, .string re, .string ta, .string rp, .int .u64 mo] 118) := ⟨_, rfl⟩
  have hb : BK W w.heap.size (.cells #[.int .i64 a, .slice p ss.length c, .string se, .string re, .string ta, .string rp, .int .u64 mo] 118 (0, 0)) := by rw [hW]; exact BK.new _ _
  have hx : Ex [] w W := by rw [hW]; exact (Ex.refl _ _).alloc _
  obtain ⟨hc, hf⟩ := hb.all
  have x0 : W.cell? ⟨w.heap.size, 0, none⟩ = some (.int .i64 a) := hc 0
  have x1 : W.cell? ⟨w.heap.size, 1, none⟩ = some (.slice p ss.length c) := hc 1
  have x2 : W.cell? ⟨w.heap.size, 2, none⟩ = some (.string se) := hc 2
  have x3 : W.cell? ⟨w.heap.size, 3, none⟩ = some (.string re) := hc 3
  have x4 : W.cell? ⟨w.heap.size, 4, none⟩ = some (.string ta) := hc 4
  have x5 : W.cell? ⟨w.heap.size, 5, none⟩ = some (.string rp) := hc 5
  have x6 : W.cell? ⟨w.heap.size, 6, none⟩ = some (.int .u64 mo) := hc 6
  have hlt := hb.lt
  have HX := hide hx
  have HBK := hide hb
  have HW := hide hW
  unfold ruleV
  clear hE hv hz hta hb hx hc hf hW
  have HR : Hid (E = (1, 0)) := by show _ = _; rw [HE.out]; unfold ruleR; rw [if_pos ha]
  have hcs : a < 0 ∨ (¬ a < 0 ∧ 10 < a) := by omega
  clear ha
  rcases hcs with h | ⟨h, h'⟩
  all_goals
    go_enter Tryz.func63, Tryz.ntmps63
    go_upto_region 1 with fail
    rw [← HW.out]
    go_wp2_with fail
    go_ret2
    exact ⟨by rw [HR.out]; rfl, HX.out⟩
end Go.Proofs.YtgmjjhmnchefbaaGreatDoor.G

/- The document's own check of a rule: of an action that uses no pattern. -/
namespace Go.Proofs.YtgmjjhmnchefbaaGreatDoor.G
open Go.RowKit

set_option maxHeartbeats 8000000 in
set_option maxRecDepth 100000 in
theorem check_nr (a : Int) (p : Option Addr) (c : Nat) (ss : List ByteArray) (se re ta rp : ByteArray) (mo : Int) (w : World) (hv : SSo w p ss) (hl : ss.length ≤ 9223372036854775807) (hz : ∀ s ∈ ss, s.size ≤ maxLen) (hta : ta.size ≤ maxLen) (ha : ¬ (a < 0 ∨ 11 ≤ a)) (hreg : ∀ u, usesL[a.toNat]? = some u → u.regex = false) :
    Calls Tryz.prog 63 #[ruleV a (.slice p ss.length c) se re ta rp mo] w fun e w' => e = .returned (.tuple #[.int .i64 ((ruleR a ss se re ta rp mo).1 : Int), .int .i64 ((ruleR a ss se re ta rp mo).2 : Int)]) ∧ Ex [] w w' := by
  obtain ⟨E, hE⟩ : ∃ E, E = ruleR a ss se re ta rp mo := ⟨_, rfl⟩
  rw [← hE]
  have HE := hide hE
  have HV := hide hv
  have HZ := hide hz
  have HTA := hide hta
  obtain ⟨W, hW⟩ : ∃ W, W = w.alloc (Obj.cells #[.int .i64 a, .slice p ss.length c, .string se, .string re, .string ta, .string rp, .int .u64 mo] 118) := ⟨_, rfl⟩
  have hb : BK W w.heap.size (.cells #[.int .i64 a, .slice p ss.length c, .string se, .string re, .string ta, .string rp, .int .u64 mo] 118 (0, 0)) := by rw [hW]; exact BK.new _ _
  have hx : Ex [] w W := by rw [hW]; exact (Ex.refl _ _).alloc _
  obtain ⟨hc, hf⟩ := hb.all
  have x0 : W.cell? ⟨w.heap.size, 0, none⟩ = some (.int .i64 a) := hc 0
  have x1 : W.cell? ⟨w.heap.size, 1, none⟩ = some (.slice p ss.length c) := hc 1
  have x2 : W.cell? ⟨w.heap.size, 2, none⟩ = some (.string se) := hc 2
  have x3 : W.cell? ⟨w.heap.size, 3, none⟩ = some (.string re) := hc 3
  have x4 : W.cell? ⟨w.heap.size, 4, none⟩ = some (.string ta) := hc 4
  have x5 : W.cell? ⟨w.heap.size, 5, none⟩ = some (.string rp) := hc 5
  have x6 : W.cell? ⟨w.heap.size, 6, none⟩ = some (.int .u64 mo) := hc 6
  have hlt := hb.lt
  have HX := hide hx
  have HBK := hide hb
  have HW := hide hW
  unfold ruleV
  clear hE hv hz hta hb hx hc hf hW
  obtain ⟨n, rfl⟩ : ∃ n : Nat, a = (n : Int) := ⟨a.toNat, by omega⟩
  have hn11 : n < 11 := by omega
  obtain ⟨u, hu⟩ : ∃ u, usesL[n]? = some u := ⟨_, List.getElem?_eq_getElem (by show n < 11; exact hn11)⟩
  have hER : E = makeR n ss se re ta rp mo u (placeM re).isNone ((placeM re).getD 0) := by
    rw [HE.out]
    unfold ruleR
    rw [if_neg ha, Int.toNat_natCast, hu]
  have HER := hide hER
  have HU := hide hu
  have HREG := hide (hreg u (by rw [Int.toNat_natCast]; exact hu))
  have hn0 : ¬ (n : Int) < 0 := by omega
  have hn10 : ¬ (10 : Int) < (n : Int) := by omega
  clear ha hER HE hu hreg
  obtain ⟨B0, hB0⟩ : ∃ B0, B0 = (decide (5 < ss.length) || longB se || longB ta || longB rp) := ⟨_, rfl⟩
  have HB0 := hide hB0
  clear hB0
  go_enter Tryz.func63, Tryz.ntmps63
  go_upto_region 1 with fail
  rw [← HW.out]
  go_upto_region 4 with fail
  go_cut [5] (fun s5 wx => s5 = .bool B0 ∧ wx = W)
  case first =>
    by_cases b1 : 5 < ss.length
    · have i1 : (5 : Int) < (ss.length : Int) := by omega
      go_wp2_with fail
      go_meet
      exact ⟨congrArg Value.bool (by rw [HB0.out]; simp [b1]), rfl⟩
    have i1 : ¬ (5 : Int) < (ss.length : Int) := by omega
    by_cases b2 : 60 < se.size
    · have i2 : (60 : Int) < (se.size : Int) := by omega
      go_wp2_with fail
      go_meet
      exact ⟨congrArg Value.bool (by rw [HB0.out]; simp [b1, b2, longB]), rfl⟩
    have i2 : ¬ (60 : Int) < (se.size : Int) := by omega
    by_cases b3 : 60 < ta.size
    · have i3 : (60 : Int) < (ta.size : Int) := by omega
      go_wp2_with fail
      go_meet
      exact ⟨congrArg Value.bool (by rw [HB0.out]; simp [b1, b2, b3, longB]), rfl⟩
    have i3 : ¬ (60 : Int) < (ta.size : Int) := by omega
    by_cases b4 : 60 < rp.size
    · have i4 : (60 : Int) < (rp.size : Int) := by omega
      go_wp2_with fail
      go_meet
      exact ⟨congrArg Value.bool (by rw [HB0.out]; simp [b1, b2, b3, b4, longB]), rfl⟩
    have i4 : ¬ (60 : Int) < (rp.size : Int) := by omega
    go_wp2_with fail
    go_meet
    exact ⟨congrArg Value.bool (by rw [HB0.out]; simp [b1, b2, b3, b4, longB]), rfl⟩
  case rest =>
  obtain ⟨rfl, hwc⟩ := hcut
  rw [hwc]
  clear hwc
  go_wp2_with fail
  go_loopg [5, 6] ss.length (fun gk v5 v6 wr => ∃ (j : Nat), j + gk = ss.length ∧ v6 = .int .i64 (j : Int) ∧ v5 = .bool (B0 || (ss.take j).any longB) ∧ wr = W)
  case atStart => exact ⟨0, by omega, rfl, by simp, rfl⟩
  case round =>
    obtain ⟨j, hj, rfl, rfl, rfl⟩ := hrel
    cases gk with
    | succ g =>
      have hjl : (j : Int) < (ss.length : Int) := by omega
      obtain ⟨s, hs⟩ : ∃ s, ss[j]? = some s := ⟨_, List.getElem?_eq_getElem (by omega)⟩
      obtain ⟨bb, oo, rfl, hbb, hcc⟩ := HV.out j s hs
      have hc1 : wr.cell? ⟨bb, oo + j, none⟩ = some (.string s) := (HX.out.cell0.1 bb _ hbb).trans hcc
      have hbw : bb < wr.heap.size := Nat.lt_of_lt_of_le hbb HX.out.size
      have HTK := hide (any_take hs)
      obtain ⟨b, hb⟩ : ∃ b, b = (B0 || (ss.take j).any longB) := ⟨_, rfl⟩
      have HB := hide hb
      rw [← hb]
      clear hs hcc hb
      cases b with
      | true =>
        go_wp2_with fail
        go_roundg g
        case measure => omega
        case rel => exact ⟨j + 1, by omega, by simp, congrArg Value.bool (by rw [HTK.out, ← Bool.or_assoc, ← HB.out]; rfl), rfl⟩
      | false =>
        by_cases h60 : 60 < s.size
        · have h60i : (60 : Int) < (s.size : Int) := by omega
          go_wp2_with fail
          go_roundg g
          case measure => omega
          case rel => exact ⟨j + 1, by omega, by simp, congrArg Value.bool (by rw [HTK.out, ← Bool.or_assoc, ← HB.out]; simp [longB, h60]), rfl⟩
        · have h60i : ¬ (60 : Int) < (s.size : Int) := by omega
          go_wp2_with fail
          go_roundg g
          case measure => omega
          case rel => exact ⟨j + 1, by omega, by simp, congrArg Value.bool (by rw [HTK.out, ← Bool.or_assoc, ← HB.out]; simp [longB, h60]), rfl⟩
    | zero =>
      obtain rfl : j = ss.length := by omega
      have hjl : ¬ (ss.length : Int) < (ss.length : Int) := by omega
      obtain ⟨b, hb⟩ : ∃ b, b = (B0 || (ss.take ss.length).any longB) := ⟨_, rfl⟩
      have hbig : b = bigB ss se ta rp := by
        rw [hb, HB0.out, List.take_length]
        unfold bigB
        cases decide (5 < ss.length) <;> cases ss.any longB <;> cases longB se <;> cases longB ta <;> cases longB rp <;> rfl
      rw [← hb]
      have HBIG := hide hbig
      clear hb hbig hj
      cases b with
      | true =>
        have HR : Hid (E = (2, 0)) := by show _ = _; rw [HER.out]; unfold makeR; rw [if_pos HBIG.out.symm]
        go_wp2_with fail
        go_ret2
        exact ⟨by rw [HR.out]; rfl, HX.out⟩
      | false =>
        have HER2 : Hid (E = if (!ss.all nameB) = true then (3, 0) else if (u.regex && !(placeM re).isNone) = true then (4, (placeM re).getD 0) else if (u.target && !targetB (n : Int) ta) = true then (5, 0) else if unusedB ss.length se re ta rp mo u = true then (6, 0) else if (u.modulus && mo == 0) = true then (7, 0) else (0, 0)) := by
          show _ = _
          rw [HER.out]
          unfold makeR
          rw [if_neg (by rw [← HBIG.out]; simp)]
        clear HER HBIG HB0
        go_wp2_with fail
        go_loopg [7] ss.length (fun gk v7 wq => ∃ (j : Nat), j + gk = ss.length ∧ v7 = .int .i64 (j : Int) ∧ (ss.take j).all nameB = true ∧ wq = wr)
        case atStart => exact ⟨0, by omega, rfl, by simp, rfl⟩
        case round =>
          obtain ⟨j, hj, rfl, hall, rfl⟩ := hrel
          have HALL := hide hall
          clear hall
          cases gk with
          | succ g =>
            have hjl : (j : Int) < (ss.length : Int) := by omega
            obtain ⟨s, hs⟩ : ∃ s, ss[j]? = some s := ⟨_, List.getElem?_eq_getElem (by omega)⟩
            obtain ⟨bb, oo, rfl, hbb, hcc⟩ := HV.out j s hs
            have hc1 : wr.cell? ⟨bb, oo + j, none⟩ = some (.string s) := (HX.out.cell0.1 bb _ hbb).trans hcc
            have hbw : bb < wr.heap.size := Nat.lt_of_lt_of_le hbb HX.out.size
            have HTK := hide (all_take hs)
            have HNA := hide (not_all hs)
            have KN := hide (refName s wr (HZ.out s (List.mem_of_getElem? hs)))
            obtain ⟨b, hb⟩ : ∃ b, b = nameB s := ⟨_, rfl⟩
            rw [← hb] at KN HTK HNA
            clear hs hcc hb
            go_wp2_with fail
            refine KN.out.mono ?_
            rintro e w5 ⟨rfl, hw5⟩
            rw [hw5]
            clear hw5 KN
            cases b with
            | false =>
              have HR : Hid (E = (3, 0)) := by show _ = _; rw [HER2.out, HNA.out rfl]; rfl
              go_wp2_with fail
              go_ret2
              exact ⟨by rw [HR.out]; rfl, HX.out⟩
            | true =>
              go_wp2_with fail
              go_roundg g
              case measure => omega
              case rel => exact ⟨j + 1, by omega, by simp, by rw [HTK.out, HALL.out]; rfl, rfl⟩
          | zero =>
            obtain rfl : j = ss.length := by omega
            have hjl : ¬ (ss.length : Int) < (ss.length : Int) := by omega
            have HER3 : Hid (E = if (u.regex && !(placeM re).isNone) = true then (4, (placeM re).getD 0) else if (u.target && !targetB (n : Int) ta) = true then (5, 0) else if unusedB ss.length se re ta rp mo u = true then (6, 0) else if (u.modulus && mo == 0) = true then (7, 0) else (0, 0)) := by
              show _ = _
              have h9 := HALL.out
              rw [List.take_length] at h9
              rw [HER2.out, h9]
              rfl
            have K1 := hide (fun w => useRegex_any n u HU.out w)
            have K2 := hide (fun w => useTarget_any n u HU.out w)
            have K3 := hide (fun w => useSources_any n u HU.out w)
            have K4 := hide (fun w => useReplacement_any n u HU.out w)
            have K5 := hide (fun w => refName ta w HTA.out)
            obtain ⟨ur, hur⟩ : ∃ b, b = u.regex := ⟨_, rfl⟩
            obtain ⟨ut, hut⟩ : ∃ b, b = u.target := ⟨_, rfl⟩
            obtain ⟨us, hus⟩ : ∃ b, b = u.text := ⟨_, rfl⟩
            obtain ⟨up, hup⟩ : ∃ b, b = u.repl := ⟨_, rfl⟩
            obtain ⟨tn, htn⟩ : ∃ b, b = nameB ta := ⟨_, rfl⟩
            rw [← hur] at K1 HER3
            rw [← hut] at K2 HER3
            rw [← hus] at K3
            rw [← hup] at K4
            rw [← htn] at K5
            obtain ⟨um, hum⟩ : ∃ b, b = u.modulus := ⟨_, rfl⟩
            have HUM := hide hum
            have HUF := hide (And.intro hur (And.intro hut (And.intro hus hup)))
            have HTN := hide htn
            clear hj HER2 HALL hur hut hus hup htn hum
            go_wp2_with fail
            refine (K1.out _).mono ?_
            rintro e w5 ⟨rfl, hw5⟩
            rw [hw5]
            clear hw5
            obtain rfl : ur = false := HUF.out.1.trans HREG.out
            have HER4 : Hid (E = if (ut && !targetB (n : Int) ta) = true then (5, 0) else if unusedB ss.length se re ta rp mo u = true then (6, 0) else if (u.modulus && mo == 0) = true then (7, 0) else (0, 0)) := by show _ = _; rw [HER3.out]; rfl
            clear HER3
            go_wp2_with fail
            refine (K2.out _).mono ?_
            rintro e w6 ⟨rfl, hw6⟩
            rw [hw6]
            clear hw6
            go_wp2_with fail
            refine (K5.out _).mono ?_
            rintro e w6 ⟨rfl, hw6⟩
            rw [hw6]
            clear hw6
            obtain ⟨T, hT⟩ : ∃ T, T = (ut && !targetB (n : Int) ta) := ⟨_, rfl⟩
            have HT := hide hT
            rw [← hT] at HER4
            clear hT
            go_upto_region 24 with fail
            go_cut [116] (fun s wx => s = .bool T ∧ wx = wr)
            case first =>
              cases ut with
              | false =>
                go_wp2_with fail
                go_meet
                exact ⟨congrArg Value.bool (by rw [HT.out]; rfl), rfl⟩
              | true =>
                by_cases h0 : n = 0
                · have q0 : ((n : Int) == 0) = true := by rw [h0]; rfl
                  have q0' : ((n : Int) != 0) = false := by rw [h0]; rfl
                  have ht0 : targetB (n : Int) ta = !(ta.size == 0) := by unfold targetB; rw [if_pos (by omega)]
                  have HT0 := hide ht0
                  clear h0 ht0
                  by_cases h_ta : ta.size = 0
                  · have e_ta : ta.toList.isEmpty = true := by rw [empty_size]; exact beq_iff_eq.2 h_ta
                    go_wp2_with fail
                    go_meet
                    exact ⟨congrArg Value.bool (by rw [HT.out, HT0.out]; simp [h_ta]), rfl⟩
                  · have e_ta : ta.toList.isEmpty = false := by rw [empty_size]; exact beq_eq_false_iff_ne.2 h_ta
                    go_wp2_with fail
                    go_meet
                    exact ⟨congrArg Value.bool (by rw [HT.out, HT0.out]; simp [h_ta]), rfl⟩
                · have q0 : ((n : Int) == 0) = false := by rw [beq_eq_false_iff_ne]; omega
                  have q0' : ((n : Int) != 0) = true := by rw [bne_iff_ne]; omega
                  have ht0 : targetB (n : Int) ta = tn := by unfold targetB; rw [if_neg (by omega), HTN.out]
                  have HT0 := hide ht0
                  clear h0 ht0
                  cases tn with
                  | false =>
                    go_wp2_with fail
                    go_meet
                    exact ⟨congrArg Value.bool (by rw [HT.out, HT0.out]; rfl), rfl⟩
                  | true =>
                    go_wp2_with fail
                    go_meet
                    exact ⟨congrArg Value.bool (by rw [HT.out, HT0.out]; rfl), rfl⟩
            case rest =>
            obtain ⟨rfl, hwc⟩ := hcut
            rw [hwc]
            clear hwc
            cases T with
            | true =>
              have HR : Hid (E = (5, 0)) := by show _ = _; rw [HER4.out]; rfl
              go_wp2_with fail
              go_ret2
              exact ⟨by rw [HR.out]; rfl, HX.out⟩
            | false =>
              have HER5 : Hid (E = if unusedB ss.length se re ta rp mo u = true then (6, 0) else if (u.modulus && mo == 0) = true then (7, 0) else (0, 0)) := by show _ = _; rw [HER4.out]; rfl
              clear HER4
              go_wp2_with fail
              refine (K3.out _).mono ?_
              rintro e w6 ⟨rfl, hw6⟩
              rw [hw6]
              clear hw6
              go_wp2_with fail
              refine (K4.out _).mono ?_
              rintro e w6 ⟨rfl, hw6⟩
              rw [hw6]
              clear hw6
              obtain ⟨UN, hUN⟩ : ∃ x, x = unusedB ss.length se re ta rp mo u := ⟨_, rfl⟩
              rw [← hUN] at HER5
              have HUN0 := hide hUN
              clear hUN
              go_upto_region 28 with fail
              go_cut [169] (fun s wx => s = .bool UN ∧ wx = wr)
              case first =>
                have hpp : ((n = 3 ∨ n = 4 ∨ n = 9 ∨ n = 10) ∧ ut = true ∧ us = true ∧ up = false ∧ um = false) ∨ ((n = 5) ∧ ut = true ∧ us = true ∧ up = false ∧ um = true) := by
                  obtain ⟨h1, h2, h3, h4⟩ := HUF.out
                  have hu9 := HU.out
                  have h5 := HUM.out
                  have hnc : n = 0 ∨ n = 1 ∨ n = 2 ∨ n = 3 ∨ n = 4 ∨ n = 5 ∨ n = 6 ∨ n = 7 ∨ n = 8 ∨ n = 9 ∨ n = 10 := by omega
                  rcases hnc with rfl | rfl | rfl | rfl | rfl | rfl | rfl | rfl | rfl | rfl | rfl <;> (cases hu9; dsimp only at h1 h2 h3 h4 h5; subst h2 h3 h4 h5; first | (cases h1; done) | (simp; done) | (exfalso; omega))
                have HUN : Hid (UN = unusedB ss.length se re ta rp mo ⟨us, false, ut, up, um⟩) := by
                  obtain ⟨h1, h2, h3, h4⟩ := HUF.out
                  have h5 := HUM.out
                  show _ = _
                  rw [HUN0.out]
                  obtain ⟨v1, v2, v3, v4, v5⟩ := u
                  dsimp only at h1 h2 h3 h4 h5
                  rw [h2, h3, h4, h5, ← h1]
                have HUD : Hid True := trivial
                clear K1 K2 K3 K4 K5 HUN0 HUF HUM HER5 HT
                rcases hpp with hp | hp
                · have q5 : ((n : Int) != 5) = true := by rw [bne_iff_ne]; omega
                  obtain ⟨rfl, rfl, rfl, rfl⟩ := hp.2
                  clear hp
                  by_cases h_re : re.size = 0
                  rotate_left
                  · have e_re : re.toList.isEmpty = false := by rw [empty_size]; exact beq_eq_false_iff_ne.2 h_re
                    go_wp2_with fail
                    go_meet
                    exact ⟨congrArg Value.bool (by rw [HUN.out]; simp [unusedB, h_re]), rfl⟩
                  · have e_re : re.toList.isEmpty = true := by rw [empty_size]; exact beq_iff_eq.2 h_re
                    by_cases h_rp : rp.size = 0
                    rotate_left
                    · have e_rp : rp.toList.isEmpty = false := by rw [empty_size]; exact beq_eq_false_iff_ne.2 h_rp
                      go_wp2_with fail
                      go_meet
                      exact ⟨congrArg Value.bool (by rw [HUN.out]; simp [unusedB, h_re, h_rp]), rfl⟩
                    · have e_rp : rp.toList.isEmpty = true := by rw [empty_size]; exact beq_iff_eq.2 h_rp
                      by_cases h_mo : mo = 0
                      rotate_left
                      · have b_mo : (mo != 0) = true := bne_iff_ne.2 h_mo
                        go_wp2_with fail
                        go_meet
                        exact ⟨congrArg Value.bool (by rw [HUN.out]; simp [unusedB, h_re, h_rp, h_mo]), rfl⟩
                      · subst h_mo
                        go_wp2_with fail
                        go_meet
                        exact ⟨congrArg Value.bool (by rw [HUN.out]; simp [unusedB, h_re, h_rp]), rfl⟩
                · have q5 : ((n : Int) != 5) = false := by rw [hp.1]; rfl
                  obtain ⟨rfl, rfl, rfl, rfl⟩ := hp.2
                  clear hp
                  by_cases h_re : re.size = 0
                  rotate_left
                  · have e_re : re.toList.isEmpty = false := by rw [empty_size]; exact beq_eq_false_iff_ne.2 h_re
                    go_wp2_with fail
                    go_meet
                    exact ⟨congrArg Value.bool (by rw [HUN.out]; simp [unusedB, h_re]), rfl⟩
                  · have e_re : re.toList.isEmpty = true := by rw [empty_size]; exact beq_iff_eq.2 h_re
                    by_cases h_rp : rp.size = 0
                    rotate_left
                    · have e_rp : rp.toList.isEmpty = false := by rw [empty_size]; exact beq_eq_false_iff_ne.2 h_rp
                      go_wp2_with fail
                      go_meet
                      exact ⟨congrArg Value.bool (by rw [HUN.out]; simp [unusedB, h_re, h_rp]), rfl⟩
                    · have e_rp : rp.toList.isEmpty = true := by rw [empty_size]; exact beq_iff_eq.2 h_rp
                      go_wp2_with fail
                      go_meet
                      exact ⟨congrArg Value.bool (by rw [HUN.out]; simp [unusedB, h_re, h_rp]), rfl⟩
              case rest =>
              obtain ⟨rfl, hwc⟩ := hcut
              rw [hwc]
              clear hwc
              cases UN with
              | true =>
                have HR : Hid (E = (6, 0)) := by show _ = _; rw [HER5.out]; rfl
                go_wp2_with fail
                go_ret2
                exact ⟨by rw [HR.out]; rfl, HX.out⟩
              | false =>
                have HER6 : Hid (E = if (u.modulus && mo == 0) = true then (7, 0) else (0, 0)) := by show _ = _; rw [HER5.out]; rfl
                have hmod : u.modulus = decide (n = 5) := by
                  have hu9 := HU.out
                  have hnc : n = 0 ∨ n = 1 ∨ n = 2 ∨ n = 3 ∨ n = 4 ∨ n = 5 ∨ n = 6 ∨ n = 7 ∨ n = 8 ∨ n = 9 ∨ n = 10 := by omega
                  rcases hnc with rfl | rfl | rfl | rfl | rfl | rfl | rfl | rfl | rfl | rfl | rfl <;> (cases hu9; rfl)
                have HMOD := hide hmod
                clear hmod HER5
                by_cases h5 : n = 5
                · have q5 : ((n : Int) == 5) = true := by rw [h5]; rfl
                  by_cases hm0 : mo = 0
                  · have HR : Hid (E = (7, 0)) := by show _ = _; rw [HER6.out, HMOD.out]; simp [h5, hm0]
                    subst hm0
                    clear h5
                    go_wp2_with fail
                    go_ret2
                    exact ⟨by rw [HR.out]; rfl, HX.out⟩
                  · have HR : Hid (E = (0, 0)) := by show _ = _; rw [HER6.out, HMOD.out]; simp [h5, hm0]
                    have b_mo : (mo == 0) = false := beq_eq_false_iff_ne.2 hm0
                    clear h5
                    go_wp2_with fail
                    go_ret2
                    exact ⟨by rw [HR.out]; rfl, HX.out⟩
                · have q5 : ((n : Int) == 5) = false := by rw [beq_eq_false_iff_ne]; omega
                  have HR : Hid (E = (0, 0)) := by show _ = _; rw [HER6.out, HMOD.out]; simp [h5]
                  clear h5
                  go_wp2_with fail
                  go_ret2
                  exact ⟨by rw [HR.out]; rfl, HX.out⟩
end Go.Proofs.YtgmjjhmnchefbaaGreatDoor.G
