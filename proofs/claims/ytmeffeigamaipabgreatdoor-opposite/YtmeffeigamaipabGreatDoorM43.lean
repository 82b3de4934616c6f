/- T15b T19, one behind the other. -/
import Derived.Test.YtmeffeigamaipabGreatDoorM42
import Derived.Test.YtmeffeigamaipabGreatDoorM40
import Derived.Test.YtmeffeigamaipabGreatDoorM41
set_option linter.unusedVariables false
set_option linter.unusedSimpArgs false
/- The statements' own rules: the first action. -/
namespace Go.Proofs.YtmeffeigamaipabGreatDoor.G
open Go.RowKit

theorem wrap64_rng (x : Int) : -9223372036854775808 ≤ wrap64 x ∧ wrap64 x ≤ 9223372036854775807 := by
  unfold wrap64
  omega
theorem pickI_nat (c n : Int) (hn : 0 < n) : ∃ k : Nat, (k : Int) = pickI c n ∧ (k : Int) < n := by
  have h := pickI_rng c n hn
  exact ⟨(pickI c n).toNat, by omega, by omega⟩

set_option maxHeartbeats 8000000 in
set_option maxRecDepth 100000 in
theorem rule_zero (a : Int) (rp0 : Option Addr) (rc : Nat) (rs : List ByteArray) (rse rre rta rrp : ByteArray) (rmo : Int) (w : World) (ha : -9223372036854775808 ≤ a ∧ a ≤ 9223372036854775807) (hk : pickI a 11 = 0) (hv : SSo w rp0 rs) (hn : rs.length ≤ 9223372036854775807) (hz : ∀ s ∈ rs, s.size ≤ 9223372036854775807) (hse : rse.size ≤ 9223372036854775807) (hta : rta.size ≤ 9223372036854775807) (hre : rre.size ≤ 9223372036854775807) (hrp : rrp.size ≤ 9223372036854775807) :
    Calls Tryz.prog 19 #[ruleV a (.slice rp0 rs.length rc) rse rre rta rrp rmo] w fun x w' => ∃ p c ss se re ta rp, x = .returned (ruleV 0 (.slice p ss.length c) se re ta rp 0) ∧ RuleOK w' p c ss se re ∧ Ex [] w w' := by
  obtain ⟨i0, hi, hz0, hz1, hz2⟩ := info_parts infoStr'
  have HV := hide hv
  have HZ := hide hz
  obtain ⟨n, hnn⟩ : ∃ n, n = rs.length := ⟨_, rfl⟩
  have HNN := hide hnn
  rw [← hnn] at hn ⊢
  unfold ruleV
  clear hv hz hnn
  go_enter Tryz.func19, Tryz.ntmps19
  go_wp2_with fail
  refine (pick_val a 11 _ (by omega) (by omega) ha).mono ?_
  rintro x w1 ⟨rfl, rfl⟩
  rw [hk]
  go_wp2_with fail
  generalize hW : World.alloc _ _ = W
  have b0 : BK W w.heap.size (.cells #[.int .i64 a, .slice rp0 n rc, .string rse, .string rre, .string rta, .string rrp, .int .u64 rmo] 37 (0, 0)) := by rw [← hW]; exact ((((BK.new _ _).alloc _).alloc _).alloc _).alloc _
  have b1 : BK W (w.heap.size + 1) (.cells #[.int .i64 0, .slice none 0 0, .string ⟨#[]⟩, .string ⟨#[]⟩, .string ⟨#[]⟩, .string ⟨#[]⟩, .int .u64 0] 37 (0, 0)) := by rw [← hW]; exact (((bk1 _ _ _).alloc _).alloc _).alloc _
  have b2 : ∃ cs, BK W (w.heap.size + 1 + 1) (.cells cs 84 (0, 0)) ∧ cs = (pats.map Value.string).toArray := by rw [← hW]; exact ⟨_, ((bk2 _ _ _ _).alloc _).alloc _, rfl⟩
  have b3 : ∃ cs, BK W (w.heap.size + 1 + 1 + 1) (.cells cs 85 (0, 0)) ∧ cs = (texts.map Value.string).toArray := by rw [← hW]; exact ⟨_, (bk3 _ _ _ _ _).alloc _, rfl⟩
  have b4 : BK W (w.heap.size + 1 + 1 + 1 + 1) (.cells #[.int .i64 0, .slice none 0 0, .string ⟨#[]⟩, .string ⟨#[]⟩, .string ⟨#[]⟩, .string ⟨#[]⟩, .int .u64 0] 37 (0, 0)) := by rw [← hW]; exact bk4 _ _ _ _ _ _
  have hxW : Ex [] w W := by rw [← hW]; exact (((((Ex.refl _ _).alloc _).alloc _).alloc _).alloc _).alloc _
  have hzW : W.heap.size = w.heap.size + 5 := by rw [← hW]; simp
  have HZW := hide hzW
  have HB0 := hide b0
  have HB1 := hide b1
  have HB2 := hide b2
  have HB3 := hide b3
  have HB4 := hide b4
  have HXW := hide hxW
  clear hW b0 b1 b2 b3 b4 hxW hzW hk
  go_loopg [6] (min n 3) (fun gk i6 wr => ∃ (j : Nat) (ss : List ByteArray) (v4 : Value), j + gk = min n 3 ∧ i6 = .int .i64 j ∧ ss.length = j ∧ (∀ s ∈ ss, nameB s = true) ∧ BK wr (w.heap.size + 1 + 1 + 1 + 1) (.cells #[.int .i64 0, v4, .string ⟨#[]⟩, .string ⟨#[]⟩, .string ⟨#[]⟩, .string ⟨#[]⟩, .int .u64 0] 37 (0, 0)) ∧ wr.ownsRow W.heap.size 9 1 v4 j (ss.map Value.string) ∧ Ex [w.heap.size + 1 + 1 + 1 + 1] W wr)
  case atStart => exact ⟨0, [], _, by omega, rfl, rfl, fun _ h => by simp at h, HB4.out, World.ownsRow_nil _ _ _ _, Ex.refl _ _⟩
  case round =>
    obtain ⟨j, ss, v4, hj, rfl, hsj, hsn, hb4, hown, hx⟩ := hrel
    have HSJ := hide hsj
    have HSN := hide hsn
    have HB4r := hide hb4
    have HO := hide hown
    have HX := hide hx
    have hzr := hx.size
    have hz5 := HZW.out
    obtain ⟨p4, c4, rfl⟩ := own_slice hown
    have hb0 := HB0.out.ex hx (by simp <;> omega)
    have HB0r := hide hb0
    obtain ⟨hc0, hf0⟩ := hb0.all
    obtain ⟨hc4, hf4⟩ := hb4.all
    have hl0 := hb0.lt
    have hl4 := hb4.lt
    cases gk with
    | zero =>
      have KS := hide (fun (w' : World) => short_any rse 3 w' hse (by omega))
      have KN := hide (fun (w' : World) => name_any (rta.size : Int) w' ⟨by omega, by omega⟩)
      have hb1 := HB1.out.ex hx (by simp <;> omega)
      have HB1r := hide hb1
      have hl1 := hb1.lt
      clear hown hx hsj hsn hb4 hb0 hb1
      by_cases h8 : j < n
      · have h1 : (j : Int) < (n : Int) := by omega
        have h2 : ¬ ((j : Int) < 3) := by omega
        go_wp2_with fail
        refine (KS.out _).mono ?_
        rintro x w2 ⟨se, rfl, hse', hw2⟩
        rw [hw2]
        clear hw2
        go_wp2_with fail
        refine (pick_val _ 12 _ (by omega) (by omega) (wrap64_rng _)).mono ?_
        rintro x w3 ⟨rfl, hw3⟩
        rw [hw3]
        clear hw3
        obtain ⟨k2, hk2, hk2l⟩ := pickI_nat (wrap64 (↑rre.size + a.tdiv 11)) 12 (by omega)
        rw [← hk2]
        obtain ⟨cs2, b2, eb2⟩ := HB2.out
        obtain ⟨re, hre1, hre2⟩ := strs_at (b2.ex HX.out (by simp)) eb2 k2 (by show k2 < 12; omega)
        have hk2i : (k2 : Int) < 12 := by omega
        have HRE := hide hre1
        clear hk2 b2 eb2 hre1
        go_wp2_with fail
        refine (KN.out _).mono ?_
        rintro x w4 ⟨ta, rfl, hta', hx4⟩
        have b4s := BK.self (BK.self HB4r.out 2 (.string se)) 3 (.string re)
        simp only [List.setIfInBounds_toArray, List.set_cons_zero, List.set_cons_succ] at b4s
        have b43 := b4s.ex hx4 (by simp)
        have b03 := ((HB0r.out.set (p := ⟨w.heap.size + 1 + 1 + 1 + 1, 2, none⟩) (by simp <;> omega) (.string se)).set (p := ⟨w.heap.size + 1 + 1 + 1 + 1, 3, none⟩) (by simp <;> omega) (.string re)).ex hx4 (by simp)
        have b13 := ((HB1r.out.set (p := ⟨w.heap.size + 1 + 1 + 1 + 1, 2, none⟩) (by simp <;> omega) (.string se)).set (p := ⟨w.heap.size + 1 + 1 + 1 + 1, 3, none⟩) (by simp <;> omega) (.string re)).ex hx4 (by simp)
        obtain ⟨cs3, b3, eb3⟩ := HB3.out
        have b33 := (((b3.ex HX.out (by simp)).set (p := ⟨w.heap.size + 1 + 1 + 1 + 1, 2, none⟩) (by simp <;> omega) (.string se)).set (p := ⟨w.heap.size + 1 + 1 + 1 + 1, 3, none⟩) (by simp <;> omega) (.string re)).ex hx4 (by simp)
        have HB43 := hide b43
        have HB13 := hide b13
        have HX3 := hide (((((Ex.refl [w.heap.size + 1 + 1 + 1 + 1] wr).setCell (Or.inl (by simp)) (.string se)).setCell (Or.inl (by simp)) (.string re)) : Ex [w.heap.size + 1 + 1 + 1 + 1] wr ((wr.setCell ⟨w.heap.size + 1 + 1 + 1 + 1, 2, none⟩ (.string se)).setCell ⟨w.heap.size + 1 + 1 + 1 + 1, 3, none⟩ (.string re))).trans (hx4.drop (by simp)))
        have hown3 := own_ex HO.out HX3.out (by simp <;> omega)
        have HO3 := hide hown3
        have HSE := hide hse'
        clear hc0 hf0 hc4 hf4 hx4 b4s hown3 hse' hta' hre2
        obtain ⟨hc4, hf4⟩ := b43.all
        obtain ⟨hc0, hf0⟩ := b03.all
        obtain ⟨hc1, hf1⟩ := b13.all
        have hl43 := b43.lt
        have hl03 := b03.lt
        have hl13 := b13.lt
        have hl33 := b33.lt
        have HB33 := hide b33
        clear b43 b03 b13 b33 b3
        go_wp2_with fail
        refine (pick_val _ 10 _ (by omega) (by omega) (wrap64_rng _)).mono ?_
        rintro x w5 ⟨rfl, hw5⟩
        rw [hw5]
        clear hw5
        obtain ⟨k3, hk3, hk3l⟩ := pickI_nat (wrap64 (↑rrp.size + a.tdiv 11)) 10 (by omega)
        rw [← hk3]
        obtain ⟨rp, hrp1, hrp2⟩ := strs_at HB33.out eb3 k3 (by show k3 < 10; omega)
        have hk3i : (k3 : Int) < 10 := by omega
        clear hk3 hrp1 eb3
        go_wp2_with fail
        have hbF := ((((((((HB13.out.set (p := ⟨w.heap.size + 1 + 1 + 1 + 1, 4, none⟩) (by simp <;> omega) (.string ta)).set (p := ⟨w.heap.size + 1 + 1 + 1 + 1, 5, none⟩) (by simp <;> omega) (.string rp)).self 0 (.int .i64 0)).self 1 (.slice p4 j c4)).self 2 (.string se)).self 3 (.string re)).self 4 (.string ta)).self 5 (.string rp)).self 6 (.int .u64 0)
        simp only [List.setIfInBounds_toArray, List.set_cons_zero, List.set_cons_succ] at hbF
        have hlF := run_loadVar_mid (P := Tryz.prog) _ (w.heap.size + 1) 0 37 [.int .i64 0, .slice p4 j c4, .string se, .string re, .string ta, .string rp, .int .u64 0] _ hbF.rangeL Tryz.underlying37 rfl (by kernel_rfl)
        refine bodyPost_ret (results_cell1 rfl rfl hlF) rfl ⟨p4, c4, ss, se, re, ta, rp, by rw [HSJ.out], ⟨?_, by have := HSJ.out; omega, HSN.out, HSE.out, HRE.out⟩, ?_⟩
        · refine own_ss (base := W.heap.size) ?_
          rw [HSJ.out]
          iterate 9 (refine own_set ?_ (by simp <;> omega) _)
          exact HO3.out
        · refine Ex.drop (l := [w.heap.size + 1 + 1 + 1 + 1, w.heap.size + 1]) ?_ (by simp <;> omega)
          iterate 9 (refine Ex.setCell ?_ (Or.inl (by simp)) _)
          exact ((HXW.out.drop (by simp)).trans (HX.out.drop (by simp))).trans (HX3.out.drop (by simp))
      · have h1 : ¬ ((j : Int) < (n : Int)) := by omega
        go_wp2_with fail
        refine (KS.out _).mono ?_
        rintro x w2 ⟨se, rfl, hse', hw2⟩
        rw [hw2]
        clear hw2
        go_wp2_with fail
        refine (pick_val _ 12 _ (by omega) (by omega) (wrap64_rng _)).mono ?_
        rintro x w3 ⟨rfl, hw3⟩
        rw [hw3]
        clear hw3
        obtain ⟨k2, hk2, hk2l⟩ := pickI_nat (wrap64 (↑rre.size + a.tdiv 11)) 12 (by omega)
        rw [← hk2]
        obtain ⟨cs2, b2, eb2⟩ := HB2.out
        obtain ⟨re, hre1, hre2⟩ := strs_at (b2.ex HX.out (by simp)) eb2 k2 (by show k2 < 12; omega)
        have hk2i : (k2 : Int) < 12 := by omega
        have HRE := hide hre1
        clear hk2 b2 eb2 hre1
        go_wp2_with fail
        refine (KN.out _).mono ?_
        rintro x w4 ⟨ta, rfl, hta', hx4⟩
        have b4s := BK.self (BK.self HB4r.out 2 (.string se)) 3 (.string re)
        simp only [List.setIfInBounds_toArray, List.set_cons_zero, List.set_cons_succ] at b4s
        have b43 := b4s.ex hx4 (by simp)
        have b03 := ((HB0r.out.set (p := ⟨w.heap.size + 1 + 1 + 1 + 1, 2, none⟩) (by simp <;> omega) (.string se)).set (p := ⟨w.heap.size + 1 + 1 + 1 + 1, 3, none⟩) (by simp <;> omega) (.string re)).ex hx4 (by simp)
        have b13 := ((HB1r.out.set (p := ⟨w.heap.size + 1 + 1 + 1 + 1, 2, none⟩) (by simp <;> omega) (.string se)).set (p := ⟨w.heap.size + 1 + 1 + 1 + 1, 3, none⟩) (by simp <;> omega) (.string re)).ex hx4 (by simp)
        obtain ⟨cs3, b3, eb3⟩ := HB3.out
        have b33 := (((b3.ex HX.out (by simp)).set (p := ⟨w.heap.size + 1 + 1 + 1 + 1, 2, none⟩) (by simp <;> omega) (.string se)).set (p := ⟨w.heap.size + 1 + 1 + 1 + 1, 3, none⟩) (by simp <;> omega) (.string re)).ex hx4 (by simp)
        have HB43 := hide b43
        have HB13 := hide b13
        have HX3 := hide (((((Ex.refl [w.heap.size + 1 + 1 + 1 + 1] wr).setCell (Or.inl (by simp)) (.string se)).setCell (Or.inl (by simp)) (.string re)) : Ex [w.heap.size + 1 + 1 + 1 + 1] wr ((wr.setCell ⟨w.heap.size + 1 + 1 + 1 + 1, 2, none⟩ (.string se)).setCell ⟨w.heap.size + 1 + 1 + 1 + 1, 3, none⟩ (.string re))).trans (hx4.drop (by simp)))
        have hown3 := own_ex HO.out HX3.out (by simp <;> omega)
        have HO3 := hide hown3
        have HSE := hide hse'
        clear hc0 hf0 hc4 hf4 hx4 b4s hown3 hse' hta' hre2
        obtain ⟨hc4, hf4⟩ := b43.all
        obtain ⟨hc0, hf0⟩ := b03.all
        obtain ⟨hc1, hf1⟩ := b13.all
        have hl43 := b43.lt
        have hl03 := b03.lt
        have hl13 := b13.lt
        have hl33 := b33.lt
        have HB33 := hide b33
        clear b43 b03 b13 b33 b3
        go_wp2_with fail
        refine (pick_val _ 10 _ (by omega) (by omega) (wrap64_rng _)).mono ?_
        rintro x w5 ⟨rfl, hw5⟩
        rw [hw5]
        clear hw5
        obtain ⟨k3, hk3, hk3l⟩ := pickI_nat (wrap64 (↑rrp.size + a.tdiv 11)) 10 (by omega)
        rw [← hk3]
        obtain ⟨rp, hrp1, hrp2⟩ := strs_at HB33.out eb3 k3 (by show k3 < 10; omega)
        have hk3i : (k3 : Int) < 10 := by omega
        clear hk3 hrp1 eb3
        go_wp2_with fail
        have hbF := ((((((((HB13.out.set (p := ⟨w.heap.size + 1 + 1 + 1 + 1, 4, none⟩) (by simp <;> omega) (.string ta)).set (p := ⟨w.heap.size + 1 + 1 + 1 + 1, 5, none⟩) (by simp <;> omega) (.string rp)).self 0 (.int .i64 0)).self 1 (.slice p4 j c4)).self 2 (.string se)).self 3 (.string re)).self 4 (.string ta)).self 5 (.string rp)).self 6 (.int .u64 0)
        simp only [List.setIfInBounds_toArray, List.set_cons_zero, List.set_cons_succ] at hbF
        have hlF := run_loadVar_mid (P := Tryz.prog) _ (w.heap.size + 1) 0 37 [.int .i64 0, .slice p4 j c4, .string se, .string re, .string ta, .string rp, .int .u64 0] _ hbF.rangeL Tryz.underlying37 rfl (by kernel_rfl)
        refine bodyPost_ret (results_cell1 rfl rfl hlF) rfl ⟨p4, c4, ss, se, re, ta, rp, by rw [HSJ.out], ⟨?_, by have := HSJ.out; omega, HSN.out, HSE.out, HRE.out⟩, ?_⟩
        · refine own_ss (base := W.heap.size) ?_
          rw [HSJ.out]
          iterate 9 (refine own_set ?_ (by simp <;> omega) _)
          exact HO3.out
        · refine Ex.drop (l := [w.heap.size + 1 + 1 + 1 + 1, w.heap.size + 1]) ?_ (by simp <;> omega)
          iterate 9 (refine Ex.setCell ?_ (Or.inl (by simp)) _)
          exact ((HXW.out.drop (by simp)).trans (HX.out.drop (by simp))).trans (HX3.out.drop (by simp))
    | succ g =>
      have h1 : (j : Int) < (n : Int) := by omega
      have h2 : (j : Int) < 3 := by omega
      have hjl : j < rs.length := by rw [← HNN.out]; omega
      obtain ⟨l, hl⟩ : ∃ l, rs[j]? = some l := ⟨_, List.getElem?_eq_getElem hjl⟩
      obtain ⟨b, off, hpb, hbw, hb, cs⟩ : ∃ b off, rp0 = some ⟨b, off, none⟩ ∧ b < w.heap.size ∧ b < wr.heap.size ∧ wr.cell? ⟨b, off + j, none⟩ = some (.string l) := by
        obtain ⟨b, off, e1, hb, hc⟩ := HV.out j l hl
        have e4 : W.cell? ⟨b, off + j, none⟩ = some (.string l) := (HXW.out.cell0.1 b (off + j) hb).trans hc
        exact ⟨b, off, e1, hb, by omega, (hx.cell.1 b (off + j) (by omega) (by simp <;> omega)).trans e4⟩
      subst hpb
      have hlz := HZ.out l (List.mem_of_getElem? hl)
      have KN := hide (fun (w' : World) => name_any (l.size : Int) w' ⟨by omega, by omega⟩)
      obtain ⟨xs, hxs⟩ : ∃ xs, xs = ss.map Value.string := ⟨_, rfl⟩
      have HXS := hide hxs
      rw [← hxs] at HO
      have t1 : wr.cell? ⟨w.heap.size, 1, none⟩ = some (.slice (some ⟨b, off, none⟩) n rc) := hc0 1
      have t4 : wr.cell? ⟨w.heap.size + 1 + 1 + 1 + 1, 1, none⟩ = some (.slice p4 j c4) := hc4 1
      have hbB : b ≠ w.heap.size + 1 + 1 + 1 + 1 := by omega
      clear hown hx hl hsj hsn hb4 hb0 hxs
      go_wp2_with fail
      clear hc0 hc4
      refine wp_region_J (by kernel_rfl) ?_
      refine wpAny_take (i := 0) (v := ?_) rfl (by kernel_rfl) (by kernel_rfl) (by kernel_rfl) (fun _ _ _ h => h) (Or.inl ⟨by rfl, ?_⟩) ?_
      rotate_left
      · intro w'
        go_simp
        try with_reducible rfl
      simp only [Act.put, List.setIfInBounds_toArray, List.set_cons_zero, List.set_cons_succ, List.getElem_toArray, List.getElem_cons_zero, List.getElem_cons_succ, List.replicate, Array.replicate, List.size_toArray, List.length_cons, List.length_nil]
      refine wpAny_take (i := 2) (v := ?_) rfl (by kernel_rfl) (by kernel_rfl) (by kernel_rfl) (fun _ _ _ h => h) (Or.inl ⟨by rfl, ?_⟩) ?_
      rotate_left
      · intro w'
        go_simp
        try with_reducible rfl
      simp only [Act.put, List.setIfInBounds_toArray, List.set_cons_zero, List.set_cons_succ, List.getElem_toArray, List.getElem_cons_zero, List.getElem_cons_succ, List.replicate, Array.replicate, List.size_toArray, List.length_cons, List.length_nil]
      refine wpAny_take (i := 4) (v := ?_) rfl (by kernel_rfl) (by kernel_rfl) (by kernel_rfl) (fun _ _ _ h => h) (Or.inl ⟨by rfl, ?_⟩) ?_
      rotate_left
      · intro w'
        go_simp
        try with_reducible rfl
      simp only [Act.put, List.setIfInBounds_toArray, List.set_cons_zero, List.set_cons_succ, List.getElem_toArray, List.getElem_cons_zero, List.getElem_cons_succ, List.replicate, Array.replicate, List.size_toArray, List.length_cons, List.length_nil]
      refine wpAny_of_J (S := (fun oi w' => oi < 12 → w'.cell? ⟨w.heap.size, 1, none⟩ = some (.slice (some ⟨b, off, none⟩) n rc) ∧ w'.cell? ⟨b, off + j, none⟩ = some (.string l) ∧ w'.cell? ⟨w.heap.size + 1 + 1 + 1 + 1, 1, none⟩ = some (.slice p4 j c4))) _ _ _ _ ?_
      refine wpAnyJ_take (i := 1) (T := (fun w' => w'.cell? ⟨w.heap.size, 1, none⟩ = some (.slice (some ⟨b, off, none⟩) n rc) ∧ w'.cell? ⟨b, off + j, none⟩ = some (.string l) ∧ w'.cell? ⟨w.heap.size + 1 + 1 + 1 + 1, 1, none⟩ = some (.slice p4 j c4))) (v := ?_) (fun oi => decide (oi < 12)) rfl (by kernel_rfl) (by kernel_rfl) (by kernel_rfl) (by kernel_rfl) (fun oi w' hj h => h (by simpa using hj)) (fun w' h _ => h) (fun _ _ _ h => h) ⟨t1, cs, t4⟩ (Or.inl ⟨by rfl, ?_⟩) ?_
      rotate_left
      · intro w' hSw
        obtain ⟨hSa, hSb, hSc⟩ := hSw
        go_simp
        try with_reducible rfl
      simp only [Act.put, List.setIfInBounds_toArray, List.set_cons_zero, List.set_cons_succ, List.getElem_toArray, List.getElem_cons_zero, List.getElem_cons_succ, List.replicate, Array.replicate, List.size_toArray, List.length_cons, List.length_nil]
      refine wpAnyJ_take (i := 3) (T := (fun w' => w'.cell? ⟨w.heap.size, 1, none⟩ = some (.slice (some ⟨b, off, none⟩) n rc) ∧ w'.cell? ⟨b, off + j, none⟩ = some (.string l) ∧ w'.cell? ⟨w.heap.size + 1 + 1 + 1 + 1, 1, none⟩ = some (.slice p4 j c4))) (v := ?_) (fun oi => decide (oi < 12)) rfl (by kernel_rfl) (by kernel_rfl) (by kernel_rfl) (by kernel_rfl) (fun oi w' hj h => h (by simpa using hj)) (fun w' h _ => h) (fun _ _ _ h => h) ⟨t1, cs, t4⟩ (Or.inl ⟨by rfl, ?_⟩) ?_
      rotate_left
      · intro w' hSw
        obtain ⟨hSa, hSb, hSc⟩ := hSw
        go_simp
        try with_reducible rfl
      simp only [Act.put, List.setIfInBounds_toArray, List.set_cons_zero, List.set_cons_succ, List.getElem_toArray, List.getElem_cons_zero, List.getElem_cons_succ, List.replicate, Array.replicate, List.size_toArray, List.length_cons, List.length_nil]
      refine wpAnyJ_take (i := 5) (T := (fun w' => w'.cell? ⟨w.heap.size, 1, none⟩ = some (.slice (some ⟨b, off, none⟩) n rc) ∧ w'.cell? ⟨b, off + j, none⟩ = some (.string l) ∧ w'.cell? ⟨w.heap.size + 1 + 1 + 1 + 1, 1, none⟩ = some (.slice p4 j c4))) (v := ?_) (fun oi => decide (oi < 12)) rfl (by kernel_rfl) (by kernel_rfl) (by kernel_rfl) (by kernel_rfl) (fun oi w' hj h => h (by simpa using hj)) (fun w' h _ => h) (fun _ _ _ h => h) ⟨t1, cs, t4⟩ (Or.inl ⟨by rfl, ?_⟩) ?_
      rotate_left
      · intro w' hSw
        obtain ⟨hSa, hSb, hSc⟩ := hSw
        go_simp
        try with_reducible rfl
      simp only [Act.put, List.setIfInBounds_toArray, List.set_cons_zero, List.set_cons_succ, List.getElem_toArray, List.getElem_cons_zero, List.getElem_cons_succ, List.replicate, Array.replicate, List.size_toArray, List.length_cons, List.length_nil]
      refine wpAnyJ_take (i := 6) (T := (fun w' => w'.cell? ⟨w.heap.size, 1, none⟩ = some (.slice (some ⟨b, off, none⟩) n rc) ∧ w'.cell? ⟨b, off + j, none⟩ = some (.string l) ∧ w'.cell? ⟨w.heap.size + 1 + 1 + 1 + 1, 1, none⟩ = some (.slice p4 j c4))) (v := ?_) (fun oi => decide (oi < 12)) rfl (by kernel_rfl) (by kernel_rfl) (by kernel_rfl) (by kernel_rfl) (fun oi w' hj h => h (by simpa using hj)) (fun w' h _ => h) (fun _ _ _ h => h) ⟨t1, cs, t4⟩ (Or.inl ⟨by rfl, ?_⟩) ?_
      rotate_left
      · intro w' hSw
        obtain ⟨hSa, hSb, hSc⟩ := hSw
        go_simp
        try with_reducible rfl
      simp only [Act.put, List.setIfInBounds_toArray, List.set_cons_zero, List.set_cons_succ, List.getElem_toArray, List.getElem_cons_zero, List.getElem_cons_succ, List.replicate, Array.replicate, List.size_toArray, List.length_cons, List.length_nil]
      refine wpAnyJ_take (i := 7) (T := (fun w' => w'.cell? ⟨w.heap.size, 1, none⟩ = some (.slice (some ⟨b, off, none⟩) n rc) ∧ w'.cell? ⟨b, off + j, none⟩ = some (.string l) ∧ w'.cell? ⟨w.heap.size + 1 + 1 + 1 + 1, 1, none⟩ = some (.slice p4 j c4))) (v := ?_) (fun oi => decide (oi < 12)) rfl (by kernel_rfl) (by kernel_rfl) (by kernel_rfl) (by kernel_rfl) (fun oi w' hj h => h (by simpa using hj)) (fun w' h _ => h) (fun _ _ _ h => h) ⟨t1, cs, t4⟩ (Or.inl ⟨by rfl, ?_⟩) ?_
      rotate_left
      · intro w' hSw
        obtain ⟨hSa, hSb, hSc⟩ := hSw
        go_simp
        try with_reducible rfl
      simp only [Act.put, List.setIfInBounds_toArray, List.set_cons_zero, List.set_cons_succ, List.getElem_toArray, List.getElem_cons_zero, List.getElem_cons_succ, List.replicate, Array.replicate, List.size_toArray, List.length_cons, List.length_nil]
      refine wpAnyJ_one (i := 8) rfl rfl (by kernel_rfl) (fun K hK => ?_)
      go_simp
      refine (KN.out _).mono ?_
      rintro e w2 ⟨s1, rfl, hs1, hx1⟩
      have d0 := (hx1.cell0.1 w.heap.size 1 (show w.heap.size < wr.heap.size from hl0)).trans t1
      have d1 := (hx1.cell0.1 b (off + j) (show b < wr.heap.size from hb)).trans cs
      have d4 := (hx1.cell0.1 (w.heap.size + 1 + 1 + 1 + 1) 1 (show w.heap.size + 1 + 1 + 1 + 1 < wr.heap.size from hl4)).trans t4
      have hzA : wr.heap.size ≤ w2.heap.size := hx1.size
      have e0 : ∀ o, (w2.alloc o).cell? ⟨w.heap.size, 1, none⟩ = some (.slice (some ⟨b, off, none⟩) n rc) := fun o => (((Ex.refl [] w2).alloc o).cell0.1 _ _ (by omega)).trans d0
      have e1 : ∀ o, (w2.alloc o).cell? ⟨b, off + j, none⟩ = some (.string l) := fun o => (((Ex.refl [] w2).alloc o).cell0.1 _ _ (by omega)).trans d1
      have e4 : ∀ o, (w2.alloc o).cell? ⟨w.heap.size + 1 + 1 + 1 + 1, 1, none⟩ = some (.slice p4 j c4) := fun o => (((Ex.refl [] w2).alloc o).cell0.1 _ _ (by omega)).trans d4
      go_wp2_with fail
      refine hK.out _ _ (fun _ => ⟨d0, d1, d4⟩) ?_
      clear hK K
      simp only [Act.put, List.setIfInBounds_toArray, List.set_cons_zero, List.set_cons_succ, List.getElem_toArray, List.getElem_cons_zero, List.getElem_cons_succ, List.replicate, Array.replicate, List.size_toArray, List.length_cons, List.length_nil]
      refine wpAnyJ_one (i := 9) rfl rfl (by kernel_rfl) (fun K hK => ?_)
      go_simp
      refine hK.out _ _ (fun _ => ⟨e0 _, e1 _, e4 _⟩) ?_
      clear hK K
      simp only [Act.put, List.setIfInBounds_toArray, List.set_cons_zero, List.set_cons_succ, List.getElem_toArray, List.getElem_cons_zero, List.getElem_cons_succ, List.replicate, Array.replicate, List.size_toArray, List.length_cons, List.length_nil]
      refine wpAnyJ_one (i := 10) rfl rfl (by kernel_rfl) (fun K hK => ?_)
      refine wp_append_lies _ (.tmp 33) (.tmp 41) 34 rfl W.heap.size 9 i0 _ 1 16 Tryz.underlying34 hi hz0 hz1 hz2 rfl (by decide) (.slice p4 j c4) j xs rfl ((own_ex (World.ownsRow.drew HO.out) hx1 (by simp)).alloc _) ⟨w2.heap.size, 0, none⟩ 1 1 [.string s1] rfl rfl (cells_new _ _ _) (by simp [Value.oneCell']) (by decide) (by unfold maxLen; omega) (by omega) (by simp <;> omega) _ rfl ?_
      intro g0 cap w5 hown5 hgrow hat hlt5
      have hrow : ∀ k, (Value.slice p4 j c4).ownBlock = some k → W.heap.size ≤ k := fun k hk => own_block HO.out k hk
      have hgr : Ex (Value.slice p4 j c4).ownBlock.toList w2 w5 := Ex.grown ((Ex.refl _ _).alloc _) hgrow (fun k hk => Or.inl (by simpa using hk))
      have r0 := (hgr.cell.1 w.heap.size 1 (by omega) (fun hm => by have := hrow _ (by simpa using hm); omega)).trans d0
      have r1 := (hgr.cell.1 b (off + j) (by omega) (fun hm => by have := hrow _ (by simpa using hm); omega)).trans d1
      have r4 := (hgr.cell.1 (w.heap.size + 1 + 1 + 1 + 1) 1 (by omega) (fun hm => by have := hrow _ (by simpa using hm); omega)).trans d4
      have hb45 := (HB4r.out.drew.ex hx1 (by simp)).ex hgr (fun hm => by have := hrow _ (by simpa using hm); omega)
      obtain ⟨hc45, hf45⟩ := hb45.all
      have hl45 := hb45.lt
      refine hK.out _ _ (fun _ => ⟨r0, r1, r4⟩) ?_
      clear hK K
      simp only [Act.put, List.setIfInBounds_toArray, List.set_cons_zero, List.set_cons_succ, List.getElem_toArray, List.getElem_cons_zero, List.getElem_cons_succ, List.replicate, Array.replicate, List.size_toArray, List.length_cons, List.length_nil]
      refine wpAnyJ_one (i := 11) rfl rfl (by kernel_rfl) (fun K hK => ?_)
      go_simp
      refine hK.out _ _ (fun _ => ⟨r0, r1, r4⟩) ?_
      clear hK K
      simp only [Act.put, List.setIfInBounds_toArray, List.set_cons_zero, List.set_cons_succ, List.getElem_toArray, List.getElem_cons_zero, List.getElem_cons_succ, List.replicate, Array.replicate, List.size_toArray, List.length_cons, List.length_nil]
      refine wpAnyJ_one (i := 12) rfl rfl (by kernel_rfl) (fun K hK => ?_)
      go_simp
      refine hK.out _ _ (fun hj => by omega) ?_
      clear hK K
      refine wpAnyJ_done (by kernel_rfl) ?_ _
      have HO5 := hide hown5
      have HB5 := hide hb45
      have HX5 := hide (Ex.drop (l' := [w.heap.size + 1 + 1 + 1 + 1]) (((HX.out.drew.trans (hx1.drop (by simp))).drop (l' := (w.heap.size + 1 + 1 + 1 + 1) :: (Value.slice p4 j c4).ownBlock.toList) (by simp)).trans (hgr.drop (fun x hx _ => List.mem_cons_of_mem _ hx))) (fun x hx hlt => by
        rcases List.mem_cons.1 hx with h | h
        · simp [h]
        · have := hrow x (by simpa using h); omega))
      have HS1 := hide hs1
      clear hown5 hgrow hat hgr hx1 hs1 hrow hb45 r0 r1 r4 e0 e1 e4 d0 d1 d4 t1 t4 cs
      go_wp2_with fail
      go_roundg g
      case measure => omega
      case rel =>
        have hb6 := BK.self HB5.out 1 (.slice (some ⟨g0, 0, none⟩) (j + 1) cap)
        simp only [List.setIfInBounds_toArray, List.set_cons_zero, List.set_cons_succ] at hb6
        refine ⟨j + 1, ss ++ [s1], _, by omega, by simp, by simp [HSJ.out], fun s hs => ?_, hb6, ?_, HX5.out.setCell (Or.inl (by simp)) _⟩
        · rcases List.mem_append.1 hs with hs | hs
          · exact HSN.out s hs
          · simp at hs; subst hs; exact HS1.out
        · have h9 := own_set HO5.out (a := ⟨w.heap.size + 1 + 1 + 1 + 1, 1, none⟩) (by simp <;> omega) (.slice (some ⟨g0, 0, none⟩) (j + 1) cap)
          rw [HXS.out] at h9
          simpa using h9
end Go.Proofs.YtmeffeigamaipabGreatDoor.G

/- get: the value of a label. -/
namespace Go.Proofs.YtmeffeigamaipabGreatDoor.G
open Go.RowKit

/-- The value of the first label of that name. -/
def getM (ls : List Lab) (t : ByteArray) : ByteArray := match ls.find? (fun l => eqB l.1 t) with | some l => l.2 | none => ⟨#[]⟩
theorem getM_step {ls : List Lab} {j : Nat} {l : Lab} (h : ls[j]? = some l) (t : ByteArray) : getM (ls.drop j) t = if eqB l.1 t then l.2 else getM (ls.drop (j + 1)) t := by
  have hj : j < ls.length := (List.getElem?_eq_some_iff.1 h).1
  rw [List.drop_eq_getElem_cons hj]
  rw [List.getElem?_eq_getElem hj] at h
  rw [Option.some.inj h]
  unfold getM
  rw [List.find?_cons]
  cases eqB l.1 t <;> rfl

set_option maxHeartbeats 2000000 in
set_option maxRecDepth 100000 in
theorem get_any (v : Value) (ls : List Lab) (t : ByteArray) (w : World) (hv : SL w v ls) (hn : ls.length ≤ 1000) :
    Calls Tryz.prog 22 #[v, .string t] w fun x w' => x = .returned (.string (getM ls t)) ∧ w' = w := by
  have HV := hide hv
  obtain ⟨p, c, rfl⟩ := hv.slice
  obtain ⟨n, hnn⟩ : ∃ n, n = ls.length := ⟨_, rfl⟩
  have HNN := hide hnn
  obtain ⟨R, hR⟩ : ∃ R, R = getM ls t := ⟨_, rfl⟩
  have HR := hide hR
  rw [← hR]
  rw [← hnn] at hn ⊢
  clear hv hnn hR
  go_enter Tryz.func22, Tryz.ntmps22
  go_wp2_with fail
  go_loopg [5] n (fun gk i wr => ∃ j : Nat, j + gk = n ∧ i = .int .i64 j ∧ getM (ls.drop j) t = R ∧ wr = w)
  case atStart => exact ⟨0, by omega, rfl, by rw [List.drop_zero]; exact HR.out.symm, rfl⟩
  case round =>
    obtain ⟨j, hj, rfl, hgm, rfl⟩ := hrel
    have HGM := hide hgm
    clear hgm
    cases gk with
    | zero =>
      obtain rfl : j = n := by omega
      have hr : R = ⟨#[]⟩ := by rw [← HGM.out, HNN.out, List.drop_length]; rfl
      subst hr
      clear hj
      go_wp2_with fail
      go_ret
      exact ⟨rfl, rfl⟩
    | succ g =>
      have hjl : j < ls.length := by rw [← HNN.out]; omega
      have hjn : (j : Int) < (n : Int) := by omega
      obtain ⟨l, hl⟩ : ∃ l, ls[j]? = some l := ⟨_, List.getElem?_eq_getElem hjl⟩
      obtain ⟨b, c', h1, hb, a0, a1⟩ := same_nonempty HV.out j l hl
      have hst := getM_step hl t
      have HST := hide hst
      injection h1 with e1 e2 e3
      subst e1
      obtain ⟨l1, l2⟩ := l
      simp only at a0 a1
      clear hl hst e2 e3
      cases he : (l1.toList == t.toList) with
      | true =>
        have hr : R = l2 := by rw [← HGM.out, HST.out]; show (if eqB l1 t then l2 else _) = _; rw [show eqB l1 t = true from he]; rfl
        have HRR := hide hr
        clear hr
        go_wp2_with fail
        go_ret
        exact ⟨by rw [HRR.out]; rfl, rfl⟩
      | false =>
        have hr : getM (ls.drop (j + 1)) t = R := by rw [← HGM.out, HST.out]; show _ = (if eqB l1 t then l2 else _); rw [show eqB l1 t = false from he]; rfl
        have HRR := hide hr
        clear hr
        go_wp2_with fail
        go_roundg g
        case measure => omega
        case rel => exact ⟨j + 1, by omega, by simp, HRR.out, rfl⟩
end Go.Proofs.YtmeffeigamaipabGreatDoor.G
