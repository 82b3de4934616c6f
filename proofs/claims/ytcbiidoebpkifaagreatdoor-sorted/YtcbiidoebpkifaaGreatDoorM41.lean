/- The statements' own rules, whatever the action. -/
import Derived.Test.YtcbiidoebpkifaaGreatDoorM40
import Derived.Deep.DeepCutAuto
import Derived.Deep.CutBlock
set_option linter.unusedVariables false
set_option linter.unusedSimpArgs false
namespace Go.Proofs.YtcbiidoebpkifaaGreatDoor.G
open Go.RowKit

def srcB (k : Nat) : Bool := decide (k < 6) || decide (8 < k)
def rgB (k : Nat) : Bool := decide (k < 3) || (decide (6 ≤ k) && decide (k ≤ 8))
def tgB (k : Nat) : Bool := decide (k ≠ 1) && decide (k ≠ 2) && srcB k
def rpB (k : Nat) : Bool := decide (k = 0) || decide (k = 6)
structure RuleK (w : World) (k : Nat) (p : Option Addr) (c : Nat) (ss : List ByteArray) (se re ta rp : ByteArray) (mo : Int) : Prop where
  k10 : k ≤ 10
  row : SS w (.slice p ss.length c) ss
  len : ss.length ≤ 3
  nam : ∀ s ∈ ss, nameB s = true
  sep : se.size ≤ 3
  src : srcB k = false → ss = [] ∧ se = ⟨#[]⟩
  pat : if rgB k then re ∈ pats else re = ⟨#[]⟩
  tgt : if tgB k then nameB ta = true else ta = ⟨#[]⟩
  rep : if rpB k then rp ∈ texts else rp = ⟨#[]⟩
  mod : if k = 5 then 1 ≤ mo ∧ mo ≤ 1000 else mo = 0
theorem k_cases {k : Nat} (h : k ≤ 10) : k = 0 ∨ k = 1 ∨ k = 2 ∨ k = 3 ∨ k = 4 ∨ k = 5 ∨ k = 6 ∨ k = 7 ∨ k = 8 ∨ k = 9 ∨ k = 10 := by omega

set_option maxHeartbeats 8000000 in
set_option maxRecDepth 100000 in
theorem rule_any (a : Int) (rp0 : Option Addr) (rc : Nat) (rs : List ByteArray) (rse rre rta rrp : ByteArray) (rmo : Int) (w : World) (ha : -9223372036854775808 ≤ a ∧ a ≤ 9223372036854775807) (hv : SSo w rp0 rs) (hn : rs.length ≤ 9223372036854775807) (hz : ∀ s ∈ rs, s.size ≤ 9223372036854775807) (hse : rse.size ≤ 9223372036854775807) (hta : rta.size ≤ 9223372036854775807) (hre : rre.size ≤ 9223372036854775807) (hrp : rrp.size ≤ 9223372036854775807) (hmo : 0 ≤ rmo ∧ rmo < 18446744073709551616) :
    Calls Tryz.prog 22 #[ruleV a (.slice rp0 rs.length rc) rse rre rta rrp rmo] w fun x w' => ∃ k p c ss se re ta rp mo, x = .returned (ruleV (k : Nat) (.slice p ss.length c) se re ta rp mo) ∧ RuleK w' k p c ss se re ta rp mo ∧ (∀ y, (Value.slice p ss.length c).ownBlock = some y → w.heap.size ≤ y) ∧ Ex [] w w' := by
  obtain ⟨i0, hi, hz0, hz1, hz2⟩ := info_parts infoStr'
  have HV := hide hv
  have HZ := hide hz
  obtain ⟨n, hnn⟩ : ∃ n, n = rs.length := ⟨_, rfl⟩
  have HNN := hide hnn
  rw [← hnn] at hn ⊢
  unfold ruleV
  clear hv hz hnn
  obtain ⟨k, hk, hk11⟩ := pickI_nat a 11 (by omega)
  have HK10 : Hid (k ≤ 10) := show k ≤ 10 by omega
  have HK := hide hk
  clear hk hk11
  go_enter Tryz.func22, Tryz.ntmps22
  go_wp2_with fail
  refine (pick_val a 11 _ (by omega) (by omega) ha).mono ?_
  rintro x w1 ⟨rfl, rfl⟩
  rw [show pickI a 11 = (k : Int) from HK.out.symm]
  go_upto_region 4 with fail
  generalize hW : World.alloc _ _ = W
  have b0 : BK W w.heap.size (.cells #[.int .i64 a, .slice rp0 n rc, .string rse, .string rre, .string rta, .string rrp, .int .u64 rmo] 65 (0, 0)) := by rw [← hW]; exact ((((BK.new _ _).alloc _).alloc _).alloc _).alloc _
  have b1 : BK W (w.heap.size + 1) (.cells #[.int .i64 0, .slice none 0 0, .string ⟨#[]⟩, .string ⟨#[]⟩, .string ⟨#[]⟩, .string ⟨#[]⟩, .int .u64 0] 65 (0, 0)) := by rw [← hW]; exact (((bk1 _ _ _).alloc _).alloc _).alloc _
  have b2 : ∃ cs, BK W (w.heap.size + 1 + 1) (.cells cs 135 (0, 0)) ∧ cs = (pats.map Value.string).toArray := by rw [← hW]; exact ⟨_, ((bk2 _ _ _ _).alloc _).alloc _, rfl⟩
  have b3 : ∃ cs, BK W (w.heap.size + 1 + 1 + 1) (.cells cs 129 (0, 0)) ∧ cs = (texts.map Value.string).toArray := by rw [← hW]; exact ⟨_, (bk3 _ _ _ _ _).alloc _, rfl⟩
  have b4 : BK W (w.heap.size + 1 + 1 + 1 + 1) (.cells #[.int .i64 (k : Int), .slice none 0 0, .string ⟨#[]⟩, .string ⟨#[]⟩, .string ⟨#[]⟩, .string ⟨#[]⟩, .int .u64 0] 65 (0, 0)) := by rw [← hW]; exact bk4 _ _ _ _ _ _
  have hxW : Ex [] w W := by rw [← hW]; exact (((((Ex.refl _ _).alloc _).alloc _).alloc _).alloc _).alloc _
  have hzW : W.heap.size = w.heap.size + 5 := by rw [← hW]; simp
  have HZW := hide hzW
  have HB0 := hide b0
  have HB1 := hide b1
  have HB2 := hide b2
  have HB3 := hide b3
  have HB4 := hide b4
  have HXW := hide hxW
  obtain ⟨hc4, hf4⟩ := b4.all
  have hl4 := b4.lt
  clear hW b0 b1 b2 b3 b4 hxW hzW
  obtain ⟨B1, hB1⟩ : ∃ B, B = srcB k := ⟨_, rfl⟩
  obtain ⟨B2, hB2⟩ : ∃ B, B = rgB k := ⟨_, rfl⟩
  obtain ⟨B3, hB3⟩ : ∃ B, B = tgB k := ⟨_, rfl⟩
  obtain ⟨B5, hB5⟩ : ∃ B, B = rpB k := ⟨_, rfl⟩
  have HB1s := hide hB1
  have HB2s := hide hB2
  have HB3s := hide hB3
  have HB5s := hide hB5
  clear hB1 hB2 hB3 hB5
  go_cut [20] (fun s20 wx => s20 = .bool B1 ∧ wx = W)
  case first =>
    have hcases : (k < 6) ∨ (¬ k < 6 ∧ ¬ 8 < k) ∨ (8 < k) := by omega
    have HBv : Hid (B1 = srcB k) := HB1s
    rcases hcases with hq | hq | hq
    · have g0 : (k : Int) < 6 := by omega
      obtain ⟨bv, hbv⟩ : ∃ bv, bv = B1 := ⟨_, rfl⟩
      have HBW2 := hide hbv
      have HQ := hide hq
      clear hbv hq
      go_wp2_with fail
      go_meet
      exact ⟨congrArg Value.bool (by rw [HBv.out]; have h7 := HQ.out; rcases k_cases HK10.out with rfl | rfl | rfl | rfl | rfl | rfl | rfl | rfl | rfl | rfl | rfl <;> first | rfl | (exfalso; omega)), rfl⟩
    · have g0 : ¬ (k : Int) < 6 := by omega
      have g1 : ¬ (8 : Int) < (k : Int) := by omega
      obtain ⟨bv, hbv⟩ : ∃ bv, bv = B1 := ⟨_, rfl⟩
      have HBW2 := hide hbv
      have HQ := hide hq
      clear hbv hq
      go_wp2_with fail
      go_meet
      exact ⟨congrArg Value.bool (by rw [HBv.out]; have h7 := HQ.out; rcases k_cases HK10.out with rfl | rfl | rfl | rfl | rfl | rfl | rfl | rfl | rfl | rfl | rfl <;> first | rfl | (exfalso; omega)), rfl⟩
    · have g0 : ¬ (k : Int) < 6 := by omega
      have g1 : (8 : Int) < (k : Int) := by omega
      obtain ⟨bv, hbv⟩ : ∃ bv, bv = B1 := ⟨_, rfl⟩
      have HBW2 := hide hbv
      have HQ := hide hq
      clear hbv hq
      go_wp2_with fail
      go_meet
      exact ⟨congrArg Value.bool (by rw [HBv.out]; have h7 := HQ.out; rcases k_cases HK10.out with rfl | rfl | rfl | rfl | rfl | rfl | rfl | rfl | rfl | rfl | rfl <;> first | rfl | (exfalso; omega)), rfl⟩
  case rest =>
  obtain ⟨rfl, hwc⟩ := hcut
  have hwc' := hwc.symm
  subst hwc'
  clear hwc hc4 hf4 hl4
  go_upto_if 20 with fail
  go_cut [6] (fun s6 wx => ∃ (ss : List ByteArray) (v4 : Value) (se : ByteArray), (ss.length ≤ 3 ∧ (∀ s ∈ ss, nameB s = true) ∧ se.size ≤ 3 ∧ (B1 = false → ss = [] ∧ se = ⟨#[]⟩)) ∧ BK wx (w.heap.size + 1 + 1 + 1 + 1) (.cells #[.int .i64 (k : Int), v4, .string se, .string ⟨#[]⟩, .string ⟨#[]⟩, .string ⟨#[]⟩, .int .u64 0] 65 (0, 0)) ∧ wx.ownsRow W.heap.size 9 1 v4 ss.length (ss.map Value.string) ∧ Ex [w.heap.size + 1 + 1 + 1 + 1] W wx)
  case first =>
    cases B1 with
    | false =>
      go_wp2_with fail
      go_meet
      exact ⟨[], _, ⟨#[]⟩, ⟨by simp, fun _ h => by simp at h, by decide, fun _ => ⟨rfl, rfl⟩⟩, HB4.out, World.ownsRow_nil _ _ _ _, Ex.refl _ _⟩
    | true =>
      go_wp2_with fail
      go_loopg [6] (min n 3) (fun gk i6 wr => ∃ (j : Nat) (ss : List ByteArray) (v4 : Value), j + gk = min n 3 ∧ i6 = .int .i64 j ∧ ss.length = j ∧ (∀ s ∈ ss, nameB s = true) ∧ BK wr (w.heap.size + 1 + 1 + 1 + 1) (.cells #[.int .i64 (k : Int), v4, .string ⟨#[]⟩, .string ⟨#[]⟩, .string ⟨#[]⟩, .string ⟨#[]⟩, .int .u64 0] 65 (0, 0)) ∧ wr.ownsRow W.heap.size 9 1 v4 j (ss.map Value.string) ∧ Ex [w.heap.size + 1 + 1 + 1 + 1] W wr)
      case atStart => exact ⟨0, [], _, by omega, rfl, rfl, fun _ h => by simp at h, HB4.out, World.ownsRow_nil _ _ _ _, Ex.refl _ _⟩
      case round =>
        obtain ⟨j, ss, v4, hj, rfl, hsj, hsn, hb4, hown, hx⟩ := hrel
        have HSJ := hide hsj
        have HSN := hide hsn
        have HB4r := hide hb4
        have HO := hide hown
        have HX := hide hx
        have hzr := hx.size
        have hz5 := HZW.out
        obtain ⟨p4, c4, rfl⟩ := own_slice hown
        have hb0 := HB0.out.ex hx (by simp <;> omega)
        have HB0r := hide hb0
        obtain ⟨hc0, hf0⟩ := hb0.all
        obtain ⟨hc4, hf4⟩ := hb4.all
        have hl0 := hb0.lt
        have hl4 := hb4.lt
        cases gk with
        | zero =>
          have KS := hide (fun (w' : World) => short_any rse 3 w' hse (by omega))
          clear hown hx hsj hsn hb4 hb0
          by_cases h8 : j < n
          case' pos =>
            have h1 : (j : Int) < (n : Int) := by omega
            have h2 : ¬ ((j : Int) < 3) := by omega
          case' neg =>
            have h1 : ¬ ((j : Int) < (n : Int)) := by omega
          all_goals
            go_wp2_with fail
            refine (KS.out _).mono ?_
            rintro x w2 ⟨se, rfl, hse', hw2⟩
            rw [hw2]
            clear hw2
            go_wp2_with fail
            go_meet
            have b4s := BK.self HB4r.out 2 (.string se)
            simp only [List.setIfInBounds_toArray, List.set_cons_zero, List.set_cons_succ] at b4s
            refine ⟨ss, .slice p4 j c4, se, ⟨by have := HSJ.out; omega, HSN.out, hse', fun h => by cases h⟩, b4s, ?_, HX.out.setCell (Or.inl (by simp)) _⟩
            rw [HSJ.out]
            exact own_set HO.out (by simp <;> omega) _
        | succ g =>
          have h1 : (j : Int) < (n : Int) := by omega
          have h2 : (j : Int) < 3 := by omega
          have hjl : j < rs.length := by rw [← HNN.out]; omega
          obtain ⟨l, hl⟩ : ∃ l, rs[j]? = some l := ⟨_, List.getElem?_eq_getElem hjl⟩
          obtain ⟨b, off, hpb, hbw, hb, cs⟩ : ∃ b off, rp0 = some ⟨b, off, none⟩ ∧ b < w.heap.size ∧ b < wr.heap.size ∧ wr.cell? ⟨b, off + j, none⟩ = some (.string l) := by
            obtain ⟨b, off, e1, hb, hc⟩ := HV.out j l hl
            have e4 : W.cell? ⟨b, off + j, none⟩ = some (.string l) := (HXW.out.cell0.1 b (off + j) hb).trans hc
            exact ⟨b, off, e1, hb, by omega, (hx.cell.1 b (off + j) (by omega) (by simp <;> omega)).trans e4⟩
          subst hpb
          have hlz := HZ.out l (List.mem_of_getElem? hl)
          have KN := hide (fun (w' : World) => name_any (l.size : Int) w' ⟨by omega, by omega⟩)
          obtain ⟨xs, hxs⟩ : ∃ xs, xs = ss.map Value.string := ⟨_, rfl⟩
          have HXS := hide hxs
          rw [← hxs] at HO
          have t1 : wr.cell? ⟨w.heap.size, 1, none⟩ = some (.slice (some ⟨b, off, none⟩) n rc) := hc0 1
          have t4 : wr.cell? ⟨w.heap.size + 1 + 1 + 1 + 1, 1, none⟩ = some (.slice p4 j c4) := hc4 1
          have hbB : b ≠ w.heap.size + 1 + 1 + 1 + 1 := by omega
          clear hown hx hl hsj hsn hb4 hb0 hxs
          go_wp2_with fail
          clear hc0 hc4
          refine wp_region_J (by kernel_rfl) ?_
          refine wpAny_take (i := 0) (v := ?_) rfl (by kernel_rfl) (by kernel_rfl) (by kernel_rfl) (fun _ _ _ h => h) (Or.inl ⟨by rfl, ?_⟩) ?_
          rotate_left
          · intro w'
            go_simp
            try with_reducible rfl
          simp only [Act.put, List.setIfInBounds_toArray, List.set_cons_zero, List.set_cons_succ, List.getElem_toArray, List.getElem_cons_zero, List.getElem_cons_succ, List.replicate, Array.replicate, List.size_toArray, List.length_cons, List.length_nil]
          refine wpAny_take (i := 2) (v := ?_) rfl (by kernel_rfl) (by kernel_rfl) (by kernel_rfl) (fun _ _ _ h => h) (Or.inl ⟨by rfl, ?_⟩) ?_
          rotate_left
          · intro w'
            go_simp
            try with_reducible rfl
          simp only [Act.put, List.setIfInBounds_toArray, List.set_cons_zero, List.set_cons_succ, List.getElem_toArray, List.getElem_cons_zero, List.getElem_cons_succ, List.replicate, Array.replicate, List.size_toArray, List.length_cons, List.length_nil]
          refine wpAny_take (i := 4) (v := ?_) rfl (by kernel_rfl) (by kernel_rfl) (by kernel_rfl) (fun _ _ _ h => h) (Or.inl ⟨by rfl, ?_⟩) ?_
          rotate_left
          · intro w'
            go_simp
            try with_reducible rfl
          simp only [Act.put, List.setIfInBounds_toArray, List.set_cons_zero, List.set_cons_succ, List.getElem_toArray, List.getElem_cons_zero, List.getElem_cons_succ, List.replicate, Array.replicate, List.size_toArray, List.length_cons, List.length_nil]
          refine wpAny_of_J (S := (fun oi w' => oi < 12 → w'.cell? ⟨w.heap.size, 1, none⟩ = some (.slice (some ⟨b, off, none⟩) n rc) ∧ w'.cell? ⟨b, off + j, none⟩ = some (.string l) ∧ w'.cell? ⟨w.heap.size + 1 + 1 + 1 + 1, 1, none⟩ = some (.slice p4 j c4))) _ _ _ _ ?_
          refine wpAnyJ_take (i := 1) (T := (fun w' => w'.cell? ⟨w.heap.size, 1, none⟩ = some (.slice (some ⟨b, off, none⟩) n rc) ∧ w'.cell? ⟨b, off + j, none⟩ = some (.string l) ∧ w'.cell? ⟨w.heap.size + 1 + 1 + 1 + 1, 1, none⟩ = some (.slice p4 j c4))) (v := ?_) (fun oi => decide (oi < 12)) rfl (by kernel_rfl) (by kernel_rfl) (by kernel_rfl) (by kernel_rfl) (fun oi w' hj h => h (by simpa using hj)) (fun w' h _ => h) (fun _ _ _ h => h) ⟨t1, cs, t4⟩ (Or.inl ⟨by rfl, ?_⟩) ?_
          rotate_left
          · intro w' hSw
            obtain ⟨hSa, hSb, hSc⟩ := hSw
            go_simp
            try with_reducible rfl
          simp only [Act.put, List.setIfInBounds_toArray, List.set_cons_zero, List.set_cons_succ, List.getElem_toArray, List.getElem_cons_zero, List.getElem_cons_succ, List.replicate, Array.replicate, List.size_toArray, List.length_cons, List.length_nil]
          refine wpAnyJ_take (i := 3) (T := (fun w' => w'.cell? ⟨w.heap.size, 1, none⟩ = some (.slice (some ⟨b, off, none⟩) n rc) ∧ w'.cell? ⟨b, off + j, none⟩ = some (.string l) ∧ w'.cell? ⟨w.heap.size + 1 + 1 + 1 + 1, 1, none⟩ = some (.slice p4 j c4))) (v := ?_) (fun oi => decide (oi < 12)) rfl (by kernel_rfl) (by kernel_rfl) (by kernel_rfl) (by kernel_rfl) (fun oi w' hj h => h (by simpa using hj)) (fun w' h _ => h) (fun _ _ _ h => h) ⟨t1, cs, t4⟩ (Or.inl ⟨by rfl, ?_⟩) ?_
          rotate_left
          · intro w' hSw
            obtain ⟨hSa, hSb, hSc⟩ := hSw
            go_simp
            try with_reducible rfl
          simp only [Act.put, List.setIfInBounds_toArray, List.set_cons_zero, List.set_cons_succ, List.getElem_toArray, List.getElem_cons_zero, List.getElem_cons_succ, List.replicate, Array.replicate, List.size_toArray, List.length_cons, List.length_nil]
          refine wpAnyJ_take (i := 5) (T := (fun w' => w'.cell? ⟨w.heap.size, 1, none⟩ = some (.slice (some ⟨b, off, none⟩) n rc) ∧ w'.cell? ⟨b, off + j, none⟩ = some (.string l) ∧ w'.cell? ⟨w.heap.size + 1 + 1 + 1 + 1, 1, none⟩ = some (.slice p4 j c4))) (v := ?_) (fun oi => decide (oi < 12)) rfl (by kernel_rfl) (by kernel_rfl) (by kernel_rfl) (by kernel_rfl) (fun oi w' hj h => h (by simpa using hj)) (fun w' h _ => h) (fun _ _ _ h => h) ⟨t1, cs, t4⟩ (Or.inl ⟨by rfl, ?_⟩) ?_
          rotate_left
          · intro w' hSw
            obtain ⟨hSa, hSb, hSc⟩ := hSw
            go_simp
            try with_reducible rfl
          simp only [Act.put, List.setIfInBounds_toArray, List.set_cons_zero, List.set_cons_succ, List.getElem_toArray, List.getElem_cons_zero, List.getElem_cons_succ, List.replicate, Array.replicate, List.size_toArray, List.length_cons, List.length_nil]
          refine wpAnyJ_take (i := 6) (T := (fun w' => w'.cell? ⟨w.heap.size, 1, none⟩ = some (.slice (some ⟨b, off, none⟩) n rc) ∧ w'.cell? ⟨b, off + j, none⟩ = some (.string l) ∧ w'.cell? ⟨w.heap.size + 1 + 1 + 1 + 1, 1, none⟩ = some (.slice p4 j c4))) (v := ?_) (fun oi => decide (oi < 12)) rfl (by kernel_rfl) (by kernel_rfl) (by kernel_rfl) (by kernel_rfl) (fun oi w' hj h => h (by simpa using hj)) (fun w' h _ => h) (fun _ _ _ h => h) ⟨t1, cs, t4⟩ (Or.inl ⟨by rfl, ?_⟩) ?_
          rotate_left
          · intro w' hSw
            obtain ⟨hSa, hSb, hSc⟩ := hSw
            go_simp
            try with_reducible rfl
          simp only [Act.put, List.setIfInBounds_toArray, List.set_cons_zero, List.set_cons_succ, List.getElem_toArray, List.getElem_cons_zero, List.getElem_cons_succ, List.replicate, Array.replicate, List.size_toArray, List.length_cons, List.length_nil]
          refine wpAnyJ_take (i := 7) (T := (fun w' => w'.cell? ⟨w.heap.size, 1, none⟩ = some (.slice (some ⟨b, off, none⟩) n rc) ∧ w'.cell? ⟨b, off + j, none⟩ = some (.string l) ∧ w'.cell? ⟨w.heap.size + 1 + 1 + 1 + 1, 1, none⟩ = some (.slice p4 j c4))) (v := ?_) (fun oi => decide (oi < 12)) rfl (by kernel_rfl) (by kernel_rfl) (by kernel_rfl) (by kernel_rfl) (fun oi w' hj h => h (by simpa using hj)) (fun w' h _ => h) (fun _ _ _ h => h) ⟨t1, cs, t4⟩ (Or.inl ⟨by rfl, ?_⟩) ?_
          rotate_left
          · intro w' hSw
            obtain ⟨hSa, hSb, hSc⟩ := hSw
            go_simp
            try with_reducible rfl
          simp only [Act.put, List.setIfInBounds_toArray, List.set_cons_zero, List.set_cons_succ, List.getElem_toArray, List.getElem_cons_zero, List.getElem_cons_succ, List.replicate, Array.replicate, List.size_toArray, List.length_cons, List.length_nil]
          refine wpAnyJ_one (i := 8) rfl rfl (by kernel_rfl) (fun K hK => ?_)
          go_simp
          refine (KN.out _).mono ?_
          rintro e w2 ⟨s1, rfl, hs1, hx1⟩
          have d0 := (hx1.cell0.1 w.heap.size 1 (show w.heap.size < wr.heap.size from hl0)).trans t1
          have d1 := (hx1.cell0.1 b (off + j) (show b < wr.heap.size from hb)).trans cs
          have d4 := (hx1.cell0.1 (w.heap.size + 1 + 1 + 1 + 1) 1 (show w.heap.size + 1 + 1 + 1 + 1 < wr.heap.size from hl4)).trans t4
          have hzA : wr.heap.size ≤ w2.heap.size := hx1.size
          have e0 : ∀ o, (w2.alloc o).cell? ⟨w.heap.size, 1, none⟩ = some (.slice (some ⟨b, off, none⟩) n rc) := fun o => (((Ex.refl [] w2).alloc o).cell0.1 _ _ (by omega)).trans d0
          have e1 : ∀ o, (w2.alloc o).cell? ⟨b, off + j, none⟩ = some (.string l) := fun o => (((Ex.refl [] w2).alloc o).cell0.1 _ _ (by omega)).trans d1
          have e4 : ∀ o, (w2.alloc o).cell? ⟨w.heap.size + 1 + 1 + 1 + 1, 1, none⟩ = some (.slice p4 j c4) := fun o => (((Ex.refl [] w2).alloc o).cell0.1 _ _ (by omega)).trans d4
          go_wp2_with fail
          refine hK.out _ _ (fun _ => ⟨d0, d1, d4⟩) ?_
          clear hK K
          simp only [Act.put, List.setIfInBounds_toArray, List.set_cons_zero, List.set_cons_succ, List.getElem_toArray, List.getElem_cons_zero, List.getElem_cons_succ, List.replicate, Array.replicate, List.size_toArray, List.length_cons, List.length_nil]
          refine wpAnyJ_one (i := 9) rfl rfl (by kernel_rfl) (fun K hK => ?_)
          go_simp
          refine hK.out _ _ (fun _ => ⟨e0 _, e1 _, e4 _⟩) ?_
          clear hK K
          simp only [Act.put, List.setIfInBounds_toArray, List.set_cons_zero, List.set_cons_succ, List.getElem_toArray, List.getElem_cons_zero, List.getElem_cons_succ, List.replicate, Array.replicate, List.size_toArray, List.length_cons, List.length_nil]
          refine wpAnyJ_one (i := 10) rfl rfl (by kernel_rfl) (fun K hK => ?_)
          refine wp_append_lies _ (.tmp 33) (.tmp 41) 62 rfl W.heap.size 9 i0 _ 1 16 Tryz.underlying62 hi hz0 hz1 hz2 rfl (by decide) (.slice p4 j c4) j xs rfl ((own_ex (World.ownsRow.drew HO.out) hx1 (by simp)).alloc _) ⟨w2.heap.size, 0, none⟩ 1 1 [.string s1] rfl rfl (cells_new _ _ _) (by simp [Value.oneCell']) (by decide) (by unfold maxLen; omega) (by omega) (by simp <;> omega) _ rfl ?_
          intro g0 cap w5 hown5 hgrow hat hlt5
          have hrow : ∀ k, (Value.slice p4 j c4).ownBlock = some k → W.heap.size ≤ k := fun k hk => own_block HO.out k hk
          have hgr : Ex (Value.slice p4 j c4).ownBlock.toList w2 w5 := Ex.grown ((Ex.refl _ _).alloc _) hgrow (fun k hk => Or.inl (by simpa using hk))
          have r0 := (hgr.cell.1 w.heap.size 1 (by omega) (fun hm => by have := hrow _ (by simpa using hm); omega)).trans d0
          have r1 := (hgr.cell.1 b (off + j) (by omega) (fun hm => by have := hrow _ (by simpa using hm); omega)).trans d1
          have r4 := (hgr.cell.1 (w.heap.size + 1 + 1 + 1 + 1) 1 (by omega) (fun hm => by have := hrow _ (by simpa using hm); omega)).trans d4
          have hb45 := (HB4r.out.drew.ex hx1 (by simp)).ex hgr (fun hm => by have := hrow _ (by simpa using hm); omega)
          obtain ⟨hc45, hf45⟩ := hb45.all
          have hl45 := hb45.lt
          refine hK.out _ _ (fun _ => ⟨r0, r1, r4⟩) ?_
          clear hK K
          simp only [Act.put, List.setIfInBounds_toArray, List.set_cons_zero, List.set_cons_succ, List.getElem_toArray, List.getElem_cons_zero, List.getElem_cons_succ, List.replicate, Array.replicate, List.size_toArray, List.length_cons, List.length_nil]
          refine wpAnyJ_one (i := 11) rfl rfl (by kernel_rfl) (fun K hK => ?_)
          go_simp
          refine hK.out _ _ (fun _ => ⟨r0, r1, r4⟩) ?_
          clear hK K
          simp only [Act.put, List.setIfInBounds_toArray, List.set_cons_zero, List.set_cons_succ, List.getElem_toArray, List.getElem_cons_zero, List.getElem_cons_succ, List.replicate, Array.replicate, List.size_toArray, List.length_cons, List.length_nil]
          refine wpAnyJ_one (i := 12) rfl rfl (by kernel_rfl) (fun K hK => ?_)
          go_simp
          refine hK.out _ _ (fun hj => by omega) ?_
          clear hK K
          refine wpAnyJ_done (by kernel_rfl) ?_ _
          have HO5 := hide hown5
          have HB5 := hide hb45
          have HX5 := hide (Ex.drop (l' := [w.heap.size + 1 + 1 + 1 + 1]) (((HX.out.drew.trans (hx1.drop (by simp))).drop (l' := (w.heap.size + 1 + 1 + 1 + 1) :: (Value.slice p4 j c4).ownBlock.toList) (by simp)).trans (hgr.drop (fun x hx _ => List.mem_cons_of_mem _ hx))) (fun x hx hlt => by
            rcases List.mem_cons.1 hx with h | h
            · simp [h]
            · have := hrow x (by simpa using h); omega))
          have HS1 := hide hs1
          clear hown5 hgrow hat hgr hx1 hs1 hrow hb45 r0 r1 r4 e0 e1 e4 d0 d1 d4 t1 t4 cs
          go_wp2_with fail
          go_roundg g
          case measure => omega
          case rel =>
            have hb6 := BK.self HB5.out 1 (.slice (some ⟨g0, 0, none⟩) (j + 1) cap)
            simp only [List.setIfInBounds_toArray, List.set_cons_zero, List.set_cons_succ] at hb6
            refine ⟨j + 1, ss ++ [s1], _, by omega, by simp, by simp [HSJ.out], fun s hs => ?_, hb6, ?_, HX5.out.setCell (Or.inl (by simp)) _⟩
            · rcases List.mem_append.1 hs with hs | hs
              · exact HSN.out s hs
              · simp at hs; subst hs; exact HS1.out
            · have h9 := own_set HO5.out (a := ⟨w.heap.size + 1 + 1 + 1 + 1, 1, none⟩) (by simp <;> omega) (.slice (some ⟨g0, 0, none⟩) (j + 1) cap)
              rw [HXS.out] at h9
              simpa using h9
  case rest =>
  obtain ⟨ss, v4, se, hfacts, hb4, hown, hxc⟩ := hcut
  obtain ⟨W2, rfl⟩ : ∃ W2, W2 = wc := ⟨_, rfl⟩
  obtain ⟨p4, c4, rfl⟩ := own_slice hown
  have HFA := hide hfacts
  obtain ⟨n4, hn4⟩ : ∃ n4, n4 = ss.length := ⟨_, rfl⟩
  have HN4 := hide hn4
  rw [← hn4] at hb4 hown
  clear hfacts hn4
  have HXc := hide hxc
  have HOc := hide hown
  have HBx := hide hb4
  have hb0 := HB0.out.ex hxc (by simp <;> omega)
  obtain ⟨hc0, hf0⟩ := hb0.all
  obtain ⟨hc4, hf4⟩ := hb4.all
  have hl0 := hb0.lt
  have hl4 := hb4.lt
  have hzz := hxc.size
  have hz5 := HZW.out
  clear hb0 hb4 hown hxc
  go_upto_region 10 with fail
  go_cut [60] (fun s wx => s = .bool B2 ∧ wx = W2)
  case first =>
    have hcases : (k < 3) ∨ (3 ≤ k ∧ k < 6) ∨ (6 ≤ k ∧ k ≤ 8) ∨ (8 < k) := by omega
    have HBv : Hid (B2 = rgB k) := HB2s
    rcases hcases with hq | hq | hq | hq
    · have g0 : (k : Int) < 3 := by omega
      obtain ⟨bv, hbv⟩ : ∃ bv, bv = B2 := ⟨_, rfl⟩
      have HBW2 := hide hbv
      have HQ := hide hq
      clear hbv hq
      go_wp2_with fail
      go_meet
      exact ⟨congrArg Value.bool (by rw [HBv.out]; have h7 := HQ.out; rcases k_cases HK10.out with rfl | rfl | rfl | rfl | rfl | rfl | rfl | rfl | rfl | rfl | rfl <;> first | rfl | (exfalso; omega)), rfl⟩
    · have g0 : ¬ (k : Int) < 3 := by omega
      have g1 : ¬ (6 : Int) ≤ (k : Int) := by omega
      obtain ⟨bv, hbv⟩ : ∃ bv, bv = B2 := ⟨_, rfl⟩
      have HBW2 := hide hbv
      have HQ := hide hq
      clear hbv hq
      go_wp2_with fail
      go_meet
      exact ⟨congrArg Value.bool (by rw [HBv.out]; have h7 := HQ.out; rcases k_cases HK10.out with rfl | rfl | rfl | rfl | rfl | rfl | rfl | rfl | rfl | rfl | rfl <;> first | rfl | (exfalso; omega)), rfl⟩
    · have g0 : ¬ (k : Int) < 3 := by omega
      have g1 : (6 : Int) ≤ (k : Int) := by omega
      have g2 : (k : Int) ≤ 8 := by omega
      obtain ⟨bv, hbv⟩ : ∃ bv, bv = B2 := ⟨_, rfl⟩
      have HBW2 := hide hbv
      have HQ := hide hq
      clear hbv hq
      go_wp2_with fail
      go_meet
      exact ⟨congrArg Value.bool (by rw [HBv.out]; have h7 := HQ.out; rcases k_cases HK10.out with rfl | rfl | rfl | rfl | rfl | rfl | rfl | rfl | rfl | rfl | rfl <;> first | rfl | (exfalso; omega)), rfl⟩
    · have g0 : ¬ (k : Int) < 3 := by omega
      have g1 : (6 : Int) ≤ (k : Int) := by omega
      have g2 : ¬ (k : Int) ≤ 8 := by omega
      obtain ⟨bv, hbv⟩ : ∃ bv, bv = B2 := ⟨_, rfl⟩
      have HBW2 := hide hbv
      have HQ := hide hq
      clear hbv hq
      go_wp2_with fail
      go_meet
      exact ⟨congrArg Value.bool (by rw [HBv.out]; have h7 := HQ.out; rcases k_cases HK10.out with rfl | rfl | rfl | rfl | rfl | rfl | rfl | rfl | rfl | rfl | rfl <;> first | rfl | (exfalso; omega)), rfl⟩
  case rest =>
  obtain ⟨rfl, hwc⟩ := hcut
  have hwc' := hwc.symm
  subst hwc'
  clear hwc
  go_upto_if 60 with fail
  go_cut [20] (fun s20 wx => ∃ x3 : ByteArray, (if B2 then x3 ∈ pats else x3 = ⟨#[]⟩) ∧ BK wx (w.heap.size + 1 + 1 + 1 + 1) (.cells #[.int .i64 (k : Int), .slice p4 n4 c4, .string se, .string x3, .string ⟨#[]⟩, .string ⟨#[]⟩, .int .u64 0] 65 (0, 0)) ∧ wx.ownsRow W.heap.size 9 1 (.slice p4 n4 c4) n4 (ss.map Value.string) ∧ Ex [w.heap.size + 1 + 1 + 1 + 1] W wx)
  case first =>
    cases B2 with
    | false =>
      go_wp2_with fail
      go_meet
      exact ⟨⟨#[]⟩, rfl, HBx.out, HOc.out, HXc.out⟩
    | true =>
      go_wp2_with fail
      refine (pick_val _ 12 _ (by omega) (by omega) (wrap64_rng _)).mono ?_
      rintro x w3 ⟨rfl, hw3⟩
      rw [hw3]
      clear hw3
      obtain ⟨k2, hk2, hk2l⟩ := pickI_nat (wrap64 (↑rre.size + a.tdiv 11)) 12 (by omega)
      rw [← hk2]
      obtain ⟨cs2, b2, eb2⟩ := HB2.out
      obtain ⟨re, hre1, hre2⟩ := strs_at (b2.ex HXc.out (by simp)) eb2 k2 (by show k2 < 12; omega)
      have hk2i : (k2 : Int) < 12 := by omega
      have HRE := hide hre1
      have hlb2 := (b2.ex HXc.out (by simp)).lt
      clear hk2 b2 eb2 hre1
      go_wp2_with fail
      go_meet
      have b4s := BK.self HBx.out 3 (.string re)
      simp only [List.setIfInBounds_toArray, List.set_cons_zero, List.set_cons_succ] at b4s
      exact ⟨re, HRE.out, b4s, own_set HOc.out (by simp <;> omega) _, HXc.out.setCell (Or.inl (by simp)) _⟩
  case rest =>
  clear hc0 hf0 hc4 hf4 hl0 hl4 hzz hz5 HXc HOc HBx
  obtain ⟨x3, hx3, hb4, hown, hxc⟩ := hcut
  obtain ⟨W3, rfl⟩ : ∃ W3, W3 = wc := ⟨_, rfl⟩
  have HF3 := hide hx3
  clear hx3
  have HXc := hide hxc
  have HOc := hide hown
  have HBx := hide hb4
  have hb0 := HB0.out.ex hxc (by simp <;> omega)
  obtain ⟨hc0, hf0⟩ := hb0.all
  obtain ⟨hc4, hf4⟩ := hb4.all
  have hl0 := hb0.lt
  have hl4 := hb4.lt
  have hzz := hxc.size
  have hz5 := HZW.out
  clear hb0 hb4 hown hxc
  go_upto_region 12 with fail
  go_cut [89] (fun s wx => s = .bool B3 ∧ wx = W3)
  case first =>
    have hcases : (k = 1) ∨ (k = 2) ∨ (k ≠ 1 ∧ k ≠ 2 ∧ k < 6) ∨ (6 ≤ k ∧ k ≤ 8) ∨ (8 < k) := by omega
    have HBv : Hid (B3 = tgB k) := HB3s
    rcases hcases with hq | hq | hq | hq | hq
    · have g0 : (k : Int) = 1 := by omega
      have g0b : ((k : Int) == 1) = true := beq_iff_eq.2 g0
      obtain ⟨bv, hbv⟩ : ∃ bv, bv = B3 := ⟨_, rfl⟩
      have HBW2 := hide hbv
      have HQ := hide hq
      clear hbv hq
      go_wp2_with fail
      go_meet
      exact ⟨congrArg Value.bool (by rw [HBv.out]; have h7 := HQ.out; rcases k_cases HK10.out with rfl | rfl | rfl | rfl | rfl | rfl | rfl | rfl | rfl | rfl | rfl <;> first | rfl | (exfalso; omega)), rfl⟩
    · have g0 : ¬ (k : Int) = 1 := by omega
      have g0b : ((k : Int) == 1) = false := beq_eq_false_iff_ne.2 g0
      have g1 : (k : Int) = 2 := by omega
      have g1b : ((k : Int) == 2) = true := beq_iff_eq.2 g1
      obtain ⟨bv, hbv⟩ : ∃ bv, bv = B3 := ⟨_, rfl⟩
      have HBW2 := hide hbv
      have HQ := hide hq
      clear hbv hq
      go_wp2_with fail
      go_meet
      exact ⟨congrArg Value.bool (by rw [HBv.out]; have h7 := HQ.out; rcases k_cases HK10.out with rfl | rfl | rfl | rfl | rfl | rfl | rfl | rfl | rfl | rfl | rfl <;> first | rfl | (exfalso; omega)), rfl⟩
    · have g0 : ¬ (k : Int) = 1 := by omega
      have g0b : ((k : Int) == 1) = false := beq_eq_false_iff_ne.2 g0
      have g1 : ¬ (k : Int) = 2 := by omega
      have g1b : ((k : Int) == 2) = false := beq_eq_false_iff_ne.2 g1
      have g2 : (k : Int) < 6 := by omega
      obtain ⟨bv, hbv⟩ : ∃ bv, bv = B3 := ⟨_, rfl⟩
      have HBW2 := hide hbv
      have HQ := hide hq
      clear hbv hq
      go_wp2_with fail
      go_meet
      exact ⟨congrArg Value.bool (by rw [HBv.out]; have h7 := HQ.out; rcases k_cases HK10.out with rfl | rfl | rfl | rfl | rfl | rfl | rfl | rfl | rfl | rfl | rfl <;> first | rfl | (exfalso; omega)), rfl⟩
    · have g0 : ¬ (k : Int) = 1 := by omega
      have g0b : ((k : Int) == 1) = false := beq_eq_false_iff_ne.2 g0
      have g1 : ¬ (k : Int) = 2 := by omega
      have g1b : ((k : Int) == 2) = false := beq_eq_false_iff_ne.2 g1
      have g2 : ¬ (k : Int) < 6 := by omega
      have g3 : ¬ (8 : Int) < (k : Int) := by omega
      obtain ⟨bv, hbv⟩ : ∃ bv, bv = B3 := ⟨_, rfl⟩
      have HBW2 := hide hbv
      have HQ := hide hq
      clear hbv hq
      go_wp2_with fail
      go_meet
      exact ⟨congrArg Value.bool (by rw [HBv.out]; have h7 := HQ.out; rcases k_cases HK10.out with rfl | rfl | rfl | rfl | rfl | rfl | rfl | rfl | rfl | rfl | rfl <;> first | rfl | (exfalso; omega)), rfl⟩
    · have g0 : ¬ (k : Int) = 1 := by omega
      have g0b : ((k : Int) == 1) = false := beq_eq_false_iff_ne.2 g0
      have g1 : ¬ (k : Int) = 2 := by omega
      have g1b : ((k : Int) == 2) = false := beq_eq_false_iff_ne.2 g1
      have g2 : ¬ (k : Int) < 6 := by omega
      have g3 : (8 : Int) < (k : Int) := by omega
      obtain ⟨bv, hbv⟩ : ∃ bv, bv = B3 := ⟨_, rfl⟩
      have HBW2 := hide hbv
      have HQ := hide hq
      clear hbv hq
      go_wp2_with fail
      go_meet
      exact ⟨congrArg Value.bool (by rw [HBv.out]; have h7 := HQ.out; rcases k_cases HK10.out with rfl | rfl | rfl | rfl | rfl | rfl | rfl | rfl | rfl | rfl | rfl <;> first | rfl | (exfalso; omega)), rfl⟩
  case rest =>
  obtain ⟨rfl, hwc⟩ := hcut
  have hwc' := hwc.symm
  subst hwc'
  clear hwc
  go_upto_if 89 with fail
  go_cut [20] (fun s20 wx => ∃ x4 : ByteArray, (if B3 then nameB x4 = true else x4 = ⟨#[]⟩) ∧ BK wx (w.heap.size + 1 + 1 + 1 + 1) (.cells #[.int .i64 (k : Int), .slice p4 n4 c4, .string se, .string x3, .string x4, .string ⟨#[]⟩, .int .u64 0] 65 (0, 0)) ∧ wx.ownsRow W.heap.size 9 1 (.slice p4 n4 c4) n4 (ss.map Value.string) ∧ Ex [w.heap.size + 1 + 1 + 1 + 1] W wx)
  case first =>
    cases B3 with
    | false =>
      go_wp2_with fail
      go_meet
      exact ⟨⟨#[]⟩, rfl, HBx.out, HOc.out, HXc.out⟩
    | true =>
      have KN := hide (fun (w' : World) => name_any (rta.size : Int) w' ⟨by omega, by omega⟩)
      go_wp2_with fail
      refine (KN.out _).mono ?_
      rintro x w4 ⟨ta, rfl, hta', hx4⟩
      have b4x := HBx.out.ex hx4 (by simp)
      have HB4x := hide b4x
      have HXx := hide (HXc.out.trans (hx4.drop (by simp)))
      have HOx := hide (own_ex HOc.out hx4 (by simp))
      clear hc4 hf4 hc0 hf0
      obtain ⟨hc4, hf4⟩ := b4x.all
      have hlx := b4x.lt
      have hz4 := hx4.size
      clear b4x hx4
      go_wp2_with fail
      go_meet
      have b4s := BK.self HB4x.out 4 (.string ta)
      simp only [List.setIfInBounds_toArray, List.set_cons_zero, List.set_cons_succ] at b4s
      exact ⟨ta, hta', b4s, own_set HOx.out (by simp <;> omega) _, HXx.out.setCell (Or.inl (by simp)) _⟩
  case rest =>
  clear hc0 hf0 hc4 hf4 hl0 hl4 hzz hz5 HXc HOc HBx
  obtain ⟨x4, hx4, hb4, hown, hxc⟩ := hcut
  obtain ⟨W4, rfl⟩ : ∃ W4, W4 = wc := ⟨_, rfl⟩
  have HF4 := hide hx4
  clear hx4
  have HXc := hide hxc
  have HOc := hide hown
  have HBx := hide hb4
  have hb0 := HB0.out.ex hxc (by simp <;> omega)
  obtain ⟨hc0, hf0⟩ := hb0.all
  obtain ⟨hc4, hf4⟩ := hb4.all
  have hl0 := hb0.lt
  have hl4 := hb4.lt
  have hzz := hxc.size
  have hz5 := HZW.out
  clear hb0 hb4 hown hxc
  go_upto_region 14 with fail
  go_cut [102] (fun s wx => s = .bool B5 ∧ wx = W4)
  case first =>
    have hcases : (k = 0) ∨ (k = 6) ∨ (k ≠ 0 ∧ k ≠ 6) := by omega
    have HBv : Hid (B5 = rpB k) := HB5s
    rcases hcases with hq | hq | hq
    · have g0 : (k : Int) = 0 := by omega
      have g0b : ((k : Int) == 0) = true := beq_iff_eq.2 g0
      obtain ⟨bv, hbv⟩ : ∃ bv, bv = B5 := ⟨_, rfl⟩
      have HBW2 := hide hbv
      have HQ := hide hq
      clear hbv hq
      go_wp2_with fail
      go_meet
      exact ⟨congrArg Value.bool (by rw [HBv.out]; have h7 := HQ.out; rcases k_cases HK10.out with rfl | rfl | rfl | rfl | rfl | rfl | rfl | rfl | rfl | rfl | rfl <;> first | rfl | (exfalso; omega)), rfl⟩
    · have g0 : ¬ (k : Int) = 0 := by omega
      have g0b : ((k : Int) == 0) = false := beq_eq_false_iff_ne.2 g0
      have g1 : (k : Int) = 6 := by omega
      have g1b : ((k : Int) == 6) = true := beq_iff_eq.2 g1
      obtain ⟨bv, hbv⟩ : ∃ bv, bv = B5 := ⟨_, rfl⟩
      have HBW2 := hide hbv
      have HQ := hide hq
      clear hbv hq
      go_wp2_with fail
      go_meet
      exact ⟨congrArg Value.bool (by rw [HBv.out]; have h7 := HQ.out; rcases k_cases HK10.out with rfl | rfl | rfl | rfl | rfl | rfl | rfl | rfl | rfl | rfl | rfl <;> first | rfl | (exfalso; omega)), rfl⟩
    · have g0 : ¬ (k : Int) = 0 := by omega
      have g0b : ((k : Int) == 0) = false := beq_eq_false_iff_ne.2 g0
      have g1 : ¬ (k : Int) = 6 := by omega
      have g1b : ((k : Int) == 6) = false := beq_eq_false_iff_ne.2 g1
      obtain ⟨bv, hbv⟩ : ∃ bv, bv = B5 := ⟨_, rfl⟩
      have HBW2 := hide hbv
      have HQ := hide hq
      clear hbv hq
      go_wp2_with fail
      go_meet
      exact ⟨congrArg Value.bool (by rw [HBv.out]; have h7 := HQ.out; rcases k_cases HK10.out with rfl | rfl | rfl | rfl | rfl | rfl | rfl | rfl | rfl | rfl | rfl <;> first | rfl | (exfalso; omega)), rfl⟩
  case rest =>
  obtain ⟨rfl, hwc⟩ := hcut
  have hwc' := hwc.symm
  subst hwc'
  clear hwc
  go_upto_if 102 with fail
  go_cut [20] (fun s20 wx => ∃ x5 : ByteArray, (if B5 then x5 ∈ texts else x5 = ⟨#[]⟩) ∧ BK wx (w.heap.size + 1 + 1 + 1 + 1) (.cells #[.int .i64 (k : Int), .slice p4 n4 c4, .string se, .string x3, .string x4, .string x5, .int .u64 0] 65 (0, 0)) ∧ wx.ownsRow W.heap.size 9 1 (.slice p4 n4 c4) n4 (ss.map Value.string) ∧ Ex [w.heap.size + 1 + 1 + 1 + 1] W wx)
  case first =>
    cases B5 with
    | false =>
      go_wp2_with fail
      go_meet
      exact ⟨⟨#[]⟩, rfl, HBx.out, HOc.out, HXc.out⟩
    | true =>
      go_wp2_with fail
      refine (pick_val _ 10 _ (by omega) (by omega) (wrap64_rng _)).mono ?_
      rintro x w3 ⟨rfl, hw3⟩
      rw [hw3]
      clear hw3
      obtain ⟨k2, hk2, hk2l⟩ := pickI_nat (wrap64 (↑rrp.size + a.tdiv 11)) 10 (by omega)
      rw [← hk2]
      obtain ⟨cs2, b2, eb2⟩ := HB3.out
      obtain ⟨re, hre1, hre2⟩ := strs_at (b2.ex HXc.out (by simp)) eb2 k2 (by show k2 < 10; omega)
      have hk2i : (k2 : Int) < 10 := by omega
      have HRE := hide hre1
      have hlb2 := (b2.ex HXc.out (by simp)).lt
      clear hk2 b2 eb2 hre1
      go_wp2_with fail
      go_meet
      have b4s := BK.self HBx.out 5 (.string re)
      simp only [List.setIfInBounds_toArray, List.set_cons_zero, List.set_cons_succ] at b4s
      exact ⟨re, HRE.out, b4s, own_set HOc.out (by simp <;> omega) _, HXc.out.setCell (Or.inl (by simp)) _⟩
  case rest =>
  clear hc0 hf0 hc4 hf4 hl0 hl4 hzz hz5 HXc HOc HBx
  obtain ⟨x5, hx5, hb4, hown, hxc⟩ := hcut
  obtain ⟨W5, rfl⟩ : ∃ W5, W5 = wc := ⟨_, rfl⟩
  have HF5 := hide hx5
  clear hx5
  have HX6 := hide hxc
  have HO6 := hide hown
  have HB46 := hide hb4
  have hb0 := HB0.out.ex hxc (by simp <;> omega)
  obtain ⟨hc0, hf0⟩ := hb0.all
  obtain ⟨hc4, hf4⟩ := hb4.all
  have hl0 := hb0.lt
  have hl4 := hb4.lt
  have hzz := hxc.size
  have hz5 := HZW.out
  clear hb0 hb4 hown hxc
  go_upto_if 116 with fail
  go_cut [20] (fun s20 wx => ∃ mo : Int, (if k = 5 then 1 ≤ mo ∧ mo ≤ 1000 else mo = 0) ∧ BK wx (w.heap.size + 1 + 1 + 1 + 1) (.cells #[.int .i64 (k : Int), .slice p4 n4 c4, .string se, .string x3, .string x4, .string x5, .int .u64 mo] 65 (0, 0)) ∧ wx.ownsRow W.heap.size 9 1 (.slice p4 n4 c4) n4 (ss.map Value.string) ∧ Ex [w.heap.size + 1 + 1 + 1 + 1] W wx)
  case first =>
    by_cases h5 : k = 5
    · obtain ⟨D, hD1, hD2⟩ : ∃ D : Nat, rmo.tmod 1000 = (D : Int) ∧ D < 1000 := by
        obtain ⟨r, rfl⟩ : ∃ r : Nat, rmo = r := ⟨rmo.toNat, by omega⟩
        exact ⟨r % 1000, by rw [Int.tmod_eq_emod_of_nonneg (by omega)]; rfl, Nat.mod_lt _ (by omega)⟩
      have e3 : IntKind.u64.wrap (1 + (D : Int)) = 1 + (D : Int) := by rw [IntKind.wrap_u64]; omega
      have h5b : ((k : Int) == 5) = true := by rw [h5]; rfl
      have h5i : (k : Int) = 5 := by omega
      have H5 := hide h5
      clear h5
      go_wp2_with fail
      go_meet
      have b4s := BK.self HB46.out 6 (.int .u64 (1 + (D : Int)))
      simp only [List.setIfInBounds_toArray, List.set_cons_zero, List.set_cons_succ] at b4s
      exact ⟨1 + (D : Int), by rw [if_pos H5.out]; omega, b4s, own_set HO6.out (by simp <;> omega) _, HX6.out.setCell (Or.inl (by simp)) _⟩
    · have h5b : ((k : Int) == 5) = false := beq_eq_false_iff_ne.2 (by omega)
      have h5i : ¬ (k : Int) = 5 := by omega
      go_wp2_with fail
      go_meet
      exact ⟨0, by rw [if_neg h5], HB46.out, HO6.out, HX6.out⟩
  case rest =>
  obtain ⟨mo, hmof, hb4, hown, hxc⟩ := hcut
  obtain ⟨W7, rfl⟩ : ∃ W7, W7 = wc := ⟨_, rfl⟩
  have hb1 := HB1.out.ex hxc (by simp <;> omega)
  have HB17 := hide hb1
  obtain ⟨hc1, hf1⟩ := hb1.all
  have HX7 := hide hxc
  have HO7 := hide hown
  have HMO := hide hmof
  clear hc4 hf4 hc0 hf0
  obtain ⟨hc4, hf4⟩ := hb4.all
  have hl1 := hb1.lt
  have hl47 := hb4.lt
  have hz7 := hxc.size
  have HRG4 := hide (BK.range hb4)
  have HSZ : Hid ((Tryz.prog.info? 65).map (·.size) = some (#[.int .i64 (k : Int), .slice p4 n4 c4, .string se, .string x3, .string x4, .string x5, .int .u64 mo] : Array Value).size) := by show (Tryz.prog.info? 65).map (·.size) = some 7; kernel_rfl
  have HAL : Hid ((#[.int .i64 (k : Int), .slice p4 n4 c4, .string se, .string x3, .string x4, .string x5, .int .u64 mo] : Array Value).all (·.oneCell') = true) := by show (#[.int .i64 (k : Int), .slice p4 n4 c4, .string se, .string x3, .string x4, .string x5, .int .u64 mo] : Array Value).all (·.oneCell') = true; simp [Value.oneCell']
  clear hb1 hb4 hown hxc hmof hc1 hf1 hc4 hf4
  go_upto_region 18 with fail
  go_cut [20] (fun s20 wx => BK wx (w.heap.size + 1) (.cells #[.int .i64 (k : Int), .slice p4 n4 c4, .string se, .string x3, .string x4, .string x5, .int .u64 mo] 65 (0, 0)) ∧ Ex [w.heap.size + 1] W7 wx)
  case first =>
    go_wp2_with (first
      | (refine wpList_load_mid rfl 65 _ rfl (w.heap.size + 1 + 1 + 1 + 1) 0 rfl [.int .i64 (k : Int), .slice p4 n4 c4, .string se, .string x3, .string x4, .string x5, .int .u64 mo] _ HRG4.out Tryz.underlying65 rfl HSZ.out ?_)
      | (refine wpList_store_row rfl 65 _ _ rfl (w.heap.size + 1) #[.int .i64 (k : Int), .slice p4 n4 c4, .string se, .string x3, .string x4, .string x5, .int .u64 mo] rfl rfl 65 _ HB17.out HSZ.out rfl HAL.out ?_; generalize hW8 : World.setRow W7 (w.heap.size + 1) _ = W8; have hbF : BK W8 (w.heap.size + 1) (.cells #[.int .i64 (k : Int), .slice p4 n4 c4, .string se, .string x3, .string x4, .string x5, .int .u64 mo] 65 (0, 0)) := (by rw [← hW8]; exact setRow_heap _ _ _ _ _ _ HB17.out); have hx8 : Ex [w.heap.size + 1] W7 W8 := (by rw [← hW8]; exact (Ex.refl _ _).setRow (Or.inl (by simp)) _); have HBF := hide hbF; have HX8 := hide hx8; clear hW8 hbF hx8))
    go_meet
    exact ⟨HBF.out, HX8.out⟩
  case rest =>
  obtain ⟨hbF, hx8⟩ := hcut
  have HX8 := hide hx8
  refine (‹∀ (a : Act) (w : World), Code.wp Tryz.prog Code.ret _ a w → _›) _ _ (wp_ret ?_)
  have hlF := run_loadVar_mid (P := Tryz.prog) _ (w.heap.size + 1) 0 65 [.int .i64 (k : Int), .slice p4 n4 c4, .string se, .string x3, .string x4, .string x5, .int .u64 mo] _ hbF.range Tryz.underlying65 rfl (by kernel_rfl)
  refine bodyPost_ret (results_cell1 rfl rfl hlF) rfl ⟨k, p4, c4, ss, se, x3, x4, x5, mo, by rw [← HN4.out], ⟨HK10.out, ?_, HFA.out.1, HFA.out.2.1, HFA.out.2.2.1, fun h => HFA.out.2.2.2 (HB1s.out.trans h), by rw [← HB2s.out]; exact HF3.out, by rw [← HB3s.out]; exact HF4.out, by rw [← HB5s.out]; exact HF5.out, HMO.out⟩, fun y hy => by have h9 := own_block HO7.out y (by rw [HN4.out]; exact hy); have := HZW.out; omega, ?_⟩
  · rw [← HN4.out]
    have ho8 := own_exn HO7.out HX8.out (fun y hy => by have := own_block HO7.out y hy; have := HZW.out; simp; omega)
    rw [HN4.out] at ho8 ⊢
    exact own_ss ho8
  · refine Ex.drop (l := [w.heap.size + 1 + 1 + 1 + 1, w.heap.size + 1]) ?_ (by simp <;> omega)
    exact ((HXW.out.drop (by simp)).trans (HX7.out.drop (by simp))).trans (HX8.out.drop (by simp))
end Go.Proofs.YtcbiidoebpkifaaGreatDoor.G
