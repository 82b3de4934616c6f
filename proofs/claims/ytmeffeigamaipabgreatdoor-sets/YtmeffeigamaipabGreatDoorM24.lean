/- K8 K9, one behind the other. -/
import Derived.Test.YtmeffeigamaipabGreatDoorM23
set_option linter.unusedVariables false
set_option linter.unusedSimpArgs false
/- The builder at counts. -/
namespace Go.Proofs.YtmeffeigamaipabGreatDoor.G
open Go.RowKit

theorem infoInt : (Tryz.prog.info? 3).map (fun i => (i.zero, i.size, i.bytes)) = some (some (.int .i64 0), 1, 8) := by kernel_rfl

theorem iterF_succ (f : List Ins → List Ins) (z : Bool) : ∀ (n : Nat) (ks : List Nat) (l : List Ins), iterF f z (n + 1) ks l = ((iterF f z n ks l).1 ++ [(iterF f z n ks l).2.length], f (forkM z (iterF f z n ks l).2))
  | 0, ks, l => rfl
  | n + 1, ks, l => by
    rw [iterF, iterF_succ f z n]
    rfl

theorem iterF_lt (f : List Ins → List Ins) (z : Bool) (s : Nat) (hf : ∀ l, (f l).length = l.length + s) : ∀ (n : Nat) (ks : List Nat) (l : List Ins), (∀ k, k ∈ ks → k < l.length) → ∀ k, k ∈ (iterF f z n ks l).1 → k < (iterF f z n ks l).2.length
  | 0, ks, l, h => h
  | n + 1, ks, l, h => by
    rw [iterF]
    refine iterF_lt f z s hf n _ _ (fun k hk => ?_)
    rw [hf, forkM_len]
    rcases List.mem_append.1 hk with hk | hk
    · have := h k hk; omega
    · simp at hk; omega

theorem own_num_at {w : World} {hs n j : Nat} {v : Value} {ks : List Nat} (h : w.ownsRow hs 3 1 v n (numL ks)) (hj : j < ks.length) : ∃ gf c, v = .slice (some ⟨gf, 0, none⟩) n c ∧ n ≤ c ∧ hs ≤ gf ∧ w.cell? ⟨gf, j, none⟩ = some (.int .i64 (ks[j] : Int)) := by
  have hl := h.1
  rw [numL, List.length_map, Nat.mul_one] at hl
  rcases h.2 with ⟨_, hn⟩ | ⟨g, cap, cur, rfl, hb, hgg, hnc, hcm, hcs, htake⟩
  · omega
  · refine ⟨g, cap, rfl, hnc, hb, ?_⟩
    rw [(BK.all (e := 3) hgg).1, ← Array.getElem?_toList]
    have h1 : (cur.toList.take (n * 1))[j]? = some (.int .i64 (ks[j] : Int)) := by
      rw [htake, numL]
      simp [hj]
    rw [List.getElem?_take, if_pos (by omega)] at h1
    exact h1
theorem numL_snoc (ks : List Nat) (k : Nat) : numL (ks ++ [k]) = numL ks ++ [.int .i64 (k : Int)] := by simp [numL]
theorem fold_take {α : Type} (f : α → Nat → α) (ks : List Nat) (j : Nat) (x : α) (hj : j < ks.length) : (ks.take (j + 1)).foldl f x = f ((ks.take j).foldl f x) ks[j] := by
  rw [List.take_succ_eq_append_getElem hj, List.foldl_append]
  rfl

set_option maxHeartbeats 2000000 in
set_option maxRecDepth 100000 in
theorem counted_any (q : Pt) (le : Nat) (mo : Int) (z : Bool) (g : Nat) (u : PV) (w : World) (b base : Nat) (l : List Ins) (ih : AddC q) (hle : (le : Int) < 1000000000000000000) (hmo : -1 ≤ mo ∧ mo < 1000000000000000000) (hd : BG w b base l) (hB : Pb base b g) (hgl : g < w.heap.size) (hr : w.rangeAt g 0 u.cells) (hq : PR w (Pb base b) q u) (hw : WOK q) (hn : l.length + isz (.count q le mo z) ≤ 99000) :
    Calls Tryz.prog 137 #[.pointer (some ⟨b, 0, none⟩), PV.val ⟨4, some ⟨g, 0, none⟩, 1, 1, 0, 0, false, 0, (le : Int), mo, z⟩] w fun e w' => e = .returned (.tuple #[]) ∧ BG w' b base (addM (.count q le mo z) l) ∧ BF base b w w' := by
  have HD := hide hd
  have HQ := hide hq
  have HIH := hide ih
  have HW := hide hw
  have HN := hide hn
  have hbw : b < w.heap.size := Nat.lt_of_lt_of_le hd.lt hd.le
  have hbb := hd.lt
  have hbs := hd.le
  have hr0 : (w.alloc (Obj.cells #[.int .i64 4, .slice (some ⟨g, 0, none⟩) 1 1, .int .u64 0, .int .u64 0, .bool false, .int .i64 0, .int .i64 le, .int .i64 mo, .bool z] 143)).rangeAt g 0 u.cells := range_same hr (((Ex.refl [] w).alloc _).block g hgl (by simp))
  clear hd hr hq ih hw hn
  obtain ⟨kd', p', n', c', lo', hi', hg', gr', l', m', z'⟩ := u
  have k0 := hr0 0 _ rfl; have k1 := hr0 1 _ rfl; have k2 := hr0 2 _ rfl; have k3 := hr0 3 _ rfl; have k4 := hr0 4 _ rfl
  have k5 := hr0 5 _ rfl; have k6 := hr0 6 _ rfl; have k7 := hr0 7 _ rfl; have k8 := hr0 8 _ rfl
  simp only [Nat.zero_add] at k0 k1 k2 k3 k4 k5 k6 k7 k8
  clear hr0
  unfold PV.val
  dsimp only
  go_enter Tryz.func137, Tryz.ntmps137
  go_wp2_with fail
  clear k0 k1 k2 k3 k4 k5 k6 k7 k8
  obtain ⟨w2, hw2⟩ : ∃ w2, w2 = (w.alloc (Obj.cells #[.int .i64 4, .slice (some ⟨g, 0, none⟩) 1 1, .int .u64 0, .int .u64 0, .bool false, .int .i64 0, .int .i64 le, .int .i64 mo, .bool z] 143)).alloc (Obj.cells #[.int .i64 kd', .slice p' n' c', .int .u64 lo', .int .u64 hi', .bool hg', .int .i64 gr', .int .i64 l', .int .i64 m', .bool z'] 143) := ⟨_, rfl⟩
  rw [← hw2]
  have HX2 := hide (show BF base b w w2 by rw [hw2]; exact ((BF.refl _ _ _).alloc _).alloc _)
  have HD2 := hide (show BG w2 b base l by rw [hw2]; exact (HD.out.alloc _).alloc _)
  have HA := hide (show BK w2 w.heap.size (.cells #[.int .i64 4, .slice (some ⟨g, 0, none⟩) 1 1, .int .u64 0, .int .u64 0, .bool false, .int .i64 0, .int .i64 le, .int .i64 mo, .bool z] 143) by rw [hw2]; exact (BK.new _ _).alloc _)
  have HI := hide (show BK w2 (w.heap.size + 1) (.cells #[.int .i64 kd', .slice p' n' c', .int .u64 lo', .int .u64 hi', .bool hg', .int .i64 gr', .int .i64 l', .int .i64 m', .bool z'] 143) by
    rw [hw2]
    have h := BK.new (w.alloc (Obj.cells #[.int .i64 4, .slice (some ⟨g, 0, none⟩) 1 1, .int .u64 0, .int .u64 0, .bool false, .int .i64 0, .int .i64 le, .int .i64 mo, .bool z] 143)) (Obj.cells #[.int .i64 kd', .slice p' n' c', .int .u64 lo', .int .u64 hi', .bool hg', .int .i64 gr', .int .i64 l', .int .i64 m', .bool z'] 143)
    simpa only [World.size_alloc] using h)
  have hs2 : w2.heap.size = w.heap.size + 2 := by rw [hw2]; simp
  clear hw2
  have hsz : l.length + isz q * le ≤ 99000 := by have h := HN.out; rw [isz] at h; split at h <;> omega
  go_loopg [14] le (fun gk i wr => ∃ j : Nat, j + gk = le ∧ i = .int .i64 j ∧ BG wr b base (iter (addM q) j l) ∧ BF base b w2 wr)
  case atStart => exact ⟨0, by omega, rfl, HD2.out, BF.refl _ _ _⟩
  case round =>
    obtain ⟨j, hj, rfl, hdr, hx⟩ := hrel
    have HX := hide hx
    have HDr := hide hdr
    have HAr := hide (BK.bf HA.out hx (by omega) (by decide))
    have HIr := hide (BK.bf HI.out hx (by omega) (by decide))
    obtain ⟨hcA, hfA⟩ := HAr.out.all
    obtain ⟨hcI, hfI⟩ := HIr.out.all
    clear hdr hx
    cases gk with
    | succ gk =>
      have hj' : ((j : Int) < (le : Int)) := by omega
      have hsj : l.length + isz q * (j + 1) ≤ 99000 := by have := Nat.mul_le_mul_left (isz q) (show j + 1 ≤ le by omega); omega
      go_wp2_with fail
      refine (HIH.out ⟨kd', p', n', c', lo', hi', hg', gr', l', m', z'⟩ _ b base _ HDr.out (HQ.out.bf (HX2.out.trans HX.out)) HW.out (by rw [iter_len _ _ (addM_len q)]; rw [Nat.mul_succ] at hsj; omega)).mono ?_
      rintro e w3 ⟨rfl, hd3, hx3⟩
      have HX3 := hide (HX.out.trans hx3)
      have HD3 := hide hd3
      clear hd3 hx3 hcA hfA hcI hfI
      go_wp2_with fail
      go_roundg gk
      case measure => omega
      case rel => exact ⟨j + 1, by omega, by simp, by rw [iter_succ]; exact HD3.out, HX3.out⟩
    | zero =>
      obtain rfl : j = le := by omega
      clear hj
      obtain ⟨l1, hl1⟩ : ∃ l1, l1 = iter (addM q) j l := ⟨_, rfl⟩
      rw [← hl1] at HDr
      have hl1n : l1.length = l.length + isz q * j := by rw [hl1, iter_len _ _ (addM_len q)]
      have HL1N := hide hl1n
      have HL1 := hide hl1
      clear hl1 hl1n
      by_cases hm : mo = -1
      · subst hm
        have KEY := hide (addLoop_any q z ⟨kd', p', n', c', lo', hi', hg', gr', l', m', z'⟩ wr b base l1 HIH.out HDr.out (HQ.out.bf (HX2.out.trans HX.out)) HW.out (by have h := HN.out; rw [isz, if_pos rfl] at h; rw [HL1N.out]; omega))
        go_wp2_with fail
        refine (show Calls _ _ _ _ _ from KEY.out).mono ?_
        rintro e w3 ⟨rfl, hd3, hx3⟩
        have HX3 := hide (HX.out.trans hx3)
        have HD3 := hide hd3
        clear hd3 hx3 hcA hfA hcI hfI
        go_wp2_with fail
        try simp only [Exit.inBlock, Exit.then]
        refine bodyPost_ret (results_none rfl _ _ _) rfl ?_
        exact ⟨rfl, by rw [addM, if_pos rfl, ← HL1.out]; exact HD3.out, HX2.out.trans HX3.out⟩
      · have hme : (mo == -1) = false := by simpa using hm
        have HM := hide hm
        obtain ⟨M, hM⟩ : ∃ M, M = more j mo := ⟨_, rfl⟩
        have HMM := hide hM
        have hMI : (M : Int) = max 0 (mo - j) := by rw [hM]; unfold more; omega
        have hszM : l1.length + (isz q + 1) * M ≤ 99000 := by have h := HN.out; rw [isz, if_neg hm, ← hM] at h; rw [HL1N.out]; omega
        obtain ⟨hs, hhs⟩ : ∃ hs, hs = w2.heap.size := ⟨_, rfl⟩
        have hbhs : b < hs := by omega
        have hsw : hs ≤ wr.heap.size := by rw [hhs]; exact HX.out.size
        have HHS := hide hhs
        have HMI := hide hMI
        have HSZM := hide hszM
        have hx1 : -9223372036854775808 ≤ mo - (j : Int) := by omega
        have hx2 : mo - (j : Int) ≤ 9223372036854775807 := by omega
        clear hM hhs hm hMI hszM hsz hle hmo
        go_wp2_with fail
        go_loopg [5, 33] M (fun gk fv i wr' => ∃ j' : Nat, j' + gk = M ∧ i = .int .i64 j' ∧ wr'.ownsRow hs 3 1 fv j' (numL (iterF (addM q) z j' [] l1).1) ∧ BG wr' b base (iterF (addM q) z j' [] l1).2 ∧ BF base b w2 wr')
        case atStart => exact ⟨0, by omega, rfl, ⟨rfl, .inl ⟨rfl, rfl⟩⟩, HDr.out, HX.out⟩
        case round =>
          obtain ⟨j', hj', rfl, hown, hdr, hx⟩ := hrel
          obtain ⟨p5, c5, rfl⟩ := own_slice hown
          have HOW := hide hown
          have HX5 := hide hx
          have HD5 := hide hdr
          have hlen := iterF_len (addM q) z (isz q) (addM_len q) j' [] l1
          have HLEN := hide hlen
          have HA5 := hide (BK.bf HA.out hx (by omega) (by decide))
          have HI5 := hide (BK.bf HI.out hx (by omega) (by decide))
          clear hcA hfA hcI hfI
          obtain ⟨hcA, hfA⟩ := HA5.out.all
          obtain ⟨hcI, hfI⟩ := HI5.out.all
          have hsz5 : hs ≤ wr.heap.size := by rw [HHS.out]; exact hx.size
          clear hown hdr hx hlen
          obtain ⟨ks, hks⟩ : ∃ ks, ks = (iterF (addM q) z j' [] l1).1 := ⟨_, rfl⟩
          obtain ⟨l5, hl5⟩ : ∃ l5, l5 = (iterF (addM q) z j' [] l1).2 := ⟨_, rfl⟩
          rw [← hks] at HOW
          rw [← hl5] at HD5
          rw [← hks, ← hl5] at HLEN
          have HKS := hide hks
          have HL5 := hide hl5
          clear hks hl5
          have hl5n : l5.length = l1.length + (isz q + 1) * j' := HLEN.out.1
          have hksn : ks.length = j' := by have := HLEN.out.2; simpa using this
          have HL5N := hide hl5n
          have HKSN := hide hksn
          clear hl5n hksn
          cases gk with
          | succ gk =>
            have hsj : l1.length + (isz q + 1) * (j' + 1) ≤ 99000 := by have := Nat.mul_le_mul_left (isz q + 1) (show j' + 1 ≤ M by omega); have := HSZM.out; omega
            have hsj' : l5.length + isz q + 1 ≤ 99000 := by rw [HL5N.out]; rw [Nat.mul_succ] at hsj; omega
            have hlt5 : (j' : Int) < mo - (j : Int) := by have := HMI.out; omega
            have hj99 : j' ≤ 99000 := by have := Nat.le_mul_of_pos_left j' (show 0 < isz q + 1 by omega); rw [Nat.mul_succ] at hsj; omega
            obtain ⟨i0, hi, hz0, hz1, hz2⟩ := info_parts infoInt
            have KEY := hide (fork_any z HD5.out (by omega))
            clear hsj
            go_wp2_with fail
            refine KEY.out.mono ?_
            rintro e w6 ⟨rfl, hd6, hx6⟩
            have HX6 := hide (HX5.out.trans hx6)
            have HD6 := hide hd6
            have ho6 := own_nums_bf HOW.out hx6 hbhs
            have HO6 := hide ho6
            have hs6 : hs ≤ w6.heap.size := Nat.le_trans hsz5 hx6.size
            have HA6 := hide (BK.bf HA5.out hx6 (by omega) (by decide))
            have HI6 := hide (BK.bf HI5.out hx6 (by omega) (by decide))
            obtain ⟨n6, hn6⟩ : ∃ n6, n6 = l5.length := ⟨_, rfl⟩
            rw [← hn6]
            have HN6 := hide hn6
            clear hd6 hx6 ho6 hcA hfA hcI hfI hn6
            go_wp2_with (at_builtin; refine wpList_append_own _ rfl (.tmp 35) (.tmp 40) 201 rfl hs 3 i0 (.int .i64 0) 1 8 Tryz.underlying201 hi hz0 hz1 hz2 rfl (by decide) (.slice p5 j' c5) j' (numL ks) rfl (HO6.out.alloc _) ⟨w6.heap.size, 0, none⟩ 1 1 [.int .i64 (n6 : Int)] rfl rfl (cells_new _ _ _) (by simp [Value.oneCell']) (by unfold maxLen; omega) (by omega) (by simp; omega) ?_; intro v7 w7 hown7 hgrow7 hiff7; have hI7 := BK.grown (HI6.out.alloc _) hgrow7 (fun e => by have h9 := own_block HO6.out _ e; have h8 := HHS.out; omega); obtain ⟨hcI, hfI⟩ := hI7.all)
            have HO7 := hide hown7
            have HI7 := hide hI7
            have HX7 := hide (BF.grown (HX6.out.alloc _) hgrow7 (fun k hk => .inr (.inl (by have h9 := own_block HO6.out k hk; have h8 := HHS.out; omega))))
            have HD7 := hide (BG.grownNum (HD6.out.alloc _) (HO6.out.alloc _) hgrow7 hbhs)
            clear hown7 hgrow7 hiff7 hI7
            refine (HIH.out ⟨kd', p', n', c', lo', hi', hg', gr', l', m', z'⟩ _ b base _ HD7.out (HQ.out.bf (HX2.out.trans HX7.out)) HW.out (by rw [forkM_len]; omega)).mono ?_
            rintro e w8 ⟨rfl, hd8, hx8⟩
            have HX8 := hide (HX7.out.trans hx8)
            have HD8 := hide hd8
            have HO8 := hide (own_nums_bf HO7.out hx8 hbhs)
            clear hd8 hx8 hcI hfI
            go_wp2_with fail
            go_roundg gk
            case measure => omega
            case rel =>
              refine ⟨j' + 1, by omega, by simp, ?_, ?_, HX8.out⟩
              · rw [iterF_succ, ← HKS.out, ← HL5.out, ← HN6.out, numL_snoc]
                exact HO8.out
              · rw [iterF_succ, ← HL5.out]
                exact HD8.out
          | zero =>
            obtain rfl : j' = M := by omega
            have hge5 : ¬ ((j' : Int) < mo - (j : Int)) := by have := HMI.out; omega
            have hj99 : j' ≤ 99000 := by have := Nat.le_mul_of_pos_left j' (show 0 < isz q + 1 by omega); have := HSZM.out; omega
            clear hj'
            go_wp2_with fail
            go_loopg [48] j' (fun gk i wr' => ∃ d : Nat, d + gk = j' ∧ i = .int .i64 d ∧ BG wr' b base ((ks.take d).foldl (fun l k => leaveM z k l) l5) ∧ BF base b w2 wr' ∧ wr'.ownsRow hs 3 1 (.slice p5 j' c5) j' (numL ks))
            case atStart => exact ⟨0, by omega, rfl, HD5.out, HX5.out, HOW.out⟩
            case round =>
              obtain ⟨d, hd', rfl, hdr, hx, hown⟩ := hrel
              have HO9 := hide hown
              have HX9 := hide hx
              have HD9 := hide hdr
              have HA9 := hide (BK.bf HA.out hx (by omega) (by decide))
              clear hcA hfA
              obtain ⟨hcA, hfA⟩ := HA9.out.all
              clear hdr hx
              cases gk with
              | succ gk =>
                obtain ⟨gf, c9, hv, hnc9, hgf, hcf⟩ := own_num_at (j := d) hown (by rw [HKSN.out]; omega)
                simp only [Value.slice.injEq, true_and] at hv
                obtain ⟨rfl, rfl⟩ := hv
                have hd9 : (d : Int) < (j' : Int) := by omega
                have hlt9 : ks[d]'(by rw [HKSN.out]; omega) < l5.length := by
                  have := iterF_lt (addM q) z (isz q) (addM_len q) j' [] l1 (by simp)
                  rw [← HKS.out, ← HL5.out] at this
                  exact this _ (List.getElem_mem _)
                obtain ⟨kd, hkd⟩ : ∃ kd, kd = ks[d]'(by rw [HKSN.out]; omega) := ⟨_, rfl⟩
                rw [← hkd] at hcf hlt9
                have HKD := hide hkd
                have KEY := hide (leave_any z (k := kd) HD9.out (by rw [fold_leave_len]; exact hlt9) (by rw [fold_leave_len, HL5N.out]; have := HSZM.out; omega))
                clear hown hkd hlt9
                go_wp2_with fail
                refine KEY.out.mono ?_
                rintro e w10 ⟨rfl, hd10, hx10⟩
                have HX10 := hide (HX9.out.trans hx10)
                have HD10 := hide hd10
                have HO10 := hide (own_nums_bf HO9.out hx10 hbhs)
                clear hd10 hx10 hcf hcA hfA
                go_wp2_with fail
                go_roundg gk
                case measure => omega
                case rel =>
                  refine ⟨d + 1, by omega, by simp, ?_, HX10.out, HO10.out⟩
                  rw [fold_take _ ks d l5 (by rw [HKSN.out]; omega), ← HKD.out]
                  exact HD10.out
              | zero =>
                obtain rfl : d = j' := by omega
                clear hd' hown
                go_wp2_with fail
                go_end0
                refine ⟨rfl, ?_, HX2.out.trans HX9.out⟩
                rw [addM, if_neg HM.out]
                dsimp only
                rw [← HMM.out, ← HL1.out, ← HKS.out, ← HL5.out]
                have h := HD9.out
                rw [List.take_of_length_le (by rw [HKSN.out]; omega)] at h
                exact h

set_option maxHeartbeats 1000000 in
set_option maxRecDepth 100000 in
theorem addC_count (q : Pt) (le : Nat) (mo : Int) (z : Bool) (ih : AddC q) : AddC (.count q le mo z) := by
  intro v w b base l hd hp hw hn
  obtain ⟨g, rfl, hB, hgl, u, hr, hq⟩ := hp
  have KEY := hide (counted_any q le mo z g u _ b base l ih hw.2.2.1 ⟨hw.2.2.2.1, hw.2.2.2.2.1⟩ (hd.alloc (Obj.cells #[.int .i64 4, .slice (some ⟨g, 0, none⟩) 1 1, .int .u64 0, .int .u64 0, .bool false, .int .i64 0, .int .i64 le, .int .i64 mo, .bool z] 143)) hB (by simp; omega) (range_same hr (((Ex.refl [] w).alloc _).block g hgl (by simp))) (hq.bf ((BF.refl _ _ _).alloc _)) hw.1 hn)
  clear hd hr hq hw hn ih
  unfold PV.val at KEY ⊢
  dsimp only at KEY ⊢
  go_enter Tryz.func116, Tryz.ntmps116
  go_wp2_with fail
  refine KEY.out.mono ?_
  rintro e w1 ⟨rfl, hd1, hx1⟩
  have HX1 := hide hx1
  have HD1 := hide hd1
  clear hx1 hd1
  go_wp2_with fail
  go_end0
  exact ⟨rfl, HD1.out, ((BF.refl _ _ _).alloc _).trans HX1.out⟩
end Go.Proofs.YtmeffeigamaipabGreatDoor.G

/- The builder at choices. -/
namespace Go.Proofs.YtmeffeigamaipabGreatDoor.G
open Go.RowKit

def altStep (s : List Nat × List Ins) (p : Pt) : List Nat × List Ins :=
  (s.1 ++ [(addM p (forkM false s.2)).length], leaveM false s.2.length (addM p (forkM false s.2) ++ [bare 2]))
theorem altStep_fst (s : List Nat × List Ins) (p : Pt) : (altStep s p).1 = s.1 ++ [(addM p (forkM false s.2)).length] := rfl
theorem altStep_snd (s : List Nat × List Ins) (p : Pt) : (altStep s p).2 = leaveM false s.2.length (addM p (forkM false s.2) ++ [bare 2]) := rfl
theorem altsM_eq (last : Pt) : ∀ (init : List Pt) (js : List Nat) (l : List Ins), altsM (init ++ [last]) js l = ((init.foldl altStep (js, l)).1, addM last (init.foldl altStep (js, l)).2)
  | [], js, l => by simp [altsM]
  | [p], js, l => by simp [altsM, altStep]
  | p :: q :: ps, js, l => by
    have h := altsM_eq last (q :: ps) (js ++ [(addM p (forkM false l)).length]) (leaveM false l.length (addM p (forkM false l) ++ [bare 2]))
    simp only [List.cons_append] at h ⊢
    rw [altsM]
    exact h
theorem altStep_len (s : List Nat × List Ins) (p : Pt) : (altStep s p).2.length = s.2.length + isz p + 2 := by
  simp [altStep, leaveM_len, addM_len, forkM_len]
  omega
theorem alt_len : ∀ (init : List Pt) (s : List Nat × List Ins), (init.foldl altStep s).2.length = s.2.length + iszL init + 2 * init.length ∧ (init.foldl altStep s).1.length = s.1.length + init.length
  | [], s => by simp [iszL]
  | p :: ps, s => by
    have h := alt_len ps (altStep s p)
    rw [List.foldl_cons, h.1, h.2, altStep_len, iszL]
    simp [altStep]
    omega
theorem alt_lt : ∀ (init : List Pt) (s : List Nat × List Ins), (∀ k, k ∈ s.1 → k < s.2.length) → ∀ k, k ∈ (init.foldl altStep s).1 → k < (init.foldl altStep s).2.length
  | [], s, h => h
  | p :: ps, s, h => by
    rw [List.foldl_cons]
    refine alt_lt ps _ (fun k hk => ?_)
    rw [altStep_len]
    rcases List.mem_append.1 hk with hk | hk
    · have := h k hk; omega
    · simp [addM_len, forkM_len] at hk; omega
theorem alt_take (ps : List Pt) (d : Nat) (s : List Nat × List Ins) (hd : d < ps.length) : (ps.take (d + 1)).foldl altStep s = altStep ((ps.take d).foldl altStep s) ps[d] := by
  rw [List.take_succ_eq_append_getElem hd, List.foldl_append]
  rfl
set_option maxHeartbeats 2000000 in
set_option maxRecDepth 100000 in
theorem choice_any (ps : List Pt) (p0 : Option Addr) (c0 : Nat) (w : World) (b base : Nat) (l : List Ins) (ih : ∀ p, p ∈ ps → AddC p) (hlen : 1 ≤ ps.length) (hd : BG w b base l) (hrow : Row w (Pb base b) ⟨2, p0, ps.length, c0, 0, 0, false, 0, 0, 0, false⟩ ps) (hw : ∀ p, p ∈ ps → WOK p) (hn : l.length + iszL ps + 2 * (ps.length - 1) ≤ 99000) :
    Calls Tryz.prog 135 #[.pointer (some ⟨b, 0, none⟩), .slice p0 ps.length c0] w fun e w' => e = .returned (.tuple #[]) ∧ BG w' b base (addM (.alt ps) l) ∧ BF base b w w' := by
  have HD := hide hd
  have HIH := hide ih
  have HW := hide hw
  have HN := hide hn
  have hbw : b < w.heap.size := Nat.lt_of_lt_of_le hd.lt hd.le
  have hbb := hd.lt
  have hbs := hd.le
  obtain ⟨g, hp0, hnc0⟩ : ∃ g, p0 = some ⟨g, 0, none⟩ ∧ ps.length ≤ c0 := by
    obtain ⟨g, _, h1, h2, _⟩ := hrow.at 0 (by omega)
    exact ⟨g, h1, h2⟩
  subst hp0
  have HR := hide hrow
  obtain ⟨n, hnn⟩ : ∃ n, ps.length = n + 1 := ⟨ps.length - 1, by omega⟩
  have HNN := hide hnn
  rw [hnn] at hnc0 ⊢
  have hn99 : n ≤ 99000 := by omega
  clear hd hrow ih hw hn hlen hnn
  obtain ⟨i0, hi, hz0, hz1, hz2⟩ := info_parts infoInt
  go_enter Tryz.func135, Tryz.ntmps135
  go_wp2_with fail
  go_loopg [5, 18] n (fun gk fv i wr' => ∃ d : Nat, d + gk = n ∧ i = .int .i64 d ∧ wr'.ownsRow w.heap.size 3 1 fv d (numL ((ps.take d).foldl altStep ([], l)).1) ∧ BG wr' b base ((ps.take d).foldl altStep ([], l)).2 ∧ BF base b w wr')
  case atStart => exact ⟨0, by omega, rfl, ⟨rfl, .inl ⟨rfl, rfl⟩⟩, HD.out, BF.refl _ _ _⟩
  case round =>
    obtain ⟨d, hdn, rfl, hown, hdr, hx⟩ := hrel
    obtain ⟨p5, c5, rfl⟩ := own_slice hown
    have HOW := hide hown
    have HX5 := hide hx
    have HD5 := hide hdr
    have hlen := alt_len (ps.take d) ([], l)
    have HLEN := hide hlen
    have hsz5 : w.heap.size ≤ wr.heap.size := hx.size
    clear hown hdr hlen
    obtain ⟨ks, hks⟩ : ∃ ks, ks = ((ps.take d).foldl altStep ([], l)).1 := ⟨_, rfl⟩
    obtain ⟨l5, hl5⟩ : ∃ l5, l5 = ((ps.take d).foldl altStep ([], l)).2 := ⟨_, rfl⟩
    rw [← hks] at HOW
    rw [← hl5] at HD5
    rw [← hks, ← hl5] at HLEN
    have HKS := hide hks
    have HL5 := hide hl5
    clear hks hl5
    have HL5N := hide HLEN.out.1
    have HKSN := hide (show ks.length = d by have := HLEN.out.2; rw [this]; simp [HNN.out]; omega)
    cases gk with
    | succ gk =>
      have hd' : (d : Int) < (n : Int) := by omega
      obtain ⟨g1, u, hv, hnc, hB, hlt, hrange, hq⟩ := (HR.out.bf hx).at d (show d < ps.length by rw [HNN.out]; omega)
      simp only at hv
      cases hv
      have hsj : l5.length + isz (ps[d]'(by rw [HNN.out]; omega)) + 2 ≤ 99000 := by
        have h1 := iszL_take ps d (by rw [HNN.out]; omega)
        have h2 := HN.out
        have h3 := HL5N.out
        rw [List.length_take, HNN.out] at h3
        rw [HNN.out] at h2
        dsimp only at h3
        omega
      have HSJ := hide hsj
      have HQ := hide hq
      clear hx hq hB hsj
      obtain ⟨kd', p', n', c', lo', hi', hg', gr', l', m', z'⟩ := u
      have k0 := hrange 0 _ rfl; have k1 := hrange 1 _ rfl; have k2 := hrange 2 _ rfl; have k3 := hrange 3 _ rfl; have k4 := hrange 4 _ rfl
      have k5 := hrange 5 _ rfl; have k6 := hrange 6 _ rfl; have k7 := hrange 7 _ rfl; have k8 := hrange 8 _ rfl
      simp only [Nat.add_zero] at k0
      clear hrange
      have HFK := hide (fun w (hd : BG w b base l5) => fork_any false hd (by have := HSJ.out; omega))
      go_wp2_with fail
      refine (HFK.out _ (HD5.out.alloc _)).mono ?_
      rintro e w6 ⟨rfl, hd6, hx6⟩
      have HI6 := hide (show BK w6 wr.heap.size (.cells #[.int .i64 kd', .slice p' n' c', .int .u64 lo', .int .u64 hi', .bool hg', .int .i64 gr', .int .i64 l', .int .i64 m', .bool z'] 143) from BK.bf (BK.new _ _) hx6 (by omega) (by decide))
      have HX6 := hide ((HX5.out.alloc _).trans hx6)
      have HO6 := hide (own_nums_bf (HOW.out.alloc _) hx6 hbw)
      have HA7 := hide (HIH.out (ps[d]'(by rw [HNN.out]; omega)) (List.getElem_mem _) ⟨kd', p', n', c', lo', hi', hg', gr', l', m', z'⟩ w6 b base _ hd6 ((HQ.out.bf ((BF.refl _ _ _).alloc _)).bf hx6) (HW.out _ (List.getElem_mem _)) (by rw [forkM_len]; have := HSJ.out; omega))
      obtain ⟨hcI, hfI⟩ := HI6.out.all
      obtain ⟨n5, hn5⟩ : ∃ n5, n5 = l5.length := ⟨_, rfl⟩
      rw [← hn5]
      have HN5 := hide hn5
      clear hd6 hx6 k0 k1 k2 k3 k4 k5 k6 k7 k8 hn5
      go_wp2_with fail
      refine (show Calls _ _ _ _ _ from HA7.out).mono ?_
      rintro e w7 ⟨rfl, hd7, hx7⟩
      have HX7 := hide (HX6.out.trans hx7)
      have HO7 := hide (own_nums_bf HO6.out hx7 hbw)
      have HP7 := hide (put_bare 2 hd7 (by rw [addM_len, forkM_len]; have := HSJ.out; omega))
      clear hd7 hx7 hcI hfI
      go_wp2_with fail
      refine HP7.out.mono ?_
      rintro e w8 ⟨rfl, hd8, hx8⟩
      have HX8 := hide (HX7.out.trans hx8)
      have HO8 := hide (own_nums_bf HO7.out hx8 hbw)
      have HD8 := hide hd8
      have hs8 : w.heap.size ≤ w8.heap.size := HX8.out.size
      obtain ⟨n8, hn8⟩ : ∃ n8, n8 = (addM (ps[d]'(by rw [HNN.out]; omega)) (forkM false l5)).length := ⟨_, rfl⟩
      rw [← hn8]
      have HN8 := hide hn8
      clear hd8 hx8 hn8
      go_wp2_with (at_builtin; refine wpList_append_own _ rfl (.tmp 27) (.tmp 31) 201 rfl w.heap.size 3 i0 (.int .i64 0) 1 8 Tryz.underlying201 hi hz0 hz1 hz2 rfl (by decide) (.slice p5 d c5) d (numL ks) rfl (HO8.out.alloc _) ⟨w8.heap.size, 0, none⟩ 1 1 [.int .i64 (n8 : Int)] rfl rfl (cells_new _ _ _) (by simp [Value.oneCell']) (by unfold maxLen; omega) (by omega) (by simp; omega) ?_; intro v9 w9 hown9 hgrow9 hiff9)
      have HO9 := hide hown9
      have HX9 := hide (BF.grown (HX8.out.alloc _) hgrow9 (fun k hk => .inr (.inl (own_block HO8.out k hk))))
      have HD9 := hide (BG.grownNum (HD8.out.alloc _) (HO8.out.alloc _) hgrow9 hbw)
      have HL9 := hide (leave_any false (k := n5) HD9.out (by rw [HN5.out]; simp [addM_len, forkM_len]; omega) (by simp [addM_len, forkM_len]; have := HSJ.out; omega))
      clear hown9 hgrow9 hiff9
      refine HL9.out.mono ?_
      rintro e w10 ⟨rfl, hd10, hx10⟩
      have HX10 := hide (HX9.out.trans hx10)
      have HD10 := hide hd10
      have HO10 := hide (own_nums_bf HO9.out hx10 hbw)
      clear hd10 hx10
      go_wp2_with fail
      go_roundg gk
      case measure => omega
      case rel =>
        refine ⟨d + 1, by omega, by simp, ?_, ?_, HX10.out⟩
        · rw [alt_take ps d _ (by rw [HNN.out]; omega), altStep_fst, ← HKS.out, ← HL5.out, ← HN8.out, numL_snoc]
          exact HO10.out
        · rw [alt_take ps d _ (by rw [HNN.out]; omega), altStep_snd, ← HL5.out, ← HN5.out]
          have h := HD10.out
          unfold leaveM
          exact h
    | zero =>
      obtain rfl : d = n := by omega
      obtain ⟨g1, u, hv, hnc, hB, hlt, hrange, hq⟩ := (HR.out.bf hx).at d (show d < ps.length by rw [HNN.out]; omega)
      simp only at hv
      cases hv
      have hsj : l5.length + isz (ps[d]'(by rw [HNN.out]; omega)) ≤ 99000 := by
        have h1 := iszL_take ps d (by rw [HNN.out]; omega)
        have h2 := HN.out
        have h3 := HL5N.out
        rw [List.length_take, HNN.out] at h3
        rw [HNN.out] at h2
        dsimp only at h3
        omega
      have HSJ := hide hsj
      have HQ := hide hq
      clear hx hq hB hsj hdn
      obtain ⟨kd', p', n', c', lo', hi', hg', gr', l', m', z'⟩ := u
      have k0 := hrange 0 _ rfl; have k1 := hrange 1 _ rfl; have k2 := hrange 2 _ rfl; have k3 := hrange 3 _ rfl; have k4 := hrange 4 _ rfl
      have k5 := hrange 5 _ rfl; have k6 := hrange 6 _ rfl; have k7 := hrange 7 _ rfl; have k8 := hrange 8 _ rfl
      simp only [Nat.add_zero] at k0
      clear hrange
      have HA7 := hide (HIH.out (ps[d]'(by rw [HNN.out]; omega)) (List.getElem_mem _) ⟨kd', p', n', c', lo', hi', hg', gr', l', m', z'⟩ wr b base _ HD5.out HQ.out (HW.out _ (List.getElem_mem _)) (by have := HSJ.out; omega))
      go_wp2_with fail
      refine (show Calls _ _ _ _ _ from HA7.out).mono ?_
      rintro e w7 ⟨rfl, hd7, hx7⟩
      have HX7 := hide (HX5.out.trans hx7)
      have HO7 := hide (own_nums_bf HOW.out hx7 hbw)
      have HD7 := hide hd7
      obtain ⟨l7, hl7⟩ : ∃ l7, l7 = addM (ps[d]'(by rw [HNN.out]; omega)) l5 := ⟨_, rfl⟩
      rw [← hl7] at HD7
      have HL7 := hide hl7
      have HL7N := hide (show l7.length ≤ 99000 by rw [hl7, addM_len]; have := HSJ.out; omega)
      clear hd7 hx7 k0 k1 k2 k3 k4 k5 k6 k7 k8 hl7
      go_wp2_with fail
      go_loopg [45] d (fun gk i wr' => ∃ e : Nat, e + gk = d ∧ i = .int .i64 e ∧ BG wr' b base ((ks.take e).foldl (fun l k => landM k l) l7) ∧ BF base b w wr' ∧ wr'.ownsRow w.heap.size 3 1 (.slice p5 d c5) d (numL ks))
      case atStart => exact ⟨0, by omega, rfl, HD7.out, HX7.out, HO7.out⟩
      case round =>
        obtain ⟨e, he, rfl, hdr, hx, hown⟩ := hrel
        have HO9 := hide hown
        have HX9 := hide hx
        have HD9 := hide hdr
        clear hdr hx
        cases gk with
        | succ gk =>
          obtain ⟨gf, c9, hv, hnc9, hgf, hcf⟩ := own_num_at (j := e) hown (by rw [HKSN.out]; omega)
          simp only [Value.slice.injEq, true_and] at hv
          obtain ⟨rfl, rfl⟩ := hv
          have he9 : (e : Int) < (d : Int) := by omega
          obtain ⟨L, hL⟩ : ∃ L, L = (ks.take e).foldl (fun l k => landM k l) l7 := ⟨_, rfl⟩
          rw [← hL] at HD9
          have hLn : L.length = l7.length := by rw [hL, fold_land_len]
          have hlt9 : ks[e]'(by rw [HKSN.out]; omega) < L.length := by
            have := alt_lt (ps.take d) ([], l) (by simp)
            rw [← HKS.out, ← HL5.out] at this
            have h2 := this _ (List.getElem_mem (l := ks) (n := e) (by rw [HKSN.out]; omega))
            rw [hLn, HL7.out, addM_len]
            omega
          obtain ⟨kd, hkd⟩ : ∃ kd, kd = ks[e]'(by rw [HKSN.out]; omega) := ⟨_, rfl⟩
          rw [← hkd] at hcf hlt9
          have HKD := hide hkd
          have HLL := hide hL
          obtain ⟨g9, c9', hb9, ho9, hnc9', hg9, hgl9, hfz9, hcell9⟩ := HD9.out.parts (by omega)
          obtain ⟨i9, hi9⟩ : ∃ i9, L[kd]? = some i9 := ⟨L[kd], by simp [hlt9]⟩
          have hc4 := hcell9 (kd * 7 + 4) _ (by rw [codeL_at L kd 4 i9 hi9 (by omega)]; rfl)
          have hf4 := hfz9 (kd * 7 + 4)
          have hbl9 := hb9.lt
          have hb0 : wr.cell? ⟨b, 0, none⟩ = some (.slice (some ⟨g9, 0, none⟩) L.length c9') := hb9.all.1 0
          have HB9 := hide hb9
          have HRO9 := hide ho9
          have HLN := hide (show L.length ≤ 99000 by rw [hLn]; exact HL7N.out)
          obtain ⟨nL, hnL⟩ : ∃ nL, nL = L.length := ⟨_, rfl⟩
          have hnL9 : nL ≤ 99000 := by rw [hnL]; exact HLN.out
          have hk9 : (kd : Int) < (nL : Int) := by omega
          have HNL := hide hnL
          rw [← hnL] at hb0 hnc9'
          clear hown hkd hL hLn hb9 ho9 hfz9 hcell9 hi9 hlt9 hnL
          go_wp2_with fail
          go_region
          all_goals
            go_wp2_with fail
            go_roundg gk
            case measure => omega
            case rel =>
              refine ⟨e + 1, by omega, by simp, ?_, ?_, ?_⟩
              · rw [fold_take _ ks e l7 (by rw [HKSN.out]; omega), ← HKD.out, ← HLL.out]
                have h := BG.way (w := wr.drew) HB9.out.drew HRO9.out.drew hbb HD9.out.le hg9 false nL (k := kd) (by rw [← HNL.out]; omega)
                unfold landM
                rw [← HNL.out]
                exact h
              · exact BF.setCell (p := ⟨g9, kd * 7 + 4, none⟩) (HX9.out.drew) (.inr (.inr ⟨hg9, (own_IB (World.ownsRow.drew HRO9.out) g9 rfl).2⟩)) _
              · exact own_nums_bf HO9.out (BF.setCell (p := ⟨g9, kd * 7 + 4, none⟩) ((BF.refl base b wr).drew) (.inr (.inr ⟨hg9, (own_IB (World.ownsRow.drew HRO9.out) g9 rfl).2⟩)) _) hbw
        | zero =>
          obtain rfl : e = d := by omega
          clear he hown
          go_wp2_with fail
          go_end0
          refine ⟨rfl, ?_, HX9.out⟩
          have hsplit : ps = ps.take e ++ [ps[e]'(by rw [HNN.out]; omega)] := by
            rw [← List.take_succ_eq_append_getElem (by rw [HNN.out]; omega), List.take_of_length_le (by rw [HNN.out]; omega)]
          have halt : altsM ps [] l = (ks, l7) := by
            rw [HL7.out, HKS.out, HL5.out]
            conv => lhs; rw [hsplit]
            exact altsM_eq _ _ _ _
          rw [addM, halt]
          dsimp only
          have h := HD9.out
          rw [List.take_of_length_le (by rw [HKSN.out]; omega)] at h
          exact h

set_option maxHeartbeats 1000000 in
set_option maxRecDepth 100000 in
theorem addC_alt (ps : List Pt) (ih : ∀ p, p ∈ ps → AddC p) : AddC (.alt ps) := by
  intro v w b base l hd hp hw hn
  obtain ⟨hrow, hkd⟩ := hp.row
  obtain ⟨p, n, c, rfl, hnl, hr⟩ := hp
  subst hnl
  have hrow' : Row w (Pb base b) ⟨2, p, ps.length, c, 0, 0, false, 0, 0, 0, false⟩ ps := hrow
  have KEY := hide (choice_any ps p c _ b base l ih hw.2.2.2 (hd.alloc (Obj.cells #[.int .i64 2, .slice p ps.length c, .int .u64 0, .int .u64 0, .bool false, .int .i64 0, .int .i64 0, .int .i64 0, .bool false] 143)) (hrow'.bf ((BF.refl _ _ _).alloc _)) (WOKL_mem hw.1) (by simp only [isz] at hn; omega))
  clear hd hr hrow hrow' hw hn ih hkd
  unfold PV.val
  dsimp only
  go_enter Tryz.func116, Tryz.ntmps116
  go_wp2_with fail
  refine KEY.out.mono ?_
  rintro e w1 ⟨rfl, hd1, hx1⟩
  have HX1 := hide hx1
  have HD1 := hide hd1
  clear hx1 hd1
  go_wp2_with fail
  go_end0
  exact ⟨rfl, HD1.out, ((BF.refl _ _ _).alloc _).trans HX1.out⟩

theorem add_all : ∀ q, AddC q := by
  have key : ∀ (n : Nat) (q : Pt), SizeOf.sizeOf q < n → AddC q := by
    intro n
    induction n with
    | zero => intro q hq; omega
    | succ n ih =>
      intro q hq
      have ih' : ∀ x, x ∈ kids q → AddC x := fun x hx => ih x (by have := kids_lt q x hx; omega)
      cases q with
      | single c => exact addC_single c
      | seq l => exact addC_seq l ih'
      | alt l => exact addC_alt l ih'
      | wrap q k => exact addC_wrap q k (ih' q (by simp [kids]))
      | count q a b c => exact addC_count q a b c (ih' q (by simp [kids]))
  exact fun q => key (SizeOf.sizeOf q + 1) q (by omega)
end Go.Proofs.YtmeffeigamaipabGreatDoor.G
