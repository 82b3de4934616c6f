/- K7 K8, one behind the other. -/
import Derived.Test.YtmeffeigamaipaaDoorM19
set_option linter.unusedVariables false
set_option linter.unusedSimpArgs false
/- The builder at counts without an end. -/
namespace Go.Proofs.YtmeffeigamaipaaDoor.G
open Go.RowKit

theorem iter_succ {α : Type} (f : α → α) : ∀ (n : Nat) (x : α), iter f (n + 1) x = f (iter f n x)
  | 0, x => rfl
  | n + 1, x => by rw [iter, iter_succ f n (f x)]; rfl

set_option maxHeartbeats 1000000 in
set_option maxRecDepth 100000 in
theorem addLoop_any (q : Pt) (z : Bool) (u : PV) (w : World) (b base : Nat) (l : List Ins) (ih : AddC q) (hd : BG w b base l) (hq : PR w (Pb base b) q u) (hw : WOK q) (hn : l.length + isz q + 4 ≤ 99000) :
    Calls Tryd.prog 52 #[.pointer (some ⟨b, 0, none⟩), u.val, .bool z] w fun e w' => e = .returned (.tuple #[]) ∧ BG w' b base (loopM (addM q) z l) ∧ BF base b w w' := by
  have HD := hide hd
  have HQ := hide hq
  have HIH := hide ih
  have HW := hide hw
  have hbw : b < w.heap.size := Nat.lt_of_lt_of_le hd.lt hd.le
  have HFK := hide (fun w (hd : BG w b base l) => fork_any z hd (by omega))
  clear hd hq ih hw
  obtain ⟨kd', p', n', c', lo', hi', hg', gr', l', m', z'⟩ := u
  unfold PV.val
  dsimp only
  go_enter Tryd.func52, Tryd.ntmps52
  go_wp2_with fail
  refine (HFK.out _ (HD.out.alloc _)).mono ?_
  rintro e w1 ⟨rfl, hd1, hx1⟩
  have hA1 : BK w1 w.heap.size (.cells #[.int .i64 kd', .slice p' n' c', .int .u64 lo', .int .u64 hi', .bool hg', .int .i64 gr', .int .i64 l', .int .i64 m', .bool z'] 59) := BK.bf (BK.new _ _) hx1 (by omega) (by decide)
  have HA1 := hide hA1
  have HX1 := hide (((BF.refl base b w).alloc _).trans hx1)
  have HP2 := hide (put_bare 4 hd1 (by rw [forkM_len]; omega))
  clear hd1 hx1 hA1
  go_wp2_with fail
  refine HP2.out.mono ?_
  rintro e w2 ⟨rfl, hd2, hx2⟩
  have hA2 := BK.bf HA1.out hx2 (by omega) (by decide)
  have HA2 := hide hA2
  have HX2 := hide (HX1.out.trans hx2)
  have HP3 := hide (HIH.out ⟨kd', p', n', c', lo', hi', hg', gr', l', m', z'⟩ w2 b base _ hd2 (HQ.out.bf HX2.out) HW.out (by simp [forkM_len]; omega))
  obtain ⟨hcA, hfA⟩ := hA2.all
  clear hd2 hx2 hA2
  go_wp2_with fail
  refine (show Calls _ _ _ _ _ from HP3.out).mono ?_
  rintro e w3 ⟨rfl, hd3, hx3⟩
  have HX3 := hide (HX2.out.trans hx3)
  have HP4 := hide (put_bare 5 hd3 (by rw [addM_len]; simp [forkM_len]; omega))
  clear hd3 hx3 hcA hfA
  go_wp2_with fail
  refine HP4.out.mono ?_
  rintro e w4 ⟨rfl, hd4, hx4⟩
  have HX4 := hide (HX3.out.trans hx4)
  have HP5 := hide (put_gen (jumpTo l.length) hd4 (by simp [addM_len, forkM_len]; omega))
  clear hd4 hx4
  go_wp2_with fail
  refine (show Calls _ _ _ _ _ from HP5.out).mono ?_
  rintro e w5 ⟨rfl, hd5, hx5⟩
  have HX5 := hide (HX4.out.trans hx5)
  have HP6 := hide (leave_any z (k := l.length) hd5 (by simp [addM_len, forkM_len]; omega) (by simp [addM_len, forkM_len]; omega))
  clear hd5 hx5
  go_wp2_with fail
  refine (show Calls _ _ _ _ _ from HP6.out).mono ?_
  rintro e w6 ⟨rfl, hd6, hx6⟩
  have HX6 := hide (HX5.out.trans hx6)
  have HD6 := hide hd6
  clear hd6 hx6
  go_wp2_with fail
  go_end0
  exact ⟨rfl, HD6.out, HX6.out⟩

def numL (ks : List Nat) : List Value := ks.map fun (k : Nat) => Value.int .i64 (k : Int)
theorem own_nums_bf {w w' : World} {hs base b n : Nat} {v : Value} {xs : List Value} (h : w.ownsRow hs 3 1 v n xs) (hx : BF base b w w') (hb : b < hs) : w'.ownsRow hs 3 1 v n xs := by
  refine ⟨h.1, ?_⟩
  rcases h.2 with hn | ⟨g, cap, cur, rfl, hg, hgg, rest⟩
  · exact .inl hn
  · exact .inr ⟨g, cap, cur, rfl, hg, BK.bf (e := 3) hgg hx (by omega) (by decide), rest⟩
theorem BG.grownNum {w w' : World} {hs base b n : Nat} {l : List Ins} {v : Value} {xs : List Value} (hd : BG w b base l) (h : w.ownsRow hs 3 1 v n xs) (hg : w.grownBy w' v.ownBlock) (hb : b < hs) : BG w' b base l := by
  obtain ⟨u, hbk, ho⟩ := hd.ex
  have hint : ∀ k, v.ownBlock = some k → hs ≤ k ∧ ∃ cur, w.heap[k]? = some (.cells cur 3 (0, 0)) := by
    intro k hk
    rcases h.2 with ⟨rfl, _⟩ | ⟨g, cap, cur, rfl, hb', hgg, _⟩
    · simp [Value.ownBlock] at hk
    · simp [Value.ownBlock] at hk
      subst hk
      exact ⟨hb', cur, hgg⟩
  refine ⟨hd.lt, Nat.le_trans hd.le hg.size, u, BK.grown hbk hg (fun e => by have := (hint b e).1; omega), ho.1, ?_⟩
  rcases ho.2 with hn | ⟨g, cap, cur, rfl, hb', hgg, rest⟩
  · exact .inl hn
  · refine .inr ⟨g, cap, cur, rfl, hb', BK.grown hgg hg (fun e => ?_), rest⟩
    obtain ⟨_, cur', h1⟩ := hint g e
    rw [hgg] at h1
    cases h1
end Go.Proofs.YtmeffeigamaipaaDoor.G

/- The builder at counts. -/
namespace Go.Proofs.YtmeffeigamaipaaDoor.G
open Go.RowKit

theorem infoInt : (Tryd.prog.info? 3).map (fun i => (i.zero, i.size, i.bytes)) = some (some (.int .i64 0), 1, 8) := by kernel_rfl

theorem iterF_succ (f : List Ins → List Ins) (z : Bool) : ∀ (n : Nat) (ks : List Nat) (l : List Ins), iterF f z (n + 1) ks l = ((iterF f z n ks l).1 ++ [(iterF f z n ks l).2.length], f (forkM z (iterF f z n ks l).2))
  | 0, ks, l => rfl
  | n + 1, ks, l => by
    rw [iterF, iterF_succ f z n]
    rfl

theorem iterF_lt (f : List Ins → List Ins) (z : Bool) (s : Nat) (hf : ∀ l, (f l).length = l.length + s) : ∀ (n : Nat) (ks : List Nat) (l : List Ins), (∀ k, k ∈ ks → k < l.length) → ∀ k, k ∈ (iterF f z n ks l).1 → k < (iterF f z n ks l).2.length
  | 0, ks, l, h => h
  | n + 1, ks, l, h => by
    rw [iterF]
    refine iterF_lt f z s hf n _ _ (fun k hk => ?_)
    rw [hf, forkM_len]
    rcases List.mem_append.1 hk with hk | hk
    · have := h k hk; omega
    · simp at hk; omega

theorem own_num_at {w : World} {hs n j : Nat} {v : Value} {ks : List Nat} (h : w.ownsRow hs 3 1 v n (numL ks)) (hj : j < ks.length) : ∃ gf c, v = .slice (some ⟨gf, 0, none⟩) n c ∧ n ≤ c ∧ hs ≤ gf ∧ w.cell? ⟨gf, j, none⟩ = some (.int .i64 (ks[j] : Int)) := by
  have hl := h.1
  rw [numL, List.length_map, Nat.mul_one] at hl
  rcases h.2 with ⟨_, hn⟩ | ⟨g, cap, cur, rfl, hb, hgg, hnc, hcm, hcs, htake⟩
  · omega
  · refine ⟨g, cap, rfl, hnc, hb, ?_⟩
    rw [(BK.all (e := 3) hgg).1, ← Array.getElem?_toList]
    have h1 : (cur.toList.take (n * 1))[j]? = some (.int .i64 (ks[j] : Int)) := by
      rw [htake, numL]
      simp [hj]
    rw [List.getElem?_take, if_pos (by omega)] at h1
    exact h1
theorem numL_snoc (ks : List Nat) (k : Nat) : numL (ks ++ [k]) = numL ks ++ [.int .i64 (k : Int)] := by simp [numL]
theorem fold_take {α : Type} (f : α → Nat → α) (ks : List Nat) (j : Nat) (x : α) (hj : j < ks.length) : (ks.take (j + 1)).foldl f x = f ((ks.take j).foldl f x) ks[j] := by
  rw [List.take_succ_eq_append_getElem hj, List.foldl_append]
  rfl

set_option maxHeartbeats 2000000 in
set_option maxRecDepth 100000 in
theorem counted_any (q : Pt) (le : Nat) (mo : Int) (z : Bool) (g : Nat) (u : PV) (w : World) (b base : Nat) (l : List Ins) (ih : AddC q) (hle : (le : Int) < 1000000000000000000) (hmo : -1 ≤ mo ∧ mo < 1000000000000000000) (hd : BG w b base l) (hB : Pb base b g) (hgl : g < w.heap.size) (hr : w.rangeAt g 0 u.cells) (hq : PR w (Pb base b) q u) (hw : WOK q) (hn : l.length + isz (.count q le mo z) ≤ 99000) :
    Calls Tryd.prog 46 #[.pointer (some ⟨b, 0, none⟩), PV.val ⟨4, some ⟨g, 0, none⟩, 1, 1, 0, 0, false, 0, (le : Int), mo, z⟩] w fun e w' => e = .returned (.tuple #[]) ∧ BG w' b base (addM (.count q le mo z) l) ∧ BF base b w w' := by
  have HD := hide hd
  have HQ := hide hq
  have HIH := hide ih
  have HW := hide hw
  have HN := hide hn
  have hbw : b < w.heap.size := Nat.lt_of_lt_of_le hd.lt hd.le
  have hbb := hd.lt
  have hbs := hd.le
  have hr0 : (w.alloc (Obj.cells #[.int .i64 4, .slice (some ⟨g, 0, none⟩) 1 1, .int .u64 0, .int .u64 0, .bool false, .int .i64 0, .int .i64 le, .int .i64 mo, .bool z] 59)).rangeAt g 0 u.cells := range_same hr (((Ex.refl [] w).alloc _).block g hgl (by simp))
  clear hd hr hq ih hw hn
  obtain ⟨kd', p', n', c', lo', hi', hg', gr', l', m', z'⟩ := u
  have k0 := hr0 0 _ rfl; have k1 := hr0 1 _ rfl; have k2 := hr0 2 _ rfl; have k3 := hr0 3 _ rfl; have k4 := hr0 4 _ rfl
  have k5 := hr0 5 _ rfl; have k6 := hr0 6 _ rfl; have k7 := hr0 7 _ rfl; have k8 := hr0 8 _ rfl
  simp only [Nat.zero_add] at k0 k1 k2 k3 k4 k5 k6 k7 k8
  clear hr0
  unfold PV.val
  dsimp only
  go_enter Tryd.func46, Tryd.ntmps46
  go_wp2_with fail
  clear k0 k1 k2 k3 k4 k5 k6 k7 k8
  obtain ⟨w2, hw2⟩ : ∃ w2, w2 = (w.alloc (Obj.cells #[.int .i64 4, .slice (some ⟨g, 0, none⟩) 1 1, .int .u64 0, .int .u64 0, .bool false, .int .i64 0, .int .i64 le, .int .i64 mo, .bool z] 59)).alloc (Obj.cells #[.int .i64 kd', .slice p' n' c', .int .u64 lo', .int .u64 hi', .bool hg', .int .i64 gr', .int .i64 l', .int .i64 m', .bool z'] 59) := ⟨_, rfl⟩
  rw [← hw2]
  have HX2 := hide (show BF base b w w2 by rw [hw2]; exact ((BF.refl _ _ _).alloc _).alloc _)
  have HD2 := hide (show BG w2 b base l by rw [hw2]; exact (HD.out.alloc _).alloc _)
  have HA := hide (show BK w2 w.heap.size (.cells #[.int .i64 4, .slice (some ⟨g, 0, none⟩) 1 1, .int .u64 0, .int .u64 0, .bool false, .int .i64 0, .int .i64 le, .int .i64 mo, .bool z] 59) by rw [hw2]; exact (BK.new _ _).alloc _)
  have HI := hide (show BK w2 (w.heap.size + 1) (.cells #[.int .i64 kd', .slice p' n' c', .int .u64 lo', .int .u64 hi', .bool hg', .int .i64 gr', .int .i64 l', .int .i64 m', .bool z'] 59) by
    rw [hw2]
    have h := BK.new (w.alloc (Obj.cells #[.int .i64 4, .slice (some ⟨g, 0, none⟩) 1 1, .int .u64 0, .int .u64 0, .bool false, .int .i64 0, .int .i64 le, .int .i64 mo, .bool z] 59)) (Obj.cells #[.int .i64 kd', .slice p' n' c', .int .u64 lo', .int .u64 hi', .bool hg', .int .i64 gr', .int .i64 l', .int .i64 m', .bool z'] 59)
    simpa only [World.size_alloc] using h)
  have hs2 : w2.heap.size = w.heap.size + 2 := by rw [hw2]; simp
  clear hw2
  have hsz : l.length + isz q * le ≤ 99000 := by have h := HN.out; rw [isz] at h; split at h <;> omega
  go_loopg [14] le (fun gk i wr => ∃ j : Nat, j + gk = le ∧ i = .int .i64 j ∧ BG wr b base (iter (addM q) j l) ∧ BF base b w2 wr)
  case atStart => exact ⟨0, by omega, rfl, HD2.out, BF.refl _ _ _⟩
  case round =>
    obtain ⟨j, hj, rfl, hdr, hx⟩ := hrel
    have HX := hide hx
    have HDr := hide hdr
    have HAr := hide (BK.bf HA.out hx (by omega) (by decide))
    have HIr := hide (BK.bf HI.out hx (by omega) (by decide))
    obtain ⟨hcA, hfA⟩ := HAr.out.all
    obtain ⟨hcI, hfI⟩ := HIr.out.all
    clear hdr hx
    cases gk with
    | succ gk =>
      have hj' : ((j : Int) < (le : Int)) := by omega
      have hsj : l.length + isz q * (j + 1) ≤ 99000 := by have := Nat.mul_le_mul_left (isz q) (show j + 1 ≤ le by omega); omega
      go_wp2_with fail
      refine (HIH.out ⟨kd', p', n', c', lo', hi', hg', gr', l', m', z'⟩ _ b base _ HDr.out (HQ.out.bf (HX2.out.trans HX.out)) HW.out (by rw [iter_len _ _ (addM_len q)]; rw [Nat.mul_succ] at hsj; omega)).mono ?_
      rintro e w3 ⟨rfl, hd3, hx3⟩
      have HX3 := hide (HX.out.trans hx3)
      have HD3 := hide hd3
      clear hd3 hx3 hcA hfA hcI hfI
      go_wp2_with fail
      go_roundg gk
      case measure => omega
      case rel => exact ⟨j + 1, by omega, by simp, by rw [iter_succ]; exact HD3.out, HX3.out⟩
    | zero =>
      obtain rfl : j = le := by omega
      clear hj
      obtain ⟨l1, hl1⟩ : ∃ l1, l1 = iter (addM q) j l := ⟨_, rfl⟩
      rw [← hl1] at HDr
      have hl1n : l1.length = l.length + isz q * j := by rw [hl1, iter_len _ _ (addM_len q)]
      have HL1N := hide hl1n
      have HL1 := hide hl1
      clear hl1 hl1n
      by_cases hm : mo = -1
      · subst hm
        have KEY := hide (addLoop_any q z ⟨kd', p', n', c', lo', hi', hg', gr', l', m', z'⟩ wr b base l1 HIH.out HDr.out (HQ.out.bf (HX2.out.trans HX.out)) HW.out (by have h := HN.out; rw [isz, if_pos rfl] at h; rw [HL1N.out]; omega))
        go_wp2_with fail
        refine (show Calls _ _ _ _ _ from KEY.out).mono ?_
        rintro e w3 ⟨rfl, hd3, hx3⟩
        have HX3 := hide (HX.out.trans hx3)
        have HD3 := hide hd3
        clear hd3 hx3 hcA hfA hcI hfI
        go_wp2_with fail
        try simp only [Exit.inBlock, Exit.then]
        refine bodyPost_ret (results_none rfl _ _ _) rfl ?_
        exact ⟨rfl, by rw [addM, if_pos rfl, ← HL1.out]; exact HD3.out, HX2.out.trans HX3.out⟩
      · have hme : (mo == -1) = false := by simpa using hm
        have HM := hide hm
        obtain ⟨M, hM⟩ : ∃ M, M = more j mo := ⟨_, rfl⟩
        have HMM := hide hM
        have hMI : (M : Int) = max 0 (mo - j) := by rw [hM]; unfold more; omega
        have hszM : l1.length + (isz q + 1) * M ≤ 99000 := by have h := HN.out; rw [isz, if_neg hm, ← hM] at h; rw [HL1N.out]; omega
        obtain ⟨hs, hhs⟩ : ∃ hs, hs = w2.heap.size := ⟨_, rfl⟩
        have hbhs : b < hs := by omega
        have hsw : hs ≤ wr.heap.size := by rw [hhs]; exact HX.out.size
        have HHS := hide hhs
        have HMI := hide hMI
        have HSZM := hide hszM
        have hx1 : -9223372036854775808 ≤ mo - (j : Int) := by omega
        have hx2 : mo - (j : Int) ≤ 9223372036854775807 := by omega
        clear hM hhs hm hMI hszM hsz hle hmo
        go_wp2_with fail
        go_loopg [5, 33] M (fun gk fv i wr' => ∃ j' : Nat, j' + gk = M ∧ i = .int .i64 j' ∧ wr'.ownsRow hs 3 1 fv j' (numL (iterF (addM q) z j' [] l1).1) ∧ BG wr' b base (iterF (addM q) z j' [] l1).2 ∧ BF base b w2 wr')
        case atStart => exact ⟨0, by omega, rfl, ⟨rfl, .inl ⟨rfl, rfl⟩⟩, HDr.out, HX.out⟩
        case round =>
          obtain ⟨j', hj', rfl, hown, hdr, hx⟩ := hrel
          obtain ⟨p5, c5, rfl⟩ := own_slice hown
          have HOW := hide hown
          have HX5 := hide hx
          have HD5 := hide hdr
          have hlen := iterF_len (addM q) z (isz q) (addM_len q) j' [] l1
          have HLEN := hide hlen
          have HA5 := hide (BK.bf HA.out hx (by omega) (by decide))
          have HI5 := hide (BK.bf HI.out hx (by omega) (by decide))
          clear hcA hfA hcI hfI
          obtain ⟨hcA, hfA⟩ := HA5.out.all
          obtain ⟨hcI, hfI⟩ := HI5.out.all
          have hsz5 : hs ≤ wr.heap.size := by rw [HHS.out]; exact hx.size
          clear hown hdr hx hlen
          obtain ⟨ks, hks⟩ : ∃ ks, ks = (iterF (addM q) z j' [] l1).1 := ⟨_, rfl⟩
          obtain ⟨l5, hl5⟩ : ∃ l5, l5 = (iterF (addM q) z j' [] l1).2 := ⟨_, rfl⟩
          rw [← hks] at HOW
          rw [← hl5] at HD5
          rw [← hks, ← hl5] at HLEN
          have HKS := hide hks
          have HL5 := hide hl5
          clear hks hl5
          have hl5n : l5.length = l1.length + (isz q + 1) * j' := HLEN.out.1
          have hksn : ks.length = j' := by have := HLEN.out.2; simpa using this
          have HL5N := hide hl5n
          have HKSN := hide hksn
          clear hl5n hksn
          cases gk with
          | succ gk =>
            have hsj : l1.length + (isz q + 1) * (j' + 1) ≤ 99000 := by have := Nat.mul_le_mul_left (isz q + 1) (show j' + 1 ≤ M by omega); have := HSZM.out; omega
            have hsj' : l5.length + isz q + 1 ≤ 99000 := by rw [HL5N.out]; rw [Nat.mul_succ] at hsj; omega
            have hlt5 : (j' : Int) < mo - (j : Int) := by have := HMI.out; omega
            have hj99 : j' ≤ 99000 := by have := Nat.le_mul_of_pos_left j' (show 0 < isz q + 1 by omega); rw [Nat.mul_succ] at hsj; omega
            obtain ⟨i0, hi, hz0, hz1, hz2⟩ := info_parts infoInt
            have KEY := hide (fork_any z HD5.out (by omega))
            clear hsj
            go_wp2_with fail
            refine KEY.out.mono ?_
            rintro e w6 ⟨rfl, hd6, hx6⟩
            have HX6 := hide (HX5.out.trans hx6)
            have HD6 := hide hd6
            have ho6 := own_nums_bf HOW.out hx6 hbhs
            have HO6 := hide ho6
            have hs6 : hs ≤ w6.heap.size := Nat.le_trans hsz5 hx6.size
            have HA6 := hide (BK.bf HA5.out hx6 (by omega) (by decide))
            have HI6 := hide (BK.bf HI5.out hx6 (by omega) (by decide))
            obtain ⟨n6, hn6⟩ : ∃ n6, n6 = l5.length := ⟨_, rfl⟩
            rw [← hn6]
            have HN6 := hide hn6
            clear hd6 hx6 ho6 hcA hfA hcI hfI hn6
            go_wp2_with (at_builtin; refine wpList_append_own _ rfl (.tmp 35) (.tmp 40) 105 rfl hs 3 i0 (.int .i64 0) 1 8 Tryd.underlying105 hi hz0 hz1 hz2 rfl (by decide) (.slice p5 j' c5) j' (numL ks) rfl (HO6.out.alloc _) ⟨w6.heap.size, 0, none⟩ 1 1 [.int .i64 (n6 : Int)] rfl rfl (cells_new _ _ _) (by simp [Value.oneCell']) (by unfold maxLen; omega) (by omega) (by simp; omega) ?_; intro v7 w7 hown7 hgrow7 hiff7; have hI7 := BK.grown (HI6.out.alloc _) hgrow7 (fun e => by have h9 := own_block HO6.out _ e; have h8 := HHS.out; omega); obtain ⟨hcI, hfI⟩ := hI7.all)
            have HO7 := hide hown7
            have HI7 := hide hI7
            have HX7 := hide (BF.grown (HX6.out.alloc _) hgrow7 (fun k hk => .inr (.inl (by have h9 := own_block HO6.out k hk; have h8 := HHS.out; omega))))
            have HD7 := hide (BG.grownNum (HD6.out.alloc _) (HO6.out.alloc _) hgrow7 hbhs)
            clear hown7 hgrow7 hiff7 hI7
            refine (HIH.out ⟨kd', p', n', c', lo', hi', hg', gr', l', m', z'⟩ _ b base _ HD7.out (HQ.out.bf (HX2.out.trans HX7.out)) HW.out (by rw [forkM_len]; omega)).mono ?_
            rintro e w8 ⟨rfl, hd8, hx8⟩
            have HX8 := hide (HX7.out.trans hx8)
            have HD8 := hide hd8
            have HO8 := hide (own_nums_bf HO7.out hx8 hbhs)
            clear hd8 hx8 hcI hfI
            go_wp2_with fail
            go_roundg gk
            case measure => omega
            case rel =>
              refine ⟨j' + 1, by omega, by simp, ?_, ?_, HX8.out⟩
              · rw [iterF_succ, ← HKS.out, ← HL5.out, ← HN6.out, numL_snoc]
                exact HO8.out
              · rw [iterF_succ, ← HL5.out]
                exact HD8.out
          | zero =>
            obtain rfl : j' = M := by omega
            have hge5 : ¬ ((j' : Int) < mo - (j : Int)) := by have := HMI.out; omega
            have hj99 : j' ≤ 99000 := by have := Nat.le_mul_of_pos_left j' (show 0 < isz q + 1 by omega); have := HSZM.out; omega
            clear hj'
            go_wp2_with fail
            go_loopg [48] j' (fun gk i wr' => ∃ d : Nat, d + gk = j' ∧ i = .int .i64 d ∧ BG wr' b base ((ks.take d).foldl (fun l k => leaveM z k l) l5) ∧ BF base b w2 wr' ∧ wr'.ownsRow hs 3 1 (.slice p5 j' c5) j' (numL ks))
            case atStart => exact ⟨0, by omega, rfl, HD5.out, HX5.out, HOW.out⟩
            case round =>
              obtain ⟨d, hd', rfl, hdr, hx, hown⟩ := hrel
              have HO9 := hide hown
              have HX9 := hide hx
              have HD9 := hide hdr
              have HA9 := hide (BK.bf HA.out hx (by omega) (by decide))
              clear hcA hfA
              obtain ⟨hcA, hfA⟩ := HA9.out.all
              clear hdr hx
              cases gk with
              | succ gk =>
                obtain ⟨gf, c9, hv, hnc9, hgf, hcf⟩ := own_num_at (j := d) hown (by rw [HKSN.out]; omega)
                simp only [Value.slice.injEq, true_and] at hv
                obtain ⟨rfl, rfl⟩ := hv
                have hd9 : (d : Int) < (j' : Int) := by omega
                have hlt9 : ks[d]'(by rw [HKSN.out]; omega) < l5.length := by
                  have := iterF_lt (addM q) z (isz q) (addM_len q) j' [] l1 (by simp)
                  rw [← HKS.out, ← HL5.out] at this
                  exact this _ (List.getElem_mem _)
                obtain ⟨kd, hkd⟩ : ∃ kd, kd = ks[d]'(by rw [HKSN.out]; omega) := ⟨_, rfl⟩
                rw [← hkd] at hcf hlt9
                have HKD := hide hkd
                have KEY := hide (leave_any z (k := kd) HD9.out (by rw [fold_leave_len]; exact hlt9) (by rw [fold_leave_len, HL5N.out]; have := HSZM.out; omega))
                clear hown hkd hlt9
                go_wp2_with fail
                refine KEY.out.mono ?_
                rintro e w10 ⟨rfl, hd10, hx10⟩
                have HX10 := hide (HX9.out.trans hx10)
                have HD10 := hide hd10
                have HO10 := hide (own_nums_bf HO9.out hx10 hbhs)
                clear hd10 hx10 hcf hcA hfA
                go_wp2_with fail
                go_roundg gk
                case measure => omega
                case rel =>
                  refine ⟨d + 1, by omega, by simp, ?_, HX10.out, HO10.out⟩
                  rw [fold_take _ ks d l5 (by rw [HKSN.out]; omega), ← HKD.out]
                  exact HD10.out
              | zero =>
                obtain rfl : d = j' := by omega
                clear hd' hown
                go_wp2_with fail
                go_end0
                refine ⟨rfl, ?_, HX2.out.trans HX9.out⟩
                rw [addM, if_neg HM.out]
                dsimp only
                rw [← HMM.out, ← HL1.out, ← HKS.out, ← HL5.out]
                have h := HD9.out
                rw [List.take_of_length_le (by rw [HKSN.out]; omega)] at h
                exact h

set_option maxHeartbeats 1000000 in
set_option maxRecDepth 100000 in
theorem addC_count (q : Pt) (le : Nat) (mo : Int) (z : Bool) (ih : AddC q) : AddC (.count q le mo z) := by
  intro v w b base l hd hp hw hn
  obtain ⟨g, rfl, hB, hgl, u, hr, hq⟩ := hp
  have KEY := hide (counted_any q le mo z g u _ b base l ih hw.2.2.1 ⟨hw.2.2.2.1, hw.2.2.2.2.1⟩ (hd.alloc (Obj.cells #[.int .i64 4, .slice (some ⟨g, 0, none⟩) 1 1, .int .u64 0, .int .u64 0, .bool false, .int .i64 0, .int .i64 le, .int .i64 mo, .bool z] 59)) hB (by simp; omega) (range_same hr (((Ex.refl [] w).alloc _).block g hgl (by simp))) (hq.bf ((BF.refl _ _ _).alloc _)) hw.1 hn)
  clear hd hr hq hw hn ih
  unfold PV.val at KEY ⊢
  dsimp only at KEY ⊢
  go_enter Tryd.func34, Tryd.ntmps34
  go_wp2_with fail
  refine KEY.out.mono ?_
  rintro e w1 ⟨rfl, hd1, hx1⟩
  have HX1 := hide hx1
  have HD1 := hide hd1
  clear hx1 hd1
  go_wp2_with fail
  go_end0
  exact ⟨rfl, HD1.out, ((BF.refl _ _ _).alloc _).trans HX1.out⟩
end Go.Proofs.YtmeffeigamaipaaDoor.G
