import Derived.Test.YtfnanjbleifjkaaGreatDoorM15
set_option linter.unusedVariables false
set_option linter.unusedSimpArgs false
set_option maxHeartbeats 2000000
set_option maxRecDepth 100000
namespace Go.Proofs.YtfnanjbleifjkaaGreatDoor.G
open Go.RowKit
theorem jU : (Tryz.prog.info? 3).map (fun i => (i.zero, i.size, i.bytes)) = some (some (.int .i64 0), 1, 8) := by kernel_rfl
theorem iq (f : List Ins -> List Ins) (z : Bool) : ∀ (n : Nat) (ks : List Nat) (l : List Ins), dc f z (n + 1) ks l = ((dc f z n ks l).1 ++ [(dc f z n ks l).2.length], f (df z (dc f z n ks l).2))
 | 0, ks, l => rfl
 |n + 1, ks, l => by
  rw [dc, iq f z n]
  rfl
theorem pN (f : List Ins -> List Ins) (z : Bool) (s : Nat) (hf : ∀ l, (f l).length = l.length + s) : ∀ (n : Nat) (ks : List Nat) (l : List Ins), (∀ k, k ∈ ks -> k < l.length) -> ∀ k, k ∈ (dc f z n ks l).1 -> k < (dc f z n ks l).2.length
 | 0, ks, l, h => h
 |n + 1, ks, l, h => by
  rw [dc]
  refine pN f z s hf n _ _ (fun k hk => ?_)
  rw [hf, bn]
  rcases List.mem_append.1 hk with hk | hk
  ·have := h k hk; omega
  ·simp at hk; omega
theorem kp {w : World} {hs n j : Nat} {v : Value} {ks : List Nat} (h : w.ownsRow hs 3 1 v n (jQ ks)) (hj : j < ks.length) : ∃ gf c, v = .slice (some ⟨gf, 0, none⟩) n c /\ n <= c /\ hs <= gf /\ w.cell? ⟨gf, j, none⟩ = some (.int .i64 (ks[j] : Int)) := by
 have hl := h.1
 rw [jQ, List.length_map, Nat.mul_one] at hl
 rcases h.2 with ⟨_, hn⟩ | ⟨g, cap, cur, rfl, hb, hgg, hnc, hcm, hcs, htake⟩
 ·omega
 ·refine ⟨g, cap, rfl, hnc, hb, ?_⟩
  rw [(BK.all (e := 3) hgg).1, <- Array.getElem?_toList]
  have h1 : (cur.toList.take (n * 1))[j]? = some (.int .i64 (ks[j] : Int)) := by
   rw [htake, jQ]
   simp [hj]
  rw [List.getElem?_take, if_pos (by omega)] at h1
  exact h1
theorem mh (ks : List Nat) (k : Nat) : jQ (ks ++ [k]) = jQ ks ++ [.int .i64 (k : Int)] := by simp [jQ]
theorem lZ {α : Type} (f : α -> Nat -> α) (ks : List Nat) (j : Nat) (x : α) (hj : j < ks.length) : (ks.take (j + 1)).foldl f x = f ((ks.take j).foldl f x) ks[j] := by
 rw [List.take_succ_eq_append_getElem hj, List.foldl_append]
 rfl
theorem pG (q : Pt) (le : Nat) (mo : Int) (z : Bool) (g : Nat) (u : PV) (w : World) (b base : Nat) (l : List Ins) (ih : gU q) (hle : (le : Int) < 1000000000000000000) (hmo : -1 <= mo /\ mo < 1000000000000000000) (hd : BG w b base l) (hB : Pb base b g) (hgl : g < w.heap.size) (hr : w.rangeAt g 0 u.cells) (hq : PR w (Pb base b) q u) (hw : WOK q) (hn : l.length + isz (.count q le mo z) <= 99000) :
  Calls Tryz.prog 140 #[.pointer (some ⟨b, 0, none⟩), PV.val ⟨4, some ⟨g, 0, none⟩, 1, 1, 0, 0, false, 0, (le : Int), mo, z⟩] w fun e w' => e = .returned (.tuple #[]) /\ BG w' b base (be (.count q le mo z) l) /\ BF base b w w' := by
 have HD := aa hd
 have HQ := aa hq
 have HIH := aa ih
 have HW := aa hw
 have HN := aa hn
 have hbw : b < w.heap.size := Nat.lt_of_lt_of_le hd.lt hd.le
 have hbb := hd.lt
 have hbs := hd.le
 have hr0 : (w.alloc (Obj.cells #[.int .i64 4, .slice (some ⟨g, 0, none⟩) 1 1, .int .u64 0, .int .u64 0, .bool false, .int .i64 0, .int .i64 le, .int .i64 mo, .bool z] 101)).rangeAt g 0 u.cells := bo hr (((Ex.refl [] w).alloc _).block g hgl (by simp))
 clear hd hr hq ih hw hn
 obtain ⟨kd', p', n', c', lo', hi', hg', gr', l', m', z'⟩ := u
 have k0 := hr0 0 _ rfl; have k1 := hr0 1 _ rfl; have k2 := hr0 2 _ rfl; have k3 := hr0 3 _ rfl; have k4 := hr0 4 _ rfl
 have k5 := hr0 5 _ rfl; have k6 := hr0 6 _ rfl; have k7 := hr0 7 _ rfl; have k8 := hr0 8 _ rfl
 simp only [Nat.zero_add] at k0 k1 k2 k3 k4 k5 k6 k7 k8
 clear hr0
 unfold PV.val
 dsimp only
 go_enter Tryz.func140, Tryz.ntmps140
 go_wp2_with fail
 clear k0 k1 k2 k3 k4 k5 k6 k7 k8
 obtain ⟨w2, hw2⟩ := exq ((w.alloc (Obj.cells #[.int .i64 4, .slice (some ⟨g, 0, none⟩) 1 1, .int .u64 0, .int .u64 0, .bool false, .int .i64 0, .int .i64 le, .int .i64 mo, .bool z] 101)).alloc (Obj.cells #[.int .i64 kd', .slice p' n' c', .int .u64 lo', .int .u64 hi', .bool hg', .int .i64 gr', .int .i64 l', .int .i64 m', .bool z'] 101))
 rw [<- hw2]
 have HX2 := aa (show BF base b w w2 by rw [hw2]; exact ((BF.refl _ _ _).alloc _).alloc _)
 have HD2 := aa (show BG w2 b base l by rw [hw2]; exact (HD.O.alloc _).alloc _)
 have HA := aa (show BK w2 w.heap.size (.cells #[.int .i64 4, .slice (some ⟨g, 0, none⟩) 1 1, .int .u64 0, .int .u64 0, .bool false, .int .i64 0, .int .i64 le, .int .i64 mo, .bool z] 101) by rw [hw2]; exact (BK.new _ _).alloc _)
 have HI := aa (show BK w2 (w.heap.size + 1) (.cells #[.int .i64 kd', .slice p' n' c', .int .u64 lo', .int .u64 hi', .bool hg', .int .i64 gr', .int .i64 l', .int .i64 m', .bool z'] 101) by
  rw [hw2]
  have h := BK.new (w.alloc (Obj.cells #[.int .i64 4, .slice (some ⟨g, 0, none⟩) 1 1, .int .u64 0, .int .u64 0, .bool false, .int .i64 0, .int .i64 le, .int .i64 mo, .bool z] 101)) (Obj.cells #[.int .i64 kd', .slice p' n' c', .int .u64 lo', .int .u64 hi', .bool hg', .int .i64 gr', .int .i64 l', .int .i64 m', .bool z'] 101)
  simpa only [World.size_alloc] using h)
 have hs2 : w2.heap.size = w.heap.size + 2 := by rw [hw2]; simp
 clear hw2
 have hsz : l.length + isz q * le <= 99000 := by have h := HN.O; rw [isz] at h; split at h <;> omega
 go_loopg [14] le (fun gk i wr => ∃ j : Nat, j + gk = le /\ i = .int .i64 j /\ BG wr b base (fI (be q) j l) /\ BF base b w2 wr)
 case atStart => exact ⟨0, by omega, rfl, HD2.O, BF.refl _ _ _⟩
 case round =>
  obtain ⟨j, hj, rfl, hdr, hx⟩ := hrel
  have HX := aa hx
  have HDr := aa hdr
  have HAr := aa (BK.bf HA.O hx (by omega) (by decide))
  have HIr := aa (BK.bf HI.O hx (by omega) (by decide))
  obtain ⟨hcA, hfA⟩ := HAr.O.all
  obtain ⟨hcI, hfI⟩ := HIr.O.all
  clear hdr hx
  cases gk with
  |succ gk =>
   have hj' : ((j : Int) < (le : Int)) := by omega
   have hsj : l.length + isz q * (j + 1) <= 99000 := by have := Nat.mul_le_mul_left (isz q) (show j + 1 <= le by omega); omega
   go_wp2_with fail
   refine (HIH.O ⟨kd', p', n', c', lo', hi', hg', gr', l', m', z'⟩ _ b base _ HDr.O (HQ.O.bf (HX2.O.trans HX.O)) HW.O (by rw [gC _ _ (aM q)]; rw [Nat.mul_succ] at hsj; omega)).mono ?_
   rintro e w3 ⟨rfl, hd3, hx3⟩
   have HX3 := aa (HX.O.trans hx3)
   have HD3 := aa hd3
   clear hd3 hx3 hcA hfA hcI hfI
   go_wp2_with fail
   go_roundg gk
   case measure => omega
   case rel => exact ⟨j + 1, by omega, by simp, by rw [mB]; exact HD3.O, HX3.O⟩
  |zero =>
   obtain rfl : j = le := by omega
   clear hj
   obtain ⟨l1, hl1⟩ := exq (fI (be q) j l)
   rw [<- hl1] at HDr
   have hl1n : l1.length = l.length + isz q * j := by rw [hl1, gC _ _ (aM q)]
   have HL1N := aa hl1n
   have HL1 := aa hl1
   clear hl1 hl1n
   by_cases hm : mo = -1
   ·subst hm
    have KEY := aa (pu q z ⟨kd', p', n', c', lo', hi', hg', gr', l', m', z'⟩ wr b base l1 HIH.O HDr.O (HQ.O.bf (HX2.O.trans HX.O)) HW.O (by have h := HN.O; rw [isz, if_pos rfl] at h; rw [HL1N.O]; omega))
    go_wp2_with fail
    refine (show Calls _ _ _ _ _ from KEY.O).mono ?_
    rintro e w3 ⟨rfl, hd3, hx3⟩
    have HX3 := aa (HX.O.trans hx3)
    have HD3 := aa hd3
    clear hd3 hx3 hcA hfA hcI hfI
    go_wp2_with fail
    try simp only [Exit.inBlock, Exit.then]
    refine bodyPost_ret (results_none rfl _ _ _) rfl ?_
    exact ⟨rfl, by rw [be, if_pos rfl, <- HL1.O]; exact HD3.O, HX2.O.trans HX3.O⟩
   ·have hme : (mo == -1) = false := by simpa using hm
    have HM := aa hm
    obtain ⟨M, hM⟩ := exq (more j mo)
    have HMM := aa hM
    have hMI : (M : Int) = max 0 (mo - j) := by rw [hM]; unfold more; omega
    have hszM : l1.length + (isz q + 1) * M <= 99000 := by have h := HN.O; rw [isz, if_neg hm, <- hM] at h; rw [HL1N.O]; omega
    obtain ⟨hs, hhs⟩ := exq (w2.heap.size)
    have hbhs : b < hs := by omega
    have hsw : hs <= wr.heap.size := by rw [hhs]; exact HX.O.size
    have HHS := aa hhs
    have HMI := aa hMI
    have HSZM := aa hszM
    have hx1 : -9223372036854775808 <= mo - (j : Int) := by omega
    have hx2 : mo - (j : Int) <= 9223372036854775807 := by omega
    clear hM hhs hm hMI hszM hsz hle hmo
    go_wp2_with fail
    go_loopg [5, 33] M (fun gk fv i wr' => ∃ j' : Nat, j' + gk = M /\ i = .int .i64 j' /\ wr'.ownsRow hs 3 1 fv j' (jQ (dc (be q) z j' [] l1).1) /\ BG wr' b base (dc (be q) z j' [] l1).2 /\ BF base b w2 wr')
    case atStart => exact ⟨0, by omega, rfl, ⟨rfl, .inl ⟨rfl, rfl⟩⟩, HDr.O, HX.O⟩
    case round =>
     obtain ⟨j', hj', rfl, hown, hdr, hx⟩ := hrel
     obtain ⟨p5, c5, rfl⟩ := aw hown
     have HOW := aa hown
     have HX5 := aa hx
     have HD5 := aa hdr
     have hlen := jB (be q) z (isz q) (aM q) j' [] l1
     have HLEN := aa hlen
     have HA5 := aa (BK.bf HA.O hx (by omega) (by decide))
     have HI5 := aa (BK.bf HI.O hx (by omega) (by decide))
     clear hcA hfA hcI hfI
     obtain ⟨hcA, hfA⟩ := HA5.O.all
     obtain ⟨hcI, hfI⟩ := HI5.O.all
     have hsz5 : hs <= wr.heap.size := by rw [HHS.O]; exact hx.size
     clear hown hdr hx hlen
     obtain ⟨ks, hks⟩ := exq ((dc (be q) z j' [] l1).1)
     obtain ⟨l5, hl5⟩ := exq ((dc (be q) z j' [] l1).2)
     rw [<- hks] at HOW
     rw [<- hl5] at HD5
     rw [<- hks, <- hl5] at HLEN
     have HKS := aa hks
     have HL5 := aa hl5
     clear hks hl5
     have hl5n : l5.length = l1.length + (isz q + 1) * j' := HLEN.O.1
     have hksn : ks.length = j' := by have := HLEN.O.2; simpa using this
     have HL5N := aa hl5n
     have HKSN := aa hksn
     clear hl5n hksn
     cases gk with
     |succ gk =>
      have hsj : l1.length + (isz q + 1) * (j' + 1) <= 99000 := by have := Nat.mul_le_mul_left (isz q + 1) (show j' + 1 <= M by omega); have := HSZM.O; omega
      have hsj' : l5.length + isz q + 1 <= 99000 := by rw [HL5N.O]; rw [Nat.mul_succ] at hsj; omega
      have hlt5 : (j' : Int) < mo - (j : Int) := by have := HMI.O; omega
      have hj99 : j' <= 99000 := by have := Nat.le_mul_of_pos_left j' (show 0 < isz q + 1 by omega); rw [Nat.mul_succ] at hsj; omega
      obtain ⟨i0, hi, hz0, hz1, hz2⟩ := info_parts jU
      have KEY := aa (kx z HD5.O (by omega))
      clear hsj
      go_wp2_with fail
      refine KEY.O.mono ?_
      rintro e w6 ⟨rfl, hd6, hx6⟩
      have HX6 := aa (HX5.O.trans hx6)
      have HD6 := aa hd6
      have ho6 := b7 HOW.O hx6 hbhs
      have HO6 := aa ho6
      have hs6 : hs <= w6.heap.size := Nat.le_trans hsz5 hx6.size
      have HA6 := aa (BK.bf HA5.O hx6 (by omega) (by decide))
      have HI6 := aa (BK.bf HI5.O hx6 (by omega) (by decide))
      obtain ⟨n6, hn6⟩ := exq (l5.length)
      rw [<- hn6]
      have HN6 := aa hn6
      clear hd6 hx6 ho6 hcA hfA hcI hfI hn6
      go_wp2_with (at_builtin; refine wpList_append_own _ rfl (.tmp 35) (.tmp 40) 199 rfl hs 3 i0 (.int .i64 0) 1 8 Tryz.underlying199 hi hz0 hz1 hz2 rfl (by decide) (.slice p5 j' c5) j' (jQ ks) rfl (HO6.O.alloc _) ⟨w6.heap.size, 0, none⟩ 1 1 [.int .i64 (n6 : Int)] rfl rfl (bu _ _ _) (by simp [Value.oneCell']) (by unfold maxLen; omega) (by omega) (by simp; omega) ?_; intro v7 w7 hown7 hgrow7 hiff7; have hI7 := BK.grown (HI6.O.alloc _) hgrow7 (fun e => by have h9 := aG HO6.O _ e; have h8 := HHS.O; omega); obtain ⟨hcI, hfI⟩ := hI7.all)
      have HO7 := aa hown7
      have HI7 := aa hI7
      have HX7 := aa (BF.grown (HX6.O.alloc _) hgrow7 (fun k hk => .inr (.inl (by have h9 := aG HO6.O k hk; have h8 := HHS.O; omega))))
      have HD7 := aa (BG.grownNum (HD6.O.alloc _) (HO6.O.alloc _) hgrow7 hbhs)
      clear hown7 hgrow7 hiff7 hI7
      refine (HIH.O ⟨kd', p', n', c', lo', hi', hg', gr', l', m', z'⟩ _ b base _ HD7.O (HQ.O.bf (HX2.O.trans HX7.O)) HW.O (by rw [bn]; omega)).mono ?_
      rintro e w8 ⟨rfl, hd8, hx8⟩
      have HX8 := aa (HX7.O.trans hx8)
      have HD8 := aa hd8
      have HO8 := aa (b7 HO7.O hx8 hbhs)
      clear hd8 hx8 hcI hfI
      go_wp2_with fail
      go_roundg gk
      case measure => omega
      case rel =>
       refine ⟨j' + 1, by omega, by simp, ?_, ?_, HX8.O⟩
       ·rw [iq, <- HKS.O, <- HL5.O, <- HN6.O, mh]
        exact HO8.O
       ·rw [iq, <- HL5.O]
        exact HD8.O
     |zero =>
      obtain rfl : j' = M := by omega
      have hge5 : ¬ ((j' : Int) < mo - (j : Int)) := by have := HMI.O; omega
      have hj99 : j' <= 99000 := by have := Nat.le_mul_of_pos_left j' (show 0 < isz q + 1 by omega); have := HSZM.O; omega
      clear hj'
      go_wp2_with fail
      go_loopg [48] j' (fun gk i wr' => ∃ d : Nat, d + gk = j' /\ i = .int .i64 d /\ BG wr' b base ((ks.take d).foldl (fun l k => db z k l) l5) /\ BF base b w2 wr' /\ wr'.ownsRow hs 3 1 (.slice p5 j' c5) j' (jQ ks))
      case atStart => exact ⟨0, by omega, rfl, HD5.O, HX5.O, HOW.O⟩
      case round =>
       obtain ⟨d, hd', rfl, hdr, hx, hown⟩ := hrel
       have HO9 := aa hown
       have HX9 := aa hx
       have HD9 := aa hdr
       have HA9 := aa (BK.bf HA.O hx (by omega) (by decide))
       clear hcA hfA
       obtain ⟨hcA, hfA⟩ := HA9.O.all
       clear hdr hx
       cases gk with
       |succ gk =>
        obtain ⟨gf, c9, hv, hnc9, hgf, hcf⟩ := kp (j := d) hown (by rw [HKSN.O]; omega)
        simp only [Value.slice.injEq, true_and] at hv
        obtain ⟨rfl, rfl⟩ := hv
        have hd9 : (d : Int) < (j' : Int) := by omega
        have hlt9 : ks[d]'(by rw [HKSN.O]; omega) < l5.length := by
         have := pN (be q) z (isz q) (aM q) j' [] l1 (by simp)
         rw [<- HKS.O, <- HL5.O] at this
         exact this _ (List.getElem_mem _)
        obtain ⟨kd, hkd⟩ := exq (ks[d]'(by rw [HKSN.O]; omega))
        rw [<- hkd] at hcf hlt9
        have HKD := aa hkd
        have KEY := aa (jq z (k := kd) HD9.O (by rw [dF]; exact hlt9) (by rw [dF, HL5N.O]; have := HSZM.O; omega))
        clear hown hkd hlt9
        go_wp2_with fail
        refine KEY.O.mono ?_
        rintro e w10 ⟨rfl, hd10, hx10⟩
        have HX10 := aa (HX9.O.trans hx10)
        have HD10 := aa hd10
        have HO10 := aa (b7 HO9.O hx10 hbhs)
        clear hd10 hx10 hcf hcA hfA
        go_wp2_with fail
        go_roundg gk
        case measure => omega
        case rel =>
         refine ⟨d + 1, by omega, by simp, ?_, HX10.O, HO10.O⟩
         rw [lZ _ ks d l5 (by rw [HKSN.O]; omega), <- HKD.O]
         exact HD10.O
       |zero =>
        obtain rfl : d = j' := by omega
        clear hd' hown
        go_wp2_with fail
        go_end0
        refine ⟨rfl, ?_, HX2.O.trans HX9.O⟩
        rw [be, if_neg HM.O]
        dsimp only
        rw [<- HMM.O, <- HL1.O, <- HKS.O, <- HL5.O]
        have h := HD9.O
        rw [List.take_of_length_le (by rw [HKSN.O]; omega)] at h
        exact h
theorem qX (q : Pt) (le : Nat) (mo : Int) (z : Bool) (ih : gU q) : gU (.count q le mo z) := by
 intro v w b base l hd hp hw hn
 obtain ⟨g, rfl, hB, hgl, u, hr, hq⟩ := hp
 have KEY := aa (pG q le mo z g u _ b base l ih hw.2.2.1 ⟨hw.2.2.2.1, hw.2.2.2.2.1⟩ (hd.alloc (Obj.cells #[.int .i64 4, .slice (some ⟨g, 0, none⟩) 1 1, .int .u64 0, .int .u64 0, .bool false, .int .i64 0, .int .i64 le, .int .i64 mo, .bool z] 101)) hB (by simp; omega) (bo hr (((Ex.refl [] w).alloc _).block g hgl (by simp))) (hq.bf ((BF.refl _ _ _).alloc _)) hw.1 hn)
 clear hd hr hq hw hn ih
 unfold PV.val at KEY ⊢
 dsimp only at KEY ⊢
 go_enter Tryz.func88, Tryz.ntmps88
 go_wp2_with fail
 refine KEY.O.mono ?_
 rintro e w1 ⟨rfl, hd1, hx1⟩
 have HX1 := aa hx1
 have HD1 := aa hd1
 clear hx1 hd1
 go_wp2_with fail
 go_end0
 exact ⟨rfl, HD1.O, ((BF.refl _ _ _).alloc _).trans HX1.O⟩
def bK (s : List Nat × List Ins) (p : Pt) : List Nat × List Ins :=
 (s.1 ++ [(be p (df false s.2)).length], db false s.2.length (be p (df false s.2) ++ [bare 2]))
theorem oH (s : List Nat × List Ins) (p : Pt) : (bK s p).1 = s.1 ++ [(be p (df false s.2)).length] := rfl
theorem oJ (s : List Nat × List Ins) (p : Pt) : (bK s p).2 = db false s.2.length (be p (df false s.2) ++ [bare 2]) := rfl
theorem pK (last : Pt) : ∀ (init : List Pt) (js : List Nat) (l : List Ins), dz (init ++ [last]) js l = ((init.foldl bK (js, l)).1, be last (init.foldl bK (js, l)).2)
 | [], js, l => by simp [dz]
 | [p], js, l => by simp [dz, bK]
 |p :: q :: ps, js, l => by
  have h := pK last (q :: ps) (js ++ [(be p (df false l)).length]) (db false l.length (be p (df false l) ++ [bare 2]))
  simp only [List.cons_append] at h ⊢
  rw [dz]
  exact h
theorem jJ (s : List Nat × List Ins) (p : Pt) : (bK s p).2.length = s.2.length + isz p + 2 := by
 simp [bK, fE, aM, bn]
 omega
theorem rV : ∀ (init : List Pt) (s : List Nat × List Ins), (init.foldl bK s).2.length = s.2.length + b5 init + 2 * init.length /\ (init.foldl bK s).1.length = s.1.length + init.length
 | [], s => by simp [b5]
 |p :: ps, s => by
  have h := rV ps (bK s p)
  rw [List.foldl_cons, h.1, h.2, jJ, b5]
  simp [bK]
  omega
theorem ve : ∀ (init : List Pt) (s : List Nat × List Ins), (∀ k, k ∈ s.1 -> k < s.2.length) -> ∀ k, k ∈ (init.foldl bK s).1 -> k < (init.foldl bK s).2.length
 | [], s, h => h
 |p :: ps, s, h => by
  rw [List.foldl_cons]
  refine ve ps _ (fun k hk => ?_)
  rw [jJ]
  rcases List.mem_append.1 hk with hk | hk
  ·have := h k hk; omega
  ·simp [aM, bn] at hk; omega
theorem py (ps : List Pt) (d : Nat) (s : List Nat × List Ins) (hd : d < ps.length) : (ps.take (d + 1)).foldl bK s = bK ((ps.take d).foldl bK s) ps[d] := by
 rw [List.take_succ_eq_append_getElem hd, List.foldl_append]
 rfl
theorem qI (ps : List Pt) (p0 : Option Addr) (c0 : Nat) (w : World) (b base : Nat) (l : List Ins) (ih : ∀ p, p ∈ ps -> gU p) (hlen : 1 <= ps.length) (hd : BG w b base l) (hrow : Row w (Pb base b) ⟨2, p0, ps.length, c0, 0, 0, false, 0, 0, 0, false⟩ ps) (hw : ∀ p, p ∈ ps -> WOK p) (hn : l.length + b5 ps + 2 * (ps.length - 1) <= 99000) :
  Calls Tryz.prog 138 #[.pointer (some ⟨b, 0, none⟩), .slice p0 ps.length c0] w fun e w' => e = .returned (.tuple #[]) /\ BG w' b base (be (.alt ps) l) /\ BF base b w w' := by
 have HD := aa hd
 have HIH := aa ih
 have HW := aa hw
 have HN := aa hn
 have hbw : b < w.heap.size := Nat.lt_of_lt_of_le hd.lt hd.le
 have hbb := hd.lt
 have hbs := hd.le
 obtain ⟨g, hp0, hnc0⟩ : ∃ g, p0 = some ⟨g, 0, none⟩ /\ ps.length <= c0 := by
  obtain ⟨g, _, h1, h2, _⟩ := hrow.at 0 (by omega)
  exact ⟨g, h1, h2⟩
 subst hp0
 have HR := aa hrow
 obtain ⟨n, hnn⟩ : ∃ n, ps.length = n + 1 := ⟨ps.length - 1, by omega⟩
 have HNN := aa hnn
 rw [hnn] at hnc0 ⊢
 have hn99 : n <= 99000 := by omega
 clear hd hrow ih hw hn hlen hnn
 obtain ⟨i0, hi, hz0, hz1, hz2⟩ := info_parts jU
 go_enter Tryz.func138, Tryz.ntmps138
 go_wp2_with fail
 go_loopg [5, 18] n (fun gk fv i wr' => ∃ d : Nat, d + gk = n /\ i = .int .i64 d /\ wr'.ownsRow w.heap.size 3 1 fv d (jQ ((ps.take d).foldl bK ([], l)).1) /\ BG wr' b base ((ps.take d).foldl bK ([], l)).2 /\ BF base b w wr')
 case atStart => exact ⟨0, by omega, rfl, ⟨rfl, .inl ⟨rfl, rfl⟩⟩, HD.O, BF.refl _ _ _⟩
 case round =>
  obtain ⟨d, hdn, rfl, hown, hdr, hx⟩ := hrel
  obtain ⟨p5, c5, rfl⟩ := aw hown
  have HOW := aa hown
  have HX5 := aa hx
  have HD5 := aa hdr
  have hlen := rV (ps.take d) ([], l)
  have HLEN := aa hlen
  have hsz5 : w.heap.size <= wr.heap.size := hx.size
  clear hown hdr hlen
  obtain ⟨ks, hks⟩ := exq (((ps.take d).foldl bK ([], l)).1)
  obtain ⟨l5, hl5⟩ := exq (((ps.take d).foldl bK ([], l)).2)
  rw [<- hks] at HOW
  rw [<- hl5] at HD5
  rw [<- hks, <- hl5] at HLEN
  have HKS := aa hks
  have HL5 := aa hl5
  clear hks hl5
  have HL5N := aa HLEN.O.1
  have HKSN := aa (show ks.length = d by have := HLEN.O.2; rw [this]; simp [HNN.O]; omega)
  cases gk with
  |succ gk =>
   have hd' : (d : Int) < (n : Int) := by omega
   obtain ⟨g1, u, hv, hnc, hB, hlt, hrange, hq⟩ := (HR.O.bf hx).at d (show d < ps.length by rw [HNN.O]; omega)
   simp only at hv
   cases hv
   have hsj : l5.length + isz (ps[d]'(by rw [HNN.O]; omega)) + 2 <= 99000 := by
    have h1 := jl ps d (by rw [HNN.O]; omega)
    have h2 := HN.O
    have h3 := HL5N.O
    rw [List.length_take, HNN.O] at h3
    rw [HNN.O] at h2
    dsimp only at h3
    omega
   have HSJ := aa hsj
   have HQ := aa hq
   clear hx hq hB hsj
   obtain ⟨kd', p', n', c', lo', hi', hg', gr', l', m', z'⟩ := u
   have k0 := hrange 0 _ rfl; have k1 := hrange 1 _ rfl; have k2 := hrange 2 _ rfl; have k3 := hrange 3 _ rfl; have k4 := hrange 4 _ rfl
   have k5 := hrange 5 _ rfl; have k6 := hrange 6 _ rfl; have k7 := hrange 7 _ rfl; have k8 := hrange 8 _ rfl
   simp only [Nat.add_zero] at k0
   clear hrange
   have HFK := aa (fun w (hd : BG w b base l5) => kx false hd (by have := HSJ.O; omega))
   go_wp2_with fail
   refine (HFK.O _ (HD5.O.alloc _)).mono ?_
   rintro e w6 ⟨rfl, hd6, hx6⟩
   have HI6 := aa (show BK w6 wr.heap.size (.cells #[.int .i64 kd', .slice p' n' c', .int .u64 lo', .int .u64 hi', .bool hg', .int .i64 gr', .int .i64 l', .int .i64 m', .bool z'] 101) from BK.bf (BK.new _ _) hx6 (by omega) (by decide))
   have HX6 := aa ((HX5.O.alloc _).trans hx6)
   have HO6 := aa (b7 (HOW.O.alloc _) hx6 hbw)
   have HA7 := aa (HIH.O (ps[d]'(by rw [HNN.O]; omega)) (List.getElem_mem _) ⟨kd', p', n', c', lo', hi', hg', gr', l', m', z'⟩ w6 b base _ hd6 ((HQ.O.bf ((BF.refl _ _ _).alloc _)).bf hx6) (HW.O _ (List.getElem_mem _)) (by rw [bn]; have := HSJ.O; omega))
   obtain ⟨hcI, hfI⟩ := HI6.O.all
   obtain ⟨n5, hn5⟩ := exq (l5.length)
   rw [<- hn5]
   have HN5 := aa hn5
   clear hd6 hx6 k0 k1 k2 k3 k4 k5 k6 k7 k8 hn5
   go_wp2_with fail
   refine (show Calls _ _ _ _ _ from HA7.O).mono ?_
   rintro e w7 ⟨rfl, hd7, hx7⟩
   have HX7 := aa (HX6.O.trans hx7)
   have HO7 := aa (b7 HO6.O hx7 hbw)
   have HP7 := aa (fZ 2 hd7 (by rw [aM, bn]; have := HSJ.O; omega))
   clear hd7 hx7 hcI hfI
   go_wp2_with fail
   refine HP7.O.mono ?_
   rintro e w8 ⟨rfl, hd8, hx8⟩
   have HX8 := aa (HX7.O.trans hx8)
   have HO8 := aa (b7 HO7.O hx8 hbw)
   have HD8 := aa hd8
   have hs8 : w.heap.size <= w8.heap.size := HX8.O.size
   obtain ⟨n8, hn8⟩ := exq ((be (ps[d]'(by rw [HNN.O]; omega)) (df false l5)).length)
   rw [<- hn8]
   have HN8 := aa hn8
   clear hd8 hx8 hn8
   go_wp2_with (at_builtin; refine wpList_append_own _ rfl (.tmp 27) (.tmp 31) 199 rfl w.heap.size 3 i0 (.int .i64 0) 1 8 Tryz.underlying199 hi hz0 hz1 hz2 rfl (by decide) (.slice p5 d c5) d (jQ ks) rfl (HO8.O.alloc _) ⟨w8.heap.size, 0, none⟩ 1 1 [.int .i64 (n8 : Int)] rfl rfl (bu _ _ _) (by simp [Value.oneCell']) (by unfold maxLen; omega) (by omega) (by simp; omega) ?_; intro v9 w9 hown9 hgrow9 hiff9)
   have HO9 := aa hown9
   have HX9 := aa (BF.grown (HX8.O.alloc _) hgrow9 (fun k hk => .inr (.inl (aG HO8.O k hk))))
   have HD9 := aa (BG.grownNum (HD8.O.alloc _) (HO8.O.alloc _) hgrow9 hbw)
   have HL9 := aa (jq false (k := n5) HD9.O (by rw [HN5.O]; simp [aM, bn]; omega) (by simp [aM, bn]; have := HSJ.O; omega))
   clear hown9 hgrow9 hiff9
   refine HL9.O.mono ?_
   rintro e w10 ⟨rfl, hd10, hx10⟩
   have HX10 := aa (HX9.O.trans hx10)
   have HD10 := aa hd10
   have HO10 := aa (b7 HO9.O hx10 hbw)
   clear hd10 hx10
   go_wp2_with fail
   go_roundg gk
   case measure => omega
   case rel =>
    refine ⟨d + 1, by omega, by simp, ?_, ?_, HX10.O⟩
    ·rw [py ps d _ (by rw [HNN.O]; omega), oH, <- HKS.O, <- HL5.O, <- HN8.O, mh]
     exact HO10.O
    ·rw [py ps d _ (by rw [HNN.O]; omega), oJ, <- HL5.O, <- HN5.O]
     have h := HD10.O
     unfold db
     exact h
  |zero =>
   obtain rfl : d = n := by omega
   obtain ⟨g1, u, hv, hnc, hB, hlt, hrange, hq⟩ := (HR.O.bf hx).at d (show d < ps.length by rw [HNN.O]; omega)
   simp only at hv
   cases hv
   have hsj : l5.length + isz (ps[d]'(by rw [HNN.O]; omega)) <= 99000 := by
    have h1 := jl ps d (by rw [HNN.O]; omega)
    have h2 := HN.O
    have h3 := HL5N.O
    rw [List.length_take, HNN.O] at h3
    rw [HNN.O] at h2
    dsimp only at h3
    omega
   have HSJ := aa hsj
   have HQ := aa hq
   clear hx hq hB hsj hdn
   obtain ⟨kd', p', n', c', lo', hi', hg', gr', l', m', z'⟩ := u
   have k0 := hrange 0 _ rfl; have k1 := hrange 1 _ rfl; have k2 := hrange 2 _ rfl; have k3 := hrange 3 _ rfl; have k4 := hrange 4 _ rfl
   have k5 := hrange 5 _ rfl; have k6 := hrange 6 _ rfl; have k7 := hrange 7 _ rfl; have k8 := hrange 8 _ rfl
   simp only [Nat.add_zero] at k0
   clear hrange
   have HA7 := aa (HIH.O (ps[d]'(by rw [HNN.O]; omega)) (List.getElem_mem _) ⟨kd', p', n', c', lo', hi', hg', gr', l', m', z'⟩ wr b base _ HD5.O HQ.O (HW.O _ (List.getElem_mem _)) (by have := HSJ.O; omega))
   go_wp2_with fail
   refine (show Calls _ _ _ _ _ from HA7.O).mono ?_
   rintro e w7 ⟨rfl, hd7, hx7⟩
   have HX7 := aa (HX5.O.trans hx7)
   have HO7 := aa (b7 HOW.O hx7 hbw)
   have HD7 := aa hd7
   obtain ⟨l7, hl7⟩ := exq (be (ps[d]'(by rw [HNN.O]; omega)) l5)
   rw [<- hl7] at HD7
   have HL7 := aa hl7
   have HL7N := aa (show l7.length <= 99000 by rw [hl7, aM]; have := HSJ.O; omega)
   clear hd7 hx7 k0 k1 k2 k3 k4 k5 k6 k7 k8 hl7
   go_wp2_with fail
   go_loopg [45] d (fun gk i wr' => ∃ e : Nat, e + gk = d /\ i = .int .i64 e /\ BG wr' b base ((ks.take e).foldl (fun l k => hH k l) l7) /\ BF base b w wr' /\ wr'.ownsRow w.heap.size 3 1 (.slice p5 d c5) d (jQ ks))
   case atStart => exact ⟨0, by omega, rfl, HD7.O, HX7.O, HO7.O⟩
   case round =>
    obtain ⟨e, he, rfl, hdr, hx, hown⟩ := hrel
    have HO9 := aa hown
    have HX9 := aa hx
    have HD9 := aa hdr
    clear hdr hx
    cases gk with
    |succ gk =>
     obtain ⟨gf, c9, hv, hnc9, hgf, hcf⟩ := kp (j := e) hown (by rw [HKSN.O]; omega)
     simp only [Value.slice.injEq, true_and] at hv
     obtain ⟨rfl, rfl⟩ := hv
     have he9 : (e : Int) < (d : Int) := by omega
     obtain ⟨L, hL⟩ := exq ((ks.take e).foldl (fun l k => hH k l) l7)
     rw [<- hL] at HD9
     have hLn : L.length = l7.length := by rw [hL, fa]
     have hlt9 : ks[e]'(by rw [HKSN.O]; omega) < L.length := by
      have := ve (ps.take d) ([], l) (by simp)
      rw [<- HKS.O, <- HL5.O] at this
      have h2 := this _ (List.getElem_mem (l := ks) (n := e) (by rw [HKSN.O]; omega))
      rw [hLn, HL7.O, aM]
      omega
     obtain ⟨kd, hkd⟩ := exq (ks[e]'(by rw [HKSN.O]; omega))
     rw [<- hkd] at hcf hlt9
     have HKD := aa hkd
     have HLL := aa hL
     obtain ⟨g9, c9', hb9, ho9, hnc9', hg9, hgl9, hfz9, hcell9⟩ := HD9.O.parts (by omega)
     obtain ⟨i9, hi9⟩ : ∃ i9, L[kd]? = some i9 := ⟨L[kd], by simp [hlt9]⟩
     have hc4 := hcell9 (kd * 7 + 4) _ (by rw [dE L kd 4 i9 hi9 (by omega)]; rfl)
     have hf4 := hfz9 (kd * 7 + 4)
     have hbl9 := hb9.lt
     have hb0 : wr.cell? ⟨b, 0, none⟩ = some (.slice (some ⟨g9, 0, none⟩) L.length c9') := hb9.all.1 0
     have HB9 := aa hb9
     have HRO9 := aa ho9
     have HLN := aa (show L.length <= 99000 by rw [hLn]; exact HL7N.O)
     obtain ⟨nL, hnL⟩ := exq (L.length)
     have hnL9 : nL <= 99000 := by rw [hnL]; exact HLN.O
     have hk9 : (kd : Int) < (nL : Int) := by omega
     have HNL := aa hnL
     rw [<- hnL] at hb0 hnc9'
     clear hown hkd hL hLn hb9 ho9 hfz9 hcell9 hi9 hlt9 hnL
     go_wp2_with fail
     go_region
     all_goals
      go_wp2_with fail
      go_roundg gk
      case measure => omega
      case rel =>
       refine ⟨e + 1, by omega, by simp, ?_, ?_, ?_⟩
       ·rw [lZ _ ks e l7 (by rw [HKSN.O]; omega), <- HKD.O, <- HLL.O]
        have h := BG.way (w := wr.drew) HB9.O.drew HRO9.O.drew hbb HD9.O.le hg9 false nL (k := kd) (by rw [<- HNL.O]; omega)
        unfold hH
        rw [<- HNL.O]
        exact h
       ·exact BF.setCell (p := ⟨g9, kd * 7 + 4, none⟩) (HX9.O.drew) (.inr (.inr ⟨hg9, (ip (World.ownsRow.drew HRO9.O) g9 rfl).2⟩)) _
       ·exact b7 HO9.O (BF.setCell (p := ⟨g9, kd * 7 + 4, none⟩) ((BF.refl base b wr).drew) (.inr (.inr ⟨hg9, (ip (World.ownsRow.drew HRO9.O) g9 rfl).2⟩)) _) hbw
    |zero =>
     obtain rfl : e = d := by omega
     clear he hown
     go_wp2_with fail
     go_end0
     refine ⟨rfl, ?_, HX9.O⟩
     have hsplit : ps = ps.take e ++ [ps[e]'(by rw [HNN.O]; omega)] := by
      rw [<- List.take_succ_eq_append_getElem (by rw [HNN.O]; omega), List.take_of_length_le (by rw [HNN.O]; omega)]
     have halt : dz ps [] l = (ks, l7) := by
      rw [HL7.O, HKS.O, HL5.O]
      conv => lhs; rw [hsplit]
      exact pK _ _ _ _
     rw [be, halt]
     dsimp only
     have h := HD9.O
     rw [List.take_of_length_le (by rw [HKSN.O]; omega)] at h
     exact h
theorem uC (ps : List Pt) (ih : ∀ p, p ∈ ps -> gU p) : gU (.alt ps) := by
 intro v w b base l hd hp hw hn
 obtain ⟨hrow, hkd⟩ := hp.row
 obtain ⟨p, n, c, rfl, hnl, hr⟩ := hp
 subst hnl
 have hrow' : Row w (Pb base b) ⟨2, p, ps.length, c, 0, 0, false, 0, 0, 0, false⟩ ps := hrow
 have KEY := aa (qI ps p c _ b base l ih hw.2.2.2 (hd.alloc (Obj.cells #[.int .i64 2, .slice p ps.length c, .int .u64 0, .int .u64 0, .bool false, .int .i64 0, .int .i64 0, .int .i64 0, .bool false] 101)) (hrow'.bf ((BF.refl _ _ _).alloc _)) (jh hw.1) (by simp only [isz] at hn; omega))
 clear hd hr hrow hrow' hw hn ih hkd
 unfold PV.val
 dsimp only
 go_enter Tryz.func88, Tryz.ntmps88
 go_wp2_with fail
 refine KEY.O.mono ?_
 rintro e w1 ⟨rfl, hd1, hx1⟩
 have HX1 := aa hx1
 have HD1 := aa hd1
 clear hx1 hd1
 go_wp2_with fail
 go_end0
 exact ⟨rfl, HD1.O, ((BF.refl _ _ _).alloc _).trans HX1.O⟩
theorem wy : ∀ q, gU q := by
 have key : ∀ (n : Nat) (q : Pt), SizeOf.sizeOf q < n -> gU q := by
  intro n
  induction n with
  |zero => intro q hq; omega
  |succ n ih =>
   intro q hq
   have ih' : ∀ x, x ∈ jn q -> gU x := fun x hx => ih x (by have := sn q x hx; omega)
   cases q with
   |single c => exact pk c
   |seq l => exact vj l ih'
   |alt l => exact uC l ih'
   |wrap q k => exact sU q k (ih' q (by simp [jn]))
   |count q a b c => exact qX q a b c (ih' q (by simp [jn]))
 exact fun q => key (SizeOf.sizeOf q + 1) q (by omega)
def bx (q : Pt) : List Ins := be q [] ++ [bare 6]
theorem gR (q : Pt) : (bx q).length = isz q + 1 := by simp [bx, aM]
theorem dt {w : World} {b b' : Nat} {e : TypeId} {size : Nat} {v : Value} {n : Nat} {xs : List Value} (h : w.ownsRow b e size v n xs) (hb : b' <= b) : w.ownsRow b' e size v n xs := by
 refine ⟨h.1, ?_⟩
 rcases h.2 with hn | ⟨g, cap, cur, rfl, hg, rest⟩
 ·exact .inl hn
 ·exact .inr ⟨g, cap, cur, rfl, by omega, rest⟩
theorem lK (q : Pt) (v : PV) (B : Nat -> Prop) (w : World) (hq : PR w B q v) (hB : ∀ g, B g -> g < w.heap.size) (hw : WOK q) (hn : isz q <= 98000) :
  Calls Tryz.prog 47 #[v.val] w fun e w' => ∃ p c, e = .returned (.slice p (bx q).length c) /\ w'.ownsRow w.heap.size 192 7 (.slice p (bx q).length c) (bx q).length (bO (bx q)) /\ Ex [] w w' := by
 have HQ := aa hq
 have HB := aa hB
 have HW := aa hw
 clear hq hB hw
 obtain ⟨kd', p', n', c', lo', hi', hg', gr', l', m', z'⟩ := v
 unfold PV.val
 dsimp only
 go_enter Tryz.func47, Tryz.ntmps47
 go_wp2_with fail
 have hd0 : BG ((w.alloc (Obj.cells #[.int .i64 kd', .slice p' n' c', .int .u64 lo', .int .u64 hi', .bool hg', .int .i64 gr', .int .i64 l', .int .i64 m', .bool z'] 101)).alloc (Obj.cells #[.slice none 0 0] 187)) (w.heap.size + 1) (w.heap.size + 2) [] :=
  ⟨by omega, by simp, _, by simpa using BK.new (w.alloc (Obj.cells #[.int .i64 kd', .slice p' n' c', .int .u64 lo', .int .u64 hi', .bool hg', .int .i64 gr', .int .i64 l', .int .i64 m', .bool z'] 101)) (Obj.cells #[.slice none 0 0] 187), World.ownsRow_nil _ _ _ _⟩
 have hx0 : Ex [] w ((w.alloc (Obj.cells #[.int .i64 kd', .slice p' n' c', .int .u64 lo', .int .u64 hi', .bool hg', .int .i64 gr', .int .i64 l', .int .i64 m', .bool z'] 101)).alloc (Obj.cells #[.slice none 0 0] 187)) := ((Ex.refl _ _).alloc _).alloc _
 refine (wy q ⟨kd', p', n', c', lo', hi', hg', gr', l', m', z'⟩ _ (w.heap.size + 1) (w.heap.size + 2) [] hd0 (HQ.O.frame (fun g hg => ⟨by have := HB.O g hg; omega, by have := HB.O g hg; omega⟩) hx0.size (fun g hg hlt => hx0.block g hlt (by simp)) _ _) HW.O (by simp; omega)).mono ?_
 rintro e w1 ⟨rfl, hd1, hx1⟩
 have HX1 := aa ((EB.ofEx hx0 (Nat.le_refl _)).trans ((hx1.toEB hd0.le).mono (B' := w.heap.size) (l' := []) (by omega) (by simp)))
 have HD1 := aa hd1
 clear hx1 hd1 hd0 hx0
 go_wp2_with fail
 refine (fZ 6 HD1.O (by rw [aM]; simp; omega)).mono ?_
 rintro e w2 ⟨rfl, hd2, hx2⟩
 have HX2 := aa (HX1.O.trans ((hx2.toEB HD1.O.le).mono (B' := w.heap.size) (l' := []) (by omega) (by simp)))
 obtain ⟨v2, hb2, ho2⟩ := hd2.ex
 obtain ⟨p2, c2, rfl⟩ := aw ho2
 obtain ⟨hcb, hfb⟩ := hb2.all
 have HO2 := aa ho2
 clear hx2 hd2 ho2 hb2
 go_wp2_with fail
 go_ret
 exact ⟨p2, c2, by simp [bx], dt HO2.O (by omega), HX2.O.toEx⟩
end Go.Proofs.YtfnanjbleifjkaaGreatDoor.G
