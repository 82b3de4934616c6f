import Derived.Test.YtfnanjbleifjkaaGreatDoorM38
set_option linter.unusedVariables false
set_option linter.unusedSimpArgs false
set_option maxHeartbeats 64000000
set_option maxRecDepth 100000
namespace Go.Proofs.YtfnanjbleifjkaaGreatDoor.G
variable {s : ByteArray} {i : Nat}
open Go.RowKit
theorem vM (t : Tk) : 1 <= t.sz := by
 cases t with
 |ex x => cases x <;> simp [Tk.sz, Xp.sz]
 |gend n => simp [Tk.sz]
 |rend x z f => cases f <;> simp [Tk.sz]
theorem vY {c : SC} (hk : SK c) : ∀ (N i : Nat), c.l3.length - i <= N -> i <= c.l3.length -> ∀ (M : Nat) (K : List Ti), ksz (erK K) <= M -> eh c i K := by
 intro N
 induction N with
 |zero =>
  intro i hN hi M
  induction M with
  |zero =>
   intro K hM d w next h hx
   rcases hx with ⟨rfl, rfl⟩ | ⟨j, rfl, _, hm⟩
   ·exact jS hk i hi h
   ·obtain ⟨s, hs, hso⟩ := h.st hm
    obtain ⟨t, K', rfl, _⟩ := hso.hd
    have := vM t.er
    simp only [erK, List.map_cons, ksz] at hM
    omega
  |succ M ih =>
   intro K hM d w next h hx
   rcases hx with ⟨rfl, rfl⟩ | ⟨j, rfl, _, hm⟩
   ·exact jS hk i hi h
   ·obtain ⟨s, hs, hso⟩ := h.st hm
    obtain ⟨t, K', rfl, _⟩ := hso.hd
    refine uD hk hi (fun d w h hm => ?_) h hm
    cases t with
    |gend n => exact ku hk h hm (ih _ (by simp [erK, ksz, Ti.er, Tk.sz] at hM ⊢; omega))
    |rend y A z f =>
     refine lE hk h hm (fun e => ?_)
     subst e
     exact ⟨ih _ (by simp [erK, ksz, Ti.er, Tk.sz] at hM ⊢; omega), ih _ (by simp [erK, ksz, Ti.er, Tk.sz] at hM ⊢; omega)⟩
    |ex Y =>
     cases Y with
     |emp y => exact b8 hk h hm (ih _ (by simp [erK, ksz, Ti.er, Tk.sz, Yp.er, Xp.sz] at hM ⊢; omega))
     |set y cl => exact b8 hk h hm (fun h9 => by omega)
     |cat y A B => exact b8 hk h hm (ih _ (by simp [erK, ksz, Ti.er, Tk.sz, Yp.er, Xp.sz] at hM ⊢; omega))
     |alt y A B => exact b8 hk h hm ⟨(ih _ (by simp [erK, ksz, Ti.er, Tk.sz, Yp.er, Xp.sz] at hM ⊢; omega)), (ih _ (by simp [erK, ksz, Ti.er, Tk.sz, Yp.er, Xp.sz] at hM ⊢; omega))⟩
     |star y A z => exact b8 hk h hm ⟨(ih _ (by simp [erK, ksz, Ti.er, Tk.sz, Yp.er, Xp.sz] at hM ⊢; omega)), (ih _ (by simp [erK, ksz, Ti.er, Tk.sz, Yp.er, Xp.sz] at hM ⊢; omega))⟩
     |may y A z => exact b8 hk h hm ⟨(ih _ (by simp [erK, ksz, Ti.er, Tk.sz, Yp.er, Xp.sz] at hM ⊢; omega)), (ih _ (by simp [erK, ksz, Ti.er, Tk.sz, Yp.er, Xp.sz] at hM ⊢; omega))⟩
     |grp y A n => exact b8 hk h hm (ih _ (by simp [erK, ksz, Ti.er, Tk.sz, Yp.er, Xp.sz] at hM ⊢; omega))
 |succ N IH =>
  intro i hN hi M
  induction M with
  |zero =>
   intro K hM d w next h hx
   rcases hx with ⟨rfl, rfl⟩ | ⟨j, rfl, _, hm⟩
   ·exact jS hk i hi h
   ·obtain ⟨s, hs, hso⟩ := h.st hm
    obtain ⟨t, K', rfl, _⟩ := hso.hd
    have := vM t.er
    simp only [erK, List.map_cons, ksz] at hM
    omega
  |succ M ih =>
   intro K hM d w next h hx
   rcases hx with ⟨rfl, rfl⟩ | ⟨j, rfl, _, hm⟩
   ·exact jS hk i hi h
   ·obtain ⟨s, hs, hso⟩ := h.st hm
    obtain ⟨t, K', rfl, _⟩ := hso.hd
    refine uD hk hi (fun d w h hm => ?_) h hm
    cases t with
    |gend n => exact ku hk h hm (ih _ (by simp [erK, ksz, Ti.er, Tk.sz] at hM ⊢; omega))
    |rend y A z f =>
     refine lE hk h hm (fun e => ?_)
     subst e
     exact ⟨ih _ (by simp [erK, ksz, Ti.er, Tk.sz] at hM ⊢; omega), ih _ (by simp [erK, ksz, Ti.er, Tk.sz] at hM ⊢; omega)⟩
    |ex Y =>
     cases Y with
     |emp y => exact b8 hk h hm (ih _ (by simp [erK, ksz, Ti.er, Tk.sz, Yp.er, Xp.sz] at hM ⊢; omega))
     |set y cl => exact b8 hk h hm (fun h9 => IH (i + 1) (by omega) (by omega) _ _ (Nat.le_refl _))
     |cat y A B => exact b8 hk h hm (ih _ (by simp [erK, ksz, Ti.er, Tk.sz, Yp.er, Xp.sz] at hM ⊢; omega))
     |alt y A B => exact b8 hk h hm ⟨(ih _ (by simp [erK, ksz, Ti.er, Tk.sz, Yp.er, Xp.sz] at hM ⊢; omega)), (ih _ (by simp [erK, ksz, Ti.er, Tk.sz, Yp.er, Xp.sz] at hM ⊢; omega))⟩
     |star y A z => exact b8 hk h hm ⟨(ih _ (by simp [erK, ksz, Ti.er, Tk.sz, Yp.er, Xp.sz] at hM ⊢; omega)), (ih _ (by simp [erK, ksz, Ti.er, Tk.sz, Yp.er, Xp.sz] at hM ⊢; omega))⟩
     |may y A z => exact b8 hk h hm ⟨(ih _ (by simp [erK, ksz, Ti.er, Tk.sz, Yp.er, Xp.sz] at hM ⊢; omega)), (ih _ (by simp [erK, ksz, Ti.er, Tk.sz, Yp.er, Xp.sz] at hM ⊢; omega))⟩
     |grp y A n => exact b8 hk h hm (ih _ (by simp [erK, ksz, Ti.er, Tk.sz, Yp.er, Xp.sz] at hM ⊢; omega))
theorem vQ {c : SC} (hk : SK c) (K : List Ti) : eh c 0 K := vY hk _ 0 (Nat.le_refl _) (Nat.zero_le _) _ K (Nat.le_refl _)
theorem gN (h : i < s.size) : (s[i]'h).toNat = bP s i := by
 unfold bP
 congr 1
 show s.data[i]'h = s.data[i]!
 exact (getElem!_pos s.data i h).symm
def tlB (s : ByteArray) (i : Nat) : Bool := decide (i < s.size) && (decide (128 <= bP s i) && decide (bP s i < 192))
theorem li (s : ByteArray) (i : Nat) (w : World) : Calls Tryz.prog 186 #[.string s, .int .i64 (i : Int)] w fun e w' => e = .returned (.bool (tlB s i)) /\ w' = w := by
 unfold tlB
 by_cases hi : i < s.size
 ·have hii : (i : Int) < (s.size : Int) := by omega
  obtain ⟨b, hb⟩ := exq (s[i]'hi)
  have hbn : bP s i = b.toNat := by rw [hb, gN hi]
  rw [hbn, decide_eq_true hi]
  have hsub : s[i]'hi = b := hb.symm
  clear hb
  by_cases h1 : 128 <= b.toNat
  ·have h1i : (128 : Int) <= (b.toNat : Int) := by omega
   by_cases h2 : b.toNat < 192
   ·have h2i : (b.toNat : Int) < 192 := by omega
    rw [decide_eq_true h1, decide_eq_true h2]
    clear hbn h1 h2
    go_enter Tryz.func186, Tryz.ntmps186
    go_wp2_with fail
    go_ret
    first | exact ⟨rfl, rfl⟩ | rfl | trivial
   ·have h2i : ¬ (b.toNat : Int) < 192 := by omega
    rw [decide_eq_true h1, decide_eq_false h2]
    clear hbn h1 h2
    go_enter Tryz.func186, Tryz.ntmps186
    go_wp2_with fail
    go_ret
    first | exact ⟨rfl, rfl⟩ | rfl | trivial
  ·have h1i : ¬ (128 : Int) <= (b.toNat : Int) := by omega
   rw [decide_eq_false h1]
   clear hbn h1
   go_enter Tryz.func186, Tryz.ntmps186
   go_wp2_with fail
   go_ret
   first | exact ⟨rfl, rfl⟩ | rfl | trivial
 ·have hii : ¬ (i : Int) < (s.size : Int) := by omega
  rw [decide_eq_false hi]
  go_enter Tryz.func186, Tryz.ntmps186
  go_wp2_with fail
  go_ret
  first | exact ⟨rfl, rfl⟩ | rfl | trivial
theorem fK (h : true = tlB s i) : i < s.size /\ 128 <= bP s i /\ bP s i < 192 := by
 unfold tlB at h
 simpa using h.symm
theorem ja (h : false = tlB s i) : ¬ (i < s.size /\ 128 <= bP s i /\ bP s i < 192) := fun h9 => by
 unfold tlB at h
 rw [decide_eq_true h9.1, decide_eq_true h9.2.1, decide_eq_true h9.2.2] at h
 cases h
theorem tR (s : ByteArray) (i : Nat) (w : World) (hi : i < s.size) (hz : s.size <= 1048576) (h128 : 128 <= bP s i) : Calls Tryz.prog 142 #[.string s, .int .i64 (i : Int)] w fun e w' => e = .returned (.int .i64 (rzN s i : Int)) /\ w' = w := by
 have hii : (i : Int) < (s.size : Int) := by omega
 obtain ⟨bb, hbb⟩ := exq (s[i]'hi)
 have hbn : bP s i = bb.toNat := by rw [hbb, gN hi]
 have hb256 : bb.toNat < 256 := UInt8.toNat_lt _
 have K1 := aa (li s (i + 1) w)
 have K2 := aa (li s (i + 2) w)
 have K3 := aa (li s (i + 3) w)
 have hr : rzN s i = szN (s.size - i) bb.toNat (bP s (i + 1)) (bP s (i + 2)) (bP s (i + 3)) := by
  unfold rzN
  rw [if_neg (by omega), hbn]
 obtain ⟨R, hR⟩ := exq (rzN s i)
 rw [<- hR]
 rw [hr] at hR
 obtain ⟨T1, hT1⟩ := exq (tlB s (i + 1))
 obtain ⟨T2, hT2⟩ := exq (tlB s (i + 2))
 obtain ⟨T3, hT3⟩ := exq (tlB s (i + 3))
 rw [<- hT1] at K1
 rw [<- hT2] at K2
 rw [<- hT3] at K3
 have HR := aa hR
 have HT1 := aa hT1
 have HT2 := aa hT2
 have HT3 := aa hT3
 have hcat : (194 <= bb.toNat /\ bb.toNat <= 223) \/ (bb.toNat = 224) \/ (bb.toNat = 237) \/ (225 <= bb.toNat /\ bb.toNat <= 239 /\ bb.toNat ≠ 237) \/ (bb.toNat = 240) \/ (bb.toNat = 244) \/ (241 <= bb.toNat /\ bb.toNat <= 243) \/ (bb.toNat < 194) \/ (244 < bb.toNat) := by omega
 have hsub : s[i]'hi = bb := hbb.symm
 clear hr hR hT1 hT2 hT3 hbn h128 hbb
 have e1 : ((i + 1 : Nat) : Int) = (i : Int) + 1 := by omega
 have e2 : ((i + 2 : Nat) : Int) = (i : Int) + 2 := by omega
 have e3 : ((i + 3 : Nat) : Int) = (i : Int) + 3 := by omega
 rw [e1] at K1
 rw [e2] at K2
 rw [e3] at K3
 clear e1 e2 e3
 rcases hcat with hc | hc | hc | hc | hc | hc | hc | hc | hc
 all_goals
  (first | have g194 : (194 : Int) <= (bb.toNat : Int) := by omega | have g194 : ¬ (194 : Int) <= (bb.toNat : Int) := by omega)
  (first | have l223 : (bb.toNat : Int) <= (223 : Int) := by omega | have l223 : ¬ (bb.toNat : Int) <= (223 : Int) := by omega)
  (first | have g225 : (225 : Int) <= (bb.toNat : Int) := by omega | have g225 : ¬ (225 : Int) <= (bb.toNat : Int) := by omega)
  (first | have l239 : (bb.toNat : Int) <= (239 : Int) := by omega | have l239 : ¬ (bb.toNat : Int) <= (239 : Int) := by omega)
  (first | have g241 : (241 : Int) <= (bb.toNat : Int) := by omega | have g241 : ¬ (241 : Int) <= (bb.toNat : Int) := by omega)
  (first | have l243 : (bb.toNat : Int) <= (243 : Int) := by omega | have l243 : ¬ (bb.toNat : Int) <= (243 : Int) := by omega)
  (first | have q224 : ((bb.toNat : Int) == 224) = true := by rw [beq_iff_eq]; omega | have q224 : ((bb.toNat : Int) == 224) = false := by rw [beq_eq_false_iff_ne]; omega)
  (first | have q237 : ((bb.toNat : Int) == 237) = true := by rw [beq_iff_eq]; omega | have q237 : ((bb.toNat : Int) == 237) = false := by rw [beq_eq_false_iff_ne]; omega)
  (first | have q240 : ((bb.toNat : Int) == 240) = true := by rw [beq_iff_eq]; omega | have q240 : ((bb.toNat : Int) == 240) = false := by rw [beq_eq_false_iff_ne]; omega)
  (first | have q244 : ((bb.toNat : Int) == 244) = true := by rw [beq_iff_eq]; omega | have q244 : ((bb.toNat : Int) == 244) = false := by rw [beq_eq_false_iff_ne]; omega)
  (first | have n237 : ((bb.toNat : Int) != 237) = false := by rw [bne_eq_false_iff_eq]; omega | have n237 : ((bb.toNat : Int) != 237) = true := by rw [bne_iff_ne]; omega)
  by_cases hi1 : i + 1 < s.size
  ·have hi1i : (i : Int) + 1 < (s.size : Int) := by omega
   obtain ⟨b1, hb1⟩ := exq (s[i + 1]'hi1)
   have hn1 : bP s (i + 1) = b1.toNat := by rw [hb1, gN hi1]
   rw [hn1] at HR
   have HN1 := aa hn1
   have hsub1 : s[i + 1]'hi1 = b1 := hb1.symm
   have hb1lt : b1.toNat < 256 := UInt8.toNat_lt _
   clear hb1 hn1
   cases T1 with
   |false =>
    go_enter Tryz.func142, Tryz.ntmps142
    go_wp2_with fail
    refine K1.O.mono ?_
    rintro e w1 ⟨rfl, rfl⟩
    go_wp2_with fail
    go_ret
    have t1 := (by have h9 := ja HT1.O; rw [HN1.O] at h9; exact h9 : ¬ (i + 1 < s.size /\ 128 <= b1.toNat /\ b1.toNat < 192))
    (first | have hres : R = 1 := by rw [HR.O]; unfold szN; (repeat' split); all_goals omega | have hres : R = 2 := by rw [HR.O]; unfold szN; (repeat' split); all_goals omega | have hres : R = 3 := by rw [HR.O]; unfold szN; (repeat' split); all_goals omega | have hres : R = 4 := by rw [HR.O]; unfold szN; (repeat' split); all_goals omega)
    rw [hres]
    (first | exact ⟨rfl, rfl⟩ | rfl | trivial)
   |true =>
    cases T2 with
    |false =>
     go_enter Tryz.func142, Tryz.ntmps142
     go_wp2_with fail
     refine K1.O.mono ?_
     rintro e w1 ⟨rfl, rfl⟩
     go_wp2_with fail
     refine K2.O.mono ?_
     rintro e w1 ⟨rfl, rfl⟩
     go_wp2_with fail
     go_ret
     have t1 := (by have h9 := fK HT1.O; rw [HN1.O] at h9; exact h9 : i + 1 < s.size /\ 128 <= b1.toNat /\ b1.toNat < 192)
     have t2 := ja HT2.O
     (first | have hres : R = 1 := by rw [HR.O]; unfold szN; (repeat' split); all_goals omega | have hres : R = 2 := by rw [HR.O]; unfold szN; (repeat' split); all_goals omega | have hres : R = 3 := by rw [HR.O]; unfold szN; (repeat' split); all_goals omega | have hres : R = 4 := by rw [HR.O]; unfold szN; (repeat' split); all_goals omega)
     rw [hres]
     (first | exact ⟨rfl, rfl⟩ | rfl | trivial)
    |true =>
     have hnx3 : b1.toNat < 144 \/ (144 <= b1.toNat /\ b1.toNat < 160) \/ 160 <= b1.toNat := by omega
     rcases hnx3 with hn3 | hn3 | hn3
     all_goals
      (first | have m160 : (160 : Int) <= (b1.toNat : Int) := by omega | have m160 : ¬ (160 : Int) <= (b1.toNat : Int) := by omega)
      (first | have m159 : (b1.toNat : Int) <= (159 : Int) := by omega | have m159 : ¬ (b1.toNat : Int) <= (159 : Int) := by omega)
      (first | have m144 : (144 : Int) <= (b1.toNat : Int) := by omega | have m144 : ¬ (144 : Int) <= (b1.toNat : Int) := by omega)
      (first | have m143 : (b1.toNat : Int) <= (143 : Int) := by omega | have m143 : ¬ (b1.toNat : Int) <= (143 : Int) := by omega)
      cases T3 with
      |false =>
       go_enter Tryz.func142, Tryz.ntmps142
       go_wp2_with fail
       refine K1.O.mono ?_
       rintro e w1 ⟨rfl, rfl⟩
       go_wp2_with fail
       refine K2.O.mono ?_
       rintro e w1 ⟨rfl, rfl⟩
       go_wp2_with fail
       refine K3.O.mono ?_
       rintro e w1 ⟨rfl, rfl⟩
       go_wp2_with fail
       go_ret
       have t1 := (by have h9 := fK HT1.O; rw [HN1.O] at h9; exact h9 : i + 1 < s.size /\ 128 <= b1.toNat /\ b1.toNat < 192)
       have t2 := fK HT2.O
       have t3 := ja HT3.O
       (first | have hres : R = 1 := by rw [HR.O]; unfold szN; (repeat' split); all_goals omega | have hres : R = 2 := by rw [HR.O]; unfold szN; (repeat' split); all_goals omega | have hres : R = 3 := by rw [HR.O]; unfold szN; (repeat' split); all_goals omega | have hres : R = 4 := by rw [HR.O]; unfold szN; (repeat' split); all_goals omega)
       rw [hres]
       (first | exact ⟨rfl, rfl⟩ | rfl | trivial)
      |true =>
       go_enter Tryz.func142, Tryz.ntmps142
       go_wp2_with fail
       refine K1.O.mono ?_
       rintro e w1 ⟨rfl, rfl⟩
       go_wp2_with fail
       refine K2.O.mono ?_
       rintro e w1 ⟨rfl, rfl⟩
       go_wp2_with fail
       refine K3.O.mono ?_
       rintro e w1 ⟨rfl, rfl⟩
       go_wp2_with fail
       go_ret
       have t1 := (by have h9 := fK HT1.O; rw [HN1.O] at h9; exact h9 : i + 1 < s.size /\ 128 <= b1.toNat /\ b1.toNat < 192)
       have t2 := fK HT2.O
       have t3 := fK HT3.O
       (first | have hres : R = 1 := by rw [HR.O]; unfold szN; (repeat' split); all_goals omega | have hres : R = 2 := by rw [HR.O]; unfold szN; (repeat' split); all_goals omega | have hres : R = 3 := by rw [HR.O]; unfold szN; (repeat' split); all_goals omega | have hres : R = 4 := by rw [HR.O]; unfold szN; (repeat' split); all_goals omega)
       rw [hres]
       (first | exact ⟨rfl, rfl⟩ | rfl | trivial)
  ·have hi1i : ¬ (i : Int) + 1 < (s.size : Int) := by omega
   cases T1 with
   |true => exact absurd (fK HT1.O).1 hi1
   |false =>
    go_enter Tryz.func142, Tryz.ntmps142
    go_wp2_with fail
    refine K1.O.mono ?_
    rintro e w1 ⟨rfl, rfl⟩
    go_wp2_with fail
    go_ret
    have t1 := ja HT1.O
    (first | have hres : R = 1 := by rw [HR.O]; unfold szN; (repeat' split); all_goals omega | have hres : R = 2 := by rw [HR.O]; unfold szN; (repeat' split); all_goals omega | have hres : R = 3 := by rw [HR.O]; unfold szN; (repeat' split); all_goals omega | have hres : R = 4 := by rw [HR.O]; unfold szN; (repeat' split); all_goals omega)
    rw [hres]
    (first | exact ⟨rfl, rfl⟩ | rfl | trivial)
theorem ue : (Tryz.prog.info? 274).map (fun i => (i.zero, i.size, i.bytes)) = some (some (.agg #[.int .i64 0, .int .i64 0, .int .i64 0]), 3, 24) := by kernel_rfl
theorem mG (l : List (Nat × Nat × Nat)) (x : Nat × Nat × Nat) : lS (l ++ [x]) = lS l ++ [.int .i64 (x.1 : Int), .int .i64 (x.2.1 : Int), .int .i64 (x.2.2 : Int)] := by simp [lS]
theorem sV (s : ByteArray) (hz : s.size <= 1048576) (w : World) : Calls Tryz.prog 97 #[.string s] w fun e w' => ∃ v, e = .returned v /\ w'.ownsRow w.heap.size 274 3 v (ck s s.size 0).length (lS (ck s s.size 0)) /\ Ex [] w w' := by
 obtain ⟨t0, hti, hzz0, hzz1, hzz2⟩ := info_parts ue
 obtain ⟨R, hR⟩ := exq (ck s s.size 0)
 rw [<- hR]
 have HR := aa hR
 clear hR
 go_enter Tryz.func97, Tryz.ntmps97
 go_wp2_with fail
 go_loopg [3, 4] s.size (fun gk v3 v4 wr => ∃ (a f : Nat) (acc : List (Nat × Nat × Nat)), v4 = .int .i64 (a : Int) /\ a + gk = s.size /\ gk <= f /\ acc ++ ck s f a = R /\ acc.length <= a /\ wr.ownsRow w.heap.size 274 3 v3 acc.length (lS acc) /\ Ex [] w wr)
 case atStart => exact ⟨0, s.size, [], rfl, by omega, Nat.le_refl _, by rw [HR.O]; rfl, Nat.le_refl _, World.ownsRow_nil _ _ _ _, Ex.refl _ _⟩
 case round =>
  obtain ⟨a, f, acc, rfl, hag, hgf, hacc, hal, hown, hx⟩ := hrel
  have HO := aa hown
  have HX := aa hx
  have HA := aa hacc
  have hwz := hx.size
  obtain ⟨p3, c3, rfl⟩ := aw hown
  obtain ⟨m, hm⟩ := exq (acc.length)
  have HM := aa hm
  rw [<- hm] at HO hal ⊢
  clear hown hx hacc hm
  cases gk with
  |zero =>
   have h1 : ¬ (a : Int) < (s.size : Int) := by omega
   go_wp2_with fail
   go_ret
   refine ⟨_, rfl, ?_, HX.O⟩
   have e : R = acc := by
    rw [<- HA.O]
    cases f with
    |zero => simp [ck]
    |succ f => simp only [ck]; rw [if_neg (by omega), List.append_nil]
   rw [e, <- HM.O]
   exact HO.O
  |succ g =>
   have ha : a < s.size := by omega
   have hai : (a : Int) < (s.size : Int) := by omega
   obtain ⟨f, rfl⟩ : ∃ f', f = f' + 1 := ⟨f - 1, by omega⟩
   obtain ⟨bb, hbb⟩ := exq (s[a]'ha)
   have hbn : bP s a = bb.toNat := by rw [hbb, gN ha]
   have hsub : s[a]'ha = bb := hbb.symm
   have hrz := qL s a ha
   have hrp := nF s a
   have HA2 : Hid (acc ++ (rcN s a, a, rzN s a) :: ck s f (a + rzN s a) = R) := by show _ = _; rw [<- HA.O]; simp only [ck]; rw [if_pos ha]
   have hb256 : bb.toNat < 256 := UInt8.toNat_lt _
   clear HA hbb
   by_cases h128 : bb.toNat < 128
   ·have h1 : ¬ (128 : Int) <= (bb.toNat : Int) := by omega
    have hc : rcN s a = bb.toNat := by unfold rcN; rw [if_pos (by omega), hbn]
    have hs1 : rzN s a = 1 := by unfold rzN; rw [if_pos (by omega)]
    rw [hc, hs1] at HA2
    rw [hs1] at hrz
    clear hc hs1 hrp hbn
    go_upto_region 8 with fail
    generalize hw2 : World.alloc _ _ = w2
    have hb2 : BK w2 wr.heap.size (.cells #[.int .i64 (bb.toNat : Int), .int .i64 (a : Int), .int .i64 1] 274 (0, 0)) := by rw [<- hw2]; exact BK.new _ _
    have hx2 : Ex [] wr w2 := by rw [<- hw2]; exact (Ex.refl _ _).alloc _
    have hz2 : w2.heap.size = wr.heap.size + 1 := by rw [<- hw2]; simp
    obtain ⟨b, hb⟩ := exq (wr.heap.size)
    rw [<- hb] at hb2 ⊢
    have c0 : w2.cell? ⟨b, 0, none⟩ = some (.int .i64 (bb.toNat : Int)) := hb2.all.1 0
    have c1 : w2.cell? ⟨b, 1, none⟩ = some (.int .i64 (a : Int)) := hb2.all.1 1
    have c2 : w2.cell? ⟨b, 2, none⟩ = some (.int .i64 1) := hb2.all.1 2
    have hbl := hb2.lt
    have HO2 := aa (aE HO.O hx2 (by simp))
    have HX2 := aa (HX.O.trans hx2)
    have HB2 := aa hb2
    have hNb : (Value.slice p3 m c3).ownBlock ≠ some b := fun e => by have := (HO.O.lt b e).2; omega
    have HNB := aa hNb
    have hbw : w.heap.size <= w2.heap.size := HX2.O.size
    clear hw2 hx2 hb2 hNb hz2 hb HO HX hwz
    go_wp2_with (at_builtin; refine wpList_append_lies _ rfl (.tmp 25) (.tmp 27) 216 rfl w.heap.size 274 t0 _ 3 24 Tryz.underlying216 hti hzz0 hzz1 hzz2 rfl (by decide) (.slice p3 m c3) m (lS acc) rfl (HO2.O.alloc _) ⟨w2.heap.size, 0, none⟩ 1 1 [.int .i64 (bb.toNat : Int), .int .i64 (a : Int), .int .i64 1] rfl rfl (bu _ _ _) (by simp [Value.oneCell']) (by decide) (by unfold maxLen; omega) (by omega) (by simp; omega) (w2.heap.size + 1) (by simp) ?_)
    intro gb cap w5 hown5 hgrow hcase hlt5
    have hrow : ∀ y, (Value.slice p3 m c3).ownBlock = some y -> w.heap.size <= y := fun y hy => aG HO2.O y hy
    have hgr : Ex (Value.slice p3 m c3).ownBlock.toList w2 w5 := Ex.grown ((Ex.refl _ _).alloc _) hgrow (fun y hy => Or.inl (by simpa using hy))
    have hb5 := BK.grown (BK.alloc HB2.O (.cells #[.int .i64 (bb.toNat : Int), .int .i64 (a : Int), .int .i64 1] 274)) hgrow HNB.O
    have HO5 := aa hown5
    have HX5 := aa (((HX2.O.drop (by simp)).trans hgr).drop (l' := []) (fun y hy hlt => by have := hrow y (by simpa using hy); omega))
    have c25 : w5.cell? ⟨b, 2, none⟩ = some (.int .i64 1) := hb5.all.1 2
    have hbl5 := hb5.lt
    clear hown5 hgrow hcase hgr hrow c0 c1 c2 hb5
    go_wp2_with fail
    go_roundg (s.size - (a + 1))
    case measure => omega
    case rel =>
     refine ⟨a + 1, f, acc ++ [(bb.toNat, a, 1)], by simp, by omega, by omega, by rw [List.append_assoc]; exact HA2.O, by rw [List.length_append, <- HM.O]; simp; omega, ?_, HX5.O⟩
     rw [mG, List.length_append, <- HM.O]
     exact HO5.O
   ·have h1 : (128 : Int) <= (bb.toNat : Int) := by omega
    have hc : rcN s a = 128 := by unfold rcN; rw [if_neg (by omega)]
    have KS := aa (fun W => tR s a W ha hz (by omega))
    obtain ⟨q, hq⟩ := exq (rzN s a)
    rw [hc, <- hq] at HA2
    rw [<- hq] at hrz hrp KS
    clear hc hbn hq
    go_wp2_with fail
    refine (KS.O _).mono ?_
    rintro e w9 ⟨rfl, rfl⟩
    go_upto_region 8 with fail
    generalize hw2 : World.alloc _ _ = w2
    have hb2 : BK w2 wr.heap.size (.cells #[.int .i64 128, .int .i64 (a : Int), .int .i64 (q : Int)] 274 (0, 0)) := by rw [<- hw2]; exact BK.new _ _
    have hx2 : Ex [] wr w2 := by rw [<- hw2]; exact (Ex.refl _ _).alloc _
    have hz2 : w2.heap.size = wr.heap.size + 1 := by rw [<- hw2]; simp
    obtain ⟨b, hb⟩ := exq (wr.heap.size)
    rw [<- hb] at hb2 ⊢
    have c0 : w2.cell? ⟨b, 0, none⟩ = some (.int .i64 128) := hb2.all.1 0
    have c1 : w2.cell? ⟨b, 1, none⟩ = some (.int .i64 (a : Int)) := hb2.all.1 1
    have c2 : w2.cell? ⟨b, 2, none⟩ = some (.int .i64 (q : Int)) := hb2.all.1 2
    have hbl := hb2.lt
    have HO2 := aa (aE HO.O hx2 (by simp))
    have HX2 := aa (HX.O.trans hx2)
    have HB2 := aa hb2
    have hNb : (Value.slice p3 m c3).ownBlock ≠ some b := fun e => by have := (HO.O.lt b e).2; omega
    have HNB := aa hNb
    have hbw : w.heap.size <= w2.heap.size := HX2.O.size
    clear hw2 hx2 hb2 hNb hz2 hb HO HX hwz
    go_wp2_with (at_builtin; refine wpList_append_lies _ rfl (.tmp 25) (.tmp 27) 216 rfl w.heap.size 274 t0 _ 3 24 Tryz.underlying216 hti hzz0 hzz1 hzz2 rfl (by decide) (.slice p3 m c3) m (lS acc) rfl (HO2.O.alloc _) ⟨w2.heap.size, 0, none⟩ 1 1 [.int .i64 128, .int .i64 (a : Int), .int .i64 (q : Int)] rfl rfl (bu _ _ _) (by simp [Value.oneCell']) (by decide) (by unfold maxLen; omega) (by omega) (by simp; omega) (w2.heap.size + 1) (by simp) ?_)
    intro gb cap w5 hown5 hgrow hcase hlt5
    have hrow : ∀ y, (Value.slice p3 m c3).ownBlock = some y -> w.heap.size <= y := fun y hy => aG HO2.O y hy
    have hgr : Ex (Value.slice p3 m c3).ownBlock.toList w2 w5 := Ex.grown ((Ex.refl _ _).alloc _) hgrow (fun y hy => Or.inl (by simpa using hy))
    have hb5 := BK.grown (BK.alloc HB2.O (.cells #[.int .i64 128, .int .i64 (a : Int), .int .i64 (q : Int)] 274)) hgrow HNB.O
    have HO5 := aa hown5
    have HX5 := aa (((HX2.O.drop (by simp)).trans hgr).drop (l' := []) (fun y hy hlt => by have := hrow y (by simpa using hy); omega))
    have c25 : w5.cell? ⟨b, 2, none⟩ = some (.int .i64 (q : Int)) := hb5.all.1 2
    have hbl5 := hb5.lt
    clear hown5 hgrow hcase hgr hrow c0 c1 c2 hb5
    go_wp2_with fail
    go_roundg (s.size - (a + q))
    case measure => omega
    case rel =>
     refine ⟨a + q, f, acc ++ [(128, a, q)], by simp, by omega, by omega, by rw [List.append_assoc]; exact HA2.O, by rw [List.length_append, <- HM.O]; simp; omega, ?_, HX5.O⟩
     rw [mG, List.length_append, <- HM.O]
     exact HO5.O
theorem jI {g : Nat} : ∀ (Y : Yp) (ks : List (List Ti)), GLe g Y.er -> (∀ k ∈ ks, ∀ t ∈ k, TkG g t.er) -> ∀ K ∈ unY Y ks, ∀ t ∈ K, TkG g t.er
 |.emp y, ks, hy, hk, K, hK, t, ht => by
  obtain ⟨j, hj, rfl⟩ := List.mem_map.1 (by rw [unY] at hK; exact hK)
  rcases List.mem_cons.1 ht with rfl | ht
  ·exact hy
  ·exact hk j hj t ht
 |.set y c, ks, hy, hk, K, hK, t, ht => by
  obtain ⟨j, hj, rfl⟩ := List.mem_map.1 (by rw [unY] at hK; exact hK)
  rcases List.mem_cons.1 ht with rfl | ht
  ·exact hy
  ·exact hk j hj t ht
 |.cat y a b, ks, hy, hk, K, hK, t, ht => by
  rw [unY] at hK
  have hb : ∀ k ∈ ks.map (.ex b :: ·), ∀ t ∈ k, TkG g t.er := fun k hk' t ht => by
   obtain ⟨j, hj, rfl⟩ := List.mem_map.1 hk'
   rcases List.mem_cons.1 ht with rfl | ht
   ·exact hy.2
   ·exact hk j hj t ht
  rcases List.mem_append.1 hK with hK | hK
  ·obtain ⟨j, hj, rfl⟩ := List.mem_map.1 hK
   rcases List.mem_cons.1 ht with rfl | ht
   ·exact hy
   ·exact hk j hj t ht
  ·rcases List.mem_append.1 hK with hK | hK
   ·exact jI b ks hy.2 hk K hK t ht
   ·exact jI a _ hy.1 hb K hK t ht
 |.alt y a b, ks, hy, hk, K, hK, t, ht => by
  rw [unY] at hK
  rcases List.mem_append.1 hK with hK | hK
  ·obtain ⟨j, hj, rfl⟩ := List.mem_map.1 hK
   rcases List.mem_cons.1 ht with rfl | ht
   ·exact hy
   ·exact hk j hj t ht
  ·rcases List.mem_append.1 hK with hK | hK
   ·exact jI a ks hy.1 hk K hK t ht
   ·exact jI b ks hy.2 hk K hK t ht
 |.star y a z, ks, hy, hk, K, hK, t, ht => by
  rw [unY] at hK
  have hb : ∀ k ∈ ks.map (.rend y a z true :: ·) ++ ks.map (.rend y a z false :: ·), ∀ t ∈ k, TkG g t.er := fun k hk' t ht => by
   rcases List.mem_append.1 hk' with hk' | hk'
   all_goals
    obtain ⟨j, hj, rfl⟩ := List.mem_map.1 hk'
    rcases List.mem_cons.1 ht with rfl | ht
    ·exact hy
    ·exact hk j hj t ht
  rcases List.mem_append.1 hK with hK | hK
  ·obtain ⟨j, hj, rfl⟩ := List.mem_map.1 hK
   rcases List.mem_cons.1 ht with rfl | ht
   ·exact hy
   ·exact hk j hj t ht
  ·rcases List.mem_append.1 hK with hK | hK
   ·exact hb K hK t ht
   ·exact jI a _ hy hb K hK t ht
 |.may y a z, ks, hy, hk, K, hK, t, ht => by
  rw [unY] at hK
  rcases List.mem_append.1 hK with hK | hK
  ·obtain ⟨j, hj, rfl⟩ := List.mem_map.1 hK
   rcases List.mem_cons.1 ht with rfl | ht
   ·exact hy
   ·exact hk j hj t ht
  ·exact jI a ks hy hk K hK t ht
 |.grp y a n, ks, hy, hk, K, hK, t, ht => by
  rw [unY] at hK
  have hb : ∀ k ∈ ks.map (.gend n :: ·), ∀ t ∈ k, TkG g t.er := fun k hk' t ht => by
   obtain ⟨j, hj, rfl⟩ := List.mem_map.1 hk'
   rcases List.mem_cons.1 ht with rfl | ht
   ·exact ⟨hy.1, hy.2.1⟩
   ·exact hk j hj t ht
  rcases List.mem_append.1 hK with hK | hK
  ·obtain ⟨j, hj, rfl⟩ := List.mem_map.1 hK
   rcases List.mem_cons.1 ht with rfl | ht
   ·exact hy
   ·exact hk j hj t ht
  ·rcases List.mem_append.1 hK with hK | hK
   ·exact hb K hK t ht
   ·exact jI a _ hy.2.2 hb K hK t ht
theorem vw {t : ByteArray} {p : Pt} {s : RS} (h : bg t = .ok p s) : s.g <= 5 := by
 unfold bg at h
 obtain ⟨_, s0, h0, h⟩ := bind_ok h
 obtain ⟨q, s1, h1, h⟩ := bind_ok h
 have hg : s0.g <= 5 := by
  unfold dA at h0
  split at h0
  ·obtain ⟨_, s9, h9, h8⟩ := bind_ok h0
   cases h8
   unfold ax at h9
   split at h9
   ·cases h9; exact Nat.zero_le _
   ·cases h9
  ·cases h0; exact Nat.zero_le _
 have h9 := (gO t 7 _ _ _ h1 hg).2.2.2
 split at h
 ·cases h; exact h9
 ·cases h
theorem pz (s : ByteArray) : ∀ f a, a <= s.size -> (ck s f a).length <= s.size - a
 | 0, a, _ => Nat.zero_le _
 |f + 1, a, h => by
  rw [ck]
  by_cases ha : a < s.size
  ·rw [if_pos ha]
   have h1 := nF s a
   have h2 := qL s a ha
   have := pz s f (a + rzN s a) h2
   simp only [List.length_cons]
   omega
  ·rw [if_neg ha]; exact Nat.zero_le _
theorem mZ (s : ByteArray) (f a : Nat) (h : s.size - a <= f) (ha : a <= s.size) : eM (ck s f a) s.size 0 = a := by
 unfold eM
 cases f with
 |zero => rw [ck]; show s.size = a; omega
 |succ f =>
  rw [ck]
  by_cases h9 : a < s.size
  ·rw [if_pos h9]; rfl
  ·rw [if_neg h9]; show s.size = a; omega
theorem nZ (s : ByteArray) : ∀ f a, s.size - a <= f -> a <= s.size -> ∀ (i : Nat) x, (ck s f a)[i]? = some x -> x.2.1 + x.2.2 = eM (ck s f a) s.size (i + 1) /\ x.1 <= 128
 | 0, a, _, _, i, x, hx => by rw [ck] at hx; simp at hx
 |f + 1, a, hf, ha, i, x, hx => by
  have hd := mZ s f
  rw [ck] at hx ⊢
  by_cases h9 : a < s.size
  ·rw [if_pos h9] at hx ⊢
   have h1 := nF s a
   have h2 := qL s a h9
   cases i with
   |zero =>
    have hx : (rcN s a, a, rzN s a) = x := by simpa using hx
    subst hx
    refine ⟨?_, ?_⟩
    ·show a + rzN s a = eM (ck s f (a + rzN s a)) s.size 0
     rw [hd _ (by omega) h2]
    ·show rcN s a <= 128
     unfold rcN
     split <;> omega
   |succ i =>
    exact nZ s f (a + rzN s a) (by omega) h2 i x (by simpa using hx)
  ·rw [if_neg h9] at hx; simp at hx
theorem SK.mk2 {w : World} {S b : Nat} {q : Pt} {st : RS} {t : ByteArray} {Y : Yp} {lv pv ov : Value} (hS : w.heap.size <= S) (hz : s.size <= 1048576) (ht : t.size <= 60) (hr : bg t = .ok q st) (hY : YT w b Y) (he : Y.er = den q) :
  SK ⟨w, S, b, w.heap.size, nW Y, ck s s.size 0, s.size, st.g, lv, pv, ov⟩ := by
 have hb := r7 ht hr
 refine ⟨rfl, hS, jE Y [[]] hY (fun k hk t ht => ?_), p8 Y, fun K hK t ht => ?_, ?_, ?_, fun i x hx => (nZ s s.size 0 (by omega) (Nat.zero_le _) i x hx).1, fun i x hx => (nZ s s.size 0 (by omega) (Nat.zero_le _) i x hx).2, vw hr⟩
 ·rw [List.mem_singleton] at hk; subst hk; cases ht
 ·obtain ⟨u, hu, rfl⟩ := List.mem_map.1 ht
  exact jI Y [[]] (by rw [he]; exact hb.2) (fun k hk t ht => by rw [List.mem_singleton] at hk; subst hk; cases ht) K hK u hu
 ·show (nW Y).length <= _
  rw [vi, he]
  exact hb.1
 ·have := pz s s.size 0 (Nat.zero_le _)
  show (ck s s.size 0).length <= _
  omega
end Go.Proofs.YtfnanjbleifjkaaGreatDoor.G
