/- L20 L11, one behind the other. -/
import Derived.Test.YtgmjjhmnchefbaaGreatDoorM27
set_option linter.unusedVariables false
set_option linter.unusedSimpArgs false
/- The document's own reader of patterns: an atom, perhaps with a count. -/
namespace Go.Proofs.YtgmjjhmnchefbaaGreatDoor.G
open Go.RowKit

theorem atom_bound {t : ByteArray} {E : RS → Res Pt} {m : Nat} (ht : t.size ≤ 60) (hm : m + 1 ≤ 7) (hE : FineE t m E) {s s' : RS} {q : Pt} (h : atomM t E s = .ok q s') (h5 : s.g ≤ 5) (hk : s.k ≤ t.size) : wt q ≤ 1169230260 ∧ s.k < s'.k ∧ s'.k ≤ t.size ∧ s'.g ≤ 5 := by
  obtain ⟨f, hlt, _⟩ := atom_fine ht hm hE h h5 hk
  exact ⟨Nat.le_trans f.wt (big ht (f.sz hk) _ (by omega)), hlt, f.sz hk, f.g5⟩
set_option maxHeartbeats 16000000 in
set_option maxRecDepth 100000 in
theorem piece_c {t : ByteArray} {p r base d m : Nat} {E : RS → Res Pt} (ht : t.size ≤ 60) (hd6 : d ≤ 6) (hm : m + 1 ≤ 7) (hE : FineE t m E) (hEi : EI E) (KA : AtomC t p r base d E) : PieceC t p r base d E := by
  intro w s hv n h hsd hg5 hks hn
  have HEI := hide hEi
  have HFE := hide hE
  have HSD := hide hsd
  have KA0 := hide (KA w s hv n h hsd hg5 hks hn)
  clear h KA hEi hE hsd
  go_enter Tryz.func54, Tryz.ntmps54
  go_wp2_with fail
  refine KA0.out.mono ?_
  rintro e w1 ⟨hf1, hp1⟩
  obtain ⟨y1, hy1, hz1⟩ := hp1.split
  subst hy1
  have Fw1 := hide hf1
  clear hp1 hf1 KA0
  rcases hz1 with ⟨q, s1, n1, hbm, ra1, hn1⟩ | ⟨s9, s1, hv1, n1, hbm, hk1, hd1, ra1, hn1⟩
  rotate_left
  · have Hw1 := hide ra1
    have HB : Hid (pieceM t E s = .bad s9) := by show _ = _; unfold pieceM; rw [hbm]; rfl
    obtain ⟨m3, m5, m6, g5, g6, mr, gr, hrl⟩ := Hw1.out.more
    obtain ⟨c0, c1, c2, f1, f2, hl⟩ := Hw1.out.facts
    clear ra1 hbm
    go_wp2_with fail
    go_ret
    exact ⟨Fw1.out, RdPost.mkBad HB.out hk1 hd1 Hw1.out hn1⟩
  obtain ⟨b1, b2, b3, b4⟩ := atom_bound ht hm HFE.out hbm hg5 (by omega)
  have HAM := hide hbm
  obtain ⟨wq, hwq⟩ : ∃ x, x = wt q := ⟨_, rfl⟩
  have HWQ := hide hwq
  rw [← hwq] at ra1 b1
  have Hw1 := hide ra1
  have hd1 := (atomM_ok HEI.out hg5 hbm).2.1
  have HD1 := hide (hd1.trans HSD.out)
  obtain ⟨k, d', f, g, nm⟩ := s1
  dsimp only at b2 b3 b4 hn1 HD1
  obtain rfl : d' = d := HD1.out
  clear ra1 hbm hwq hd1 HD1
  obtain ⟨m3, m5, m6, g5, g6, mr, gr, hrl⟩ := Hw1.out.more
  obtain ⟨c0, c1, c2, f1, f2, hl⟩ := Hw1.out.facts
  obtain ⟨c, hc⟩ : ∃ c, c = nextN t k := ⟨_, rfl⟩
  have HCc := hide hc
  have KN := hide (next_gen Hw1.out)
  dsimp only at KN
  rw [← hc] at KN
  have sx : ∀ b : UInt8, b.toNat ≠ 0 → seesM t ⟨k, d', f, g, nm⟩ b = decide (c = b.toNat) := fun b hb => by rw [hc]; exact sees_nx hb
  have HSX := hide sx
  clear hc sx
  go_wp2_with fail
  refine KN.out.mono ?_
  rintro e w2 ⟨rfl, ra9, fr9, _⟩
  have Hw2 := hide ra9
  have Fw2 := hide (Fw1.out.trans fr9)
  clear ra9 fr9 KN c0 c1 c2 f1 f2 hl m3 m5 m6 g5 g6 mr gr hrl
  have HCM : Hid (countM t ⟨k, d', f, g, nm⟩ = if c = 42 then .ok (some (0, -1)) ⟨k + 1, d', f, g, nm⟩ else if c = 43 then .ok (some (1, -1)) ⟨k + 1, d', f, g, nm⟩ else if c = 63 then .ok (some (0, 1)) ⟨k + 1, d', f, g, nm⟩ else if c = 123 then (bracesM t ⟨k + 1, d', f, g, nm⟩).bind (fun x s' => .ok (some x) s') else .ok none ⟨k, d', f, g, nm⟩) := by
    show _ = _
    unfold countM
    rw [HSX.out 42 (by decide), HSX.out 43 (by decide), HSX.out 63 (by decide), HSX.out 123 (by decide)]
    simp only [decide_eq_true_eq]
    rfl
  by_cases h42 : c = 42
  · have HCN : Hid (countM t ⟨k, d', f, g, nm⟩ = .ok (some (0, -1)) ⟨k + 1, d', f, g, nm⟩) := by show _ = _; rw [HCM.out, if_pos h42]
    have hkl : k < t.size := sees_ltk (s := ⟨k, d', f, g, nm⟩) ((HSX.out 42 (by decide)).trans (decide_eq_true h42))
    have HSE : Hid (seesM t ⟨k, d', f, g, nm⟩ 42 = true) := (HSX.out 42 (by decide)).trans (decide_eq_true h42)
    subst h42
    clear HCM HSX
    have KN := hide (next_gen Hw2.out)
    dsimp only at KN
    rw [← show 42 = nextN t k from HCc.out] at KN
    go_wp2_with fail
    refine KN.out.mono ?_
    rintro e w3 ⟨rfl, ra9, fr9, _⟩
    have Hw3 := hide ra9
    have Fw3 := hide (Fw2.out.trans fr9)
    clear ra9 fr9 KN
    have KE := hide (eats_gen 42 Hw3.out ht)
    go_wp2_with fail
    refine KE.out.mono ?_
    rintro e wE ⟨rfl, fr9, hE9⟩
    have hra : RA wE p r base t ⟨k + 1, d', f, g, nm⟩ false (wq : Int) n1 := by
      rcases hE9 with ⟨_, _, h⟩ | ⟨h, _⟩
      · exact h
      · rcases h with h | h
        · cases h
        · rw [HSE.out] at h; cases h
    have HwE := hide hra
    have FwE := hide (Fw3.out.trans fr9)
    clear hra fr9 hE9 KE
    obtain ⟨c0, c1, c2, f1, f2, hl⟩ := HwE.out.facts
    obtain ⟨x, hx⟩ : ∃ x, x = nextN t (k + 1) := ⟨_, rfl⟩
    have HCx := hide hx
    have KN := hide (next_gen HwE.out)
    dsimp only at KN
    rw [← hx] at KN
    have s63 : seesM t ⟨k + 1, d', f, g, nm⟩ 63 = decide (x = 63) := by rw [hx]; exact sees_nx (by decide)
    have HS63 := hide s63
    clear hx s63
    have hPM : pieceM t E s = .ok (.count q 0 (-1) (decide (x = 63))) (if x = 63 then ⟨k + 1 + 1, d', f, g, nm⟩ else ⟨k + 1, d', f, g, nm⟩) := by
      unfold pieceM
      rw [HAM.out, Res.bind_ok, HCN.out, Res.bind_ok]
      dsimp only
      unfold RS.took
      rw [HS63.out]
      by_cases h : x = 63
      · rw [decide_eq_true h, if_pos rfl, if_pos h]; rfl
      · rw [decide_eq_false h, if_neg (by simp), if_neg h]
    have HPM := hide hPM
    clear hPM
    go_wp2_with fail
    refine KN.out.mono ?_
    rintro e wF ⟨rfl, ra9, fr9, _⟩
    have HwF := hide ra9
    have FwF := hide (FwE.out.trans fr9)
    clear ra9 fr9 KN c0 c1 c2 f1 f2 hl
    obtain ⟨c0, c1, c2, f1, f2, hl⟩ := HwF.out.facts
    dsimp only at c1
    by_cases h63 : x = 63
    · have q63 : ((x : Int) == 63) = true := by rw [h63]; rfl
      have hP2 := HPM.out
      rw [if_pos h63, decide_eq_true h63] at hP2
      have HP2 := hide hP2
      clear hP2 HPM h63
      go_upto_region 25 with fail
      generalize hw9 : World.setCell _ _ _ = wG
      have hup := HwF.out.up2 wG hw9 (by first | (simp; done) | (simp; omega))
      have HwG := hide hup.1
      have FwG := hide (FwF.out.trans hup.2)
      clear hw9 hup c0 c1 c2 f1 f2 hl
      obtain ⟨m3, m5, m6, g5, g6, mr, gr, hrl⟩ := HwG.out.more
      have hl := HwG.out.rk.lt
      go_upto_region 29 with fail
      generalize hw9 : World.setCell _ _ _ = wH
      have hup := HwG.out.hvs wH hw9
      have HwH := hide hup.1
      have FwH := hide (FwG.out.trans hup.2)
      clear hw9 hup m3 m5 m6 g5 g6 mr gr hrl hl
      go_wp2_with fail
      refine (rounds_any _ 0 (-1) true HwH.out (by omega) (by decide) (by decide)).mono ?_
      rintro e wI ⟨y, n2, rfl, hn2, ra2, fr2⟩
      have HwI := hide ra2
      have FwI := hide (FwH.out.trans fr2)
      clear ra2 fr2
      go_wp2_with fail
      go_ret
      refine ⟨FwI.out, RdPost.mkOk HP2.out ?_ HwI.out (by show _ + 9 + 50 * s.k ≤ n + 50 * (k + 1 + 1) + 0; omega)⟩
      unfold wt
      rw [← HWQ.out]
      simp <;> omega
    · have q63 : ((x : Int) == 63) = false := by rw [beq_eq_false_iff_ne]; omega
      have hP2 := HPM.out
      rw [if_neg h63, decide_eq_false h63] at hP2
      have HP2 := hide hP2
      clear hP2 HPM h63
      go_upto_region 25 with fail
      obtain ⟨m3, m5, m6, g5, g6, mr, gr, hrl⟩ := HwF.out.more
      go_upto_region 29 with fail
      generalize hw9 : World.setCell _ _ _ = wH
      have hup := HwF.out.hvs wH hw9
      have HwH := hide hup.1
      have FwH := hide (FwF.out.trans hup.2)
      clear hw9 hup m3 m5 m6 g5 g6 mr gr hrl hl c0 c1 c2 f1 f2
      go_wp2_with fail
      refine (rounds_any _ 0 (-1) false HwH.out (by omega) (by decide) (by decide)).mono ?_
      rintro e wI ⟨y, n2, rfl, hn2, ra2, fr2⟩
      have HwI := hide ra2
      have FwI := hide (FwH.out.trans fr2)
      clear ra2 fr2
      go_wp2_with fail
      go_ret
      refine ⟨FwI.out, RdPost.mkOk HP2.out ?_ HwI.out (by show _ + 9 + 50 * s.k ≤ n + 50 * (k + 1) + 0; omega)⟩
      unfold wt
      rw [← HWQ.out]
      simp <;> omega
  by_cases h43 : c = 43
  · have HCN : Hid (countM t ⟨k, d', f, g, nm⟩ = .ok (some (1, -1)) ⟨k + 1, d', f, g, nm⟩) := by show _ = _; rw [HCM.out, if_neg h42, if_pos h43]
    have hkl : k < t.size := sees_ltk (s := ⟨k, d', f, g, nm⟩) ((HSX.out 43 (by decide)).trans (decide_eq_true h43))
    have HSE : Hid (seesM t ⟨k, d', f, g, nm⟩ 43 = true) := (HSX.out 43 (by decide)).trans (decide_eq_true h43)
    subst h43
    clear HCM HSX
    have KN := hide (next_gen Hw2.out)
    dsimp only at KN
    rw [← show 43 = nextN t k from HCc.out] at KN
    go_wp2_with fail
    refine KN.out.mono ?_
    rintro e w3 ⟨rfl, ra9, fr9, _⟩
    have Hw3 := hide ra9
    have Fw3 := hide (Fw2.out.trans fr9)
    clear ra9 fr9 KN
    have KE := hide (eats_gen 43 Hw3.out ht)
    go_wp2_with fail
    refine KE.out.mono ?_
    rintro e wE ⟨rfl, fr9, hE9⟩
    have hra : RA wE p r base t ⟨k + 1, d', f, g, nm⟩ false (wq : Int) n1 := by
      rcases hE9 with ⟨_, _, h⟩ | ⟨h, _⟩
      · exact h
      · rcases h with h | h
        · cases h
        · rw [HSE.out] at h; cases h
    have HwE := hide hra
    have FwE := hide (Fw3.out.trans fr9)
    clear hra fr9 hE9 KE
    obtain ⟨c0, c1, c2, f1, f2, hl⟩ := HwE.out.facts
    obtain ⟨x, hx⟩ : ∃ x, x = nextN t (k + 1) := ⟨_, rfl⟩
    have HCx := hide hx
    have KN := hide (next_gen HwE.out)
    dsimp only at KN
    rw [← hx] at KN
    have s63 : seesM t ⟨k + 1, d', f, g, nm⟩ 63 = decide (x = 63) := by rw [hx]; exact sees_nx (by decide)
    have HS63 := hide s63
    clear hx s63
    have hPM : pieceM t E s = .ok (.count q 1 (-1) (decide (x = 63))) (if x = 63 then ⟨k + 1 + 1, d', f, g, nm⟩ else ⟨k + 1, d', f, g, nm⟩) := by
      unfold pieceM
      rw [HAM.out, Res.bind_ok, HCN.out, Res.bind_ok]
      dsimp only
      unfold RS.took
      rw [HS63.out]
      by_cases h : x = 63
      · rw [decide_eq_true h, if_pos rfl, if_pos h]; rfl
      · rw [decide_eq_false h, if_neg (by simp), if_neg h]
    have HPM := hide hPM
    clear hPM
    go_wp2_with fail
    refine KN.out.mono ?_
    rintro e wF ⟨rfl, ra9, fr9, _⟩
    have HwF := hide ra9
    have FwF := hide (FwE.out.trans fr9)
    clear ra9 fr9 KN c0 c1 c2 f1 f2 hl
    obtain ⟨c0, c1, c2, f1, f2, hl⟩ := HwF.out.facts
    dsimp only at c1
    by_cases h63 : x = 63
    · have q63 : ((x : Int) == 63) = true := by rw [h63]; rfl
      have hP2 := HPM.out
      rw [if_pos h63, decide_eq_true h63] at hP2
      have HP2 := hide hP2
      clear hP2 HPM h63
      go_upto_region 25 with fail
      generalize hw9 : World.setCell _ _ _ = wG
      have hup := HwF.out.up2 wG hw9 (by first | (simp; done) | (simp; omega))
      have HwG := hide hup.1
      have FwG := hide (FwF.out.trans hup.2)
      clear hw9 hup c0 c1 c2 f1 f2 hl
      obtain ⟨m3, m5, m6, g5, g6, mr, gr, hrl⟩ := HwG.out.more
      have hl := HwG.out.rk.lt
      go_upto_region 29 with fail
      generalize hw9 : World.setCell _ _ _ = wH
      have hup := HwG.out.hvs wH hw9
      have HwH := hide hup.1
      have FwH := hide (FwG.out.trans hup.2)
      clear hw9 hup m3 m5 m6 g5 g6 mr gr hrl hl
      go_wp2_with fail
      refine (rounds_any _ 1 (-1) true HwH.out (by omega) (by decide) (by decide)).mono ?_
      rintro e wI ⟨y, n2, rfl, hn2, ra2, fr2⟩
      have HwI := hide ra2
      have FwI := hide (FwH.out.trans fr2)
      clear ra2 fr2
      go_wp2_with fail
      go_ret
      refine ⟨FwI.out, RdPost.mkOk HP2.out ?_ HwI.out (by show _ + 9 + 50 * s.k ≤ n + 50 * (k + 1 + 1) + 0; omega)⟩
      unfold wt
      rw [← HWQ.out]
      simp <;> omega
    · have q63 : ((x : Int) == 63) = false := by rw [beq_eq_false_iff_ne]; omega
      have hP2 := HPM.out
      rw [if_neg h63, decide_eq_false h63] at hP2
      have HP2 := hide hP2
      clear hP2 HPM h63
      go_upto_region 25 with fail
      obtain ⟨m3, m5, m6, g5, g6, mr, gr, hrl⟩ := HwF.out.more
      go_upto_region 29 with fail
      generalize hw9 : World.setCell _ _ _ = wH
      have hup := HwF.out.hvs wH hw9
      have HwH := hide hup.1
      have FwH := hide (FwF.out.trans hup.2)
      clear hw9 hup m3 m5 m6 g5 g6 mr gr hrl hl c0 c1 c2 f1 f2
      go_wp2_with fail
      refine (rounds_any _ 1 (-1) false HwH.out (by omega) (by decide) (by decide)).mono ?_
      rintro e wI ⟨y, n2, rfl, hn2, ra2, fr2⟩
      have HwI := hide ra2
      have FwI := hide (FwH.out.trans fr2)
      clear ra2 fr2
      go_wp2_with fail
      go_ret
      refine ⟨FwI.out, RdPost.mkOk HP2.out ?_ HwI.out (by show _ + 9 + 50 * s.k ≤ n + 50 * (k + 1) + 0; omega)⟩
      unfold wt
      rw [← HWQ.out]
      simp <;> omega
  by_cases h63 : c = 63
  · have HCN : Hid (countM t ⟨k, d', f, g, nm⟩ = .ok (some (0, 1)) ⟨k + 1, d', f, g, nm⟩) := by show _ = _; rw [HCM.out, if_neg h42, if_neg h43, if_pos h63]
    have hkl : k < t.size := sees_ltk (s := ⟨k, d', f, g, nm⟩) ((HSX.out 63 (by decide)).trans (decide_eq_true h63))
    have HSE : Hid (seesM t ⟨k, d', f, g, nm⟩ 63 = true) := (HSX.out 63 (by decide)).trans (decide_eq_true h63)
    subst h63
    clear HCM HSX
    have KN := hide (next_gen Hw2.out)
    dsimp only at KN
    rw [← show 63 = nextN t k from HCc.out] at KN
    go_wp2_with fail
    refine KN.out.mono ?_
    rintro e w3 ⟨rfl, ra9, fr9, _⟩
    have Hw3 := hide ra9
    have Fw3 := hide (Fw2.out.trans fr9)
    clear ra9 fr9 KN
    have KE := hide (eats_gen 63 Hw3.out ht)
    go_wp2_with fail
    refine KE.out.mono ?_
    rintro e wE ⟨rfl, fr9, hE9⟩
    have hra : RA wE p r base t ⟨k + 1, d', f, g, nm⟩ false (wq : Int) n1 := by
      rcases hE9 with ⟨_, _, h⟩ | ⟨h, _⟩
      · exact h
      · rcases h with h | h
        · cases h
        · rw [HSE.out] at h; cases h
    have HwE := hide hra
    have FwE := hide (Fw3.out.trans fr9)
    clear hra fr9 hE9 KE
    obtain ⟨c0, c1, c2, f1, f2, hl⟩ := HwE.out.facts
    obtain ⟨x, hx⟩ : ∃ x, x = nextN t (k + 1) := ⟨_, rfl⟩
    have HCx := hide hx
    have KN := hide (next_gen HwE.out)
    dsimp only at KN
    rw [← hx] at KN
    have s63 : seesM t ⟨k + 1, d', f, g, nm⟩ 63 = decide (x = 63) := by rw [hx]; exact sees_nx (by decide)
    have HS63 := hide s63
    clear hx s63
    have hPM : pieceM t E s = .ok (.count q 0 (1) (decide (x = 63))) (if x = 63 then ⟨k + 1 + 1, d', f, g, nm⟩ else ⟨k + 1, d', f, g, nm⟩) := by
      unfold pieceM
      rw [HAM.out, Res.bind_ok, HCN.out, Res.bind_ok]
      dsimp only
      unfold RS.took
      rw [HS63.out]
      by_cases h : x = 63
      · rw [decide_eq_true h, if_pos rfl, if_pos h]; rfl
      · rw [decide_eq_false h, if_neg (by simp), if_neg h]
    have HPM := hide hPM
    clear hPM
    go_wp2_with fail
    refine KN.out.mono ?_
    rintro e wF ⟨rfl, ra9, fr9, _⟩
    have HwF := hide ra9
    have FwF := hide (FwE.out.trans fr9)
    clear ra9 fr9 KN c0 c1 c2 f1 f2 hl
    obtain ⟨c0, c1, c2, f1, f2, hl⟩ := HwF.out.facts
    dsimp only at c1
    by_cases h63 : x = 63
    · have q63 : ((x : Int) == 63) = true := by rw [h63]; rfl
      have hP2 := HPM.out
      rw [if_pos h63, decide_eq_true h63] at hP2
      have HP2 := hide hP2
      clear hP2 HPM h63
      go_upto_region 25 with fail
      generalize hw9 : World.setCell _ _ _ = wG
      have hup := HwF.out.up2 wG hw9 (by first | (simp; done) | (simp; omega))
      have HwG := hide hup.1
      have FwG := hide (FwF.out.trans hup.2)
      clear hw9 hup c0 c1 c2 f1 f2 hl
      obtain ⟨m3, m5, m6, g5, g6, mr, gr, hrl⟩ := HwG.out.more
      have hl := HwG.out.rk.lt
      go_upto_region 29 with fail
      generalize hw9 : World.setCell _ _ _ = wH
      have hup := HwG.out.hvs wH hw9
      have HwH := hide hup.1
      have FwH := hide (FwG.out.trans hup.2)
      clear hw9 hup m3 m5 m6 g5 g6 mr gr hrl hl
      go_wp2_with fail
      refine (rounds_any _ 0 (1) true HwH.out (by omega) (by decide) (by decide)).mono ?_
      rintro e wI ⟨y, n2, rfl, hn2, ra2, fr2⟩
      have HwI := hide ra2
      have FwI := hide (FwH.out.trans fr2)
      clear ra2 fr2
      go_wp2_with fail
      go_ret
      refine ⟨FwI.out, RdPost.mkOk HP2.out ?_ HwI.out (by show _ + 9 + 50 * s.k ≤ n + 50 * (k + 1 + 1) + 0; omega)⟩
      unfold wt
      rw [← HWQ.out]
      simp <;> omega
    · have q63 : ((x : Int) == 63) = false := by rw [beq_eq_false_iff_ne]; omega
      have hP2 := HPM.out
      rw [if_neg h63, decide_eq_false h63] at hP2
      have HP2 := hide hP2
      clear hP2 HPM h63
      go_upto_region 25 with fail
      obtain ⟨m3, m5, m6, g5, g6, mr, gr, hrl⟩ := HwF.out.more
      go_upto_region 29 with fail
      generalize hw9 : World.setCell _ _ _ = wH
      have hup := HwF.out.hvs wH hw9
      have HwH := hide hup.1
      have FwH := hide (FwF.out.trans hup.2)
      clear hw9 hup m3 m5 m6 g5 g6 mr gr hrl hl c0 c1 c2 f1 f2
      go_wp2_with fail
      refine (rounds_any _ 0 (1) false HwH.out (by omega) (by decide) (by decide)).mono ?_
      rintro e wI ⟨y, n2, rfl, hn2, ra2, fr2⟩
      have HwI := hide ra2
      have FwI := hide (FwH.out.trans fr2)
      clear ra2 fr2
      go_wp2_with fail
      go_ret
      refine ⟨FwI.out, RdPost.mkOk HP2.out ?_ HwI.out (by show _ + 9 + 50 * s.k ≤ n + 50 * (k + 1) + 0; omega)⟩
      unfold wt
      rw [← HWQ.out]
      simp <;> omega
  by_cases h123 : c = 123
  · have HCN0 : Hid (countM t ⟨k, d', f, g, nm⟩ = (bracesM t ⟨k + 1, d', f, g, nm⟩).bind (fun x s' => .ok (some x) s')) := by show _ = _; rw [HCM.out, if_neg h42, if_neg h43, if_neg h63, if_pos h123]
    have hkl : k < t.size := sees_ltk (s := ⟨k, d', f, g, nm⟩) ((HSX.out 123 (by decide)).trans (decide_eq_true h123))
    subst h123
    clear HCM HSX
    have KT := hide (times_any Hw2.out ht hkl)
    go_wp2_with fail
    refine KT.out.mono ?_
    rintro e w3 ⟨o, k', hT, fr3, hp3⟩
    have Fw3 := hide (Fw2.out.trans fr3)
    have hMir := times_mirror (d := d') (g := g) (f := f) (nm := nm) hT
    cases o with
    | none =>
      obtain ⟨⟨a9, b9, rfl⟩, ra3⟩ := hp3
      have Hw3 : Hid (RA w3 p r base t ⟨k', d', f, g, nm⟩ true (wq : Int) n1) := ra3
      have HB : Hid (pieceM t E s = .bad ⟨k', d', f, g, nm⟩) := by
        show _ = _
        unfold pieceM
        rw [HAM.out, Res.bind_ok, HCN0.out, show bracesM t ⟨k + 1, d', f, g, nm⟩ = _ from hMir]
        rfl
      clear fr3 ra3 hMir hT KT
      have KN := hide (next_gen Hw3.out)
      go_wp2_with fail
      refine KN.out.mono ?_
      rintro e w4 ⟨rfl, ra9, fr9, _⟩
      have Hw4 := hide ra9
      have Fw4 := hide (Fw3.out.trans fr9)
      clear ra9 fr9 KN
      have KE := hide (fun c => eats_bad c Hw4.out)
      go_wp2_with fail
      refine (KE.out _).mono ?_
      rintro e w5 ⟨rfl, rfl⟩
      obtain ⟨c0, c1, c2, f1, f2, hl⟩ := Hw4.out.facts
      go_wp2_with fail
      go_ret
      exact ⟨Fw4.out, RdPost.mkBad HB.out rfl HSD.out.symm Hw4.out (by omega)⟩
    | some xx =>
      obtain ⟨le, mo⟩ := xx
      obtain ⟨rfl, ra3⟩ := hp3
      have Hw3 : Hid (RA w3 p r base t ⟨k', d', f, g, nm⟩ false (wq : Int) n1) := ra3
      obtain ⟨hMir1, hMir2⟩ := hMir
      have HCN : Hid (countM t ⟨k, d', f, g, nm⟩ = .ok (some (le, mo)) ⟨k' + 1, d', f, g, nm⟩) := by show _ = _; rw [HCN0.out, show bracesM t ⟨k + 1, d', f, g, nm⟩ = _ from hMir1]; rfl
      have hcn := count_mv HCN.out
      have hck := hcn.1.le
      have hcs := hcn.1.sz (show k ≤ t.size by omega)
      obtain ⟨hle9, hmo9⟩ := hcn.2 _ rfl
      dsimp only at hck hcs hle9 hmo9
      have HSE : Hid (seesM t ⟨k', d', f, g, nm⟩ 125 = true) := (sees_nx (by decide)).trans (decide_eq_true hMir2)
      have HC5 : Hid (125 = nextN t k') := hMir2.symm
      clear fr3 ra3 hMir1 hMir2 hT KT hcn HCN0
      rcases hmo9 with hmo9 | hmo9
      · subst hmo9
        have KN := hide (next_gen Hw3.out)
        dsimp only at KN
        rw [← show 125 = nextN t k' from HC5.out] at KN
        go_wp2_with fail
        refine KN.out.mono ?_
        rintro e w4 ⟨rfl, ra9, fr9, _⟩
        have Hw4 := hide ra9
        have Fw4 := hide (Fw3.out.trans fr9)
        clear ra9 fr9 KN
        have KE := hide (eats_gen 125 Hw4.out ht)
        go_wp2_with fail
        refine KE.out.mono ?_
        rintro e wE ⟨rfl, fr9, hE9⟩
        have hra : RA wE p r base t ⟨k' + 1, d', f, g, nm⟩ false (wq : Int) n1 := by
          rcases hE9 with ⟨_, _, h⟩ | ⟨h, _⟩
          · exact h
          · rcases h with h | h
            · cases h
            · rw [HSE.out] at h; cases h
        have HwE := hide hra
        have FwE := hide (Fw4.out.trans fr9)
        clear hra fr9 hE9 KE
        obtain ⟨c0, c1, c2, f1, f2, hl⟩ := HwE.out.facts
        obtain ⟨x, hx⟩ : ∃ x, x = nextN t (k' + 1) := ⟨_, rfl⟩
        have HCx := hide hx
        have KN := hide (next_gen HwE.out)
        dsimp only at KN
        rw [← hx] at KN
        have s63 : seesM t ⟨k' + 1, d', f, g, nm⟩ 63 = decide (x = 63) := by rw [hx]; exact sees_nx (by decide)
        have HS63 := hide s63
        clear hx s63
        have hPM : pieceM t E s = .ok (.count q le (-1) (decide (x = 63))) (if x = 63 then ⟨k' + 1 + 1, d', f, g, nm⟩ else ⟨k' + 1, d', f, g, nm⟩) := by
          unfold pieceM
          rw [HAM.out, Res.bind_ok, HCN.out, Res.bind_ok]
          dsimp only
          unfold RS.took
          rw [HS63.out]
          by_cases h : x = 63
          · rw [decide_eq_true h, if_pos rfl, if_pos h]; rfl
          · rw [decide_eq_false h, if_neg (by simp), if_neg h]
        have HPM := hide hPM
        clear hPM
        have hm10 : wq * (le + 1) ≤ 1169230260 * 10 := Nat.mul_le_mul b1 (by omega)
        obtain ⟨P, hP⟩ : ∃ P, P = wq * (le + 1) := ⟨_, rfl⟩
        rw [← hP] at hm10
        have HP := hide hP
        have hPi : (wq : Int) * ((le : Int) + 1) = (P : Int) := by rw [hP]; simp
        clear hP
        go_wp2_with fail
        refine KN.out.mono ?_
        rintro e wF ⟨rfl, ra9, fr9, _⟩
        have HwF := hide ra9
        have FwF := hide (FwE.out.trans fr9)
        clear ra9 fr9 KN c0 c1 c2 f1 f2 hl
        obtain ⟨c0, c1, c2, f1, f2, hl⟩ := HwF.out.facts
        dsimp only at c1
        by_cases h63 : x = 63
        · have q63 : ((x : Int) == 63) = true := by rw [h63]; rfl
          have hP2 := HPM.out
          rw [if_pos h63, decide_eq_true h63] at hP2
          have HP2 := hide hP2
          clear hP2 HPM h63
          go_upto_region 25 with fail
          generalize hw9 : World.setCell _ _ _ = wG
          have hup := HwF.out.up2 wG hw9 (by first | (simp; done) | (simp; omega))
          have HwG := hide hup.1
          have FwG := hide (FwF.out.trans hup.2)
          clear hw9 hup c0 c1 c2 f1 f2 hl
          obtain ⟨m3, m5, m6, g5, g6, mr, gr, hrl⟩ := HwG.out.more
          have hl := HwG.out.rk.lt
          go_upto_region 29 with fail
          generalize hw9 : World.setCell _ _ _ = wH
          have hup := HwG.out.hvs wH hw9
          have HwH := hide hup.1
          have FwH := hide (FwG.out.trans hup.2)
          clear hw9 hup m3 m5 m6 g5 g6 mr gr hrl hl
          go_wp2_with fail
          refine (rounds_any _ le (-1) true HwH.out (by omega) hle9 (.inl rfl)).mono ?_
          rintro e wI ⟨y, n2, rfl, hn2, ra2, fr2⟩
          have HwI := hide ra2
          have FwI := hide (FwH.out.trans fr2)
          clear ra2 fr2
          go_wp2_with fail
          go_ret
          refine ⟨FwI.out, RdPost.mkOk HP2.out ?_ HwI.out (by show _ + 9 + 50 * s.k ≤ n + 50 * (k' + 1 + 1) + 0; omega)⟩
          unfold wt
          rw [← HWQ.out, if_pos rfl, ← HP.out]
          simp <;> omega
        · have q63 : ((x : Int) == 63) = false := by rw [beq_eq_false_iff_ne]; omega
          have hP2 := HPM.out
          rw [if_neg h63, decide_eq_false h63] at hP2
          have HP2 := hide hP2
          clear hP2 HPM h63
          go_upto_region 25 with fail
          obtain ⟨m3, m5, m6, g5, g6, mr, gr, hrl⟩ := HwF.out.more
          go_upto_region 29 with fail
          generalize hw9 : World.setCell _ _ _ = wH
          have hup := HwF.out.hvs wH hw9
          have HwH := hide hup.1
          have FwH := hide (FwF.out.trans hup.2)
          clear hw9 hup m3 m5 m6 g5 g6 mr gr hrl hl c0 c1 c2 f1 f2
          go_wp2_with fail
          refine (rounds_any _ le (-1) false HwH.out (by omega) hle9 (.inl rfl)).mono ?_
          rintro e wI ⟨y, n2, rfl, hn2, ra2, fr2⟩
          have HwI := hide ra2
          have FwI := hide (FwH.out.trans fr2)
          clear ra2 fr2
          go_wp2_with fail
          go_ret
          refine ⟨FwI.out, RdPost.mkOk HP2.out ?_ HwI.out (by show _ + 9 + 50 * s.k ≤ n + 50 * (k' + 1) + 0; omega)⟩
          unfold wt
          rw [← HWQ.out, if_pos rfl, ← HP.out]
          simp <;> omega
      · obtain ⟨M, rfl⟩ : ∃ M : Nat, mo = (M : Int) := ⟨mo.toNat, by omega⟩
        have hM9 : le ≤ M ∧ M ≤ 9 := by omega
        have hneg : ¬ (M : Int) < 0 := by omega
        have KN := hide (next_gen Hw3.out)
        dsimp only at KN
        rw [← show 125 = nextN t k' from HC5.out] at KN
        go_wp2_with fail
        refine KN.out.mono ?_
        rintro e w4 ⟨rfl, ra9, fr9, _⟩
        have Hw4 := hide ra9
        have Fw4 := hide (Fw3.out.trans fr9)
        clear ra9 fr9 KN
        have KE := hide (eats_gen 125 Hw4.out ht)
        go_wp2_with fail
        refine KE.out.mono ?_
        rintro e wE ⟨rfl, fr9, hE9⟩
        have hra : RA wE p r base t ⟨k' + 1, d', f, g, nm⟩ false (wq : Int) n1 := by
          rcases hE9 with ⟨_, _, h⟩ | ⟨h, _⟩
          · exact h
          · rcases h with h | h
            · cases h
            · rw [HSE.out] at h; cases h
        have HwE := hide hra
        have FwE := hide (Fw4.out.trans fr9)
        clear hra fr9 hE9 KE
        obtain ⟨c0, c1, c2, f1, f2, hl⟩ := HwE.out.facts
        obtain ⟨x, hx⟩ : ∃ x, x = nextN t (k' + 1) := ⟨_, rfl⟩
        have HCx := hide hx
        have KN := hide (next_gen HwE.out)
        dsimp only at KN
        rw [← hx] at KN
        have s63 : seesM t ⟨k' + 1, d', f, g, nm⟩ 63 = decide (x = 63) := by rw [hx]; exact sees_nx (by decide)
        have HS63 := hide s63
        clear hx s63
        have hPM : pieceM t E s = .ok (.count q le (M : Int) (decide (x = 63))) (if x = 63 then ⟨k' + 1 + 1, d', f, g, nm⟩ else ⟨k' + 1, d', f, g, nm⟩) := by
          unfold pieceM
          rw [HAM.out, Res.bind_ok, HCN.out, Res.bind_ok]
          dsimp only
          unfold RS.took
          rw [HS63.out]
          by_cases h : x = 63
          · rw [decide_eq_true h, if_pos rfl, if_pos h]; rfl
          · rw [decide_eq_false h, if_neg (by simp), if_neg h]
        have HPM := hide hPM
        clear hPM
        have hm10 : wq * M ≤ 1169230260 * 10 := Nat.mul_le_mul b1 (by omega)
        obtain ⟨P, hP⟩ : ∃ P, P = wq * M := ⟨_, rfl⟩
        rw [← hP] at hm10
        have HP := hide hP
        have hPi : (wq : Int) * (M : Int) = (P : Int) := by rw [hP]; simp
        clear hP
        go_wp2_with fail
        refine KN.out.mono ?_
        rintro e wF ⟨rfl, ra9, fr9, _⟩
        have HwF := hide ra9
        have FwF := hide (FwE.out.trans fr9)
        clear ra9 fr9 KN c0 c1 c2 f1 f2 hl
        obtain ⟨c0, c1, c2, f1, f2, hl⟩ := HwF.out.facts
        dsimp only at c1
        by_cases h63 : x = 63
        · have q63 : ((x : Int) == 63) = true := by rw [h63]; rfl
          have hP2 := HPM.out
          rw [if_pos h63, decide_eq_true h63] at hP2
          have HP2 := hide hP2
          clear hP2 HPM h63
          go_upto_region 25 with fail
          generalize hw9 : World.setCell _ _ _ = wG
          have hup := HwF.out.up2 wG hw9 (by first | (simp; done) | (simp; omega))
          have HwG := hide hup.1
          have FwG := hide (FwF.out.trans hup.2)
          clear hw9 hup c0 c1 c2 f1 f2 hl
          obtain ⟨m3, m5, m6, g5, g6, mr, gr, hrl⟩ := HwG.out.more
          have hl := HwG.out.rk.lt
          go_upto_region 29 with fail
          generalize hw9 : World.setCell _ _ _ = wH
          have hup := HwG.out.hvs wH hw9
          have HwH := hide hup.1
          have FwH := hide (FwG.out.trans hup.2)
          clear hw9 hup m3 m5 m6 g5 g6 mr gr hrl hl
          go_wp2_with fail
          refine (rounds_any _ le (M : Int) true HwH.out (by omega) hle9 (.inr hmo9)).mono ?_
          rintro e wI ⟨y, n2, rfl, hn2, ra2, fr2⟩
          have HwI := hide ra2
          have FwI := hide (FwH.out.trans fr2)
          clear ra2 fr2
          go_wp2_with fail
          go_ret
          refine ⟨FwI.out, RdPost.mkOk HP2.out ?_ HwI.out (by show _ + 9 + 50 * s.k ≤ n + 50 * (k' + 1 + 1) + 0; omega)⟩
          unfold wt
          rw [← HWQ.out, if_neg (by omega), Int.toNat_natCast, ← HP.out]
          simp <;> omega
        · have q63 : ((x : Int) == 63) = false := by rw [beq_eq_false_iff_ne]; omega
          have hP2 := HPM.out
          rw [if_neg h63, decide_eq_false h63] at hP2
          have HP2 := hide hP2
          clear hP2 HPM h63
          go_upto_region 25 with fail
          obtain ⟨m3, m5, m6, g5, g6, mr, gr, hrl⟩ := HwF.out.more
          go_upto_region 29 with fail
          generalize hw9 : World.setCell _ _ _ = wH
          have hup := HwF.out.hvs wH hw9
          have HwH := hide hup.1
          have FwH := hide (FwF.out.trans hup.2)
          clear hw9 hup m3 m5 m6 g5 g6 mr gr hrl hl c0 c1 c2 f1 f2
          go_wp2_with fail
          refine (rounds_any _ le (M : Int) false HwH.out (by omega) hle9 (.inr hmo9)).mono ?_
          rintro e wI ⟨y, n2, rfl, hn2, ra2, fr2⟩
          have HwI := hide ra2
          have FwI := hide (FwH.out.trans fr2)
          clear ra2 fr2
          go_wp2_with fail
          go_ret
          refine ⟨FwI.out, RdPost.mkOk HP2.out ?_ HwI.out (by show _ + 9 + 50 * s.k ≤ n + 50 * (k' + 1) + 0; omega)⟩
          unfold wt
          rw [← HWQ.out, if_neg (by omega), Int.toNat_natCast, ← HP.out]
          simp <;> omega
  have HCN : Hid (countM t ⟨k, d', f, g, nm⟩ = .ok none ⟨k, d', f, g, nm⟩) := by show _ = _; rw [HCM.out, if_neg h42, if_neg h43, if_neg h63, if_neg h123]
  have HPM : Hid (pieceM t E s = .ok q ⟨k, d', f, g, nm⟩) := by
    show _ = _
    unfold pieceM
    rw [HAM.out, Res.bind_ok, HCN.out]
    rfl
  have q42 : ((c : Int) == 42) = false := by rw [beq_eq_false_iff_ne]; omega
  have q43 : ((c : Int) == 43) = false := by rw [beq_eq_false_iff_ne]; omega
  have q63 : ((c : Int) == 63) = false := by rw [beq_eq_false_iff_ne]; omega
  have q123 : ((c : Int) == 123) = false := by rw [beq_eq_false_iff_ne]; omega
  clear HCM HSX
  go_wp2_with fail
  go_ret
  exact ⟨Fw2.out, RdPost.mkOk HPM.out (by rw [HWQ.out]) Hw2.out (by show _ + 9 + 50 * s.k ≤ n + 50 * k + 0; omega)⟩
end Go.Proofs.YtgmjjhmnchefbaaGreatDoor.G

/- The document's own reader of patterns: is a name taken? -/
namespace Go.Proofs.YtgmjjhmnchefbaaGreatDoor.G
open Go.RowKit

theorem any_drop {ns : List ByteArray} {j : Nat} {x : ByteArray} (h : ns[j]? = some x) (a : ByteArray) : (ns.drop j).any (fun y => decide (y = a)) = (decide (x = a) || (ns.drop (j + 1)).any (fun y => decide (y = a))) := by
  have hj : j < ns.length := (List.getElem?_eq_some_iff.1 h).1
  rw [List.drop_eq_getElem_cons hj]
  rw [List.getElem?_eq_getElem hj] at h
  rw [Option.some.inj h, List.any_cons]
theorem list_eq (x a : ByteArray) : (x.toList == a.toList) = decide (x = a) := by
  rw [ByteArray.toList_eq, ByteArray.toList_eq]
  by_cases h : x = a
  · rw [h]; simp
  · rw [decide_eq_false h, beq_eq_false_iff_ne]
    intro e
    apply h
    apply ByteArray.ext
    exact Array.toList_inj.1 e
set_option maxHeartbeats 4000000 in
set_option maxRecDepth 100000 in
theorem taken_any {w : World} {p r base : Nat} {t : ByteArray} {s : RS} {bad : Bool} {hv : Int} {n : Nat} (a : ByteArray) (ha : a.size ≠ 0) (h : RA w p r base t s bad hv n) (hg : s.g ≤ 5) :
    Calls Tryz.prog 159 #[.pointer (some ⟨p, 0, none⟩), .string a] w fun e w' => e = .returned (.bool (takenM s.nm a)) ∧ w' = w := by
  obtain ⟨av, nv, xs, ns, h1, h2, h3, h4, h5⟩ := h.rn.ex
  obtain ⟨pn, cn, rfl⟩ := own_slice h3
  have HT := hide (h4 a ha)
  have hbp := h.rk
  unfold RK at hbp
  have c3 : w.cell? ⟨p, 3, none⟩ = some (.pointer (some ⟨r, 0, none⟩)) := hbp.all.1 3
  have r3 : w.cell? ⟨r, 3, none⟩ = some (.slice pn ns.length cn) := h1.all.1 3
  have hpl := hbp.lt
  have hrl := h1.lt
  have HC : Hid (∀ j x, ns[j]? = some x → ∃ b, pn = some ⟨b, 0, none⟩ ∧ b < w.heap.size ∧ w.cell? ⟨b, j, none⟩ = some (.string x)) := fun j x hj => by
    have hjl := (List.getElem?_eq_some_iff.1 hj).1
    obtain ⟨g, cap, e, _, hg, _, hc, _⟩ := own_cells h3 (by omega)
    injection e with e1 e2 e3
    refine ⟨g, e1, hg, ?_⟩
    rw [hc j (by omega), List.getElem?_map, hj]
    rfl
  obtain ⟨m, hm⟩ : ∃ m, m = ns.length := ⟨_, rfl⟩
  have hm5 : m ≤ 5 := by omega
  have HM := hide hm
  rw [← hm] at r3
  obtain ⟨R, hR⟩ : ∃ R, R = takenM s.nm a := ⟨_, rfl⟩
  rw [← hR]
  have HR := hide hR
  clear h h1 h2 h3 h4 h5 hbp hm hR
  go_enter Tryz.func159, Tryz.ntmps159
  go_wp2_with fail
  go_loopg [5] m (fun gk i wr => ∃ j : Nat, j + gk = m ∧ i = .int .i64 (j : Int) ∧ (ns.drop j).any (fun y => decide (y = a)) = R ∧ wr = w)
  case atStart => exact ⟨0, by omega, rfl, by rw [List.drop_zero, HR.out]; exact HT.out.symm, rfl⟩
  case round =>
    obtain ⟨j, hj, rfl, hd, rfl⟩ := hrel
    have HD := hide hd
    clear hd
    cases gk with
    | zero =>
      have hjl : ¬ (j : Int) < (m : Int) := by omega
      have hr : R = false := by rw [← HD.out, List.drop_eq_nil_of_le (by have := HM.out; omega)]; rfl
      subst hr
      go_wp2_with fail
      go_ret
      exact ⟨rfl, rfl⟩
    | succ g =>
      have hjl : (j : Int) < (m : Int) := by omega
      obtain ⟨x, hx⟩ : ∃ x, ns[j]? = some x := ⟨_, List.getElem?_eq_getElem (by have := HM.out; omega)⟩
      obtain ⟨b, rfl, hb, hc⟩ := HC.out j x hx
      have hst := any_drop hx a
      have HST := hide hst
      clear hst hx
      cases he : (x.toList == a.toList) with
      | true =>
        have hr : R = true := by rw [← HD.out, HST.out, ← list_eq, he]; rfl
        subst hr
        go_wp2_with fail
        go_ret
        exact ⟨rfl, rfl⟩
      | false =>
        have HN : Hid ((ns.drop (j + 1)).any (fun y => decide (y = a)) = R) := hide (by rw [← HD.out, HST.out, ← list_eq, he]; rfl)
        go_wp2_with fail
        go_roundg g
        case measure => omega
        case rel => exact ⟨j + 1, by omega, by simp, HN.out, rfl⟩
end Go.Proofs.YtgmjjhmnchefbaaGreatDoor.G
