/- The document's own reader of patterns: branches. -/
import Derived.Test.YtgmjjhmnchefbaaGreatDoorM27
set_option linter.unusedVariables false
set_option linter.unusedSimpArgs false
namespace Go.Proofs.YtgmjjhmnchefbaaGreatDoor.G
open Go.RowKit

theorem piece_bound {t : ByteArray} {E : RS → Res Pt} {m : Nat} (ht : t.size ≤ 60) (hm : m + 1 ≤ 7) (hE : FineE t m E) {s s' : RS} {q : Pt} (h : pieceM t E s = .ok q s') (h5 : s.g ≤ 5) (hk : s.k ≤ t.size) : wt q ≤ 1169230260 ∧ s.k < s'.k ∧ s'.k ≤ t.size ∧ s'.g ≤ 5 := by
  obtain ⟨f, hlt⟩ := piece_fine ht hm hE h h5 hk
  exact ⟨Nat.le_trans f.wt (big ht (f.sz hk) _ hm), hlt, f.sz hk, f.g5⟩
set_option maxHeartbeats 8000000 in
set_option maxRecDepth 100000 in
theorem branch_c {t : ByteArray} {p r base d m : Nat} {E : RS → Res Pt} (ht : t.size ≤ 60) (hd6 : d ≤ 6) (hm : m + 1 ≤ 7) (hE : FineE t m E) (hEi : EI E) (KP : PieceC t p r base d E) : BranchC t p r base d E := by
  intro w s hv n h hsd hg5 hks hn
  have H := hide h
  have HKP := hide KP
  have HEI := hide hEi
  have HFE := hide hE
  have HSD := hide hsd
  obtain ⟨R, hR⟩ : ∃ R, branchM t E (t.size + 1) [] s = R := ⟨_, rfl⟩
  have HR := hide hR
  rw [hR]
  clear h KP hEi hE hR hsd
  go_enter Tryz.func33, Tryz.ntmps33
  go_wp2_with fail
  refine (node_ex 1 0 0 0 false noB rfl H.out (by omega)).mono ?_
  rintro e w1 ⟨rfl, h1, fr1⟩
  have H1 := hide h1
  have F1 := hide fr1
  clear h1 fr1
  go_wp2_with fail
  go_loopg [3, 4] (t.size + 1) (fun gk v3 v4 wr => ∃ (y : Int) (W : Int) (bd : Bool) (s' : RS) (hv' : Int) (n' : Nat), v3 = .int .i64 y ∧ v4 = .int .i64 W ∧ RA wr p r base t s' bd hv' n' ∧ Fr w wr base ∧ s'.d = d ∧ (bd = true → R = .bad { s' with d := d } ∧ n' ≤ 20000 + 10 * (7 - d) + 1 ∨ ∃ s9, R = .bad s9 ∧ s'.k = s9.k ∧ n' ≤ 20000 + 10 * (7 - d) + 1) ∧ (bd = false → ∃ acc : List Pt, branchM t E gk acc s' = R ∧ t.size - s'.k + 1 ≤ gk ∧ acc.length + s.k ≤ s'.k ∧ W = (wtL acc : Int) ∧ wtL acc ≤ acc.length * 1169230260 ∧ s'.g ≤ 5 ∧ s'.k ≤ t.size ∧ n' + 50 * s.k ≤ n + 50 * s'.k + 1))
  case atStart => exact ⟨_, _, false, s, hv, _, rfl, rfl, H1.out, F1.out, HSD.out, (fun h => by cases h), fun _ => ⟨[], HR.out, by omega, by simp, rfl, by simp [wtL], hg5, hks, by omega⟩⟩
  case round =>
    obtain ⟨y, W, bd, s', hv', n', rfl, rfl, hra, hfr, hd', hbad, hgood⟩ := hrel
    have H2 := hide hra
    have F2 := hide hfr
    have HD := hide hd'
    have HBAD := hide hbad
    have HGOOD := hide hgood
    clear hra hfr hd' hbad hgood
    obtain ⟨c0, c1, c2, f1, f2, hl⟩ := H2.out.facts
    obtain ⟨m3, m5, m6, g5, g6, mr, gr, hrl⟩ := H2.out.more
    cases bd with
    | true =>
      have hb := HBAD.out rfl
      have HB : Hid (∃ s9, R = .bad s9 ∧ s'.k = s9.k ∧ n' ≤ 20000 + 10 * (7 - d) + 1) := by
        rcases hb with ⟨h1, h2⟩ | h1
        · exact ⟨_, h1, rfl, h2⟩
        · exact h1
      clear HBAD HGOOD hb
      go_wp2_with fail
      go_quiet (fail)
      go_upto_region 8 with fail
      generalize hw9 : World.setCell _ _ _ = w5
      have hh := (H2.out.drewN _).hvs w5 hw9
      have H5 := hide hh.1
      have F5 := hide ((F2.out.trans (Fr.drewN _ _ _)).trans hh.2)
      clear hw9 hh c0 c1 c2 f1 f2 hl m3 m5 m6 g5 g6 mr gr hrl
      go_wp2_with fail
      go_ret
      obtain ⟨s9, hs9, hk9, hn9⟩ := HB.out
      exact ⟨F5.out, RdPost.mkBad hs9 hk9 (HD.out.trans HSD.out.symm) H5.out (by rw [HSD.out]; exact hn9)⟩
    | false =>
      obtain ⟨acc, hacc, hfu, hal, hW, hwb, hg5', hkt, hnb⟩ := HGOOD.out rfl
      subst hW
      have HACC := hide hacc
      clear HBAD HGOOD hacc
      obtain ⟨c, hc⟩ : ∃ c, c = nextN t s'.k := ⟨_, rfl⟩
      have HC := hide hc
      have KN := hide (fun q => next_any (H2.out.rk.drewN q))
      rw [← hc] at KN
      have hc256 : c < 256 := by rw [hc]; exact nextN_lt _ _
      have s124 : seesM t s' 124 = decide (c = 124) := by rw [hc]; exact sees_nx (by decide)
      have s41 : seesM t s' 41 = decide (c = 41) := by rw [hc]; exact sees_nx (by decide)
      have HS124 := hide s124
      have HS41 := hide s41
      clear hc s124 s41
      obtain ⟨k, d', f, g, nm⟩ := s'
      dsimp only at *
      obtain ⟨gk, rfl⟩ : ∃ x, gk = x + 1 := ⟨gk - 1, by omega⟩
      by_cases hstop : k = t.size ∨ c = 124 ∨ c = 41
      · have HRR : Hid (R = .ok acc ⟨k, d', f, g, nm⟩) := by
          show R = _
          rw [← HACC.out]
          unfold branchM
          rw [if_pos]
          dsimp only
          rcases hstop with h | h | h
          · exact .inl h
          · refine .inr (.inl ?_); rw [HS124.out]; exact decide_eq_true h
          · refine .inr (.inr ?_); rw [HS41.out]; exact decide_eq_true h
        have hcs : (t.size ≤ k) ∨ (k < t.size ∧ c = 124) ∨ (k < t.size ∧ c ≠ 124 ∧ c = 41) := by omega
        clear hstop HACC
        rcases hcs with a | ⟨a, b⟩ | ⟨a, b, b'⟩
        case' inl =>
          have hlt : decide (k < t.size) = false := decide_eq_false (by omega)
        case' inr.inl =>
          have hlt : decide (k < t.size) = true := decide_eq_true a
          have q124 : ((c : Int) != 124) = false := by rw [b]; rfl
          clear b
        case' inr.inr =>
          have hlt : decide (k < t.size) = true := decide_eq_true a
          have q124 : ((c : Int) != 124) = true := by rw [bne_iff_ne]; omega
          have q41 : ((c : Int) != 41) = false := by rw [b']; rfl
          clear b b'
        all_goals
          go_wp2_with fail
          go_quiet ((exact Calls.quiet_of (KN.out _)))
          go_upto_region 8 with fail
          generalize hw9 : World.setCell _ _ _ = w5
          have hh := (H2.out.drewN _).hvs w5 hw9
          have H5 := hide hh.1
          have F5 := hide ((F2.out.trans (Fr.drewN _ _ _)).trans hh.2)
          clear hw9 hh c0 c1 c2 f1 f2 hl m3 m5 m6 g5 g6 mr gr hrl
          go_wp2_with fail
          go_ret
          exact ⟨F5.out, RdPost.mkOk HRR.out rfl H5.out (by show _ + 0 + 50 * s.k ≤ n + 50 * k + 1; omega)⟩
      · have hlt : decide (k < t.size) = true := decide_eq_true (by omega)
        have q124 : ((c : Int) != 124) = true := by rw [bne_iff_ne]; omega
        have q41 : ((c : Int) != 41) = true := by rw [bne_iff_ne]; omega
        have HRR : Hid (R = (pieceM t E ⟨k, d', f, g, nm⟩).bind fun q s' => branchM t E gk (acc ++ [q]) s') := by
          show R = _
          rw [← HACC.out]
          conv => lhs; unfold branchM
          rw [if_neg]
          dsimp only
          rw [HS124.out, HS41.out]
          simp only [decide_eq_true_eq]
          exact hstop
        have KPP := hide (fun q => HKP.out _ _ _ _ (H2.out.drewN q) HD.out hg5' (by show k < t.size; omega) (by show n' ≤ 10001 + 50 * k; omega))
        have hka : k < t.size := by omega
        clear hstop HACC
        go_wp2_with fail
        go_quiet ((exact Calls.quiet_of (KN.out _)))
        go_wp2_with fail
        refine (KPP.out _).mono ?_
        rintro e w5 ⟨hf5, hp5⟩
        obtain ⟨y5, hy5, hz5⟩ := hp5.split
        subst hy5
        have F5 := hide ((F2.out.trans (Fr.drewN _ _ _)).trans hf5)
        clear c0 c1 c2 f1 f2 hl m3 m5 m6 g5 g6 mr gr hrl KPP KN hf5
        rcases hz5 with ⟨q, s5, n5, hpm, ra5, hn5⟩ | ⟨s5, s6, hv6, n5, hpm, hk6, hd6', ra5, hn5⟩
        · obtain ⟨hq1, hq2, hq3, hq4⟩ := piece_bound ht hm HFE.out hpm hg5' hkt
          have hd5 := (pieceM_ok HEI.out hg5' hpm).2.1
          dsimp only at hq2 hn5 hd5
          have H5 := hide ra5
          have HPM := hide hpm
          obtain ⟨m3, m5, m6, g5, g6, mr, gr, hrl⟩ := H5.out.more
          have hl := H5.out.rk.lt
          obtain ⟨wq, hwq⟩ : ∃ x, x = wt q := ⟨_, rfl⟩
          obtain ⟨wl, hwl⟩ : ∃ x, x = wtL acc := ⟨_, rfl⟩
          have HWQ := hide hwq
          have HWL := hide hwl
          have hlen : acc.length * 1169230260 ≤ 60 * 1169230260 := Nat.mul_le_mul_right _ (by omega)
          rw [← hwq] at m6 hq1
          rw [← hwl] at hwb ⊢
          have hsum : IntKind.i64.wrap ((wl : Int) + (wq : Int)) = (wl : Int) + (wq : Int) := by rw [IntKind.wrap_i64]; omega
          clear ra5 hpm hwq hwl
          go_wp2_with fail
          refine (node_ex 3 _ _ 0 false noB rfl H5.out (by omega)).mono ?_
          rintro e w6 ⟨rfl, h6, fr6⟩
          have H6 := hide h6
          have F6 := hide (F5.out.trans fr6)
          clear h6 fr6
          go_wp2_with fail
          go_roundg gk
          case measure => omega
          case rel =>
            refine ⟨_, _, false, s5, _, _, rfl, rfl, H6.out, F6.out, hd5.trans HD.out, (fun h => by cases h), fun _ => ⟨acc ++ [q], ?_, by omega, by rw [List.length_append]; show acc.length + 1 + s.k ≤ s5.k; omega, ?_, ?_, hq4, hq3, by omega⟩⟩
            · rw [HRR.out, HPM.out]; rfl
            · rw [wtL_append, ← HWL.out]; show _ = ((wl + (wt q + 0) : Nat) : Int); rw [← HWQ.out]; omega
            · rw [wtL_append, ← HWL.out, List.length_append]; show wl + (wt q + 0) ≤ (acc.length + 1) * _; rw [← HWQ.out]; omega
        · have H5 := hide ra5
          have HPM := hide hpm
          obtain ⟨m3, m5, m6, g5, g6, mr, gr, hrl⟩ := H5.out.more
          have hl := H5.out.rk.lt
          dsimp only at hd6' hn5
          obtain ⟨wl, hwl⟩ : ∃ x : Int, x = (wtL acc : Int) := ⟨_, rfl⟩
          rw [← hwl]
          clear ra5 hpm hwl
          go_wp2_with fail
          refine (node_ex 3 _ _ 0 false noB rfl H5.out (by omega)).mono ?_
          rintro e w6 ⟨rfl, h6, fr6⟩
          have H6 := hide h6
          have F6 := hide (F5.out.trans fr6)
          clear h6 fr6
          go_wp2_with fail
          go_roundg gk
          case measure => omega
          case rel =>
            refine ⟨_, _, true, s6, _, _, rfl, rfl, H6.out, F6.out, hd6'.trans HD.out, (fun _ => .inr ⟨s5, ?_, hk6, ?_⟩), (fun h => by cases h)⟩
            · rw [HRR.out, HPM.out]; rfl
            · have := HD.out
              rw [this] at hn5
              omega
theorem seq_bound {t : ByteArray} {E : RS → Res Pt} {m : Nat} (ht : t.size ≤ 60) (hm : m + 1 ≤ 7) (hE : FineE t m E) {s s' : RS} {l : List Pt} {f : Nat} (h : branchM t E f [] s = .ok l s') (h5 : s.g ≤ 5) (hk : s.k ≤ t.size) : wtL l ≤ 1169230260 ∧ s.k ≤ s'.k ∧ s'.k ≤ t.size ∧ s'.g ≤ 5 := by
  have f := seq_fine ht hm hE h h5 hk
  exact ⟨Nat.le_trans f.wt (big ht (f.sz hk) _ hm), f.le, f.sz hk, f.g5⟩
set_option maxHeartbeats 8000000 in
set_option maxRecDepth 100000 in
theorem expr_c {t : ByteArray} {p r base d m : Nat} {E : RS → Res Pt} (ht : t.size ≤ 60) (hd6 : d ≤ 6) (hm : m + 1 ≤ 7) (hE : FineE t m E) (hEi : EI E) (KB : BranchC t p r base d E) : ExprC t p r base d (exprM t E) := by
  intro w s hv n h hsd hg5 hks hn
  have HKB := hide KB
  have HEI := hide hEi
  have HFE := hide hE
  have HSD := hide hsd
  have KB0 := hide (KB w s hv n h hsd hg5 hks hn)
  obtain ⟨R, hR⟩ : ∃ R, exprM t E s = R := ⟨_, rfl⟩
  have HR := hide hR
  rw [hR]
  clear h KB hEi hE hR hsd
  go_enter Tryz.func13, Tryz.ntmps13
  go_wp2_with fail
  refine KB0.out.mono ?_
  rintro e w1 ⟨hf1, hp1⟩
  obtain ⟨y1, hy1, hz1⟩ := hp1.split
  subst hy1
  have F1 := hide hf1
  have hst : ∃ (bd : Bool) (s1 : RS) (hv1 : Int) (n1 : Nat), RA w1 p r base t s1 bd hv1 n1 ∧ s1.d = d ∧ (bd = true → ∃ s9, R = .bad s9 ∧ s1.k = s9.k ∧ n1 ≤ 20000 + 10 * (7 - d) + 2) ∧ (bd = false → ∃ acc : List Pt, (altM t E (t.size + 1) acc s1).bind (fun b s2 => .ok (.alt b) s2) = R ∧ 1 ≤ acc.length ∧ acc.length + s.k ≤ s1.k + 1 ∧ hv1 + 1 = (wtL acc : Int) + (acc.length : Int) ∧ wtL acc ≤ acc.length * 1169230260 ∧ s1.g ≤ 5 ∧ s1.k ≤ t.size ∧ n1 + 50 * s.k ≤ n + 50 * s1.k + 1) := by
    rcases hz1 with ⟨l, s1, n1, hbm, ra1, hn1⟩ | ⟨s9, s1, hv1, n1, hbm, hk1, hd1, ra1, hn1⟩
    · obtain ⟨b1, b2, b3, b4⟩ := seq_bound ht hm HFE.out hbm hg5 hks
      have hd1 := (branchM_ok HEI.out _ _ _ _ _ hg5 hbm).2.1
      refine ⟨false, s1, _, n1, ra1, hd1.trans HSD.out, (fun h => by cases h), fun _ => ⟨[.seq l], ?_, by simp, by simp; omega, ?_, ?_, b4, b3, by omega⟩⟩
      · rw [← HR.out]
        unfold exprM
        rw [hbm, Res.bind_ok]
      · show ((wtL l : Nat) : Int) + 1 = ((wtL l + 0 : Nat) : Int) + ((1 : Nat) : Int)
        omega
      · have e1 : wtL [Pt.seq l] = wtL l := by simp [wtL, wt]
        have e2 : [Pt.seq l].length = 1 := rfl
        rw [e1, e2]
        omega
    · refine ⟨true, s1, hv1, n1, ra1, hd1.trans HSD.out, (fun _ => ⟨s9, ?_, hk1, by rw [HSD.out] at hn1; omega⟩), (fun h => by cases h)⟩
      rw [← HR.out]
      unfold exprM
      rw [hbm]
      rfl
  obtain ⟨bd, s1, hv1, n1, ra1, hd1, hbad1, hgood1⟩ := hst
  have H1 := hide ra1
  have HD1 := hide hd1
  have HBAD1 := hide hbad1
  have HGOOD1 := hide hgood1
  obtain ⟨m3, m5, m6, g5, g6, mr, gr, hrl⟩ := H1.out.more
  have hl := H1.out.rk.lt
  clear hp1 hz1 hf1 ra1 hd1 hbad1 hgood1 KB0
  go_wp2_with fail
  clear m3 m5 m6 g5 g6 mr gr hrl hl
  go_loopg [3, 4] (t.size + 1) (fun gk v3 v4 wr => ∃ (y : Int) (W : Int) (bd : Bool) (s' : RS) (hv' : Int) (n' : Nat), v3 = .int .i64 y ∧ v4 = .int .i64 W ∧ RA wr p r base t s' bd hv' n' ∧ Fr w wr base ∧ s'.d = d ∧ (bd = true → ∃ s9, R = .bad s9 ∧ s'.k = s9.k ∧ n' ≤ 20000 + 10 * (7 - d) + 2) ∧ (bd = false → ∃ acc : List Pt, (altM t E gk acc s').bind (fun b s2 => .ok (.alt b) s2) = R ∧ t.size - s'.k + 1 ≤ gk ∧ 1 ≤ acc.length ∧ acc.length + s.k ≤ s'.k + 1 ∧ W + 1 = (wtL acc : Int) + (acc.length : Int) ∧ wtL acc ≤ acc.length * 1169230260 ∧ s'.g ≤ 5 ∧ s'.k ≤ t.size ∧ n' + 50 * s.k ≤ n + 50 * s'.k + 1))
  case atStart => exact ⟨_, _, bd, s1, hv1, n1, rfl, rfl, H1.out, F1.out, HD1.out, HBAD1.out, fun h => by
      obtain ⟨acc, a1, a2, a3, a4, a5, a6, a7, a8⟩ := HGOOD1.out h
      exact ⟨acc, a1, by omega, a2, a3, a4, a5, a6, a7, a8⟩⟩
  case round =>
    clear HBAD1 HGOOD1 HD1 H1 F1
    obtain ⟨y, W, bd, s', hv', n', rfl, rfl, hra, hfr, hd', hbad, hgood⟩ := hrel
    have H2 := hide hra
    have F2 := hide hfr
    have HD := hide hd'
    have HBAD := hide hbad
    have HGOOD := hide hgood
    clear hra hfr hd' hbad hgood
    obtain ⟨c0, c1, c2, f1, f2, hl⟩ := H2.out.facts
    obtain ⟨m3, m5, m6, g5, g6, mr, gr, hrl⟩ := H2.out.more
    cases bd with
    | true =>
      have HB := hide (HBAD.out rfl)
      clear HBAD HGOOD
      go_upto_region 9 with fail
      generalize hw9 : World.setCell _ _ _ = w5
      have hh := H2.out.hvs w5 hw9
      have H5 := hide hh.1
      have F5 := hide (F2.out.trans hh.2)
      clear hw9 hh c0 c1 c2 f1 f2 hl m3 m5 m6 g5 g6 mr gr hrl
      go_wp2_with fail
      go_ret
      obtain ⟨s9, hs9, hk9, hn9⟩ := HB.out
      exact ⟨F5.out, RdPost.mkBad hs9 hk9 (HD.out.trans HSD.out.symm) H5.out (by rw [HSD.out]; exact hn9)⟩
    | false =>
      obtain ⟨acc, hacc, hfu, hal1, hal, hW, hwb, hg5', hkt, hnb⟩ := HGOOD.out rfl
      have HACC := hide hacc
      have HW := hide hW
      clear HBAD HGOOD hacc hW
      obtain ⟨c, hc⟩ : ∃ c, c = nextN t s'.k := ⟨_, rfl⟩
      have HC := hide hc
      have KN := hide (next_gen H2.out)
      rw [← hc] at KN
      have hc256 : c < 256 := by rw [hc]; exact nextN_lt _ _
      have s124 : seesM t s' 124 = decide (c = 124) := by rw [hc]; exact sees_nx (by decide)
      have HS124 := hide s124
      clear hc s124
      obtain ⟨k, d', f, g, nm⟩ := s'
      dsimp only at *
      obtain ⟨gk, rfl⟩ : ∃ x, gk = x + 1 := ⟨gk - 1, by omega⟩
      by_cases h124 : c = 124
      · have q124 : ((c : Int) == 124) = true := by rw [h124]; rfl
        have hks : k < t.size := by
          have h9 := HS124.out
          rw [decide_eq_true h124] at h9
          exact sees_ltk h9
        have HRR : Hid (R = ((branchM t E (t.size + 1) [] ⟨k + 1, d', f, g, nm⟩).bind fun l s' => altM t E gk (acc ++ [.seq l]) s').bind (fun b s2 => .ok (.alt b) s2)) := by
          show R = _
          rw [← HACC.out]
          conv => lhs; unfold altM
          rw [if_pos (by rw [HS124.out]; exact decide_eq_true h124)]
          rfl
        clear h124 HACC
        go_wp2_with fail
        refine KN.out.mono ?_
        rintro e w3 ⟨rfl, ra3, fr3, _⟩
        have H3 := hide ra3
        have F3 := hide (F2.out.trans fr3)
        clear ra3 fr3 c0 c1 c2 f1 f2 hl m3 m5 m6 g5 g6 mr gr hrl KN
        obtain ⟨c0, c1, c2, f1, f2, hl⟩ := H3.out.facts
        dsimp only at c1
        go_upto_region 5 with fail
        generalize hw9 : World.setCell _ _ _ = w4
        have hup := H3.out.up2 w4 hw9 (by simp)
        have H4 : Hid (RA w4 p r base t ⟨k + 1, d', f, g, nm⟩ false hv' n') := hup.1
        have F4 := hide (F3.out.trans hup.2)
        clear hw9 hup c0 c1 c2 f1 f2 hl
        have KB1 := hide (HKB.out _ _ _ _ H4.out HD.out hg5' (by show k + 1 ≤ t.size; omega) (by show n' ≤ 10000 + 50 * (k + 1); omega))
        go_wp2_with fail
        refine KB1.out.mono ?_
        rintro e w5 ⟨hf5, hp5⟩
        obtain ⟨y5, hy5, hz5⟩ := hp5.split
        subst hy5
        have F5 := hide (F4.out.trans hf5)
        clear KB1 hf5
        rcases hz5 with ⟨l, s5, n5, hpm, ra5, hn5⟩ | ⟨s5, s6, hv6, n5, hpm, hk6, hd6', ra5, hn5⟩
        · obtain ⟨hq1, hq2, hq3, hq4⟩ := seq_bound ht hm HFE.out hpm hg5' (by show k + 1 ≤ t.size; omega)
          have hd5 := (branchM_ok HEI.out _ _ _ _ _ hg5' hpm).2.1
          dsimp only at hq2 hn5 hd5
          have H5 := hide ra5
          have HPM := hide hpm
          obtain ⟨m3, m5, m6, g5, g6, mr, gr, hrl⟩ := H5.out.more
          have hl := H5.out.rk.lt
          obtain ⟨wq, hwq⟩ : ∃ x, x = wtL l := ⟨_, rfl⟩
          have HWQ := hide hwq
          have hlen : acc.length * 1169230260 ≤ 60 * 1169230260 := Nat.mul_le_mul_right _ (by omega)
          rw [← hwq] at m6 hq1
          have hWb : 0 ≤ W ∧ W ≤ 70153815720 := by have := HW.out; omega
          have hsum1 : IntKind.i64.wrap (W + 1) = W + 1 := by rw [IntKind.wrap_i64]; omega
          have hsum : IntKind.i64.wrap (W + 1 + (wq : Int)) = W + 1 + (wq : Int) := by rw [IntKind.wrap_i64]; omega
          clear ra5 hpm hwq
          go_wp2_with fail
          refine (node_ex 4 _ _ 0 false noB rfl H5.out (by omega)).mono ?_
          rintro e w6 ⟨rfl, h6, fr6⟩
          have H6 := hide h6
          have F6 := hide (F5.out.trans fr6)
          clear h6 fr6
          go_wp2_with fail
          go_roundg gk
          case measure => omega
          case rel =>
            refine ⟨_, _, false, s5, _, _, rfl, rfl, H6.out, F6.out, hd5.trans HD.out, (fun h => by cases h), fun _ => ⟨acc ++ [.seq l], ?_, by omega, by simp, by rw [List.length_append]; show acc.length + 1 + s.k ≤ s5.k + 1; omega, ?_, ?_, hq4, hq3, by omega⟩⟩
            · rw [HRR.out, HPM.out]; rfl
            · rw [wtL_append, List.length_append]; show _ = ((wtL acc + (wtL l + 0) : Nat) : Int) + ((acc.length + 1 : Nat) : Int); rw [← HWQ.out]; have := HW.out; omega
            · rw [wtL_append, List.length_append]; show wtL acc + (wtL l + 0) ≤ (acc.length + 1) * _; rw [← HWQ.out]; omega
        · have H5 := hide ra5
          have HPM := hide hpm
          obtain ⟨m3, m5, m6, g5, g6, mr, gr, hrl⟩ := H5.out.more
          have hl := H5.out.rk.lt
          dsimp only at hd6' hn5
          clear ra5 hpm
          go_wp2_with fail
          refine (node_ex 4 _ _ 0 false noB rfl H5.out (by omega)).mono ?_
          rintro e w6 ⟨rfl, h6, fr6⟩
          have H6 := hide h6
          have F6 := hide (F5.out.trans fr6)
          clear h6 fr6
          go_wp2_with fail
          go_roundg gk
          case measure => omega
          case rel =>
            refine ⟨_, _, true, s6, _, _, rfl, rfl, H6.out, F6.out, hd6'.trans HD.out, (fun _ => ⟨s5, ?_, hk6, ?_⟩), (fun h => by cases h)⟩
            · rw [HRR.out, HPM.out]; rfl
            · have := HD.out
              rw [this] at hn5
              omega
      · have q124 : ((c : Int) == 124) = false := by rw [beq_eq_false_iff_ne]; omega
        have HRR : Hid (R = .ok (.alt acc) ⟨k, d', f, g, nm⟩) := by
          show R = _
          rw [← HACC.out]
          unfold altM
          rw [if_neg]
          · rfl
          · rw [HS124.out]; simpa using h124
        clear h124 HACC
        go_wp2_with fail
        refine KN.out.mono ?_
        rintro e w3 ⟨rfl, ra3, fr3, _⟩
        have H3 := hide ra3
        have F3 := hide (F2.out.trans fr3)
        clear ra3 fr3 c0 c1 c2 f1 f2 hl m3 m5 m6 g5 g6 mr gr hrl KN
        obtain ⟨m3, m5, m6, g5, g6, mr, gr, hrl⟩ := H3.out.more
        have hl := H3.out.rk.lt
        go_upto_region 9 with fail
        generalize hw9 : World.setCell _ _ _ = w5
        have hh := H3.out.hvs w5 hw9
        have H5 := hide hh.1
        have F5 := hide (F3.out.trans hh.2)
        clear hw9 hh hl m3 m5 m6 g5 g6 mr gr hrl
        go_wp2_with fail
        go_ret
        refine ⟨F5.out, RdPost.mkOk HRR.out ?_ H5.out (by show _ + 0 + 50 * s.k ≤ n + 50 * k + 1; omega)⟩
        show W = ((wtL acc + acc.length - 1 : Nat) : Int)
        have := HW.out
        omega
end Go.Proofs.YtgmjjhmnchefbaaGreatDoor.G
