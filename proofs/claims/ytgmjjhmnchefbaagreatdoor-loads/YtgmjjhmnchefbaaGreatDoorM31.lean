/- The document's own reader of patterns: what stands in parentheses. -/
import Derived.Test.YtgmjjhmnchefbaaGreatDoorM30
set_option linter.unusedVariables false
set_option linter.unusedSimpArgs false
namespace Go.Proofs.YtgmjjhmnchefbaaGreatDoor.G
open Go.RowKit

theorem named_keep {t : ByteArray} {k d g : Nat} {f : Bool} {nm : List (ByteArray × Nat)} {G kk dd gg : Nat} {ff : Bool} {nn : List (ByteArray × Nat)} (h : namedM t ⟨k, d, f, g, nm⟩ = .ok G ⟨kk, dd, ff, gg, nn⟩) : d = dd ∧ f = ff ∧ 1 ≤ G := by
  have hgn : ∀ (i n : Nat) (s s' : RS) (u : Unit), gnLoop t i n s = .ok u s' → s'.d = s.d ∧ s'.f = s.f := fun i n => by
    induction n with
    | zero => intro s s' u h; cases h; exact ⟨rfl, rfl⟩
    | succ n ih =>
      intro s s' u h
      unfold gnLoop at h
      split at h
      · cases h
      · split at h
        · split at h
          · cases h
          · have h9 := ih s.up s' u h
            exact h9
        · cases h; exact ⟨rfl, rfl⟩
  unfold namedM at h
  obtain ⟨_, s1, h1, h⟩ := bind_ok h
  obtain ⟨_, s2, h2, h⟩ := bind_ok h
  unfold tailM at h
  split at h
  · cases h
  · obtain ⟨_, s3, h3, h⟩ := bind_ok h
    have a := hgn _ _ _ _ _ h2
    unfold mustM at h1 h3
    split at h1
    · split at h3
      · cases h1; cases h3; cases h
        exact ⟨a.1.symm, a.2.symm, by omega⟩
      · cases h3
    · cases h1
set_option maxHeartbeats 16000000 in
set_option maxRecDepth 100000 in
theorem group_any {w : World} {p r base : Nat} {t : ByteArray} {s : RS} {hv : Int} {n m : Nat} {E : RS → Res Pt} (h : RA w p r base t s false hv n) (ht : t.size ≤ 60) (hd : s.d ≤ 6) (hg5 : s.g ≤ 5) (hs40 : seesM t s 40 = true) (hn : n ≤ 10001 + 50 * s.k) (hm : m ≤ 7) (hE : FineE t m E) (hEi : EI E) (hX : s.d < 6 → ExprC t p r base (s.d + 1) E) (hEnd : s.d < 6 → ∀ s' : RS, s'.d = s.d + 1 → s'.k = t.size → E s' = .ok (.alt [.seq []]) s') :
    Calls Tryz.prog 101 #[.pointer (some ⟨p, 0, none⟩)] w fun e w' => Fr w w' base ∧ RdPost w' p r base t s n 40 0 0 (fun q => (wt q : Int)) e (parenM t E s) := by
  obtain ⟨i0, hi, hz0, hz1, hz2⟩ := info_parts infoStrL
  have Hw := hide h
  have Fw := hide (Fr.refl w base)
  have hkl := sees_ltk hs40
  have HFE := hide hE
  have HEI := hide hEi
  have HKX := hide hX
  have HEND := hide hEnd
  have HS40 := hide hs40
  obtain ⟨k, d, f, g, nm⟩ := s
  dsimp only at hd hg5 hn hkl HKX HEND
  clear h hE hEi hX hEnd hs40
  obtain ⟨m3, m5, m6, g5, g6, mr, gr, hrl⟩ := Hw.out.more
  obtain ⟨c0, c1, c2, f1, f2, hl⟩ := Hw.out.facts
  dsimp only at c1 m5
  go_enter Tryz.func101, Tryz.ntmps101
  by_cases hd6 : d < 6
  rotate_left
  · have hd6' : (6 : Int) ≤ (d : Int) := by omega
    go_wp2_with fail
    refine (fail_any Hw.out).mono ?_
    rintro e w5 ⟨rfl, h5, ks5, eb5⟩
    have F5 := hide (Fw.out.trans ⟨ks5, eb5⟩)
    have H5 := hide h5
    clear h5 ks5 eb5
    go_wp2_with fail
    go_ret
    refine ⟨F5.out, RdPost.mkBad (s' := ⟨k, d, f, g, nm⟩) ?_ rfl rfl H5.out (by show _ ≤ 20000 + 10 * (7 - d) + 0; omega)⟩
    unfold parenM
    rw [if_pos (show d = 6 by omega)]
  have hd6' : ¬ (6 : Int) ≤ (d : Int) := by omega
  have HPE : Hid (parenM t E ⟨k, d, f, g, nm⟩ = ((openingM t ⟨k + 1, d, f, g, nm⟩).setD (d + 1)).bind fun g s2 => (E s2).bind fun p s3 => (mustM t s3 41).bind fun _ s4 => .ok (.wrap p g) { s4 with d := s4.d - 1 }) := paren_eq HS40.out (by show d ≠ 6; omega)
  go_upto_region 4 with fail
  generalize hw9 : World.setCell _ _ _ = w1
  have hup := Hw.out.up2 w1 hw9 (by simp)
  have H1 : Hid (RA w1 p r base t ⟨k + 1, d, f, g, nm⟩ false hv n) := hup.1
  have F1 := hide (Fw.out.trans hup.2)
  clear hw9 hup
  clear c0 c1 c2 f1 f2 hl m3 m5 m6 g5 g6 mr gr hrl
  obtain ⟨c0, c1, c2, f1, f2, hl⟩ := H1.out.facts
  have c1 : w1.cell? ⟨p, 1, none⟩ = some (.int .i64 ((k : Int) + 1)) := by simpa using c1
  by_cases hend : k + 1 < t.size
  rotate_left
  · -- the end of the text
    have hge : (t.size : Int) ≤ (k : Int) + 1 := by omega
    have hgd : decide ((t.size : Int) ≤ (k : Int) + 1) = true := decide_eq_true hge
    have hgdn : decide (t.size ≤ k + 1) = true := decide_eq_true (by omega)
    have HB : Hid (∃ s', parenM t E ⟨k, d, f, g, nm⟩ = .bad s' ∧ s'.k = k + 1) := paren_end HS40.out (by show d ≠ 6; omega) (by show k + 1 = t.size; omega) (HEND.out hd6)
    go_wp2_with fail
    go_quiet (fail)
    go_wp2_with fail
    refine (fail_any (H1.out.drewN _)).mono ?_
    rintro e w5 ⟨rfl, h5, ks5, eb5⟩
    have F5 := hide ((F1.out.trans (Fr.drewN _ _ _)).trans ⟨ks5, eb5⟩)
    have H5 := hide h5
    clear h5 ks5 eb5
    go_wp2_with fail
    go_ret

    obtain ⟨s', a1, a2⟩ := HB.out
    exact ⟨F5.out, RdPost.mkBad (s'' := ⟨k + 1, d, f, g, nm⟩) a1 a2.symm rfl H5.out (by show _ ≤ 20000 + 10 * (7 - d) + 0; omega)⟩
  have hgd : decide ((t.size : Int) ≤ (k : Int) + 1) = false := decide_eq_false (by omega)
  have hgdn : decide (t.size ≤ k + 1) = false := decide_eq_false (by omega)
  obtain ⟨c, hc⟩ : ∃ c, c = nextN t (k + 1) := ⟨_, rfl⟩
  have KN := hide (fun q => next_gen (H1.out.drewN q))
  dsimp only at KN
  rw [← hc] at KN
  have s63 : seesM t ⟨k + 1, d, f, g, nm⟩ 63 = decide (c = 63) := by rw [hc]; exact sees_nx (by decide)
  have HS63 := hide s63
  clear hc s63
  go_wp2_with fail
  go_quiet (fail)
  go_wp2_with fail
  refine (KN.out _).mono ?_
  rintro e w2 ⟨rfl, ra2, fr2, _⟩
  have H2 := hide ra2
  have F2 := hide ((F1.out.trans (Fr.drewN _ _ _)).trans fr2)
  clear ra2 fr2 KN c0 c1 c2 f1 f2 hl
  obtain ⟨m3, m5, m6, g5, g6, mr, gr, hrl⟩ := H2.out.more
  obtain ⟨c0, c1, c2, f1, f2, hl⟩ := H2.out.facts
  have c1 : w2.cell? ⟨p, 1, none⟩ = some (.int .i64 ((k : Int) + 1)) := by simpa using c1
  dsimp only at mr
  by_cases h63 : c = 63
  · -- (?
    have q63 : ((c : Int) == 63) = true := by rw [h63]; rfl
    have HOP := hide (opening_q (t := t) (s := ⟨k + 1, d, f, g, nm⟩) (by rw [HS63.out]; exact decide_eq_true h63))
    clear h63
    go_upto_region 9 with fail
    generalize hw9 : World.setCell _ _ _ = w3
    have hup := H2.out.up2 w3 hw9 (by first | (simp; done) | (simp; omega))
    have H3 : Hid (RA w3 p r base t ⟨k + 2, d, f, g, nm⟩ false hv n) := hup.1
    have F3 := hide (F2.out.trans hup.2)
    clear hw9 hup
    clear c0 c1 c2 f1 f2 hl m3 m5 m6 g5 g6 mr gr hrl
    obtain ⟨x, hx⟩ : ∃ c, c = nextN t (k + 2) := ⟨_, rfl⟩
    have KN := hide (next_gen H3.out)
    dsimp only at KN
    rw [← hx] at KN
    have s58 : seesM t ⟨k + 2, d, f, g, nm⟩ 58 = decide (x = 58) := by rw [hx]; exact sees_nx (by decide)
    have s80 : seesM t ⟨k + 2, d, f, g, nm⟩ 80 = decide (x = 80) := by rw [hx]; exact sees_nx (by decide)
    have HS58 := hide s58
    have HS80 := hide s80
    clear hx s58 s80
    go_wp2_with fail
    refine KN.out.mono ?_
    rintro e w4 ⟨rfl, ra4, fr4, _⟩
    have H4 := hide ra4
    have F4 := hide (F3.out.trans fr4)
    clear ra4 fr4 KN
    obtain ⟨m3, m5, m6, g5, g6, mr, gr, hrl⟩ := H4.out.more
    obtain ⟨c0, c1, c2, f1, f2, hl⟩ := H4.out.facts
    have c1 : w4.cell? ⟨p, 1, none⟩ = some (.int .i64 ((k : Int) + 2)) := by simpa using c1
    dsimp only at mr
    by_cases hP : x = 80 ∧ g < 5
    · -- (?P
      have q80 : ((x : Int) == 80) = true := by rw [hP.1]; rfl
      have hgl : (g : Int) < 5 := by omega
      have hg5' : g < 5 := hP.2
      have hk2 : k + 2 < t.size := sees_ltk (s := ⟨k + 2, d, f, g, nm⟩) (by rw [HS80.out]; exact decide_eq_true hP.1)
      have HON : Hid (openingM t ⟨k + 1, d, f, g, nm⟩ = namedM t ⟨k + 3, d, f, g, nm⟩) := by
        show _ = _
        rw [HOP.out]
        show (if seesM t ⟨k + 2, d, f, g, nm⟩ 58 = true then _ else _) = _
        rw [if_neg (by rw [HS58.out]; simp; omega), if_neg (show ¬ g = 5 by omega)]
        show (mustM t ⟨k + 2, d, f, g, nm⟩ 80).bind _ = _
        unfold mustM
        rw [if_pos (by rw [HS80.out]; exact decide_eq_true hP.1)]
        rfl
      clear hP
      go_upto_region 12 with fail
      generalize hw9 : World.setCell _ _ _ = w4a
      have hup := H4.out.up2 w4a hw9 (by first | (simp; done) | (simp; omega))
      have H4a : Hid (RA w4a p r base t ⟨k + 3, d, f, g, nm⟩ false hv n) := hup.1
      have F4a := hide (F4.out.trans hup.2)
      clear hw9 hup
      clear c0 c1 c2 f1 f2 hl m3 m5 m6 g5 g6 mr gr hrl
      have KNM := hide (named_any H4a.out ht hg5' (by show k + 3 ≤ t.size; omega))
      go_wp2_with fail
      refine KNM.out.mono ?_
      rintro e w5 ⟨fr5, hp5⟩
      have F5 := hide (F4a.out.trans fr5)
      cases hnm : namedM t ⟨k + 3, d, f, g, nm⟩ with
      | bad s9 =>
        rw [hnm] at hp5
        obtain ⟨⟨y, rfl⟩, s8, a1, a2, ra5⟩ := hp5
        have H5 := hide ra5
        have HB : Hid (parenM t E ⟨k, d, f, g, nm⟩ = .bad { s9 with d := d + 1 }) := by show _ = _; rw [HPE.out, HON.out, hnm]; rfl
        dsimp only at a2
        clear fr5 ra5 KNM hnm
        obtain ⟨c0, c1, c2, f1, f2, hl⟩ := H5.out.facts
        go_wp2_with fail
        go_ret
        exact ⟨F5.out, RdPost.mkBad HB.out a1 a2 H5.out (by show _ ≤ 20000 + 10 * (7 - d) + 0; omega)⟩
      | ok G s9 =>
        rw [hnm] at hp5
        obtain ⟨rfl, ra5⟩ := hp5
        obtain ⟨kk, dd, ff, gg, nn⟩ := s9
        have hon := HON.out.trans hnm
        have hmv := opening_mv hon (show g ≤ 5 from hg5)
        have hdf : d = dd ∧ f = ff ∧ 1 ≤ G := named_keep hnm
        obtain ⟨rfl, rfl, hG1⟩ := hdf
        have hkk := hmv.1
        have hkk2 := hmv.2.1 (show k + 1 ≤ t.size by omega)
        have hgg5 := hmv.2.2.1
        dsimp only at hkk hkk2 hgg5
        have HO := hide hon
        have H5 := hide ra5
        clear fr5 ra5 KNM hnm hmv hon HON HOP
        obtain ⟨m3, m5, m6, g5, g6, mr, gr, hrl⟩ := H5.out.more
        obtain ⟨c0, c1, c2, f1, f2, hl⟩ := H5.out.facts
        dsimp only at m5
        go_upto_region 22 with fail
        generalize hw9 : World.setCell _ _ _ = w6
        have hup := H5.out.dps w6 (d + 1) hw9 (by simp)
        have H6 : Hid (RA w6 p r base t ⟨kk, d + 1, f, gg, nn⟩ false hv n) := hup.1
        have F6 := hide (F5.out.trans hup.2)
        clear hw9 hup c0 c1 c2 f1 f2 hl m3 m5 m6 g5 g6 mr gr hrl
        have KX := hide (HKX.out hd6 _ _ _ _ H6.out rfl hgg5 (by show kk ≤ t.size; omega) (by show n ≤ 10000 + 50 * kk; omega))
        go_wp2_with fail
        refine KX.out.mono ?_
        rintro e w7 ⟨hf7, hp7⟩
        obtain ⟨y7, hy7, hz7⟩ := hp7.split
        subst hy7
        have F7 := hide (F6.out.trans hf7)
        have hst : ∃ (bd : Bool) (s7 : RS) (hv7 : Int) (n7 : Nat), RA w7 p r base t s7 bd hv7 n7 ∧ s7.d = d + 1 ∧ n7 ≤ 20000 + 10 * (7 - (d + 1)) + 2 ∧ (bd = true → ∃ s9, parenM t E ⟨k, d, f, g, nm⟩ = .bad s9 ∧ s7.k = s9.k) ∧ (bd = false → ∃ q : Pt, parenM t E ⟨k, d, f, g, nm⟩ = (mustM t s7 41).bind (fun _ s4 => .ok (.wrap q G) { s4 with d := s4.d - 1 }) ∧ hv7 = (wt q : Int) ∧ wt q ≤ 1169230260 ∧ n7 + 50 * kk ≤ n + 50 * s7.k + 1) := by
          rcases hz7 with ⟨q, s7, n7, hbm, ra7, hn7⟩ | ⟨s9, s7, hv7, n7, hbm, hk7, hd7, ra7, hn7⟩
          · have hfe := HFE.out _ _ _ hbm hgg5 (by show kk ≤ t.size; omega)
            have hd7 := (HEI.out _ _ _ hbm hgg5).2.1
            have hs7 := hfe.sz (show kk ≤ t.size by omega)
            have hl7 := hfe.le
            dsimp only at hn7 hl7
            refine ⟨false, s7, _, n7, ra7, hd7, by omega, (fun h => by cases h), fun _ => ⟨q, ?_, rfl, Nat.le_trans hfe.wt (big ht hs7 _ (by omega)), by omega⟩⟩
            rw [HPE.out, HO.out]
            show (E ⟨kk, d + 1, f, gg, nn⟩).bind _ = _
            rw [hbm, Res.bind_ok]
          · dsimp only at hn7 hd7
            refine ⟨true, s7, hv7, n7, ra7, hd7, by omega, (fun _ => ⟨s9, ?_, hk7⟩), (fun h => by cases h)⟩
            rw [HPE.out, HO.out]
            show (E ⟨kk, d + 1, f, gg, nn⟩).bind _ = _
            rw [hbm]
            rfl
        obtain ⟨bd, s7, hv7, n7, ra7, hd7, hn7, hbad7, hgood7⟩ := hst
        have H7 := hide ra7
        have HD7 := hide hd7
        have HBAD7 := hide hbad7
        have HGOOD7 := hide hgood7
        clear KX hf7 hp7 hz7 ra7 hbad7 hgood7 HO
        obtain ⟨m3, m5, m6, g5, g6, mr, gr, hrl⟩ := H7.out.more
        have hl := H7.out.rk.lt
        replace m5 : w7.cell? ⟨p, 5, none⟩ = some (.int .i64 ((d : Int) + 1)) := by rw [m5, hd7]; simp
        clear hd7
        have hdw : IntKind.i64.wrap ((d : Int) + 1 - 1) = (d : Int) := by rw [IntKind.wrap_i64]; omega
        go_upto_region 25 with fail
        generalize hw9 : World.setCell _ _ _ = w8
        have hup := H7.out.dps w8 d hw9 (by first | rfl | simp | omega)
        have H8 := hide hup.1
        have F8 := hide (F7.out.trans hup.2)
        clear hw9 hup m3 m5 m6 g5 g6 mr gr hrl hl
        have KE := hide (eats_gen 41 H8.out ht)
        go_wp2_with fail
        refine KE.out.mono ?_
        rintro e w9 ⟨rfl, fr9, hE⟩
        have F9 := hide (F8.out.trans fr9)
        have hst : ∃ (bd : Bool) (s9 : RS), RA w9 p r base t s9 bd hv7 n7 ∧ s9.d = d ∧ (bd = true → ∃ s', parenM t E ⟨k, d, f, g, nm⟩ = .bad s' ∧ s9.k = s'.k) ∧ (bd = false → ∃ q : Pt, parenM t E ⟨k, d, f, g, nm⟩ = .ok (.wrap q G) s9 ∧ hv7 = (wt q : Int) ∧ wt q ≤ 1169230260 ∧ n7 + 49 + 50 * kk ≤ n + 50 * s9.k) := by
          have hsd : seesM t { s7 with d := d } 41 = seesM t s7 41 := rfl
          rcases hE with ⟨hb, hs, ra9⟩ | ⟨hb, ra9⟩
          · obtain ⟨q, a1, a2, a3, a4⟩ := HGOOD7.out hb
            refine ⟨false, _, ra9, rfl, (fun h => by cases h), fun _ => ⟨q, ?_, a2, a3, by show n7 + 49 + 50 * kk ≤ n + 50 * (s7.k + 1); omega⟩⟩
            rw [a1]
            unfold mustM
            rw [if_pos (by rw [← hsd]; exact hs), Res.bind_ok]
            show Res.ok _ { s7.up with d := s7.d - 1 } = _
            rw [HD7.out]
            rfl
          · refine ⟨true, _, ra9, rfl, fun _ => ?_, (fun h => by cases h)⟩
            cases bd with
            | true => exact HBAD7.out rfl
            | false =>
              obtain ⟨q, a1, a2, a3, a4⟩ := HGOOD7.out rfl
              refine ⟨s7, ?_, rfl⟩
              rw [a1]
              unfold mustM
              rw [if_neg]
              · rfl
              · rcases hb with hb | hb
                · cases hb
                · rw [← hsd, hb]; simp
        obtain ⟨bd9, s9, ra9, hd9, hbad9, hgood9⟩ := hst
        have H9 := hide ra9
        have HD9 := hide hd9
        have HBAD9 := hide hbad9
        have HGOOD9 := hide hgood9
        clear KE hE fr9 ra9 hd9 hbad9 hgood9 HBAD7 HGOOD7
        obtain ⟨m3, m5, m6, g5, g6, mr, gr, hrl⟩ := H9.out.more
        have hl := H9.out.rk.lt
        obtain ⟨hvx, hhvx⟩ : ∃ x, x = IntKind.i64.wrap (hv7 + 1) := ⟨_, rfl⟩
        have HHVX := hide hhvx
        go_upto_region 27 with fail
        generalize hw9 : World.setCell _ _ _ = wA
        have hup := H9.out.hvs wA hw9
        have HA := hide hup.1
        have FA := hide (F9.out.trans hup.2)
        clear hw9 hup m3 m5 m6 g5 g6 mr gr hrl hl
        have hG0 : (0 : Int) < (G : Int) := by omega
        go_wp2_with fail
        refine (node_ex 7 _ 0 _ false noB rfl HA.out (by omega)).mono ?_
        rintro e wB ⟨rfl, hB, frB⟩
        have HB := hide hB
        have FB := hide (FA.out.trans frB)
        clear hB frB
        go_wp2_with fail
        go_ret
        cases bd9 with
        | false =>
          obtain ⟨q, a1, a2, a3, a4⟩ := HGOOD9.out rfl
          refine ⟨FB.out, RdPost.mkOk a1 ?_ HB.out (by show _ + 40 + 50 * k ≤ n + 50 * s9.k + 0; omega)⟩
          rw [a2, IntWalk.wrap64_in _ (by omega)]
          show ((wt q : Int) + 1) = ((wt q + 1 : Nat) : Int)
          omega
        | true =>
          obtain ⟨s', a1, a2⟩ := HBAD9.out rfl
          exact ⟨FB.out, RdPost.mkBad a1 a2 HD9.out HB.out (by show _ ≤ 20000 + 10 * (7 - d) + 0; omega)⟩
    · have hcs : (x ≠ 80) ∨ (x = 80 ∧ ¬ g < 5) := by omega
      have KE := hide (eats_gen 58 H4.out ht)
      have hO : openingM t ⟨k + 1, d, f, g, nm⟩ = if seesM t ⟨k + 2, d, f, g, nm⟩ 58 then .ok 0 ⟨k + 3, d, f, g, nm⟩ else .bad ⟨k + 2, d, f, g, nm⟩ := by
        rw [HOP.out]
        show (if seesM t ⟨k + 2, d, f, g, nm⟩ 58 = true then _ else _) = _
        by_cases h58 : seesM t ⟨k + 2, d, f, g, nm⟩ 58 = true
        · rw [if_pos h58, if_pos h58]; rfl
        · rw [if_neg h58, if_neg h58]
          by_cases h5 : g = 5
          · rw [if_pos (show g = 5 from h5)]; rfl
          · rw [if_neg (show ¬ g = 5 from h5)]
            show (mustM t ⟨k + 2, d, f, g, nm⟩ 80).bind _ = _
            unfold mustM
            rw [if_neg]
            · rfl
            · rw [HS80.out]; simp; omega
      have HO0 := hide hO
      clear hO hP HOP HS80
      rcases hcs with a | ⟨a, a'⟩
      case' inl =>
        have q80 : ((x : Int) == 80) = false := by rw [beq_eq_false_iff_ne]; omega
      case' inr =>
        have q80 : ((x : Int) == 80) = true := by rw [a]; rfl
        have hgl : ¬ (g : Int) < 5 := by omega
        clear a
      all_goals
        go_wp2_with fail
        refine KE.out.mono ?_
        rintro e w5 ⟨rfl, fr5, hE5⟩
        have F5 := hide (F4.out.trans fr5)
        rcases hE5 with ⟨_, hs, ra5⟩ | ⟨hs, ra5⟩
        · have hkl3 := sees_ltk hs
          dsimp only at hkl3
          obtain ⟨kk, hkk0⟩ : ∃ x, x = k + 3 := ⟨_, rfl⟩
          obtain ⟨G, hG⟩ : ∃ x : Nat, x = 0 := ⟨_, rfl⟩
          obtain ⟨gg, hgg0⟩ : ∃ x, x = g := ⟨_, rfl⟩
          obtain ⟨nn, hnn0⟩ : ∃ x, x = nm := ⟨_, rfl⟩
          have HO : Hid (openingM t ⟨k + 1, d, f, g, nm⟩ = .ok G ⟨kk, d, f, gg, nn⟩) := by
            show _ = _
            rw [HO0.out, if_pos hs, hkk0, hG, hgg0, hnn0]
          have H5 : Hid (RA w5 p r base t ⟨kk, d, f, gg, nn⟩ false hv n) := by rw [hkk0, hgg0, hnn0]; exact ra5
          have hgg5 : gg ≤ 5 := by omega
          have hkk : k + 1 ≤ kk := by omega
          have hkk2 : kk ≤ t.size := by omega
          have HG0 := hide hG
          clear hkk0 hgg0 hnn0 hG fr5 ra5 hs KE HO0 c0 c1 c2 f1 f2 hl m3 m5 m6 g5 g6 mr gr hrl
          obtain ⟨m3, m5, m6, g5, g6, mr, gr, hrl⟩ := H5.out.more
          obtain ⟨c0, c1, c2, f1, f2, hl⟩ := H5.out.facts
          dsimp only at m5
          go_upto_region 22 with fail
          generalize hw9 : World.setCell _ _ _ = w6
          have hup := H5.out.dps w6 (d + 1) hw9 (by simp)
          have H6 : Hid (RA w6 p r base t ⟨kk, d + 1, f, gg, nn⟩ false hv n) := hup.1
          have F6 := hide (F5.out.trans hup.2)
          clear hw9 hup c0 c1 c2 f1 f2 hl m3 m5 m6 g5 g6 mr gr hrl
          have KX := hide (HKX.out hd6 _ _ _ _ H6.out rfl hgg5 (by show kk ≤ t.size; omega) (by show n ≤ 10000 + 50 * kk; omega))
          go_wp2_with fail
          refine KX.out.mono ?_
          rintro e w7 ⟨hf7, hp7⟩
          obtain ⟨y7, hy7, hz7⟩ := hp7.split
          subst hy7
          have F7 := hide (F6.out.trans hf7)
          have hst : ∃ (bd : Bool) (s7 : RS) (hv7 : Int) (n7 : Nat), RA w7 p r base t s7 bd hv7 n7 ∧ s7.d = d + 1 ∧ n7 ≤ 20000 + 10 * (7 - (d + 1)) + 2 ∧ (bd = true → ∃ s9, parenM t E ⟨k, d, f, g, nm⟩ = .bad s9 ∧ s7.k = s9.k) ∧ (bd = false → ∃ q : Pt, parenM t E ⟨k, d, f, g, nm⟩ = (mustM t s7 41).bind (fun _ s4 => .ok (.wrap q G) { s4 with d := s4.d - 1 }) ∧ hv7 = (wt q : Int) ∧ wt q ≤ 1169230260 ∧ n7 + 50 * kk ≤ n + 50 * s7.k + 1) := by
            rcases hz7 with ⟨q, s7, n7, hbm, ra7, hn7⟩ | ⟨s9, s7, hv7, n7, hbm, hk7, hd7, ra7, hn7⟩
            · have hfe := HFE.out _ _ _ hbm hgg5 (by show kk ≤ t.size; omega)
              have hd7 := (HEI.out _ _ _ hbm hgg5).2.1
              have hs7 := hfe.sz (show kk ≤ t.size by omega)
              have hl7 := hfe.le
              dsimp only at hn7 hl7
              refine ⟨false, s7, _, n7, ra7, hd7, by omega, (fun h => by cases h), fun _ => ⟨q, ?_, rfl, Nat.le_trans hfe.wt (big ht hs7 _ (by omega)), by omega⟩⟩
              rw [HPE.out, HO.out]
              show (E ⟨kk, d + 1, f, gg, nn⟩).bind _ = _
              rw [hbm, Res.bind_ok]
            · dsimp only at hn7 hd7
              refine ⟨true, s7, hv7, n7, ra7, hd7, by omega, (fun _ => ⟨s9, ?_, hk7⟩), (fun h => by cases h)⟩
              rw [HPE.out, HO.out]
              show (E ⟨kk, d + 1, f, gg, nn⟩).bind _ = _
              rw [hbm]
              rfl
          obtain ⟨bd, s7, hv7, n7, ra7, hd7, hn7, hbad7, hgood7⟩ := hst
          have H7 := hide ra7
          have HD7 := hide hd7
          have HBAD7 := hide hbad7
          have HGOOD7 := hide hgood7
          clear KX hf7 hp7 hz7 ra7 hbad7 hgood7 HO
          obtain ⟨m3, m5, m6, g5, g6, mr, gr, hrl⟩ := H7.out.more
          have hl := H7.out.rk.lt
          replace m5 : w7.cell? ⟨p, 5, none⟩ = some (.int .i64 ((d : Int) + 1)) := by rw [m5, hd7]; simp
          clear hd7
          have hdw : IntKind.i64.wrap ((d : Int) + 1 - 1) = (d : Int) := by rw [IntKind.wrap_i64]; omega
          go_upto_region 25 with fail
          generalize hw9 : World.setCell _ _ _ = w8
          have hup := H7.out.dps w8 d hw9 (by first | rfl | simp | omega)
          have H8 := hide hup.1
          have F8 := hide (F7.out.trans hup.2)
          clear hw9 hup m3 m5 m6 g5 g6 mr gr hrl hl
          have KE := hide (eats_gen 41 H8.out ht)
          go_wp2_with fail
          refine KE.out.mono ?_
          rintro e w9 ⟨rfl, fr9, hE⟩
          have F9 := hide (F8.out.trans fr9)
          have hst : ∃ (bd : Bool) (s9 : RS), RA w9 p r base t s9 bd hv7 n7 ∧ s9.d = d ∧ (bd = true → ∃ s', parenM t E ⟨k, d, f, g, nm⟩ = .bad s' ∧ s9.k = s'.k) ∧ (bd = false → ∃ q : Pt, parenM t E ⟨k, d, f, g, nm⟩ = .ok (.wrap q G) s9 ∧ hv7 = (wt q : Int) ∧ wt q ≤ 1169230260 ∧ n7 + 49 + 50 * kk ≤ n + 50 * s9.k) := by
            have hsd : seesM t { s7 with d := d } 41 = seesM t s7 41 := rfl
            rcases hE with ⟨hb, hs, ra9⟩ | ⟨hb, ra9⟩
            · obtain ⟨q, a1, a2, a3, a4⟩ := HGOOD7.out hb
              refine ⟨false, _, ra9, rfl, (fun h => by cases h), fun _ => ⟨q, ?_, a2, a3, by show n7 + 49 + 50 * kk ≤ n + 50 * (s7.k + 1); omega⟩⟩
              rw [a1]
              unfold mustM
              rw [if_pos (by rw [← hsd]; exact hs), Res.bind_ok]
              show Res.ok _ { s7.up with d := s7.d - 1 } = _
              rw [HD7.out]
              rfl
            · refine ⟨true, _, ra9, rfl, fun _ => ?_, (fun h => by cases h)⟩
              cases bd with
              | true => exact HBAD7.out rfl
              | false =>
                obtain ⟨q, a1, a2, a3, a4⟩ := HGOOD7.out rfl
                refine ⟨s7, ?_, rfl⟩
                rw [a1]
                unfold mustM
                rw [if_neg]
                · rfl
                · rcases hb with hb | hb
                  · cases hb
                  · rw [← hsd, hb]; simp
          obtain ⟨bd9, s9, ra9, hd9, hbad9, hgood9⟩ := hst
          have H9 := hide ra9
          have HD9 := hide hd9
          have HBAD9 := hide hbad9
          have HGOOD9 := hide hgood9
          clear KE hE fr9 ra9 hd9 hbad9 hgood9 HBAD7 HGOOD7
          obtain ⟨m3, m5, m6, g5, g6, mr, gr, hrl⟩ := H9.out.more
          have hl := H9.out.rk.lt
          obtain ⟨hvx, hhvx⟩ : ∃ x, x = IntKind.i64.wrap (hv7 + 1) := ⟨_, rfl⟩
          have HHVX := hide hhvx
          go_upto_region 27 with fail
          generalize hw9 : World.setCell _ _ _ = wA
          have hup := H9.out.hvs wA hw9
          have HA := hide hup.1
          have FA := hide (F9.out.trans hup.2)
          clear hw9 hup m3 m5 m6 g5 g6 mr gr hrl hl
          go_wp2_with fail
          go_ret
          cases bd9 with
          | false =>
            obtain ⟨q, a1, a2, a3, a4⟩ := HGOOD9.out rfl
            refine ⟨FA.out, RdPost.mkOk a1 ?_ HA.out (by show _ + 40 + 50 * k ≤ n + 50 * s9.k + 0; omega)⟩
            rw [a2, IntWalk.wrap64_in _ (by omega)]
            show ((wt q : Int) + 1) = ((wt q + 1 : Nat) : Int)
            omega
          | true =>
            obtain ⟨s', a1, a2⟩ := HBAD9.out rfl
            exact ⟨FA.out, RdPost.mkBad a1 a2 HD9.out HA.out (by show _ ≤ 20000 + 10 * (7 - d) + 0; omega)⟩
        · have H5 := hide ra5
          have HB : Hid (parenM t E ⟨k, d, f, g, nm⟩ = .bad ⟨k + 2, d + 1, f, g, nm⟩) := by
            show _ = _
            rw [HPE.out, HO0.out, if_neg]
            · rfl
            · rcases hs with h | h
              · cases h
              · rw [h]; simp
          clear hs ra5 fr5 KE HO0 c0 c1 c2 f1 f2 hl m3 m5 m6 g5 g6 mr gr hrl
          obtain ⟨c0, c1, c2, f1, f2, hl⟩ := H5.out.facts
          go_wp2_with fail
          go_ret
          exact ⟨F5.out, RdPost.mkBad (s'' := ⟨k + 2, d, f, g, nm⟩) HB.out rfl rfl H5.out (by show _ ≤ 20000 + 10 * (7 - d) + 0; omega)⟩
  · have q63 : ((c : Int) == 63) = false := by rw [beq_eq_false_iff_ne]; omega
    have HOP := hide (opening_p (t := t) (s := ⟨k + 1, d, f, g, nm⟩) (by rw [HS63.out]; exact decide_eq_false h63))
    dsimp only at HOP
    by_cases hg : g = 5
    · have hgl : (5 : Int) ≤ (g : Int) := by omega
      have HB : Hid (parenM t E ⟨k, d, f, g, nm⟩ = .bad ⟨k + 1, d + 1, f, g, nm⟩) := by
        show _ = _
        rw [HPE.out, HOP.out, if_pos hg]
        rfl
      clear hg HOP
      go_wp2_with fail
      refine (fail_any H2.out).mono ?_
      rintro e w5 ⟨rfl, h5, ks5, eb5⟩
      have F5 := hide (F2.out.trans ⟨ks5, eb5⟩)
      have H5 := hide h5
      clear h5 ks5 eb5
      go_wp2_with fail
      go_ret
      exact ⟨F5.out, RdPost.mkBad (s'' := ⟨k + 1, d, f, g, nm⟩) HB.out rfl rfl H5.out (by show _ ≤ 20000 + 10 * (7 - d) + 0; omega)⟩
    · have hgl : ¬ (5 : Int) ≤ (g : Int) := by omega
      have HO : Hid (openingM t ⟨k + 1, d, f, g, nm⟩ = .ok (g + 1) ⟨k + 1, d, f, g + 1, nm⟩) := by
        show _ = _
        rw [HOP.out, if_neg hg]
      clear HOP
      go_upto_region 17 with fail
      generalize hw9 : World.setCell _ _ _ = w1'
      obtain ⟨hrm, hfrg⟩ := H2.out.grp w1' hw9 (by simp)
      have F1' := hide (F2.out.trans hfrg)
      clear hw9 hfrg
      clear c0 c1 c2 f1 f2 hl m3 m5 m6 g5 g6 mr gr hrl
      obtain ⟨av, pn, m', cn, xs, ns, hrm⟩ := hrm
      clear F1 H1
      obtain ⟨w1, rfl⟩ : ∃ x, x = w1' := ⟨_, rfl⟩
      have F1 := F1'
      have HRM0 := hide hrm
      have hm5 : m' = g := hrm.lm.trans hrm.len
      obtain ⟨m0, hm0⟩ : ∃ x, x = m := ⟨_, rfl⟩
      have HM0 := hide hm0
      rw [← hm0] at HFE
      have hm7 : m0 ≤ 7 := by rw [hm0]; exact hm
      clear hm hm0 HM0
      clear m
      obtain ⟨m, hmm'⟩ : ∃ x, x = m' := ⟨_, rfl⟩
      subst hmm'
      have HRM := hide hrm
      obtain ⟨ys, hys⟩ : ∃ ys, ys = ns.map Value.string := ⟨_, rfl⟩
      have HYS := hide hys
      have HMM := hide hrm.lm
      have HNM := hide (nm_none hrm.nm)
      have HRW : Hid (w1.ownsRow base 9 1 (.slice pn m cn) m ys) := by rw [hys]; exact hrm.rn
      have r0 : w1.cell? ⟨p, 3, none⟩ = some (.pointer (some ⟨r, 0, none⟩)) := hrm.bk.all.1 3
      have s0 : w1.cell? ⟨r, 3, none⟩ = some (.slice pn m cn) := hrm.br.all.1 3
      have s2 : w1.cell? ⟨r, 2, none⟩ = some (.int .i64 ((g : Int) + 1)) := hrm.br.all.1 2
      have hpl := hrm.bk.lt
      have hrl := hrm.br.lt
      have hbw1 := hrm.bw
      have hm6 : m ≤ 5 := by omega
      clear hrm hys hm5 HRM0
      go_upto_region 18 with fail
      clear s2
      refine wp_region_J (by kernel_rfl) ?_
      refine wpAny_take (i := 0) (v := ?_) rfl (by kernel_rfl) (by kernel_rfl) (by kernel_rfl) (fun _ _ _ h => h) (Or.inl ⟨by rfl, ?_⟩) ?_
      rotate_left
      · intro w'
        go_simp
        try with_reducible rfl
      simp only [Act.put, List.setIfInBounds_toArray, List.set_cons_zero, List.set_cons_succ, List.getElem_toArray, List.getElem_cons_zero, List.getElem_cons_succ, List.replicate, Array.replicate, List.size_toArray, List.length_cons, List.length_nil]
      refine wpAny_take (i := 1) (v := ?_) rfl (by kernel_rfl) (by kernel_rfl) (by kernel_rfl) (fun _ _ _ h => h) (Or.inl ⟨by rfl, ?_⟩) ?_
      rotate_left
      · intro w'
        go_simp
        try with_reducible rfl
      simp only [Act.put, List.setIfInBounds_toArray, List.set_cons_zero, List.set_cons_succ, List.getElem_toArray, List.getElem_cons_zero, List.getElem_cons_succ, List.replicate, Array.replicate, List.size_toArray, List.length_cons, List.length_nil]
      refine wpAny_take (i := 2) (v := ?_) rfl (by kernel_rfl) (by kernel_rfl) (by kernel_rfl) (fun _ _ _ h => h) (Or.inl ⟨by rfl, ?_⟩) ?_
      rotate_left
      · intro w'
        go_simp
        try with_reducible rfl
      simp only [Act.put, List.setIfInBounds_toArray, List.set_cons_zero, List.set_cons_succ, List.getElem_toArray, List.getElem_cons_zero, List.getElem_cons_succ, List.replicate, Array.replicate, List.size_toArray, List.length_cons, List.length_nil]
      refine wpAny_take (i := 4) (v := ?_) rfl (by kernel_rfl) (by kernel_rfl) (by kernel_rfl) (fun _ _ _ h => h) (Or.inl ⟨by rfl, ?_⟩) ?_
      rotate_left
      · intro w'
        go_simp
        try with_reducible rfl
      simp only [Act.put, List.setIfInBounds_toArray, List.set_cons_zero, List.set_cons_succ, List.getElem_toArray, List.getElem_cons_zero, List.getElem_cons_succ, List.replicate, Array.replicate, List.size_toArray, List.length_cons, List.length_nil]
      refine wpAny_take (i := 5) (v := ?_) rfl (by kernel_rfl) (by kernel_rfl) (by kernel_rfl) (fun _ _ _ h => h) (Or.inl ⟨by rfl, ?_⟩) ?_
      rotate_left
      · intro w'
        go_simp
        try with_reducible rfl
      simp only [Act.put, List.setIfInBounds_toArray, List.set_cons_zero, List.set_cons_succ, List.getElem_toArray, List.getElem_cons_zero, List.getElem_cons_succ, List.replicate, Array.replicate, List.size_toArray, List.length_cons, List.length_nil]
      refine wpAny_take (i := 6) (v := ?_) rfl (by kernel_rfl) (by kernel_rfl) (by kernel_rfl) (fun _ _ _ h => h) (Or.inl ⟨by rfl, ?_⟩) ?_
      rotate_left
      · intro w'
        go_simp
        try with_reducible rfl
      simp only [Act.put, List.setIfInBounds_toArray, List.set_cons_zero, List.set_cons_succ, List.getElem_toArray, List.getElem_cons_zero, List.getElem_cons_succ, List.replicate, Array.replicate, List.size_toArray, List.length_cons, List.length_nil]
      refine wpAny_of_J (S := (fun oi w' => oi < 15 → w'.cell? ⟨p, 3, none⟩ = some (.pointer (some ⟨r, 0, none⟩)) ∧ w'.cell? ⟨r, 3, none⟩ = some (.slice pn m cn))) _ _ _ _ ?_
      refine wpAnyJ_take (i := 3) (T := (fun w' => w'.cell? ⟨p, 3, none⟩ = some (.pointer (some ⟨r, 0, none⟩)) ∧ w'.cell? ⟨r, 3, none⟩ = some (.slice pn m cn))) (v := ?_) (fun oi => decide (oi < 15)) rfl (by kernel_rfl) (by kernel_rfl) (by kernel_rfl) (by kernel_rfl) (fun oi w' hj h => h (by simpa using hj)) (fun w' h _ => h) (fun _ _ _ h => h) ⟨r0, s0⟩ (Or.inl ⟨by rfl, ?_⟩) ?_
      rotate_left
      · intro w' hSw
        obtain ⟨f1, f2⟩ := hSw
        go_simp
        try with_reducible rfl
      simp only [Act.put, List.setIfInBounds_toArray, List.set_cons_zero, List.set_cons_succ, List.getElem_toArray, List.getElem_cons_zero, List.getElem_cons_succ, List.replicate, Array.replicate, List.size_toArray, List.length_cons, List.length_nil]
      refine wpAnyJ_take (i := 7) (T := (fun w' => w'.cell? ⟨p, 3, none⟩ = some (.pointer (some ⟨r, 0, none⟩)) ∧ w'.cell? ⟨r, 3, none⟩ = some (.slice pn m cn))) (v := ?_) (fun oi => decide (oi < 15)) rfl (by kernel_rfl) (by kernel_rfl) (by kernel_rfl) (by kernel_rfl) (fun oi w' hj h => h (by simpa using hj)) (fun w' h _ => h) (fun _ _ _ h => h) ⟨r0, s0⟩ (Or.inl ⟨by rfl, ?_⟩) ?_
      rotate_left
      · intro w' hSw
        obtain ⟨f1, f2⟩ := hSw
        go_simp
        try with_reducible rfl
      simp only [Act.put, List.setIfInBounds_toArray, List.set_cons_zero, List.set_cons_succ, List.getElem_toArray, List.getElem_cons_zero, List.getElem_cons_succ, List.replicate, Array.replicate, List.size_toArray, List.length_cons, List.length_nil]
      refine wpAnyJ_take (i := 8) (T := (fun w' => w'.cell? ⟨p, 3, none⟩ = some (.pointer (some ⟨r, 0, none⟩)) ∧ w'.cell? ⟨r, 3, none⟩ = some (.slice pn m cn))) (v := ?_) (fun oi => decide (oi < 15)) rfl (by kernel_rfl) (by kernel_rfl) (by kernel_rfl) (by kernel_rfl) (fun oi w' hj h => h (by simpa using hj)) (fun w' h _ => h) (fun _ _ _ h => h) ⟨r0, s0⟩ (Or.inl ⟨by rfl, ?_⟩) ?_
      rotate_left
      · intro w' hSw
        obtain ⟨f1, f2⟩ := hSw
        go_simp
        try with_reducible rfl
      simp only [Act.put, List.setIfInBounds_toArray, List.set_cons_zero, List.set_cons_succ, List.getElem_toArray, List.getElem_cons_zero, List.getElem_cons_succ, List.replicate, Array.replicate, List.size_toArray, List.length_cons, List.length_nil]
      refine wpAnyJ_take (i := 9) (T := (fun w' => w'.cell? ⟨p, 3, none⟩ = some (.pointer (some ⟨r, 0, none⟩)) ∧ w'.cell? ⟨r, 3, none⟩ = some (.slice pn m cn))) (v := ?_) (fun oi => decide (oi < 15)) rfl (by kernel_rfl) (by kernel_rfl) (by kernel_rfl) (by kernel_rfl) (fun oi w' hj h => h (by simpa using hj)) (fun w' h _ => h) (fun _ _ _ h => h) ⟨r0, s0⟩ (Or.inl ⟨by rfl, ?_⟩) ?_
      rotate_left
      · intro w' hSw
        obtain ⟨f1, f2⟩ := hSw
        go_simp
        try with_reducible rfl
      simp only [Act.put, List.setIfInBounds_toArray, List.set_cons_zero, List.set_cons_succ, List.getElem_toArray, List.getElem_cons_zero, List.getElem_cons_succ, List.replicate, Array.replicate, List.size_toArray, List.length_cons, List.length_nil]
      refine wpAnyJ_take (i := 10) (T := (fun w' => w'.cell? ⟨p, 3, none⟩ = some (.pointer (some ⟨r, 0, none⟩)) ∧ w'.cell? ⟨r, 3, none⟩ = some (.slice pn m cn))) (v := ?_) (fun oi => decide (oi < 15)) rfl (by kernel_rfl) (by kernel_rfl) (by kernel_rfl) (by kernel_rfl) (fun oi w' hj h => h (by simpa using hj)) (fun w' h _ => h) (fun _ _ _ h => h) ⟨r0, s0⟩ (Or.inl ⟨by rfl, ?_⟩) ?_
      rotate_left
      · intro w' hSw
        obtain ⟨f1, f2⟩ := hSw
        go_simp
        try with_reducible rfl
      simp only [Act.put, List.setIfInBounds_toArray, List.set_cons_zero, List.set_cons_succ, List.getElem_toArray, List.getElem_cons_zero, List.getElem_cons_succ, List.replicate, Array.replicate, List.size_toArray, List.length_cons, List.length_nil]
      refine wpAnyJ_one (i := 11) rfl rfl (by kernel_rfl) (fun K hK => ?_)
      go_simp
      refine hK.out _ _ (fun _ => ⟨(HRM.out.bk.drew.alloc _).all.1 3, (HRM.out.br.drew.alloc _).all.1 3⟩) ?_
      clear hK K
      simp only [Act.put, List.setIfInBounds_toArray, List.set_cons_zero, List.set_cons_succ, List.getElem_toArray, List.getElem_cons_zero, List.getElem_cons_succ, List.replicate, Array.replicate, List.size_toArray, List.length_cons, List.length_nil]
      refine wpAnyJ_one (i := 12) rfl rfl (by kernel_rfl) (fun K hK => ?_)
      refine wp_append_lies _ (.tmp 105) (.tmp 106) 46 rfl base 9 i0 _ 1 16 Tryz.underlying46 hi hz0 hz1 hz2 rfl (by decide) (.slice pn m cn) m ys rfl ((World.ownsRow.drew HRW.out).alloc _) ⟨w1.heap.size, 0, none⟩ 1 1 [.string ⟨#[]⟩] rfl rfl (cells_new _ _ _) (by simp [Value.oneCell']) (by decide) (by unfold maxLen; omega) (by omega) (by simp; omega) _ rfl ?_
      intro gb cap w3 hown3 hgrow3 hat3 hlt3
      obtain ⟨k3, k4, k5, k6, k7⟩ := HRM.out.mid hgrow3
      refine hK.out _ _ (fun _ => ⟨k3, k4⟩) ?_
      clear hK K
      simp only [Act.put, List.setIfInBounds_toArray, List.set_cons_zero, List.set_cons_succ, List.getElem_toArray, List.getElem_cons_zero, List.getElem_cons_succ, List.replicate, Array.replicate, List.size_toArray, List.length_cons, List.length_nil]
      refine wpAnyJ_one (i := 13) rfl rfl (by kernel_rfl) (fun K hK => ?_)
      go_simp
      refine hK.out _ _ (fun _ => ⟨k3, k4⟩) ?_
      clear hK K
      simp only [Act.put, List.setIfInBounds_toArray, List.set_cons_zero, List.set_cons_succ, List.getElem_toArray, List.getElem_cons_zero, List.getElem_cons_succ, List.replicate, Array.replicate, List.size_toArray, List.length_cons, List.length_nil]
      refine wpAnyJ_one (i := 14) rfl rfl (by kernel_rfl) (fun K hK => ?_)
      go_simp
      refine hK.out _ _ (fun _ => ⟨k3, k4⟩) ?_
      clear hK K
      simp only [Act.put, List.setIfInBounds_toArray, List.set_cons_zero, List.set_cons_succ, List.getElem_toArray, List.getElem_cons_zero, List.getElem_cons_succ, List.replicate, Array.replicate, List.size_toArray, List.length_cons, List.length_nil]
      refine wpAnyJ_one (i := 15) rfl rfl (by kernel_rfl) (fun K hK => ?_)
      go_simp
      refine hK.out _ _ (fun h => by omega) ?_
      clear hK K
      refine wpAnyJ_done (by kernel_rfl) ?_ _
      generalize hw4 : World.setCell _ _ _ = w4
      have hfin := HRM.out.fin hgrow3 (by rw [← HYS.out, ← HMM.out]; exact hown3) HNM.out w4 (by rw [← HMM.out]; exact hw4)
      have H4 := hide hfin.1
      have F4 := hide (F1.out.trans hfin.2)
      clear hw4 hfin hown3 hgrow3 hat3 hlt3 k3 k4 k5 k6 k7 r0 s0
      have hw4' : True := trivial
      obtain ⟨kk, hkk0⟩ : ∃ x, x = k + 1 := ⟨_, rfl⟩
      obtain ⟨G, hG⟩ : ∃ x : Nat, x = g + 1 := ⟨_, rfl⟩
      obtain ⟨gg, hgg0⟩ : ∃ x, x = g + 1 := ⟨_, rfl⟩
      obtain ⟨nn, hnn0⟩ : ∃ x, x = nm := ⟨_, rfl⟩
      obtain ⟨w5, hw5⟩ : ∃ x, x = w4 := ⟨_, rfl⟩
      subst hw5
      have HO : Hid (openingM t ⟨k + 1, d, f, g, nm⟩ = .ok G ⟨kk, d, f, gg, nn⟩) := by
        show _ = _
        rw [HO.out, hkk0, hG, hgg0, hnn0]
      have H5 : Hid (RA w5 p r base t ⟨kk, d, f, gg, nn⟩ false hv n) := by rw [hkk0, hgg0, hnn0]; exact H4.out
      have F5 := F4
      have hgg5 : gg ≤ 5 := by omega
      have hkk : k + 1 ≤ kk := by omega
      have hkk2 : kk ≤ t.size := by omega
      have hG1 : 1 ≤ G := by omega
      rw [show ((g : Int) + 1) = (G : Int) by omega]
      clear hkk0 hgg0 hnn0 hG hpl hrl hbw1
      obtain ⟨m3, m5, m6, g5, g6, mr, gr, hrl⟩ := H5.out.more
      obtain ⟨c0, c1, c2, f1, f2, hl⟩ := H5.out.facts
      dsimp only at m5
      go_upto_region 22 with fail
      generalize hw9 : World.setCell _ _ _ = w6
      have hup := H5.out.dps w6 (d + 1) hw9 (by simp)
      have H6 : Hid (RA w6 p r base t ⟨kk, d + 1, f, gg, nn⟩ false hv n) := hup.1
      have F6 := hide (F5.out.trans hup.2)
      clear hw9 hup c0 c1 c2 f1 f2 hl m3 m5 m6 g5 g6 mr gr hrl
      have KX := hide (HKX.out hd6 _ _ _ _ H6.out rfl hgg5 (by show kk ≤ t.size; omega) (by show n ≤ 10000 + 50 * kk; omega))
      go_wp2_with fail
      refine KX.out.mono ?_
      rintro e w7 ⟨hf7, hp7⟩
      obtain ⟨y7, hy7, hz7⟩ := hp7.split
      subst hy7
      have F7 := hide (F6.out.trans hf7)
      have hst : ∃ (bd : Bool) (s7 : RS) (hv7 : Int) (n7 : Nat), RA w7 p r base t s7 bd hv7 n7 ∧ s7.d = d + 1 ∧ n7 ≤ 20000 + 10 * (7 - (d + 1)) + 2 ∧ (bd = true → ∃ s9, parenM t E ⟨k, d, f, g, nm⟩ = .bad s9 ∧ s7.k = s9.k) ∧ (bd = false → ∃ q : Pt, parenM t E ⟨k, d, f, g, nm⟩ = (mustM t s7 41).bind (fun _ s4 => .ok (.wrap q G) { s4 with d := s4.d - 1 }) ∧ hv7 = (wt q : Int) ∧ wt q ≤ 1169230260 ∧ n7 + 50 * kk ≤ n + 50 * s7.k + 1) := by
        rcases hz7 with ⟨q, s7, n7, hbm, ra7, hn7⟩ | ⟨s9, s7, hv7, n7, hbm, hk7, hd7, ra7, hn7⟩
        · have hfe := HFE.out _ _ _ hbm hgg5 (by show kk ≤ t.size; omega)
          have hd7 := (HEI.out _ _ _ hbm hgg5).2.1
          have hs7 := hfe.sz (show kk ≤ t.size by omega)
          have hl7 := hfe.le
          dsimp only at hn7 hl7
          refine ⟨false, s7, _, n7, ra7, hd7, by omega, (fun h => by cases h), fun _ => ⟨q, ?_, rfl, Nat.le_trans hfe.wt (big ht hs7 _ (by omega)), by omega⟩⟩
          rw [HPE.out, HO.out]
          show (E ⟨kk, d + 1, f, gg, nn⟩).bind _ = _
          rw [hbm, Res.bind_ok]
        · dsimp only at hn7 hd7
          refine ⟨true, s7, hv7, n7, ra7, hd7, by omega, (fun _ => ⟨s9, ?_, hk7⟩), (fun h => by cases h)⟩
          rw [HPE.out, HO.out]
          show (E ⟨kk, d + 1, f, gg, nn⟩).bind _ = _
          rw [hbm]
          rfl
      obtain ⟨bd, s7, hv7, n7, ra7, hd7, hn7, hbad7, hgood7⟩ := hst
      have H7 := hide ra7
      have HD7 := hide hd7
      have HBAD7 := hide hbad7
      have HGOOD7 := hide hgood7
      clear KX hf7 hp7 hz7 ra7 hbad7 hgood7 HO
      obtain ⟨m3, m5, m6, g5, g6, mr, gr, hrl⟩ := H7.out.more
      have hl := H7.out.rk.lt
      replace m5 : w7.cell? ⟨p, 5, none⟩ = some (.int .i64 ((d : Int) + 1)) := by rw [m5, hd7]; simp
      clear hd7
      have hdw : IntKind.i64.wrap ((d : Int) + 1 - 1) = (d : Int) := by rw [IntKind.wrap_i64]; omega
      go_upto_region 25 with fail
      generalize hw9 : World.setCell _ _ _ = w8
      have hup := H7.out.dps w8 d hw9 (by first | rfl | simp | omega)
      have H8 := hide hup.1
      have F8 := hide (F7.out.trans hup.2)
      clear hw9 hup m3 m5 m6 g5 g6 mr gr hrl hl
      have KE := hide (eats_gen 41 H8.out ht)
      go_wp2_with fail
      refine KE.out.mono ?_
      rintro e w9 ⟨rfl, fr9, hE⟩
      have F9 := hide (F8.out.trans fr9)
      have hst : ∃ (bd : Bool) (s9 : RS), RA w9 p r base t s9 bd hv7 n7 ∧ s9.d = d ∧ (bd = true → ∃ s', parenM t E ⟨k, d, f, g, nm⟩ = .bad s' ∧ s9.k = s'.k) ∧ (bd = false → ∃ q : Pt, parenM t E ⟨k, d, f, g, nm⟩ = .ok (.wrap q G) s9 ∧ hv7 = (wt q : Int) ∧ wt q ≤ 1169230260 ∧ n7 + 49 + 50 * kk ≤ n + 50 * s9.k) := by
        have hsd : seesM t { s7 with d := d } 41 = seesM t s7 41 := rfl
        rcases hE with ⟨hb, hs, ra9⟩ | ⟨hb, ra9⟩
        · obtain ⟨q, a1, a2, a3, a4⟩ := HGOOD7.out hb
          refine ⟨false, _, ra9, rfl, (fun h => by cases h), fun _ => ⟨q, ?_, a2, a3, by show n7 + 49 + 50 * kk ≤ n + 50 * (s7.k + 1); omega⟩⟩
          rw [a1]
          unfold mustM
          rw [if_pos (by rw [← hsd]; exact hs), Res.bind_ok]
          show Res.ok _ { s7.up with d := s7.d - 1 } = _
          rw [HD7.out]
          rfl
        · refine ⟨true, _, ra9, rfl, fun _ => ?_, (fun h => by cases h)⟩
          cases bd with
          | true => exact HBAD7.out rfl
          | false =>
            obtain ⟨q, a1, a2, a3, a4⟩ := HGOOD7.out rfl
            refine ⟨s7, ?_, rfl⟩
            rw [a1]
            unfold mustM
            rw [if_neg]
            · rfl
            · rcases hb with hb | hb
              · cases hb
              · rw [← hsd, hb]; simp
      obtain ⟨bd9, s9, ra9, hd9, hbad9, hgood9⟩ := hst
      have H9 := hide ra9
      have HD9 := hide hd9
      have HBAD9 := hide hbad9
      have HGOOD9 := hide hgood9
      clear KE hE fr9 ra9 hd9 hbad9 hgood9 HBAD7 HGOOD7
      obtain ⟨m3, m5, m6, g5, g6, mr, gr, hrl⟩ := H9.out.more
      have hl := H9.out.rk.lt
      obtain ⟨hvx, hhvx⟩ : ∃ x, x = IntKind.i64.wrap (hv7 + 1) := ⟨_, rfl⟩
      have HHVX := hide hhvx
      go_upto_region 27 with fail
      generalize hw9 : World.setCell _ _ _ = wA
      have hup := H9.out.hvs wA hw9
      have HA := hide hup.1
      have FA := hide (F9.out.trans hup.2)
      clear hw9 hup m3 m5 m6 g5 g6 mr gr hrl hl
      have hG0 : (0 : Int) < (G : Int) := by omega
      go_wp2_with fail
      refine (node_ex 7 _ 0 _ false noB rfl HA.out (by omega)).mono ?_
      rintro e wB ⟨rfl, hB, frB⟩
      have HB := hide hB
      have FB := hide (FA.out.trans frB)
      clear hB frB
      go_wp2_with fail
      go_ret
      cases bd9 with
      | false =>
        obtain ⟨q, a1, a2, a3, a4⟩ := HGOOD9.out rfl
        refine ⟨FB.out, RdPost.mkOk a1 ?_ HB.out (by show _ + 40 + 50 * k ≤ n + 50 * s9.k + 0; omega)⟩
        rw [a2, IntWalk.wrap64_in _ (by omega)]
        show ((wt q : Int) + 1) = ((wt q + 1 : Nat) : Int)
        omega
      | true =>
        obtain ⟨s', a1, a2⟩ := HBAD9.out rfl
        exact ⟨FB.out, RdPost.mkBad a1 a2 HD9.out HB.out (by show _ ≤ 20000 + 10 * (7 - d) + 0; omega)⟩
end Go.Proofs.YtgmjjhmnchefbaaGreatDoor.G
