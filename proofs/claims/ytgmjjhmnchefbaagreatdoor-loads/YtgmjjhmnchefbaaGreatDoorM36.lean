/- The document's own reader of patterns: an item of a set. -/
import Derived.Test.YtgmjjhmnchefbaaGreatDoorM35
set_option linter.unusedVariables false
set_option linter.unusedSimpArgs false
namespace Go.Proofs.YtgmjjhmnchefbaaGreatDoor.G
open Go.RowKit

def ItemPost (w' : World) (p r base : Nat) (t : ByteArray) (hv : Int) (n : Nat) : Res Cls → Prop
  | .ok _ s' => RA w' p r base t s' false hv n
  | .bad s' => RA w' p r base t s' true hv n
def SetP (e : Ending) : Prop := ∃ cs : List Bool, cs.length = 129 ∧ e = .returned (.agg (sB cs).toArray)
theorem item_first (t : ByteArray) (s : RS) (w3 : World) (p r base : Nat) (hv : Int) (n : Nat) (e : Ending) (h : EndPost w3 p r base t hv n e (endM t (-1) s)) :
    ∃ bd sx cs m, cs.length = 129 ∧ e = .returned (.tuple #[.agg (sB cs).toArray, .int .i64 m]) ∧ RA w3 p r base t sx bd hv n ∧ (bd = true → itemM t s = Res.bad sx) ∧ (bd = false → (m = -1 ∧ ∃ c, itemM t s = Res.ok c sx) ∨ ∃ b : UInt8, m = (b.toNat : Int) ∧ b.toNat < 128 ∧ itemM t s = itemTail t b sx) := by
  have h2 := end_item t s
  cases hE : endM t (-1) s with
  | bad s' =>
    rw [hE] at h h2
    obtain ⟨⟨cs, m, hcs, he, _⟩, hra⟩ := h
    exact ⟨true, s', cs, m, hcs, he, hra, fun _ => h2, fun h => by cases h⟩
  | ok o s' =>
    have hlt := fun c (ho : o = some c) => end_lt (t := t) (low := -1) (s := s) (s' := s') (c := c) (by rw [hE, ho])
    rw [hE] at h h2
    obtain ⟨⟨cs, m, hcs, he, hm⟩, hra⟩ := h
    refine ⟨false, s', cs, m, hcs, he, hra, (fun h => by cases h), fun _ => ?_⟩
    cases o with
    | none => exact .inl ⟨hm, h2⟩
    | some c =>
      obtain ⟨b, hb, h3⟩ := h2
      exact .inr ⟨b, by rw [hb]; exact hm, by rw [hb]; exact hlt c rfl, h3⟩
theorem item_second (t : ByteArray) (s : RS) (b : UInt8) (w3 : World) (p r base : Nat) (hv : Int) (n : Nat) (e : Ending) (hs : seesM t s 45 = true) (h : EndPost w3 p r base t hv n e (endM t (b.toNat : Int) s.up)) :
    ∃ bd sx cs m, cs.length = 129 ∧ e = .returned (.tuple #[.agg (sB cs).toArray, .int .i64 m]) ∧ RA w3 p r base t sx bd hv n ∧ (bd = true → itemTail t b s = Res.bad sx) ∧ (bd = false → m < 128 ∧ ∃ c, itemTail t b s = Res.ok c sx) := by
  have h2 := end_pair t b s.up
  have hT : itemTail t b s = (pairEndM t b s.up).bind fun e s' => .ok (rangeC b.toNat e.toNat) s' := by unfold itemTail; rw [if_pos hs]
  cases hE : endM t (b.toNat : Int) s.up with
  | bad s' =>
    rw [hE] at h h2
    obtain ⟨⟨cs, m, hcs, he, _⟩, hra⟩ := h
    exact ⟨true, s', cs, m, hcs, he, hra, (fun _ => by rw [hT, show pairEndM t b s.up = _ from h2]; rfl), fun h => by cases h⟩
  | ok o s' =>
    have hlt := fun c (ho : o = some c) => end_lt (t := t) (low := (b.toNat : Int)) (s := s.up) (s' := s') (c := c) (by rw [hE, ho])
    rw [hE] at h h2
    obtain ⟨⟨cs, m, hcs, he, hm⟩, hra⟩ := h
    cases o with
    | none => exact absurd h2 id
    | some c =>
      obtain ⟨e', he', h3⟩ := h2
      refine ⟨false, s', cs, m, hcs, he, hra, (fun h => by cases h), fun _ => ⟨by rw [hm]; show (c : Int) < 128; have := hlt c rfl; omega, _, by rw [hT, show pairEndM t b s.up = _ from h3]; rfl⟩⟩
set_option maxHeartbeats 8000000 in
set_option maxRecDepth 100000 in
theorem item_any {w : World} {p r base : Nat} {t : ByteArray} {s0 : RS} {hv : Int} {n : Nat} (h : RA w p r base t s0 false hv n) (ht : t.size ≤ 60) :
    Calls Tryz.prog 133 #[.pointer (some ⟨p, 0, none⟩)] w fun e w' => Fr w w' base ∧ SetP e ∧ ItemPost w' p r base t hv n (itemM t s0) := by
  have H := hide h
  have hbw := h.bw
  clear h
  go_enter Tryz.func133, Tryz.ntmps133
  go_upto_region 1 with fail
  generalize hw2 : World.alloc _ _ = w2
  have hx2 : Ex [] w w2 := by rw [← hw2]; exact (Ex.refl _ _).alloc _
  have hr2 : SB w2 w.heap.size noB := by rw [← hw2]; exact ⟨BK.new _ _, rfl⟩
  have Hw2 := hide (H.out.ex hx2)
  have HRw2 := hide hr2
  have Fw2 := hide (Fr.ex hx2 hbw)
  have KE := hide (end_any (-1) Hw2.out ht)
  clear hw2 hx2 hr2 H
  go_wp2_with fail
  refine KE.out.mono ?_
  rintro e w3 ⟨hf3, hp3⟩
  obtain ⟨bd, sx, cs, m, hcs, rfl, hra3, hbad, hgood⟩ := item_first t s0 w3 p r base hv n e hp3
  have Fw3 := hide (Fw2.out.trans hf3)
  have HRw3 := hide (hf3.ks _ _ HRw2.out)
  have hz3 : w.heap.size < w3.heap.size := HRw3.out.1.lt
  have HBAD := hide hbad
  have HGOOD := hide hgood
  clear KE hf3 hp3 hbad hgood
  obtain ⟨w5, hw7⟩ : ∃ w7, w7 = (w3.alloc (Obj.cells (sB noB).toArray 107)).setRow w3.heap.size (sB cs).toArray := ⟨_, rfl⟩
  obtain ⟨a1, a2, a3, a4, a5⟩ := set_new Fw3.out hra3 hcs hw7 hbw
  have Hw5 := hide a1
  have Fw5 := hide a2
  have HSw5 := hide a3
  have HN5 := hide a4
  have HRw5 := hide (a5 _ _ HRw3.out)
  have HW7 := hide hw7
  obtain ⟨V, hV⟩ : ∃ V, V = sB cs := ⟨_, rfl⟩
  have HIV : Hid ((Tryz.prog.info? 107).map (·.size) = some V.length) := by rw [hV]; exact infoSet hcs
  have HJV : Hid ((Tryz.prog.info? 107).map (·.size) = some V.toArray.size) := by rw [hV]; exact infoSetA hcs
  have HAV : Hid (V.toArray.all (·.oneCell') = true) := by rw [hV]; exact all_plain (sB_plain _)
  have HOV : Hid ((sB noB).toArray.size = V.toArray.size) := by show _ = _; rw [List.size_toArray, List.size_toArray, hV, sB_len, sB_len, hcs]; rfl
  have HVV := hide hV
  rw [← hV] at HW7 ⊢
  clear hw7 a1 a2 a3 a4 a5 hV
  go_upto_region 2 with (refine wpList_store_row rfl 107 _ _ rfl (w3.heap.size) V.toArray rfl rfl 107 _ HN5.out HJV.out HOV.out HAV.out ?_)
  rw [show (w3.alloc (Obj.cells Tryz.zeroCells107 107)).setRow w3.heap.size V.toArray = w5 from HW7.out.symm]
  clear HW7 HN5
  have hltw5 := HSw5.out.1.lt
  clear hra3
  have HRG5 : Hid (World.rangeAt w5 w3.heap.size 0 V) := by rw [HVV.out]; exact HSw5.out.1.rangeL
  obtain ⟨c0, c1, c2, f1, f2, hl⟩ := Hw5.out.facts
  cases bd with
  | true =>
    have HM := hide (HBAD.out rfl)
    clear HBAD HGOOD
    have hfin := ret_frame (cs := cs) Fw5.out HRw5.out Hw5.out (Nat.le_refl _) hbw hcs
    have hl9 := (Fr.setRow (base := base) (cs := cs) HRw5.out hcs hbw).2.2.load
    rw [← HVV.out] at hfin hl9
    have HFIN := hide hfin
    have HL9 := hide hl9
    clear hfin hl9
    go_wp2_with (first | refine wpList_load_mid rfl 107 _ rfl (w3.heap.size) 0 rfl V _ HRG5.out Tryz.underlying107 rfl HIV.out ?_ | refine wpList_store_row rfl 107 _ _ rfl (w.heap.size) V.toArray rfl rfl 107 _ HRw5.out.1 HJV.out HOV.out HAV.out ?_)
    refine bodyPost_ret (results_cell1 rfl rfl HL9.out) rfl ⟨HFIN.out.1, ⟨cs, hcs, by rw [HVV.out]⟩, ?_⟩
    rw [show itemM t s0 = _ from HM.out]
    exact HFIN.out.2
  | false =>
    rcases HGOOD.out rfl with ⟨rfl, hc⟩ | ⟨b, hm, hb128, htl⟩
    · have HM := hide hc
      clear HBAD HGOOD hc
      obtain ⟨cc, hcc⟩ := HM.out
      have hfin := ret_frame (cs := cs) Fw5.out HRw5.out Hw5.out (Nat.le_refl _) hbw hcs
      have hl9 := (Fr.setRow (base := base) (cs := cs) HRw5.out hcs hbw).2.2.load
      rw [← HVV.out] at hfin hl9
      have HFIN := hide hfin
      have HL9 := hide hl9
      clear hfin hl9
      go_wp2_with (first | refine wpList_load_mid rfl 107 _ rfl (w3.heap.size) 0 rfl V _ HRG5.out Tryz.underlying107 rfl HIV.out ?_ | refine wpList_store_row rfl 107 _ _ rfl (w.heap.size) V.toArray rfl rfl 107 _ HRw5.out.1 HJV.out HOV.out HAV.out ?_)
      refine bodyPost_ret (results_cell1 rfl rfl HL9.out) rfl ⟨HFIN.out.1, ⟨cs, hcs, by rw [HVV.out]⟩, ?_⟩
      rw [show itemM t s0 = _ from hcc]
      exact HFIN.out.2
    · have HTL := hide htl
      obtain ⟨B, hB⟩ : ∃ B, B = b.toNat := ⟨_, rfl⟩
      have HB := hide hB
      rw [← hB] at hm hb128
      subst hm
      have hBn : ¬ (B : Int) < 0 := by omega
      clear HBAD HGOOD htl hB
      obtain ⟨c, hc⟩ : ∃ c, c = nextN t sx.k := ⟨_, rfl⟩
      have KN := hide (next_gen Hw5.out)
      rw [← hc] at KN
      have s45 : seesM t sx 45 = decide (c = 45) := by rw [hc]; exact sees_nx (by decide)
      have HS45 := hide s45
      clear hc s45
      go_wp2_with fail
      refine KN.out.mono ?_
      rintro e w6 ⟨rfl, ra6, fr6, hx6⟩
      have Hw6 := hide ra6
      have Fw6 := hide (Fw5.out.trans fr6)
      have HRw6 := hide (fr6.ks _ _ HRw5.out)
      have HSw6 := hide (fr6.ks _ _ HSw5.out)
      have hlt6 := HSw6.out.1.lt
      have HRG6 : Hid (World.rangeAt w6 w3.heap.size 0 V) := by rw [HVV.out]; exact HSw6.out.1.rangeL
      clear ra6 fr6 hx6 KN c0 c1 c2 f1 f2 hl HRG5
      by_cases h45 : c = 45
      rotate_left
      · have q45 : ((c : Int) != 45) = true := by rw [bne_iff_ne]; omega
        have HM : Hid (itemM t s0 = .ok (oneC b.toNat) sx) := by
          show _ = _
          rw [HTL.out]
          unfold itemTail
          rw [if_neg]
          rw [HS45.out]
          simpa using h45
        clear h45 HTL
        have hfin := ret_frame (cs := cs) Fw6.out HRw6.out Hw6.out (Nat.le_refl _) hbw hcs
        have hl9 := (Fr.setRow (base := base) (cs := cs) HRw6.out hcs hbw).2.2.load
        rw [← HVV.out] at hfin hl9
        have HFIN := hide hfin
        have HL9 := hide hl9
        clear hfin hl9
        go_wp2_with (first | refine wpList_load_mid rfl 107 _ rfl (w3.heap.size) 0 rfl V _ HRG6.out Tryz.underlying107 rfl HIV.out ?_ | refine wpList_store_row rfl 107 _ _ rfl (w.heap.size) V.toArray rfl rfl 107 _ HRw6.out.1 HJV.out HOV.out HAV.out ?_)
        refine bodyPost_ret (results_cell1 rfl rfl HL9.out) rfl ⟨HFIN.out.1, ⟨cs, hcs, by rw [HVV.out]⟩, ?_⟩
        rw [show itemM t s0 = _ from HM.out]
        exact HFIN.out.2
      · have q45 : ((c : Int) != 45) = false := by rw [h45]; rfl
        have HSE : Hid (seesM t sx 45 = true) := by show _ = _; rw [HS45.out]; exact decide_eq_true h45
        have hskl := sees_ltk HSE.out
        clear h45
        obtain ⟨c0, c1, c2, f1, f2, hl⟩ := Hw6.out.facts
        go_upto_region 5 with fail
        generalize hw9 : World.setCell _ _ _ = w7
        have hup := Hw6.out.up2 w7 hw9 (by first | rfl | simp)
        have Hw7 := hide hup.1
        have Fw7 := hide (Fw6.out.trans hup.2)
        have HRw7 := hide (hup.2.ks _ _ HRw6.out)
        have HSw7 := hide (hup.2.ks _ _ HSw6.out)
        clear hw9 hup c0 c1 c2 f1 f2 hl HRG6
        have KE := hide (end_any (B : Int) Hw7.out ht)
        go_wp2_with fail
        refine KE.out.mono ?_
        rintro e w8 ⟨hf8, hp8⟩
        rw [show (B : Int) = (b.toNat : Int) by rw [HB.out]] at hp8
        obtain ⟨bd, sy, ds, m2, hds, rfl, hra8, hbad, hgood⟩ := item_second t sx b w8 p r base hv n e HSE.out hp8
        have Fw8 := hide (Fw7.out.trans hf8)
        have HRw8 := hide (hf8.ks _ _ HRw7.out)
        have HSw8 := hide (hf8.ks _ _ HSw7.out)
        have hz8 : w3.heap.size < w8.heap.size := HSw8.out.1.lt
        have HBAD := hide hbad
        have HGOOD := hide hgood
        clear KE hf8 hp8 hbad hgood
        obtain ⟨w9, hw7⟩ : ∃ w7, w7 = (w8.alloc (Obj.cells (sB noB).toArray 107)).setRow w8.heap.size (sB ds).toArray := ⟨_, rfl⟩
        obtain ⟨a1, a2, a3, a4, a5⟩ := set_new Fw8.out hra8 hds hw7 hbw
        have Hw9 := hide a1
        have Fw9 := hide a2
        have HSw9 := hide a3
        have HN5 := hide a4
        have HRw9 := hide (a5 _ _ HRw8.out)
        have HTw9 := hide (a5 _ _ HSw8.out)
        have HW7 := hide hw7
        obtain ⟨U, hU⟩ : ∃ V, V = sB ds := ⟨_, rfl⟩
        have HIU : Hid ((Tryz.prog.info? 107).map (·.size) = some U.length) := by rw [hU]; exact infoSet hds
        have HJU : Hid ((Tryz.prog.info? 107).map (·.size) = some U.toArray.size) := by rw [hU]; exact infoSetA hds
        have HAU : Hid (U.toArray.all (·.oneCell') = true) := by rw [hU]; exact all_plain (sB_plain _)
        have HOU : Hid ((sB noB).toArray.size = U.toArray.size) := by show _ = _; rw [List.size_toArray, List.size_toArray, hU, sB_len, sB_len, hds]; rfl
        have HVU := hide hU
        rw [← hU] at HW7 ⊢
        clear hw7 a1 a2 a3 a4 a5 hU
        go_upto_region 7 with (refine wpList_store_row rfl 107 _ _ rfl (w8.heap.size) U.toArray rfl rfl 107 _ HN5.out HJU.out HOU.out HAU.out ?_)
        rw [show (w8.alloc (Obj.cells Tryz.zeroCells107 107)).setRow w8.heap.size U.toArray = w9 from HW7.out.symm]
        clear HW7 HN5
        have hltw9 := HSw9.out.1.lt
        clear hra8
        go_loopg [7] 129 (fun gk v wr => ∃ (j : Nat) (cs' : List Bool), v = .int .i64 (j : Int) ∧ j + gk = B + 129 ∧ cs'.length = 129 ∧ SB wr w3.heap.size cs' ∧ SB wr w.heap.size noB ∧ RA wr p r base t sy bd hv n ∧ Fr w wr base)
        case atStart => exact ⟨B, cs, rfl, rfl, hcs, HTw9.out, HRw9.out, Hw9.out, Fw9.out⟩
        case round =>
          obtain ⟨j, cs', rfl, hjg, hcs', hsb, hrb, hra, hfr⟩ := hrel
          have HSr := hide hsb
          have HRwr := hide hrb
          have Hwr := hide hra
          have Fwr := hide hfr
          have hltr := hsb.1.lt
          have hltr2 := hrb.1.lt
          have hfz := hsb.1.all.2
          obtain ⟨c0, c1, c2, f1, f2, hl⟩ := Hwr.out.facts
          clear hsb hrb hra hfr
          by_cases hgo : (j : Int) ≤ m2 ∧ bd = false
          · obtain ⟨hjm, rfl⟩ := hgo
            obtain ⟨hm128, _⟩ := HGOOD.out rfl
            have hj128 : (j : Int) < 128 := by omega
            obtain ⟨x, hx1, hcx⟩ := HSr.out.cell j (by omega)
            obtain ⟨w10, hw10⟩ : ∃ w10, wr.setCell ⟨w3.heap.size, j, none⟩ (.bool true) = w10 := ⟨_, rfl⟩
            obtain ⟨a1, a2, a3, a4⟩ := set_touch Fwr.out HSr.out Hwr.out (by omega) hbw hw10
            have HREL := hide (And.intro a1 (And.intro a2 (And.intro a3 (a4 _ _ (by omega) HRwr.out))))
            have HW10 := hide hw10
            clear hx1 a1 a2 a3 a4 hw10
            obtain ⟨gk, rfl⟩ : ∃ x, gk = x + 1 := ⟨gk - 1, by omega⟩
            go_wp2_with fail
            rw [show wr.setCell ⟨w3.heap.size, j, none⟩ (.bool true) = w10 from HW10.out]
            go_roundg gk
            case measure => omega
            case rel => exact ⟨j + 1, _, by simp, by omega, by rw [List.length_set]; exact hcs', HREL.out.2.2.1, HREL.out.2.2.2, HREL.out.1, HREL.out.2.1⟩
          · have hM : (bd = true → itemM t s0 = .bad sy) ∧ (bd = false → ∃ c, itemM t s0 = .ok c sy) := ⟨fun h => by rw [HTL.out]; exact HBAD.out h, fun h => by
              obtain ⟨_, c, hc⟩ := HGOOD.out h
              exact ⟨c, by rw [HTL.out]; exact hc⟩⟩
            have HM := hide hM
            clear hM HBAD HGOOD HTL
            obtain ⟨hrg⟩ : Nonempty (World.rangeAt wr w3.heap.size 0 (sB cs')) := ⟨HSr.out.1.rangeL⟩
            have HRGr := hide hrg
            clear hrg
            have hcsx : (¬ (j : Int) ≤ m2) ∨ ((j : Int) ≤ m2 ∧ bd = true) := by
              by_cases h1 : (j : Int) ≤ m2
              · cases bd
                · exact absurd ⟨h1, rfl⟩ hgo
                · exact .inr ⟨h1, rfl⟩
              · exact .inl h1
            clear hgo
            obtain ⟨T, hT⟩ : ∃ V, V = sB cs' := ⟨_, rfl⟩
            have HIT : Hid ((Tryz.prog.info? 107).map (·.size) = some T.length) := by rw [hT]; exact infoSet hcs'
            have HJT : Hid ((Tryz.prog.info? 107).map (·.size) = some T.toArray.size) := by rw [hT]; exact infoSetA hcs'
            have HAT : Hid (T.toArray.all (·.oneCell') = true) := by rw [hT]; exact all_plain (sB_plain _)
            have HOT : Hid ((sB noB).toArray.size = T.toArray.size) := by show _ = _; rw [List.size_toArray, List.size_toArray, hT, sB_len, sB_len, hcs']; rfl
            have HVT := hide hT
            rw [← hT] at HRGr
            clear hT
            rcases hcsx with hj | ⟨hj, rfl⟩
            · cases bd with
              | true =>
                have HMM := hide (HM.out.1 rfl)
                have hfin := ret_frame (cs := cs') Fwr.out HRwr.out Hwr.out (Nat.le_refl _) hbw hcs'
                have hl9 := (Fr.setRow (base := base) (cs := cs') HRwr.out hcs' hbw).2.2.load
                rw [← HVT.out] at hfin hl9
                have HFIN := hide hfin
                have HL9 := hide hl9
                clear hfin hl9
                go_wp2_with (first | refine wpList_load_mid rfl 107 _ rfl (w3.heap.size) 0 rfl T _ HRGr.out Tryz.underlying107 rfl HIT.out ?_ | refine wpList_store_row rfl 107 _ _ rfl (w.heap.size) T.toArray rfl rfl 107 _ HRwr.out.1 HJT.out HOT.out HAT.out ?_)
                refine bodyPost_ret (results_cell1 rfl rfl HL9.out) rfl ⟨HFIN.out.1, ⟨cs', hcs', by rw [HVT.out]⟩, ?_⟩
                rw [show itemM t s0 = _ from HMM.out]
                exact HFIN.out.2
              | false =>
                obtain ⟨cc, hcc⟩ := HM.out.2 rfl
                have HMM := hide hcc
                clear hcc
                have hfin := ret_frame (cs := cs') Fwr.out HRwr.out Hwr.out (Nat.le_refl _) hbw hcs'
                have hl9 := (Fr.setRow (base := base) (cs := cs') HRwr.out hcs' hbw).2.2.load
                rw [← HVT.out] at hfin hl9
                have HFIN := hide hfin
                have HL9 := hide hl9
                clear hfin hl9
                go_wp2_with (first | refine wpList_load_mid rfl 107 _ rfl (w3.heap.size) 0 rfl T _ HRGr.out Tryz.underlying107 rfl HIT.out ?_ | refine wpList_store_row rfl 107 _ _ rfl (w.heap.size) T.toArray rfl rfl 107 _ HRwr.out.1 HJT.out HOT.out HAT.out ?_)
                refine bodyPost_ret (results_cell1 rfl rfl HL9.out) rfl ⟨HFIN.out.1, ⟨cs', hcs', by rw [HVT.out]⟩, ?_⟩
                rw [show itemM t s0 = _ from HMM.out]
                exact HFIN.out.2
            · have HMM := hide (HM.out.1 rfl)
              have hfin := ret_frame (cs := cs') Fwr.out HRwr.out Hwr.out (Nat.le_refl _) hbw hcs'
              have hl9 := (Fr.setRow (base := base) (cs := cs') HRwr.out hcs' hbw).2.2.load
              rw [← HVT.out] at hfin hl9
              have HFIN := hide hfin
              have HL9 := hide hl9
              clear hfin hl9
              go_wp2_with (first | refine wpList_load_mid rfl 107 _ rfl (w3.heap.size) 0 rfl T _ HRGr.out Tryz.underlying107 rfl HIT.out ?_ | refine wpList_store_row rfl 107 _ _ rfl (w.heap.size) T.toArray rfl rfl 107 _ HRwr.out.1 HJT.out HOT.out HAT.out ?_)
              refine bodyPost_ret (results_cell1 rfl rfl HL9.out) rfl ⟨HFIN.out.1, ⟨cs', hcs', by rw [HVT.out]⟩, ?_⟩
              rw [show itemM t s0 = _ from HMM.out]
              exact HFIN.out.2
end Go.Proofs.YtgmjjhmnchefbaaGreatDoor.G
