/- The document's own reader of patterns: what stands in brackets. -/
import Derived.Test.YtgmjjhmnchefbaaGreatDoorM36
set_option linter.unusedVariables false
set_option linter.unusedSimpArgs false
namespace Go.Proofs.YtgmjjhmnchefbaaGreatDoor.G
open Go.RowKit

theorem item_lt {t : ByteArray} {s s' : RS} {c : Cls} (h : itemM t s = .ok c s') : s.k < s'.k := by
  unfold itemM at h
  split at h
  · next hs =>
    obtain ⟨x, s1, h1, h⟩ := bind_ok h
    have m1 := escape_mv h1
    have m0 := (up_mv (sees_ltk hs)).2
    have l1 := m1.2
    have hk : s.up.k = s.k + 1 := rfl
    split at h
    · have := (itemTail_mv h).le; omega
    · cases h; omega
  · obtain ⟨x, s1, h1, h⟩ := bind_ok h
    have m1 := (plain_mv h1).2
    have := (itemTail_mv h).le
    omega
def itemsR (t : ByteArray) (s : RS) : Res Cls := (itemM t s).bind fun c s3 => itemsM t (t.size + 1) c s3
theorem set_items {t : ByteArray} {s : RS} (h : seesM t s 91 = true) : setM t s = (itemsR t (s.up.took t 94)).bind fun c s4 => .ok (if seesM t s.up 94 then othersC (sing s4.f c) else sing s4.f c) s4 := by
  unfold setM itemsR
  unfold mustM
  rw [if_pos h, Res.bind_ok]
  cases itemM t (s.up.took t 94) with
  | bad s' => rfl
  | ok c s' => rfl
set_option maxHeartbeats 8000000 in
set_option maxRecDepth 100000 in
theorem set_any {w : World} {p r base : Nat} {t : ByteArray} {s : RS} {hv : Int} {n : Nat} (h : RA w p r base t s false hv n) (ht : t.size ≤ 60) (hn : n ≤ 90000) (hs91 : seesM t s 91 = true) :
    Calls Tryz.prog 102 #[.pointer (some ⟨p, 0, none⟩)] w fun e w' => Fr w w' base ∧ (∃ y : Int, e = .returned (.int .i64 y)) ∧ ∃ (bd : Bool) (s' : RS), (bd = true → itemsR t (s.up.took t 94) = .bad s') ∧ (bd = false → ∃ c, itemsR t (s.up.took t 94) = .ok c s') ∧ RA w' p r base t s' bd 1 (n + 1) := by
  have H := hide h
  have hbw := h.bw
  have hkl := sees_ltk hs91
  obtain ⟨RI, hRI⟩ : ∃ RI, itemsR t (s.up.took t 94) = RI := ⟨_, rfl⟩
  have HRI := hide hRI
  rw [hRI]
  clear h hRI hs91
  obtain ⟨k, d, f, g, nm⟩ := s
  dsimp only at hkl
  obtain ⟨c0, c1, c2, f1, f2, hl⟩ := H.out.facts
  go_enter Tryz.func102, Tryz.ntmps102
  go_upto_region 2 with fail
  generalize hw9 : World.setCell _ _ _ = w1
  have hup := H.out.up2 w1 hw9 (by simp)
  have H1 : Hid (RA w1 p r base t ⟨k + 1, d, f, g, nm⟩ false hv n) := hup.1
  have F1 := hide hup.2
  clear hw9 hup c0 c1 c2 f1 f2 hl
  obtain ⟨c, hc⟩ : ∃ c, c = nextN t (k + 1) := ⟨_, rfl⟩
  have KN := hide (next_gen H1.out)
  dsimp only at KN
  rw [← hc] at KN
  have s94 : seesM t ⟨k + 1, d, f, g, nm⟩ 94 = decide (c = 94) := by rw [hc]; exact sees_nx (by decide)
  have HS94 := hide s94
  clear hc s94
  go_wp2_with fail
  refine KN.out.mono ?_
  rintro e w2 ⟨rfl, ra2, fr2, _⟩
  have H2 := hide ra2
  have F2 := hide (F1.out.trans fr2)
  clear ra2 fr2 KN
  by_cases h94 : c = 94
  case pos =>
    have q94 : ((c : Int) == 94) = true := by rw [h94]; rfl
    obtain ⟨k2, hk2⟩ : ∃ x, x = k + 2 := ⟨_, rfl⟩
    have hRI2 : itemsR t ⟨k2, d, f, g, nm⟩ = RI := by
      rw [← HRI.out, hk2]
      show _ = itemsR t (RS.took ⟨k + 1, d, f, g, nm⟩ t 94)
      unfold RS.took
      rw [if_pos (by rw [HS94.out]; exact decide_eq_true h94)]
      rfl
    have hk2t : k2 ≤ t.size := by
      rw [hk2]
      exact sees_ltk (s := ⟨k + 1, d, f, g, nm⟩) (by rw [HS94.out]; exact decide_eq_true h94)
    clear h94
    obtain ⟨c0, c1, c2, f1, f2, hl⟩ := H2.out.facts
    have c1 : w2.cell? ⟨p, 1, none⟩ = some (.int .i64 ((k : Int) + 1)) := by simpa using c1
    go_upto_region 5 with fail
    generalize hw9 : World.setCell _ _ _ = w3
    have hup := H2.out.up2 w3 hw9 (by first | (simp; done) | (simp; omega))
    have H3 : Hid (RA w3 p r base t ⟨k2, d, f, g, nm⟩ false hv n) := by rw [hk2]; exact hup.1
    have F3 := hide (F2.out.trans hup.2)
    clear hw9 hup c0 c1 c2 f1 f2 hl hk2
    have HRI2 := hide hRI2
    clear hRI2 H1 F1 H2 F2 HS94 HRI
    go_upto_region 6 with fail
    generalize hw4 : World.alloc _ _ = w4
    have hx4 : Ex [] w3 w4 := by rw [← hw4]; exact (Ex.refl _ _).alloc _
    obtain ⟨B, hB⟩ : ∃ x, x = w3.heap.size := ⟨_, rfl⟩
    have hr4 : SB w4 B noB := by rw [← hw4, hB]; exact ⟨BK.new _ _, rfl⟩
    have H4 := hide (H3.out.ex hx4)
    have HS4 := hide hr4
    have F4 := hide (F3.out.trans (Fr.ex hx4 (by have := F3.out.eb.size; omega)))
    have hB0 : w.heap.size ≤ B := by rw [hB]; exact F3.out.eb.size
    rw [← hB]
    clear hw4 hx4 hr4 hB H3 F3
    go_wp2_with fail
    go_loopg [5] (t.size + 2) (fun gk v5 wr => ∃ (first bd : Bool) (s' : RS) (cs' : List Bool), v5 = .bool first ∧ cs'.length = 129 ∧ SB wr B cs' ∧ RA wr p r base t s' bd hv n ∧ Fr w wr base ∧ (bd = true → RI = .bad s') ∧ (bd = false → s'.k ≤ t.size ∧ t.size + 1 - s'.k + (if first then 1 else 0) ≤ gk ∧ (first = true → itemsR t s' = RI) ∧ (first = false → ∃ c m, itemsM t (m + 1) c s' = RI ∧ t.size - s'.k ≤ m)))
    case atStart => exact ⟨true, false, ⟨k2, d, f, g, nm⟩, noB, rfl, rfl, HS4.out, H4.out, F4.out, (fun h => by cases h), fun _ => ⟨hk2t, by show t.size + 1 - k2 + 1 ≤ _; omega, fun _ => HRI2.out, fun h => by cases h⟩⟩
    case round =>
      clear HRI2 H4 HS4 F4
      obtain ⟨first, bd, s', cs', rfl, hcs', hsb, hra, hfr, hbad, hgood⟩ := hrel
      have H2 := hide hra
      have F2 := hide hfr
      have HSr := hide hsb
      have HBAD := hide hbad
      have HGOOD := hide hgood
      have hltr := hsb.1.lt
      clear hra hfr hsb hbad hgood
      obtain ⟨c0, c1, c2, f1, f2, hl⟩ := H2.out.facts
      have hcs : (bd = true) ∨ (bd = false ∧ first = true) ∨ (bd = false ∧ first = false) := by cases bd <;> cases first <;> simp
      rcases hcs with rfl | ⟨rfl, rfl⟩ | ⟨rfl, rfl⟩
      · -- it has failed
        have HX : Hid (∀ {w5 : World}, ((true = false ∧ seesM t s' 93 = true ∧ RA w5 p r base t s'.up false hv n) ∨ ((true = true ∨ seesM t s' 93 = false) ∧ RA w5 p r base t s' true hv n)) → ∃ (bd : Bool) (s5 : RS), RA w5 p r base t s5 bd hv n ∧ (bd = true → RI = .bad s5) ∧ (bd = false → ∃ c, RI = .ok c s5)) := by
          intro w5 hE
          rcases hE with ⟨h, _⟩ | ⟨_, ra⟩
          · cases h
          · exact ⟨true, s', ra, fun _ => HBAD.out rfl, fun h => by cases h⟩
        clear HBAD HGOOD
        have KE := hide (eats_gen 93 H2.out ht)
        go_wp2_with fail
        refine KE.out.mono ?_
        rintro e w5 ⟨rfl, fr5, hE5⟩
        have F5 := hide (F2.out.trans fr5)
        have HS5 := hide (fr5.ks _ _ HSr.out)
        have hst : ∃ (bd : Bool) (s5 : RS), RA w5 p r base t s5 bd hv n ∧ (bd = true → RI = .bad s5) ∧ (bd = false → ∃ c, RI = .ok c s5) := HX.out hE5
        obtain ⟨bd5, s5, ra5, hbad5, hgood5⟩ := hst
        have H5 := hide ra5
        have HBAD5 := hide hbad5
        have HGOOD5 := hide hgood5
        clear KE hE5 fr5 ra5 hbad5 hgood5 HX
        obtain ⟨m3, m5, m6, g5, g6, mr, gr, hrl⟩ := H5.out.more
        have hl := H5.out.rk.lt
        go_upto_region 13 with fail
        generalize hw9 : World.setCell _ _ _ = w6
        have hup := H5.out.hvs w6 hw9
        have H6 := hide hup.1
        have F6 := hide (F5.out.trans hup.2)
        have HS6 := hide (hup.2.ks _ _ HS5.out)
        have hlt6 := HS6.out.1.lt
        clear hw9 hup m3 m5 m6 g5 g6 mr gr hrl hl
        obtain ⟨V, hV⟩ : ∃ V, V = sB cs' := ⟨_, rfl⟩
        have HIV : Hid ((Tryz.prog.info? 107).map (·.size) = some V.length) := by rw [hV]; exact infoSet hcs'
        have HJV : Hid ((Tryz.prog.info? 107).map (·.size) = some V.toArray.size) := by rw [hV]; exact infoSetA hcs'
        have HAV : Hid (V.toArray.all (·.oneCell') = true) := by rw [hV]; exact all_plain (sB_plain _)
        have HOV : Hid ((sB noB).toArray.size = V.toArray.size) := by show _ = _; rw [List.size_toArray, List.size_toArray, hV, sB_len, sB_len, hcs']; rfl
        have HVV := hide hV
        have HRG6 : Hid (World.rangeAt w6 B 0 V) := by rw [hV]; exact HS6.out.1.rangeL
        have KF := hide (folded_any cs' hcs' H6.out.rk)
        rw [← hV] at KF
        clear hV
        go_wp2_with (refine wpList_load_mid rfl 107 _ rfl (B) 0 rfl V _ HRG6.out Tryz.underlying107 rfl HIV.out ?_)
        refine KF.out.mono ?_
        rintro e w7 ⟨ds, hds, rfl, hx7⟩
        have H7 := hide (H6.out.ex hx7)
        have F7 := hide (F6.out.trans (Fr.ex hx7 (by have := F6.out.eb.size; omega)))
        have HS7 := hide (HS6.out.ex hx7 (by simp))
        clear hx7 KF
        obtain ⟨U, hU⟩ : ∃ V, V = sB ds := ⟨_, rfl⟩
        have HIU : Hid ((Tryz.prog.info? 107).map (·.size) = some U.length) := by rw [hU]; exact infoSet hds
        have HJU : Hid ((Tryz.prog.info? 107).map (·.size) = some U.toArray.size) := by rw [hU]; exact infoSetA hds
        have HAU : Hid (U.toArray.all (·.oneCell') = true) := by rw [hU]; exact all_plain (sB_plain _)
        have HOU : Hid ((sB noB).toArray.size = U.toArray.size) := by show _ = _; rw [List.size_toArray, List.size_toArray, hU, sB_len, sB_len, hds]; rfl
        have HVU := hide hU
        rw [← hU]
        obtain ⟨w8, hw8⟩ : ∃ w8, w8 = w7.setRow B U.toArray := ⟨_, rfl⟩
        have hst8 := set_store (w' := w8) F7.out HS7.out H7.out hB0 hbw hds (by rw [hw8, hU])
        have H8 := hide hst8.1
        have F8 := hide hst8.2.1
        have HS8 := hide hst8.2.2.1
        have hlt8 := HS8.out.1.lt
        have HW8 := hide hw8
        have HOLD : Hid ((sB cs').toArray.size = U.toArray.size) := by show _ = _; rw [List.size_toArray, List.size_toArray, hU, sB_len, sB_len, hds, hcs']
        clear hw8 hst8
        clear hU
        go_upto_region 15 with (refine wpList_store_row rfl 107 _ _ rfl B U.toArray rfl rfl 107 _ HS7.out.1 HJU.out HOLD.out HAU.out ?_)
        rw [← HW8.out]
        have HRG8 : Hid (World.rangeAt w8 B 0 U) := by rw [HVU.out]; exact HS8.out.1.rangeL
        have KI := hide (fun W => inverse_any ds W hds)
        rw [← show U = sB ds from HVU.out] at KI
        go_wp2_with (refine wpList_load_mid rfl 107 _ rfl (B) 0 rfl U _ HRG8.out Tryz.underlying107 rfl HIU.out ?_)
        refine (KI.out _).mono ?_
        rintro e w9 ⟨rfl, hx9⟩
        have H9 := hide (H8.out.ex hx9)
        have F9 := hide (F8.out.trans (Fr.ex hx9 (by have := F8.out.eb.size; omega)))
        have HS9 := hide (HS8.out.ex hx9 (by simp))
        have hes : (ds.map (!·)).length = 129 := by rw [List.length_map]; exact hds
        obtain ⟨es, hes0⟩ : ∃ es, es = ds.map (!·) := ⟨_, rfl⟩
        rw [← hes0] at hes ⊢
        clear hx9 KI hes0
        obtain ⟨T, hT⟩ : ∃ V, V = sB es := ⟨_, rfl⟩
        have HIT : Hid ((Tryz.prog.info? 107).map (·.size) = some T.length) := by rw [hT]; exact infoSet hes
        have HJT : Hid ((Tryz.prog.info? 107).map (·.size) = some T.toArray.size) := by rw [hT]; exact infoSetA hes
        have HAT : Hid (T.toArray.all (·.oneCell') = true) := by rw [hT]; exact all_plain (sB_plain _)
        have HOT : Hid ((sB noB).toArray.size = T.toArray.size) := by show _ = _; rw [List.size_toArray, List.size_toArray, hT, sB_len, sB_len, hes]; rfl
        have HVT := hide hT
        rw [← hT]
        obtain ⟨w10, hw10⟩ : ∃ w10, w10 = w9.setRow B T.toArray := ⟨_, rfl⟩
        have hst10 := set_store (w' := w10) F9.out HS9.out H9.out hB0 hbw hes (by rw [hw10, hT])
        have H10 := hide hst10.1
        have F10 := hide hst10.2.1
        have HS10 := hide hst10.2.2.1
        have hlt10 := HS10.out.1.lt
        have HW10 := hide hw10
        have HOLD2 : Hid ((sB ds).toArray.size = T.toArray.size) := by show _ = _; rw [List.size_toArray, List.size_toArray, hT, sB_len, sB_len, hds, hes]
        clear hw10 hst10 hT
        obtain ⟨X, hX⟩ : ∃ X, X = exprL 2 0 0 0 false es := ⟨_, rfl⟩
        have HBU : Hid (Tryz.prog.built 109 [(0, .int .i64 2), (5, .agg T.toArray)] = some X.toArray) := by rw [hX, HVT.out]; exact built_set es hes
        have KND := hide (node_ex 2 0 0 0 false es hes H10.out (by omega))
        rw [← hX] at KND
        have HRG8 : Hid (World.rangeAt w10 B 0 T) := by rw [HVT.out]; exact HS10.out.1.rangeL
        clear hX
        go_upto_region 16 with (refine wpList_store_row rfl 107 _ _ rfl B T.toArray rfl rfl 107 _ HS9.out.1 HJT.out HOLD2.out HAT.out ?_)
        rw [← HW10.out]
        go_wp2_with (first | refine wpList_load_mid rfl 107 _ rfl (B) 0 rfl T _ HRG8.out Tryz.underlying107 rfl HIT.out ?_ | (refine wpList_buildTo rfl 109 _ rfl _ rfl X.toArray (by simp only [List.map_toArray, List.map_cons, List.map_nil, Act.eval, List.getElem?_toArray, Array.getD_eq_getD_getElem?, List.getElem?_cons_succ, List.getElem?_cons_zero, Option.getD_some]; exact HBU.out) ?_))
        refine KND.out.mono ?_
        rintro e wz ⟨rfl, hz, frz⟩
        have HZ := hide hz
        have FZ := hide (F10.out.trans frz)
        clear hz frz
        go_wp2_with fail
        go_ret
        exact ⟨FZ.out, ⟨_, rfl⟩, bd5, s5, HBAD5.out, HGOOD5.out, HZ.out⟩
      · -- the first item
        obtain ⟨g1, g2, g3, _⟩ := HGOOD.out rfl
        have HG3 := hide (g3 rfl)
        have KI := hide (item_any H2.out ht)
        simp only [if_true] at g2
        clear g3 HBAD HGOOD
        go_wp2_with fail
        refine KI.out.mono ?_
        rintro e w5 ⟨hf5, ⟨ds, hds, rfl⟩, hp5⟩
        have F5 := hide (F2.out.trans hf5)
        have HS5 := hide (hf5.ks _ _ HSr.out)
        have hst : ∃ (bd : Bool) (s5 : RS), RA w5 p r base t s5 bd hv n ∧ (bd = true → RI = .bad s5) ∧ (bd = false → s5.k ≤ t.size ∧ s'.k < s5.k ∧ ∃ c m, itemsM t (m + 1) c s5 = RI ∧ t.size - s5.k ≤ m) := by
          cases hI : itemM t s' with
          | bad s5 =>
            rw [hI] at hp5
            refine ⟨true, s5, hp5, fun _ => ?_, fun h => by cases h⟩
            rw [← HG3.out]; unfold itemsR; rw [hI]; rfl
          | ok c2 s5 =>
            rw [hI] at hp5
            have hl5 := item_lt hI
            have hz5 := (item_mv hI).sz g1
            refine ⟨false, s5, hp5, (fun h => by cases h), fun _ => ⟨hz5, hl5, ?_⟩⟩
            exact ⟨c2, t.size, by rw [← HG3.out]; unfold itemsR; rw [hI]; rfl, by omega⟩
        obtain ⟨bd5, s5, ra5, hbad5, hgood5⟩ := hst
        have HBAD5 := hide hbad5
        have HGOOD5 := hide hgood5
        clear KI hf5 hp5 hbad5 hgood5
        obtain ⟨w6, hw7⟩ : ∃ w7, w7 = (w5.alloc (Obj.cells (sB noB).toArray 107)).setRow w5.heap.size (sB ds).toArray := ⟨_, rfl⟩
        obtain ⟨a1, a2, a3, a4, a5⟩ := set_new F5.out ra5 hds hw7 hbw
        have Hw6 := hide a1
        have Fw6 := hide a2
        have HSw6 := hide a3
        have HN5 := hide a4
        have HT6 := hide (a5 _ _ HS5.out)
        have HW7 := hide hw7
        obtain ⟨V, hV⟩ : ∃ V, V = sB ds := ⟨_, rfl⟩
        have HIV : Hid ((Tryz.prog.info? 107).map (·.size) = some V.length) := by rw [hV]; exact infoSet hds
        have HJV : Hid ((Tryz.prog.info? 107).map (·.size) = some V.toArray.size) := by rw [hV]; exact infoSetA hds
        have HAV : Hid (V.toArray.all (·.oneCell') = true) := by rw [hV]; exact all_plain (sB_plain _)
        have HOV : Hid ((sB noB).toArray.size = V.toArray.size) := by show _ = _; rw [List.size_toArray, List.size_toArray, hV, sB_len, sB_len, hds]; rfl
        have HVV := hide hV
        rw [← hV] at HW7 ⊢
        clear hw7 a1 a2 a3 a4 a5 hV
        go_upto_region 10 with (refine wpList_store_row rfl 107 _ _ rfl (w5.heap.size) V.toArray rfl rfl 107 _ HN5.out HJV.out HOV.out HAV.out ?_)
        rw [show (w5.alloc (Obj.cells Tryz.zeroCells107 107)).setRow w5.heap.size V.toArray = w6 from HW7.out.symm]
        clear HW7 HN5
        have hltw6 := HSw6.out.1.lt
        clear ra5
        obtain ⟨U, hU⟩ : ∃ V, V = sB cs' := ⟨_, rfl⟩
        have HIU : Hid ((Tryz.prog.info? 107).map (·.size) = some U.length) := by rw [hU]; exact infoSet hcs'
        have HJU : Hid ((Tryz.prog.info? 107).map (·.size) = some U.toArray.size) := by rw [hU]; exact infoSetA hcs'
        have HAU : Hid (U.toArray.all (·.oneCell') = true) := by rw [hU]; exact all_plain (sB_plain _)
        have HOU : Hid ((sB noB).toArray.size = U.toArray.size) := by show _ = _; rw [List.size_toArray, List.size_toArray, hU, sB_len, sB_len, hcs']; rfl
        have HVU := hide hU
        have HRG6 : Hid (World.rangeAt w6 w5.heap.size 0 V) := by rw [HVV.out]; exact HSw6.out.1.rangeL
        have HRG7 : Hid (World.rangeAt w6 B 0 U) := by rw [hU]; exact HT6.out.1.rangeL
        have KU := hide (fun W => union_any cs' ds W hcs' hds)
        rw [← hU, ← show V = sB ds from HVV.out] at KU
        have hltB := HT6.out.1.lt
        clear hU
        go_wp2_with (first | refine wpList_load_mid rfl 107 _ rfl (B) 0 rfl U _ HRG7.out Tryz.underlying107 rfl HIU.out ?_ | refine wpList_load_mid rfl 107 _ rfl (w5.heap.size) 0 rfl V _ HRG6.out Tryz.underlying107 rfl HIV.out ?_)
        refine (KU.out _).mono ?_
        rintro e w7 ⟨rfl, hx7⟩
        have H7 := hide (Hw6.out.ex hx7)
        have F7 := hide (Fw6.out.trans (Fr.ex hx7 (by have := Fw6.out.eb.size; omega)))
        have HS7 := hide (HT6.out.ex hx7 (by simp))
        have hus : (List.zipWith (· || ·) cs' ds).length = 129 := by simp [hcs', hds]
        obtain ⟨us, hus0⟩ : ∃ us, us = List.zipWith (· || ·) cs' ds := ⟨_, rfl⟩
        rw [← hus0] at hus ⊢
        clear hx7 KU hus0
        obtain ⟨T, hT⟩ : ∃ V, V = sB us := ⟨_, rfl⟩
        have HIT : Hid ((Tryz.prog.info? 107).map (·.size) = some T.length) := by rw [hT]; exact infoSet hus
        have HJT : Hid ((Tryz.prog.info? 107).map (·.size) = some T.toArray.size) := by rw [hT]; exact infoSetA hus
        have HAT : Hid (T.toArray.all (·.oneCell') = true) := by rw [hT]; exact all_plain (sB_plain _)
        have HOT : Hid ((sB noB).toArray.size = T.toArray.size) := by show _ = _; rw [List.size_toArray, List.size_toArray, hT, sB_len, sB_len, hus]; rfl
        have HVT := hide hT
        rw [← hT]
        obtain ⟨w8, hw8⟩ : ∃ w8, w8 = w7.setRow B T.toArray := ⟨_, rfl⟩
        have hst8 := set_store (w' := w8) F7.out HS7.out H7.out hB0 hbw hus (by rw [hw8, hT])
        have H8 := hide hst8.1
        have F8 := hide hst8.2.1
        have HS8 := hide hst8.2.2.1
        have HW8 := hide hw8
        have HOLD : Hid ((sB cs').toArray.size = T.toArray.size) := by show _ = _; rw [List.size_toArray, List.size_toArray, hT, sB_len, sB_len, hus, hcs']
        have hlt7 := HS7.out.1.lt
        clear hw8 hst8 hT
        go_wp2_with (refine wpList_store_row rfl 107 _ _ rfl B T.toArray rfl rfl 107 _ HS7.out.1 HJT.out HOLD.out HAT.out ?_)
        rw [← HW8.out]
        obtain ⟨gk, rfl⟩ : ∃ x, gk = x + 1 := ⟨gk - 1, by omega⟩
        go_roundg gk
        case measure => omega
        case rel =>
          refine ⟨false, bd5, s5, us, rfl, hus, HS8.out, H8.out, F8.out, HBAD5.out, fun h => ?_⟩
          obtain ⟨e1, e2, e3⟩ := HGOOD5.out h
          exact ⟨e1, by simp only [Bool.false_eq_true, if_false]; omega, (fun h => by cases h), fun _ => e3⟩
      · -- other items, or the end
        obtain ⟨g1, g2, _, g4⟩ := HGOOD.out rfl
        obtain ⟨c', m, hm, hmf⟩ := g4 rfl
        have HM := hide hm
        simp only [Bool.false_eq_true, if_false] at g2
        clear g4 hm HBAD HGOOD
        obtain ⟨c, hc⟩ : ∃ c, c = nextN t s'.k := ⟨_, rfl⟩
        have KN := hide (next_gen H2.out)
        rw [← hc] at KN
        have s93 : seesM t s' 93 = decide (c = 93) := by rw [hc]; exact sees_nx (by decide)
        have HS93 := hide s93
        clear hc s93
        go_wp2_with fail
        refine KN.out.mono ?_
        rintro e w3b ⟨rfl, ra3, fr3, _⟩
        have H2b := hide ra3
        have F2b := hide (F2.out.trans fr3)
        have HSrb := hide (fr3.ks _ _ HSr.out)
        clear ra3 fr3 KN H2 F2 HSr c0 c1 c2 f1 f2 hl hltr
        obtain ⟨wr, hwr⟩ : ∃ x, x = w3b := ⟨_, rfl⟩
        subst hwr
        have H2 := H2b
        have F2 := F2b
        have HSr := HSrb
        clear H2b F2b HSrb
        have hltr := HSr.out.1.lt
        by_cases h93 : c = 93
        · have q93 : ((c : Int) != 93) = false := by rw [h93]; rfl
          have HX : Hid (∀ {w5 : World}, ((false = false ∧ seesM t s' 93 = true ∧ RA w5 p r base t s'.up false hv n) ∨ ((false = true ∨ seesM t s' 93 = false) ∧ RA w5 p r base t s' true hv n)) → ∃ (bd : Bool) (s5 : RS), RA w5 p r base t s5 bd hv n ∧ (bd = true → RI = .bad s5) ∧ (bd = false → ∃ c, RI = .ok c s5)) := by
            intro w5 hE
            have hs : seesM t s' 93 = true := by rw [HS93.out]; exact decide_eq_true h93
            rcases hE with ⟨_, _, ra⟩ | ⟨h, _⟩
            · refine ⟨false, s'.up, ra, (fun h => by cases h), fun _ => ⟨c', ?_⟩⟩
              rw [← HM.out]
              unfold itemsM
              rw [if_pos hs]
            · rcases h with h | h
              · cases h
              · rw [hs] at h; cases h
          clear h93 HM
          have KE := hide (eats_gen 93 H2.out ht)
          go_wp2_with fail
          refine KE.out.mono ?_
          rintro e w5 ⟨rfl, fr5, hE5⟩
          have F5 := hide (F2.out.trans fr5)
          have HS5 := hide (fr5.ks _ _ HSr.out)
          have hst : ∃ (bd : Bool) (s5 : RS), RA w5 p r base t s5 bd hv n ∧ (bd = true → RI = .bad s5) ∧ (bd = false → ∃ c, RI = .ok c s5) := HX.out hE5
          obtain ⟨bd5, s5, ra5, hbad5, hgood5⟩ := hst
          have H5 := hide ra5
          have HBAD5 := hide hbad5
          have HGOOD5 := hide hgood5
          clear KE hE5 fr5 ra5 hbad5 hgood5 HX
          obtain ⟨m3, m5, m6, g5, g6, mr, gr, hrl⟩ := H5.out.more
          have hl := H5.out.rk.lt
          go_upto_region 13 with fail
          generalize hw9 : World.setCell _ _ _ = w6
          have hup := H5.out.hvs w6 hw9
          have H6 := hide hup.1
          have F6 := hide (F5.out.trans hup.2)
          have HS6 := hide (hup.2.ks _ _ HS5.out)
          have hlt6 := HS6.out.1.lt
          clear hw9 hup m3 m5 m6 g5 g6 mr gr hrl hl
          obtain ⟨V, hV⟩ : ∃ V, V = sB cs' := ⟨_, rfl⟩
          have HIV : Hid ((Tryz.prog.info? 107).map (·.size) = some V.length) := by rw [hV]; exact infoSet hcs'
          have HJV : Hid ((Tryz.prog.info? 107).map (·.size) = some V.toArray.size) := by rw [hV]; exact infoSetA hcs'
          have HAV : Hid (V.toArray.all (·.oneCell') = true) := by rw [hV]; exact all_plain (sB_plain _)
          have HOV : Hid ((sB noB).toArray.size = V.toArray.size) := by show _ = _; rw [List.size_toArray, List.size_toArray, hV, sB_len, sB_len, hcs']; rfl
          have HVV := hide hV
          have HRG6 : Hid (World.rangeAt w6 B 0 V) := by rw [hV]; exact HS6.out.1.rangeL
          have KF := hide (folded_any cs' hcs' H6.out.rk)
          rw [← hV] at KF
          clear hV
          go_wp2_with (refine wpList_load_mid rfl 107 _ rfl (B) 0 rfl V _ HRG6.out Tryz.underlying107 rfl HIV.out ?_)
          refine KF.out.mono ?_
          rintro e w7 ⟨ds, hds, rfl, hx7⟩
          have H7 := hide (H6.out.ex hx7)
          have F7 := hide (F6.out.trans (Fr.ex hx7 (by have := F6.out.eb.size; omega)))
          have HS7 := hide (HS6.out.ex hx7 (by simp))
          clear hx7 KF
          obtain ⟨U, hU⟩ : ∃ V, V = sB ds := ⟨_, rfl⟩
          have HIU : Hid ((Tryz.prog.info? 107).map (·.size) = some U.length) := by rw [hU]; exact infoSet hds
          have HJU : Hid ((Tryz.prog.info? 107).map (·.size) = some U.toArray.size) := by rw [hU]; exact infoSetA hds
          have HAU : Hid (U.toArray.all (·.oneCell') = true) := by rw [hU]; exact all_plain (sB_plain _)
          have HOU : Hid ((sB noB).toArray.size = U.toArray.size) := by show _ = _; rw [List.size_toArray, List.size_toArray, hU, sB_len, sB_len, hds]; rfl
          have HVU := hide hU
          rw [← hU]
          obtain ⟨w8, hw8⟩ : ∃ w8, w8 = w7.setRow B U.toArray := ⟨_, rfl⟩
          have hst8 := set_store (w' := w8) F7.out HS7.out H7.out hB0 hbw hds (by rw [hw8, hU])
          have H8 := hide hst8.1
          have F8 := hide hst8.2.1
          have HS8 := hide hst8.2.2.1
          have hlt8 := HS8.out.1.lt
          have HW8 := hide hw8
          have HOLD : Hid ((sB cs').toArray.size = U.toArray.size) := by show _ = _; rw [List.size_toArray, List.size_toArray, hU, sB_len, sB_len, hds, hcs']
          clear hw8 hst8
          clear hU
          go_upto_region 15 with (refine wpList_store_row rfl 107 _ _ rfl B U.toArray rfl rfl 107 _ HS7.out.1 HJU.out HOLD.out HAU.out ?_)
          rw [← HW8.out]
          have HRG8 : Hid (World.rangeAt w8 B 0 U) := by rw [HVU.out]; exact HS8.out.1.rangeL
          have KI := hide (fun W => inverse_any ds W hds)
          rw [← show U = sB ds from HVU.out] at KI
          go_wp2_with (refine wpList_load_mid rfl 107 _ rfl (B) 0 rfl U _ HRG8.out Tryz.underlying107 rfl HIU.out ?_)
          refine (KI.out _).mono ?_
          rintro e w9 ⟨rfl, hx9⟩
          have H9 := hide (H8.out.ex hx9)
          have F9 := hide (F8.out.trans (Fr.ex hx9 (by have := F8.out.eb.size; omega)))
          have HS9 := hide (HS8.out.ex hx9 (by simp))
          have hes : (ds.map (!·)).length = 129 := by rw [List.length_map]; exact hds
          obtain ⟨es, hes0⟩ : ∃ es, es = ds.map (!·) := ⟨_, rfl⟩
          rw [← hes0] at hes ⊢
          clear hx9 KI hes0
          obtain ⟨T, hT⟩ : ∃ V, V = sB es := ⟨_, rfl⟩
          have HIT : Hid ((Tryz.prog.info? 107).map (·.size) = some T.length) := by rw [hT]; exact infoSet hes
          have HJT : Hid ((Tryz.prog.info? 107).map (·.size) = some T.toArray.size) := by rw [hT]; exact infoSetA hes
          have HAT : Hid (T.toArray.all (·.oneCell') = true) := by rw [hT]; exact all_plain (sB_plain _)
          have HOT : Hid ((sB noB).toArray.size = T.toArray.size) := by show _ = _; rw [List.size_toArray, List.size_toArray, hT, sB_len, sB_len, hes]; rfl
          have HVT := hide hT
          rw [← hT]
          obtain ⟨w10, hw10⟩ : ∃ w10, w10 = w9.setRow B T.toArray := ⟨_, rfl⟩
          have hst10 := set_store (w' := w10) F9.out HS9.out H9.out hB0 hbw hes (by rw [hw10, hT])
          have H10 := hide hst10.1
          have F10 := hide hst10.2.1
          have HS10 := hide hst10.2.2.1
          have hlt10 := HS10.out.1.lt
          have HW10 := hide hw10
          have HOLD2 : Hid ((sB ds).toArray.size = T.toArray.size) := by show _ = _; rw [List.size_toArray, List.size_toArray, hT, sB_len, sB_len, hds, hes]
          clear hw10 hst10 hT
          obtain ⟨X, hX⟩ : ∃ X, X = exprL 2 0 0 0 false es := ⟨_, rfl⟩
          have HBU : Hid (Tryz.prog.built 109 [(0, .int .i64 2), (5, .agg T.toArray)] = some X.toArray) := by rw [hX, HVT.out]; exact built_set es hes
          have KND := hide (node_ex 2 0 0 0 false es hes H10.out (by omega))
          rw [← hX] at KND
          have HRG8 : Hid (World.rangeAt w10 B 0 T) := by rw [HVT.out]; exact HS10.out.1.rangeL
          clear hX
          go_upto_region 16 with (refine wpList_store_row rfl 107 _ _ rfl B T.toArray rfl rfl 107 _ HS9.out.1 HJT.out HOLD2.out HAT.out ?_)
          rw [← HW10.out]
          go_wp2_with (first | refine wpList_load_mid rfl 107 _ rfl (B) 0 rfl T _ HRG8.out Tryz.underlying107 rfl HIT.out ?_ | (refine wpList_buildTo rfl 109 _ rfl _ rfl X.toArray (by simp only [List.map_toArray, List.map_cons, List.map_nil, Act.eval, List.getElem?_toArray, Array.getD_eq_getD_getElem?, List.getElem?_cons_succ, List.getElem?_cons_zero, Option.getD_some]; exact HBU.out) ?_))
          refine KND.out.mono ?_
          rintro e wz ⟨rfl, hz, frz⟩
          have HZ := hide hz
          have FZ := hide (F10.out.trans frz)
          clear hz frz
          go_wp2_with fail
          go_ret
          exact ⟨FZ.out, ⟨_, rfl⟩, bd5, s5, HBAD5.out, HGOOD5.out, HZ.out⟩
        · have q93 : ((c : Int) != 93) = true := by rw [bne_iff_ne]; omega
          have HMI : Hid (RI = (itemM t s').bind fun c2 s2 => itemsM t m (withC c' c2) s2) := by
            show RI = _
            rw [← HM.out]
            conv => lhs; unfold itemsM
            rw [if_neg]
            rw [HS93.out]
            simpa using h93
          have KI := hide (item_any H2.out ht)
          clear h93 HM
          go_wp2_with fail
          refine KI.out.mono ?_
          rintro e w5 ⟨hf5, ⟨ds, hds, rfl⟩, hp5⟩
          have F5 := hide (F2.out.trans hf5)
          have HS5 := hide (hf5.ks _ _ HSr.out)
          have hst : ∃ (bd : Bool) (s5 : RS), RA w5 p r base t s5 bd hv n ∧ (bd = true → RI = .bad s5) ∧ (bd = false → s5.k ≤ t.size ∧ s'.k < s5.k ∧ ∃ c m, itemsM t (m + 1) c s5 = RI ∧ t.size - s5.k ≤ m) := by
            cases hI : itemM t s' with
            | bad s5 =>
              rw [hI] at hp5
              refine ⟨true, s5, hp5, fun _ => ?_, fun h => by cases h⟩
              rw [HMI.out, hI]; rfl
            | ok c2 s5 =>
              rw [hI] at hp5
              have hl5 := item_lt hI
              have hz5 := (item_mv hI).sz g1
              refine ⟨false, s5, hp5, (fun h => by cases h), fun _ => ⟨hz5, hl5, ?_⟩⟩
              exact ⟨withC c' c2, m - 1, by rw [HMI.out, hI, show m - 1 + 1 = m by omega]; rfl, by omega⟩
          obtain ⟨bd5, s5, ra5, hbad5, hgood5⟩ := hst
          have HBAD5 := hide hbad5
          have HGOOD5 := hide hgood5
          clear KI hf5 hp5 hbad5 hgood5
          obtain ⟨w6, hw7⟩ : ∃ w7, w7 = (w5.alloc (Obj.cells (sB noB).toArray 107)).setRow w5.heap.size (sB ds).toArray := ⟨_, rfl⟩
          obtain ⟨a1, a2, a3, a4, a5⟩ := set_new F5.out ra5 hds hw7 hbw
          have Hw6 := hide a1
          have Fw6 := hide a2
          have HSw6 := hide a3
          have HN5 := hide a4
          have HT6 := hide (a5 _ _ HS5.out)
          have HW7 := hide hw7
          obtain ⟨V, hV⟩ : ∃ V, V = sB ds := ⟨_, rfl⟩
          have HIV : Hid ((Tryz.prog.info? 107).map (·.size) = some V.length) := by rw [hV]; exact infoSet hds
          have HJV : Hid ((Tryz.prog.info? 107).map (·.size) = some V.toArray.size) := by rw [hV]; exact infoSetA hds
          have HAV : Hid (V.toArray.all (·.oneCell') = true) := by rw [hV]; exact all_plain (sB_plain _)
          have HOV : Hid ((sB noB).toArray.size = V.toArray.size) := by show _ = _; rw [List.size_toArray, List.size_toArray, hV, sB_len, sB_len, hds]; rfl
          have HVV := hide hV
          rw [← hV] at HW7 ⊢
          clear hw7 a1 a2 a3 a4 a5 hV
          go_upto_region 10 with (refine wpList_store_row rfl 107 _ _ rfl (w5.heap.size) V.toArray rfl rfl 107 _ HN5.out HJV.out HOV.out HAV.out ?_)
          rw [show (w5.alloc (Obj.cells Tryz.zeroCells107 107)).setRow w5.heap.size V.toArray = w6 from HW7.out.symm]
          clear HW7 HN5
          have hltw6 := HSw6.out.1.lt
          clear ra5
          obtain ⟨U, hU⟩ : ∃ V, V = sB cs' := ⟨_, rfl⟩
          have HIU : Hid ((Tryz.prog.info? 107).map (·.size) = some U.length) := by rw [hU]; exact infoSet hcs'
          have HJU : Hid ((Tryz.prog.info? 107).map (·.size) = some U.toArray.size) := by rw [hU]; exact infoSetA hcs'
          have HAU : Hid (U.toArray.all (·.oneCell') = true) := by rw [hU]; exact all_plain (sB_plain _)
          have HOU : Hid ((sB noB).toArray.size = U.toArray.size) := by show _ = _; rw [List.size_toArray, List.size_toArray, hU, sB_len, sB_len, hcs']; rfl
          have HVU := hide hU
          have HRG6 : Hid (World.rangeAt w6 w5.heap.size 0 V) := by rw [HVV.out]; exact HSw6.out.1.rangeL
          have HRG7 : Hid (World.rangeAt w6 B 0 U) := by rw [hU]; exact HT6.out.1.rangeL
          have KU := hide (fun W => union_any cs' ds W hcs' hds)
          rw [← hU, ← show V = sB ds from HVV.out] at KU
          have hltB := HT6.out.1.lt
          clear hU
          go_wp2_with (first | refine wpList_load_mid rfl 107 _ rfl (B) 0 rfl U _ HRG7.out Tryz.underlying107 rfl HIU.out ?_ | refine wpList_load_mid rfl 107 _ rfl (w5.heap.size) 0 rfl V _ HRG6.out Tryz.underlying107 rfl HIV.out ?_)
          refine (KU.out _).mono ?_
          rintro e w7 ⟨rfl, hx7⟩
          have H7 := hide (Hw6.out.ex hx7)
          have F7 := hide (Fw6.out.trans (Fr.ex hx7 (by have := Fw6.out.eb.size; omega)))
          have HS7 := hide (HT6.out.ex hx7 (by simp))
          have hus : (List.zipWith (· || ·) cs' ds).length = 129 := by simp [hcs', hds]
          obtain ⟨us, hus0⟩ : ∃ us, us = List.zipWith (· || ·) cs' ds := ⟨_, rfl⟩
          rw [← hus0] at hus ⊢
          clear hx7 KU hus0
          obtain ⟨T, hT⟩ : ∃ V, V = sB us := ⟨_, rfl⟩
          have HIT : Hid ((Tryz.prog.info? 107).map (·.size) = some T.length) := by rw [hT]; exact infoSet hus
          have HJT : Hid ((Tryz.prog.info? 107).map (·.size) = some T.toArray.size) := by rw [hT]; exact infoSetA hus
          have HAT : Hid (T.toArray.all (·.oneCell') = true) := by rw [hT]; exact all_plain (sB_plain _)
          have HOT : Hid ((sB noB).toArray.size = T.toArray.size) := by show _ = _; rw [List.size_toArray, List.size_toArray, hT, sB_len, sB_len, hus]; rfl
          have HVT := hide hT
          rw [← hT]
          obtain ⟨w8, hw8⟩ : ∃ w8, w8 = w7.setRow B T.toArray := ⟨_, rfl⟩
          have hst8 := set_store (w' := w8) F7.out HS7.out H7.out hB0 hbw hus (by rw [hw8, hT])
          have H8 := hide hst8.1
          have F8 := hide hst8.2.1
          have HS8 := hide hst8.2.2.1
          have HW8 := hide hw8
          have HOLD : Hid ((sB cs').toArray.size = T.toArray.size) := by show _ = _; rw [List.size_toArray, List.size_toArray, hT, sB_len, sB_len, hus, hcs']
          have hlt7 := HS7.out.1.lt
          clear hw8 hst8 hT
          go_wp2_with (refine wpList_store_row rfl 107 _ _ rfl B T.toArray rfl rfl 107 _ HS7.out.1 HJT.out HOLD.out HAT.out ?_)
          rw [← HW8.out]
          obtain ⟨gk, rfl⟩ : ∃ x, gk = x + 1 := ⟨gk - 1, by omega⟩
          go_roundg gk
          case measure => omega
          case rel =>
            refine ⟨false, bd5, s5, us, rfl, hus, HS8.out, H8.out, F8.out, HBAD5.out, fun h => ?_⟩
            obtain ⟨e1, e2, e3⟩ := HGOOD5.out h
            exact ⟨e1, by simp only [Bool.false_eq_true, if_false]; omega, (fun h => by cases h), fun _ => e3⟩
  case neg =>
    have q94 : ((c : Int) == 94) = false := by rw [beq_eq_false_iff_ne]; omega
    obtain ⟨k2, hk2⟩ : ∃ x, x = k + 1 := ⟨_, rfl⟩
    have hRI2 : itemsR t ⟨k2, d, f, g, nm⟩ = RI := by
      rw [← HRI.out, hk2]
      show _ = itemsR t (RS.took ⟨k + 1, d, f, g, nm⟩ t 94)
      unfold RS.took
      rw [if_neg (by rw [HS94.out]; simpa using h94)]
    have hk2t : k2 ≤ t.size := by omega
    clear h94
    go_upto_region 5 with fail
    obtain ⟨w3, hw3⟩ : ∃ x, x = w2 := ⟨_, rfl⟩
    subst hw3
    have H3 : Hid (RA w3 p r base t ⟨k2, d, f, g, nm⟩ false hv n) := by rw [hk2]; exact H2.out
    have F3 := F2
    clear hk2
    have HRI2 := hide hRI2
    clear hRI2 H1 F1 H2 F2 HS94 HRI
    go_upto_region 6 with fail
    generalize hw4 : World.alloc _ _ = w4
    have hx4 : Ex [] w3 w4 := by rw [← hw4]; exact (Ex.refl _ _).alloc _
    obtain ⟨B, hB⟩ : ∃ x, x = w3.heap.size := ⟨_, rfl⟩
    have hr4 : SB w4 B noB := by rw [← hw4, hB]; exact ⟨BK.new _ _, rfl⟩
    have H4 := hide (H3.out.ex hx4)
    have HS4 := hide hr4
    have F4 := hide (F3.out.trans (Fr.ex hx4 (by have := F3.out.eb.size; omega)))
    have hB0 : w.heap.size ≤ B := by rw [hB]; exact F3.out.eb.size
    rw [← hB]
    clear hw4 hx4 hr4 hB H3 F3
    go_wp2_with fail
    go_loopg [5] (t.size + 2) (fun gk v5 wr => ∃ (first bd : Bool) (s' : RS) (cs' : List Bool), v5 = .bool first ∧ cs'.length = 129 ∧ SB wr B cs' ∧ RA wr p r base t s' bd hv n ∧ Fr w wr base ∧ (bd = true → RI = .bad s') ∧ (bd = false → s'.k ≤ t.size ∧ t.size + 1 - s'.k + (if first then 1 else 0) ≤ gk ∧ (first = true → itemsR t s' = RI) ∧ (first = false → ∃ c m, itemsM t (m + 1) c s' = RI ∧ t.size - s'.k ≤ m)))
    case atStart => exact ⟨true, false, ⟨k2, d, f, g, nm⟩, noB, rfl, rfl, HS4.out, H4.out, F4.out, (fun h => by cases h), fun _ => ⟨hk2t, by show t.size + 1 - k2 + 1 ≤ _; omega, fun _ => HRI2.out, fun h => by cases h⟩⟩
    case round =>
      clear HRI2 H4 HS4 F4
      obtain ⟨first, bd, s', cs', rfl, hcs', hsb, hra, hfr, hbad, hgood⟩ := hrel
      have H2 := hide hra
      have F2 := hide hfr
      have HSr := hide hsb
      have HBAD := hide hbad
      have HGOOD := hide hgood
      have hltr := hsb.1.lt
      clear hra hfr hsb hbad hgood
      obtain ⟨c0, c1, c2, f1, f2, hl⟩ := H2.out.facts
      have hcs : (bd = true) ∨ (bd = false ∧ first = true) ∨ (bd = false ∧ first = false) := by cases bd <;> cases first <;> simp
      rcases hcs with rfl | ⟨rfl, rfl⟩ | ⟨rfl, rfl⟩
      · -- it has failed
        have HX : Hid (∀ {w5 : World}, ((true = false ∧ seesM t s' 93 = true ∧ RA w5 p r base t s'.up false hv n) ∨ ((true = true ∨ seesM t s' 93 = false) ∧ RA w5 p r base t s' true hv n)) → ∃ (bd : Bool) (s5 : RS), RA w5 p r base t s5 bd hv n ∧ (bd = true → RI = .bad s5) ∧ (bd = false → ∃ c, RI = .ok c s5)) := by
          intro w5 hE
          rcases hE with ⟨h, _⟩ | ⟨_, ra⟩
          · cases h
          · exact ⟨true, s', ra, fun _ => HBAD.out rfl, fun h => by cases h⟩
        clear HBAD HGOOD
        have KE := hide (eats_gen 93 H2.out ht)
        go_wp2_with fail
        refine KE.out.mono ?_
        rintro e w5 ⟨rfl, fr5, hE5⟩
        have F5 := hide (F2.out.trans fr5)
        have HS5 := hide (fr5.ks _ _ HSr.out)
        have hst : ∃ (bd : Bool) (s5 : RS), RA w5 p r base t s5 bd hv n ∧ (bd = true → RI = .bad s5) ∧ (bd = false → ∃ c, RI = .ok c s5) := HX.out hE5
        obtain ⟨bd5, s5, ra5, hbad5, hgood5⟩ := hst
        have H5 := hide ra5
        have HBAD5 := hide hbad5
        have HGOOD5 := hide hgood5
        clear KE hE5 fr5 ra5 hbad5 hgood5 HX
        obtain ⟨m3, m5, m6, g5, g6, mr, gr, hrl⟩ := H5.out.more
        have hl := H5.out.rk.lt
        go_upto_region 13 with fail
        generalize hw9 : World.setCell _ _ _ = w6
        have hup := H5.out.hvs w6 hw9
        have H6 := hide hup.1
        have F6 := hide (F5.out.trans hup.2)
        have HS6 := hide (hup.2.ks _ _ HS5.out)
        have hlt6 := HS6.out.1.lt
        clear hw9 hup m3 m5 m6 g5 g6 mr gr hrl hl
        obtain ⟨V, hV⟩ : ∃ V, V = sB cs' := ⟨_, rfl⟩
        have HIV : Hid ((Tryz.prog.info? 107).map (·.size) = some V.length) := by rw [hV]; exact infoSet hcs'
        have HJV : Hid ((Tryz.prog.info? 107).map (·.size) = some V.toArray.size) := by rw [hV]; exact infoSetA hcs'
        have HAV : Hid (V.toArray.all (·.oneCell') = true) := by rw [hV]; exact all_plain (sB_plain _)
        have HOV : Hid ((sB noB).toArray.size = V.toArray.size) := by show _ = _; rw [List.size_toArray, List.size_toArray, hV, sB_len, sB_len, hcs']; rfl
        have HVV := hide hV
        have HRG6 : Hid (World.rangeAt w6 B 0 V) := by rw [hV]; exact HS6.out.1.rangeL
        have KF := hide (folded_any cs' hcs' H6.out.rk)
        rw [← hV] at KF
        clear hV
        go_wp2_with (refine wpList_load_mid rfl 107 _ rfl (B) 0 rfl V _ HRG6.out Tryz.underlying107 rfl HIV.out ?_)
        refine KF.out.mono ?_
        rintro e w7 ⟨ds, hds, rfl, hx7⟩
        have H7 := hide (H6.out.ex hx7)
        have F7 := hide (F6.out.trans (Fr.ex hx7 (by have := F6.out.eb.size; omega)))
        have HS7 := hide (HS6.out.ex hx7 (by simp))
        clear hx7 KF
        obtain ⟨U, hU⟩ : ∃ V, V = sB ds := ⟨_, rfl⟩
        have HIU : Hid ((Tryz.prog.info? 107).map (·.size) = some U.length) := by rw [hU]; exact infoSet hds
        have HJU : Hid ((Tryz.prog.info? 107).map (·.size) = some U.toArray.size) := by rw [hU]; exact infoSetA hds
        have HAU : Hid (U.toArray.all (·.oneCell') = true) := by rw [hU]; exact all_plain (sB_plain _)
        have HOU : Hid ((sB noB).toArray.size = U.toArray.size) := by show _ = _; rw [List.size_toArray, List.size_toArray, hU, sB_len, sB_len, hds]; rfl
        have HVU := hide hU
        rw [← hU]
        obtain ⟨w8, hw8⟩ : ∃ w8, w8 = w7.setRow B U.toArray := ⟨_, rfl⟩
        have hst8 := set_store (w' := w8) F7.out HS7.out H7.out hB0 hbw hds (by rw [hw8, hU])
        have H8 := hide hst8.1
        have F8 := hide hst8.2.1
        have HS8 := hide hst8.2.2.1
        have hlt8 := HS8.out.1.lt
        have HW8 := hide hw8
        have HOLD : Hid ((sB cs').toArray.size = U.toArray.size) := by show _ = _; rw [List.size_toArray, List.size_toArray, hU, sB_len, sB_len, hds, hcs']
        clear hw8 hst8
        clear hU
        obtain ⟨X, hX⟩ : ∃ X, X = exprL 2 0 0 0 false ds := ⟨_, rfl⟩
        have HBU : Hid (Tryz.prog.built 109 [(0, .int .i64 2), (5, .agg U.toArray)] = some X.toArray) := by rw [hX, HVU.out]; exact built_set ds hds
        have KND := hide (node_ex 2 0 0 0 false ds hds H8.out (by omega))
        rw [← hX] at KND
        have HRG8 : Hid (World.rangeAt w8 B 0 U) := by rw [HVU.out]; exact HS8.out.1.rangeL
        clear hX
        go_upto_region 16 with (refine wpList_store_row rfl 107 _ _ rfl B U.toArray rfl rfl 107 _ HS7.out.1 HJU.out HOLD.out HAU.out ?_)
        rw [← HW8.out]
        go_wp2_with (first | refine wpList_load_mid rfl 107 _ rfl (B) 0 rfl U _ HRG8.out Tryz.underlying107 rfl HIU.out ?_ | (refine wpList_buildTo rfl 109 _ rfl _ rfl X.toArray (by simp only [List.map_toArray, List.map_cons, List.map_nil, Act.eval, List.getElem?_toArray, Array.getD_eq_getD_getElem?, List.getElem?_cons_succ, List.getElem?_cons_zero, Option.getD_some]; exact HBU.out) ?_))
        refine KND.out.mono ?_
        rintro e wz ⟨rfl, hz, frz⟩
        have HZ := hide hz
        have FZ := hide (F8.out.trans frz)
        clear hz frz
        go_wp2_with fail
        go_ret
        exact ⟨FZ.out, ⟨_, rfl⟩, bd5, s5, HBAD5.out, HGOOD5.out, HZ.out⟩
      · -- the first item
        obtain ⟨g1, g2, g3, _⟩ := HGOOD.out rfl
        have HG3 := hide (g3 rfl)
        have KI := hide (item_any H2.out ht)
        simp only [if_true] at g2
        clear g3 HBAD HGOOD
        go_wp2_with fail
        refine KI.out.mono ?_
        rintro e w5 ⟨hf5, ⟨ds, hds, rfl⟩, hp5⟩
        have F5 := hide (F2.out.trans hf5)
        have HS5 := hide (hf5.ks _ _ HSr.out)
        have hst : ∃ (bd : Bool) (s5 : RS), RA w5 p r base t s5 bd hv n ∧ (bd = true → RI = .bad s5) ∧ (bd = false → s5.k ≤ t.size ∧ s'.k < s5.k ∧ ∃ c m, itemsM t (m + 1) c s5 = RI ∧ t.size - s5.k ≤ m) := by
          cases hI : itemM t s' with
          | bad s5 =>
            rw [hI] at hp5
            refine ⟨true, s5, hp5, fun _ => ?_, fun h => by cases h⟩
            rw [← HG3.out]; unfold itemsR; rw [hI]; rfl
          | ok c2 s5 =>
            rw [hI] at hp5
            have hl5 := item_lt hI
            have hz5 := (item_mv hI).sz g1
            refine ⟨false, s5, hp5, (fun h => by cases h), fun _ => ⟨hz5, hl5, ?_⟩⟩
            exact ⟨c2, t.size, by rw [← HG3.out]; unfold itemsR; rw [hI]; rfl, by omega⟩
        obtain ⟨bd5, s5, ra5, hbad5, hgood5⟩ := hst
        have HBAD5 := hide hbad5
        have HGOOD5 := hide hgood5
        clear KI hf5 hp5 hbad5 hgood5
        obtain ⟨w6, hw7⟩ : ∃ w7, w7 = (w5.alloc (Obj.cells (sB noB).toArray 107)).setRow w5.heap.size (sB ds).toArray := ⟨_, rfl⟩
        obtain ⟨a1, a2, a3, a4, a5⟩ := set_new F5.out ra5 hds hw7 hbw
        have Hw6 := hide a1
        have Fw6 := hide a2
        have HSw6 := hide a3
        have HN5 := hide a4
        have HT6 := hide (a5 _ _ HS5.out)
        have HW7 := hide hw7
        obtain ⟨V, hV⟩ : ∃ V, V = sB ds := ⟨_, rfl⟩
        have HIV : Hid ((Tryz.prog.info? 107).map (·.size) = some V.length) := by rw [hV]; exact infoSet hds
        have HJV : Hid ((Tryz.prog.info? 107).map (·.size) = some V.toArray.size) := by rw [hV]; exact infoSetA hds
        have HAV : Hid (V.toArray.all (·.oneCell') = true) := by rw [hV]; exact all_plain (sB_plain _)
        have HOV : Hid ((sB noB).toArray.size = V.toArray.size) := by show _ = _; rw [List.size_toArray, List.size_toArray, hV, sB_len, sB_len, hds]; rfl
        have HVV := hide hV
        rw [← hV] at HW7 ⊢
        clear hw7 a1 a2 a3 a4 a5 hV
        go_upto_region 10 with (refine wpList_store_row rfl 107 _ _ rfl (w5.heap.size) V.toArray rfl rfl 107 _ HN5.out HJV.out HOV.out HAV.out ?_)
        rw [show (w5.alloc (Obj.cells Tryz.zeroCells107 107)).setRow w5.heap.size V.toArray = w6 from HW7.out.symm]
        clear HW7 HN5
        have hltw6 := HSw6.out.1.lt
        clear ra5
        obtain ⟨U, hU⟩ : ∃ V, V = sB cs' := ⟨_, rfl⟩
        have HIU : Hid ((Tryz.prog.info? 107).map (·.size) = some U.length) := by rw [hU]; exact infoSet hcs'
        have HJU : Hid ((Tryz.prog.info? 107).map (·.size) = some U.toArray.size) := by rw [hU]; exact infoSetA hcs'
        have HAU : Hid (U.toArray.all (·.oneCell') = true) := by rw [hU]; exact all_plain (sB_plain _)
        have HOU : Hid ((sB noB).toArray.size = U.toArray.size) := by show _ = _; rw [List.size_toArray, List.size_toArray, hU, sB_len, sB_len, hcs']; rfl
        have HVU := hide hU
        have HRG6 : Hid (World.rangeAt w6 w5.heap.size 0 V) := by rw [HVV.out]; exact HSw6.out.1.rangeL
        have HRG7 : Hid (World.rangeAt w6 B 0 U) := by rw [hU]; exact HT6.out.1.rangeL
        have KU := hide (fun W => union_any cs' ds W hcs' hds)
        rw [← hU, ← show V = sB ds from HVV.out] at KU
        have hltB := HT6.out.1.lt
        clear hU
        go_wp2_with (first | refine wpList_load_mid rfl 107 _ rfl (B) 0 rfl U _ HRG7.out Tryz.underlying107 rfl HIU.out ?_ | refine wpList_load_mid rfl 107 _ rfl (w5.heap.size) 0 rfl V _ HRG6.out Tryz.underlying107 rfl HIV.out ?_)
        refine (KU.out _).mono ?_
        rintro e w7 ⟨rfl, hx7⟩
        have H7 := hide (Hw6.out.ex hx7)
        have F7 := hide (Fw6.out.trans (Fr.ex hx7 (by have := Fw6.out.eb.size; omega)))
        have HS7 := hide (HT6.out.ex hx7 (by simp))
        have hus : (List.zipWith (· || ·) cs' ds).length = 129 := by simp [hcs', hds]
        obtain ⟨us, hus0⟩ : ∃ us, us = List.zipWith (· || ·) cs' ds := ⟨_, rfl⟩
        rw [← hus0] at hus ⊢
        clear hx7 KU hus0
        obtain ⟨T, hT⟩ : ∃ V, V = sB us := ⟨_, rfl⟩
        have HIT : Hid ((Tryz.prog.info? 107).map (·.size) = some T.length) := by rw [hT]; exact infoSet hus
        have HJT : Hid ((Tryz.prog.info? 107).map (·.size) = some T.toArray.size) := by rw [hT]; exact infoSetA hus
        have HAT : Hid (T.toArray.all (·.oneCell') = true) := by rw [hT]; exact all_plain (sB_plain _)
        have HOT : Hid ((sB noB).toArray.size = T.toArray.size) := by show _ = _; rw [List.size_toArray, List.size_toArray, hT, sB_len, sB_len, hus]; rfl
        have HVT := hide hT
        rw [← hT]
        obtain ⟨w8, hw8⟩ : ∃ w8, w8 = w7.setRow B T.toArray := ⟨_, rfl⟩
        have hst8 := set_store (w' := w8) F7.out HS7.out H7.out hB0 hbw hus (by rw [hw8, hT])
        have H8 := hide hst8.1
        have F8 := hide hst8.2.1
        have HS8 := hide hst8.2.2.1
        have HW8 := hide hw8
        have HOLD : Hid ((sB cs').toArray.size = T.toArray.size) := by show _ = _; rw [List.size_toArray, List.size_toArray, hT, sB_len, sB_len, hus, hcs']
        have hlt7 := HS7.out.1.lt
        clear hw8 hst8 hT
        go_wp2_with (refine wpList_store_row rfl 107 _ _ rfl B T.toArray rfl rfl 107 _ HS7.out.1 HJT.out HOLD.out HAT.out ?_)
        rw [← HW8.out]
        obtain ⟨gk, rfl⟩ : ∃ x, gk = x + 1 := ⟨gk - 1, by omega⟩
        go_roundg gk
        case measure => omega
        case rel =>
          refine ⟨false, bd5, s5, us, rfl, hus, HS8.out, H8.out, F8.out, HBAD5.out, fun h => ?_⟩
          obtain ⟨e1, e2, e3⟩ := HGOOD5.out h
          exact ⟨e1, by simp only [Bool.false_eq_true, if_false]; omega, (fun h => by cases h), fun _ => e3⟩
      · -- other items, or the end
        obtain ⟨g1, g2, _, g4⟩ := HGOOD.out rfl
        obtain ⟨c', m, hm, hmf⟩ := g4 rfl
        have HM := hide hm
        simp only [Bool.false_eq_true, if_false] at g2
        clear g4 hm HBAD HGOOD
        obtain ⟨c, hc⟩ : ∃ c, c = nextN t s'.k := ⟨_, rfl⟩
        have KN := hide (next_gen H2.out)
        rw [← hc] at KN
        have s93 : seesM t s' 93 = decide (c = 93) := by rw [hc]; exact sees_nx (by decide)
        have HS93 := hide s93
        clear hc s93
        go_wp2_with fail
        refine KN.out.mono ?_
        rintro e w3b ⟨rfl, ra3, fr3, _⟩
        have H2b := hide ra3
        have F2b := hide (F2.out.trans fr3)
        have HSrb := hide (fr3.ks _ _ HSr.out)
        clear ra3 fr3 KN H2 F2 HSr c0 c1 c2 f1 f2 hl hltr
        obtain ⟨wr, hwr⟩ : ∃ x, x = w3b := ⟨_, rfl⟩
        subst hwr
        have H2 := H2b
        have F2 := F2b
        have HSr := HSrb
        clear H2b F2b HSrb
        have hltr := HSr.out.1.lt
        by_cases h93 : c = 93
        · have q93 : ((c : Int) != 93) = false := by rw [h93]; rfl
          have HX : Hid (∀ {w5 : World}, ((false = false ∧ seesM t s' 93 = true ∧ RA w5 p r base t s'.up false hv n) ∨ ((false = true ∨ seesM t s' 93 = false) ∧ RA w5 p r base t s' true hv n)) → ∃ (bd : Bool) (s5 : RS), RA w5 p r base t s5 bd hv n ∧ (bd = true → RI = .bad s5) ∧ (bd = false → ∃ c, RI = .ok c s5)) := by
            intro w5 hE
            have hs : seesM t s' 93 = true := by rw [HS93.out]; exact decide_eq_true h93
            rcases hE with ⟨_, _, ra⟩ | ⟨h, _⟩
            · refine ⟨false, s'.up, ra, (fun h => by cases h), fun _ => ⟨c', ?_⟩⟩
              rw [← HM.out]
              unfold itemsM
              rw [if_pos hs]
            · rcases h with h | h
              · cases h
              · rw [hs] at h; cases h
          clear h93 HM
          have KE := hide (eats_gen 93 H2.out ht)
          go_wp2_with fail
          refine KE.out.mono ?_
          rintro e w5 ⟨rfl, fr5, hE5⟩
          have F5 := hide (F2.out.trans fr5)
          have HS5 := hide (fr5.ks _ _ HSr.out)
          have hst : ∃ (bd : Bool) (s5 : RS), RA w5 p r base t s5 bd hv n ∧ (bd = true → RI = .bad s5) ∧ (bd = false → ∃ c, RI = .ok c s5) := HX.out hE5
          obtain ⟨bd5, s5, ra5, hbad5, hgood5⟩ := hst
          have H5 := hide ra5
          have HBAD5 := hide hbad5
          have HGOOD5 := hide hgood5
          clear KE hE5 fr5 ra5 hbad5 hgood5 HX
          obtain ⟨m3, m5, m6, g5, g6, mr, gr, hrl⟩ := H5.out.more
          have hl := H5.out.rk.lt
          go_upto_region 13 with fail
          generalize hw9 : World.setCell _ _ _ = w6
          have hup := H5.out.hvs w6 hw9
          have H6 := hide hup.1
          have F6 := hide (F5.out.trans hup.2)
          have HS6 := hide (hup.2.ks _ _ HS5.out)
          have hlt6 := HS6.out.1.lt
          clear hw9 hup m3 m5 m6 g5 g6 mr gr hrl hl
          obtain ⟨V, hV⟩ : ∃ V, V = sB cs' := ⟨_, rfl⟩
          have HIV : Hid ((Tryz.prog.info? 107).map (·.size) = some V.length) := by rw [hV]; exact infoSet hcs'
          have HJV : Hid ((Tryz.prog.info? 107).map (·.size) = some V.toArray.size) := by rw [hV]; exact infoSetA hcs'
          have HAV : Hid (V.toArray.all (·.oneCell') = true) := by rw [hV]; exact all_plain (sB_plain _)
          have HOV : Hid ((sB noB).toArray.size = V.toArray.size) := by show _ = _; rw [List.size_toArray, List.size_toArray, hV, sB_len, sB_len, hcs']; rfl
          have HVV := hide hV
          have HRG6 : Hid (World.rangeAt w6 B 0 V) := by rw [hV]; exact HS6.out.1.rangeL
          have KF := hide (folded_any cs' hcs' H6.out.rk)
          rw [← hV] at KF
          clear hV
          go_wp2_with (refine wpList_load_mid rfl 107 _ rfl (B) 0 rfl V _ HRG6.out Tryz.underlying107 rfl HIV.out ?_)
          refine KF.out.mono ?_
          rintro e w7 ⟨ds, hds, rfl, hx7⟩
          have H7 := hide (H6.out.ex hx7)
          have F7 := hide (F6.out.trans (Fr.ex hx7 (by have := F6.out.eb.size; omega)))
          have HS7 := hide (HS6.out.ex hx7 (by simp))
          clear hx7 KF
          obtain ⟨U, hU⟩ : ∃ V, V = sB ds := ⟨_, rfl⟩
          have HIU : Hid ((Tryz.prog.info? 107).map (·.size) = some U.length) := by rw [hU]; exact infoSet hds
          have HJU : Hid ((Tryz.prog.info? 107).map (·.size) = some U.toArray.size) := by rw [hU]; exact infoSetA hds
          have HAU : Hid (U.toArray.all (·.oneCell') = true) := by rw [hU]; exact all_plain (sB_plain _)
          have HOU : Hid ((sB noB).toArray.size = U.toArray.size) := by show _ = _; rw [List.size_toArray, List.size_toArray, hU, sB_len, sB_len, hds]; rfl
          have HVU := hide hU
          rw [← hU]
          obtain ⟨w8, hw8⟩ : ∃ w8, w8 = w7.setRow B U.toArray := ⟨_, rfl⟩
          have hst8 := set_store (w' := w8) F7.out HS7.out H7.out hB0 hbw hds (by rw [hw8, hU])
          have H8 := hide hst8.1
          have F8 := hide hst8.2.1
          have HS8 := hide hst8.2.2.1
          have hlt8 := HS8.out.1.lt
          have HW8 := hide hw8
          have HOLD : Hid ((sB cs').toArray.size = U.toArray.size) := by show _ = _; rw [List.size_toArray, List.size_toArray, hU, sB_len, sB_len, hds, hcs']
          clear hw8 hst8
          clear hU
          obtain ⟨X, hX⟩ : ∃ X, X = exprL 2 0 0 0 false ds := ⟨_, rfl⟩
          have HBU : Hid (Tryz.prog.built 109 [(0, .int .i64 2), (5, .agg U.toArray)] = some X.toArray) := by rw [hX, HVU.out]; exact built_set ds hds
          have KND := hide (node_ex 2 0 0 0 false ds hds H8.out (by omega))
          rw [← hX] at KND
          have HRG8 : Hid (World.rangeAt w8 B 0 U) := by rw [HVU.out]; exact HS8.out.1.rangeL
          clear hX
          go_upto_region 16 with (refine wpList_store_row rfl 107 _ _ rfl B U.toArray rfl rfl 107 _ HS7.out.1 HJU.out HOLD.out HAU.out ?_)
          rw [← HW8.out]
          go_wp2_with (first | refine wpList_load_mid rfl 107 _ rfl (B) 0 rfl U _ HRG8.out Tryz.underlying107 rfl HIU.out ?_ | (refine wpList_buildTo rfl 109 _ rfl _ rfl X.toArray (by simp only [List.map_toArray, List.map_cons, List.map_nil, Act.eval, List.getElem?_toArray, Array.getD_eq_getD_getElem?, List.getElem?_cons_succ, List.getElem?_cons_zero, Option.getD_some]; exact HBU.out) ?_))
          refine KND.out.mono ?_
          rintro e wz ⟨rfl, hz, frz⟩
          have HZ := hide hz
          have FZ := hide (F8.out.trans frz)
          clear hz frz
          go_wp2_with fail
          go_ret
          exact ⟨FZ.out, ⟨_, rfl⟩, bd5, s5, HBAD5.out, HGOOD5.out, HZ.out⟩
        · have q93 : ((c : Int) != 93) = true := by rw [bne_iff_ne]; omega
          have HMI : Hid (RI = (itemM t s').bind fun c2 s2 => itemsM t m (withC c' c2) s2) := by
            show RI = _
            rw [← HM.out]
            conv => lhs; unfold itemsM
            rw [if_neg]
            rw [HS93.out]
            simpa using h93
          have KI := hide (item_any H2.out ht)
          clear h93 HM
          go_wp2_with fail
          refine KI.out.mono ?_
          rintro e w5 ⟨hf5, ⟨ds, hds, rfl⟩, hp5⟩
          have F5 := hide (F2.out.trans hf5)
          have HS5 := hide (hf5.ks _ _ HSr.out)
          have hst : ∃ (bd : Bool) (s5 : RS), RA w5 p r base t s5 bd hv n ∧ (bd = true → RI = .bad s5) ∧ (bd = false → s5.k ≤ t.size ∧ s'.k < s5.k ∧ ∃ c m, itemsM t (m + 1) c s5 = RI ∧ t.size - s5.k ≤ m) := by
            cases hI : itemM t s' with
            | bad s5 =>
              rw [hI] at hp5
              refine ⟨true, s5, hp5, fun _ => ?_, fun h => by cases h⟩
              rw [HMI.out, hI]; rfl
            | ok c2 s5 =>
              rw [hI] at hp5
              have hl5 := item_lt hI
              have hz5 := (item_mv hI).sz g1
              refine ⟨false, s5, hp5, (fun h => by cases h), fun _ => ⟨hz5, hl5, ?_⟩⟩
              exact ⟨withC c' c2, m - 1, by rw [HMI.out, hI, show m - 1 + 1 = m by omega]; rfl, by omega⟩
          obtain ⟨bd5, s5, ra5, hbad5, hgood5⟩ := hst
          have HBAD5 := hide hbad5
          have HGOOD5 := hide hgood5
          clear KI hf5 hp5 hbad5 hgood5
          obtain ⟨w6, hw7⟩ : ∃ w7, w7 = (w5.alloc (Obj.cells (sB noB).toArray 107)).setRow w5.heap.size (sB ds).toArray := ⟨_, rfl⟩
          obtain ⟨a1, a2, a3, a4, a5⟩ := set_new F5.out ra5 hds hw7 hbw
          have Hw6 := hide a1
          have Fw6 := hide a2
          have HSw6 := hide a3
          have HN5 := hide a4
          have HT6 := hide (a5 _ _ HS5.out)
          have HW7 := hide hw7
          obtain ⟨V, hV⟩ : ∃ V, V = sB ds := ⟨_, rfl⟩
          have HIV : Hid ((Tryz.prog.info? 107).map (·.size) = some V.length) := by rw [hV]; exact infoSet hds
          have HJV : Hid ((Tryz.prog.info? 107).map (·.size) = some V.toArray.size) := by rw [hV]; exact infoSetA hds
          have HAV : Hid (V.toArray.all (·.oneCell') = true) := by rw [hV]; exact all_plain (sB_plain _)
          have HOV : Hid ((sB noB).toArray.size = V.toArray.size) := by show _ = _; rw [List.size_toArray, List.size_toArray, hV, sB_len, sB_len, hds]; rfl
          have HVV := hide hV
          rw [← hV] at HW7 ⊢
          clear hw7 a1 a2 a3 a4 a5 hV
          go_upto_region 10 with (refine wpList_store_row rfl 107 _ _ rfl (w5.heap.size) V.toArray rfl rfl 107 _ HN5.out HJV.out HOV.out HAV.out ?_)
          rw [show (w5.alloc (Obj.cells Tryz.zeroCells107 107)).setRow w5.heap.size V.toArray = w6 from HW7.out.symm]
          clear HW7 HN5
          have hltw6 := HSw6.out.1.lt
          clear ra5
          obtain ⟨U, hU⟩ : ∃ V, V = sB cs' := ⟨_, rfl⟩
          have HIU : Hid ((Tryz.prog.info? 107).map (·.size) = some U.length) := by rw [hU]; exact infoSet hcs'
          have HJU : Hid ((Tryz.prog.info? 107).map (·.size) = some U.toArray.size) := by rw [hU]; exact infoSetA hcs'
          have HAU : Hid (U.toArray.all (·.oneCell') = true) := by rw [hU]; exact all_plain (sB_plain _)
          have HOU : Hid ((sB noB).toArray.size = U.toArray.size) := by show _ = _; rw [List.size_toArray, List.size_toArray, hU, sB_len, sB_len, hcs']; rfl
          have HVU := hide hU
          have HRG6 : Hid (World.rangeAt w6 w5.heap.size 0 V) := by rw [HVV.out]; exact HSw6.out.1.rangeL
          have HRG7 : Hid (World.rangeAt w6 B 0 U) := by rw [hU]; exact HT6.out.1.rangeL
          have KU := hide (fun W => union_any cs' ds W hcs' hds)
          rw [← hU, ← show V = sB ds from HVV.out] at KU
          have hltB := HT6.out.1.lt
          clear hU
          go_wp2_with (first | refine wpList_load_mid rfl 107 _ rfl (B) 0 rfl U _ HRG7.out Tryz.underlying107 rfl HIU.out ?_ | refine wpList_load_mid rfl 107 _ rfl (w5.heap.size) 0 rfl V _ HRG6.out Tryz.underlying107 rfl HIV.out ?_)
          refine (KU.out _).mono ?_
          rintro e w7 ⟨rfl, hx7⟩
          have H7 := hide (Hw6.out.ex hx7)
          have F7 := hide (Fw6.out.trans (Fr.ex hx7 (by have := Fw6.out.eb.size; omega)))
          have HS7 := hide (HT6.out.ex hx7 (by simp))
          have hus : (List.zipWith (· || ·) cs' ds).length = 129 := by simp [hcs', hds]
          obtain ⟨us, hus0⟩ : ∃ us, us = List.zipWith (· || ·) cs' ds := ⟨_, rfl⟩
          rw [← hus0] at hus ⊢
          clear hx7 KU hus0
          obtain ⟨T, hT⟩ : ∃ V, V = sB us := ⟨_, rfl⟩
          have HIT : Hid ((Tryz.prog.info? 107).map (·.size) = some T.length) := by rw [hT]; exact infoSet hus
          have HJT : Hid ((Tryz.prog.info? 107).map (·.size) = some T.toArray.size) := by rw [hT]; exact infoSetA hus
          have HAT : Hid (T.toArray.all (·.oneCell') = true) := by rw [hT]; exact all_plain (sB_plain _)
          have HOT : Hid ((sB noB).toArray.size = T.toArray.size) := by show _ = _; rw [List.size_toArray, List.size_toArray, hT, sB_len, sB_len, hus]; rfl
          have HVT := hide hT
          rw [← hT]
          obtain ⟨w8, hw8⟩ : ∃ w8, w8 = w7.setRow B T.toArray := ⟨_, rfl⟩
          have hst8 := set_store (w' := w8) F7.out HS7.out H7.out hB0 hbw hus (by rw [hw8, hT])
          have H8 := hide hst8.1
          have F8 := hide hst8.2.1
          have HS8 := hide hst8.2.2.1
          have HW8 := hide hw8
          have HOLD : Hid ((sB cs').toArray.size = T.toArray.size) := by show _ = _; rw [List.size_toArray, List.size_toArray, hT, sB_len, sB_len, hus, hcs']
          have hlt7 := HS7.out.1.lt
          clear hw8 hst8 hT
          go_wp2_with (refine wpList_store_row rfl 107 _ _ rfl B T.toArray rfl rfl 107 _ HS7.out.1 HJT.out HOLD.out HAT.out ?_)
          rw [← HW8.out]
          obtain ⟨gk, rfl⟩ : ∃ x, gk = x + 1 := ⟨gk - 1, by omega⟩
          go_roundg gk
          case measure => omega
          case rel =>
            refine ⟨false, bd5, s5, us, rfl, hus, HS8.out, H8.out, F8.out, HBAD5.out, fun h => ?_⟩
            obtain ⟨e1, e2, e3⟩ := HGOOD5.out h
            exact ⟨e1, by simp only [Bool.false_eq_true, if_false]; omega, (fun h => by cases h), fun _ => e3⟩
end Go.Proofs.YtgmjjhmnchefbaaGreatDoor.G
