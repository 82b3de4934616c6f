/- L23 L24, one behind the other. -/
import Derived.Test.YtgmjjhmnchefbaaGreatDoorM31
import Derived.Test.YtgmjjhmnchefbaaGreatDoorM37
import Derived.Test.YtgmjjhmnchefbaaGreatDoorM28
import Derived.Test.YtgmjjhmnchefbaaGreatDoorM29
set_option linter.unusedVariables false
set_option linter.unusedSimpArgs false
/- The document's own reader of patterns: one atom. -/
namespace Go.Proofs.YtgmjjhmnchefbaaGreatDoor.G
open Go.RowKit

theorem esc_d {t : ByteArray} {s : RS} : (escapeM t s).st.d = s.d := by
  unfold escapeM
  split
  · rfl
  · split
    · rfl
    · split <;> rfl
theorem plain_d {t : ByteArray} {but : List UInt8} {s : RS} : (plainM t but s).st.d = s.d := by
  unfold plainM
  split
  · rfl
  · split <;> rfl
theorem bind_d {α β : Type} {m : Res α} {f : α → RS → Res β} {d : Nat} (h : m.st.d = d) (hf : ∀ a s', s'.d = d → (f a s').st.d = d) : (m.bind f).st.d = d := by
  cases m with
  | bad s => exact h
  | ok a s => exact hf a s h
theorem pair_d {t : ByteArray} {a : UInt8} {s : RS} : (pairEndM t a s).st.d = s.d := by
  unfold pairEndM
  dsimp only
  obtain ⟨x, hx⟩ : ∃ x, x = (decide (a.toNat ≤ 125) && seesM t s 92) := ⟨_, rfl⟩
  rw [← hx]
  have e : (if x = true then s.up else s).d = s.d := by cases x <;> rfl
  generalize (if x = true then s.up else s) = u at e
  split
  · exact e
  · split
    · exact e
    · split
      · split
        · exact e
        · exact e
      · rw [plain_d]; exact e
theorem tailI_d {t : ByteArray} {b : UInt8} {s : RS} : (itemTail t b s).st.d = s.d := by
  unfold itemTail
  split
  · exact bind_d (d := s.d) pair_d (fun _ _ h => h)
  · rfl
theorem item_d {t : ByteArray} {s : RS} : (itemM t s).st.d = s.d := by
  unfold itemM
  split
  · refine bind_d (d := s.d) esc_d (fun x s' h => ?_)
    split
    · rw [tailI_d]; exact h
    · exact h
  · exact bind_d (d := s.d) plain_d (fun x s' h => by rw [tailI_d]; exact h)
theorem itemsM_d {t : ByteArray} : ∀ (n : Nat) (c : Cls) (s : RS), (itemsM t n c s).st.d = s.d
  | 0, c, s => rfl
  | n + 1, c, s => by
    unfold itemsM
    split
    · rfl
    · exact bind_d (d := s.d) item_d (fun x s' h => by rw [itemsM_d n]; exact h)
theorem items_d {t : ByteArray} {s s' : RS} (h : itemsR t (s.up.took t 94) = .bad s') : s'.d = s.d := by
  have hd : (s.up.took t 94).d = s.d := by unfold RS.took; split <;> rfl
  have h1 : (itemsR t (s.up.took t 94)).st.d = s.d := by
    unfold itemsR
    exact bind_d (d := s.d) (item_d.trans hd) (fun x s' h => by rw [itemsM_d]; exact h)
  rw [h] at h1
  exact h1
theorem escape_bad_d {t : ByteArray} {s : RS} : ∀ s', escapeM t s = .bad s' → s'.d = s.d := fun s' h => by
  have h1 := esc_d (t := t) (s := s)
  rw [h] at h1
  exact h1
theorem plain_lt {b : UInt8} (h : plB b = true) : b.toNat < 128 := by
  unfold plB at h
  simp at h
  exact h.1
theorem plain_spec (b : UInt8) (x y : Res UInt8) : (if 128 ≤ b.toNat ∨ b ∈ specL then y else x) = if plB b = true then x else y := by
  have h : plB b = true ↔ ¬ (128 ≤ b.toNat ∨ b ∈ specL) := by
    unfold plB
    rw [Bool.and_eq_true, decide_eq_true_eq, Bool.not_eq_true', List.contains_eq_mem, decide_eq_false_iff_not]
    show b.toNat < 128 ∧ ¬ b ∈ specL ↔ _
    rw [not_or]
    constructor
    · rintro ⟨h1, h2⟩; exact ⟨by omega, h2⟩
    · rintro ⟨h1, h2⟩; exact ⟨by omega, h2⟩
  by_cases hp : plB b = true
  · rw [if_pos hp, if_neg (h.1 hp)]
  · rw [if_neg hp, if_pos (Classical.not_not.1 (fun h9 => hp (h.2 h9)))]
set_option maxHeartbeats 8000000 in
set_option maxRecDepth 100000 in
theorem atom_c {t : ByteArray} {p r base d0 m : Nat} {E : RS → Res Pt} (ht : t.size ≤ 60) (hd6 : d0 ≤ 6) (hm : m ≤ 7) (hE : FineE t m E) (hEi : EI E) (hX : d0 < 6 → ExprC t p r base (d0 + 1) E) (hEnd : d0 < 6 → ∀ s' : RS, s'.d = d0 + 1 → s'.k = t.size → E s' = .ok (.alt [.seq []]) s') : AtomC t p r base d0 E := by
  intro w s hv n h hsd hg5 hks hn
  have Hw := hide h
  have Fw := hide (Fr.refl w base)
  have hbw := h.bw
  have HGR := hide (fun (W : World) (hW : RA W p r base t s false hv n) (h40 : seesM t s 40 = true) => group_any (E := E) hW ht (by omega) hg5 h40 hn hm hE hEi (by rw [hsd]; exact hX) (by rw [hsd]; exact hEnd))
  have HST := hide (fun (W : World) (hW : RA W p r base t s false hv n) (h91 : seesM t s 91 = true) => set_any hW ht (by omega) h91)
  obtain ⟨b, hb, hbc⟩ := byte_nxt hks
  have hAM : atomM t E s = if b = 40 then parenM t E s else if b = 91 then (setM t s).bind fun c s' => .ok (.single c) s' else if b = 46 then .ok (.single dotC) s.up
      else if b = 92 then (escapeM t s.up).bind fun y s' => .ok (.single (sing s'.f y.1)) s' else (plainM t specL s).bind fun b s' => .ok (.single (sing s'.f (oneC b.toNat))) s' := by simp only [atomM, hb]
  have HAM := hide hAM
  have HB := hide hb
  obtain ⟨c, hc⟩ : ∃ c, c = nextN t s.k := ⟨_, rfl⟩
  have hcb : c = b.toNat := hc.trans hbc
  have hbn : ∀ x : UInt8, b = x ↔ c = x.toNat := fun x => by rw [hcb, UInt8.toNat_inj]
  have HCB := hide hcb
  have sx : ∀ x : UInt8, x.toNat ≠ 0 → seesM t s x = decide (c = x.toNat) := fun x hx => by rw [hc]; exact sees_nx hx
  have HSX := hide sx
  have KN := hide (next_gen h)
  rw [← hc] at KN
  have hc256 : c < 256 := by rw [hc]; exact nextN_lt _ _
  clear h hE hEi hX hEnd hb hbc hAM hc hcb sx
  obtain ⟨k, d, f, g, nm⟩ := s
  dsimp only at hsd hg5 hks hn HGR HST
  go_enter Tryz.func71, Tryz.ntmps71
  go_wp2_with fail
  refine KN.out.mono ?_
  rintro e w1 ⟨rfl, ra1, fr1, _⟩
  have H1 := hide ra1
  have F1 := hide fr1
  clear ra1 fr1 KN
  by_cases h40 : c = 40
  · have q40 : ((c : Int) == 40) = true := by rw [h40]; rfl
    have HM : Hid (atomM t E ⟨k, d, f, g, nm⟩ = parenM t E ⟨k, d, f, g, nm⟩) := by show _ = _; rw [HAM.out, if_pos ((hbn 40).2 h40)]
    have KG := hide (HGR.out w1 H1.out (by rw [HSX.out 40 (by decide)]; exact decide_eq_true h40))
    clear h40 hbn
    go_wp2_with fail
    refine KG.out.mono ?_
    rintro e w2 ⟨fr2, hp2⟩
    obtain ⟨y2, hy2, _⟩ := hp2.split
    subst hy2
    have F2 := hide (F1.out.trans fr2)
    have HP2 := hide hp2
    clear fr2 hp2 KG
    go_wp2_with fail
    go_ret
    exact ⟨F2.out, by rw [HM.out]; exact HP2.out⟩
  have q40 : ((c : Int) == 40) = false := by rw [beq_eq_false_iff_ne]; omega
  by_cases h91 : c = 91
  · have q91 : ((c : Int) == 91) = true := by rw [h91]; rfl
    have h91s : seesM t ⟨k, d, f, g, nm⟩ 91 = true := by rw [HSX.out 91 (by decide)]; exact decide_eq_true h91
    have HM : Hid (atomM t E ⟨k, d, f, g, nm⟩ = (setM t ⟨k, d, f, g, nm⟩).bind fun c s' => .ok (.single c) s') := by show _ = _; rw [HAM.out, if_neg (fun e => h40 ((hbn 40).1 e)), if_pos ((hbn 91).2 h91)]
    have HSI := hide (set_items h91s)
    have KS' := hide (HST.out w1 H1.out h91s)
    clear h91 hbn
    go_wp2_with fail
    refine KS'.out.mono ?_
    rintro e w2 ⟨fr2, ⟨y2, rfl⟩, bd, s2, hbad, hgood, ra2⟩
    have F2 := hide (F1.out.trans fr2)
    have H2 := hide ra2
    have HBAD := hide hbad
    have HGOOD := hide hgood
    clear fr2 ra2 hbad hgood KS'
    go_wp2_with fail
    go_ret
    cases bd with
    | true =>
      refine ⟨F2.out, RdPost.mkBad (s' := s2) ?_ rfl ?_ H2.out (by show _ ≤ 20000 + 10 * (7 - d) + 0; omega)⟩
      · rw [HM.out, HSI.out, HBAD.out rfl]; rfl
      · exact items_d (HBAD.out rfl)
    | false =>
      obtain ⟨cc, hcc⟩ := HGOOD.out rfl
      obtain ⟨c9, hset⟩ : ∃ c9, setM t ⟨k, d, f, g, nm⟩ = .ok c9 s2 := ⟨_, by rw [HSI.out, hcc]; rfl⟩
      have hlt2 := (set_mv hset).2
      dsimp only at hlt2
      exact ⟨F2.out, RdPost.mkOk (by rw [HM.out, hset]; rfl) rfl H2.out (by show _ + 40 + 50 * k ≤ n + 50 * s2.k + 0; omega)⟩
  have q91 : ((c : Int) == 91) = false := by rw [beq_eq_false_iff_ne]; omega
  by_cases h46 : c = 46
  · have q46 : ((c : Int) == 46) = true := by rw [h46]; rfl
    have HM : Hid (atomM t E ⟨k, d, f, g, nm⟩ = .ok (.single dotC) ⟨k + 1, d, f, g, nm⟩) := by show _ = _; rw [HAM.out, if_neg (fun e => h40 ((hbn 40).1 e)), if_neg (fun e => h91 ((hbn 91).1 e)), if_pos ((hbn 46).2 h46)]; rfl
    clear h46 hbn
    obtain ⟨c0, c1, c2, f1, f2, hl⟩ := H1.out.facts
    have c1 : w1.cell? ⟨p, 1, none⟩ = some (.int .i64 (k : Int)) := c1
    go_upto_region 9 with fail
    generalize hw9 : World.setCell _ _ _ = w2
    have hup := H1.out.up2 w2 hw9 (by simp)
    have H2 : Hid (RA w2 p r base t ⟨k + 1, d, f, g, nm⟩ false hv n) := hup.1
    have F2 := hide (F1.out.trans hup.2)
    clear hw9 hup
    clear c0 c1 c2 f1 f2 hl
    obtain ⟨m3, m5, m6, g5, g6, mr, gr, hrl⟩ := H2.out.more
    have hl := H2.out.rk.lt
    go_upto_region 10 with fail
    generalize hw9 : World.setCell _ _ _ = w3
    have hup := H2.out.hvs w3 hw9
    have Hw3 := hide hup.1
    have Fw3 := hide (F2.out.trans hup.2)
    clear hw9 hup m3 m5 m6 g5 g6 mr gr hrl hl
    have KF := hide (fun W => full_any W)
    go_wp2_with fail
    refine (KF.out _).mono ?_
    rintro e w4 ⟨rfl, hx4⟩
    have Fw4 := hide (Fw3.out.trans (Fr.ex hx4 (by have := Fw3.out.eb.size; omega)))
    have hra4 := Hw3.out.ex hx4
    have hes : (noB.map (!·)).length = 129 := by rw [List.length_map]; rfl
    obtain ⟨es, hes0⟩ : ∃ es, es = noB.map (!·) := ⟨_, rfl⟩
    rw [← hes0] at hes ⊢
    clear hx4 KF hes0
    obtain ⟨w5, hw7⟩ : ∃ w7, w7 = (w4.alloc (Obj.cells (sB noB).toArray 107)).setRow w4.heap.size (sB es).toArray := ⟨_, rfl⟩
    obtain ⟨a1, a2, a3, a4, a5⟩ := set_new Fw4.out hra4 hes hw7 hbw
    have Hw5 := hide a1
    have Fw5 := hide a2
    have HSw5 := hide a3
    have HN5 := hide a4
    have HW7 := hide hw7
    obtain ⟨V, hV⟩ : ∃ V, V = sB es := ⟨_, rfl⟩
    have HIV : Hid ((Tryz.prog.info? 107).map (·.size) = some V.length) := by rw [hV]; exact infoSet hes
    have HJV : Hid ((Tryz.prog.info? 107).map (·.size) = some V.toArray.size) := by rw [hV]; exact infoSetA hes
    have HAV : Hid (V.toArray.all (·.oneCell') = true) := by rw [hV]; exact all_plain (sB_plain _)
    have HOV : Hid ((sB noB).toArray.size = V.toArray.size) := by show _ = _; rw [List.size_toArray, List.size_toArray, hV, sB_len, sB_len, hes]; rfl
    have HVV := hide hV
    rw [← hV] at HW7 ⊢
    clear hw7 a1 a2 a3 a4 a5 hV
    go_upto_region 11 with (refine wpList_store_row rfl 107 _ _ rfl (w4.heap.size) V.toArray rfl rfl 107 _ HN5.out HJV.out HOV.out HAV.out ?_)
    rw [show (w4.alloc (Obj.cells Tryz.zeroCells107 107)).setRow w4.heap.size V.toArray = w5 from HW7.out.symm]
    clear HW7 HN5
    have hltw5 := HSw5.out.1.lt
    clear hra4
    obtain ⟨X, hX⟩ : ∃ X, X = exprL 2 0 0 0 false es := ⟨_, rfl⟩
    have HBU : Hid (Tryz.prog.built 109 [(0, .int .i64 2), (5, .agg V.toArray)] = some X.toArray) := by rw [hX, HVV.out]; exact built_set es hes
    have KND := hide (node_ex 2 0 0 0 false es hes Hw5.out (by omega))
    rw [← hX] at KND
    have HRG8 : Hid (World.rangeAt w5 w4.heap.size 0 V) := by rw [HVV.out]; exact HSw5.out.1.rangeL
    have hltx := HSw5.out.1.lt
    clear hX
    go_wp2_with (first | refine wpList_load_mid rfl 107 _ rfl (w4.heap.size) 0 rfl V _ HRG8.out Tryz.underlying107 rfl HIV.out ?_ | (refine wpList_buildTo rfl 109 _ rfl _ rfl X.toArray (by simp only [List.map_toArray, List.map_cons, List.map_nil, Act.eval, List.getElem?_toArray, Array.getD_eq_getD_getElem?, List.getElem?_cons_succ, List.getElem?_cons_zero, Option.getD_some]; exact HBU.out) ?_))
    refine KND.out.mono ?_
    rintro e wz ⟨rfl, hz, frz⟩
    have HZ := hide hz
    have FZ := hide (Fw5.out.trans frz)
    clear hz frz
    go_wp2_with fail
    go_ret
    exact ⟨FZ.out, RdPost.mkOk HM.out rfl HZ.out (by show _ + 40 + 50 * k ≤ n + 50 * (k + 1) + 0; omega)⟩
  have q46 : ((c : Int) == 46) = false := by rw [beq_eq_false_iff_ne]; omega
  by_cases h92 : c = 92
  · have q92 : ((c : Int) == 92) = true := by rw [h92]; rfl
    have HM : Hid (atomM t E ⟨k, d, f, g, nm⟩ = (escapeM t ⟨k + 1, d, f, g, nm⟩).bind fun y s' => .ok (.single (sing s'.f y.1)) s') := by show _ = _; rw [HAM.out, if_neg (fun e => h40 ((hbn 40).1 e)), if_neg (fun e => h91 ((hbn 91).1 e)), if_neg (fun e => h46 ((hbn 46).1 e)), if_pos ((hbn 92).2 h92)]; rfl
    clear h92 hbn
    obtain ⟨c0, c1, c2, f1, f2, hl⟩ := H1.out.facts
    have c1 : w1.cell? ⟨p, 1, none⟩ = some (.int .i64 (k : Int)) := c1
    go_upto_region 14 with fail
    generalize hw9 : World.setCell _ _ _ = w2
    have hup := H1.out.up2 w2 hw9 (by simp)
    have H2 : Hid (RA w2 p r base t ⟨k + 1, d, f, g, nm⟩ false hv n) := hup.1
    have F2 := hide (F1.out.trans hup.2)
    clear hw9 hup
    clear c0 c1 c2 f1 f2 hl
    have KE := hide (escape_any H2.out ht)
    go_wp2_with fail
    refine KE.out.mono ?_
    rintro e w4 ⟨hf4, hp4⟩
    have Fw4 := hide (F2.out.trans hf4)
    have hst : ∃ bd sx cs mm, cs.length = 129 ∧ e = .returned (.tuple #[.agg (sB cs).toArray, .int .i64 mm]) ∧ RA w4 p r base t sx bd hv n ∧ (bd = true → atomM t E ⟨k, d, f, g, nm⟩ = Res.bad sx ∧ sx.d = d) ∧ (bd = false → sx = ⟨k + 2, d, f, g, nm⟩ ∧ ∃ cc, atomM t E ⟨k, d, f, g, nm⟩ = Res.ok (.single cc) sx) := by
      have hm := HM.out
      have hdd := escape_bad_d (t := t) (s := ⟨k + 1, d, f, g, nm⟩)
      revert hp4 hm hdd
      cases hE : escapeM t ⟨k + 1, d, f, g, nm⟩ with
      | bad s' =>
        rintro ⟨⟨cs, mm, hcs, he, _⟩, hra⟩ hm hdd
        exact ⟨true, s', cs, mm, hcs, he, hra, (fun _ => ⟨hm, hdd _ rfl⟩), fun h => by cases h⟩
      | ok x s' =>
        rintro ⟨⟨cs, mm, hcs, he, hv9⟩, hra⟩ hm hdd
        exact ⟨false, s', cs, mm, hcs, he, hra, (fun h => by cases h), fun _ => ⟨(escape_flag hE).2, _, hm⟩⟩
    obtain ⟨bd, sx, cs, mm, hcs, rfl, hra4, hbad, hgood⟩ := hst
    have HBAD := hide hbad
    have HGOOD := hide hgood
    clear KE hf4 hp4 hbad hgood
    obtain ⟨w5, hw7⟩ : ∃ w7, w7 = (w4.alloc (Obj.cells (sB noB).toArray 107)).setRow w4.heap.size (sB cs).toArray := ⟨_, rfl⟩
    obtain ⟨a1, a2, a3, a4, a5⟩ := set_new Fw4.out hra4 hcs hw7 hbw
    have Hw5 := hide a1
    have Fw5 := hide a2
    have HSw5 := hide a3
    have HN5 := hide a4
    have HW7 := hide hw7
    obtain ⟨V, hV⟩ : ∃ V, V = sB cs := ⟨_, rfl⟩
    have HIV : Hid ((Tryz.prog.info? 107).map (·.size) = some V.length) := by rw [hV]; exact infoSet hcs
    have HJV : Hid ((Tryz.prog.info? 107).map (·.size) = some V.toArray.size) := by rw [hV]; exact infoSetA hcs
    have HAV : Hid (V.toArray.all (·.oneCell') = true) := by rw [hV]; exact all_plain (sB_plain _)
    have HOV : Hid ((sB noB).toArray.size = V.toArray.size) := by show _ = _; rw [List.size_toArray, List.size_toArray, hV, sB_len, sB_len, hcs]; rfl
    have HVV := hide hV
    rw [← hV] at HW7 ⊢
    clear hw7 a1 a2 a3 a4 a5 hV
    go_upto_region 15 with (refine wpList_store_row rfl 107 _ _ rfl (w4.heap.size) V.toArray rfl rfl 107 _ HN5.out HJV.out HOV.out HAV.out ?_)
    rw [show (w4.alloc (Obj.cells Tryz.zeroCells107 107)).setRow w4.heap.size V.toArray = w5 from HW7.out.symm]
    clear HW7 HN5
    have hltw5 := HSw5.out.1.lt
    clear hra4
    obtain ⟨m3, m5, m6, g5, g6, mr, gr, hrl⟩ := Hw5.out.more
    have hl := Hw5.out.rk.lt
    go_upto_region 16 with fail
    generalize hw9 : World.setCell _ _ _ = w6
    have hup := Hw5.out.hvs w6 hw9
    have Hw6 := hide hup.1
    have Fw6 := hide (Fw5.out.trans hup.2)
    have HSw6 := hide (hup.2.ks _ _ HSw5.out)
    clear hw9 hup m3 m5 m6 g5 g6 mr gr hrl hl
    obtain ⟨X, hX⟩ : ∃ X, X = exprL 2 0 0 0 false cs := ⟨_, rfl⟩
    have HBU : Hid (Tryz.prog.built 109 [(0, .int .i64 2), (5, .agg V.toArray)] = some X.toArray) := by rw [hX, HVV.out]; exact built_set cs hcs
    have KND := hide (node_ex 2 0 0 0 false cs hcs Hw6.out (by omega))
    rw [← hX] at KND
    have HRG8 : Hid (World.rangeAt w6 w4.heap.size 0 V) := by rw [HVV.out]; exact HSw6.out.1.rangeL
    have hltx := HSw6.out.1.lt
    clear hX
    go_wp2_with (first | refine wpList_load_mid rfl 107 _ rfl (w4.heap.size) 0 rfl V _ HRG8.out Tryz.underlying107 rfl HIV.out ?_ | (refine wpList_buildTo rfl 109 _ rfl _ rfl X.toArray (by simp only [List.map_toArray, List.map_cons, List.map_nil, Act.eval, List.getElem?_toArray, Array.getD_eq_getD_getElem?, List.getElem?_cons_succ, List.getElem?_cons_zero, Option.getD_some]; exact HBU.out) ?_))
    refine KND.out.mono ?_
    rintro e wz ⟨rfl, hz, frz⟩
    have HZ := hide hz
    have FZ := hide (Fw6.out.trans frz)
    clear hz frz
    go_wp2_with fail
    go_ret
    cases bd with
    | true =>
      obtain ⟨a1, a2⟩ := HBAD.out rfl
      exact ⟨FZ.out, RdPost.mkBad a1 rfl a2 HZ.out (by show _ ≤ 20000 + 10 * (7 - d) + 0; omega)⟩
    | false =>
      obtain ⟨rfl, cc, a2⟩ := HGOOD.out rfl
      exact ⟨FZ.out, RdPost.mkOk a2 rfl HZ.out (by show _ + 40 + 50 * k ≤ n + 50 * (k + 2) + 0; omega)⟩
  have q92 : ((c : Int) == 92) = false := by rw [beq_eq_false_iff_ne]; omega
  have HM : Hid (atomM t E ⟨k, d, f, g, nm⟩ = (plainM t specL ⟨k, d, f, g, nm⟩).bind fun b s' => .ok (.single (sing s'.f (oneC b.toNat))) s') := by show _ = _; rw [HAM.out, if_neg (fun e => h40 ((hbn 40).1 e)), if_neg (fun e => h91 ((hbn 91).1 e)), if_neg (fun e => h46 ((hbn 46).1 e)), if_neg (fun e => h92 ((hbn 92).1 e))]
  have KP := hide (fun W => plain_any b W)
  rw [← show c = b.toNat from HCB.out] at KP
  obtain ⟨pl, hpl⟩ : ∃ pl, pl = plB b := ⟨_, rfl⟩
  rw [← hpl] at KP
  have hPM : plainM t specL ⟨k, d, f, g, nm⟩ = if pl = true then .ok b ⟨k + 1, d, f, g, nm⟩ else .bad ⟨k, d, f, g, nm⟩ := by
    unfold plainM
    dsimp only
    rw [HB.out]
    dsimp only
    rw [hpl]
    exact plain_spec b _ _
  have hc128 : pl = true → c < 128 := fun h => by rw [HCB.out]; exact plain_lt (by rw [← hpl]; exact h)
  have HPM := hide hPM
  have HC128 := hide hc128
  clear hpl hPM hc128 hbn h40 h91 h46 h92
  go_wp2_with fail
  refine (KP.out _).mono ?_
  rintro e w1b ⟨rfl, hw1b⟩
  rw [hw1b]
  clear hw1b
  cases pl with
  | false =>
    go_wp2_with fail
    refine (fail_any H1.out).mono ?_
    rintro e w5 ⟨rfl, h5, ks5, eb5⟩
    have F5 := hide (F1.out.trans ⟨ks5, eb5⟩)
    have H5 := hide h5
    clear h5 ks5 eb5
    go_wp2_with fail
    go_ret
    refine ⟨F5.out, RdPost.mkBad (s'' := ⟨k, d, f, g, nm⟩) (s' := ⟨k, d, f, g, nm⟩) ?_ rfl rfl H5.out (by show _ ≤ 20000 + 10 * (7 - d) + 0; omega)⟩
    rw [HM.out, HPM.out]
    rfl
  | true =>
    have hc1 := HC128.out rfl
    have HMM : Hid (∃ cc, atomM t E ⟨k, d, f, g, nm⟩ = .ok (.single cc) ⟨k + 1, d, f, g, nm⟩) := by
      refine ⟨sing f (oneC b.toNat), ?_⟩
      rw [HM.out, HPM.out]
      rfl
    obtain ⟨c0, c1, c2, f1, f2, hl⟩ := H1.out.facts
    have c1 : w1.cell? ⟨p, 1, none⟩ = some (.int .i64 (k : Int)) := c1
    go_upto_region 21 with fail
    generalize hw9 : World.setCell _ _ _ = w2
    have hup := H1.out.up2 w2 hw9 (by simp)
    have H2 : Hid (RA w2 p r base t ⟨k + 1, d, f, g, nm⟩ false hv n) := hup.1
    have F2 := hide (F1.out.trans hup.2)
    clear hw9 hup
    clear c0 c1 c2 f1 f2 hl
    obtain ⟨m3, m5, m6, g5, g6, mr, gr, hrl⟩ := H2.out.more
    have hl := H2.out.rk.lt
    go_upto_region 22 with fail
    generalize hw9 : World.setCell _ _ _ = w3
    have hup := H2.out.hvs w3 hw9
    have Hw3 := hide hup.1
    have Fw3 := hide (F2.out.trans hup.2)
    clear hw9 hup m3 m5 m6 g5 g6 mr gr hrl hl
    have K1 := hide (fun W => one_any c W hc1)
    go_wp2_with fail
    refine (K1.out _).mono ?_
    rintro e w4 ⟨rfl, hx4⟩
    have Fw4 := hide (Fw3.out.trans (Fr.ex hx4 (by have := Fw3.out.eb.size; omega)))
    have Hw4 := hide (Hw3.out.ex hx4)
    obtain ⟨us, hus0⟩ : ∃ us, us = oneB c := ⟨_, rfl⟩
    have hus : us.length = 129 := by rw [hus0]; exact oneB_len c
    rw [← hus0]
    have KF := hide (folded_any us hus Hw4.out.rk)
    obtain ⟨T, hT⟩ : ∃ T, T = sB us := ⟨_, rfl⟩
    rw [← hT] at KF ⊢
    clear hx4 K1 hus0 hT
    go_wp2_with fail
    refine KF.out.mono ?_
    rintro e w5 ⟨ds, hds, rfl, hx5⟩
    have Fw5 := hide (Fw4.out.trans (Fr.ex hx5 (by have := Fw4.out.eb.size; omega)))
    have hra5 := Hw4.out.ex hx5
    clear hx5 KF
    obtain ⟨w6, hw7⟩ : ∃ w7, w7 = (w5.alloc (Obj.cells (sB noB).toArray 107)).setRow w5.heap.size (sB ds).toArray := ⟨_, rfl⟩
    obtain ⟨a1, a2, a3, a4, a5⟩ := set_new Fw5.out hra5 hds hw7 hbw
    have Hw6 := hide a1
    have Fw6 := hide a2
    have HSw6 := hide a3
    have HN5 := hide a4
    have HW7 := hide hw7
    obtain ⟨V, hV⟩ : ∃ V, V = sB ds := ⟨_, rfl⟩
    have HIV : Hid ((Tryz.prog.info? 107).map (·.size) = some V.length) := by rw [hV]; exact infoSet hds
    have HJV : Hid ((Tryz.prog.info? 107).map (·.size) = some V.toArray.size) := by rw [hV]; exact infoSetA hds
    have HAV : Hid (V.toArray.all (·.oneCell') = true) := by rw [hV]; exact all_plain (sB_plain _)
    have HOV : Hid ((sB noB).toArray.size = V.toArray.size) := by show _ = _; rw [List.size_toArray, List.size_toArray, hV, sB_len, sB_len, hds]; rfl
    have HVV := hide hV
    rw [← hV] at HW7 ⊢
    clear hw7 a1 a2 a3 a4 a5 hV
    go_upto_region 23 with (refine wpList_store_row rfl 107 _ _ rfl (w5.heap.size) V.toArray rfl rfl 107 _ HN5.out HJV.out HOV.out HAV.out ?_)
    rw [show (w5.alloc (Obj.cells Tryz.zeroCells107 107)).setRow w5.heap.size V.toArray = w6 from HW7.out.symm]
    clear HW7 HN5
    have hltw6 := HSw6.out.1.lt
    clear hra5
    obtain ⟨X, hX⟩ : ∃ X, X = exprL 2 0 0 0 false ds := ⟨_, rfl⟩
    have HBU : Hid (Tryz.prog.built 109 [(0, .int .i64 2), (5, .agg V.toArray)] = some X.toArray) := by rw [hX, HVV.out]; exact built_set ds hds
    have KND := hide (node_ex 2 0 0 0 false ds hds Hw6.out (by omega))
    rw [← hX] at KND
    have HRG8 : Hid (World.rangeAt w6 w5.heap.size 0 V) := by rw [HVV.out]; exact HSw6.out.1.rangeL
    have hltx := HSw6.out.1.lt
    clear hX
    go_wp2_with (first | refine wpList_load_mid rfl 107 _ rfl (w5.heap.size) 0 rfl V _ HRG8.out Tryz.underlying107 rfl HIV.out ?_ | (refine wpList_buildTo rfl 109 _ rfl _ rfl X.toArray (by simp only [List.map_toArray, List.map_cons, List.map_nil, Act.eval, List.getElem?_toArray, Array.getD_eq_getD_getElem?, List.getElem?_cons_succ, List.getElem?_cons_zero, Option.getD_some]; exact HBU.out) ?_))
    refine KND.out.mono ?_
    rintro e wz ⟨rfl, hz, frz⟩
    have HZ := hide hz
    have FZ := hide (Fw6.out.trans frz)
    clear hz frz
    go_wp2_with fail
    go_ret
    obtain ⟨cc, hcc⟩ := HMM.out
    exact ⟨FZ.out, RdPost.mkOk hcc rfl HZ.out (by show _ + 40 + 50 * k ≤ n + 50 * (k + 1) + 0; omega)⟩
end Go.Proofs.YtgmjjhmnchefbaaGreatDoor.G

/- The document's own reader of patterns: expressions to whatever depth. -/
namespace Go.Proofs.YtgmjjhmnchefbaaGreatDoor.G
open Go.RowKit

theorem expr_all {t : ByteArray} {p r base : Nat} (ht : t.size ≤ 60) : ∀ N d, d + N = 7 → 1 ≤ N → ExprC t p r base d (exprAt t N)
  | 0, d, _, h => absurd h (by decide)
  | x + 1, d, hd, _ => by
    have hx6 : x + 1 ≤ 7 := by omega
    have hF : FineE t x (exprAt t x) := fun s q s' h h5 hk => exprAt_fine ht x (by omega) s q s' h h5 hk
    have hI := exprAt_ok t x
    have hA : AtomC t p r base d (exprAt t x) := atom_c ht (by omega) (by omega) hF hI (fun h6 => expr_all ht x (d + 1) (by omega) (by omega)) (fun h6 s' _ hk => by
      obtain ⟨y, rfl⟩ : ∃ y, x = y + 1 := ⟨x - 1, by omega⟩
      exact expr_end hk)
    have hP := piece_c ht (by omega) hx6 hF hI hA
    have hB := branch_c ht (by omega) hx6 hF hI hP
    exact expr_c ht (by omega) hx6 hF hI hB
end Go.Proofs.YtgmjjhmnchefbaaGreatDoor.G
