/- The pattern reader: atoms and pieces. -/
import Derived.Test.YtmeffeigamaipaaDoorM14
set_option linter.unusedVariables false
set_option linter.unusedSimpArgs false
namespace Go.Proofs.YtmeffeigamaipaaDoor.G
open Go.RowKit

theorem Ex.two {w w' : World} {r mb : Nat} (h : Ex [r] w w') : Ex [r, mb] w w' := h.drop (by simp)

set_option maxHeartbeats 4000000 in
set_option maxRecDepth 100000 in
theorem gAtom {w : World} {r mb : Nat} {t : ByteArray} {x : EV} {s : RS} {E : RS → Res Pt} (h : RG w r mb t x s) (hnp : NP t) (hg5 : s.g ≤ 5) (hd6 : s.d ≤ 6) (hE : s.d < 6 → EC t r mb x (s.d + 1) E) (hEi : ∀ a q b, E a = .ok q b → a.g ≤ 5 → b.d = a.d) :
    Calls Tryd.prog 53 #[.pointer (some ⟨r, 0, none⟩)] w fun e w' => Post [r, mb] r mb t x w (RP w.heap.size) (atomM t E s) e w' := by
  have hlt := h.lt
  have hmlt := h.mlt
  have helt := h.elt
  have ht := h.ht
  have hne : w.heap.size ≠ r := by omega
  have hne2 : w.heap.size ≠ mb := by omega
  have H := hide h
  have HNP := hide hnp
  have HE := hide hE
  have HEI := hide hEi
  clear h hnp hE hEi
  cases hb : byteAt t s.k with
  | none =>
    have HM : Hid (atomM t E s = .bad s) := by show atomM t E s = _; simp [atomM, hb]
    have HB := hide hb
    clear hb
    go_enter Tryd.func53, Tryd.ntmps53
    go_wp2_with fail
    refine (gLookN (H.out.alloc _) HB.out).mono ?_
    rintro e w1 ⟨rfl, n1, rfl⟩
    exact body_panic rfl (Post.mkBad HM.out ((H.out.alloc _).drewN _) (((Ex.refl _ _).alloc _).drewN _))
  | some b =>
    have hks := (byteAt_some hb).1
    have HB := hide hb
    have hAM : atomM t E s = if b = 40 then parenM t E s else if b = 91 then (setM t s).bind fun c s' => .ok (.single c) s' else if b = 46 then .ok (.single dotC) s.up
      else if b = 92 then (escapeM t s.up).bind fun y s' => .ok (.single (sing s'.f y.1)) s' else (plainM t specL s).bind fun b s' => .ok (.single (sing s'.f (oneC b.toNat))) s' := by simp only [atomM, hb]
    have HAM := hide hAM
    obtain ⟨n, hn⟩ : ∃ n, b.toNat = n := ⟨_, rfl⟩
    have HN := hide hn
    have hbn : ∀ c : UInt8, b = c ↔ n = c.toNat := fun c => by rw [← hn, UInt8.toNat_inj]
    clear hb hAM hn
    by_cases h40 : b = 40
    · have HM : Hid (atomM t E s = parenM t E s) := by show atomM t E s = _; rw [HAM.out, if_pos h40]
      have hn40 : n = 40 := (hbn 40).1 h40
      clear hbn
      subst hn40
      go_enter Tryd.func53, Tryd.ntmps53
      go_wp2_with fail
      refine (gLookS (H.out.alloc _) HB.out).mono ?_
      rintro e w1 ⟨rfl, n1, hw1⟩
      have hg1 : RG w1 r mb t x s := by rw [hw1]; exact (H.out.alloc _).drewN _
      have hx1 : Ex [r, mb] (w.alloc (Obj.cells #[.int .i64 0, .slice none 0 0, .int .u64 0, .int .u64 0, .bool false, .int .i64 0, .int .i64 0, .int .i64 0, .bool false] 59)) w1 := by rw [hw1]; exact (Ex.refl _ _).drewN _
      rw [HN.out]
      have G1 := hide hg1
      have X1 := hide hx1
      have h11 := hg1.rd.c1
      have hf11 := hg1.rd.f1
      have hl1 := hg1.lt
      have hle1 : w.heap.size + 1 ≤ w1.heap.size := by have := hx1.size; simpa using this
      clear hg1 hx1 hw1
      go_wp2_with fail
      refine (gParen G1.out HNP.out hg5 hd6 HE.out HEI.out).mono ?_
      rintro e w2 hp
      rcases hp.split with ⟨q, s2, v, hm, rfl, hRP, hg2, hx2⟩ | ⟨s', hm, rfl, hg, hx⟩
      rotate_left
      · exact body_panic rfl (Post.mkBad (HM.out.trans hm) hg (((Ex.refl _ _).alloc _).trans (X1.out.trans hx)))
      obtain ⟨u, rfl, hpr⟩ := hRP
      have HMM := hide (HM.out.trans hm)
      have G2 := hide hg2
      have X2 := hide (X1.out.trans hx2)
      have BR := hide ((BK.new w (Obj.cells #[.int .i64 0, .slice none 0 0, .int .u64 0, .int .u64 0, .bool false, .int .i64 0, .int .i64 0, .int .i64 0, .bool false] 59)).ex X2.out (by simp; omega))
      obtain ⟨kd, up, un, uc, ulo, uhi, uhg, ug, ul, um, uz⟩ := u
      have HPR := hide hpr
      clear hp hm hg2 hx2 hpr h11 hf11
      unfold PV.val
      have HAL : Hid ((#[.int .i64 kd, .slice up un uc, .int .u64 ulo, .int .u64 uhi, .bool uhg, .int .i64 ug, .int .i64 ul, .int .i64 um, .bool uz] : Array Value).all (·.oneCell') = true) := by show Array.all _ _ = true; simp [Value.oneCell']
      have HSZ : Hid ((Tryd.prog.info? 59).map (·.size) = some (#[.int .i64 kd, .slice up un uc, .int .u64 ulo, .int .u64 uhi, .bool uhg, .int .i64 ug, .int .i64 ul, .int .i64 um, .bool uz] : Array Value).size) := partSize
      go_wp2_with (refine wpList_store_row rfl 59 _ _ rfl w.heap.size #[.int .i64 kd, .slice up un uc, .int .u64 ulo, .int .u64 uhi, .bool uhg, .int .i64 ug, .int .i64 ul, .int .i64 um, .bool uz] rfl rfl 59 _ (BR.out) HSZ.out rfl HAL.out ?_)
      refine bodyPost_ret (results_cell1 rfl rfl (loadPart (S := [.int .i64 kd, .slice up un uc, .int .u64 ulo, .int .u64 uhi, .bool uhg, .int .i64 ug, .int .i64 ul, .int .i64 um, .bool uz]) (setRow_heap _ _ _ _ _ _ (BR.out)) rfl)) rfl (Post.mkOk HMM.out ?_ ?_ ?_)
      · refine ⟨⟨kd, up, un, uc, ulo, uhi, uhg, ug, ul, um, uz⟩, rfl, ?_⟩
        exact PR.ex (l := [w.heap.size]) HPR.out ((Ex.refl _ _).setRow (Or.inl (by simp)) _) (by simp; omega) (by omega) (by simp)
      · exact RG.row G2.out hlt hmlt helt (Nat.le_refl _) _
      · exact Ex.row (((Ex.refl _ _).alloc _).trans X2.out) (Nat.le_refl _) _
    by_cases h91 : b = 91
    · have HM : Hid (atomM t E s = (setM t s).bind fun c s' => .ok (.single c) s') := by show atomM t E s = _; rw [HAM.out, if_neg h40, if_pos h91]
      have hn91 : n = 91 := (hbn 91).1 h91
      clear hbn
      subst hn91
      go_enter Tryd.func53, Tryd.ntmps53
      go_wp2_with fail
      refine (gLookS (H.out.alloc _) HB.out).mono ?_
      rintro e w1 ⟨rfl, n1, hw1⟩
      have hg1 : RG w1 r mb t x s := by rw [hw1]; exact (H.out.alloc _).drewN _
      have hx1 : Ex [r, mb] (w.alloc (Obj.cells #[.int .i64 0, .slice none 0 0, .int .u64 0, .int .u64 0, .bool false, .int .i64 0, .int .i64 0, .int .i64 0, .bool false] 59)) w1 := by rw [hw1]; exact (Ex.refl _ _).drewN _
      rw [HN.out]
      have G1 := hide hg1
      have X1 := hide hx1
      have h11 := hg1.rd.c1
      have hf11 := hg1.rd.f1
      have hl1 := hg1.lt
      have hle1 : w.heap.size + 1 ≤ w1.heap.size := by have := hx1.size; simpa using this
      clear hg1 hx1 hw1
      go_wp2_with fail
      refine (gSet G1.out).mono ?_
      rintro e w2 hp
      rcases hp.split with ⟨c, s2, v, hm, rfl, rfl, hg2, hx2⟩ | ⟨s', hm, rfl, hg, hx⟩
      rotate_left
      · exact body_panic rfl (Post.mkBad (by rw [HM.out, hm]; rfl) hg (((Ex.refl _ _).alloc _).trans (X1.out.trans (Ex.two hx))))
      have HMM : Hid (atomM t E s = .ok (.single c) s2) := by show atomM t E s = _; rw [HM.out, hm]; rfl
      have G2 := hide hg2
      have X2 := hide (X1.out.trans (Ex.two (mb := mb) hx2))
      have BR := hide ((BK.new w (Obj.cells #[.int .i64 0, .slice none 0 0, .int .u64 0, .int .u64 0, .bool false, .int .i64 0, .int .i64 0, .int .i64 0, .bool false] 59)).ex X2.out (by simp; omega))
      clear hp hm hg2 hx2 h11 hf11
      unfold partV
      have HAL : Hid ((#[.int .i64 0, .slice none 0 0, .int .u64 c.lo, .int .u64 c.hi, .bool c.hg, .int .i64 0, .int .i64 0, .int .i64 0, .bool false] : Array Value).all (·.oneCell') = true) := by show Array.all _ _ = true; simp [Value.oneCell']
      have HSZ : Hid ((Tryd.prog.info? 59).map (·.size) = some (#[.int .i64 0, .slice none 0 0, .int .u64 c.lo, .int .u64 c.hi, .bool c.hg, .int .i64 0, .int .i64 0, .int .i64 0, .bool false] : Array Value).size) := partSize
      go_wp2_with (refine wpList_store_row rfl 59 _ _ rfl w.heap.size #[.int .i64 0, .slice none 0 0, .int .u64 c.lo, .int .u64 c.hi, .bool c.hg, .int .i64 0, .int .i64 0, .int .i64 0, .bool false] rfl rfl 59 _ (BR.out) HSZ.out rfl HAL.out ?_)
      refine bodyPost_ret (results_cell1 rfl rfl (loadPart (S := [.int .i64 0, .slice none 0 0, .int .u64 c.lo, .int .u64 c.hi, .bool c.hg, .int .i64 0, .int .i64 0, .int .i64 0, .bool false]) (setRow_heap _ _ _ _ _ _ (BR.out)) rfl)) rfl (Post.mkOk HMM.out ?_ ?_ ?_)
      · exact ⟨⟨0, none, 0, 0, c.lo, c.hi, c.hg, 0, 0, 0, false⟩, rfl, rfl⟩
      · exact RG.row G2.out hlt hmlt helt (Nat.le_refl _) _
      · exact Ex.row (((Ex.refl _ _).alloc _).trans X2.out) (Nat.le_refl _) _
    by_cases h46 : b = 46
    · have HM : Hid (atomM t E s = .ok (.single dotC) s.up) := by show atomM t E s = _; rw [HAM.out, if_neg h40, if_neg h91, if_pos h46]
      have hn46 : n = 46 := (hbn 46).1 h46
      clear hbn
      subst hn46
      obtain ⟨c, hc⟩ : ∃ c, dotC = c := ⟨_, rfl⟩
      have KD := hide (fun w => everyRune_any w)
      rw [hc] at KD HM
      clear hc
      go_enter Tryd.func53, Tryd.ntmps53
      go_wp2_with fail
      refine (gLookS (H.out.alloc _) HB.out).mono ?_
      rintro e w1 ⟨rfl, n1, hw1⟩
      have hg1 : RG w1 r mb t x s := by rw [hw1]; exact (H.out.alloc _).drewN _
      have hx1 : Ex [r, mb] (w.alloc (Obj.cells #[.int .i64 0, .slice none 0 0, .int .u64 0, .int .u64 0, .bool false, .int .i64 0, .int .i64 0, .int .i64 0, .bool false] 59)) w1 := by rw [hw1]; exact (Ex.refl _ _).drewN _
      rw [HN.out]
      have G1 := hide hg1
      have X1 := hide hx1
      have h11 := hg1.rd.c1
      have hf11 := hg1.rd.f1
      have hl1 := hg1.lt
      have hle1 : w.heap.size + 1 ≤ w1.heap.size := by have := hx1.size; simpa using this
      clear hg1 hx1 hw1
      go_wp2_with fail
      refine (KD.out _).mono ?_
      rintro e w2 ⟨rfl, hx2⟩
      have hgu := G1.out.up hks
      have G2 : Hid (RG w2 r mb t x s.up) := by
        refine RG.ex0 ?_ hx2
        simpa using hgu
      have X2 : Hid (Ex [r, mb] (w.alloc (Obj.cells #[.int .i64 0, .slice none 0 0, .int .u64 0, .int .u64 0, .bool false, .int .i64 0, .int .i64 0, .int .i64 0, .bool false] 59)) w2) := (X1.out.setCell (Or.inl (by simp)) _).trans (hx2.drop (by simp))
      have BR := hide ((BK.new w (Obj.cells #[.int .i64 0, .slice none 0 0, .int .u64 0, .int .u64 0, .bool false, .int .i64 0, .int .i64 0, .int .i64 0, .bool false] 59)).ex X2.out (by simp; omega))
      clear hx2 hgu h11 hf11
      unfold clsV
      have HAL : Hid ((#[.int .i64 0, .slice none 0 0, .int .u64 c.lo, .int .u64 c.hi, .bool c.hg, .int .i64 0, .int .i64 0, .int .i64 0, .bool false] : Array Value).all (·.oneCell') = true) := by show Array.all _ _ = true; simp [Value.oneCell']
      have HSZ : Hid ((Tryd.prog.info? 59).map (·.size) = some (#[.int .i64 0, .slice none 0 0, .int .u64 c.lo, .int .u64 c.hi, .bool c.hg, .int .i64 0, .int .i64 0, .int .i64 0, .bool false] : Array Value).size) := partSize
      go_wp2_with (refine wpList_store_row rfl 59 _ _ rfl w.heap.size #[.int .i64 0, .slice none 0 0, .int .u64 c.lo, .int .u64 c.hi, .bool c.hg, .int .i64 0, .int .i64 0, .int .i64 0, .bool false] rfl rfl 59 _ (BR.out) HSZ.out rfl HAL.out ?_)
      refine bodyPost_ret (results_cell1 rfl rfl (loadPart (S := [.int .i64 0, .slice none 0 0, .int .u64 c.lo, .int .u64 c.hi, .bool c.hg, .int .i64 0, .int .i64 0, .int .i64 0, .bool false]) (setRow_heap _ _ _ _ _ _ (BR.out)) rfl)) rfl (Post.mkOk HM.out ?_ ?_ ?_)
      · exact ⟨⟨0, none, 0, 0, c.lo, c.hi, c.hg, 0, 0, 0, false⟩, rfl, rfl⟩
      · exact RG.row G2.out hlt hmlt helt (Nat.le_refl _) _
      · exact Ex.row (((Ex.refl _ _).alloc _).trans X2.out) (Nat.le_refl _) _
    by_cases h92 : b = 92
    · have HM : Hid (atomM t E s = (escapeM t s.up).bind fun y s' => .ok (.single (sing s'.f y.1)) s') := by show atomM t E s = _; rw [HAM.out, if_neg h40, if_neg h91, if_neg h46, if_pos h92]
      have hn92 : n = 92 := (hbn 92).1 h92
      clear hbn
      subst hn92
      go_enter Tryd.func53, Tryd.ntmps53
      go_wp2_with fail
      refine (gLookS (H.out.alloc _) HB.out).mono ?_
      rintro e w1 ⟨rfl, n1, hw1⟩
      have hg1 : RG w1 r mb t x s := by rw [hw1]; exact (H.out.alloc _).drewN _
      have hx1 : Ex [r, mb] (w.alloc (Obj.cells #[.int .i64 0, .slice none 0 0, .int .u64 0, .int .u64 0, .bool false, .int .i64 0, .int .i64 0, .int .i64 0, .bool false] 59)) w1 := by rw [hw1]; exact (Ex.refl _ _).drewN _
      rw [HN.out]
      have G1 := hide hg1
      have X1 := hide hx1
      have h11 := hg1.rd.c1
      have hf11 := hg1.rd.f1
      have hl1 := hg1.lt
      have hle1 : w.heap.size + 1 ≤ w1.heap.size := by have := hx1.size; simpa using this
      clear hg1 hx1 hw1
      have hgu := G1.out.up hks
      have G1u : Hid (RG (w1.setCell ⟨r, 1, none⟩ (.int .i64 ((s.k : Int) + 1))) r mb t x s.up) := by
        show RG _ _ _ _ _ _
        simpa using hgu
      clear hgu
      go_wp2_with fail
      refine (gEscape G1u.out).mono ?_
      rintro e w2 hp
      rcases hp.split with ⟨⟨cc, bb, okk⟩, s2, v, hm, rfl, ⟨rfl, _⟩, hg2, hx2⟩ | ⟨s', hm, rfl, hg, hx⟩
      rotate_left
      · exact body_panic rfl (Post.mkBad (by rw [HM.out, hm]; rfl) hg ((((Ex.refl _ _).alloc _).trans (X1.out.setCell (Or.inl (by simp)) _)).trans (Ex.two hx)))
      obtain ⟨cs, hcs⟩ : ∃ cs, sing s2.f cc = cs := ⟨_, rfl⟩
      have HMM : Hid (atomM t E s = .ok (.single cs) s2) := by show atomM t E s = _; rw [HM.out, hm]; show Res.ok (Pt.single (sing s2.f cc)) s2 = _; rw [hcs]
      have KS := hide (fun w hr => singleOf_any r t s2.k ⟨s2.d, s2.f, s2.g, .map (some mb)⟩ cc w hr)
      simp only at KS
      rw [hcs] at KS
      have G2 := hide hg2
      have X2 : Hid (Ex [r, mb] (w.alloc (Obj.cells #[.int .i64 0, .slice none 0 0, .int .u64 0, .int .u64 0, .bool false, .int .i64 0, .int .i64 0, .int .i64 0, .bool false] 59)) w2) := (X1.out.setCell (Or.inl (by simp)) _).trans (Ex.two hx2)
      clear hp hm hg2 hx2 h11 hf11 hcs
      unfold escV clsV
      go_wp2_with fail
      refine (KS.out _ (G2.out.alloc _).rd).mono ?_
      rintro e w3 ⟨rfl, hx3⟩
      have G3 := hide ((G2.out.alloc (Obj.cells #[.int .u64 cc.lo, .int .u64 cc.hi, .bool cc.hg] 57)).ex0 hx3)
      have X3 := hide ((X2.out.alloc (Obj.cells #[.int .u64 cc.lo, .int .u64 cc.hi, .bool cc.hg] 57)).trans (hx3.drop (by simp)))
      have BR := hide ((BK.new w (Obj.cells #[.int .i64 0, .slice none 0 0, .int .u64 0, .int .u64 0, .bool false, .int .i64 0, .int .i64 0, .int .i64 0, .bool false] 59)).ex X3.out (by simp; omega))
      clear hx3
      unfold partV
      have HAL : Hid ((#[.int .i64 0, .slice none 0 0, .int .u64 cs.lo, .int .u64 cs.hi, .bool cs.hg, .int .i64 0, .int .i64 0, .int .i64 0, .bool false] : Array Value).all (·.oneCell') = true) := by show Array.all _ _ = true; simp [Value.oneCell']
      have HSZ : Hid ((Tryd.prog.info? 59).map (·.size) = some (#[.int .i64 0, .slice none 0 0, .int .u64 cs.lo, .int .u64 cs.hi, .bool cs.hg, .int .i64 0, .int .i64 0, .int .i64 0, .bool false] : Array Value).size) := partSize
      go_wp2_with (refine wpList_store_row rfl 59 _ _ rfl w.heap.size #[.int .i64 0, .slice none 0 0, .int .u64 cs.lo, .int .u64 cs.hi, .bool cs.hg, .int .i64 0, .int .i64 0, .int .i64 0, .bool false] rfl rfl 59 _ (BR.out) HSZ.out rfl HAL.out ?_)
      refine bodyPost_ret (results_cell1 rfl rfl (loadPart (S := [.int .i64 0, .slice none 0 0, .int .u64 cs.lo, .int .u64 cs.hi, .bool cs.hg, .int .i64 0, .int .i64 0, .int .i64 0, .bool false]) (setRow_heap _ _ _ _ _ _ (BR.out)) rfl)) rfl (Post.mkOk HMM.out ?_ ?_ ?_)
      · exact ⟨⟨0, none, 0, 0, cs.lo, cs.hi, cs.hg, 0, 0, 0, false⟩, rfl, rfl⟩
      · exact RG.row G3.out hlt hmlt helt (Nat.le_refl _) _
      · exact Ex.row (((Ex.refl _ _).alloc _).trans X3.out) (Nat.le_refl _) _
    have HM : Hid (atomM t E s = (plainM t specL s).bind fun b s' => .ok (.single (sing s'.f (oneC b.toNat))) s') := by show atomM t E s = _; rw [HAM.out, if_neg h40, if_neg h91, if_neg h46, if_neg h92]
    have g1 : ¬ (n : Int) = 40 := by have h9 := fun h => h40 ((hbn 40).2 h); simp at h9; omega
    have g2 : ¬ (n : Int) = 91 := by have h9 := fun h => h91 ((hbn 91).2 h); simp at h9; omega
    have g3 : ¬ (n : Int) = 46 := by have h9 := fun h => h46 ((hbn 46).2 h); simp at h9; omega
    have g4 : ¬ (n : Int) = 92 := by have h9 := fun h => h92 ((hbn 92).2 h); simp at h9; omega
    clear hbn
    go_enter Tryd.func53, Tryd.ntmps53
    go_wp2_with fail
    refine (gLookS (H.out.alloc _) HB.out).mono ?_
    rintro e w1 ⟨rfl, n1, hw1⟩
    have hg1 : RG w1 r mb t x s := by rw [hw1]; exact (H.out.alloc _).drewN _
    have hx1 : Ex [r, mb] (w.alloc (Obj.cells #[.int .i64 0, .slice none 0 0, .int .u64 0, .int .u64 0, .bool false, .int .i64 0, .int .i64 0, .int .i64 0, .bool false] 59)) w1 := by rw [hw1]; exact (Ex.refl _ _).drewN _
    rw [HN.out]
    have G1 := hide hg1
    have X1 := hide hx1
    have h11 := hg1.rd.c1
    have hf11 := hg1.rd.f1
    have hl1 := hg1.lt
    have hle1 : w.heap.size + 1 ≤ w1.heap.size := by have := hx1.size; simpa using this
    clear hg1 hx1 hw1
    go_wp2_with fail
    refine (gPlain G1.out specL).mono ?_
    rintro e w2 hp
    rcases hp.split with ⟨b2, s2, v, hm, rfl, ⟨rfl, hb128⟩, hg2, hx2⟩ | ⟨s', hm, rfl, hg, hx⟩
    rotate_left
    · exact body_panic rfl (Post.mkBad (by rw [HM.out, hm]; rfl) hg (((Ex.refl _ _).alloc _).trans (X1.out.trans (Ex.two hx))))
    obtain ⟨co, hco⟩ : ∃ co, oneC b2.toNat = co := ⟨_, rfl⟩
    obtain ⟨cs, hcs⟩ : ∃ cs, sing s2.f co = cs := ⟨_, rfl⟩
    have HMM : Hid (atomM t E s = .ok (.single cs) s2) := by show atomM t E s = _; rw [HM.out, hm]; show Res.ok (Pt.single (sing s2.f (oneC b2.toNat))) s2 = _; rw [hco, hcs]
    have KB := hide (fun w => between_one b2.toNat w hb128)
    rw [hco] at KB
    have KS := hide (fun w hr => singleOf_any r t s2.k ⟨s2.d, s2.f, s2.g, .map (some mb)⟩ co w hr)
    simp only at KS
    rw [hcs] at KS
    have G2 := hide hg2
    have X2 := hide (X1.out.trans (Ex.two (mb := mb) hx2))
    clear hp hm hg2 hx2 h11 hf11 hcs hco
    go_wp2_with fail
    refine (KB.out _).mono ?_
    rintro e w3 ⟨rfl, hx3⟩
    have G3 := hide (G2.out.ex0 hx3)
    have X3 := hide (X2.out.trans (hx3.drop (by simp)))
    clear hx3
    go_wp2_with fail
    refine (KS.out _ G3.out.rd).mono ?_
    rintro e w4 ⟨rfl, hx4⟩
    have G4 := hide (G3.out.ex0 hx4)
    have X4 := hide (X3.out.trans (hx4.drop (by simp)))
    have BR := hide ((BK.new w (Obj.cells #[.int .i64 0, .slice none 0 0, .int .u64 0, .int .u64 0, .bool false, .int .i64 0, .int .i64 0, .int .i64 0, .bool false] 59)).ex X4.out (by simp; omega))
    clear hx4
    unfold partV
    have HAL : Hid ((#[.int .i64 0, .slice none 0 0, .int .u64 cs.lo, .int .u64 cs.hi, .bool cs.hg, .int .i64 0, .int .i64 0, .int .i64 0, .bool false] : Array Value).all (·.oneCell') = true) := by show Array.all _ _ = true; simp [Value.oneCell']
    have HSZ : Hid ((Tryd.prog.info? 59).map (·.size) = some (#[.int .i64 0, .slice none 0 0, .int .u64 cs.lo, .int .u64 cs.hi, .bool cs.hg, .int .i64 0, .int .i64 0, .int .i64 0, .bool false] : Array Value).size) := partSize
    go_wp2_with (refine wpList_store_row rfl 59 _ _ rfl w.heap.size #[.int .i64 0, .slice none 0 0, .int .u64 cs.lo, .int .u64 cs.hi, .bool cs.hg, .int .i64 0, .int .i64 0, .int .i64 0, .bool false] rfl rfl 59 _ (BR.out) HSZ.out rfl HAL.out ?_)
    refine bodyPost_ret (results_cell1 rfl rfl (loadPart (S := [.int .i64 0, .slice none 0 0, .int .u64 cs.lo, .int .u64 cs.hi, .bool cs.hg, .int .i64 0, .int .i64 0, .int .i64 0, .bool false]) (setRow_heap _ _ _ _ _ _ (BR.out)) rfl)) rfl (Post.mkOk HMM.out ?_ ?_ ?_)
    · exact ⟨⟨0, none, 0, 0, cs.lo, cs.hi, cs.hg, 0, 0, 0, false⟩, rfl, rfl⟩
    · exact RG.row G4.out hlt hmlt helt (Nat.le_refl _) _
    · exact Ex.row (((Ex.refl _ _).alloc _).trans X4.out) (Nat.le_refl _) _

def cntRes (q : Pt) (t : ByteArray) (s2 : RS) : Option (Nat × Int) → Res Pt
  | none => .ok q s2
  | some y => .ok (.count q y.1 y.2 (seesM t s2 63)) (s2.took t 63)
theorem PV.all_one (u : PV) : ∀ y ∈ u.cells, y.oneCell' = true := by
  intro y hy
  simp only [PV.cells, List.mem_cons, List.not_mem_nil, or_false] at hy
  rcases hy with rfl | rfl | rfl | rfl | rfl | rfl | rfl | rfl | rfl <;> rfl

set_option maxHeartbeats 4000000 in
set_option maxRecDepth 100000 in
theorem gPiece {w : World} {r mb : Nat} {t : ByteArray} {x : EV} {s : RS} {E : RS → Res Pt} (h : RG w r mb t x s) (hnp : NP t) (hg5 : s.g ≤ 5) (hd6 : s.d ≤ 6) (hE : s.d < 6 → EC t r mb x (s.d + 1) E) (hEi : ∀ a q b, E a = .ok q b → a.g ≤ 5 → b.d = a.d) :
    Calls Tryd.prog 49 #[.pointer (some ⟨r, 0, none⟩)] w fun e w' => Post [r, mb] r mb t x w (RP w.heap.size) (pieceM t E s) e w' := by
  have hlt := h.lt
  have hmlt := h.mlt
  have helt := h.elt
  have ht := h.ht
  have hne : w.heap.size ≠ r := by omega
  have H := hide h
  have KA := hide (fun (w : World) (h : RG w r mb t x s) => gAtom h hnp hg5 hd6 hE hEi)
  clear h hnp hE hEi
  go_enter Tryd.func49, Tryd.ntmps49
  go_wp2_with fail
  refine (KA.out _ (H.out.alloc _)).mono ?_
  rintro e w1 hp
  rcases hp.split with ⟨q, s1, v, hm, rfl, hRP, hg1, hx1⟩ | ⟨s', hm, rfl, hg, hx⟩
  rotate_left
  · exact body_panic rfl (Post.mkBad (by unfold pieceM; rw [hm]; rfl) hg (((Ex.refl _ _).alloc _).trans hx))
  obtain ⟨u, rfl, hpr⟩ := hRP
  have M1 := hide hm
  have G1 := hide hg1
  have X1 := hide hx1
  have hle1 : w.heap.size + 1 ≤ w1.heap.size := by have := hx1.size; simpa using this
  obtain ⟨kd, up, un, uc, ulo, uhi, uhg, ug, ul, um, uz⟩ := u
  have HPR := hide hpr
  clear hp hm hg1 hx1 hpr
  unfold PV.val
  go_wp2_with fail
  refine (gCount (G1.out.alloc _)).mono ?_
  rintro e w2 hp
  rcases hp.split with ⟨cn, s2, v, hm, rfl, ⟨rfl, hcn⟩, hg2, hx2⟩ | ⟨s', hm, rfl, hg, hx⟩
  rotate_left
  · exact body_panic rfl (Post.mkBad (by simp only [pieceM, unhide M1, Res.bind_ok, hm, Res.bind_bad]) hg (((Ex.refl _ _).alloc _).trans ((X1.out.alloc _).trans (Ex.two hx))))
  have M2 : Hid (pieceM t E s = cntRes q t s2 cn) := by show pieceM t E s = _; simp only [pieceM, unhide M1, Res.bind_ok, hm]; cases cn <;> rfl
  have G2 := hide hg2
  have X2 := hide ((X1.out.alloc (Obj.cells #[.int .i64 kd, .slice up un uc, .int .u64 ulo, .int .u64 uhi, .bool uhg, .int .i64 ug, .int .i64 ul, .int .i64 um, .bool uz] 59)).trans (Ex.two (mb := mb) hx2))
  have B1 := hide ((BK.new w1 (Obj.cells #[.int .i64 kd, .slice up un uc, .int .u64 ulo, .int .u64 uhi, .bool uhg, .int .i64 ug, .int .i64 ul, .int .i64 um, .bool uz] 59)).ex hx2 (by simp; omega))
  have hle2 : w1.heap.size + 1 ≤ w2.heap.size := by have := hx2.size; simpa using this
  have hPR2 := PR.ex (lo' := w.heap.size + 1) (hi' := w1.heap.size) (PR.ex (lo' := w.heap.size + 1) (hi' := w1.heap.size) HPR.out ((Ex.refl [] w1).alloc (Obj.cells #[.int .i64 kd, .slice up un uc, .int .u64 ulo, .int .u64 uhi, .bool uhg, .int .i64 ug, .int .i64 ul, .int .i64 um, .bool uz] 59)) (by simp) (by simp) (Nat.le_refl _)) hx2 (by simp; omega) (Nat.le_refl _) (by omega)
  have HPR2 := hide hPR2
  clear hp hm hg2 hx2 M1 G1 X1 hPR2 HPR
  cases cn with
  | none =>
    have HM : Hid (pieceM t E s = .ok q s2) := M2.out
    have BR := hide ((BK.new w (Obj.cells #[.int .i64 0, .slice none 0 0, .int .u64 0, .int .u64 0, .bool false, .int .i64 0, .int .i64 0, .int .i64 0, .bool false] 59)).ex X2.out (by simp; omega))
    have RNG : Hid (w2.rangeAt w1.heap.size 0 [.int .i64 kd, .slice up un uc, .int .u64 ulo, .int .u64 uhi, .bool uhg, .int .i64 ug, .int .i64 ul, .int .i64 um, .bool uz]) := B1.out.rangeL
    have HAL : Hid ((#[.int .i64 kd, .slice up un uc, .int .u64 ulo, .int .u64 uhi, .bool uhg, .int .i64 ug, .int .i64 ul, .int .i64 um, .bool uz] : Array Value).all (·.oneCell') = true) := by show Array.all _ _ = true; simp [Value.oneCell']
    have HSZ : Hid ((Tryd.prog.info? 59).map (·.size) = some (#[.int .i64 kd, .slice up un uc, .int .u64 ulo, .int .u64 uhi, .bool uhg, .int .i64 ug, .int .i64 ul, .int .i64 um, .bool uz] : Array Value).size) := partSize
    unfold cntV
    go_wp2_with (first
      | (refine wpList_load_mid rfl 59 _ rfl w1.heap.size 0 rfl [.int .i64 kd, .slice up un uc, .int .u64 ulo, .int .u64 uhi, .bool uhg, .int .i64 ug, .int .i64 ul, .int .i64 um, .bool uz] _ RNG.out Tryd.underlying59 rfl partSize ?_)
      | (refine wpList_store_row rfl 59 _ _ rfl w.heap.size #[.int .i64 kd, .slice up un uc, .int .u64 ulo, .int .u64 uhi, .bool uhg, .int .i64 ug, .int .i64 ul, .int .i64 um, .bool uz] rfl rfl 59 _ BR.out HSZ.out rfl HAL.out ?_))
    refine bodyPost_ret (results_cell1 rfl rfl (loadPart (S := [.int .i64 kd, .slice up un uc, .int .u64 ulo, .int .u64 uhi, .bool uhg, .int .i64 ug, .int .i64 ul, .int .i64 um, .bool uz]) (setRow_heap _ _ _ _ _ _ BR.out) rfl)) rfl (Post.mkOk HM.out ?_ ?_ ?_)
    · refine ⟨⟨kd, up, un, uc, ulo, uhi, uhg, ug, ul, um, uz⟩, rfl, ?_⟩
      exact PR.ex (l := [w.heap.size]) HPR2.out ((Ex.refl _ _).setRow (Or.inl (by simp)) _) (by simp) (by omega) (by simp; omega)
    · exact RG.row G2.out hlt hmlt helt (Nat.le_refl _) _
    · exact Ex.row (((Ex.refl _ _).alloc _).trans X2.out) (Nat.le_refl _) _
  | some y =>
    obtain ⟨le, mo⟩ := y
    have HM2 : Hid (pieceM t E s = .ok (.count q le mo (seesM t s2 63)) (s2.took t 63)) := M2.out
    obtain ⟨la, hla⟩ : ∃ la, seesM t s2 63 = la := ⟨_, rfl⟩
    have HLA := hide hla
    rw [hla] at HM2
    clear hla
    unfold cntV
    go_wp2_with fail
    refine (gTakes G2.out 63 63 rfl).mono ?_
    rintro e w3 ⟨rfl, hg3, hx3⟩
    rw [HLA.out]
    have G3 := hide hg3
    have X3 := hide (X2.out.trans (Ex.two (mb := mb) hx3))
    have B3 := hide (B1.out.ex hx3 (by simp; omega))
    have hle3 : w2.heap.size ≤ w3.heap.size := hx3.size
    have hPR3 := PR.ex (lo' := w.heap.size + 1) (hi' := w1.heap.size) HPR2.out hx3 (by simp; omega) (Nat.le_refl _) (Nat.le_refl _)
    have HPR3 := hide hPR3
    have BR := hide ((BK.new w (Obj.cells #[.int .i64 0, .slice none 0 0, .int .u64 0, .int .u64 0, .bool false, .int .i64 0, .int .i64 0, .int .i64 0, .bool false] 59)).ex X3.out (by simp; omega))
    have RNG : Hid (w3.rangeAt w1.heap.size 0 [.int .i64 kd, .slice up un uc, .int .u64 ulo, .int .u64 uhi, .bool uhg, .int .i64 ug, .int .i64 ul, .int .i64 um, .bool uz]) := B3.out.rangeL
    have HAL : Hid ((#[.int .i64 4, .slice (some ⟨w3.heap.size, 0, none⟩) 1 1, .int .u64 0, .int .u64 0, .bool false, .int .i64 0, .int .i64 (le : Int), .int .i64 mo, .bool la] : Array Value).all (·.oneCell') = true) := by show Array.all _ _ = true; simp [Value.oneCell']
    have HSZ : Hid ((Tryd.prog.info? 59).map (·.size) = some (#[.int .i64 4, .slice (some ⟨w3.heap.size, 0, none⟩) 1 1, .int .u64 0, .int .u64 0, .bool false, .int .i64 0, .int .i64 (le : Int), .int .i64 mo, .bool la] : Array Value).size) := partSize
    clear hg3 hx3 hPR3
    go_wp2_with (first
      | (refine wpList_load_mid rfl 59 _ rfl w1.heap.size 0 rfl [.int .i64 kd, .slice up un uc, .int .u64 ulo, .int .u64 uhi, .bool uhg, .int .i64 ug, .int .i64 ul, .int .i64 um, .bool uz] _ RNG.out Tryd.underlying59 rfl partSize ?_)
      | (refine wpList_store_row rfl 59 _ _ rfl w.heap.size #[.int .i64 4, .slice (some ⟨w3.heap.size, 0, none⟩) 1 1, .int .u64 0, .int .u64 0, .bool false, .int .i64 0, .int .i64 (le : Int), .int .i64 mo, .bool la] rfl rfl 59 _ (BK.alloc BR.out _) HSZ.out rfl HAL.out ?_))
    refine bodyPost_ret (results_cell1 rfl rfl (loadPart (S := [.int .i64 4, .slice (some ⟨w3.heap.size, 0, none⟩) 1 1, .int .u64 0, .int .u64 0, .bool false, .int .i64 0, .int .i64 (le : Int), .int .i64 mo, .bool la]) (setRow_heap _ _ _ _ _ _ (BK.alloc BR.out _)) rfl)) rfl (Post.mkOk HM2.out ?_ ?_ ?_)
    · generalize hW : World.setRow _ _ _ = W
      have hWx : Ex [w.heap.size] w3 W := by rw [← hW]; exact ((Ex.refl _ _).alloc _).setRow (Or.inl (by simp)) _
      have hWs : W.heap.size = w3.heap.size + 1 := by rw [← hW]; simp
      have hWb : BK W w3.heap.size (.cells #[.int .i64 kd, .slice up un uc, .int .u64 ulo, .int .u64 uhi, .bool uhg, .int .i64 ug, .int .i64 ul, .int .i64 um, .bool uz] 59 (0, 0)) := by
        rw [← hW]
        unfold BK
        rw [setRow_other _ _ _ _ (by omega)]
        exact BK.new _ _
      refine ⟨⟨4, some ⟨w3.heap.size, 0, none⟩, 1, 1, 0, 0, false, 0, (le : Int), mo, la⟩, rfl, w3.heap.size, rfl, ⟨by omega, by omega⟩, by omega, ⟨kd, up, un, uc, ulo, uhi, uhg, ug, ul, um, uz⟩, hWb.rangeL, ?_⟩
      exact PR.ex HPR3.out hWx (by simp) (by omega) (by omega)
    · exact RG.row (G3.out.alloc _) hlt hmlt helt (Nat.le_refl _) _
    · exact Ex.row ((((Ex.refl _ _).alloc _).trans X3.out).alloc _) (Nat.le_refl _) _
end Go.Proofs.YtmeffeigamaipaaDoor.G
