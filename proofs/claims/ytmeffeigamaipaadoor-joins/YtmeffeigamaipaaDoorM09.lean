/- The pattern reader: pairs, items, single runes. -/
import Derived.Test.YtmeffeigamaipaaDoorM08
set_option linter.unusedVariables false
set_option linter.unusedSimpArgs false
namespace Go.Proofs.YtmeffeigamaipaaDoor.G
open Go.RowKit

theorem plainM_ok {t : ByteArray} {but : List UInt8} {s s' : RS} {b : UInt8} (h : plainM t but s = .ok b s') : byteAt t s.k = some b ∧ s' = s.up ∧ b.toNat < 128 ∧ b ∉ but := by
  unfold plainM at h
  cases hb : byteAt t s.k with
  | none => rw [hb] at h; cases h
  | some b' =>
    rw [hb] at h
    by_cases hc : 128 ≤ b'.toNat ∨ b' ∈ but
    · simp only [if_pos hc] at h; cases h
    · simp only [if_neg hc] at h
      cases h
      exact ⟨rfl, rfl, by omega, fun h => hc (Or.inr h)⟩

theorem pairEndM_esc {t : ByteArray} {f : UInt8} {s : RS} (h1 : f.toNat ≤ 125) (h2 : seesM t s 92 = true) : pairEndM t f s = match byteAt t s.up.k with
  | none => .bad s.up
  | some b => if b.toNat < f.toNat then .bad s.up else (if b ∈ escL then .ok b s.up.up else .bad s.up) := by
  unfold pairEndM; simp only [decide_eq_true h1, h2, Bool.and_self, if_true]; cases byteAt t s.up.k <;> rfl
theorem pairEndM_not {t : ByteArray} {f : UInt8} {s : RS} (h : ¬ f.toNat ≤ 125 ∨ seesM t s 92 = false) : pairEndM t f s = match byteAt t s.k with
  | none => .bad s
  | some b => if b.toNat < f.toNat then .bad s else plainM t setL s := by
  have : (decide (f.toNat ≤ 125) && seesM t s 92) = false := by
    rcases h with h | h
    · simp [h]
    · simp [h]
  unfold pairEndM; simp only [this, Bool.false_eq_true, if_false]; cases byteAt t s.k <;> rfl

set_option maxHeartbeats 1000000 in
set_option maxRecDepth 100000 in
theorem gPairEnd {w : World} {r mb : Nat} {t : ByteArray} {x : EV} {s : RS} (h : RG w r mb t x s) (f : UInt8) (hf : f.toNat < 128) :
    Calls Tryd.prog 75 #[.pointer (some ⟨r, 0, none⟩), .int .u8 (f.toNat : Int)] w fun e w' => Post [r] r mb t x w (fun _ v (b : UInt8) => v = .int .u8 (b.toNat : Int) ∧ f.toNat ≤ b.toNat ∧ b.toNat < 128) (pairEndM t f s) e w' := by
  have hlt := h.lt
  have ht := h.ht
  have H := hide h
  clear h
  by_cases h125 : f.toNat ≤ 125
  · have e125 : (f.toNat : Int) ≤ 125 := by omega
    go_enter Tryd.func75, Tryd.ntmps75
    go_wp2_with fail
    refine (gTakes H.out 92 92 rfl).mono ?_
    rintro e w1 ⟨rfl, hg1, hx1⟩
    cases hq : seesM t s 92 with
    | true =>
      rw [took_yes hq] at hg1
      have PM := hide (pairEndM_esc h125 hq)
      have G1 := hide hg1
      have X1 := hide hx1
      have hf1 := hg1.rd.f1
      have hc1 := hg1.rd.c1
      have hl1 := hg1.lt
      have hev := hg1.ev
      clear hq hg1 hx1
      cases hb : byteAt t s.up.k with
      | none =>
        have HM : Hid (pairEndM t f s = .bad s.up) := by show pairEndM t f s = _; rw [unhide PM, hb]
        have HB := hide hb
        clear hb
        go_wp2_with fail
        refine (gLookN G1.out HB.out).mono ?_
        rintro e w7 ⟨rfl, n1, rfl⟩
        exact body_panic rfl (Post.mkBad HM.out (G1.out.drewN _) (X1.out.drewN _))
      | some b =>
        have hks := (byteAt_some hb).1
        have hb256 := b.toNat_lt
        have HB := hide hb
        by_cases hbf : b.toNat < f.toNat
        · have HM : Hid (pairEndM t f s = .bad s.up) := by show pairEndM t f s = _; rw [unhide PM, hb]; simp [hbf]
          have e1 : (b.toNat : Int) < (f.toNat : Int) := by omega
          clear hb
          go_wp2_with fail
          refine (gLookS G1.out HB.out).mono ?_
          rintro e w7 ⟨rfl, n1, rfl⟩
          go_wp2_with fail
          exact body_panic rfl (Post.mkBad HM.out (G1.out.drewN _) (X1.out.drewN _))
        · have e1 : ¬ (b.toNat : Int) < (f.toNat : Int) := by omega
          by_cases hin : b ∈ escL
          · have HM : Hid (pairEndM t f s = .ok b s.up.up) := by show pairEndM t f s = _; rw [unhide PM, hb]; simp only [if_neg hbf, if_pos hin]
            have hb128 := esc128 b hin
            have HIN := hide hin
            clear hb hin
            go_wp2_with fail
            refine (gLookS G1.out HB.out).mono ?_
            rintro e w7 ⟨rfl, n1, rfl⟩
            go_wp2_with fail
            refine (gIndex escL b _).mono ?_
            rintro e w2 ⟨⟨ix, rfl, hix⟩, rfl⟩
            have hix0 : ¬ ix < 0 := by have := hix.2 HIN.out; omega
            clear hix
            go_wp2_with fail
            go_ret
            refine Post.mkOk HM.out ⟨rfl, by omega, hb128⟩ ?_ ((X1.out.drewN _).setCell (Or.inl (by simp)) _)
            have := (G1.out.drewN n1).up hks
            simpa using this
          · have HM : Hid (pairEndM t f s = .bad s.up) := by show pairEndM t f s = _; rw [unhide PM, hb]; simp only [if_neg hbf, if_neg hin]
            have HIN := hide hin
            clear hb hin
            go_wp2_with fail
            refine (gLookS G1.out HB.out).mono ?_
            rintro e w7 ⟨rfl, n1, rfl⟩
            go_wp2_with fail
            refine (gIndex escL b _).mono ?_
            rintro e w2 ⟨⟨ix, rfl, hix⟩, rfl⟩
            have hix0 : ix < 0 := by
              by_cases h0 : 0 ≤ ix
              · exact absurd (hix.1 h0) HIN.out
              · omega
            clear hix
            go_wp2_with fail
            exact body_panic rfl (Post.mkBad HM.out (G1.out.drewN _) (X1.out.drewN _))
    | false =>
      rw [took_no hq] at hg1
      have PM := hide (pairEndM_not (f := f) (Or.inr hq))
      have G1 := hide hg1
      have X1 := hide hx1
      clear hq hg1 hx1
      cases hb : byteAt t s.k with
      | none =>
        have HM : Hid (pairEndM t f s = .bad s) := by show pairEndM t f s = _; rw [unhide PM, hb]
        have HB := hide hb
        clear hb
        go_wp2_with fail
        refine (gLookN G1.out HB.out).mono ?_
        rintro e w7 ⟨rfl, n1, rfl⟩
        exact body_panic rfl (Post.mkBad HM.out (G1.out.drewN _) (X1.out.drewN _))
      | some b =>
        have hb256 := b.toNat_lt
        have HB := hide hb
        have hev := G1.out.ev
        by_cases hbf : b.toNat < f.toNat
        · have HM : Hid (pairEndM t f s = .bad s) := by show pairEndM t f s = _; rw [unhide PM, hb]; simp [hbf]
          have e1 : (b.toNat : Int) < (f.toNat : Int) := by omega
          clear hb
          go_wp2_with fail
          refine (gLookS G1.out HB.out).mono ?_
          rintro e w7 ⟨rfl, n1, rfl⟩
          go_wp2_with fail
          exact body_panic rfl (Post.mkBad HM.out (G1.out.drewN _) (X1.out.drewN _))
        · have HM : Hid (pairEndM t f s = plainM t setL s) := by show pairEndM t f s = _; rw [unhide PM, hb]; simp only [if_neg hbf]
          have e1 : ¬ (b.toNat : Int) < (f.toNat : Int) := by omega
          clear hb hev
          go_wp2_with fail
          refine (gLookS G1.out HB.out).mono ?_
          rintro e w7 ⟨rfl, n1, rfl⟩
          go_wp2_with fail
          refine (gPlain (G1.out.drewN _) setL).mono ?_
          rintro e w8 hp
          rcases hp.split with ⟨b', s8, v, hm, rfl, ⟨rfl, hb8⟩, hg8, hx8⟩ | ⟨s', hm, rfl, hg, hx⟩
          · have hbb : b' = b := by have h3 := (plainM_ok hm).1; rw [HB.out] at h3; exact (Option.some.inj h3).symm
            have hfb : f.toNat ≤ b'.toNat := by rw [hbb]; omega
            have M8 := hide hm
            have G8 := hide hg8
            have X8 := hide (((X1.out.drewN _)).trans hx8)
            clear hp hm hg8 hx8 hbb
            go_wp2_with fail
            go_ret
            exact Post.mkOk (HM.out.trans M8.out) ⟨rfl, hfb, hb8⟩ G8.out X8.out
          · exact body_panic rfl (Post.mkBad (HM.out.trans hm) hg ((X1.out.drewN _).trans hx))
  · have e125 : ¬ (f.toNat : Int) ≤ 125 := by omega
    have PM := hide (pairEndM_not (t := t) (s := s) (Or.inl h125))
    have X1 := hide (Ex.refl [r] w)
    go_enter Tryd.func75, Tryd.ntmps75
    cases hb : byteAt t s.k with
    | none =>
      have HM : Hid (pairEndM t f s = .bad s) := by show pairEndM t f s = _; rw [unhide PM, hb]
      have HB := hide hb
      clear hb
      go_wp2_with fail
      refine (gLookN H.out HB.out).mono ?_
      rintro e w7 ⟨rfl, n1, rfl⟩
      exact body_panic rfl (Post.mkBad HM.out (H.out.drewN _) (X1.out.drewN _))
    | some b =>
      have hb256 := b.toNat_lt
      have HB := hide hb
      have hev := H.out.ev
      by_cases hbf : b.toNat < f.toNat
      · have HM : Hid (pairEndM t f s = .bad s) := by show pairEndM t f s = _; rw [unhide PM, hb]; simp [hbf]
        have e1 : (b.toNat : Int) < (f.toNat : Int) := by omega
        clear hb
        go_wp2_with fail
        refine (gLookS H.out HB.out).mono ?_
        rintro e w7 ⟨rfl, n1, rfl⟩
        go_wp2_with fail
        exact body_panic rfl (Post.mkBad HM.out (H.out.drewN _) (X1.out.drewN _))
      · have HM : Hid (pairEndM t f s = plainM t setL s) := by show pairEndM t f s = _; rw [unhide PM, hb]; simp only [if_neg hbf]
        have e1 : ¬ (b.toNat : Int) < (f.toNat : Int) := by omega
        clear hb hev
        go_wp2_with fail
        refine (gLookS H.out HB.out).mono ?_
        rintro e w7 ⟨rfl, n1, rfl⟩
        go_wp2_with fail
        refine (gPlain (H.out.drewN _) setL).mono ?_
        rintro e w8 hp
        rcases hp.split with ⟨b', s8, v, hm, rfl, ⟨rfl, hb8⟩, hg8, hx8⟩ | ⟨s', hm, rfl, hg, hx⟩
        · have hbb : b' = b := by have h3 := (plainM_ok hm).1; rw [HB.out] at h3; exact (Option.some.inj h3).symm
          have hfb : f.toNat ≤ b'.toNat := by rw [hbb]; omega
          have M8 := hide hm
          have G8 := hide hg8
          have X8 := hide (((X1.out.drewN _)).trans hx8)
          clear hp hm hg8 hx8 hbb
          go_wp2_with fail
          go_ret
          exact Post.mkOk (HM.out.trans M8.out) ⟨rfl, hfb, hb8⟩ G8.out X8.out
        · exact body_panic rfl (Post.mkBad (HM.out.trans hm) hg ((X1.out.drewN _).trans hx))

set_option maxHeartbeats 2000000 in
set_option maxRecDepth 100000 in
theorem gItem {w : World} {r mb : Nat} {t : ByteArray} {x : EV} {s : RS} (h : RG w r mb t x s) :
    Calls Tryd.prog 66 #[.pointer (some ⟨r, 0, none⟩)] w fun e w' => Post [r] r mb t x w (fun _ v c => v = clsV c) (itemM t s) e w' := by
  have hlt := h.lt
  have hmlt := h.mlt
  have helt := h.elt
  have ht := h.ht
  have hne : w.heap.size ≠ r := by omega
  have H := hide h
  clear h
  go_enter Tryd.func66, Tryd.ntmps66
  go_wp2_with fail
  refine (gTakes (H.out.alloc _) 92 92 rfl).mono ?_
  rintro e w1 ⟨rfl, hg1, hx1⟩
  have X1 := hide hx1
  clear hx1
  cases hq : seesM t s 92 with
  | false =>
    rw [took_no hq] at hg1
    have G1 := hide hg1
    have HQ := hide hq
    clear hq hg1
    go_wp2_with fail
    refine (gPlain G1.out setL).mono ?_
    rintro e w2 hp
    rcases hp.split with ⟨b, s2, v, hm, rfl, ⟨rfl, hb128⟩, hg2, hx2⟩ | ⟨s', hm, rfl, hg, hx⟩
    rotate_left
    · exact body_panic rfl (Post.mkBad (by simp only [itemM, unhide HQ, Bool.false_eq_true, if_false, hm, Res.bind_bad]) hg (((Ex.refl _ _).alloc _).trans (X1.out.trans hx)))
    have IM : Hid (itemM t s = itemTail t b s2) := by show itemM t s = _; simp only [itemM, unhide HQ, Bool.false_eq_true, if_false, hm, Res.bind_ok]
    have G2 := hide hg2
    have X2 := hide (X1.out.trans hx2)
    clear hp hm hg2 hx2
    go_wp2_with fail
    refine (gTakes G2.out 45 45 rfl).mono ?_
    rintro e w5 ⟨rfl, hg5, hx5⟩
    have X5 := hide (X2.out.trans hx5)
    cases hq5 : seesM t s2 45 with
    | false =>
      rw [took_no hq5] at hg5
      have G5 := hide hg5
      obtain ⟨c, hcc⟩ : ∃ c, oneC b.toNat = c := ⟨_, rfl⟩
      have KB := hide (fun w => between_one b.toNat w hb128)
      rw [hcc] at KB
      have HM : Hid (itemM t s = .ok c s2) := by show itemM t s = _; rw [unhide IM]; unfold itemTail; rw [hq5, hcc]; rfl
      clear hq5 hg5 hx5 hcc
      go_wp2_with fail
      refine (KB.out _).mono ?_
      rintro e w6 ⟨rfl, hx6⟩
      have X6 := hide (X5.out.trans (hx6.drop (by simp)))
      have G6 := hide (G5.out.ex0 hx6)
      clear hx6
      have hb9 := (BK.new w (Obj.cells #[.int .u64 0, .int .u64 0, .bool false] 57)).ex X6.out (by simp; omega)
      obtain ⟨hc, hf⟩ := hb9.all
      have hl := hb9.lt
      clear hb9
      unfold clsV
      go_wp2_with fail
      refine bodyPost_ret (v := clsV c) (by simp [results, Tryd.results66, go_sem, clsV, hc, hl]) rfl (Post.mkOk HM.out rfl ?_ ?_)
      · iterate 3 (refine RG.setN (B := w.heap.size) ?_ hlt hmlt helt (by simp) _)
        exact G6.out
      · iterate 3 (refine Ex.setCell ?_ (Or.inr (by simp)) _)
        exact ((Ex.refl _ _).alloc _).trans X6.out
    | true =>
      rw [took_yes hq5] at hg5
      have G5 := hide hg5
      have HT : Hid (itemM t s = (pairEndM t b s2.up).bind fun e s' => .ok (rangeC b.toNat e.toNat) s') := by show itemM t s = _; rw [unhide IM]; unfold itemTail; rw [hq5]; rfl
      clear hq5 hg5 hx5
      go_wp2_with fail
      refine (gPairEnd G5.out b hb128).mono ?_
      rintro e w6 hp
      rcases hp.split with ⟨en, s6, v, hm, rfl, ⟨rfl, hfe, he128⟩, hg6, hx6⟩ | ⟨s', hm, rfl, hg, hx⟩
      rotate_left
      · exact body_panic rfl (Post.mkBad (by rw [HT.out, hm]; rfl) hg (((Ex.refl _ _).alloc _).trans (X5.out.trans hx)))
      obtain ⟨c, hcc⟩ : ∃ c, rangeC b.toNat en.toNat = c := ⟨_, rfl⟩
      have KB := hide (fun w => between_any b.toNat en.toNat w hfe he128)
      rw [hcc] at KB
      have HM : Hid (itemM t s = .ok c s6) := by show itemM t s = _; rw [HT.out, hm, Res.bind_ok, hcc]
      have G6 := hide hg6
      have X6 := hide (X5.out.trans hx6)
      clear hp hm hg6 hx6 hcc
      go_wp2_with fail
      refine (KB.out _).mono ?_
      rintro e w7 ⟨rfl, hx7⟩
      have X7 := hide (X6.out.trans (hx7.drop (by simp)))
      have G7 := hide (G6.out.ex0 hx7)
      clear hx7
      have hb9 := (BK.new w (Obj.cells #[.int .u64 0, .int .u64 0, .bool false] 57)).ex X7.out (by simp; omega)
      obtain ⟨hc, hf⟩ := hb9.all
      have hl := hb9.lt
      clear hb9
      unfold clsV
      go_wp2_with fail
      refine bodyPost_ret (v := clsV c) (by simp [results, Tryd.results66, go_sem, clsV, hc, hl]) rfl (Post.mkOk HM.out rfl ?_ ?_)
      · iterate 3 (refine RG.setN (B := w.heap.size) ?_ hlt hmlt helt (by simp) _)
        exact G7.out
      · iterate 3 (refine Ex.setCell ?_ (Or.inr (by simp)) _)
        exact ((Ex.refl _ _).alloc _).trans X7.out
  | true =>
    rw [took_yes hq] at hg1
    have G1 := hide hg1
    have HQ := hide hq
    clear hq hg1
    go_wp2_with fail
    refine (gEscape G1.out).mono ?_
    rintro e w2 hp
    rcases hp.split with ⟨⟨cc, b, okk⟩, s2, v, hm, rfl, ⟨rfl, hb⟩, hg2, hx2⟩ | ⟨s', hm, rfl, hg, hx⟩
    rotate_left
    · exact body_panic rfl (Post.mkBad (by simp only [itemM, unhide HQ, if_true, hm, Res.bind_bad]) hg (((Ex.refl _ _).alloc _).trans (X1.out.trans hx)))
    cases okk with
    | false =>
      have HM : Hid (itemM t s = .ok cc s2) := by show itemM t s = _; simp only [itemM, unhide HQ, if_true, hm, Res.bind_ok, Bool.false_eq_true, if_false]
      have G2 := hide hg2
      have X2 := hide (X1.out.trans hx2)
      have hlt2 := hg2.lt
      have hsz2 : w.heap.size < w2.heap.size := by have := X2.out.size; simp at this; omega
      have hb9 := (BK.new w (Obj.cells #[.int .u64 0, .int .u64 0, .bool false] 57)).ex X2.out (by simp; omega)
      obtain ⟨hc, hf⟩ := hb9.all
      have hl := hb9.lt
      clear hb9 hp hm hg2 hx2 hb
      unfold escV clsV
      go_wp2_with fail
      refine bodyPost_ret (v := clsV cc) (by simp [results, Tryd.results66, go_sem, clsV, hc, hl]) rfl (Post.mkOk HM.out rfl ?_ ?_)
      · repeat (first | exact G2.out | refine RG.alloc ?_ _ | refine RG.setN (B := w.heap.size) ?_ hlt hmlt helt (by simp; try omega) _)
      · repeat (first | exact ((Ex.refl _ _).alloc _).trans X2.out | refine Ex.alloc ?_ _ | refine Ex.setCell ?_ (Or.inr (by simp; try omega)) _)
    | true =>
      have hb128 := hb rfl
      have IM : Hid (itemM t s = itemTail t b s2) := by show itemM t s = _; simp only [itemM, unhide HQ, if_true, hm, Res.bind_ok]
      have G2 := hide hg2
      have X2 := hide (X1.out.trans hx2)
      clear hp hm hg2 hx2 hb
      unfold escV clsV
      go_wp2_with fail
      refine (gTakes (G2.out.alloc _) 45 45 rfl).mono ?_
      rintro e w5 ⟨rfl, hg5, hx5⟩
      have X5 := hide ((X2.out.alloc _).trans hx5)
      cases hq5 : seesM t s2 45 with
      | false =>
        rw [took_no hq5] at hg5
        have G5 := hide hg5
        obtain ⟨c, hcc⟩ : ∃ c, oneC b.toNat = c := ⟨_, rfl⟩
        have KB := hide (fun w => between_one b.toNat w hb128)
        rw [hcc] at KB
        have HM : Hid (itemM t s = .ok c s2) := by show itemM t s = _; rw [unhide IM]; unfold itemTail; rw [hq5, hcc]; rfl
        clear hq5 hg5 hx5 hcc
        go_wp2_with fail
        refine (KB.out _).mono ?_
        rintro e w6 ⟨rfl, hx6⟩
        have X6 := hide (X5.out.trans (hx6.drop (by simp)))
        have G6 := hide (G5.out.ex0 hx6)
        clear hx6
        have hb9 := (BK.new w (Obj.cells #[.int .u64 0, .int .u64 0, .bool false] 57)).ex X6.out (by simp; omega)
        obtain ⟨hc, hf⟩ := hb9.all
        have hl := hb9.lt
        clear hb9
        unfold clsV
        go_wp2_with fail
        refine bodyPost_ret (v := clsV c) (by simp [results, Tryd.results66, go_sem, clsV, hc, hl]) rfl (Post.mkOk HM.out rfl ?_ ?_)
        · iterate 3 (refine RG.setN (B := w.heap.size) ?_ hlt hmlt helt (by simp) _)
          exact G6.out
        · iterate 3 (refine Ex.setCell ?_ (Or.inr (by simp)) _)
          exact ((Ex.refl _ _).alloc _).trans X6.out
      | true =>
        rw [took_yes hq5] at hg5
        have G5 := hide hg5
        have HT : Hid (itemM t s = (pairEndM t b s2.up).bind fun e s' => .ok (rangeC b.toNat e.toNat) s') := by show itemM t s = _; rw [unhide IM]; unfold itemTail; rw [hq5]; rfl
        clear hq5 hg5 hx5
        go_wp2_with fail
        refine (gPairEnd G5.out b hb128).mono ?_
        rintro e w6 hp
        rcases hp.split with ⟨en, s6, v, hm, rfl, ⟨rfl, hfe, he128⟩, hg6, hx6⟩ | ⟨s', hm, rfl, hg, hx⟩
        rotate_left
        · exact body_panic rfl (Post.mkBad (by rw [HT.out, hm]; rfl) hg (((Ex.refl _ _).alloc _).trans (X5.out.trans hx)))
        obtain ⟨c, hcc⟩ : ∃ c, rangeC b.toNat en.toNat = c := ⟨_, rfl⟩
        have KB := hide (fun w => between_any b.toNat en.toNat w hfe he128)
        rw [hcc] at KB
        have HM : Hid (itemM t s = .ok c s6) := by show itemM t s = _; rw [HT.out, hm, Res.bind_ok, hcc]
        have G6 := hide hg6
        have X6 := hide (X5.out.trans hx6)
        clear hp hm hg6 hx6 hcc
        go_wp2_with fail
        refine (KB.out _).mono ?_
        rintro e w7 ⟨rfl, hx7⟩
        have X7 := hide (X6.out.trans (hx7.drop (by simp)))
        have G7 := hide (G6.out.ex0 hx7)
        clear hx7
        have hb9 := (BK.new w (Obj.cells #[.int .u64 0, .int .u64 0, .bool false] 57)).ex X7.out (by simp; omega)
        obtain ⟨hc, hf⟩ := hb9.all
        have hl := hb9.lt
        clear hb9
        unfold clsV
        go_wp2_with fail
        refine bodyPost_ret (v := clsV c) (by simp [results, Tryd.results66, go_sem, clsV, hc, hl]) rfl (Post.mkOk HM.out rfl ?_ ?_)
        · iterate 3 (refine RG.setN (B := w.heap.size) ?_ hlt hmlt helt (by simp) _)
          exact G7.out
        · iterate 3 (refine Ex.setCell ?_ (Or.inr (by simp)) _)
          exact ((Ex.refl _ _).alloc _).trans X7.out
end Go.Proofs.YtmeffeigamaipaaDoor.G
