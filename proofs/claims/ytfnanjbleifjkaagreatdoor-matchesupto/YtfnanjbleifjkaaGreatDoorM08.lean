import Derived.Test.YtfnanjbleifjkaaGreatDoorM07
set_option linter.unusedVariables false
set_option linter.unusedSimpArgs false
set_option maxHeartbeats 2000000
set_option maxRecDepth 100000
namespace Go.Proofs.YtfnanjbleifjkaaGreatDoor.G
variable {t : ByteArray} {s : RS}
open Go.RowKit
theorem fA {but : List UInt8} {s' : RS} {b : UInt8} (h : aN t but s = .ok b s') : aj t s.k = some b /\ s' = s.up /\ b.toNat < 128 /\ b ∉ but := by
 unfold aN at h
 cases hb : aj t s.k with
 |none => rw [hb] at h; cases h
 |some b' =>
  rw [hb] at h
  by_cases hc : 128 <= b'.toNat \/ b' ∈ but
  ·simp only [if_pos hc] at h; cases h
  ·simp only [if_neg hc] at h
   cases h
   exact ⟨rfl, rfl, by omega, fun h => hc (Or.inr h)⟩
theorem iP {f : UInt8} (h1 : f.toNat <= 125) (h2 : ac t s 92 = true) : au t f s = match aj t s.up.k with
 |none => .bad s.up
 |some b => if b.toNat < f.toNat then .bad s.up else (if b ∈ dX then .ok b s.up.up else .bad s.up) := by
 unfold au; simp only [decide_eq_true h1, h2, Bool.and_self, if_true]; cases aj t s.up.k <;> rfl
theorem fF {f : UInt8} (h : ¬ f.toNat <= 125 \/ ac t s 92 = false) : au t f s = match aj t s.k with
 |none => .bad s
 |some b => if b.toNat < f.toNat then .bad s else aN t dJ s := by
 have : (decide (f.toNat <= 125) && ac t s 92) = false := by
  rcases h with h | h
  ·simp [h]
  ·simp [h]
 unfold au; simp only [this, Bool.false_eq_true, if_false]; cases aj t s.k <;> rfl
theorem oX {w : World} {r mb : Nat} {x : EV} (h : RG w r mb t x s) (f : UInt8) (hf : f.toNat < 128) :
  Calls Tryz.prog 281 #[.pointer (some ⟨r, 0, none⟩), .int .u8 (f.toNat : Int)] w fun e w' => az [r] r mb t x w (fun _ v (b : UInt8) => v = .int .u8 (b.toNat : Int) /\ f.toNat <= b.toNat /\ b.toNat < 128) (au t f s) e w' := by
 have hlt := h.lt
 have ht := h.ht
 have H := aa h
 clear h
 by_cases h125 : f.toNat <= 125
 ·have e125 : (f.toNat : Int) <= 125 := by omega
  go_enter Tryz.func281, Tryz.ntmps281
  go_wp2_with fail
  refine (cV H.O 92 92 rfl).mono ?_
  rintro e w1 ⟨rfl, hg1, hx1⟩
  cases hq : ac t s 92 with
  |true =>
   rw [bV hq] at hg1
   have PM := aa (iP h125 hq)
   have G1 := aa hg1
   have X1 := aa hx1
   have hf1 := hg1.rd.f1
   have hc1 := hg1.rd.c1
   have hl1 := hg1.lt
   have hev := hg1.ev
   clear hq hg1 hx1
   cases hb : aj t s.up.k with
   |none =>
    have HM : Hid (au t f s = .bad s.up) := by show au t f s = _; rw [af PM, hb]
    have HB := aa hb
    clear hb
    go_wp2_with fail
    refine (iy G1.O HB.O).mono ?_
    rintro e w7 ⟨rfl, n1, rfl⟩
    exact ab rfl (az.mkBad HM.O (G1.O.drewN _) (X1.O.drewN _))
   |some b =>
    have hks := (cG hb).1
    have hb256 := b.toNat_lt
    have HB := aa hb
    by_cases hbf : b.toNat < f.toNat
    ·have HM : Hid (au t f s = .bad s.up) := by show au t f s = _; rw [af PM, hb]; simp [hbf]
     have e1 : (b.toNat : Int) < (f.toNat : Int) := by omega
     clear hb
     go_wp2_with fail
     refine (cK G1.O HB.O).mono ?_
     rintro e w7 ⟨rfl, n1, rfl⟩
     go_wp2_with fail
     exact ab rfl (az.mkBad HM.O (G1.O.drewN _) (X1.O.drewN _))
    ·have e1 : ¬ (b.toNat : Int) < (f.toNat : Int) := by omega
     by_cases hin : b ∈ dX
     ·have HM : Hid (au t f s = .ok b s.up.up) := by show au t f s = _; rw [af PM, hb]; simp only [if_neg hbf, if_pos hin]
      have hb128 := tP b hin
      have HIN := aa hin
      clear hb hin
      go_wp2_with fail
      refine (cK G1.O HB.O).mono ?_
      rintro e w7 ⟨rfl, n1, rfl⟩
      go_wp2_with fail
      refine (jC dX b _).mono ?_
      rintro e w2 ⟨⟨ix, rfl, hix⟩, rfl⟩
      have hix0 : ¬ ix < 0 := by have := hix.2 HIN.O; omega
      clear hix
      go_wp2_with fail
      go_ret
      refine az.mkOk HM.O ⟨rfl, by omega, hb128⟩ ?_ ((X1.O.drewN _).setCell (Or.inl (by simp)) _)
      have := (G1.O.drewN n1).up hks
      simpa using this
     ·have HM : Hid (au t f s = .bad s.up) := by show au t f s = _; rw [af PM, hb]; simp only [if_neg hbf, if_neg hin]
      have HIN := aa hin
      clear hb hin
      go_wp2_with fail
      refine (cK G1.O HB.O).mono ?_
      rintro e w7 ⟨rfl, n1, rfl⟩
      go_wp2_with fail
      refine (jC dX b _).mono ?_
      rintro e w2 ⟨⟨ix, rfl, hix⟩, rfl⟩
      have hix0 : ix < 0 := by
       by_cases h0 : 0 <= ix
       ·exact absurd (hix.1 h0) HIN.O
       ·omega
      clear hix
      go_wp2_with fail
      exact ab rfl (az.mkBad HM.O (G1.O.drewN _) (X1.O.drewN _))
  |false =>
   rw [cJ hq] at hg1
   have PM := aa (fF (f := f) (Or.inr hq))
   have G1 := aa hg1
   have X1 := aa hx1
   clear hq hg1 hx1
   cases hb : aj t s.k with
   |none =>
    have HM : Hid (au t f s = .bad s) := by show au t f s = _; rw [af PM, hb]
    have HB := aa hb
    clear hb
    go_wp2_with fail
    refine (iy G1.O HB.O).mono ?_
    rintro e w7 ⟨rfl, n1, rfl⟩
    exact ab rfl (az.mkBad HM.O (G1.O.drewN _) (X1.O.drewN _))
   |some b =>
    have hb256 := b.toNat_lt
    have HB := aa hb
    have hev := G1.O.ev
    by_cases hbf : b.toNat < f.toNat
    ·have HM : Hid (au t f s = .bad s) := by show au t f s = _; rw [af PM, hb]; simp [hbf]
     have e1 : (b.toNat : Int) < (f.toNat : Int) := by omega
     clear hb
     go_wp2_with fail
     refine (cK G1.O HB.O).mono ?_
     rintro e w7 ⟨rfl, n1, rfl⟩
     go_wp2_with fail
     exact ab rfl (az.mkBad HM.O (G1.O.drewN _) (X1.O.drewN _))
    ·have HM : Hid (au t f s = aN t dJ s) := by show au t f s = _; rw [af PM, hb]; simp only [if_neg hbf]
     have e1 : ¬ (b.toNat : Int) < (f.toNat : Int) := by omega
     clear hb hev
     go_wp2_with fail
     refine (cK G1.O HB.O).mono ?_
     rintro e w7 ⟨rfl, n1, rfl⟩
     go_wp2_with fail
     refine (ou (G1.O.drewN _) dJ).mono ?_
     rintro e w8 hp
     rcases hp.split with ⟨b', s8, v, hm, rfl, ⟨rfl, hb8⟩, hg8, hx8⟩ | ⟨s', hm, rfl, hg, hx⟩
     ·have hbb : b' = b := by have h3 := (fA hm).1; rw [HB.O] at h3; exact (Option.some.inj h3).symm
      have hfb : f.toNat <= b'.toNat := by rw [hbb]; omega
      have M8 := aa hm
      have G8 := aa hg8
      have X8 := aa (((X1.O.drewN _)).trans hx8)
      clear hp hm hg8 hx8 hbb
      go_wp2_with fail
      go_ret
      exact az.mkOk (HM.O.trans M8.O) ⟨rfl, hfb, hb8⟩ G8.O X8.O
     ·exact ab rfl (az.mkBad (HM.O.trans hm) hg ((X1.O.drewN _).trans hx))
 ·have e125 : ¬ (f.toNat : Int) <= 125 := by omega
  have PM := aa (fF (t := t) (s := s) (Or.inl h125))
  have X1 := aa (Ex.refl [r] w)
  go_enter Tryz.func281, Tryz.ntmps281
  cases hb : aj t s.k with
  |none =>
   have HM : Hid (au t f s = .bad s) := by show au t f s = _; rw [af PM, hb]
   have HB := aa hb
   clear hb
   go_wp2_with fail
   refine (iy H.O HB.O).mono ?_
   rintro e w7 ⟨rfl, n1, rfl⟩
   exact ab rfl (az.mkBad HM.O (H.O.drewN _) (X1.O.drewN _))
  |some b =>
   have hb256 := b.toNat_lt
   have HB := aa hb
   have hev := H.O.ev
   by_cases hbf : b.toNat < f.toNat
   ·have HM : Hid (au t f s = .bad s) := by show au t f s = _; rw [af PM, hb]; simp [hbf]
    have e1 : (b.toNat : Int) < (f.toNat : Int) := by omega
    clear hb
    go_wp2_with fail
    refine (cK H.O HB.O).mono ?_
    rintro e w7 ⟨rfl, n1, rfl⟩
    go_wp2_with fail
    exact ab rfl (az.mkBad HM.O (H.O.drewN _) (X1.O.drewN _))
   ·have HM : Hid (au t f s = aN t dJ s) := by show au t f s = _; rw [af PM, hb]; simp only [if_neg hbf]
    have e1 : ¬ (b.toNat : Int) < (f.toNat : Int) := by omega
    clear hb hev
    go_wp2_with fail
    refine (cK H.O HB.O).mono ?_
    rintro e w7 ⟨rfl, n1, rfl⟩
    go_wp2_with fail
    refine (ou (H.O.drewN _) dJ).mono ?_
    rintro e w8 hp
    rcases hp.split with ⟨b', s8, v, hm, rfl, ⟨rfl, hb8⟩, hg8, hx8⟩ | ⟨s', hm, rfl, hg, hx⟩
    ·have hbb : b' = b := by have h3 := (fA hm).1; rw [HB.O] at h3; exact (Option.some.inj h3).symm
     have hfb : f.toNat <= b'.toNat := by rw [hbb]; omega
     have M8 := aa hm
     have G8 := aa hg8
     have X8 := aa (((X1.O.drewN _)).trans hx8)
     clear hp hm hg8 hx8 hbb
     go_wp2_with fail
     go_ret
     exact az.mkOk (HM.O.trans M8.O) ⟨rfl, hfb, hb8⟩ G8.O X8.O
    ·exact ab rfl (az.mkBad (HM.O.trans hm) hg ((X1.O.drewN _).trans hx))
theorem xe {w : World} {r mb : Nat} {x : EV} (h : RG w r mb t x s) :
  Calls Tryz.prog 263 #[.pointer (some ⟨r, 0, none⟩)] w fun e w' => az [r] r mb t x w (fun _ v c => v = ar c) (aH t s) e w' := by
 have hlt := h.lt
 have hmlt := h.mlt
 have helt := h.elt
 have ht := h.ht
 have hne : w.heap.size ≠ r := by omega
 have H := aa h
 clear h
 go_enter Tryz.func263, Tryz.ntmps263
 go_wp2_with fail
 refine (cV (H.O.alloc _) 92 92 rfl).mono ?_
 rintro e w1 ⟨rfl, hg1, hx1⟩
 have X1 := aa hx1
 clear hx1
 cases hq : ac t s 92 with
 |false =>
  rw [cJ hq] at hg1
  have G1 := aa hg1
  have HQ := aa hq
  clear hq hg1
  go_wp2_with fail
  refine (ou G1.O dJ).mono ?_
  rintro e w2 hp
  rcases hp.split with ⟨b, s2, v, hm, rfl, ⟨rfl, hb128⟩, hg2, hx2⟩ | ⟨s', hm, rfl, hg, hx⟩
  rotate_left
  ·exact ab rfl (az.mkBad (by simp only [aH, af HQ, Bool.false_eq_true, if_false, hm, Res.bind_bad]) hg (((Ex.refl _ _).alloc _).trans (X1.O.trans hx)))
  have IM : Hid (aH t s = aZ t b s2) := by show aH t s = _; simp only [aH, af HQ, Bool.false_eq_true, if_false, hm, Res.bind_ok]
  have G2 := aa hg2
  have X2 := aa (X1.O.trans hx2)
  clear hp hm hg2 hx2
  go_wp2_with fail
  refine (cV G2.O 45 45 rfl).mono ?_
  rintro e w5 ⟨rfl, hg5, hx5⟩
  have X5 := aa (X2.O.trans hx5)
  cases hq5 : ac t s2 45 with
  |false =>
   rw [cJ hq5] at hg5
   have G5 := aa hg5
   obtain ⟨c, hcc⟩ : ∃ c, bZ b.toNat = c := ⟨_, rfl⟩
   have KB := aa (fun w => cU b.toNat w hb128)
   rw [hcc] at KB
   have HM : Hid (aH t s = .ok c s2) := by show aH t s = _; rw [af IM]; unfold aZ; rw [hq5, hcc]; rfl
   clear hq5 hg5 hx5 hcc
   go_wp2_with fail
   refine (KB.O _).mono ?_
   rintro e w6 ⟨rfl, hx6⟩
   have X6 := aa (X5.O.trans (hx6.drop (by simp)))
   have G6 := aa (G5.O.ex0 hx6)
   clear hx6
   have hb9 := (BK.new w (Obj.cells #[.int .u64 0, .int .u64 0, .bool false] 99)).ex X6.O (by simp; omega)
   obtain ⟨hc, hf⟩ := hb9.all
   have hl := hb9.lt
   clear hb9
   unfold ar
   go_wp2_with fail
   refine bodyPost_ret (v := ar c) (by simp [results, Tryz.results263, go_sem, ar, hc, hl]) rfl (az.mkOk HM.O rfl ?_ ?_)
   ·iterate 3 (refine RG.setN (B := w.heap.size) ?_ hlt hmlt helt (by simp) _)
    exact G6.O
   ·iterate 3 (refine Ex.setCell ?_ (Or.inr (by simp)) _)
    exact ((Ex.refl _ _).alloc _).trans X6.O
  |true =>
   rw [bV hq5] at hg5
   have G5 := aa hg5
   have HT : Hid (aH t s = (au t b s2.up).bind fun e s' => .ok (bU b.toNat e.toNat) s') := by show aH t s = _; rw [af IM]; unfold aZ; rw [hq5]; rfl
   clear hq5 hg5 hx5
   go_wp2_with fail
   refine (oX G5.O b hb128).mono ?_
   rintro e w6 hp
   rcases hp.split with ⟨en, s6, v, hm, rfl, ⟨rfl, hfe, he128⟩, hg6, hx6⟩ | ⟨s', hm, rfl, hg, hx⟩
   rotate_left
   ·exact ab rfl (az.mkBad (by rw [HT.O, hm]; rfl) hg (((Ex.refl _ _).alloc _).trans (X5.O.trans hx)))
   obtain ⟨c, hcc⟩ : ∃ c, bU b.toNat en.toNat = c := ⟨_, rfl⟩
   have KB := aa (fun w => dU b.toNat en.toNat w hfe he128)
   rw [hcc] at KB
   have HM : Hid (aH t s = .ok c s6) := by show aH t s = _; rw [HT.O, hm, Res.bind_ok, hcc]
   have G6 := aa hg6
   have X6 := aa (X5.O.trans hx6)
   clear hp hm hg6 hx6 hcc
   go_wp2_with fail
   refine (KB.O _).mono ?_
   rintro e w7 ⟨rfl, hx7⟩
   have X7 := aa (X6.O.trans (hx7.drop (by simp)))
   have G7 := aa (G6.O.ex0 hx7)
   clear hx7
   have hb9 := (BK.new w (Obj.cells #[.int .u64 0, .int .u64 0, .bool false] 99)).ex X7.O (by simp; omega)
   obtain ⟨hc, hf⟩ := hb9.all
   have hl := hb9.lt
   clear hb9
   unfold ar
   go_wp2_with fail
   refine bodyPost_ret (v := ar c) (by simp [results, Tryz.results263, go_sem, ar, hc, hl]) rfl (az.mkOk HM.O rfl ?_ ?_)
   ·iterate 3 (refine RG.setN (B := w.heap.size) ?_ hlt hmlt helt (by simp) _)
    exact G7.O
   ·iterate 3 (refine Ex.setCell ?_ (Or.inr (by simp)) _)
    exact ((Ex.refl _ _).alloc _).trans X7.O
 |true =>
  rw [bV hq] at hg1
  have G1 := aa hg1
  have HQ := aa hq
  clear hq hg1
  go_wp2_with fail
  refine (sr G1.O).mono ?_
  rintro e w2 hp
  rcases hp.split with ⟨⟨cc, b, okk⟩, s2, v, hm, rfl, ⟨rfl, hb⟩, hg2, hx2⟩ | ⟨s', hm, rfl, hg, hx⟩
  rotate_left
  ·exact ab rfl (az.mkBad (by simp only [aH, af HQ, if_true, hm, Res.bind_bad]) hg (((Ex.refl _ _).alloc _).trans (X1.O.trans hx)))
  cases okk with
  |false =>
   have HM : Hid (aH t s = .ok cc s2) := by show aH t s = _; simp only [aH, af HQ, if_true, hm, Res.bind_ok, Bool.false_eq_true, if_false]
   have G2 := aa hg2
   have X2 := aa (X1.O.trans hx2)
   have hlt2 := hg2.lt
   have hsz2 : w.heap.size < w2.heap.size := by have := X2.O.size; simp at this; omega
   have hb9 := (BK.new w (Obj.cells #[.int .u64 0, .int .u64 0, .bool false] 99)).ex X2.O (by simp; omega)
   obtain ⟨hc, hf⟩ := hb9.all
   have hl := hb9.lt
   clear hb9 hp hm hg2 hx2 hb
   unfold qf ar
   go_wp2_with fail
   refine bodyPost_ret (v := ar cc) (by simp [results, Tryz.results263, go_sem, ar, hc, hl]) rfl (az.mkOk HM.O rfl ?_ ?_)
   ·repeat (first | exact G2.O | refine RG.alloc ?_ _ | refine RG.setN (B := w.heap.size) ?_ hlt hmlt helt (by simp; try omega) _)
   ·repeat (first | exact ((Ex.refl _ _).alloc _).trans X2.O | refine Ex.alloc ?_ _ | refine Ex.setCell ?_ (Or.inr (by simp; try omega)) _)
  |true =>
   have hb128 := hb rfl
   have IM : Hid (aH t s = aZ t b s2) := by show aH t s = _; simp only [aH, af HQ, if_true, hm, Res.bind_ok]
   have G2 := aa hg2
   have X2 := aa (X1.O.trans hx2)
   clear hp hm hg2 hx2 hb
   unfold qf ar
   go_wp2_with fail
   refine (cV (G2.O.alloc _) 45 45 rfl).mono ?_
   rintro e w5 ⟨rfl, hg5, hx5⟩
   have X5 := aa ((X2.O.alloc _).trans hx5)
   cases hq5 : ac t s2 45 with
   |false =>
    rw [cJ hq5] at hg5
    have G5 := aa hg5
    obtain ⟨c, hcc⟩ : ∃ c, bZ b.toNat = c := ⟨_, rfl⟩
    have KB := aa (fun w => cU b.toNat w hb128)
    rw [hcc] at KB
    have HM : Hid (aH t s = .ok c s2) := by show aH t s = _; rw [af IM]; unfold aZ; rw [hq5, hcc]; rfl
    clear hq5 hg5 hx5 hcc
    go_wp2_with fail
    refine (KB.O _).mono ?_
    rintro e w6 ⟨rfl, hx6⟩
    have X6 := aa (X5.O.trans (hx6.drop (by simp)))
    have G6 := aa (G5.O.ex0 hx6)
    clear hx6
    have hb9 := (BK.new w (Obj.cells #[.int .u64 0, .int .u64 0, .bool false] 99)).ex X6.O (by simp; omega)
    obtain ⟨hc, hf⟩ := hb9.all
    have hl := hb9.lt
    clear hb9
    unfold ar
    go_wp2_with fail
    refine bodyPost_ret (v := ar c) (by simp [results, Tryz.results263, go_sem, ar, hc, hl]) rfl (az.mkOk HM.O rfl ?_ ?_)
    ·iterate 3 (refine RG.setN (B := w.heap.size) ?_ hlt hmlt helt (by simp) _)
     exact G6.O
    ·iterate 3 (refine Ex.setCell ?_ (Or.inr (by simp)) _)
     exact ((Ex.refl _ _).alloc _).trans X6.O
   |true =>
    rw [bV hq5] at hg5
    have G5 := aa hg5
    have HT : Hid (aH t s = (au t b s2.up).bind fun e s' => .ok (bU b.toNat e.toNat) s') := by show aH t s = _; rw [af IM]; unfold aZ; rw [hq5]; rfl
    clear hq5 hg5 hx5
    go_wp2_with fail
    refine (oX G5.O b hb128).mono ?_
    rintro e w6 hp
    rcases hp.split with ⟨en, s6, v, hm, rfl, ⟨rfl, hfe, he128⟩, hg6, hx6⟩ | ⟨s', hm, rfl, hg, hx⟩
    rotate_left
    ·exact ab rfl (az.mkBad (by rw [HT.O, hm]; rfl) hg (((Ex.refl _ _).alloc _).trans (X5.O.trans hx)))
    obtain ⟨c, hcc⟩ : ∃ c, bU b.toNat en.toNat = c := ⟨_, rfl⟩
    have KB := aa (fun w => dU b.toNat en.toNat w hfe he128)
    rw [hcc] at KB
    have HM : Hid (aH t s = .ok c s6) := by show aH t s = _; rw [HT.O, hm, Res.bind_ok, hcc]
    have G6 := aa hg6
    have X6 := aa (X5.O.trans hx6)
    clear hp hm hg6 hx6 hcc
    go_wp2_with fail
    refine (KB.O _).mono ?_
    rintro e w7 ⟨rfl, hx7⟩
    have X7 := aa (X6.O.trans (hx7.drop (by simp)))
    have G7 := aa (G6.O.ex0 hx7)
    clear hx7
    have hb9 := (BK.new w (Obj.cells #[.int .u64 0, .int .u64 0, .bool false] 99)).ex X7.O (by simp; omega)
    obtain ⟨hc, hf⟩ := hb9.all
    have hl := hb9.lt
    clear hb9
    unfold ar
    go_wp2_with fail
    refine bodyPost_ret (v := ar c) (by simp [results, Tryz.results263, go_sem, ar, hc, hl]) rfl (az.mkOk HM.O rfl ?_ ?_)
    ·iterate 3 (refine RG.setN (B := w.heap.size) ?_ hlt hmlt helt (by simp) _)
     exact G7.O
    ·iterate 3 (refine Ex.setCell ?_ (Or.inr (by simp)) _)
     exact ((Ex.refl _ _).alloc _).trans X7.O
end Go.Proofs.YtfnanjbleifjkaaGreatDoor.G
