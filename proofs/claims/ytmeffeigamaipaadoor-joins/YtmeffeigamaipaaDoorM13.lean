/- The pattern reader: what opens a group (of texts in which no group has a name). -/
import Derived.Test.YtmeffeigamaipaaDoorM12
set_option linter.unusedVariables false
set_option linter.unusedSimpArgs false
namespace Go.Proofs.YtmeffeigamaipaaDoor.G
open Go.RowKit

def NP (t : ByteArray) : Prop := t = t
theorem NP.all (t : ByteArray) : NP t := rfl

theorem RG.g1 {w : World} {r mb : Nat} {t : ByteArray} {x : EV} {s : RS} (h : RG w r mb t x s) : RG (w.setCell ⟨r, 4, none⟩ (.int .i64 ((s.g + 1 : Nat) : Int))) r mb t x { s with g := s.g + 1 } :=
  h.own (s' := { s with g := s.g + 1 }) rfl _ rfl h.hk (by
    have h1 := h.rd
    unfold RD at h1 ⊢
    simp [World.setCell, Array.getElem?_modify, h1])
theorem RG.c4 {w : World} {r mb : Nat} {t : ByteArray} {x : EV} {s : RS} (h : RG w r mb t x s) : w.cell? ⟨r, 4, none⟩ = some (.int .i64 s.g) := by
  rw [cell_of_row w r 4 _ 63 (0, 0) h.rd]; rfl
theorem RG.fz {w : World} {r mb : Nat} {t : ByteArray} {x : EV} {s : RS} (h : RG w r mb t x s) (o : Nat) : w.frozen? ⟨r, o, none⟩ = false := by
  have := h.rd; unfold RD at this; simp [World.frozen?, this]

theorem mustM_g {t : ByteArray} {s s' : RS} {b : UInt8} {u : Unit} (h : mustM t s b = .ok u s') : s'.g = s.g := by
  unfold mustM at h
  split at h
  · cases h; rfl
  · cases h
theorem mustM_nm {t : ByteArray} {s s' : RS} {b : UInt8} {u : Unit} (h : mustM t s b = .ok u s') : s'.nm = s.nm := by
  unfold mustM at h
  split at h
  · cases h; rfl
  · cases h
theorem gnLoop_ok {t : ByteArray} {i : Nat} : ∀ (n : Nat) (s s' : RS), gnLoop t i n s = .ok () s' → s'.nm = s.nm ∧ s'.g = s.g ∧ s.k ≤ s'.k ∧ s'.k ≤ max s.k t.size
  | 0, s, s', h => by cases h; exact ⟨rfl, rfl, Nat.le_refl _, by omega⟩
  | n + 1, s, s', h => by
    unfold gnLoop at h
    split at h
    · cases h
    · next b hb =>
      split at h
      · split at h
        · cases h
        · have h1 := gnLoop_ok n s.up s' h
          have h2 := (byteAt_some hb).1
          simp only [RS.up] at h1
          exact ⟨h1.1, h1.2.1, by omega, by omega⟩
      · cases h; exact ⟨rfl, rfl, Nat.le_refl _, by omega⟩
theorem groupName_ok {t : ByteArray} {s s' : RS} {n : ByteArray} (h : groupNameM t s = .ok n s') : takenM s'.nm n = false ∧ n.size ≤ t.size ∧ s'.g = s.g := by
  unfold groupNameM at h
  obtain ⟨_, s1, h1, h2⟩ := Res.bind_eq_ok h
  split at h2
  · cases h2
  · next hc =>
    cases h2
    refine ⟨by rw [Bool.eq_false_iff]; exact fun e => hc (Or.inr e), ?_, (gnLoop_ok 8 s _ h1).2.1⟩
    rw [ByteArray.size_extract]; omega

set_option maxHeartbeats 1000000 in
set_option maxRecDepth 100000 in
theorem gOpening {w : World} {r mb : Nat} {t : ByteArray} {x : EV} {s : RS} (h : RG w r mb t x s) (hnp : NP t) (hg5 : s.g ≤ 5) :
    Calls Tryd.prog 65 #[.pointer (some ⟨r, 0, none⟩)] w fun e w' => Post [r, mb] r mb t x w (fun _ v (n : Nat) => v = .int .i64 (n : Int)) (openingM t s) e w' := by
  have hlt := h.lt
  have ht := h.ht
  have h4 := h.c4
  have hf4 := h.fz 4
  have H := hide h
  have HNP := hide hnp
  clear h hnp
  by_cases h5 : s.g = 5
  · have e5 : ((s.g : Int) == 5) = true := by simp; omega
    go_enter Tryd.func65, Tryd.ntmps65
    go_wp2_with fail
    refine (gMust H.out 63 63 rfl).mono ?_
    rintro e w1 hp
    rcases hp.split with ⟨_, s1, v, hm, rfl, rfl, hg1, hx1⟩ | ⟨s', hm, rfl, hg, hx⟩
    rotate_left
    · exact body_panic rfl (Post.mkBad (by unfold openingM; rw [if_neg (by simp [h5]), hm]; rfl) hg (hx.drop (by simp)))
    have HS1 : Hid (s1 = s.up) := by
      show s1 = s.up
      unfold mustM at hm
      split at hm
      · cases hm; rfl
      · cases hm
    have M1 : Hid (openingM t s = if seesM t s1 58 then .ok 0 s1.up else if s1.g = 5 then .bad s1 else (mustM t s1 80).bind fun _ s2 => (mustM t s2 60).bind fun _ s3 => (groupNameM t s3).bind fun n s4 => (mustM t s4 62).bind fun _ s5 =>
      .ok (s5.g + 1) { s5 with g := s5.g + 1, nm := s5.nm ++ [(n, s5.g + 1)] }) := by show openingM t s = _; unfold openingM; rw [if_neg (by simp [h5]), hm]; rfl
    have G1 := hide hg1
    have X1 := hide hx1
    clear hp hm hg1 hx1 h4 hf4
    go_wp2_with fail
    refine (gTakes G1.out 58 58 rfl).mono ?_
    rintro e w2 ⟨rfl, hg2, hx2⟩
    cases hq : seesM t s1 58 with
    | true =>
      rw [took_yes hq] at hg2
      have HM : Hid (openingM t s = .ok 0 s1.up) := by show openingM t s = _; rw [M1.out, if_pos hq]
      have G2 := hide hg2
      have X2 := hide (X1.out.trans hx2)
      clear hq hg2 hx2
      go_wp2_with fail
      go_ret
      exact Post.mkOk HM.out rfl G2.out (X2.out.drop (by simp))
    | false =>
      rw [took_no hq] at hg2
      have HM : Hid (openingM t s = .bad s1) := by show openingM t s = _; rw [M1.out, if_neg (by simp [hq]), if_pos (by rw [HS1.out]; exact h5)]
      have hev := hg2.ev
      have G2 := hide hg2
      have X2 := hide (X1.out.trans hx2)
      clear hq hg2 hx2
      go_wp2_with fail
      exact body_panic rfl (Post.mkBad HM.out G2.out (X2.out.drop (by simp)))
  · have e5 : ((s.g : Int) == 5) = false := by rw [beq_eq_false_iff_ne]; omega
    go_enter Tryd.func65, Tryd.ntmps65
    go_wp2_with fail
    refine (gSees H.out 63 63 rfl).mono ?_
    rintro e w0 ⟨rfl, n0, hw0⟩
    have hg0 : RG w0 r mb t x s := by rw [hw0]; exact H.out.drewN _
    have hx0 : Ex [r, mb] w w0 := by rw [hw0]; exact (Ex.refl _ _).drewN _
    have h04 := hg0.c4
    have hf04 := hg0.fz 4
    have hl0 := hg0.lt
    have G0 := hide hg0
    have X0 := hide hx0
    clear hw0 hg0 hx0 h4 hf4
    cases hq0 : seesM t s 63 with
    | false =>
      have HM : Hid (openingM t s = .ok (s.g + 1) { s with g := s.g + 1 }) := by show openingM t s = _; unfold openingM; rw [if_pos ⟨h5, hq0⟩]
      clear hq0
      go_wp2_with fail
      go_ret
      refine Post.mkOk HM.out (by simp) ?_ (X0.out.setCell (Or.inl (by simp)) _)
      have := G0.out.g1
      simpa using this
    | true =>
      have HQ0 := hide hq0
      have HM0 : Hid (mustM t s 63 = .ok () s.up) := mustM_yes hq0
      clear hq0
      go_wp2_with fail
      refine (gMust G0.out 63 63 rfl).mono ?_
      rintro e w1 hp
      rcases hp.split with ⟨_, s1, v, hm, rfl, rfl, hg1, hx1⟩ | ⟨s', hm, rfl, hg, hx⟩
      rotate_left
      · rw [HM0.out] at hm; cases hm
      have hs1 : s.up = s1 := by rw [HM0.out] at hm; cases hm; rfl
      have M1 : Hid (openingM t s = if seesM t s1 58 then .ok 0 s1.up else if s1.g = 5 then .bad s1 else (mustM t s1 80).bind fun _ s2 => (mustM t s2 60).bind fun _ s3 => (groupNameM t s3).bind fun n s4 => (mustM t s4 62).bind fun _ s5 =>
        .ok (s5.g + 1) { s5 with g := s5.g + 1, nm := s5.nm ++ [(n, s5.g + 1)] }) := by show openingM t s = _; unfold openingM; rw [if_neg (by simp [HQ0.out]), hm]; rfl
      have hs1g : ¬ s1.g = 5 := by rw [← hs1]; exact h5
      have hs1g2 : s1.g = s.g := by rw [← hs1]; rfl
      have G1 := hide hg1
      have X1 := hide (X0.out.trans (hx1.drop (by simp)))
      clear hp hm hg1 hx1 h04 hf04 hs1
      go_wp2_with fail
      refine (gTakes G1.out 58 58 rfl).mono ?_
      rintro e w2 ⟨rfl, hg2, hx2⟩
      cases hq : seesM t s1 58 with
      | true =>
        rw [took_yes hq] at hg2
        have HM : Hid (openingM t s = .ok 0 s1.up) := by show openingM t s = _; rw [M1.out, if_pos hq]
        have G2 := hide hg2
        have X2 := hide (X1.out.trans (hx2.drop (by simp)))
        clear hq hg2 hx2
        go_wp2_with fail
        go_ret
        exact Post.mkOk HM.out rfl G2.out X2.out
      | false =>
        rw [took_no hq] at hg2
        have M2 : Hid (openingM t s = (mustM t s1 80).bind fun _ s2 => (mustM t s2 60).bind fun _ s3 => (groupNameM t s3).bind fun n s4 => (mustM t s4 62).bind fun _ s5 =>
          .ok (s5.g + 1) { s5 with g := s5.g + 1, nm := s5.nm ++ [(n, s5.g + 1)] }) := by show openingM t s = _; rw [M1.out, if_neg (by simp [hq]), if_neg hs1g]
        have G2 := hide hg2
        have X2 := hide (X1.out.trans (hx2.drop (by simp)))
        clear hq hg2 hx2
        go_wp2_with fail
        refine (gMust G2.out 80 80 rfl).mono ?_
        rintro e w3 hp
        rcases hp.split with ⟨_, s3, v, hm, rfl, rfl, hg3, hx3⟩ | ⟨s', hm, rfl, hg, hx⟩
        rotate_left
        · exact body_panic rfl (Post.mkBad (by rw [M2.out, hm]; rfl) hg (X2.out.trans (hx.drop (by simp))))
        have M3 : Hid (openingM t s = (mustM t s3 60).bind fun _ s3 => (groupNameM t s3).bind fun n s4 => (mustM t s4 62).bind fun _ s5 =>
          .ok (s5.g + 1) { s5 with g := s5.g + 1, nm := s5.nm ++ [(n, s5.g + 1)] }) := by show openingM t s = _; rw [M2.out, hm, Res.bind_ok]
        have G3 := hide hg3
        have X3 := hide (X2.out.trans (hx3.drop (by simp)))
        have hg3' : s3.g = s1.g := mustM_g hm
        clear hp hm hg3 hx3
        go_wp2_with fail
        refine (gMust G3.out 60 60 rfl).mono ?_
        rintro e w4 hp
        rcases hp.split with ⟨_, s4, v, hm, rfl, rfl, hg4, hx4⟩ | ⟨s', hm, rfl, hg, hx⟩
        rotate_left
        · exact body_panic rfl (Post.mkBad (by rw [M3.out, hm]; rfl) hg (X3.out.trans (hx.drop (by simp))))
        have M4 : Hid (openingM t s = (groupNameM t s4).bind fun n s4 => (mustM t s4 62).bind fun _ s5 =>
          .ok (s5.g + 1) { s5 with g := s5.g + 1, nm := s5.nm ++ [(n, s5.g + 1)] }) := by show openingM t s = _; rw [M3.out, hm, Res.bind_ok]
        have G4 := hide hg4
        have X4 := hide (X3.out.trans (hx4.drop (by simp)))
        have hg4' : s4.g = s3.g := mustM_g hm
        clear hp hm hg4 hx4
        go_wp2_with fail
        refine (gGroupName G4.out).mono ?_
        rintro e w5 hp
        rcases hp.split with ⟨nv, s5, v, hm, rfl, rfl, hg5', hx5⟩ | ⟨s', hm, rfl, hg, hx⟩
        rotate_left
        · exact body_panic rfl (Post.mkBad (by rw [M4.out, hm]; rfl) hg (X4.out.trans (hx.drop (by simp))))
        have M5 : Hid (openingM t s = (mustM t s5 62).bind fun _ s6 => .ok (s6.g + 1) { s6 with g := s6.g + 1, nm := s6.nm ++ [(nv, s6.g + 1)] }) := by show openingM t s = _; rw [M4.out, hm, Res.bind_ok]
        have G5 := hide hg5'
        have X5 := hide (X4.out.trans (hx5.drop (by simp)))
        have hgn := groupName_ok hm
        have HGN := hide hgn
        clear hp hm hg5' hx5 hgn
        go_wp2_with fail
        refine (gMust G5.out 62 62 rfl).mono ?_
        rintro e w6 hp
        rcases hp.split with ⟨_, s6, v, hm, rfl, rfl, hg6, hx6⟩ | ⟨s', hm, rfl, hg, hx⟩
        rotate_left
        · exact body_panic rfl (Post.mkBad (by rw [M5.out, hm]; rfl) hg (X5.out.trans (hx.drop (by simp))))
        have M6 : Hid (openingM t s = .ok (s6.g + 1) { s6 with g := s6.g + 1, nm := s6.nm ++ [(nv, s6.g + 1)] }) := by show openingM t s = _; rw [M5.out, hm, Res.bind_ok]
        have hnm6 : s6.nm = s5.nm := mustM_nm hm
        have hnsz : nv.size ≤ 60 := by have h1 := HGN.out.2.1; have h2 := G5.out.ht; omega
        have htk : takenM s6.nm nv = false := by rw [hnm6]; exact HGN.out.1
        have h64 := hg6.c4
        have h65 := hg6.c5
        have hf64 := hg6.fz 4
        have hl6 := hg6.lt
        have hmrm := hg6.rm
        have G6 := hide hg6
        have X6 := hide (X5.out.trans (hx6.drop (by simp)))
        have HTK := hide htk
        have hgb : (s6.g : Int) + 1 ≤ 1000000 := by have h1 := HGN.out.2.2; have h2 := mustM_g hm; omega
        obtain ⟨gg, hgg⟩ : ∃ gg, gg = s6.g := ⟨_, rfl⟩
        rw [← hgg] at h64 hgb
        have HGG := hide hgg
        clear hp hm hg6 hx6 htk hgg hnm6
        go_wp2_with fail
        generalize hW : World.setCell w6 _ _ = W
        have hgW : RG W r mb t x { s6 with g := s6.g + 1 } := by
          have h1 := G6.out.g1
          rw [← HGG.out] at h1 ⊢
          rw [← hW]
          simpa using h1
        have hxW : Ex [r, mb] w W := by rw [← hW]; exact X6.out.setCell (Or.inl (by simp)) _
        have HGW := hide hgW
        have HXW := hide hxW
        have hlW := hgW.lt
        have hmW := hgW.mlt
        have t5 := hgW.c5
        have t4 : W.cell? ⟨r, 4, none⟩ = some (.int .i64 ((gg : Int) + 1)) := by have h1 := hgW.c4; simp only [← HGG.out] at h1; simpa using h1
        have KC := hide (fun (w' : World) => clone_any nv w' (by omega))
        clear hW hgW hxW h64 h65 hf64
        go_region_held3 (fun w' => w'.cell? ⟨r, 5, none⟩ = some (.map (some mb)) ∧ w'.cell? ⟨r, 4, none⟩ = some (.int .i64 ((gg : Int) + 1)))
          (first | exact ⟨q5', q4'⟩ | exact ⟨q5, q4⟩ | exact ⟨t5, t4⟩)
          (first
            | (go_at_call 74; refine (KC.out _).mono ?_; rintro e w7 ⟨rfl, hx7⟩; have hg7 := HGW.out.drew.ex0 hx7; have q5 := hg7.c5; have q4 : w7.cell? ⟨r, 4, none⟩ = some (.int .i64 ((gg : Int) + 1)) := (by have h1 := hg7.c4; simp only [← HGG.out] at h1; simpa using h1); have hput := nm_put (gg + 1) hg7.mp hg7.nk hnsz HTK.out; rw [show ((gg + 1 : Nat) : Int) = (gg : Int) + 1 by simp] at hput; obtain ⟨w8, hw8⟩ : ∃ w8, w8 = putB w7 mb (.map (nmE (s6.nm ++ [(nv, gg + 1)])) (s6.nm ++ [(nv, gg + 1)]).length) := ⟨_, rfl⟩; rw [← hw8] at hput; have hx8 : Ex [mb] w7 w8 := (by rw [hw8]; exact putB_ex _ _ _); have HW8 := hide hw8; clear hw8; have q5' := (hx8.cell.1 r 5 hg7.lt (by simpa using hmrm)).trans q5; have q4' := (hx8.cell.1 r 4 hg7.lt (by simpa using hmrm)).trans q4))
        have hg8 : RG w8 r mb t x { s6 with g := s6.g + 1, nm := s6.nm ++ [(nv, s6.g + 1)] } := by
          refine ⟨hg7.rd.ex hx8 (by simpa using hmrm), ?_, (hx8.cell.1 _ _ hg7.elt (by simpa using hg7.me.symm)).trans hg7.ev, hg7.rm, hg7.re, hg7.me, hg7.hk, hg7.ht, fun y hy => ?_⟩
          · rw [HW8.out, ← HGG.out]; exact putB_bk hg7.mp
          · rcases List.mem_append.1 hy with hy | hy
            · exact hg7.nk y hy
            · simp at hy; subst hy; exact hnsz
        have G8 := hide hg8
        have X8 := hide (HXW.out.trans ((((Ex.refl [r, mb] W).drew).trans (hx7.drop (by simp))).trans (hx8.drop (by simp))))
        have hl8 := hg8.lt
        clear hg7 hx7 hx8 hput hg8 q5 q4 t5 t4
        go_wp2_with fail
        go_ret
        exact Post.mkOk M6.out (by rw [HGG.out]; simp) G8.out X8.out
end Go.Proofs.YtmeffeigamaipaaDoor.G
