/- G10 G11, one behind the other. -/
import Derived.Test.YtgmjjhmnchefbaaGreatDoorM09
set_option linter.unusedVariables false
set_option linter.unusedSimpArgs false
/- The pattern reader: what opens a group (of texts in which no group has a name). -/
namespace Go.Proofs.YtgmjjhmnchefbaaGreatDoor.G
open Go.RowKit

def NP (t : ByteArray) : Prop := t = t
theorem NP.all (t : ByteArray) : NP t := rfl

theorem RG.g1 {w : World} {r mb : Nat} {t : ByteArray} {x : EV} {s : RS} (h : RG w r mb t x s) : RG (w.setCell ⟨r, 4, none⟩ (.int .i64 ((s.g + 1 : Nat) : Int))) r mb t x { s with g := s.g + 1 } :=
  h.own (s' := { s with g := s.g + 1 }) rfl _ rfl h.hk (by
    have h1 := h.rd
    unfold RD at h1 ⊢
    simp [World.setCell, Array.getElem?_modify, h1])
theorem RG.c4 {w : World} {r mb : Nat} {t : ByteArray} {x : EV} {s : RS} (h : RG w r mb t x s) : w.cell? ⟨r, 4, none⟩ = some (.int .i64 s.g) := by
  rw [cell_of_row w r 4 _ 80 (0, 0) h.rd]; rfl
theorem RG.fz {w : World} {r mb : Nat} {t : ByteArray} {x : EV} {s : RS} (h : RG w r mb t x s) (o : Nat) : w.frozen? ⟨r, o, none⟩ = false := by
  have := h.rd; unfold RD at this; simp [World.frozen?, this]

theorem mustM_g {t : ByteArray} {s s' : RS} {b : UInt8} {u : Unit} (h : mustM t s b = .ok u s') : s'.g = s.g := by
  unfold mustM at h
  split at h
  · cases h; rfl
  · cases h
theorem mustM_nm {t : ByteArray} {s s' : RS} {b : UInt8} {u : Unit} (h : mustM t s b = .ok u s') : s'.nm = s.nm := by
  unfold mustM at h
  split at h
  · cases h; rfl
  · cases h
theorem gnLoop_ok {t : ByteArray} {i : Nat} : ∀ (n : Nat) (s s' : RS), gnLoop t i n s = .ok () s' → s'.nm = s.nm ∧ s'.g = s.g ∧ s.k ≤ s'.k ∧ s'.k ≤ max s.k t.size
  | 0, s, s', h => by cases h; exact ⟨rfl, rfl, Nat.le_refl _, by omega⟩
  | n + 1, s, s', h => by
    unfold gnLoop at h
    split at h
    · cases h
    · next b hb =>
      split at h
      · split at h
        · cases h
        · have h1 := gnLoop_ok n s.up s' h
          have h2 := (byteAt_some hb).1
          simp only [RS.up] at h1
          exact ⟨h1.1, h1.2.1, by omega, by omega⟩
      · cases h; exact ⟨rfl, rfl, Nat.le_refl _, by omega⟩
theorem groupName_ok {t : ByteArray} {s s' : RS} {n : ByteArray} (h : groupNameM t s = .ok n s') : takenM s'.nm n = false ∧ n.size ≤ t.size ∧ s'.g = s.g := by
  unfold groupNameM at h
  obtain ⟨_, s1, h1, h2⟩ := Res.bind_eq_ok h
  split at h2
  · cases h2
  · next hc =>
    cases h2
    refine ⟨by rw [Bool.eq_false_iff]; exact fun e => hc (Or.inr e), ?_, (gnLoop_ok 8 s _ h1).2.1⟩
    rw [ByteArray.size_extract]; omega

set_option maxHeartbeats 1000000 in
set_option maxRecDepth 100000 in
theorem gOpening {w : World} {r mb : Nat} {t : ByteArray} {x : EV} {s : RS} (h : RG w r mb t x s) (hnp : NP t) (hg5 : s.g ≤ 5) :
    Calls Tryz.prog 177 #[.pointer (some ⟨r, 0, none⟩)] w fun e w' => Post [r, mb] r mb t x w (fun _ v (n : Nat) => v = .int .i64 (n : Int)) (openingM t s) e w' := by
  have hlt := h.lt
  have ht := h.ht
  have h4 := h.c4
  have hf4 := h.fz 4
  have H := hide h
  have HNP := hide hnp
  clear h hnp
  by_cases h5 : s.g = 5
  · have e5 : ((s.g : Int) == 5) = true := by simp; omega
    go_enter Tryz.func177, Tryz.ntmps177
    go_wp2_with fail
    refine (gMust H.out 63 63 rfl).mono ?_
    rintro e w1 hp
    rcases hp.split with ⟨_, s1, v, hm, rfl, rfl, hg1, hx1⟩ | ⟨s', hm, rfl, hg, hx⟩
    rotate_left
    · exact body_panic rfl (Post.mkBad (by unfold openingM; rw [if_neg (by simp [h5]), hm]; rfl) hg (hx.drop (by simp)))
    have HS1 : Hid (s1 = s.up) := by
      show s1 = s.up
      unfold mustM at hm
      split at hm
      · cases hm; rfl
      · cases hm
    have M1 : Hid (openingM t s = if seesM t s1 58 then .ok 0 s1.up else if s1.g = 5 then .bad s1 else (mustM t s1 80).bind fun _ s2 => (mustM t s2 60).bind fun _ s3 => (groupNameM t s3).bind fun n s4 => (mustM t s4 62).bind fun _ s5 =>
      .ok (s5.g + 1) { s5 with g := s5.g + 1, nm := s5.nm ++ [(n, s5.g + 1)] }) := by show openingM t s = _; unfold openingM; rw [if_neg (by simp [h5]), hm]; rfl
    have G1 := hide hg1
    have X1 := hide hx1
    clear hp hm hg1 hx1 h4 hf4
    go_wp2_with fail
    refine (gTakes G1.out 58 58 rfl).mono ?_
    rintro e w2 ⟨rfl, hg2, hx2⟩
    cases hq : seesM t s1 58 with
    | true =>
      rw [took_yes hq] at hg2
      have HM : Hid (openingM t s = .ok 0 s1.up) := by show openingM t s = _; rw [M1.out, if_pos hq]
      have G2 := hide hg2
      have X2 := hide (X1.out.trans hx2)
      clear hq hg2 hx2
      go_wp2_with fail
      go_ret
      exact Post.mkOk HM.out rfl G2.out (X2.out.drop (by simp))
    | false =>
      rw [took_no hq] at hg2
      have HM : Hid (openingM t s = .bad s1) := by show openingM t s = _; rw [M1.out, if_neg (by simp [hq]), if_pos (by rw [HS1.out]; exact h5)]
      have hev := hg2.ev
      have G2 := hide hg2
      have X2 := hide (X1.out.trans hx2)
      clear hq hg2 hx2
      go_wp2_with fail
      exact body_panic rfl (Post.mkBad HM.out G2.out (X2.out.drop (by simp)))
  · have e5 : ((s.g : Int) == 5) = false := by rw [beq_eq_false_iff_ne]; omega
    go_enter Tryz.func177, Tryz.ntmps177
    go_wp2_with fail
    refine (gSees H.out 63 63 rfl).mono ?_
    rintro e w0 ⟨rfl, n0, hw0⟩
    have hg0 : RG w0 r mb t x s := by rw [hw0]; exact H.out.drewN _
    have hx0 : Ex [r, mb] w w0 := by rw [hw0]; exact (Ex.refl _ _).drewN _
    have h04 := hg0.c4
    have hf04 := hg0.fz 4
    have hl0 := hg0.lt
    have G0 := hide hg0
    have X0 := hide hx0
    clear hw0 hg0 hx0 h4 hf4
    cases hq0 : seesM t s 63 with
    | false =>
      have HM : Hid (openingM t s = .ok (s.g + 1) { s with g := s.g + 1 }) := by show openingM t s = _; unfold openingM; rw [if_pos ⟨h5, hq0⟩]
      clear hq0
      go_wp2_with fail
      go_ret
      refine Post.mkOk HM.out (by simp) ?_ (X0.out.setCell (Or.inl (by simp)) _)
      have := G0.out.g1
      simpa using this
    | true =>
      have HQ0 := hide hq0
      have HM0 : Hid (mustM t s 63 = .ok () s.up) := mustM_yes hq0
      clear hq0
      go_wp2_with fail
      refine (gMust G0.out 63 63 rfl).mono ?_
      rintro e w1 hp
      rcases hp.split with ⟨_, s1, v, hm, rfl, rfl, hg1, hx1⟩ | ⟨s', hm, rfl, hg, hx⟩
      rotate_left
      · rw [HM0.out] at hm; cases hm
      have hs1 : s.up = s1 := by rw [HM0.out] at hm; cases hm; rfl
      have M1 : Hid (openingM t s = if seesM t s1 58 then .ok 0 s1.up else if s1.g = 5 then .bad s1 else (mustM t s1 80).bind fun _ s2 => (mustM t s2 60).bind fun _ s3 => (groupNameM t s3).bind fun n s4 => (mustM t s4 62).bind fun _ s5 =>
        .ok (s5.g + 1) { s5 with g := s5.g + 1, nm := s5.nm ++ [(n, s5.g + 1)] }) := by show openingM t s = _; unfold openingM; rw [if_neg (by simp [HQ0.out]), hm]; rfl
      have hs1g : ¬ s1.g = 5 := by rw [← hs1]; exact h5
      have hs1g2 : s1.g = s.g := by rw [← hs1]; rfl
      have G1 := hide hg1
      have X1 := hide (X0.out.trans (hx1.drop (by simp)))
      clear hp hm hg1 hx1 h04 hf04 hs1
      go_wp2_with fail
      refine (gTakes G1.out 58 58 rfl).mono ?_
      rintro e w2 ⟨rfl, hg2, hx2⟩
      cases hq : seesM t s1 58 with
      | true =>
        rw [took_yes hq] at hg2
        have HM : Hid (openingM t s = .ok 0 s1.up) := by show openingM t s = _; rw [M1.out, if_pos hq]
        have G2 := hide hg2
        have X2 := hide (X1.out.trans (hx2.drop (by simp)))
        clear hq hg2 hx2
        go_wp2_with fail
        go_ret
        exact Post.mkOk HM.out rfl G2.out X2.out
      | false =>
        rw [took_no hq] at hg2
        have M2 : Hid (openingM t s = (mustM t s1 80).bind fun _ s2 => (mustM t s2 60).bind fun _ s3 => (groupNameM t s3).bind fun n s4 => (mustM t s4 62).bind fun _ s5 =>
          .ok (s5.g + 1) { s5 with g := s5.g + 1, nm := s5.nm ++ [(n, s5.g + 1)] }) := by show openingM t s = _; rw [M1.out, if_neg (by simp [hq]), if_neg hs1g]
        have G2 := hide hg2
        have X2 := hide (X1.out.trans (hx2.drop (by simp)))
        clear hq hg2 hx2
        go_wp2_with fail
        refine (gMust G2.out 80 80 rfl).mono ?_
        rintro e w3 hp
        rcases hp.split with ⟨_, s3, v, hm, rfl, rfl, hg3, hx3⟩ | ⟨s', hm, rfl, hg, hx⟩
        rotate_left
        · exact body_panic rfl (Post.mkBad (by rw [M2.out, hm]; rfl) hg (X2.out.trans (hx.drop (by simp))))
        have M3 : Hid (openingM t s = (mustM t s3 60).bind fun _ s3 => (groupNameM t s3).bind fun n s4 => (mustM t s4 62).bind fun _ s5 =>
          .ok (s5.g + 1) { s5 with g := s5.g + 1, nm := s5.nm ++ [(n, s5.g + 1)] }) := by show openingM t s = _; rw [M2.out, hm, Res.bind_ok]
        have G3 := hide hg3
        have X3 := hide (X2.out.trans (hx3.drop (by simp)))
        have hg3' : s3.g = s1.g := mustM_g hm
        clear hp hm hg3 hx3
        go_wp2_with fail
        refine (gMust G3.out 60 60 rfl).mono ?_
        rintro e w4 hp
        rcases hp.split with ⟨_, s4, v, hm, rfl, rfl, hg4, hx4⟩ | ⟨s', hm, rfl, hg, hx⟩
        rotate_left
        · exact body_panic rfl (Post.mkBad (by rw [M3.out, hm]; rfl) hg (X3.out.trans (hx.drop (by simp))))
        have M4 : Hid (openingM t s = (groupNameM t s4).bind fun n s4 => (mustM t s4 62).bind fun _ s5 =>
          .ok (s5.g + 1) { s5 with g := s5.g + 1, nm := s5.nm ++ [(n, s5.g + 1)] }) := by show openingM t s = _; rw [M3.out, hm, Res.bind_ok]
        have G4 := hide hg4
        have X4 := hide (X3.out.trans (hx4.drop (by simp)))
        have hg4' : s4.g = s3.g := mustM_g hm
        clear hp hm hg4 hx4
        go_wp2_with fail
        refine (gGroupName G4.out).mono ?_
        rintro e w5 hp
        rcases hp.split with ⟨nv, s5, v, hm, rfl, rfl, hg5', hx5⟩ | ⟨s', hm, rfl, hg, hx⟩
        rotate_left
        · exact body_panic rfl (Post.mkBad (by rw [M4.out, hm]; rfl) hg (X4.out.trans (hx.drop (by simp))))
        have M5 : Hid (openingM t s = (mustM t s5 62).bind fun _ s6 => .ok (s6.g + 1) { s6 with g := s6.g + 1, nm := s6.nm ++ [(nv, s6.g + 1)] }) := by show openingM t s = _; rw [M4.out, hm, Res.bind_ok]
        have G5 := hide hg5'
        have X5 := hide (X4.out.trans (hx5.drop (by simp)))
        have hgn := groupName_ok hm
        have HGN := hide hgn
        clear hp hm hg5' hx5 hgn
        go_wp2_with fail
        refine (gMust G5.out 62 62 rfl).mono ?_
        rintro e w6 hp
        rcases hp.split with ⟨_, s6, v, hm, rfl, rfl, hg6, hx6⟩ | ⟨s', hm, rfl, hg, hx⟩
        rotate_left
        · exact body_panic rfl (Post.mkBad (by rw [M5.out, hm]; rfl) hg (X5.out.trans (hx.drop (by simp))))
        have M6 : Hid (openingM t s = .ok (s6.g + 1) { s6 with g := s6.g + 1, nm := s6.nm ++ [(nv, s6.g + 1)] }) := by show openingM t s = _; rw [M5.out, hm, Res.bind_ok]
        have hnm6 : s6.nm = s5.nm := mustM_nm hm
        have hnsz : nv.size ≤ 60 := by have h1 := HGN.out.2.1; have h2 := G5.out.ht; omega
        have htk : takenM s6.nm nv = false := by rw [hnm6]; exact HGN.out.1
        have h64 := hg6.c4
        have h65 := hg6.c5
        have hf64 := hg6.fz 4
        have hl6 := hg6.lt
        have hmrm := hg6.rm
        have G6 := hide hg6
        have X6 := hide (X5.out.trans (hx6.drop (by simp)))
        have HTK := hide htk
        have hgb : (s6.g : Int) + 1 ≤ 1000000 := by have h1 := HGN.out.2.2; have h2 := mustM_g hm; omega
        obtain ⟨gg, hgg⟩ : ∃ gg, gg = s6.g := ⟨_, rfl⟩
        rw [← hgg] at h64 hgb
        have HGG := hide hgg
        clear hp hm hg6 hx6 htk hgg hnm6
        go_wp2_with fail
        generalize hW : World.setCell w6 _ _ = W
        have hgW : RG W r mb t x { s6 with g := s6.g + 1 } := by
          have h1 := G6.out.g1
          rw [← HGG.out] at h1 ⊢
          rw [← hW]
          simpa using h1
        have hxW : Ex [r, mb] w W := by rw [← hW]; exact X6.out.setCell (Or.inl (by simp)) _
        have HGW := hide hgW
        have HXW := hide hxW
        have hlW := hgW.lt
        have hmW := hgW.mlt
        have t5 := hgW.c5
        have t4 : W.cell? ⟨r, 4, none⟩ = some (.int .i64 ((gg : Int) + 1)) := by have h1 := hgW.c4; simp only [← HGG.out] at h1; simpa using h1
        have KC := hide (fun (w' : World) => clone_any nv w' (by omega))
        clear hW hgW hxW h64 h65 hf64
        go_region_held3 (fun w' => w'.cell? ⟨r, 5, none⟩ = some (.map (some mb)) ∧ w'.cell? ⟨r, 4, none⟩ = some (.int .i64 ((gg : Int) + 1)))
          (first | exact ⟨q5', q4'⟩ | exact ⟨q5, q4⟩ | exact ⟨t5, t4⟩)
          (first
            | (go_at_call 78; refine (KC.out _).mono ?_; rintro e w7 ⟨rfl, hx7⟩; have hg7 := HGW.out.drew.ex0 hx7; have q5 := hg7.c5; have q4 : w7.cell? ⟨r, 4, none⟩ = some (.int .i64 ((gg : Int) + 1)) := (by have h1 := hg7.c4; simp only [← HGG.out] at h1; simpa using h1); have hput := nm_put (gg + 1) hg7.mp hg7.nk hnsz HTK.out; rw [show ((gg + 1 : Nat) : Int) = (gg : Int) + 1 by simp] at hput; obtain ⟨w8, hw8⟩ : ∃ w8, w8 = putB w7 mb (.map (nmE (s6.nm ++ [(nv, gg + 1)])) (s6.nm ++ [(nv, gg + 1)]).length) := ⟨_, rfl⟩; rw [← hw8] at hput; have hx8 : Ex [mb] w7 w8 := (by rw [hw8]; exact putB_ex _ _ _); have HW8 := hide hw8; clear hw8; have q5' := (hx8.cell.1 r 5 hg7.lt (by simpa using hmrm)).trans q5; have q4' := (hx8.cell.1 r 4 hg7.lt (by simpa using hmrm)).trans q4))
        have hg8 : RG w8 r mb t x { s6 with g := s6.g + 1, nm := s6.nm ++ [(nv, s6.g + 1)] } := by
          refine ⟨hg7.rd.ex hx8 (by simpa using hmrm), ?_, (hx8.cell.1 _ _ hg7.elt (by simpa using hg7.me.symm)).trans hg7.ev, hg7.rm, hg7.re, hg7.me, hg7.hk, hg7.ht, fun y hy => ?_⟩
          · rw [HW8.out, ← HGG.out]; exact putB_bk hg7.mp
          · rcases List.mem_append.1 hy with hy | hy
            · exact hg7.nk y hy
            · simp at hy; subst hy; exact hnsz
        have G8 := hide hg8
        have X8 := hide (HXW.out.trans ((((Ex.refl [r, mb] W).drew).trans (hx7.drop (by simp))).trans (hx8.drop (by simp))))
        have hl8 := hg8.lt
        clear hg7 hx7 hx8 hput hg8 q5 q4 t5 t4
        go_wp2_with fail
        go_ret
        exact Post.mkOk M6.out (by rw [HGG.out]; simp) G8.out X8.out
end Go.Proofs.YtgmjjhmnchefbaaGreatDoor.G

/- Pieces of a pattern in memory. -/
namespace Go.Proofs.YtgmjjhmnchefbaaGreatDoor.G
open Go.RowKit

structure PV where
  kd : Int
  p : Option Addr
  n : Nat
  c : Nat
  lo : Int
  hi : Int
  hg : Bool
  g : Int
  l : Int
  m : Int
  z : Bool
def PV.cells (v : PV) : List Value := [.int .i64 v.kd, .slice v.p v.n v.c, .int .u64 v.lo, .int .u64 v.hi, .bool v.hg, .int .i64 v.g, .int .i64 v.l, .int .i64 v.m, .bool v.z]
def PV.val (v : PV) : Value := .agg #[.int .i64 v.kd, .slice v.p v.n v.c, .int .u64 v.lo, .int .u64 v.hi, .bool v.hg, .int .i64 v.g, .int .i64 v.l, .int .i64 v.m, .bool v.z]

mutual
def PR (w : World) (B : Nat → Prop) : Pt → PV → Prop
  | .single c, v => v = ⟨0, none, 0, 0, c.lo, c.hi, c.hg, 0, 0, 0, false⟩
  | .seq l, v => ∃ p n c, v = ⟨1, p, n, c, 0, 0, false, 0, 0, 0, false⟩ ∧ n = l.length ∧ ((p = none ∧ n = 0 ∧ c = 0) ∨ ∃ g, p = some ⟨g, 0, none⟩ ∧ n ≤ c ∧ B g ∧ g < w.heap.size ∧ PRL w B g l 0)
  | .alt l, v => ∃ p n c, v = ⟨2, p, n, c, 0, 0, false, 0, 0, 0, false⟩ ∧ n = l.length ∧ ((p = none ∧ n = 0 ∧ c = 0) ∨ ∃ g, p = some ⟨g, 0, none⟩ ∧ n ≤ c ∧ B g ∧ g < w.heap.size ∧ PRL w B g l 0)
  | .wrap q k, v => ∃ g, v = ⟨3, some ⟨g, 0, none⟩, 1, 1, 0, 0, false, (k : Int), 0, 0, false⟩ ∧ B g ∧ g < w.heap.size ∧ ∃ u, w.rangeAt g 0 u.cells ∧ PR w B q u
  | .count q le mo la, v => ∃ g, v = ⟨4, some ⟨g, 0, none⟩, 1, 1, 0, 0, false, 0, (le : Int), mo, la⟩ ∧ B g ∧ g < w.heap.size ∧ ∃ u, w.rangeAt g 0 u.cells ∧ PR w B q u
def PRL (w : World) (B : Nat → Prop) (g : Nat) : List Pt → Nat → Prop
  | [], _ => True
  | q :: l, i => (∃ u, w.rangeAt g (i * 9) u.cells ∧ PR w B q u) ∧ PRL w B g l (i + 1)
end

theorem range_same {w w' : World} {g o : Nat} {cs : List Value} (h : w.rangeAt g o cs) (hb : w'.heap[g]? = w.heap[g]?) : w'.rangeAt g o cs := fun j v hv => (World.cell?_of_block hb).trans (h j v hv)

mutual
theorem PR.frame {w w' : World} {B B' : Nat → Prop} (hB : ∀ b, B b → B' b) (hs : w.heap.size ≤ w'.heap.size) (hb : ∀ b, B b → b < w.heap.size → w'.heap[b]? = w.heap[b]?) : ∀ (q : Pt) (v : PV), PR w B q v → PR w' B' q v
  | .single c, v, h => h
  | .seq l, v, h => by
    obtain ⟨p, n, c, rfl, hn, hr⟩ := h
    refine ⟨p, n, c, rfl, hn, ?_⟩
    rcases hr with hr | ⟨g, hp, hc, hg, hl, hr⟩
    · exact .inl hr
    · exact .inr ⟨g, hp, hc, hB _ hg, by omega, PRL.frame hB hs hb g hg hl l 0 hr⟩
  | .alt l, v, h => by
    obtain ⟨p, n, c, rfl, hn, hr⟩ := h
    refine ⟨p, n, c, rfl, hn, ?_⟩
    rcases hr with hr | ⟨g, hp, hc, hg, hl, hr⟩
    · exact .inl hr
    · exact .inr ⟨g, hp, hc, hB _ hg, by omega, PRL.frame hB hs hb g hg hl l 0 hr⟩
  | .wrap q k, v, h => by
    obtain ⟨g, rfl, hg, hl, u, hr, hq⟩ := h
    exact ⟨g, rfl, hB _ hg, by omega, u, range_same hr (hb g hg hl), PR.frame hB hs hb q u hq⟩
  | .count q le mo la, v, h => by
    obtain ⟨g, rfl, hg, hl, u, hr, hq⟩ := h
    exact ⟨g, rfl, hB _ hg, by omega, u, range_same hr (hb g hg hl), PR.frame hB hs hb q u hq⟩
theorem PRL.frame {w w' : World} {B B' : Nat → Prop} (hB : ∀ b, B b → B' b) (hs : w.heap.size ≤ w'.heap.size) (hb : ∀ b, B b → b < w.heap.size → w'.heap[b]? = w.heap[b]?) (g : Nat) (hg : B g) (hl : g < w.heap.size) : ∀ (l : List Pt) (i : Nat), PRL w B g l i → PRL w' B' g l i
  | [], _, _ => trivial
  | q :: l, i, h => by
    obtain ⟨⟨u, hr, hq⟩, ht⟩ := h
    exact ⟨⟨u, range_same hr (hb g hg hl), PR.frame hB hs hb q u hq⟩, PRL.frame hB hs hb g hg hl l (i + 1) ht⟩
end

def Btw (lo hi b : Nat) : Prop := lo ≤ b ∧ b < hi
theorem PR.ex {l : List Nat} {w w' : World} {lo hi lo' hi' : Nat} {q : Pt} {v : PV} (h : PR w (Btw lo hi) q v) (hx : Ex l w w') (hl : ∀ b, b ∈ l → b < lo) (h1 : lo' ≤ lo) (h2 : hi ≤ hi') : PR w' (Btw lo' hi') q v :=
  h.frame (fun b hb => ⟨by have := hb.1; omega, by have := hb.2; omega⟩) hx.size (fun b hb hlt => hx.block b hlt (fun hm => by have := hl b hm; have := hb.1; omega)) q v
def RP (lo : Nat) (w' : World) (v : Value) (q : Pt) : Prop := ∃ u : PV, v = u.val ∧ PR w' (Btw lo w'.heap.size) q u

theorem depth_set {w : World} {r mb : Nat} {t : ByteArray} {x : EV} {s : RS} (h : RG w r mb t x s) (d : Nat) (di : Int) (hdi : di = (d : Int)) : RG (w.setCell ⟨r, 2, none⟩ (.int .i64 di)) r mb t x { s with d := d } := by
  subst hdi
  exact h.own (s' := { s with d := d }) rfl _ rfl h.hk (by
    have h1 := h.rd
    unfold RD at h1 ⊢
    simp [World.setCell, Array.getElem?_modify, h1])
theorem RG.c2 {w : World} {r mb : Nat} {t : ByteArray} {x : EV} {s : RS} (h : RG w r mb t x s) : w.cell? ⟨r, 2, none⟩ = some (.int .i64 s.d) := by
  rw [cell_of_row w r 2 _ 80 (0, 0) h.rd]; rfl
theorem mustM_ok {t : ByteArray} {s s' : RS} {b : UInt8} {u : Unit} (h : mustM t s b = .ok u s') : seesM t s b = true ∧ s' = s.up := by
  unfold mustM at h
  split at h
  · rename_i h9; cases h; exact ⟨h9, rfl⟩
  · cases h

theorem newS (w : World) (p : Addr) (u : Value) (o : Obj) : BK ((w.setCell p u).alloc o) w.heap.size o := by
  have h := BK.new (w.setCell p u) o
  rw [show (w.setCell p u).heap.size = w.heap.size by simp [World.setCell]] at h
  exact h
def EC (t : ByteArray) (r mb : Nat) (x : EV) (d : Nat) (E : RS → Res Pt) : Prop := ∀ (w : World) (s : RS), RG w r mb t x s → s.g ≤ 5 → s.d = d →
  Calls Tryz.prog 45 #[.pointer (some ⟨r, 0, none⟩)] w fun e w' => Post [r, mb] r mb t x w (RP w.heap.size) (E s) e w'
theorem openingM_ok {t : ByteArray} {s s' : RS} {n : Nat} (h : openingM t s = .ok n s') (hg : s.g ≤ 5) : s.k ≤ s'.k ∧ s'.d = s.d ∧ s'.f = s.f ∧ s'.g ≤ 5 ∧ n ≤ 5 := by
  unfold openingM at h
  split at h
  · rename_i h1
    cases h
    exact ⟨Nat.le_refl _, rfl, rfl, by simp; omega, by omega⟩
  · obtain ⟨_, s1, h1, h2⟩ := Res.bind_eq_ok h
    obtain ⟨_, rfl⟩ := mustM_ok h1
    split at h2
    · cases h2; exact ⟨by show s.k ≤ s.k + 1 + 1; omega, rfl, rfl, hg, by omega⟩
    · split at h2
      · cases h2
      · rename_i h5
        obtain ⟨_, s2, h3, h4⟩ := Res.bind_eq_ok h2
        obtain ⟨_, rfl⟩ := mustM_ok h3
        obtain ⟨_, s3, h5', h6⟩ := Res.bind_eq_ok h4
        obtain ⟨_, rfl⟩ := mustM_ok h5'
        obtain ⟨nm, s4, h7, h8⟩ := Res.bind_eq_ok h6
        obtain ⟨_, s5, h9, h10⟩ := Res.bind_eq_ok h8
        obtain ⟨_, rfl⟩ := mustM_ok h9
        have hgn : s.up.up.up.k ≤ s4.k ∧ s4.d = s.d ∧ s4.f = s.f ∧ s4.g = s.g := by
          unfold groupNameM at h7
          obtain ⟨_, s6, ha, hb⟩ := Res.bind_eq_ok h7
          have hl : ∀ (n : Nat) (a b : RS), gnLoop t s.up.up.up.k n a = .ok () b → a.k ≤ b.k ∧ a.like b := by
            intro n
            induction n with
            | zero => intro a b hh; cases hh; exact ⟨Nat.le_refl _, RS.like_refl _⟩
            | succ n ih =>
              intro a b hh
              unfold gnLoop at hh
              cases hby : byteAt t a.k with
              | none => rw [hby] at hh; cases hh
              | some y =>
                rw [hby] at hh
                simp only at hh
                split at hh
                · split at hh
                  · cases hh
                  · obtain ⟨h1, h2⟩ := ih _ _ hh
                    exact ⟨by have : a.k + 1 ≤ b.k := h1; omega, (RS.like_up a).trans h2⟩
                · cases hh; exact ⟨Nat.le_refl _, RS.like_refl _⟩
          obtain ⟨h1, h2⟩ := hl 8 _ _ ha
          split at hb
          · cases hb
          · cases hb
            exact ⟨h1, h2.1, h2.2.1, h2.2.2.1⟩
        cases h10
        have hk : s.k + 1 + 1 + 1 ≤ s4.k := hgn.1
        have h5'' : ¬ s.g = 5 := h5
        refine ⟨by show s.k ≤ s4.k + 1; omega, hgn.2.1, hgn.2.2.1, ?_, ?_⟩
        · show s4.g + 1 ≤ 5; rw [hgn.2.2.2]; omega
        · show s4.g + 1 ≤ 5; rw [hgn.2.2.2]; omega

set_option maxHeartbeats 2000000 in
set_option maxRecDepth 100000 in
theorem gParen {w : World} {r mb : Nat} {t : ByteArray} {x : EV} {s : RS} {E : RS → Res Pt} (h : RG w r mb t x s) (hnp : NP t) (hg5 : s.g ≤ 5) (hd6 : s.d ≤ 6) (hE : s.d < 6 → EC t r mb x (s.d + 1) E) (hEi : ∀ a q b, E a = .ok q b → a.g ≤ 5 → b.d = a.d) :
    Calls Tryz.prog 151 #[.pointer (some ⟨r, 0, none⟩)] w fun e w' => Post [r, mb] r mb t x w (RP w.heap.size) (parenM t E s) e w' := by
  have hlt := h.lt
  have hmlt := h.mlt
  have helt := h.elt
  have ht := h.ht
  have hne : w.heap.size ≠ r := by omega
  have hrm := h.rm
  have h2 := h.c2
  have hev := h.ev
  have H := hide h
  have HNP := hide hnp
  have HE := hide hE
  have HEI := hide hEi
  clear h hnp hE hEi
  by_cases h6 : s.d = 6
  · have e6 : ((s.d : Int) == 6) = true := by simp; omega
    have HM : Hid (parenM t E s = .bad s) := by show parenM t E s = _; unfold parenM; rw [if_pos h6]
    go_enter Tryz.func151, Tryz.ntmps151
    go_wp2_with fail
    exact body_panic rfl (Post.mkBad HM.out (H.out.alloc _) ((Ex.refl _ _).alloc _))
  have e6 : ((s.d : Int) == 6) = false := by rw [beq_eq_false_iff_ne]; omega
  go_enter Tryz.func151, Tryz.ntmps151
  go_wp2_with fail
  refine (gMust (H.out.alloc _) 40 40 rfl).mono ?_
  rintro e w1 hp
  rcases hp.split with ⟨_, s1, v, hm, rfl, rfl, hg1, hx1⟩ | ⟨s', hm, rfl, hg, hx⟩
  rotate_left
  · exact body_panic rfl (Post.mkBad (by unfold parenM; rw [if_neg h6, hm]; rfl) hg (((Ex.refl _ _).alloc _).trans (hx.drop (by simp))))
  have hs1 : s1 = s.up := (mustM_ok hm).2
  subst hs1
  have M1 := hide hm
  have h12 : w1.cell? ⟨r, 2, none⟩ = some (.int .i64 s.d) := hg1.c2
  have hf12 := hg1.fz 2
  have hl1 := hg1.lt
  have hdd : ((s.d : Int) + 1) = ((s.d + 1 : Nat) : Int) := by omega
  have G1 := hide (depth_set hg1 (s.d + 1) ((s.d : Int) + 1) hdd)
  have X1 : Hid (Ex [r, mb] (w.alloc (Obj.cells #[.int .i64 0, .slice none 0 0, .int .u64 0, .int .u64 0, .bool false, .int .i64 0, .int .i64 0, .int .i64 0, .bool false] 76)) (w1.setCell ⟨r, 2, none⟩ (.int .i64 ((s.d : Int) + 1)))) := (hx1.drop (by simp)).setCell (Or.inl (by simp)) _
  clear hp hm hg1 hx1 h2 hev hdd
  go_wp2_with fail
  refine (gOpening (s := { s.up with d := s.d + 1 }) (by exact G1.out) HNP.out hg5).mono ?_
  rintro e w2 hp
  rcases hp.split with ⟨gn, s2, v, hm, rfl, rfl, hg2, hx2⟩ | ⟨s', hm, rfl, hg, hx⟩
  rotate_left
  · exact body_panic rfl (Post.mkBad (by unfold parenM; rw [if_neg h6, M1.out, Res.bind_ok]; show (openingM t { s.up with d := s.d + 1 }).bind _ = _; rw [hm]; rfl) hg (((Ex.refl _ _).alloc _).trans (X1.out.trans hx)))
  have hok := openingM_ok hm hg5
  have hgn5 := hok.2.2.2.2
  have M2 : Hid (parenM t E s = (E s2).bind fun p s3 => (mustM t s3 41).bind fun _ s4 => .ok (.wrap p gn) { s4 with d := s4.d - 1 }) := by
    show parenM t E s = _
    unfold parenM; rw [if_neg h6, M1.out, Res.bind_ok]
    show (openingM t { s.up with d := s.d + 1 }).bind _ = _
    rw [hm]; rfl
  have hs2d : s2.d = s.d + 1 := hok.2.1
  have hs2g : s2.g ≤ 5 := hok.2.2.2.1
  have HS2D := hide hs2d
  have G2 := hide hg2
  have X2 := hide (X1.out.trans hx2)
  have hsz2 : w.heap.size < w2.heap.size := by have := X2.out.size; simp at this; omega
  clear hp hm hg2 hx2 hok hs2d M1 G1 X1 h12 hf12
  go_wp2_with fail
  refine ((HE.out (by omega)) w2 s2 G2.out hs2g HS2D.out).mono ?_
  rintro e w3 hp
  rcases hp.split with ⟨q, s3, v, hm, rfl, hRP, hg3, hx3⟩ | ⟨s', hm, rfl, hg, hx⟩
  rotate_left
  · exact body_panic rfl (Post.mkBad (by rw [M2.out, hm]; rfl) hg (((Ex.refl _ _).alloc _).trans (X2.out.trans hx)))
  obtain ⟨u, rfl, hpr⟩ := hRP
  have hs3d : s3.d = s.d + 1 := (HEI.out _ _ _ hm hs2g).trans HS2D.out
  have M3 : Hid (parenM t E s = (mustM t s3 41).bind fun _ s4 => .ok (.wrap q gn) { s4 with d := s4.d - 1 }) := by show parenM t E s = _; rw [M2.out, hm]; rfl
  have HS3D := hide hs3d
  have G3 := hide hg3
  have X3 := hide (X2.out.trans hx3)
  have hle3 : w2.heap.size ≤ w3.heap.size := hx3.size
  obtain ⟨kd, up, un, uc, ulo, uhi, uhg, ug, ul, um, uz⟩ := u
  obtain ⟨S, hS⟩ : ∃ S : List Value, S = [.int .i64 kd, .slice up un uc, .int .u64 ulo, .int .u64 uhi, .bool uhg, .int .i64 ug, .int .i64 ul, .int .i64 um, .bool uz] := ⟨_, rfl⟩
  have HS := hide hS
  have HPR := hide hpr
  clear hp hm hg3 hx3 hpr M2 G2 X2 hs3d hS
  unfold PV.val
  go_wp2_with fail
  refine (gMust (G3.out.alloc _) 41 41 rfl).mono ?_
  rintro e w4 hp
  rcases hp.split with ⟨_, s4, v, hm, rfl, rfl, hg4, hx4⟩ | ⟨s', hm, rfl, hg, hx⟩
  rotate_left
  · exact body_panic rfl (Post.mkBad (by rw [M3.out, hm]; rfl) hg (((Ex.refl _ _).alloc _).trans ((X3.out.alloc _).trans (hx.drop (by simp)))))
  have hs4 : s4 = s3.up := (mustM_ok hm).2
  subst hs4
  have HM : Hid (parenM t E s = .ok (.wrap q gn) { s3.up with d := s.d }) := by
    show parenM t E s = _
    rw [M3.out, hm]
    show Res.ok (Pt.wrap q gn) { s3.up with d := s3.up.d - 1 } = _
    rw [show s3.up.d - 1 = s.d by show s3.d - 1 = s.d; rw [HS3D.out]; omega]
  have B4 := hide ((BK.new w3 (Obj.cells #[.int .i64 kd, .slice up un uc, .int .u64 ulo, .int .u64 uhi, .bool uhg, .int .i64 ug, .int .i64 ul, .int .i64 um, .bool uz] 76)).ex hx4 (by simp; omega))
  have X4 := hide ((X3.out.alloc (Obj.cells #[.int .i64 kd, .slice up un uc, .int .u64 ulo, .int .u64 uhi, .bool uhg, .int .i64 ug, .int .i64 ul, .int .i64 um, .bool uz] 76)).trans (hx4.drop (by simp)))
  have BR := hide ((BK.new w (Obj.cells #[.int .i64 0, .slice none 0 0, .int .u64 0, .int .u64 0, .bool false, .int .i64 0, .int .i64 0, .int .i64 0, .bool false] 76)).ex X4.out (by simp; omega))
  have hle4 : w3.heap.size + 1 ≤ w4.heap.size := by have := hx4.size; simpa using this
  have hc42 := hg4.c2
  rw [show s3.up.d = s.d + 1 from HS3D.out] at hc42
  have hf42 := hg4.fz 2
  have hl4 := hg4.lt
  have G4 := hide hg4
  have hr3 : r ≠ w3.heap.size := by omega
  have hdd : (((s.d + 1 : Nat) : Int) - 1) = (s.d : Int) := by omega
  have hPR4 := PR.ex (lo' := w2.heap.size) (hi' := w4.heap.size) (PR.ex (lo' := w2.heap.size) (hi' := w3.heap.size) HPR.out ((Ex.refl [] w3).alloc (Obj.cells #[.int .i64 kd, .slice up un uc, .int .u64 ulo, .int .u64 uhi, .bool uhg, .int .i64 ug, .int .i64 ul, .int .i64 um, .bool uz] 76)) (by simp) (Nat.le_refl _) (Nat.le_refl _)) hx4 (by simp; omega) (Nat.le_refl _) (by omega)
  have HPR4 := hide hPR4
  clear hp hm hg4 hx4 M3 G3 X3 hPR4 HPR
  have HAL : Hid ((#[.int .i64 3, .slice (some ⟨w4.heap.size, 0, none⟩) 1 1, .int .u64 0, .int .u64 0, .bool false, .int .i64 (gn : Int), .int .i64 0, .int .i64 0, .bool false] : Array Value).all (·.oneCell') = true) := by show Array.all _ _ = true; simp [Value.oneCell']
  have HSZ : Hid ((Tryz.prog.info? 76).map (·.size) = some (#[.int .i64 3, .slice (some ⟨w4.heap.size, 0, none⟩) 1 1, .int .u64 0, .int .u64 0, .bool false, .int .i64 (gn : Int), .int .i64 0, .int .i64 0, .bool false] : Array Value).size) := partSize
  have RNG : Hid ((w4.setCell ⟨r, 2, none⟩ (.int .i64 (s.d : Int))).rangeAt w3.heap.size 0 [.int .i64 kd, .slice up un uc, .int .u64 ulo, .int .u64 uhi, .bool uhg, .int .i64 ug, .int .i64 ul, .int .i64 um, .bool uz]) := (B4.out.set (p := ⟨r, 2, none⟩) (Ne.symm hr3) _).rangeL
  go_wp2_with (first
    | (refine wpList_load_mid rfl 76 _ rfl w3.heap.size 0 rfl [.int .i64 kd, .slice up un uc, .int .u64 ulo, .int .u64 uhi, .bool uhg, .int .i64 ug, .int .i64 ul, .int .i64 um, .bool uz] _ RNG.out Tryz.underlying76 rfl partSize ?_)
    | (refine wpList_store_row rfl 76 _ _ rfl w.heap.size #[.int .i64 3, .slice (some ⟨w4.heap.size, 0, none⟩) 1 1, .int .u64 0, .int .u64 0, .bool false, .int .i64 (gn : Int), .int .i64 0, .int .i64 0, .bool false] rfl rfl 76 _ (BK.alloc (BK.set BR.out hne _) _) HSZ.out rfl HAL.out ?_))
  refine bodyPost_ret (results_cell1 rfl rfl (loadPart (S := [.int .i64 3, .slice (some ⟨w4.heap.size, 0, none⟩) 1 1, .int .u64 0, .int .u64 0, .bool false, .int .i64 (gn : Int), .int .i64 0, .int .i64 0, .bool false]) (setRow_heap _ _ _ _ _ _ (BK.alloc (BK.set BR.out hne _) _)) rfl)) rfl (Post.mkOk HM.out ?_ ?_ ?_)
  · generalize hW : World.setRow _ _ _ = W
    have hWx : Ex [r, w.heap.size] w4 W := by rw [← hW]; exact (((Ex.refl _ _).setCell (Or.inl (by simp)) _).alloc _).setRow (Or.inl (by simp)) _
    have hWs : W.heap.size = w4.heap.size + 1 := by rw [← hW]; simp [World.setCell]
    have hWb : BK W w4.heap.size (.cells #[.int .i64 kd, .slice up un uc, .int .u64 ulo, .int .u64 uhi, .bool uhg, .int .i64 ug, .int .i64 ul, .int .i64 um, .bool uz] 76 (0, 0)) := by
      rw [← hW]
      unfold BK
      rw [setRow_other _ _ _ _ (by omega)]
      exact newS w4 _ _ _
    refine ⟨⟨3, some ⟨w4.heap.size, 0, none⟩, 1, 1, 0, 0, false, (gn : Int), 0, 0, false⟩, rfl, w4.heap.size, rfl, ⟨by omega, by omega⟩, by omega, ⟨kd, up, un, uc, ulo, uhi, uhg, ug, ul, um, uz⟩, hWb.rangeL, ?_⟩
    exact PR.ex HPR4.out hWx (by simp; omega) (by omega) (by omega)
  · exact RG.row ((depth_set G4.out s.d (s.d : Int) rfl).alloc _) hlt hmlt helt (Nat.le_refl _) _
  · exact Ex.row (((((Ex.refl _ _).alloc _).trans X4.out).setCell (Or.inl (by simp)) _).alloc _) (Nat.le_refl _) _
end Go.Proofs.YtgmjjhmnchefbaaGreatDoor.G
