/- The pattern reader: counts. -/
import Derived.Test.YtmeffeigamaipaaDoorM05
set_option linter.unusedVariables false
set_option linter.unusedSimpArgs false
namespace Go.Proofs.YtmeffeigamaipaaDoor.G
open Go.RowKit

theorem timesM_none {t : ByteArray} {l : Nat} {s : RS} (h : byteAt t s.k = none) : timesM t l s = .bad s := by simp [timesM, h]
theorem timesM_bad {t : ByteArray} {l : Nat} {s : RS} {b : UInt8} (h : byteAt t s.k = some b) (hb : b.toNat < 48 + l ∨ 57 < b.toNat) : timesM t l s = .bad s := by simp [timesM, h]; omega
theorem timesM_ok {t : ByteArray} {l : Nat} {s : RS} {b : UInt8} (h : byteAt t s.k = some b) (hb : ¬ (b.toNat < 48 + l ∨ 57 < b.toNat)) : timesM t l s = .ok (b.toNat - 48) s.up := by simp [timesM, h]; omega

set_option maxHeartbeats 400000 in
theorem gTimes {w : World} {r mb : Nat} {t : ByteArray} {x : EV} {s : RS} (h : RG w r mb t x s) (l : Nat) (hl : l ≤ 9) :
    Calls Tryd.prog 72 #[.pointer (some ⟨r, 0, none⟩), .int .i64 l] w fun e w' => Post [r] r mb t x w (fun _ v (n : Nat) => v = .int .i64 (n : Int) ∧ n ≤ 9) (timesM t l s) e w' := by
  have H := hide h
  have hlt := h.lt
  have ht := h.ht
  clear h
  go_enter Tryd.func72, Tryd.ntmps72
  go_wp2_with fail
  refine (gLook H.out).mono ?_
  rintro e w1 ⟨⟨n, rfl⟩, hp⟩
  rcases hp.split with ⟨b, s', v, hm, rfl, hv, hg, hx⟩ | ⟨s', hm, rfl, hg, hx⟩
  · subst hv
    cases hba : byteAt t s.k with
    | none => rw [lookM_none hba] at hm; cases hm
    | some b' =>
      rw [lookM_some hba] at hm
      cases hm
      have hks := (byteAt_some hba).1
      have hc1 := hg.rd.c1
      have hf1 := hg.rd.f1
      have hev := hg.ev
      have hb256 := b.toNat_lt
      have HG := hide hg
      by_cases hb : b.toNat < 48 + l ∨ 57 < b.toNat
      · have HM := hide (timesM_bad (l := l) hba hb)
        clear hg hp hx hba
        by_cases h1 : b.toNat < 48 + l
        · have e1 : ((b.toNat : Int) - 48 < (l : Int)) := by omega
          clear hb h1
          go_wp2_with fail
          exact body_panic rfl (Post.mkBad HM.out HG.out ((Ex.refl _ _).drewN _))
        · have e1 : ¬ ((b.toNat : Int) - 48 < (l : Int)) := by omega
          have e2 : ((b.toNat : Int) - 48 > 9) := by omega
          clear hb h1
          go_wp2_with fail
          exact body_panic rfl (Post.mkBad HM.out HG.out ((Ex.refl _ _).drewN _))
      · have HM := hide (timesM_ok (l := l) hba hb)
        have e1 : ¬ ((b.toNat : Int) - 48 < (l : Int)) := by omega
        have e2 : ¬ ((b.toNat : Int) - 48 > 9) := by omega
        have e3 : ((b.toNat : Int) - 48) = ((b.toNat - 48 : Nat) : Int) := by omega
        have HE3 := hide e3
        have hs9 : b.toNat - 48 ≤ 9 := by omega
        clear hb e3 hg hp hx hba
        go_wp2_with fail
        go_ret
        refine Post.mkOk HM.out ⟨congrArg (Value.int .i64) HE3.out, hs9⟩ ?_ (((Ex.refl _ _).drewN _).setCell (Or.inl (by simp)) _)
        have := HG.out.up hks
        simpa using this
  · cases hba : byteAt t s.k with
    | some b => rw [lookM_some hba] at hm; cases hm
    | none =>
      rw [lookM_none hba] at hm
      cases hm
      exact body_panic rfl (Post.mkBad (timesM_none hba) hg (hx.drop (by simp)))

set_option maxHeartbeats 400000 in
theorem gBraces {w : World} {r mb : Nat} {t : ByteArray} {x : EV} {s : RS} (h : RG w r mb t x s) :
    Calls Tryd.prog 64 #[.pointer (some ⟨r, 0, none⟩)] w fun e w' => Post [r] r mb t x w (fun _ v (n : Nat × Int) => v = .tuple #[.int .i64 (n.1 : Int), .int .i64 n.2] ∧ n.1 ≤ 9 ∧ -1 ≤ n.2 ∧ n.2 ≤ 9) (bracesM t s) e w' := by
  have H := hide h
  have hlt := h.lt
  have ht := h.ht
  clear h
  go_enter Tryd.func64, Tryd.ntmps64
  go_wp2_with fail
  refine (gTimes H.out 0 (by omega)).mono ?_
  rintro e w1 hp
  rcases hp.split with ⟨a, s1, v, hm, rfl, ⟨rfl, ha⟩, hg1, hx1⟩ | ⟨s', hm, rfl, hg, hx⟩
  rotate_left
  · exact body_panic rfl (Post.mkBad (by simp only [bracesM, hm, Res.bind_bad]) hg hx)
  have M1 := hide hm
  have G1 := hide hg1
  have X1 := hide hx1
  clear hp hm hg1 hx1
  go_wp2_with fail
  refine (gTakes G1.out 125 125 rfl).mono ?_
  rintro e w2 ⟨rfl, hg2, hx2⟩
  cases hq : seesM t s1 125 with
  | true =>
    rw [took_yes hq] at hg2
    have Q2 := hide hq
    have G2 := hide hg2
    have X2 := hide hx2
    clear hg2 hx2 hq
    go_wp2_with fail
    go_ret2
    exact Post.mkOk (by simp only [bracesM, unhide M1, Res.bind_ok, unhide Q2, if_true]; rfl) ⟨rfl, ha, by simp <;> omega, by simp <;> omega⟩ G2.out (X1.out.trans X2.out)
  | false =>
    rw [took_no hq] at hg2
    have Q2 := hide hq
    have G2 := hide hg2
    have X2 := hide hx2
    clear hg2 hx2 hq
    go_wp2_with fail
    refine (gMust G2.out 44 44 rfl).mono ?_
    rintro e w3 hp
    rcases hp.split with ⟨_, s3, v, hm, rfl, rfl, hg3, hx3⟩ | ⟨s', hm, rfl, hg, hx⟩
    rotate_left
    · exact body_panic rfl (Post.mkBad (by simp only [bracesM, unhide M1, Res.bind_ok, unhide Q2, Bool.false_eq_true, if_false, hm, Res.bind_bad]) hg ((X1.out.trans X2.out).trans hx))
    have M3 := hide hm
    have G3 := hide hg3
    have X3 := hide ((X1.out.trans X2.out).trans hx3)
    clear hp hm hg3 hx3 G1 X1 G2 X2
    go_wp2_with fail
    refine (gTakes G3.out 125 125 rfl).mono ?_
    rintro e w4 ⟨rfl, hg4, hx4⟩
    cases hq : seesM t s3 125 with
    | true =>
      rw [took_yes hq] at hg4
      have Q4 := hide hq
      have G4 := hide hg4
      have X4 := hide hx4
      clear hg4 hx4 hq
      go_wp2_with fail
      go_ret2
      exact Post.mkOk (by simp only [bracesM, unhide M1, Res.bind_ok, unhide Q2, Bool.false_eq_true, if_false, unhide M3, unhide Q4, if_true]; rfl) ⟨rfl, ha, by simp, by simp⟩ G4.out (X3.out.trans X4.out)
    | false =>
      rw [took_no hq] at hg4
      have Q4 := hide hq
      have G4 := hide hg4
      have X4 := hide (X3.out.trans hx4)
      clear hg4 hx4 hq G3 X3
      go_wp2_with fail
      refine (gTimes G4.out a ha).mono ?_
      rintro e w5 hp
      rcases hp.split with ⟨b, s5, v, hm, rfl, ⟨rfl, hb⟩, hg5, hx5⟩ | ⟨s', hm, rfl, hg, hx⟩
      rotate_left
      · exact body_panic rfl (Post.mkBad (by simp only [bracesM, unhide M1, Res.bind_ok, unhide Q2, Bool.false_eq_true, if_false, unhide M3, unhide Q4, hm, Res.bind_bad]) hg (X4.out.trans hx))
      have M5 := hide hm
      have G5 := hide hg5
      have X5 := hide (X4.out.trans hx5)
      clear hp hm hg5 hx5 G4 X4
      go_wp2_with fail
      refine (gMust G5.out 125 125 rfl).mono ?_
      rintro e w6 hp
      rcases hp.split with ⟨_, s6, v, hm, rfl, rfl, hg6, hx6⟩ | ⟨s', hm, rfl, hg, hx⟩
      rotate_left
      · exact body_panic rfl (Post.mkBad (by simp only [bracesM, unhide M1, Res.bind_ok, unhide Q2, Bool.false_eq_true, if_false, unhide M3, unhide Q4, unhide M5, hm, Res.bind_bad]) hg (X5.out.trans hx))
      have M6 := hide hm
      have G6 := hide hg6
      have X6 := hide (X5.out.trans hx6)
      clear hp hm hg6 hx6 G5 X5
      go_wp2_with fail
      go_ret2
      exact Post.mkOk (by simp only [bracesM, unhide M1, Res.bind_ok, unhide Q2, Bool.false_eq_true, if_false, unhide M3, unhide Q4, unhide M5, unhide M6]; rfl) ⟨rfl, ha, by simp <;> omega, by simp <;> omega⟩ G6.out X6.out

def cntV : Option (Nat × Int) → Value
  | none => .tuple #[.int .i64 0, .int .i64 0, .bool false]
  | some n => .tuple #[.int .i64 (n.1 : Int), .int .i64 n.2, .bool true]
def cntOk : Option (Nat × Int) → Prop
  | none => True
  | some n => n.1 ≤ 9 ∧ -1 ≤ n.2 ∧ n.2 ≤ 9

set_option maxHeartbeats 400000 in
theorem gCount {w : World} {r mb : Nat} {t : ByteArray} {x : EV} {s : RS} (h : RG w r mb t x s) :
    Calls Tryd.prog 54 #[.pointer (some ⟨r, 0, none⟩)] w fun e w' => Post [r] r mb t x w (fun _ v n => v = cntV n ∧ cntOk n) (countM t s) e w' := by
  have H := hide h
  have hlt := h.lt
  have ht := h.ht
  clear h
  go_enter Tryd.func54, Tryd.ntmps54
  go_wp2_with fail
  refine (gTakes H.out 42 42 rfl).mono ?_
  rintro e w1 ⟨rfl, hg1, hx1⟩
  cases hq : seesM t s 42 with
  | true =>
    rw [took_yes hq] at hg1
    have Q1 := hide hq
    have G1 := hide hg1
    have X1 := hide (hx1)
    clear hg1 hx1 hq
    go_wp2_with fail
    go_ret3
    exact Post.mkOk (a := some (0, -1)) (by simp only [countM, unhide Q1, Bool.false_eq_true, if_false, if_true]) ⟨rfl, by simp [cntOk]⟩ G1.out X1.out
  | false =>
  rw [took_no hq] at hg1
  have Q1 := hide hq
  have G1 := hide hg1
  have X1 := hide (hx1)
  clear hg1 hx1 hq
  go_wp2_with fail
  refine (gTakes G1.out 43 43 rfl).mono ?_
  rintro e w2 ⟨rfl, hg2, hx2⟩
  cases hq : seesM t s 43 with
  | true =>
    rw [took_yes hq] at hg2
    have Q2 := hide hq
    have G2 := hide hg2
    have X2 := hide (X1.out.trans hx2)
    clear hg2 hx2 hq
    go_wp2_with fail
    go_ret3
    exact Post.mkOk (a := some (1, -1)) (by simp only [countM, unhide Q1, unhide Q2, Bool.false_eq_true, if_false, if_true]) ⟨rfl, by simp [cntOk]⟩ G2.out X2.out
  | false =>
  rw [took_no hq] at hg2
  have Q2 := hide hq
  have G2 := hide hg2
  have X2 := hide (X1.out.trans hx2)
  clear hg2 hx2 hq
  go_wp2_with fail
  refine (gTakes G2.out 63 63 rfl).mono ?_
  rintro e w3 ⟨rfl, hg3, hx3⟩
  cases hq : seesM t s 63 with
  | true =>
    rw [took_yes hq] at hg3
    have Q3 := hide hq
    have G3 := hide hg3
    have X3 := hide (X2.out.trans hx3)
    clear hg3 hx3 hq
    go_wp2_with fail
    go_ret3
    exact Post.mkOk (a := some (0, 1)) (by simp only [countM, unhide Q1, unhide Q2, unhide Q3, Bool.false_eq_true, if_false, if_true]) ⟨rfl, by simp [cntOk]⟩ G3.out X3.out
  | false =>
  rw [took_no hq] at hg3
  have Q3 := hide hq
  have G3 := hide hg3
  have X3 := hide (X2.out.trans hx3)
  clear hg3 hx3 hq
  go_wp2_with fail
  refine (gTakes G3.out 123 123 rfl).mono ?_
  rintro e w4 ⟨rfl, hg4, hx4⟩
  cases hq : seesM t s 123 with
  | false =>
    rw [took_no hq] at hg4
    have Q4 := hide hq
    have G4 := hide hg4
    have X4 := hide (X3.out.trans hx4)
    clear hg4 hx4 hq
    go_wp2_with fail
    go_ret3
    exact Post.mkOk (a := none) (by simp only [countM, unhide Q1, unhide Q2, unhide Q3, unhide Q4, Bool.false_eq_true, if_false]) ⟨rfl, trivial⟩ G4.out X4.out
  | true =>
  rw [took_yes hq] at hg4
  have Q4 := hide hq
  have G4 := hide hg4
  have X4 := hide (X3.out.trans hx4)
  clear hg4 hx4 hq G3 X3
  go_wp2_with fail
  refine (gBraces G4.out).mono ?_
  rintro e w5 hp
  rcases hp.split with ⟨b, s5, v, hm, rfl, ⟨rfl, hb⟩, hg5, hx5⟩ | ⟨s', hm, rfl, hg, hx⟩
  rotate_left
  · exact body_panic rfl (Post.mkBad (by simp only [countM, unhide Q1, unhide Q2, unhide Q3, unhide Q4, Bool.false_eq_true, if_false, if_true, hm, Res.bind_bad]) hg (X4.out.trans hx))
  have M5 := hide hm
  have G5 := hide hg5
  have X5 := hide (X4.out.trans hx5)
  clear hp hm hg5 hx5 G4 X4
  go_wp2_with fail
  go_ret3
  exact Post.mkOk (a := some b) (by simp only [countM, unhide Q1, unhide Q2, unhide Q3, unhide Q4, Bool.false_eq_true, if_false, if_true, unhide M5, Res.bind_ok]) ⟨rfl, hb⟩ G5.out X5.out
end Go.Proofs.YtmeffeigamaipaaDoor.G
