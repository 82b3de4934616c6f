/- JQ3 JoinsA, one behind the other. -/
import Derived.Test.YtmeffeigamaipaaDoorM41
import Derived.Deep.RegionHeld3
import Derived.Test.YtmeffeigamaipaaDoorCards
import Derived.Test.YtmeffeigamaipaaDoorTie
import Derived.Test.YtmeffeigamaipaaDoorM40
import Derived.ProofKit
import Derived.LaidMore
import Derived.MakeChecks
import Derived.OpenShut
import Derived.Stop.Joined
import Derived.Lib.LaidU8
set_option linter.unusedVariables false
set_option linter.unusedSimpArgs false
/- Joins, whatever stands behind its calls. -/
namespace Go.Proofs.YtmeffeigamaipaaDoor.G
open Go.RowKit

structure JW (G : ByteArray → Bool) (M : ByteArray → ByteArray → Bool) (D : ByteArray → Nat → Prop) (P Q : ByteArray) : Prop where
  g1 : G P = true
  g2 : G Q = true
  g3 : G (P ++ ⟨#[124]⟩ ++ Q) = true
  g4 : G (⟨#[40, 63, 58]⟩ ++ P ++ ⟨#[41]⟩) = true
  g5 : G (⟨#[40, 63, 58]⟩ ++ Q ++ ⟨#[41]⟩) = true
  g6 : G (⟨#[40, 63, 58]⟩ ++ P ++ ⟨#[41, 42]⟩) = true
  g7 : G (⟨#[40, 63, 58]⟩ ++ P ++ ⟨#[41, 40, 63, 58]⟩ ++ Q ++ ⟨#[41]⟩) = true
  g8 : G (⟨#[40, 63, 58]⟩ ++ P ++ ⟨#[41, 123, 50, 125]⟩) = true
  g9 : G (⟨#[40, 63, 58]⟩ ++ P ++ ⟨#[41, 63]⟩) = true
  m3 : ∀ s, M (P ++ ⟨#[124]⟩ ++ Q) s = (M P s || M Q s)
  m4 : ∀ s, M (⟨#[40, 63, 58]⟩ ++ P ++ ⟨#[41]⟩) s = M P s
  m5 : ∀ s, M (⟨#[40, 63, 58]⟩ ++ Q ++ ⟨#[41]⟩) s = M Q s
  m6 : ∀ s, M (⟨#[40, 63, 58]⟩ ++ P ++ ⟨#[41, 42]⟩) s = true ↔ s.size = 0 ∨ ∃ j, j < s.size + 1 ∧ D s j ∧ M P (s.extract 0 j) = true ∧ 0 < j ∧ M (⟨#[40, 63, 58]⟩ ++ P ++ ⟨#[41, 42]⟩) (s.extract j s.size) = true
  m7 : ∀ s, M (⟨#[40, 63, 58]⟩ ++ P ++ ⟨#[41, 40, 63, 58]⟩ ++ Q ++ ⟨#[41]⟩) s = true ↔ ∃ j, j < s.size + 1 ∧ D s j ∧ M P (s.extract 0 j) = true ∧ M Q (s.extract j s.size) = true
  m8 : ∀ s, M (⟨#[40, 63, 58]⟩ ++ P ++ ⟨#[41, 123, 50, 125]⟩) s = true ↔ ∃ j, j < s.size + 1 ∧ D s j ∧ M P (s.extract 0 j) = true ∧ M P (s.extract j s.size) = true
  m9 : ∀ s, M (⟨#[40, 63, 58]⟩ ++ P ++ ⟨#[41, 63]⟩) s = (M P s || (s.size == 0))
  d0 : ∀ s, D s 0
  d1 : ∀ s : ByteArray, D s s.size
structure JR (s : ByteArray) (X Y Z T : Nat → Bool) (D : ByteArray → Nat → Prop) (i : Nat) (c st tw : Bool) : Prop where
  c : c = true ↔ ∃ j, j < i ∧ D s j ∧ X j = true ∧ Y j = true
  st : st = true ↔ s.size = 0 ∨ ∃ j, j < i ∧ D s j ∧ X j = true ∧ 0 < j ∧ Z j = true
  tw : tw = true ↔ ∃ j, j < i ∧ D s j ∧ X j = true ∧ T j = true
theorem ex_succ {p : Nat → Prop} {i : Nat} : (∃ j, j < i + 1 ∧ p j) ↔ (∃ j, j < i ∧ p j) ∨ p i := by
  constructor
  · rintro ⟨j, h, hp⟩
    by_cases hj : j = i
    · subst hj; exact .inr hp
    · exact .inl ⟨j, by omega, hp⟩
  · rintro (⟨j, h, hp⟩ | hp)
    · exact ⟨j, by omega, hp⟩
    · exact ⟨i, by omega, hp⟩
theorem JR.skip {s : ByteArray} {X Y Z T : Nat → Bool} {D : ByteArray → Nat → Prop} {i : Nat} {c st tw : Bool} (h : JR s X Y Z T D i c st tw) (hd : ¬ D s i) : JR s X Y Z T D (i + 1) c st tw := by
  refine ⟨?_, ?_, ?_⟩
  · rw [ex_succ, h.c]; simp [hd]
  · rw [ex_succ, h.st]; simp [hd]
  · rw [ex_succ, h.tw]; simp [hd]
theorem JR.take {s : ByteArray} {X Y Z T : Nat → Bool} {D : ByteArray → Nat → Prop} {i : Nat} {c st tw : Bool} (h : JR s X Y Z T D i c st tw) (hd : D s i) : JR s X Y Z T D (i + 1) (c || (X i && Y i)) (st || (X i && (decide (0 < i) && Z i))) (tw || (X i && T i)) := by
  refine ⟨?_, ?_, ?_⟩
  · rw [ex_succ, Bool.or_eq_true, h.c]; simp [hd]
  · rw [ex_succ, Bool.or_eq_true, h.st]; simp [hd, or_assoc]
  · rw [ex_succ, Bool.or_eq_true, h.tw]; simp [hd]
theorem JR.none {s : ByteArray} {X Y Z T : Nat → Bool} {D : ByteArray → Nat → Prop} : JR s X Y Z T D 0 false (s.size == 0) false := ⟨by simp, by simp, by simp⟩
theorem jq_ext (s : ByteArray) (a e : Nat) (he : e ≤ s.size) : (s.extract a e).size = e - a := by
  rw [Lib.size_eq, Lib.extract_data, List.length_take, List.length_drop, ← Lib.size_eq]
  omega
theorem jq_empty (s : ByteArray) : s.toList.isEmpty = (s.size == 0) := by
  rw [ByteArray.toList_eq]
  show s.data.toList.isEmpty = (s.data.size == 0)
  cases h : s.data.toList with
  | nil => have : s.data.size = 0 := by rw [← Array.length_toList, h]; rfl
           rw [this]; rfl
  | cons a l => have : s.data.size = l.length + 1 := by rw [← Array.length_toList, h]; rfl
                rw [this]; rfl
theorem b_iff {a b : Bool} {p : Prop} (h : a = true ↔ p) (k : b = true ↔ p) : a = b := by
  cases a <;> cases b <;> simp_all
set_option maxHeartbeats 8000000 in
set_option maxRecDepth 100000 in
theorem joins_walk (G : ByteArray → Bool) (M : ByteArray → ByteArray → Bool) (D : ByteArray → Nat → Prop) (rp rq s0 : ByteArray) (w : World) (hrp : rp.size ≤ 9223372036854775807) (hrq : rq.size ≤ 9223372036854775807)
    (KSH : ∀ W : World, Calls Tryd.prog 7 #[.string s0, .int .i64 8] W fun e w' => ∃ s', e = .returned (.string s') ∧ s'.size ≤ 8 ∧ w' = W)
    (KI : ∀ (t s : ByteArray) (W : World), Ex [] w W → G t = true → s.size ≤ 8 → Calls Tryd.prog 8 #[.string t, .string s] W fun e w' => e = .returned (.tuple #[.bool (M t s), .bool true]) ∧ Ex [] W w')
    (KT : ∀ (s : ByteArray) (i : Nat) (W : World), Ex [] w W → s.size ≤ 8 → i ≤ s.size → Calls Tryd.prog 9 #[.string s, .int .i64 i] W fun e w' => ∃ b, e = .returned (.bool b) ∧ (b = true ↔ D s i) ∧ Ex [] W w')
    (HJ : ∀ b c, Shp 2 b → Shp 2 c → JW G M D (bA b) (bA c)) :
    Calls Tryd.prog 3 #[.string rp, .string rq, .string s0] w fun e w' => e = .returned (.bool true) ∧ Ex [] w w' := by
  have HSH := hide KSH
  have HI := hide KI
  have HT := hide KT
  have HJJ := hide HJ
  clear KSH KI KT HJ
  go_enter Tryd.func3, Tryd.ntmps3
  go_wp2_with fail
  refine (shape_two rp _ hrp).mono ?_
  rintro e w1 ⟨b, r1, rfl, hs1, _, hx1⟩
  go_wp2_with fail
  refine (shape_two rq _ hrq).mono ?_
  rintro e w2 ⟨c, r2, rfl, hs2, _, hx2⟩
  have HW := hide (HJJ.out b c hs1 hs2)
  have HX2 := hide (hx1.trans hx2)
  obtain ⟨P, hP⟩ : ∃ P, P = bA b := ⟨_, rfl⟩
  obtain ⟨Q, hQ⟩ : ∃ Q, Q = bA c := ⟨_, rfl⟩
  have hPz : P.size ≤ 23 := by rw [hP, bA_size]; have := hs1.len; omega
  have hQz : Q.size ≤ 23 := by rw [hQ, bA_size]; have := hs2.len; omega
  rw [← hP, ← hQ] at HW
  rw [← hP, ← hQ]
  clear hx1 hx2 hs1 hs2 hP hQ hrp hrq HJJ
  go_wp2_with fail
  refine (HSH.out _).mono ?_
  rintro e w2 ⟨s, rfl, hs8, rfl⟩
  go_wp2_with fail
  refine (HI.out P s _ HX2.out HW.out.g1 hs8).mono ?_
  rintro e w3 ⟨rfl, hx3⟩
  have HX3 := hide (HX2.out.trans hx3)
  clear hx3
  go_wp2_with fail
  refine (HI.out Q s _ HX3.out HW.out.g2 hs8).mono ?_
  rintro e w4 ⟨rfl, hx4⟩
  have HX4 := hide (HX3.out.trans hx4)
  clear hx4
  go_wp2_with fail
  refine (HI.out _ s _ HX4.out HW.out.g3 hs8).mono ?_
  rintro e w5 ⟨rfl, hx5⟩
  have HX5 := hide (HX4.out.trans hx5)
  clear hx5
  rw [HW.out.m3]
  go_wp2_with fail
  refine (HI.out _ s _ HX5.out HW.out.g4 hs8).mono ?_
  rintro e w6 ⟨rfl, hx6⟩
  have HX6 := hide (HX5.out.trans hx6)
  clear hx6
  rw [HW.out.m4]
  obtain ⟨A, hA⟩ : ∃ A, A = M P s := ⟨_, rfl⟩
  obtain ⟨B, hB⟩ : ∃ B, B = M Q s := ⟨_, rfl⟩
  rw [← hA, ← hB]
  have HA := hide hA
  clear hA hB
  go_upto_region 8 with fail
  go_cut [106] (fun v wx => v = .bool false ∧ wx = w6)
  case first =>
    as_aux_lemma =>
      cases A <;> (go_wp2_with fail; go_meet; exact ⟨by first | rfl | simp, rfl⟩)
  case rest =>
    as_aux_lemma =>
      obtain ⟨rfl, hwc⟩ := hcut
      subst hwc
      obtain ⟨W6, hW6⟩ : ∃ W6, W6 = wc := ⟨_, rfl⟩
      subst hW6
      have hE : s.toList.isEmpty = (s.size == 0) := jq_empty s
      go_upto_region 13 with fail
      clear hE
      go_wp2_with fail
      go_loopg [19, 20, 21, 22] (s.size + 1) (fun gk c19 s20 t21 i22 wr => ∃ (i : Nat) (c st tw : Bool), i + gk = s.size + 1 ∧ c19 = .bool c ∧ s20 = .bool st ∧ t21 = .bool tw ∧ i22 = .int .i64 i ∧ JR s (fun j => M P (s.extract 0 j)) (fun j => M Q (s.extract j s.size)) (fun j => M (⟨#[40, 63, 58]⟩ ++ P ++ ⟨#[41, 42]⟩) (s.extract j s.size)) (fun j => M P (s.extract j s.size)) D i c st tw ∧ Ex [] w wr)
      case atStart => exact ⟨0, _, _, _, by omega, rfl, rfl, rfl, rfl, JR.none, HX6.out⟩
      case round =>
        obtain ⟨i, c, st, tw, hgk, rfl, rfl, rfl, rfl, hjr, hx⟩ := hrel
        have HX := hide hx
        have HR := hide hjr
        clear hx hjr
        by_cases hi : i ≤ s.size
        · have e1 : (i : Int) ≤ (s.size : Int) := by omega
          go_upto_region 16 with fail
          go_cut [128] (fun v wx => ∃ sk : Bool, v = .bool sk ∧ (sk = false ↔ D s i) ∧ Ex [] w wx)
          case first =>
            as_aux_lemma =>
              by_cases h0 : i = 0
              · have q0 : ¬ (0 : Int) < (i : Int) := by omega
                have H0 := hide h0
                clear h0
                go_wp2_with fail
                go_meet
                exact ⟨false, rfl, iff_of_true rfl (by rw [H0.out]; exact HW.out.d0 s), HX.out⟩
              · have q0 : (0 : Int) < (i : Int) := by omega
                by_cases h1 : i = s.size
                · have q1 : ¬ (i : Int) < (s.size : Int) := by omega
                  have H1 := hide h1
                  clear h1
                  go_wp2_with fail
                  go_meet
                  exact ⟨false, rfl, iff_of_true rfl (by rw [H1.out]; exact HW.out.d1 s), HX.out⟩
                · have q1 : (i : Int) < (s.size : Int) := by omega
                  go_wp2_with fail
                  refine (HT.out s i _ HX.out hs8 hi).mono ?_
                  rintro e w7 ⟨b7, rfl, hb7, hx7⟩
                  have HX7 := hide (HX.out.trans hx7)
                  have HB7 := hide hb7
                  clear hx7 hb7
                  go_wp2_with fail
                  go_meet
                  exact ⟨!b7, rfl, by rw [← HB7.out]; cases b7 <;> simp, HX7.out⟩
          case rest =>
            as_aux_lemma =>
              obtain ⟨sk, rfl, hsk, hx8⟩ := hcut
              obtain ⟨W8, hW8⟩ : ∃ W8, W8 = wc := ⟨_, rfl⟩
              subst hW8
              have HX8 := hide hx8
              have HSK := hide hsk
              clear hx8 hsk
              cases sk with
              | true =>
                go_wp2_with fail
                go_roundg (gk - 1)
                case measure => omega
                case rel => exact ⟨i + 1, c, st, tw, by omega, rfl, rfl, rfl, by simp, HR.out.skip (fun h => by have := HSK.out.2 h; cases this), HX8.out⟩
              | false =>
                have hd : Hid (D s i) := hide (HSK.out.1 rfl)
                have hz1 : (s.extract 0 i).size ≤ 8 := by rw [jq_ext s 0 i hi]; omega
                have hz2 : (s.extract i s.size).size ≤ 8 := by rw [jq_ext s i s.size (Nat.le_refl _)]; omega
                go_wp2_with fail
                refine (HI.out P _ _ HX8.out HW.out.g1 hz1).mono ?_
                rintro e w9 ⟨rfl, hx9⟩
                have HX9 := hide (HX8.out.trans hx9)
                clear hx9
                go_wp2_with fail
                refine (HI.out _ _ _ HX9.out HW.out.g5 hz2).mono ?_
                rintro e w10 ⟨rfl, hx10⟩
                have HX10 := hide (HX9.out.trans hx10)
                clear hx10
                rw [HW.out.m5]
                go_wp2_with fail
                refine (HI.out _ _ _ HX10.out HW.out.g6 hz2).mono ?_
                rintro e w11 ⟨rfl, hx11⟩
                have HX11 := hide (HX10.out.trans hx11)
                clear hx11
                go_wp2_with fail
                refine (HI.out P _ _ HX11.out HW.out.g1 hz2).mono ?_
                rintro e w12 ⟨rfl, hx12⟩
                have HX12 := hide (HX11.out.trans hx12)
                clear hx12
                have HR2 := hide (HR.out.take hd.out)
                obtain ⟨X, hX⟩ : ∃ X, X = M P (s.extract 0 i) := ⟨_, rfl⟩
                obtain ⟨Y, hY⟩ : ∃ Y, Y = M Q (s.extract i s.size) := ⟨_, rfl⟩
                obtain ⟨Z, hZ⟩ : ∃ Z, Z = M (⟨#[40, 63, 58]⟩ ++ P ++ ⟨#[41, 42]⟩) (s.extract i s.size) := ⟨_, rfl⟩
                obtain ⟨T, hT⟩ : ∃ T, T = M P (s.extract i s.size) := ⟨_, rfl⟩
                rw [← hX, ← hY, ← hZ, ← hT] at HR2
                rw [← hX, ← hY, ← hZ, ← hT]
                clear hX hY hZ hT
                go_upto_region 23 with fail
                go_cut [19] (fun v wx => v = .bool (c || (X && Y)) ∧ wx = w12)
                case first =>
                  as_aux_lemma =>
                    cases c with
                    | true => go_wp2_with fail; go_meet; exact ⟨rfl, rfl⟩
                    | false => cases X <;> (go_wp2_with fail; go_meet; exact ⟨by first | rfl | simp, rfl⟩)
                case rest =>
                  as_aux_lemma =>
                    obtain ⟨rfl, hwc⟩ := hcut
                    subst hwc
                    obtain ⟨c', hc'⟩ : ∃ c', c' = (c || (X && Y)) := ⟨_, rfl⟩
                    rw [← hc'] at HR2 ⊢
                    clear hc'
                    obtain ⟨pz, hpz⟩ : ∃ pz, pz = decide (0 < i) := ⟨_, rfl⟩
                    rw [← hpz] at HR2
                    have HPZ := hide hpz
                    clear hpz
                    go_upto_region 24 with fail
                    go_cut [20] (fun v wx => v = .bool (st || (X && (pz && Z))) ∧ wx = wc)
                    case first =>
                      as_aux_lemma =>
                        cases st with
                        | true => go_wp2_with fail; go_meet; exact ⟨rfl, rfl⟩
                        | false =>
                          cases X with
                          | false => go_wp2_with fail; go_meet; exact ⟨rfl, rfl⟩
                          | true =>
                            by_cases h0 : i = 0
                            · have q0 : ¬ (0 : Int) < (i : Int) := by omega
                              obtain rfl : pz = false := by rw [HPZ.out]; simp [h0]
                              clear h0
                              go_wp2_with fail; go_meet; exact ⟨rfl, rfl⟩
                            · have q0 : (0 : Int) < (i : Int) := by omega
                              obtain rfl : pz = true := by rw [HPZ.out]; simp; omega
                              clear h0
                              go_wp2_with fail; go_meet; exact ⟨by first | rfl | simp, rfl⟩
                    case rest =>
                      as_aux_lemma =>
                        obtain ⟨rfl, hwc⟩ := hcut
                        subst hwc
                        obtain ⟨st', hst'⟩ : ∃ st', st' = (st || (X && (pz && Z))) := ⟨_, rfl⟩
                        rw [← hst'] at HR2 ⊢
                        clear hst'
                        cases tw with
                        | true =>
                          go_wp2_with fail
                          go_roundg (gk - 1)
                          case measure => omega
                          case rel => exact ⟨i + 1, c', st', _, by omega, rfl, rfl, rfl, by simp, HR2.out, HX12.out⟩
                        | false =>
                          cases X with
                          | true =>
                            go_wp2_with fail
                            go_roundg (gk - 1)
                            case measure => omega
                            case rel => exact ⟨i + 1, c', st', T, by omega, rfl, rfl, rfl, by simp, HR2.out, HX12.out⟩
                          | false =>
                            go_wp2_with fail
                            go_roundg (gk - 1)
                            case measure => omega
                            case rel => exact ⟨i + 1, c', st', _, by omega, rfl, rfl, rfl, by simp, HR2.out, HX12.out⟩
        · have e1 : ¬ (i : Int) ≤ (s.size : Int) := by omega
          obtain rfl : i = s.size + 1 := by omega
          have HC : Hid (M (⟨#[40, 63, 58]⟩ ++ P ++ ⟨#[41, 40, 63, 58]⟩ ++ Q ++ ⟨#[41]⟩) s = c) := hide (b_iff (HW.out.m7 s) HR.out.c)
          have HS : Hid (M (⟨#[40, 63, 58]⟩ ++ P ++ ⟨#[41, 42]⟩) s = st) := hide (b_iff (HW.out.m6 s) HR.out.st)
          have HT2 : Hid (M (⟨#[40, 63, 58]⟩ ++ P ++ ⟨#[41, 123, 50, 125]⟩) s = tw) := hide (b_iff (HW.out.m8 s) HR.out.tw)
          go_wp2_with fail
          refine (HI.out _ s _ HX.out HW.out.g7 hs8).mono ?_
          rintro e w13 ⟨rfl, hx13⟩
          have HX13 := hide (HX.out.trans hx13)
          clear hx13
          rw [HC.out]
          go_wp2_with fail
          refine (HI.out _ s _ HX13.out HW.out.g6 hs8).mono ?_
          rintro e w14 ⟨rfl, hx14⟩
          have HX14 := hide (HX13.out.trans hx14)
          clear hx14
          rw [HS.out]
          go_wp2_with fail
          refine (HI.out _ s _ HX14.out HW.out.g8 hs8).mono ?_
          rintro e w15 ⟨rfl, hx15⟩
          have HX15 := hide (HX14.out.trans hx15)
          clear hx15
          rw [HT2.out]
          go_wp2_with fail
          refine (HI.out _ s _ HX15.out HW.out.g9 hs8).mono ?_
          rintro e w16 ⟨rfl, hx16⟩
          have HX16 := hide (HX15.out.trans hx16)
          clear hx16
          rw [HW.out.m9, ← HA.out]
          obtain ⟨E, hE⟩ : ∃ E, E = (s.size == 0) := ⟨_, rfl⟩
          have HE : Hid (s.toList.isEmpty = E) := hide (by rw [hE]; exact jq_empty s)
          rw [← hE]
          clear hE
          go_upto_region 30 with fail
          go_cut [6] (fun v wx => v = .bool true ∧ wx = w16)
          case first =>
            as_aux_lemma =>
              have hE2 := HE.out
              cases A <;> (go_wp2_with fail; go_meet; exact ⟨by first | rfl | simp, rfl⟩)
          case rest =>
            as_aux_lemma =>
              obtain ⟨rfl, hwc⟩ := hcut
              subst hwc
              go_wp2_with fail
              go_ret
              exact ⟨rfl, HX16.out⟩
end Go.Proofs.YtmeffeigamaipaaDoor.G

/- Joins, called; a start at which it may be called. -/
namespace Go.Proofs.YtmeffeigamaipaaDoor
open Go.ChangeShapes Go.WideShapes Go.ChangeAt Go.ChangeMaps Go.RowKit

namespace G
theorem jw_of {b c : List UInt8} (h : Shp 2 b) (h' : Shp 2 c) : JW goodP mB (fun s i => Bd s 0 i) (bA b) (bA c) := by
  have k := jt_of h h'
  exact ⟨k.g1, k.g2, k.g3, k.g4, k.g5, k.g6, k.g7, k.g8, k.g9, k.m3, k.m4, k.m5, k.m6, k.m7, k.m8, k.m9, fun s => .here 0, fun s => bd_end s _ 0 (Nat.le_refl _) (Nat.zero_le _)⟩
theorem joins_any (rp rq s : ByteArray) (x : EV) (w : World) (hrp : rp.size ≤ 9223372036854775807) (hrq : rq.size ≤ 9223372036854775807) (hs : s.size ≤ 9223372036854775807) (hev : w.cell? ⟨0, 0, none⟩ = some (.iface x.1 x.2)) (hT : Lib.Utf8Tabs 1 2 w) :
    Calls Tryd.prog 3 #[.string rp, .string rq, .string s] w fun e w' => e = .returned (.bool true) ∧ Ex [] w w' :=
  joins_walk goodP mB (fun s i => Bd s 0 i) rp rq s w hrp hrq (fun W => short_any s 8 W hs (by omega))
    (fun t s' W hx hg h8 => is_any t s' x W ((hx.cell0.1 _ _ (lt_of_cell hev)).trans hev) hg (tabs_ex hT hx) (by omega))
    (fun s' i W hx h8 hi => starts_any s' i x W (by omega) hi ((hx.cell0.1 _ _ (lt_of_cell hev)).trans hev) (tabs_ex hT hx))
    (fun b c h h' => jw_of h h')
end G

theorem iface_of {H : Type} {enc : TypeId × Value → H} {P : Program} {w : World} {base : Nat} {sp : Nat → Bool} {held : Bool} {fuel : Nat} {t : TypeId} {cs : List Value} {n : String} {d : DataW H} {p : List MemPlace} (ht : ∃ ms, P.underlying t = some (.interface ms))
    (h : DataW.trod enc P w base sp held fuel t cs = some (.iface n d, p)) : ∃ u v, cs = [.iface u v] := by
  obtain ⟨ms, ht⟩ := ht
  cases fuel with
  | zero => simp [DataW.trod] at h
  | succ fuel =>
    unfold DataW.trod at h
    rw [ht] at h
    split at h <;> first | cases h | (rename_i heq; exact ⟨_, _, rfl⟩) | simp_all
theorem ev_of_reads {W : World} (h : Lib.VarReads Tryd.prog W "retag/regex.errForm" Rows.laid_retag_regex_errForm) : ∃ x : G.EV, W.cell? ⟨0, 0, none⟩ = some (.iface x.1 x.2) := by
  obtain ⟨g, t, cs, fuel, p, hg, hty, hvar, hd⟩ := h
  obtain rfl : g = 0 := (Option.some.inj ((show Tryd.prog.globalNamed "retag/regex.errForm" = some 0 by kernel_rfl).symm.trans hg)).symm
  obtain rfl : t = 90 := (Option.some.inj ((show (Tryd.prog.globals[0]?).map (·.type) = some 90 by kernel_rfl).symm.trans hty)).symm
  obtain ⟨u, v, hcs⟩ := iface_of ⟨_, Tryd.underlying90⟩ hd
  refine ⟨(u, v), ?_⟩
  rw [World.var?_cell hg hvar 0, ← Array.getElem?_toList, hcs]
  rfl
set_option maxRecDepth 100000 in
theorem first_eq : Rows.laid_unicode_utf8_first = Lib.firstData := by kernel_rfl
set_option maxRecDepth 100000 in
theorem accept_eq : (Rows.laid_unicode_utf8_acceptRanges : DataW Unit) = Lib.acceptData := by kernel_rfl
set_option maxRecDepth 100000 in
theorem gl_of_reads {W : World} (h1 : Lib.VarReads Tryd.prog W "unicode/utf8.first" Rows.laid_unicode_utf8_first) (h2 : Lib.VarReads Tryd.prog W "unicode/utf8.acceptRanges" Rows.laid_unicode_utf8_acceptRanges) : Lib.Utf8Tabs 1 2 W := by
  rw [accept_eq] at h2
  rw [first_eq] at h1
  exact utf8Tabs_of_reads Tryd.lays260 ⟨by kernel_rfl, by kernel_rfl, by kernel_rfl, by kernel_rfl, by kernel_rfl, by kernel_rfl, by kernel_rfl⟩ h1 h2
theorem own : ownKnob Tryd.prog.godebug = none := by kernel_rfl

set_option maxRecDepth 100000 in
theorem start_fits (os : Os) (H : Type) (enc : TypeId × Value → H) : ∃ w0 : World, w0.os = os ∧ (w0.forCall (fun _ _ => 0) ⟨#[], #[.string ⟨#[]⟩, .string ⟨#[]⟩, .string ⟨#[]⟩], []⟩).Shaped Tryd.prog ∧
    Input.okWideB Tryd.prog (w0.forCall (fun _ _ => 0) ⟨#[], #[.string ⟨#[]⟩, .string ⟨#[]⟩, .string ⟨#[]⟩], []⟩) 3 ⟨#[], #[.string ⟨#[]⟩, .string ⟨#[]⟩, .string ⟨#[]⟩], []⟩ = true ∧
    Rows.joinsSpec.preB enc Tryd.prog Tryd.f3 [] false (w0.forCall (fun _ _ => 0) ⟨#[], #[.string ⟨#[]⟩, .string ⟨#[]⟩, .string ⟨#[]⟩], []⟩).memory #[.string ⟨#[]⟩, .string ⟨#[]⟩, .string ⟨#[]⟩] 8 = true ∧
    Rows.joinsSpec.sizedB enc Tryd.prog Tryd.f3 false (w0.forCall (fun _ _ => 0) ⟨#[], #[.string ⟨#[]⟩, .string ⟨#[]⟩, .string ⟨#[]⟩], []⟩).memory #[.string ⟨#[]⟩, .string ⟨#[]⟩, .string ⟨#[]⟩] 8 = true ∧
    laidMetH Tryd.prog Rows.joinsRow.laid (w0.forCall (fun _ _ => 0) ⟨#[], #[.string ⟨#[]⟩, .string ⟨#[]⟩, .string ⟨#[]⟩], []⟩).memory := by
  refine ⟨{ World.doorLaid Tryd.prog 400 os with heap := (World.doorLaid Tryd.prog 400 os).heap.modify 1 fun
      | .cells _ t frozen => .cells ⟨Go.Pinned.utf8FirstZ.map fun (z : Nat) => .int .u8 (z : Int)⟩ t frozen
      | o => o }, rfl, World.shaped_of_RefB (by kernel_rfl) (by kernel_rfl), by kernel_rfl, by kernel_rfl, by kernel_rfl, ?_⟩
  exact laidMetH_of_parts3 (fuel := 8) (laidMet_of_run' 8 (by kernel_rfl) (by kernel_rfl)) (by kernel_rfl) (by kernel_rfl)


theorem joins_list {W : World} (h : laidMetH Tryd.prog Rows.joinsRow.laid W) : ∃ x : G.EV, W.cell? ⟨0, 0, none⟩ = some (.iface x.1 x.2) ∧ Lib.Utf8Tabs 1 2 W := by
  rw [MakeChecks.laidMetH_plain _ _ _ (by kernel_rfl)] at h
  obtain ⟨x, hx⟩ := ev_of_reads (Lib.laidMet.reads h (n := "retag/regex.errForm") (d := Rows.laid_retag_regex_errForm) (by simp [Rows.joinsRow]))
  exact ⟨x, hx, gl_of_reads (Lib.laidMet.reads h (n := "unicode/utf8.first") (d := Rows.laid_unicode_utf8_first) (by simp [Rows.joinsRow])) (Lib.laidMet.reads h (n := "unicode/utf8.acceptRanges") (d := Rows.laid_unicode_utf8_acceptRanges) (by simp [Rows.joinsRow]))⟩
end Go.Proofs.YtmeffeigamaipaaDoor
