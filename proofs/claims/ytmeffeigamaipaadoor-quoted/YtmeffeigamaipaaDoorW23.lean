/- The contract of short and of Runes. -/
import Derived.Test.YtmeffeigamaipaaDoorW22
set_option linter.unusedVariables false
set_option linter.unusedSimpArgs false
namespace Go.Proofs.YtmeffeigamaipaaDoor
open Go.RowKit

set_option maxHeartbeats 2000000 in
set_option maxRecDepth 100000 in
theorem short_any (s : ByteArray) (w : World) (hs : s.size ≤ 9223372036854775807) :
    Calls Tryd.prog 7 #[.string s, .int .i64 12] w fun e w' => (∃ t, e = .returned (.string t) ∧ t.size ≤ 12) ∧ w' = w := by
  go_enter Tryd.func7, Tryd.ntmps7
  by_cases h : 12 < s.size
  · have e1 : (12 : Int) < (s.size : Int) := by omega
    have e2 : (12 : Int) ≤ (s.size : Int) := by omega
    go_wp2_with fail
    go_ret
    exact ⟨⟨_, rfl, by rw [size_extract s 0 12 (by omega)]; omega⟩, rfl⟩
  · have e1 : ¬ (12 : Int) < (s.size : Int) := by omega
    go_wp2_with fail
    go_ret
    exact ⟨⟨_, rfl, by omega⟩, rfl⟩

theorem DT_nil : DT ⟨#[]⟩ := by
  intro k h
  simp [ByteArray.size] at h
theorem size_app (t : ByteArray) : (t ++ ⟨#[46]⟩ : ByteArray).size = t.size + 1 := by
  rw [ByteArray.size_append]; rfl
theorem DT_app {t : ByteArray} (h : DT t) : DT (t ++ ⟨#[46]⟩) := by
  intro k hk
  have hz := size_app t
  by_cases h1 : k < t.size
  · rw [ByteArray.getElem_append_left h1]; exact h k h1
  · rw [ByteArray.getElem_append_right (by omega)]
    have h0 : k - t.size = 0 := by omega
    have : ∀ j (hj : j < ByteArray.size ⟨#[46]⟩), j = 0 → (⟨#[46]⟩ : ByteArray)[j] = 46 := by
      intro j hj h2; subst h2; rfl
    exact this _ _ h0

theorem getb (s : ByteArray) (i : Nat) (h : i < s.size) : s.get! i = s[i] := by
  cases s with
  | mk d => exact getElem!_pos d i h
theorem low_next {t : ByteArray} {j : Nat} (hl : true = true → ∀ x, x < j → (t.get! x).toNat < 128) (hj : j < t.size) :
    decide (((t[j]'hj).toNat : Int) < 128) = true → ∀ x, x < j + 1 → (t.get! x).toNat < 128 := by
  intro h x hx
  by_cases hxj : x = j
  · subst hxj
    have h1 := of_decide_eq_true h
    rw [getb t x hj]
    omega
  · exact hl rfl x (by omega)

set_option maxHeartbeats 2000000 in
set_option maxRecDepth 100000 in
theorem Runes_true (s : ByteArray) (w : World) (hs : s.size ≤ 9223372036854775807) (hT : Lib.Utf8Tabs 1 2 w) :
    Calls Tryd.prog 4 #[.string s] w fun e w' => e = .returned (.bool true) ∧ Ex [] w w' := by
  have HT := hide hT
  have htl := tabs_lt hT
  clear hT
  go_enter Tryd.func4, Tryd.ntmps4
  go_wp2_with fail
  refine (short_any s _ hs).mono ?_
  rintro e w1 ⟨⟨t, rfl, ht⟩, rfl⟩
  clear hs
  go_wp2_with fail
  go_loopg [3, 4] t.size (fun gk n3 a4 wr => ∃ (a n : Nat), a + gk = t.size ∧ n + rcount t a = rcount t 0 ∧ n3 = .int .i64 n ∧ a4 = .int .i64 a ∧ Ex [] w1 wr)
  case atStart => exact ⟨0, 0, by omega, by omega, rfl, rfl, Ex.refl _ _⟩
  case round =>
    obtain ⟨a, n, hgk, hn, rfl, rfl, hx⟩ := hrel
    have HX := hide hx
    have HN := hide hn
    clear hx hn
    cases gk with
    | succ g =>
      have ha : a < t.size := by omega
      have hr := rs_all t a ha
      have hst := rcount_step t (rs_all t) a ha
      have HST := hide hst
      have ha' : (a : Int) < (t.size : Int) := by omega
      clear hst
      have hnn : n ≤ 12 := by have h1 := HN.out; have h2 := rc_le t t.size 0 (by omega); omega
      go_wp2_with fail
      refine (size_dot t a _ (by omega) ha (tabs_eb HT.out (EB.ofEx HX.out (by omega)) htl)).mono ?_
      rintro e w2 ⟨rfl, hx2⟩
      have HX2 := hide hx2
      clear hx2
      go_wp2_with fail
      go_roundg (t.size - (a + rsz t a))
      case measure => omega
      case rel => exact ⟨a + rsz t a, n + 1, by omega, by have h1 := HN.out; have h2 := HST.out; omega, by simp, by simp, HX.out.trans HX2.out⟩
    | zero =>
      have hcn : n = rcount t 0 := by
        have h2 := HN.out
        rw [show a = t.size by omega, rcount_end t (rs_all t)] at h2
        omega
      have hnn : n ≤ 12 := by have h2 := rc_le t t.size 0 (by omega); omega
      have HCN := hide hcn
      obtain rfl : a = t.size := by omega
      clear hgk hcn HN
      go_wp2_with fail
      go_loopg [5, 6] (n + 2) (fun gk d5 i6 wq => ∃ (d : ByteArray) (i : Nat), i + gk = n + 2 ∧ DT d ∧ d.size = i ∧ d5 = .string d ∧ i6 = .int .i64 i ∧ Ex [] w1 wq)
      case atStart => exact ⟨⟨#[]⟩, 0, by omega, DT_nil, rfl, rfl, rfl, HX.out⟩
      case round =>
        obtain ⟨d, i, hgi, hd, hdz, rfl, rfl, hx2⟩ := hrel
        have HX2 := hide hx2
        have HD := hide hd
        have HDZ := hide hdz
        clear hx2 hd hdz
        cases gk with
        | succ g =>
          have e1 : (i : Int) ≤ (n : Int) + 1 := by omega
          have hdb : d.size ≤ 14 := by have := HDZ.out; omega
          go_wp2_with fail
          refine (is_dot d t _ HD.out (by have := HDZ.out; omega) (by omega) (tabs_eb HT.out (EB.ofEx HX2.out (by omega)) htl) (rs_all _)).mono ?_
          rintro e w2 ⟨rfl, hx3⟩
          have HX3 := hide hx3
          clear hx3
          by_cases hin : i = n
          · have hh : decide (rcount t 0 = d.size) = true := decide_eq_true (by have h1 := HCN.out; have h2 := HDZ.out; omega)
            rw [hh]
            subst hin
            go_wp2_with fail
            go_roundg g
            case measure => omega
            case rel => exact ⟨d ++ ⟨#[46]⟩, i + 1, by omega, DT_app HD.out, by rw [size_app, HDZ.out], rfl, by simp, HX2.out.trans HX3.out⟩
          · have hh : decide (rcount t 0 = d.size) = false := decide_eq_false (by have h1 := HCN.out; have h2 := HDZ.out; omega)
            rw [hh]
            have e2 : ¬ (i : Int) = (n : Int) := by omega
            go_wp2_with fail
            go_roundg g
            case measure => omega
            case rel => exact ⟨d ++ ⟨#[46]⟩, i + 1, by omega, DT_app HD.out, by rw [size_app, HDZ.out], rfl, by simp, HX2.out.trans HX3.out⟩
        | zero =>
          have e1 : ¬ (i : Int) ≤ (n : Int) + 1 := by omega
          go_wp2_with fail
          go_loopg [9, 10] t.size (fun gk l9 i10 wp => ∃ (l : Bool) (j : Nat), j + gk = t.size ∧ (l = true → ∀ x, x < j → (t.get! x).toNat < 128) ∧ l9 = .bool l ∧ i10 = .int .i64 j ∧ Ex [] w1 wp)
          case atStart => exact ⟨true, 0, by omega, fun _ x hx => absurd hx (by omega), rfl, rfl, HX2.out⟩
          case round =>
            obtain ⟨l, j, hgj, hl, rfl, rfl, hx4⟩ := hrel
            have HX4 := hide hx4
            have HL := hide hl
            clear hx4 hl
            cases gk with
            | succ g =>
              have hj : j < t.size := by omega
              have hj' : (j : Int) < (t.size : Int) := by omega
              cases l with
              | false =>
                go_wp2_with fail
                go_roundg g
                case measure => omega
                case rel => exact ⟨false, j + 1, by omega, fun h => absurd h (by decide), rfl, by simp, HX4.out⟩
              | true =>
                go_wp2_with fail
                go_roundg g
                case measure => omega
                case rel =>
                  refine ⟨_, j + 1, by omega, ?_, rfl, by simp, HX4.out⟩
                  exact low_next (fun _ => HL.out trivial) hj
            | zero =>
              have hlow : l = true → n = t.size := by
                intro h
                have h1 := rc_low t (fun x hx => HL.out h x (by omega)) t.size 0 (by omega)
                rw [HCN.out, h1]
              have HLW := hide hlow
              clear hlow
              cases l with
              | false =>
                go_wp2_with fail
                go_ret
                exact ⟨rfl, HX4.out⟩
              | true =>
                have hnt := HLW.out rfl
                subst hnt
                go_wp2_with fail
                go_ret
                exact ⟨rfl, HX4.out⟩
end Go.Proofs.YtmeffeigamaipaaDoor
