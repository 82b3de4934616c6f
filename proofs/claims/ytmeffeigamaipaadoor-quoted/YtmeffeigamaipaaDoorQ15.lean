/- The contract of Quoted. -/
import Derived.Test.YtmeffeigamaipaaDoorQ14
set_option linter.unusedVariables false
set_option linter.unusedSimpArgs false
namespace Go.Proofs.YtmeffeigamaipaaDoor.Q
open Go.RowKit

set_option maxHeartbeats 2000000 in
set_option maxRecDepth 100000 in
theorem short_n (s : ByteArray) (n : Nat) (w : World) (hs : s.size ≤ 9223372036854775807) (hn : n ≤ 1000) :
    Calls Tryd.prog 7 #[.string s, .int .i64 n] w fun e w' => (∃ t, e = .returned (.string t) ∧ t.size ≤ n) ∧ w' = w := by
  go_enter Tryd.func7, Tryd.ntmps7
  by_cases h : n < s.size
  · have e1 : (n : Int) < (s.size : Int) := by omega
    have e2 : (n : Int) ≤ (s.size : Int) := by omega
    go_wp2_with fail
    go_ret
    exact ⟨⟨_, rfl, by rw [size_extract s 0 n (by omega)]; omega⟩, rfl⟩
  · have e1 : ¬ (n : Int) < (s.size : Int) := by omega
    go_wp2_with fail
    go_ret
    exact ⟨⟨_, rfl, by omega⟩, rfl⟩

def lowB (b : UInt8) : UInt8 := b % 128
theorem lowB_nat (b : UInt8) : ((lowB b).toNat : Int) = (b.toNat : Int) % 128 := by
  unfold lowB
  rw [UInt8.toNat_mod]
  have : (128 : UInt8).toNat = 128 := rfl
  rw [this]; omega
theorem lowB_lt (b : UInt8) : (lowB b).toNat < 128 := by
  have := lowB_nat b
  omega

set_option maxHeartbeats 2000000 in
set_option maxRecDepth 100000 in
theorem Quoted_true (s t : ByteArray) (w : World) (hs : s.size ≤ 9223372036854775807) (ht : t.size ≤ 9223372036854775807) (hT : Lib.Utf8Tabs 1 2 w) :
    Calls Tryd.prog 5 #[.string s, .string t] w fun e w' => e = .returned (.bool true) ∧ Ex [] w w' := by
  have HT := hide hT
  have htl := tabs_lt hT
  clear hT
  go_enter Tryd.func5, Tryd.ntmps5
  go_wp2_with fail
  refine (short_n s 20 _ (by omega) (by omega)).mono ?_
  rintro e w1 ⟨⟨s0, rfl, hs0⟩, rfl⟩
  have hcv := run_bytes_of_string (P := Tryd.prog) w1 9 31 5 s0 Tryd.underlying9 Tryd.underlying31 Tryd.underlying5
  have hN : BB (w1.drew.alloc (.cells (bytesRow s0 (grownCap w1 s0.size 0 5)) 5 ((bytesRow s0 (grownCap w1 s0.size 0 5)).size, (bytesRow s0 (grownCap w1 s0.size 0 5)).size + 1))) w1.heap.size s0.data.toList := BB.new w1.drew s0 _
  have hlen : s0.data.toList.length = s0.size := (Lib.size_eq s0).symm
  have HN := hide hN
  clear hN
  obtain ⟨cap, hcap⟩ : ∃ cap, grownCap w1 s0.size 0 5 = cap := ⟨_, rfl⟩
  rw [hcap] at hcv HN
  clear hcap
  obtain ⟨l, hl⟩ : ∃ l, s0.data.toList = l := ⟨_, rfl⟩
  rw [hl] at hlen HN
  clear hl
  obtain ⟨W0, hW0⟩ : ∃ W0, w1.drew.alloc (.cells (bytesRow s0 cap) 5 ((bytesRow s0 cap).size, (bytesRow s0 cap).size + 1)) = W0 := ⟨_, rfl⟩
  have HX0 : Hid (Ex [] w1 W0) := by rw [← hW0]; exact ((Ex.refl _ _).drew).alloc _
  rw [hW0] at hcv HN
  clear hW0
  go_wp2_with fail
  go_loopg [6] s0.size (fun gk i6 wr => ∃ (i : Nat) (l' : List UInt8), i + gk = s0.size ∧ i6 = .int .i64 i ∧ l'.length = l.length ∧ (∀ j, l'[j]? = if j < i then (l[j]?).map lowB else l[j]?) ∧ BB wr w1.heap.size l' ∧ Ex [] w1 wr)
  case atStart => exact ⟨0, l, by omega, rfl, rfl, fun j => by simp, HN.out, HX0.out⟩
  case round =>
    obtain ⟨i, l', hgi, rfl, hll, hup, hbb, hx⟩ := hrel
    have HX := hide hx
    have HB := hide hbb
    have HU := hide hup
    have hbl := hbb.lt
    clear hx hbb hup hcv
    cases gk with
    | succ g =>
      have hi : i < l.length := by omega
      have hi' : (i : Int) < (s0.size : Int) := by omega
      have hc := HB.out.cell i (by omega)
      have hf := HB.out.frozen i (by omega)
      have hli : (l'[i]'(by omega)) = l[i] := by
        have h1 := HU.out i
        rw [if_neg (by omega), List.getElem?_eq_getElem (by omega), List.getElem?_eq_getElem hi] at h1
        exact Option.some.inj h1
      rw [hli] at hc
      obtain ⟨b, hb⟩ : ∃ b, l[i] = b := ⟨_, rfl⟩
      rw [hb] at hc
      have hb256 := b.toNat_lt
      have hnext := upd_next hi hll HU.out
      rw [hb] at hnext
      have HNX := hide hnext
      have et := (lowB_nat b).symm
      clear hnext hli
      go_wp2_with fail
      go_roundg g
      case measure => omega
      case rel => exact ⟨i + 1, l'.set i (lowB b), by omega, by simp, by simpa using hll, HNX.out, HB.out.set i _, HX.out.setCell (Or.inr (by simp)) _⟩
    | zero =>
      obtain rfl : i = s0.size := by omega
      have hend : l' = l.map lowB := upd_end (by rw [hlen]; exact HU.out)
      have hback := run_convert_bytes_back (P := Tryd.prog) wr 31 9 5 ⟨w1.heap.size, 0, none⟩ cap l' Tryd.underlying31 Tryd.underlying5 Tryd.underlying9 (fun j hj => by rw [Addr.add_lit, Nat.zero_add]; exact HB.out.cell j hj)
      have hlow : ∀ b ∈ l', b.toNat < 128 := by
        rw [hend]; intro b hb
        obtain ⟨x, _, rfl⟩ := List.mem_map.1 hb
        exact lowB_lt x
      have hlz : l'.length ≤ 20 := by omega
      have hl2 : l'.length = s0.size := by omega
      rw [hl2] at hback
      have HLOW := hide hlow
      clear hend hlow HU HB hll
      obtain ⟨s1, hs1⟩ : ∃ s1 : ByteArray, (⟨l'.toArray⟩ : ByteArray) = s1 := ⟨_, rfl⟩
      have hs1l : s1.data.toList = l' := by rw [← hs1]
      have hs1z : s1.size = l'.length := by rw [Lib.size_eq, hs1l]
      rw [hs1] at hback
      have HS1 := hide hs1l
      clear hs1 hs1l
      go_wp2_with fail
      refine (quoted_any s1 _ (by omega)).mono ?_
      rintro e w2 ⟨⟨q, rfl, hq⟩, n2, rfl⟩
      rw [HS1.out] at hq
      have hqz : q.size ≤ 40 := by rw [Lib.size_eq, hq]; have := qL_len l'; omega
      have HQ := hide hq
      have HX2 := hide (HX.out.drewN n2)
      clear hq hback
      go_wp2_with fail
      refine (is_items q s1 false l' _ (fm_no q l' HQ.out HLOW.out) (by omega) (by omega) (by omega) (tabs_eb HT.out (EB.ofEx HX2.out (by omega)) htl)).mono ?_
      rintro e w3 ⟨rfl, hx3⟩
      have HX3 := hide (HX2.out.trans hx3)
      clear hx3
      rw [mt_eq false s1 l' 0 HLOW.out (by omega), List.drop_zero, HS1.out, eqF_self]
      go_wp2_with fail
      refine (is_items q t false l' _ (fm_no q l' HQ.out HLOW.out) (by omega) (by omega) (by omega) (tabs_eb HT.out (EB.ofEx HX3.out (by omega)) htl)).mono ?_
      rintro e w4 ⟨rfl, hx4⟩
      have HX4 := hide (HX3.out.trans hx4)
      clear hx4
      rw [mt_eq false t l' 0 HLOW.out (by omega), List.drop_zero, eqF_false]
      have hst : (s1.toList == t.toList) = decide (t.data.toList = l') := by
        rw [ByteArray.toList_eq, ByteArray.toList_eq, HS1.out]
        by_cases h : t.data.toList = l'
        · simp [h]
        · have h2 : ¬ l' = t.data.toList := fun e => h e.symm
          simp [h, h2]
      obtain ⟨bb, hbb⟩ : ∃ bb, decide (t.data.toList = l') = bb := ⟨_, rfl⟩
      rw [hbb] at hst ⊢
      clear hbb
      go_wp2_with fail
      have hq4 : (⟨#[40, 63, 105, 41]⟩ ++ q : ByteArray).size = 4 + q.size := by rw [ByteArray.size_append]; rfl
      refine (is_items _ t true l' _ (fm_yes q l' HQ.out HLOW.out (by omega)) (by omega) (by omega) (by omega) (tabs_eb HT.out (EB.ofEx HX4.out (by omega)) htl)).mono ?_
      rintro e w5 ⟨rfl, hx5⟩
      have HX5 := hide (HX4.out.trans hx5)
      clear hx5
      rw [mt_eq true t l' 0 HLOW.out (by omega), List.drop_zero]
      obtain ⟨c, hc⟩ : ∃ c, eqF true t.data.toList l' = c := ⟨_, rfl⟩
      rw [hc]
      have HC := hide hc
      clear hc
      go_wp2_with fail
      refine (turned_any s1 _ (by omega)).mono ?_
      rintro e w6 ⟨rfl, hx6⟩
      have HX6 := hide (HX5.out.trans hx6)
      clear hx6
      go_wp2_with fail
      have hta : (turnA s1).data.toList = l'.map turnB := by unfold turnA; rw [HS1.out]
      have htz : (turnA s1).size ≤ 20 := by rw [Lib.size_eq, hta]; simpa using hlz
      refine (is_items _ (turnA s1) true l' _ (fm_yes q l' HQ.out HLOW.out (by omega)) (by omega) (by omega) (by omega) (tabs_eb HT.out (EB.ofEx HX6.out (by omega)) htl)).mono ?_
      rintro e w7 ⟨rfl, hx7⟩
      have HX7 := hide (HX6.out.trans hx7)
      clear hx7
      rw [mt_eq true (turnA s1) l' 0 HLOW.out (by omega), List.drop_zero, hta, eqF_turn]
      go_wp2_with fail
      go_loopg [16, 17] s1.size (fun gk m16 i17 wq => ∃ (i : Nat) (m : Bool), i + gk = s1.size ∧ m16 = .bool m ∧ i17 = .int .i64 i ∧ (m = true → t.size = s1.size ∧ eqF true (t.data.toList.drop i) (l'.drop i) = c) ∧ (m = false → c = false) ∧ Ex [] w1 wq)
      case atStart =>
        refine ⟨0, _, by omega, rfl, rfl, fun h => ?_, fun h => ?_, HX7.out⟩
        · simp at h
          exact ⟨by omega, by simpa using HC.out⟩
        · simp at h
          have hc := HC.out
          cases c with
          | false => rfl
          | true =>
            have h2 := eqF_len hc
            rw [← Lib.size_eq] at h2
            omega
      case round =>
        obtain ⟨i, m, hgi2, rfl, rfl, hmt, hmf, hxq⟩ := hrel
        have HMT := hide hmt
        have HMF := hide hmf
        have HXQ := hide hxq
        clear hmt hmf hxq
        have done : ∀ (a : Nat) (wz : World), True := fun _ _ => trivial
        clear done
        cases m with
        | false =>
          have hcf : c = false := HMF.out rfl
          subst hcf
          cases bb
          all_goals
            go_wp2_with fail
            all_goals
              go_ret
              exact ⟨rfl, HXQ.out⟩
        | true =>
          obtain ⟨hts, he⟩ := HMT.out rfl
          have HE := hide he
          clear he
          cases gk with
          | zero =>
            obtain rfl : i = s1.size := by omega
            have hct : c = true := by
              rw [← HE.out, List.drop_eq_nil_of_le (by rw [← Lib.size_eq]; omega), List.drop_eq_nil_of_le (by omega)]
              rfl
            subst hct
            cases bb
            all_goals
              go_wp2_with fail
              all_goals
                go_ret
                exact ⟨rfl, HXQ.out⟩
          | succ g =>
            have hi : i < s1.size := by omega
            have hi' : (i : Int) < (s1.size : Int) := by omega
            have hi2 : (i : Int) ≤ (i : Int) + 1 := by omega
            have hi3 : (i : Int) + 1 ≤ (s1.size : Int) := by omega
            have hz1 : (s1.extract i (i + 1)).size = 1 := by rw [size_extract s1 i (i + 1) (by omega)]; omega
            have hti : i < t.size := by omega
            have hti' : (i : Int) < (t.size : Int) := by omega
            have hnx : c = (eqB true (t[i]'hti) (s1[i]'hi) && eqF true (t.data.toList.drop (i + 1)) (l'.drop (i + 1))) := by
              have hl1 : i < t.data.toList.length := by rw [← Lib.size_eq]; omega
              have hl2 : i < l'.length := by omega
              have h1 := HE.out
              rw [List.drop_eq_getElem_cons hl1, List.drop_eq_getElem_cons hl2] at h1
              have h2 : l'[i]'hl2 = s1[i]'hi := by
                have h3 : ∀ (m : List UInt8) (e : s1.data.toList = m) (hm : i < m.length), m[i]'hm = s1[i]'hi := by
                  intro m e hm; subst e; rfl
                exact h3 l' HS1.out hl2
              have h4 : t.data.toList[i]'hl1 = t[i]'hti := rfl
              rw [h2, h4] at h1
              rw [← h1]; rfl
            have HNX := hide hnx
            have HTS := hide hts
            clear hnx hts
            go_wp2_with fail
            refine (turned_any (s1.extract i (i + 1)) _ (by omega)).mono ?_
            rintro e w8 ⟨rfl, hx8⟩
            have HX8 := hide (HXQ.out.trans hx8)
            clear hx8
            have htl2 : (turnA (s1.extract i (i + 1))).data.toList = [turnB (s1[i]'hi)] := by unfold turnA; rw [list_one s1 i hi]; rfl
            have htz2 : (turnA (s1.extract i (i + 1))).size = 1 := by rw [Lib.size_eq, htl2]; rfl
            obtain ⟨x, hx⟩ : ∃ x, turnA (s1.extract i (i + 1)) = x := ⟨_, rfl⟩
            rw [hx] at htl2 htz2 ⊢
            have hx0 : (x[0]'(by omega)) = turnB (s1[i]'hi) := by
              have h3 : ∀ (m : List UInt8) (e : x.data.toList = m) (hm : 0 < m.length), x[0]'(by omega) = m[0]'hm := by
                intro m e hm; subst e; rfl
              exact h3 _ htl2 (by simp)
            have HX0' := hide hx0
            clear hx htl2 hx0
            by_cases heq : (t[i]'hti) = (s1[i]'hi)
            · have e1 : (((t[i]'hti).toNat : Int) == ((s1[i]'hi).toNat : Int)) = true := by rw [heq]; simp
              go_wp2_with fail
              go_quiet (fail)
              go_wp2_with fail
              go_roundg g
              case measure => omega
              case rel =>
                refine ⟨i + 1, true, by omega, rfl, by simp, fun _ => ⟨HTS.out, ?_⟩, fun h => by simp at h, HX8.out.drewN _⟩
                have h1 := HNX.out
                rw [h1, heq]
                simp [eqB]
            · have e1 : (((t[i]'hti).toNat : Int) == ((s1[i]'hi).toNat : Int)) = false := by
                rw [beq_eq_false_iff_ne]; intro e; apply heq; apply UInt8.toNat_inj.1; omega
              go_wp2_with fail
              go_quiet (fail)
              go_wp2_with fail
              go_roundg g
              case measure => omega
              case rel =>
                refine ⟨i + 1, _, by omega, rfl, by simp, fun h => ⟨HTS.out, ?_⟩, fun h => ?_, HX8.out.drewN _⟩
                · have hx0 := HX0'.out
                  have h1 := HNX.out
                  have h2 : (t[i]'hti) = turnB (s1[i]'hi) := by
                    rw [← hx0]; apply UInt8.toNat_inj.1
                    have h3 := eq_of_beq h
                    omega
                  rw [h1]
                  simp [eqB, h2]
                · have hx0 := HX0'.out
                  have h1 := HNX.out
                  have h2 : ¬ (t[i]'hti) = turnB (s1[i]'hi) := by
                    rw [← hx0]; intro e
                    rw [e] at h
                    simp at h
                  rw [h1]
                  simp [eqB, heq, h2]
end Go.Proofs.YtmeffeigamaipaaDoor.Q
