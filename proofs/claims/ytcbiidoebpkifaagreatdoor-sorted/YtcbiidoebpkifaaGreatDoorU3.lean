/- retagkeep.Sorted answers true, whatever its arguments. -/
import Derived.Test.YtcbiidoebpkifaaGreatDoorM49
set_option linter.unusedVariables false
set_option linter.unusedSimpArgs false
namespace Go.Proofs.YtcbiidoebpkifaaGreatDoor.G
open Go.RowKit

theorem RLo.ex {w w' : World} {p : Option Addr} {rl : List AR} (h : RLo w p rl) (hx : Ex [] w w') : RLo w' p rl := fun i r hr => by
  obtain ⟨⟨b, off, h1, h2, h3⟩, h4⟩ := h i r hr
  exact ⟨⟨b, off, h1, Nat.lt_of_lt_of_le h2 hx.size, fun o ho => (hx.cell0.1 b _ h2).trans (h3 o ho)⟩, h4.ex hx⟩

set_option maxHeartbeats 8000000 in
set_option maxRecDepth 100000 in
theorem sorted_any (p : Option Addr) (c : Nat) (rl : List AR) (pl : Option Addr) (cl : Nat) (ll : List Lab) (ev : EV) (w : World) (ha : ChainArgs w p rl pl ll) (hp : Pre w ev) :
    Calls Tryz.prog 4 #[.slice p rl.length c, .slice pl ll.length cl] w fun x w' => x = .returned (.bool true) ∧ Ex [] w w' := by
  have KL := hide (labels_any pl cl ll w ha.lbs ha.ln ha.lz)
  have KR := hide (fun (w' : World) (hx : Ex [] w w') => rules_any p c rl w' (ha.rls.ex hx) ha.rn)
  have HP := hide hp
  have hpl := hp.gl.2.lt
  obtain ⟨nr, hnr⟩ : ∃ n, n = rl.length := ⟨_, rfl⟩
  obtain ⟨nl, hnl⟩ : ∃ n, n = ll.length := ⟨_, rfl⟩
  rw [← hnr] at KR ⊢
  rw [← hnl] at KL ⊢
  clear ha hp hnr hnl
  go_enter Tryz.func4, Tryz.ntmps4
  go_wp2_with fail
  refine KL.out.mono ?_
  rintro x w1 ⟨v1, ls, rfl, hls, ho1, hx1⟩
  obtain ⟨p1, c1, rfl⟩ := own_slice ho1
  have HLS := hide hls
  have HO1 := hide ho1
  have HX1 := hide hx1
  have hz1 := hx1.size
  obtain ⟨n1, hn1⟩ : ∃ x, x = ls.length := ⟨_, rfl⟩
  have HN1 := hide hn1
  have hn18 : n1 ≤ 8 := by have := hls.1; omega
  rw [← hn1]
  clear hls ho1 hx1 hn1
  go_wp2_with fail
  refine (KR.out _ HX1.out).mono ?_
  rintro x w2 ⟨v2, rs, rfl, hrs6, hrr, ho2, hx2⟩
  obtain ⟨p2, c2, rfl⟩ := own_slice ho2
  have hal := al_own ho2
  have HX2 := hide (HX1.out.trans hx2)
  have HX12 := hide hx2
  obtain ⟨Fs, hF1, hF2, hF3⟩ := choose_fs (fun r hr => makes_r (HP.out.ex HX2.out) (hrr r hr))
  have HF3 := hide hF3
  have KE := hide (engine_fe 1 (.slice p2 rs.length c2) rs Fs w2 hal (by omega) hF1 hF2)
  obtain ⟨n, hn⟩ : ∃ n, n = rs.length := ⟨_, rfl⟩
  rw [← hn] at KE ⊢
  have hz2 := hx2.size
  clear hrr ho2 hx2 hn hrs6 hal hF1 hF2 hF3
  go_wp2_with fail
  refine KE.out.mono ?_
  rintro x w3 ⟨e1, m1, mb1, lo1, rfl, hfe1, he1, hm1, hmb1, hlo1, hx3⟩
  have HX3 := hide hx3
  have HFE1 := hide hfe1
  have hz3 := hx3.size
  clear hx3 hfe1
  go_wp2_with fail
  refine (open_fe 1 w3).mono ?_
  rintro x w4 ⟨e2, m2, mb2, rfl, hfe2, he2, hm2, hmb2, hx4⟩
  have hz4 := hx4.size
  have b1 := HFE1.out.elo
  have b2 := HFE1.out.mlo
  have b3 := HFE1.out.mblo
  have b4 := HFE1.out.lle
  have d1 := hfe2.elo
  have d2 := hfe2.mlo
  have d3 := hfe2.mblo
  have hfe1 := HFE1.out.step hx4 (by simp)
  have HX4 := hide (HX2.out.trans (HX3.out.trans hx4))
  have HX14 := hide (HX12.out.trans (HX3.out.trans hx4))
  have hsl4 : SL w4 (.slice p1 n1 c1) ls := by rw [HN1.out]; exact (own_sl HO1.out).ex HX14.out (by simp)
  have hls20 : ls.length ≤ 20 := by have := HN1.out; omega
  have hgl4 : GL w4 := (HP.out.ex HX4.out).gl
  have hokL := bareL_ok ls hls20 HLS.out.2
  have HOKL := hide hokL
  have HOKA := hide (runF_lok Fs (bareL ls) HF3.out hokL.1)
  have KR1 := hide (relabel_fe e1 m1 mb1 (roomOf 1) lo1 Fs _ ls w4 hfe1 hgl4 hsl4 hls20 HLS.out.2)
  have HFE2 := hide hfe2
  have HSL4 := hide hsl4
  have HGL4 := hide hgl4
  have hAF := runF_false Fs (bareL ls)
  obtain ⟨A, hA⟩ : ∃ A, A = runF Fs (bareL ls) := ⟨_, rfl⟩
  rw [← hA] at KR1 HOKA hAF
  have HAF := hide hAF
  obtain ⟨A1, A2⟩ := A
  dsimp only at KR1 HOKA HAF
  obtain ⟨la, hla⟩ : ∃ x, x = A1.length := ⟨_, rfl⟩
  have HLA := hide hla
  rw [← hla] at KR1
  clear hx4 hfe1 hfe2 hsl4 hgl4 hA hla hokL hAF
  go_wp2_with fail
  refine KR1.out.mono ?_
  rintro x w5 ⟨v5, rfl, ha60, ho5, hx5⟩
  obtain ⟨p5, c5, rfl⟩ := own_slice ho5
  have HO5 := hide ho5
  have HX5 := hide hx5
  have hz5 := hx5.size
  have hfe2 := HFE2.out.asked hx5 (by omega) (by omega) ⟨by omega, by omega, by omega⟩ ⟨by omega, by omega, by omega⟩
  have hgl5 := HGL4.out.asked (B := w2.heap.size) (by omega) hx5 (by omega) (by omega) (by omega)
  have hsl5 : SL w5 (.slice p1 n1 c1) ls := HSL4.out.ex hx5 (fun y hy => by
    have h9 : y < w1.heap.size := by rw [HN1.out] at hy; exact (HO1.out.lt y hy).2
    simp only [List.mem_cons, List.not_mem_nil, or_false]
    omega)
  have KR2 := hide (relabel_fe e2 m2 mb2 (roomOf 1) w4.heap.size [] _ ls w5 hfe2 hgl5 hsl5 hls20 HLS.out.2)
  rw [show runF [] (bareL ls) = (bareL ls, true) from rfl] at KR2
  dsimp only at KR2
  obtain ⟨B, hB⟩ : ∃ B, B = bareL ls := ⟨_, rfl⟩
  have HB := hide hB
  rw [← hB] at KR2 HOKL
  obtain ⟨nb, hnb⟩ : ∃ x, x = B.length := ⟨_, rfl⟩
  have HNB := hide hnb
  rw [← hnb] at KR2
  have hnbl : (nb : Int) ≤ (n1 : Int) := by
    have h8 := bare_len ls hls20 HLS.out.2
    have h9 := HN1.out
    rw [← hB] at h8
    omega
  have HSL5 := hide hsl5
  clear hx5 ho5 hfe2 hgl5 hsl5 hB hnb
  go_wp2_with fail
  refine KR2.out.mono ?_
  rintro x w6 ⟨v6, rfl, hb60, ho6, hx6⟩
  obtain ⟨p6, c6, rfl⟩ := own_slice ho6
  have hz6 := hx6.size
  have ho56 := own_ex HO5.out hx6 (fun y hy => by simp only [List.mem_cons, List.not_mem_nil, or_false] at hy; omega)
  have HX46 : Hid (Ex [m1, mb1, m2, mb2] w4 w6) := (HX5.out.drop (by simp <;> omega)).trans (hx6.drop (by simp <;> omega))
  have HX6 : Hid (Ex [] w w6) := ((HX4.out.drop (by simp)).trans HX46.out).drop (by simp <;> omega)
  have hsl6 : SL w6 (.slice p1 n1 c1) ls := HSL5.out.ex hx6 (fun y hy => by
    have h9 : y < w1.heap.size := by rw [HN1.out] at hy; exact (HO1.out.lt y hy).2
    simp only [List.mem_cons, List.not_mem_nil, or_false]
    omega)
  rw [show la = A1.length from HLA.out] at ho56
  rw [show nb = B.length from HNB.out] at ho6
  have KS1 := hide (sortedK _ A1 ev w6 (HP.out.ex HX6.out) (own_sl ho56) HOKA.out)
  rw [← show la = A1.length from HLA.out] at KS1
  have HSB := hide (own_sl ho6)
  have HSL6 := hide hsl6
  clear ho6 hx6 ho56 hsl6
  go_wp2_with fail
  refine KS1.out.mono ?_
  rintro x w7 ⟨rfl, hx7⟩
  have KS2 := hide (sortedK _ B ev w7 (HP.out.ex (HX6.out.trans hx7)) (HSB.out.ex hx7 (by simp)) HOKL.out.1)
  rw [← show nb = B.length from HNB.out] at KS2
  have HX7 := hide hx7
  clear hx7
  go_wp2_with fail
  refine KS2.out.mono ?_
  rintro x w8 ⟨rfl, hx8⟩
  have HX8 := hide (HX6.out.trans (HX7.out.trans hx8))
  have HSB8 := hide (HSB.out.ex (HX7.out.trans hx8) (by simp))
  have HSL8 := hide (HSL6.out.ex (HX7.out.trans hx8) (by simp))
  rw [show n1 = ls.length from HN1.out] at HSL8
  have KG : Hid (∀ (t : ByteArray) (k : Nat), Calls Tryz.prog 15 #[.slice p6 nb c6, .string t] (w8.drewN k) fun x w' => x = .returned (.string (getM B t)) ∧ w' = w8.drewN k) := fun t k => by
    rw [show nb = B.length from HNB.out]
    exact get_any _ B t (w8.drewN k) (HSB8.out.ex ((Ex.refl [] w8).drewN k) (by simp)) (by have := HOKL.out.1.len; omega)
  have HCELL : Hid (∀ (j : Nat) (l : Lab), ls[j]? = some l → ∃ b, p1 = some ⟨b, 0, none⟩ ∧ b < w8.heap.size ∧ w8.cell? ⟨b, j * 2, none⟩ = some (.string l.1) ∧ w8.cell? ⟨b, j * 2 + 1, none⟩ = some (.string l.2)) := fun j l hl => by
    obtain ⟨b, c', h1, hb, a0, a1⟩ := same_nonempty HSL8.out j l hl
    injection h1 with e1 e2 e3
    exact ⟨b, e1, hb, a0, a1⟩
  have HLAST : Hid (∀ t, lastM ls t n1 = getM B t) := fun t => by
    rw [show n1 = ls.length from HN1.out, show B = bareL ls from HB.out]
    exact (bare_last ls hls20 HLS.out.2 t).symm
  have hA2 : A2 = true ∨ (A2 = false ∧ la = 0) := by
    cases A2 with
    | true => exact .inl rfl
    | false => exact .inr ⟨rfl, by rw [HLA.out, HAF.out rfl]; rfl⟩
  clear hx8
  rcases hA2 with rfl | ⟨rfl, rfl⟩
  all_goals
    go_wp2_with fail
    go_loopg [16] n1 (fun gk i wr => ∃ j : Nat, j + gk = n1 ∧ i = .int .i64 j ∧ ∃ k, wr = w8.drewN k)
    case atStart => exact ⟨0, by omega, rfl, 0, rfl⟩
    case round =>
      obtain ⟨j, hj, rfl, k, rfl⟩ := hrel
      cases gk with
      | zero =>
        obtain rfl : j = n1 := by omega
        clear hj
        go_wp2_with fail
        go_ret
        exact ⟨rfl, HX8.out.drewN _⟩
      | succ g =>
        have hjl : j < ls.length := by rw [← HN1.out]; omega
        have hjn : (j : Int) < (n1 : Int) := by omega
        obtain ⟨⟨t1, t2⟩, hl⟩ : ∃ l, ls[j]? = some l := ⟨_, List.getElem?_eq_getElem hjl⟩
        have HL := hide hl
        obtain ⟨b, rfl, hb, a0, a1⟩ := HCELL.out j _ hl
        dsimp only at a0 a1
        clear hl hjl a1
        go_wp2_with fail
        go_loopg [17, 18] n1 (fun gk s17 i wr => ∃ j' : Nat, j' + gk = n1 ∧ i = .int .i64 j' ∧ s17 = .string (lastM ls t1 j') ∧ ∃ k, wr = w8.drewN k)
        case atStart => exact ⟨0, by omega, rfl, rfl, k, rfl⟩
        case round =>
          obtain ⟨j', hj', rfl, rfl, k', rfl⟩ := hrel
          cases gk with
          | zero =>
            obtain rfl : j' = n1 := by omega
            rw [HLAST.out t1]
            have KG1 := hide (fun k => KG.out t1 k)
            obtain ⟨R, hR⟩ : ∃ R, R = getM B t1 := ⟨_, rfl⟩
            rw [← hR] at KG1 ⊢
            clear hR hj'
            go_wp2_with fail
            refine (KG1.out _).mono ?_
            rintro x w9 ⟨rfl, rfl⟩
            go_wp2_with fail
            go_roundg g
            case measure => omega
            case rel => exact ⟨j + 1, by omega, by simp, _, rfl⟩
          | succ g' =>
            have hjl' : j' < ls.length := by rw [← HN1.out]; omega
            have hjn' : (j' : Int) < (n1 : Int) := by omega
            obtain ⟨⟨q1, q2⟩, hl'⟩ : ∃ l, ls[j']? = some l := ⟨_, List.getElem?_eq_getElem hjl'⟩
            obtain ⟨b'', e9, _, d0, d1⟩ := HCELL.out j' _ hl'
            injection e9 with e9
            injection e9 with e9 _ _
            subst e9
            dsimp only at d0 d1
            have hst := lastM_succ ls t1 j' _ hl'
            dsimp only at hst
            have HST := hide hst
            obtain ⟨L, hL⟩ : ∃ L, L = lastM ls t1 j' := ⟨_, rfl⟩
            have HL' := hide hL
            rw [← hL]
            clear hst hl' hjl' hL
            cases he : (q1.toList == t1.toList) with
            | true =>
              have HR : Hid (lastM ls t1 (j' + 1) = q2) := by have h9 := HST.out; rw [show eqB q1 t1 = true from he, if_pos rfl] at h9; exact h9
              go_wp2_with fail
              go_quiet (fail)
              go_wp2_with fail
              go_roundg g'
              case measure => omega
              case rel => exact ⟨j' + 1, by omega, by simp, by rw [HR.out], _, rfl⟩
            | false =>
              have HR : Hid (lastM ls t1 (j' + 1) = L) := hide (by have h9 := HST.out; rw [show eqB q1 t1 = false from he, if_neg (by simp)] at h9; rw [h9, HL'.out])
              go_wp2_with fail
              go_quiet (fail)
              go_wp2_with fail
              go_roundg g'
              case measure => omega
              case rel => exact ⟨j' + 1, by omega, by simp, by rw [HR.out], _, rfl⟩
end Go.Proofs.YtcbiidoebpkifaaGreatDoor.G
