/- retagkeep.Chain answers true, whatever its arguments. -/
import Derived.Test.YtmeffeigamaipabGreatDoorM44
import Derived.Test.YtmeffeigamaipabGreatDoorM49
set_option linter.unusedVariables false
set_option linter.unusedSimpArgs false
namespace Go.Proofs.YtmeffeigamaipabGreatDoor.G
open Go.RowKit

theorem al_own {w : World} {base : Nat} {v : Value} {rs : List AR} (h : w.ownsRow base 37 7 v rs.length (cellsR rs)) : AL w v rs := by
  obtain ⟨p, c, rfl⟩ := own_slice h
  refine ⟨p, c, rfl, fun i r hr => ?_⟩
  have hi := (List.getElem?_eq_some_iff.1 hr).1
  obtain ⟨g, cap, e, _, hg, _, hc, _⟩ := own_cells h (by omega)
  injection e with e1 e2 e3
  refine ⟨g, 0, e1, hg, fun o ho => ?_⟩
  rw [Nat.zero_add, hc (i * 7 + o) (by omega), cellsR_at rs i o r hr ho]
theorem al_take {w : World} {p : Option Addr} {c c' : Nat} {rs : List AR} (h : AL w (.slice p rs.length c) rs) (k : Nat) (hk : k ≤ rs.length) : AL w (.slice p k c') (rs.take k) := by
  obtain ⟨p', c2, e, h⟩ := h
  injection e with e1 e2 e3
  refine ⟨p, c', by rw [List.length_take, Nat.min_eq_left hk], fun i r hr => ?_⟩
  rw [e1]
  refine h i r ?_
  rw [List.getElem?_take] at hr
  split at hr
  · exact hr
  · cases hr
theorem al_drop {w : World} {g c c' : Nat} {rs : List AR} (h : AL w (.slice (some ⟨g, 0, none⟩) rs.length c) rs) (k : Nat) (hk : k ≤ rs.length) : AL w (.slice (some ⟨g, k * 7, none⟩) (rs.length - k) c') (rs.drop k) := by
  obtain ⟨p', c2, e, h⟩ := h
  injection e with e1 e2 e3
  refine ⟨_, c', by rw [List.length_drop], fun i r hr => ?_⟩
  rw [List.getElem?_drop] at hr
  obtain ⟨b, off, h1, h2, h3⟩ := h (k + i) r hr
  rw [← e1] at h1
  injection h1 with h1
  injection h1 with h4 h5 h6
  subst h4
  subst h5
  refine ⟨g, k * 7, rfl, h2, fun o ho => ?_⟩
  rw [← h3 o ho]
  congr 2
  omega
theorem makes_r {w : World} {x : EV} {r : AR} (hp : Pre w x) (h : RuleR w r) : ∃ F, Makes w r F ∧ GoodF F := by
  obtain ⟨k, ss, h1, h2, h3⟩ := h
  obtain ⟨act, p, n, c, se, re, ta, rp, mo⟩ := r
  dsimp only at h1 h2 h3
  subst h1
  subst h2
  exact makes_k hp h3
theorem getElem_of_take {α : Type} {l : List α} {k i : Nat} {a : α} (h : (l.take k)[i]? = some a) : l[i]? = some a := by
  rw [List.getElem?_take] at h
  split at h
  · exact h
  · cases h
theorem FE.asked {w w' : World} {e m mb room lo : Nat} {Fs : List (List Lab → List Lab × Bool)} {m2 mb2 : Nat} (h : FE w e m mb room lo Fs) (hx : Ex [m2, mb2] w w') (h1 : m2 < lo) (h2 : mb2 < lo) (n1 : m2 ≠ e ∧ m2 ≠ m ∧ m2 ≠ mb) (n2 : mb2 ≠ e ∧ mb2 ≠ m ∧ mb2 ≠ mb) : FE w' e m mb room lo Fs :=
  h.step hx (fun k hk => by
    simp only [List.mem_cons, List.not_mem_nil, or_false] at hk
    rcases hk with rfl | rfl
    · exact ⟨h1, n1⟩
    · exact ⟨h2, n2⟩)
theorem GL.asked {w w' : World} {B m2 mb2 : Nat} (h : GL w) (hB : 5 < B) (hx : Ex [m2, mb2] w w') (h1 : B ≤ m2) (h2 : B ≤ mb2) (hl : B ≤ w.heap.size) : GL w' :=
  GL.eb h ((EB.ofEx hx hl).mono (Nat.le_refl _) (fun x hm hlt => by
    simp only [List.mem_cons, List.not_mem_nil, or_false] at hm
    rcases hm with rfl | rfl <;> omega)) hB

structure ChainArgs (w : World) (p : Option Addr) (rl : List AR) (pl : Option Addr) (ll : List Lab) : Prop where
  rls : RLo w p rl
  rn : rl.length ≤ 9223372036854775807
  lbs : SLo w pl ll
  ln : ll.length ≤ 9223372036854775807
  lz : ∀ l ∈ ll, l.1.size ≤ 9223372036854775807 ∧ l.2.size ≤ 9223372036854775807

set_option maxHeartbeats 8000000 in
set_option maxRecDepth 100000 in
theorem chain_any (p : Option Addr) (c : Nat) (rl : List AR) (cut : Int) (pl : Option Addr) (cl : Nat) (ll : List Lab) (ev : EV) (w : World) (ha : ChainArgs w p rl pl ll) (hcut : -9223372036854775808 ≤ cut ∧ cut ≤ 9223372036854775807) (hp : Pre w ev) :
    Calls Tryz.prog 4 #[.slice p rl.length c, .int .i64 cut, .slice pl ll.length cl] w fun x w' => x = .returned (.bool true) ∧ Ex [] w w' := by
  have KR := hide (rules_any p c rl w ha.rls ha.rn)
  have KL := hide (fun (w' : World) (hx : Ex [] w w') => labels_any pl cl ll w' (ha.lbs.ex hx) ha.ln ha.lz)
  have HP := hide hp
  have hpl := hp.gl.2.lt
  obtain ⟨nr, hnr⟩ : ∃ n, n = rl.length := ⟨_, rfl⟩
  obtain ⟨nl, hnl⟩ : ∃ n, n = ll.length := ⟨_, rfl⟩
  rw [← hnr] at KR ⊢
  rw [← hnl] at KL ⊢
  clear ha hp hnr hnl
  go_enter Tryz.func4, Tryz.ntmps4
  go_wp2_with fail
  refine KR.out.mono ?_
  rintro x w1 ⟨v1, rs, rfl, hrs6, hrr, ho1, hx1⟩
  obtain ⟨p1, c1, rfl⟩ := own_slice ho1
  have HRR := hide hrr
  have HO1 := hide ho1
  have HX1 := hide hx1
  obtain ⟨n, hn⟩ : ∃ n, n = rs.length := ⟨_, rfl⟩
  have HN := hide hn
  have hcap : n ≤ c1 := by
    rw [hn]
    rcases ho1.2 with ⟨e, h0⟩ | ⟨g, cap, cur, e, _, _, h3, _⟩
    · injection e with e1 e2 e3; omega
    · injection e with e1 e2 e3; omega
  rw [← hn] at hrs6 ⊢
  clear hrr ho1 hx1 hn
  go_wp2_with fail
  have hw1 : IntKind.i64.wrap ((n : Int) + 1) = (n : Int) + 1 := by rw [IntKind.wrap_i64]; omega
  refine (pick_val cut _ _ (by omega) (by omega) hcut).mono ?_
  rintro x w1' ⟨rfl, hw1'⟩
  rw [hw1']
  clear hw1'
  obtain ⟨k, hk, hkn⟩ := pickI_nat cut ((n : Int) + 1) (by omega)
  rw [← hk]
  have hkn2 : k ≤ n := by omega
  clear hk hkn
  go_wp2_with fail
  refine (KL.out _ HX1.out).mono ?_
  rintro x w2 ⟨v2, ls, rfl, hls, ho2, hx2⟩
  obtain ⟨p2, c2, rfl⟩ := own_slice ho2
  have HLS := hide hls
  have HX2 := hide (HX1.out.trans hx2)
  have HO2 := hide ho2
  have HRR2 : Hid (∀ r ∈ rs, RuleR w2 r) := fun r hr => (HRR.out r hr).ex hx2
  have hal : AL w2 (.slice p1 rs.length c1) rs := (al_own HO1.out).ex0 hx2
  obtain ⟨Fs, hF1, hF2, hF3⟩ := choose_fs (fun r hr => makes_r (HP.out.ex HX2.out) (HRR2.out r hr))
  have HF1 := hide hF1
  have HF2 := hide hF2
  have HF3 := hide hF3
  have HAL := hide hal
  have hp1 : (p1 = none ∧ c1 = 0 ∧ n = 0 ∧ k = 0) ∨ (∃ g, p1 = some ⟨g, 0, none⟩ ∧ c1 = k) ∨ (∃ g, p1 = some ⟨g, 0, none⟩ ∧ k < c1) := by
    rcases HO1.out.2 with ⟨e, h0⟩ | ⟨g, cap, cur, e, _⟩
    · injection e with e1 e2 e3
      have := HN.out
      exact .inl ⟨e1, e3, by omega, by omega⟩
    · injection e with e1 e2 e3
      rcases Nat.lt_or_ge k c1 with h9 | h9
      · exact .inr (.inr ⟨g, e1, h9⟩)
      · exact .inr (.inl ⟨g, e1, by omega⟩)
  have KE := hide (fun (w' : World) (hx : Ex [] w2 w') => engine_fe 2 (.slice p1 rs.length c1) rs Fs w' (HAL.out.ex0 hx) (by have := HN.out; omega) HF1.out (fun i r F hr hF W hW => HF2.out i r F hr hF W (hx.trans hW)))
  have KT := hide (fun (w' : World) (hx : Ex [] w2 w') (c' : Nat) => engine_fe 2 (.slice p1 k c') (rs.take k) (Fs.take k) w' ((al_take HAL.out k (by have := HN.out; omega)).ex0 hx) (by rw [List.length_take]; have := HN.out; omega) (by rw [List.length_take, List.length_take, HF1.out]) (fun i r F hr hF W hW => HF2.out i r F (getElem_of_take hr) (getElem_of_take hF) W (hx.trans hW)))
  have KD := hide (fun (w' : World) (hx : Ex [] w2 w') (vD : Value) (hD : AL w2 vD (rs.drop k)) => engine_fe 2 vD (rs.drop k) (Fs.drop k) w' (hD.ex0 hx) (by rw [List.length_drop]; have := HN.out; omega) (by rw [List.length_drop, List.length_drop, HF1.out]) (fun i r F hr hF W hW => HF2.out (k + i) r F (by rw [List.getElem?_drop] at hr; exact hr) (by rw [List.getElem?_drop] at hF; exact hF) W (hx.trans hW)))
  rw [← show n = rs.length from HN.out] at KE
  have hcutF := runF_cut Fs k (bareL ls)
  obtain ⟨T, hT⟩ : ∃ T, T = Fs.take k := ⟨_, rfl⟩
  obtain ⟨D, hD⟩ : ∃ D, D = Fs.drop k := ⟨_, rfl⟩
  have hTg : ∀ F ∈ T, GoodF F := fun F hF => HF3.out F (by rw [hT] at hF; exact List.mem_of_mem_take hF)
  rw [← hT] at KT hcutF
  rw [← hD] at KD hcutF
  have hlokT := runF_lok T (bareL ls) hTg (bareL_ok ls (by have := HLS.out.1; omega) HLS.out.2).1
  have HCUT := hide hcutF
  have HLKT := hide hlokT
  clear hcutF hT hD hTg hlokT
  obtain ⟨nl2, hnl2⟩ : ∃ x, x = ls.length := ⟨_, rfl⟩
  have HNL := hide hnl2
  rw [← hnl2]
  clear hls hx2 ho2 hF1 hF2 hF3 hal hnl2
  rcases hp1 with ⟨rfl, rfl, rfl, rfl⟩ | ⟨g, rfl, rfl⟩ | ⟨g, rfl, hkc⟩
  case' inl =>
    have HAD : Hid (AL w2 (.slice none 0 0) (rs.drop 0)) := by have h9 := HAL.out; rw [← show 0 = rs.length from HN.out] at h9; exact h9
  case' inr.inl =>
    have HAD : Hid (AL w2 (.slice (some ⟨g, 0, none⟩) 0 0) (rs.drop c1)) := by
      have e9 : rs.drop c1 = [] := List.drop_eq_nil_of_le (by have := HN.out; omega)
      rw [e9]
      exact ⟨_, _, rfl, fun i r h => by simp at h⟩
    have hki : (c1 : Int) ≤ (n : Int) := by omega
    have hci : (n : Int) ≤ (c1 : Int) := by omega
  case' inr.inr =>
    have HAD : Hid (AL w2 (.slice (some ⟨g, k * 7, none⟩) (n - k) (c1 - k)) (rs.drop k)) := by have h9 := al_drop (c' := c1 - k) HAL.out k (by have := HN.out; omega); rw [← show n = rs.length from HN.out] at h9; exact h9
    have hki : (k : Int) ≤ (n : Int) := by omega
    have hci : (n : Int) ≤ (c1 : Int) := by omega
    have hkc2 : ¬ k = c1 := by omega
    have hkc3 : ¬ c1 - k = 0 := by omega
  all_goals
    go_wp2_with fail
    refine (KE.out _ (Ex.refl _ _)).mono ?_
    rintro x w3 ⟨e1, m1, mb1, lo1, rfl, hfe1, he1, hm1, hmb1, hlo1, hx3⟩
    have HX3 := hide hx3
    have HFE1 := hide hfe1
    have hz3 := hx3.size
    clear hx3 hfe1
    go_wp2_with fail
    refine (KT.out _ HX3.out _).mono ?_
    rintro x w4 ⟨e2, m2, mb2, lo2, rfl, hfe2, he2, hm2, hmb2, hlo2, hx4⟩
    have HX4 := hide (HX3.out.trans hx4)
    have HX34 := hide hx4
    have HFE2 := hide hfe2
    have hz4 := hx4.size
    clear hx4 hfe2
    go_wp2_with fail
    refine (KD.out _ HX4.out _ HAD.out).mono ?_
    rintro x w5 ⟨e3, m3, mb3, lo3, rfl, hfe3, he3, hm3, hmb3, hlo3, hx5⟩
    have HX5 := hide (HX4.out.trans hx5)
    have hz5 := hx5.size
    have hz2 := HX2.out.size
    have hfe1 := HFE1.out.step (HX34.out.trans hx5) (by simp)
    have hfe2 := HFE2.out.step hx5 (by simp)
    have b1 := hfe1.elo
    have b2 := hfe1.mlo
    have b3 := hfe1.mblo
    have b4 := HFE1.out.lle
    have c1' := hfe2.elo
    have c2' := hfe2.mlo
    have c3' := hfe2.mblo
    have c4' := HFE2.out.lle
    have d1' := hfe3.elo
    have d2' := hfe3.mlo
    have d3' := hfe3.mblo
    have d4' := hfe3.lle
    have hsl5 : SL w5 (.slice p2 nl2 c2) ls := by rw [HNL.out]; exact (own_sl HO2.out).ex HX5.out (by simp)
    have hls20 : ls.length ≤ 20 := by have := HLS.out.1; omega
    have hgl5 : GL w5 := (HP.out.ex (HX2.out.trans HX5.out)).gl
    have KR1 := hide (relabel_fe e1 m1 mb1 (roomOf 2) lo1 Fs _ ls w5 hfe1 hgl5 hsl5 hls20 HLS.out.2)
    have HFE22 := hide hfe2
    have HFE3 := hide hfe3
    have HSL5 := hide hsl5
    have HGL5 := hide hgl5
    obtain ⟨A, hA⟩ : ∃ A, A = runF Fs (bareL ls) := ⟨_, rfl⟩
    rw [← hA] at KR1
    have HA := hide hA
    obtain ⟨A1, A2⟩ := A
    dsimp only at KR1
    clear hx5 hfe1 hfe2 hfe3 hsl5 hgl5 hA
    go_wp2_with fail
    refine KR1.out.mono ?_
    rintro x w6 ⟨v6, rfl, ha60, ho6, hx6⟩
    obtain ⟨p6, c6, rfl⟩ := own_slice ho6
    have HO6 := hide ho6
    have HX6 := hide hx6
    have hz6 := hx6.size
    have hfe2 := HFE22.out.asked hx6 (by omega) (by omega) ⟨by omega, by omega, by omega⟩ ⟨by omega, by omega, by omega⟩
    have hfe3 := HFE3.out.asked hx6 (by omega) (by omega) ⟨by omega, by omega, by omega⟩ ⟨by omega, by omega, by omega⟩
    have hgl6 := HGL5.out.asked (B := w2.heap.size) (by omega) hx6 (by omega) (by omega) (by omega)
    have hsl6 : SL w6 (.slice p2 nl2 c2) ls := HSL5.out.ex hx6 (fun y hy => by
      have h9 : y < w2.heap.size := by rw [HNL.out] at hy; exact (HO2.out.lt y hy).2
      simp only [List.mem_cons, List.not_mem_nil, or_false]
      omega)
    have KR2 := hide (relabel_fe e2 m2 mb2 (roomOf 2) lo2 T _ ls w6 hfe2 hgl6 hsl6 hls20 HLS.out.2)
    obtain ⟨B, hB⟩ : ∃ B, B = runF T (bareL ls) := ⟨_, rfl⟩
    rw [← hB] at KR2 HLKT
    have hcut2 := HCUT.out
    rw [← show _ = runF Fs (bareL ls) from HA.out, ← hB] at hcut2
    have hbf := runF_false T (bareL ls)
    rw [← hB] at hbf
    have HCUT2 := hide hcut2
    have HBF := hide hbf
    obtain ⟨B1, B2⟩ := B
    dsimp only at KR2 HLKT HCUT2 HBF
    have HFE32 := hide hfe3
    have HGL6 := hide hgl6
    clear hx6 ho6 hfe2 hfe3 hgl6 hsl6 hB hcut2 hbf
    go_wp2_with fail
    refine KR2.out.mono ?_
    rintro x w7 ⟨v7, rfl, hb60, ho7, hx7⟩
    obtain ⟨p7, c7, rfl⟩ := own_slice ho7
    have HO7 := hide ho7
    have HX7 := hide hx7
    have hz7 := hx7.size
    have ho67 := own_ex HO6.out hx7 (fun y hy => by simp only [List.mem_cons, List.not_mem_nil, or_false] at hy; omega)
    have HO67 := hide ho67
    have hfr : Ex [m1, mb1, m2, mb2, m3, mb3] w5 w7 := (HX6.out.drop (by simp <;> omega)).trans (hx7.drop (by simp <;> omega))
    have HFR := hide hfr
    obtain ⟨la, hla⟩ : ∃ x, x = A1.length := ⟨_, rfl⟩
    obtain ⟨lb, hlb⟩ : ∃ x, x = B1.length := ⟨_, rfl⟩
    rw [← hla] at ha60
    rw [← hlb] at hb60
    have HLA := hide hla
    have HLB := hide hlb
    cases B2 with
    | false =>
      have e1 : A1 = [] ∧ A2 = false := by
        have h9 := HCUT2.out
        rw [if_neg (by simp)] at h9
        exact ⟨congrArg Prod.fst h9, congrArg Prod.snd h9⟩
      have e2 : B1 = [] := HBF.out rfl
      obtain rfl : A2 = false := e1.2
      have e3 : la = 0 := by rw [hla, e1.1]; rfl
      have e4 : lb = 0 := by rw [hlb, e2]; rfl
      rw [← hla, ← hlb]
      rw [e3, e4]
      clear hla hlb e1 e2 e3 e4 ho7 hx7 ho67 hfr
      go_wp2_with fail
      go_ret
      refine ⟨rfl, ?_⟩
      exact (((HX2.out.trans HX5.out).drop (by simp)).trans HFR.out).drop (by simp <;> omega)
    | true =>
      have e0 : (A1, A2) = runF D B1 := by
        have h9 := HCUT2.out
        rw [if_pos rfl] at h9
        exact h9
      have HE0 := hide e0
      clear e0
      rw [← hla, ← hlb]
      by_cases h20 : 20 < lb
      · have h20i : (20 : Int) < (lb : Int) := by omega
        clear hla hlb ho7 hx7 ho67 hfr
        go_wp2_with fail
        go_ret
        refine ⟨rfl, ?_⟩
        exact (((HX2.out.trans HX5.out).drop (by simp)).trans HFR.out).drop (by simp <;> omega)
      · have h20i : ¬ (20 : Int) < (lb : Int) := by omega
        have hfe3 := HFE32.out.asked hx7 (by omega) (by omega) ⟨by omega, by omega, by omega⟩ ⟨by omega, by omega, by omega⟩
        have hgl7 := HGL6.out.asked (B := w2.heap.size) (by omega) hx7 (by omega) (by omega) (by omega)
        have hb20 : B1.length ≤ 20 := by omega
        have KR3 := hide (relabel_fe e3 m3 mb3 (roomOf 2) lo3 D _ B1 w7 hfe3 hgl7 (own_sl ho7) hb20 (lok_right HLKT.out))
        rw [bare_lok HLKT.out hb20, ← HE0.out] at KR3
        dsimp only at KR3
        rw [← hlb] at KR3
        clear hla hlb ho7 hx7 ho67 hfr hfe3 hgl7 hb20
        go_wp2_with fail
        refine KR3.out.mono ?_
        rintro x w8 ⟨v8, rfl, _, ho8, hx8⟩
        obtain ⟨p8, c8, rfl⟩ := own_slice ho8
        have hz8 := hx8.size
        have ho68 := own_ex HO67.out hx8 (fun y hy => by simp only [List.mem_cons, List.not_mem_nil, or_false] at hy; omega)
        have HS6 := hide (own_sl ho68)
        have HS8 := hide (own_sl ho8)
        have HX8 : Hid (Ex [] w w8) := (((HX2.out.trans HX5.out).drop (l' := [m1, mb1, m2, mb2, m3, mb3]) (by simp)).trans (HFR.out.trans (hx8.drop (by simp <;> omega)))).drop (by simp <;> omega)
        clear ho8 hx8 ho68
        go_wp2_with fail
        rw [show la = A1.length from HLA.out]
        have hA60 : A1.length ≤ 1000 := by have := HLA.out; omega
        refine (same_yes _ _ A1 w8 HS6.out HS8.out hA60).mono ?_
        rintro x w9 ⟨rfl, nd, rfl⟩
        cases A2
        all_goals
          go_wp2_with fail
          go_ret
          exact ⟨rfl, HX8.out.drewN nd⟩
end Go.Proofs.YtmeffeigamaipabGreatDoor.G
