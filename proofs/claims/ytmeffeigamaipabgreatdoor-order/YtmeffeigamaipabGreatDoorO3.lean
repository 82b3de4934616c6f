/- retagkeep.Order answers true, whatever its arguments. -/
import Derived.Test.YtmeffeigamaipabGreatDoorM42
import Derived.Test.YtmeffeigamaipabGreatDoorM47
import Derived.Test.YtmeffeigamaipabGreatDoorM48
set_option linter.unusedVariables false
set_option linter.unusedSimpArgs false
namespace Go.Proofs.YtmeffeigamaipabGreatDoor.G
open Go.RowKit

theorem al_own {w : World} {base : Nat} {v : Value} {rs : List AR} (h : w.ownsRow base 37 7 v rs.length (cellsR rs)) : AL w v rs := by
  obtain ⟨p, c, rfl⟩ := own_slice h
  refine ⟨p, c, rfl, fun i r hr => ?_⟩
  have hi := (List.getElem?_eq_some_iff.1 hr).1
  obtain ⟨g, cap, e, _, hg, _, hc, _⟩ := own_cells h (by omega)
  injection e with e1 e2 e3
  refine ⟨g, 0, e1, hg, fun o ho => ?_⟩
  rw [Nat.zero_add, hc (i * 7 + o) (by omega), cellsR_at rs i o r hr ho]
theorem makes_r {w : World} {x : EV} {r : AR} (hp : Pre w x) (h : RuleR w r) : ∃ F, Makes w r F ∧ GoodF F := by
  obtain ⟨k, ss, h1, h2, h3⟩ := h
  obtain ⟨act, p, n, c, se, re, ta, rp, mo⟩ := r
  dsimp only at h1 h2 h3
  subst h1
  subst h2
  exact makes_k hp h3
theorem slo_take {w : World} {p : Option Addr} {ls : List Lab} (h : SLo w p ls) (k : Nat) : SLo w p (ls.take k) := fun j l hl => h j l (by
  rw [List.getElem?_take] at hl
  split at hl
  · exact hl
  · cases hl)

structure OrderArgs (w : World) (p : Option Addr) (rl : List AR) (pl : Option Addr) (ll : List Lab) (po : Option Addr) (co : Nat) (oo : List Lab) : Prop where
  rls : RLo w p rl
  rn : rl.length ≤ 9223372036854775807
  lbs : SLo w pl ll
  ln : ll.length ≤ 9223372036854775807
  lz : ∀ l ∈ ll, l.1.size ≤ 9223372036854775807 ∧ l.2.size ≤ 9223372036854775807
  obs : SLo w po oo
  on : oo.length ≤ 9223372036854775807
  oz : ∀ l ∈ oo, l.1.size ≤ 9223372036854775807 ∧ l.2.size ≤ 9223372036854775807
  oc : oo.length ≤ co

set_option maxHeartbeats 8000000 in
set_option maxRecDepth 100000 in
theorem order_any (p : Option Addr) (c : Nat) (rl : List AR) (pl : Option Addr) (cl : Nat) (ll : List Lab) (po : Option Addr) (co : Nat) (oo : List Lab) (cache : Int) (ev : EV) (w : World) (ha : OrderArgs w p rl pl ll po co oo) (hp : Pre w ev) :
    Calls Tryz.prog 3 #[.slice p rl.length c, .slice pl ll.length cl, .slice po oo.length co, .int .i64 cache] w fun x w' => x = .returned (.bool true) ∧ Ex [] w w' := by
  have KR := hide (rules_any p c rl w ha.rls ha.rn)
  have KL' := hide (fun (w' : World) (hx : Ex [] w w') => labels_any pl cl ll w' (ha.lbs.ex hx) ha.ln ha.lz)
  have KO := hide (fun (w' : World) (hx : Ex [] w w') (k c' : Nat) => labels_any po c' (oo.take k) w' (slo_take (ha.obs.ex hx) k) (by rw [List.length_take]; have := ha.on; omega) (fun l hl => ha.oz l (List.mem_of_mem_take hl)))
  have hoc := ha.oc
  have hpo : 0 < oo.length → ∃ b o, po = some ⟨b, o, none⟩ := fun h => by
    obtain ⟨b, o, h1, _⟩ := ha.obs 0 _ (List.getElem?_eq_getElem h)
    exact ⟨b, o, h1⟩
  have HP := hide hp
  have hpl := hp.gl.2.lt
  obtain ⟨nr, hnr⟩ : ∃ n, n = rl.length := ⟨_, rfl⟩
  obtain ⟨nl, hnl⟩ : ∃ n, n = ll.length := ⟨_, rfl⟩
  obtain ⟨no, hno⟩ : ∃ n, n = oo.length := ⟨_, rfl⟩
  have HNO := hide hno
  rw [← hnr] at KR ⊢
  rw [← hnl] at KL' ⊢
  rw [← hno] at hoc hpo ⊢
  clear ha hp hnr hnl hno
  go_enter Tryz.func3, Tryz.ntmps3
  go_wp2_with fail
  refine KR.out.mono ?_
  rintro x w1 ⟨v1, rs, rfl, hrs6, hrr, ho1, hx1⟩
  obtain ⟨p1, c1, rfl⟩ := own_slice ho1
  have hal := al_own ho1
  obtain ⟨Fs, hF1, hF2, hF3⟩ := choose_fs (fun r hr => makes_r (HP.out.ex hx1) (hrr r hr))
  have KE := hide (fun (w' : World) (hx : Ex [] w1 w') (ch : Int) => engine_fe ch (.slice p1 rs.length c1) rs Fs w' (hal.ex0 hx) (by omega) hF1 (fun i r F hr hF W hW => hF2 i r F hr hF W (hx.trans hW)))
  have HX1 := hide hx1
  have hz1 := hx1.size
  obtain ⟨n, hn⟩ : ∃ n, n = rs.length := ⟨_, rfl⟩
  rw [← hn] at KE ⊢
  clear hrr ho1 hx1 hn hrs6 hal hF1 hF2 hF3
  go_wp2_with fail
  refine (KE.out _ (Ex.refl _ _) cache).mono ?_
  rintro x w2 ⟨e1, m1, mb1, lo1, rfl, hfe1, he1, hm1, hmb1, hlo1, hx2⟩
  have HX2 := hide hx2
  have HFE1 := hide hfe1.ne
  have hz2 := hx2.size
  clear hx2 hfe1
  go_wp2_with fail
  refine (KE.out _ HX2.out 1).mono ?_
  rintro x w3 ⟨e2, m2, mb2, lo2, rfl, hfe2, he2, hm2, hmb2, hlo2, hx3⟩
  have HX3 := hide hx3
  have HFE2 := hide hfe2.ne
  have HFE12 := hide (HFE1.out.step hx3 (by simp))
  have hz3 := hx3.size
  clear hx3 hfe2
  go_wp2_with fail
  refine (open_fe 1 w3).mono ?_
  rintro x w4 ⟨e3, m3, mb3, rfl, hfe3, he3, hm3, hmb3, hx4⟩
  have HX4 := hide (HX1.out.trans (HX2.out.trans (HX3.out.trans hx4)))
  have HFE3 := hide hfe3.ne
  have HFE13 := hide (HFE12.out.step hx4 (by simp))
  have HFE23 := hide (HFE2.out.step hx4 (by simp))
  have hz4 := hx4.size
  clear hx4 hfe3
  go_wp2_with fail
  refine (KL'.out _ HX4.out).mono ?_
  rintro x w5 ⟨v5, ls, rfl, hls, ho5, hx5⟩
  obtain ⟨p5, c5, rfl⟩ := own_slice ho5
  have hls20 : ls.length ≤ 20 := by have := hls.1; omega
  have HFE14 := hide (HFE13.out.step hx5 (by simp))
  have HFE24 := hide (HFE23.out.step hx5 (by simp))
  have HFE34 := hide (HFE3.out.step hx5 (by simp))
  have HX5 := hide (HX4.out.trans hx5)
  have hz5 := hx5.size
  have HLS := hide hls
  have KB := hide (relabel_fe e3 m3 mb3 (roomOf 1) w4.heap.size [] _ ls w5 HFE34.out.fe (HP.out.ex HX5.out).gl (own_sl ho5) hls20 hls.2)
  obtain ⟨hok, hl20⟩ := bareL_ok ls hls20 hls.2
  obtain ⟨L, hL⟩ : ∃ L, L = bareL ls := ⟨_, rfl⟩
  rw [← hL] at KB hok hl20
  have eL0 : runF [] L = (L, true) := rfl
  rw [eL0] at KB
  dsimp only at KB
  have HOK := hide hok
  have hb4 := HFE34.out.elo
  have hb5 := HFE34.out.mlo
  have hb6 := HFE34.out.mblo
  have hb1 := HFE24.out.elo
  have hb2 := HFE24.out.mlo
  have hb3 := HFE24.out.mblo
  have hbl2 := HFE2.out.lle
  have ha1 := HFE14.out.elo
  have ha2 := HFE14.out.mlo
  have ha3 := HFE14.out.mblo
  have hal2 := HFE1.out.lle
  obtain ⟨nls, hnls⟩ : ∃ x, x = ls.length := ⟨_, rfl⟩
  rw [← hnls]
  rw [← hnls] at KB
  clear hls ho5 hx5 hL hok eL0 hnls
  go_wp2_with fail
  refine KB.out.mono ?_
  rintro x w6 ⟨v6, rfl, hL60, ho6, hx6⟩
  obtain ⟨p6, c6, rfl⟩ := own_slice ho6
  have hz6 := hx6.size
  have HFE15 := hide (HFE14.out.step hx6 (fun k hk => by simp only [List.mem_cons, List.not_mem_nil, or_false] at hk; omega))
  have HFE25 := hide (HFE24.out.step hx6 (fun k hk => by simp only [List.mem_cons, List.not_mem_nil, or_false] at hk; omega))
  have HX6 : Hid (Ex [] w w6) := ((HX5.out.drop (by simp)).trans hx6).drop (fun y hy hlt => by simp only [List.mem_cons, List.not_mem_nil, or_false] at hy; omega)
  have HO6 := hide ho6
  have KF := hide (relabel_fe e2 m2 mb2 (roomOf 1) lo2 Fs _ L w6 HFE25.out.fe (HP.out.ex HX6.out).gl (own_sl ho6) hl20 (lok_right HOK.out))
  rw [bare_lok HOK.out hl20] at KF
  obtain ⟨A, hA⟩ : ∃ A, A = runF Fs L := ⟨_, rfl⟩
  rw [← hA] at KF
  have HA := hide hA
  obtain ⟨A1, A2⟩ := A
  dsimp only at KF
  obtain ⟨nL, hnL⟩ : ∃ x, x = L.length := ⟨_, rfl⟩
  have HNL := hide hnL
  rw [← hnL]
  rw [← hnL] at KF
  clear ho6 hx6 hA hnL
  go_wp2_with fail
  refine KF.out.mono ?_
  rintro x w7 ⟨v7, rfl, hA60, ho7, hx7⟩
  obtain ⟨p7, c7, rfl⟩ := own_slice ho7
  have hz7 := hx7.size
  have HOE7 : Hid (OE w.heap.size w7 e1 Fs) := (HFE15.out.step hx7 (fun k hk => by simp only [List.mem_cons, List.not_mem_nil, or_false] at hk; omega)).fe.oe (by omega) (by omega) (by omega)
  have HX7 : Hid (Ex [] w w7) := ((HX6.out.drop (by simp)).trans hx7).drop (fun y hy hlt => by simp only [List.mem_cons, List.not_mem_nil, or_false] at hy; omega)
  have HO67 := hide (own_ex HO6.out hx7 (fun y hy => by simp only [List.mem_cons, List.not_mem_nil, or_false] at hy; omega))
  have HO7 := hide ho7
  obtain ⟨nA, hnA⟩ : ∃ x, x = A1.length := ⟨_, rfl⟩
  have HNA := hide hnA
  rw [← hnA] at hA60 ⊢
  clear ho7 hx7 hnA
  go_wp2_with fail
  obtain ⟨N, hN⟩ : ∃ N, N = min no 6 := ⟨_, rfl⟩
  have hN6 : N ≤ 6 := by omega
  have hNo : N ≤ no := by omega
  have hNe : N < 6 → N = no := by omega
  have HNe := hide hNe
  clear hN hNe
  go_loopg [19] N (fun gk i wr => ∃ j : Nat, j + gk = N ∧ i = .int .i64 j ∧ OE w.heap.size wr e1 Fs ∧ Ex [] w wr ∧ KL w7 wr)
  case atStart => exact ⟨0, by omega, rfl, HOE7.out, HX7.out, KL.refl _⟩
  case round =>
    obtain ⟨j, hj, rfl, hoe, hx, hk⟩ := hrel
    have HOE := hide hoe
    have HX := hide hx
    have HK := hide hk
    have hwz := hx.size
    clear hoe hx hk
    cases gk with
    | succ g =>
      have hj6 : (j : Int) < 6 := by omega
      have hjn : (j : Int) < (no : Int) := by omega
      have hjc : (j : Int) ≤ (co : Int) := by omega
      obtain ⟨b, o, rfl⟩ := hpo (by omega)
      have hjt : (oo.take j).length = j := by rw [List.length_take, ← HNO.out]; omega
      have KOj := hide (fun (c' : Nat) => KO.out _ HX.out j c')
      rw [hjt] at KOj
      clear hjt
      go_wp2_with fail
      refine (KOj.out _).mono ?_
      rintro x w8 ⟨v8, ks, rfl, hks, ho8, hx8⟩
      have KA := hide ((HOE.out.ex0 hx8).ask _ ks (HP.out.ex (HX.out.trans hx8)).gl (own_sl ho8) (by have := hks.1; omega) hks.2)
      obtain ⟨p8, c8, rfl⟩ := own_slice ho8
      have HX8 := hide (HX.out.trans hx8)
      have HK8 := hide (HK.out.trans (KL.ex0 hx8))
      obtain ⟨R8, hR8⟩ : ∃ R8, R8 = runF Fs (bareL ks) := ⟨_, rfl⟩
      rw [← hR8] at KA
      obtain ⟨n8, hn8⟩ : ∃ x, x = ks.length := ⟨_, rfl⟩
      rw [← hn8] at KA ⊢
      clear hks ho8 hx8 hR8 hn8
      go_wp2_with fail
      refine KA.out.mono ?_
      rintro x w9 ⟨v9, rfl, _, _, hoe9, hx9, hk9⟩
      have HOE9 := hide hoe9
      have HX9 := hide (EB.exs HX8.out hx9)
      have HK9 := hide (HK8.out.trans hk9)
      clear hoe9 hx9 hk9
      go_wp2_with fail
      go_roundg g
      case measure => omega
      case rel => exact ⟨j + 1, by omega, by simp, HOE9.out, HX9.out, HK9.out⟩
    | zero =>
      obtain rfl : j = N := by omega
      have HO68 := hide (HK.out.own HO67.out)
      have HT := hide (turnedRound_any (.slice p6 L.length c6) L _ (own_sl HO68.out) (by omega))
      rw [← show nL = L.length from HNL.out] at HT HO68
      have hex : no = j ∨ (j = 6 ∧ j < no) := by have := HNe.out; omega
      rcases hex with hex | ⟨hex1, hex2⟩
      case' inl =>
        have hne1 : ¬ (j : Int) < (no : Int) := by omega
      case' inr =>
        have hne1 : (j : Int) < (no : Int) := by omega
        have hne2 : ¬ (j : Int) < 6 := by omega
      all_goals
        go_wp2_with fail
        refine HT.out.mono ?_
        rintro x w8 ⟨v8, rfl, ho8, hx8⟩
        have ho8' : w8.ownsRow wr.heap.size 48 2 v8 L.reverse.length (cellsOfL L.reverse) := by rw [List.length_reverse, ← show nL = L.length from HNL.out]; exact ho8
        have KA := hide ((HOE.out.ex0 hx8).ask _ L.reverse (HP.out.ex (HX.out.trans hx8)).gl (own_sl ho8') (by rw [List.length_reverse]; exact hl20) (rev_right (lok_right HOK.out)))
        rw [bare_rev HOK.out hl20, ← HA.out] at KA
        dsimp only at KA
        rw [← show nA = A1.length from HNA.out] at KA
        obtain ⟨p8, c8, rfl⟩ := own_slice ho8
        have HX8 := hide (HX.out.trans hx8)
        have HK8 := hide (HK.out.trans (KL.ex0 hx8))
        clear ho8 ho8' hx8
        go_wp2_with fail
        refine KA.out.mono ?_
        rintro x w9 ⟨v9, rfl, _, ho9, hoe9, hx9, hk9⟩
        obtain ⟨p9, c9, rfl⟩ := own_slice ho9
        have HO9 := hide ho9
        have HOE9 := hide hoe9
        have HX9 := hide (EB.exs HX8.out hx9)
        have HK9 := hide (HK8.out.trans hk9)
        clear ho9 hoe9 hx9 hk9
        go_wp2_with fail
        refine (load_refused e1 _ _ (HP.out.ex (HX9.out.alloc _)) (BK.new _ _)).mono ?_
        rintro x w10 ⟨rfl, hx10⟩
        have hx910 : Ex [] w9 w10 := ((Ex.refl _ _).alloc _).trans hx10
        have HX10 := hide (HX9.out.trans hx910)
        have HK10 := hide (HK9.out.trans (KL.ex0 hx910))
        have HO10 := hide ((KL.ex0 hx910).own HO9.out)
        have KA2 := hide ((HOE9.out.ex0 hx910).ask (.slice p6 L.length c6) L (HP.out.ex HX10.out).gl (own_sl (HK10.out.own HO67.out)) hl20 (lok_right HOK.out))
        rw [bare_lok HOK.out hl20, ← HA.out] at KA2
        dsimp only at KA2
        rw [← show nA = A1.length from HNA.out, ← show nL = L.length from HNL.out] at KA2
        clear hx10 hx910
        go_wp2_with fail
        refine KA2.out.mono ?_
        rintro x w11 ⟨v11, rfl, _, ho11, hoe11, hx11, hk11⟩
        obtain ⟨p11, c11, rfl⟩ := own_slice ho11
        have HO11 := hide ho11
        have HOE11 := hide hoe11
        have HX11 := hide (EB.exs HX10.out hx11)
        have HK11 := hide (HK10.out.trans hk11)
        have HO9b := hide (hk11.own HO10.out)
        clear ho11 hoe11 hx11 hk11
        go_wp2_with fail
        refine HOE11.out.flush.mono ?_
        rintro x w12 ⟨rfl, hoe12, hx12, hk12⟩
        have HX12 := hide (EB.exs HX11.out hx12)
        have HK12 := hide (HK11.out.trans hk12)
        have HO9c := hide (hk12.own HO9b.out)
        have HO11c := hide (hk12.own HO11.out)
        have KA3 := hide (hoe12.ask (.slice p6 L.length c6) L (HP.out.ex HX12.out).gl (own_sl (HK12.out.own HO67.out)) hl20 (lok_right HOK.out))
        rw [bare_lok HOK.out hl20, ← HA.out] at KA3
        dsimp only at KA3
        rw [← show nA = A1.length from HNA.out, ← show nL = L.length from HNL.out] at KA3
        clear hoe12 hx12 hk12
        go_wp2_with fail
        refine KA3.out.mono ?_
        rintro x w13 ⟨v13, rfl, _, ho13, _, hx13, hk13⟩
        obtain ⟨p13, c13, rfl⟩ := own_slice ho13
        have HX13 := hide (EB.exs HX12.out hx13)
        have hA1000 : A1.length ≤ 1000 := by have := HNA.out; omega
        have ho7d := (HK12.out.trans hk13).own HO7.out
        have ho9d := hk13.own HO9c.out
        have ho11d := hk13.own HO11c.out
        rw [show nA = A1.length from HNA.out] at ho9d ho11d ho13
        have HS1 := hide (same_yes _ _ A1 w13 (own_sl ho7d) (own_sl ho9d) hA1000)
        have HS2 := hide (fun n => same_yes _ _ A1 (w13.drewN n) (own_sl (own_drewN ho7d n)) (own_sl (own_drewN ho11d n)) hA1000)
        have HS3 := hide (fun n => same_yes _ _ A1 (w13.drewN n) (own_sl (own_drewN ho7d n)) (own_sl (own_drewN ho13 n)) hA1000)
        rw [← show nA = A1.length from HNA.out] at HS1 HS2 HS3
        clear ho13 hx13 hk13 ho7d ho9d ho11d
        go_wp2_with fail
        refine HS1.out.mono ?_
        rintro x w14 ⟨rfl, n14, rfl⟩
        go_wp2_with fail
        refine (HS2.out n14).mono ?_
        rintro x w15 ⟨rfl, n15, rfl⟩
        go_wp2_with fail
        refine (HS3.out _).mono ?_
        rintro x w16 ⟨rfl, n16, rfl⟩
        cases A2
        all_goals
          go_wp2_with fail
          go_ret
          exact ⟨rfl, HX13.out.drewN _⟩
end Go.Proofs.YtmeffeigamaipabGreatDoor.G
