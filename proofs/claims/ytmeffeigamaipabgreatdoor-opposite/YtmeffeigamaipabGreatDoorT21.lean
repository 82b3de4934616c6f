/- The statement Opposite. -/
import Derived.Test.YtmeffeigamaipabGreatDoorM44
set_option linter.unusedVariables false
set_option linter.unusedSimpArgs false
namespace Go.Proofs.YtmeffeigamaipabGreatDoor.G
open Go.RowKit

theorem tdiv11 (a : Int) (ha : -9223372036854775808 ≤ a ∧ a ≤ 9223372036854775807) : -9223372036854775808 ≤ a.tdiv 11 * 11 ∧ a.tdiv 11 * 11 ≤ 9223372036854775807 := by
  rcases Int.lt_or_le a 0 with h | h
  · have h1 : a.tdiv 11 = -((-a) / 11) := by rw [← Int.tdiv_eq_ediv_of_nonneg (by omega : 0 ≤ -a), Int.neg_tdiv, Int.neg_neg]
    omega
  · rw [Int.tdiv_eq_ediv_of_nonneg h]; omega
/-- Raw labels and a raw rule, as they are handed in. -/
structure Raw (w : World) (rp0 : Option Addr) (rs : List ByteArray) (rse rre rta rrp : ByteArray) (pl : Option Addr) (rl : List Lab) : Prop where
  row : SSo w rp0 rs
  len : rs.length ≤ 9223372036854775807
  siz : ∀ s ∈ rs, s.size ≤ 9223372036854775807
  se : rse.size ≤ 9223372036854775807
  re : rre.size ≤ 9223372036854775807
  ta : rta.size ≤ 9223372036854775807
  rp : rrp.size ≤ 9223372036854775807
  lab : SLo w pl rl
  lln : rl.length ≤ 9223372036854775807
  lsz : ∀ l ∈ rl, l.1.size ≤ 9223372036854775807 ∧ l.2.size ≤ 9223372036854775807

set_option maxHeartbeats 16000000 in
set_option maxRecDepth 100000 in
theorem opposite_any (a : Int) (rp0 : Option Addr) (rc : Nat) (rs : List ByteArray) (rse rre rta rrp : ByteArray) (rmo : Int) (pl : Option Addr) (cl : Nat) (rl : List Lab) (x : EV) (w : World) (ha : -9223372036854775808 ≤ a ∧ a ≤ 9223372036854775807) (hraw : Raw w rp0 rs rse rre rta rrp pl rl) (hp : Pre w x) :
    Calls Tryz.prog 5 #[ruleV a (.slice rp0 rs.length rc) rse rre rta rrp rmo, .slice pl rl.length cl] w fun y w' => y = .returned (.bool true) ∧ Ex [] w w' := by
  have HRAW := hide hraw
  have HP := hide hp
  obtain ⟨n, hnn⟩ : ∃ n, n = rs.length := ⟨_, rfl⟩
  obtain ⟨nl, hnl⟩ : ∃ nl, nl = rl.length := ⟨_, rfl⟩
  have HNN := hide hnn
  have HNL := hide hnl
  have hd1 := (tdiv11 a ha).1
  have hd2 := (tdiv11 a ha).2
  have hpk := pick_eleven a
  have KL := hide (fun (w' : World) (hx : Ex [] w w') => labels_any pl cl rl w' (hraw.lab.ex hx) hraw.lln hraw.lsz)
  have KRU := hide (fun (w' : World) (hs : SSo w' rp0 rs) => rule_opp (a.tdiv 11 * 11) rp0 rc rs rse rre rta rrp rmo w' ⟨hd1, hd2⟩ hpk hs hraw.len hraw.siz hraw.se hraw.ta hraw.re hraw.rp)
  rw [← hnl] at KL ⊢
  rw [← hnn] at KRU ⊢
  unfold ruleV at *
  clear hraw hp hnn hnl hpk
  go_enter Tryz.func5, Tryz.ntmps5
  go_wp2_with fail
  refine (KL.out _ ((Ex.refl _ _).alloc _)).mono ?_
  rintro y w1 ⟨v5, ls, rfl, hls, ho5, hx1⟩
  obtain ⟨p5, c5, rfl⟩ := own_slice ho5
  have hb1 : BK w1 w.heap.size (.cells #[.int .i64 a, .slice rp0 n rc, .string rse, .string rre, .string rta, .string rrp, .int .u64 rmo] 37 (0, 0)) := (BK.new _ _).ex hx1 (by simp)
  have hz1 := hx1.size
  simp only [World.size_alloc] at hz1
  have HX1 := hide (((Ex.refl [] w).alloc _).trans hx1)
  have HB1 := hide hb1
  have HO5 := hide ho5
  have HLS := hide hls
  clear hb1 hx1 ho5 hls
  go_wp2_with fail
  refine (open_fe 1 w1).mono ?_
  rintro y w2 ⟨e0, m0, mb0, rfl, hfe, he1, he2, he3, hx2⟩
  have hz2 := hx2.size
  have hsl2 : SL w2 (.slice p5 ls.length c5) ls := own_sl (own_ex HO5.out hx2 (by simp))
  have KB0 := hide (relabel_fe e0 m0 mb0 (roomOf 1) w2.heap.size [] (.slice p5 ls.length c5) ls w2 hfe ((HP.out.ex (HX1.out.trans hx2)).gl) hsl2 (by have := HLS.out.1; omega) HLS.out.2)
  obtain ⟨bl, hbl⟩ : ∃ bl, bl = bareL ls := ⟨_, rfl⟩
  rw [show runF [] (bareL ls) = (bareL ls, true) from rfl, ← hbl] at KB0
  dsimp only at KB0
  have hblok := bareL_ok ls (by have := HLS.out.1; omega) HLS.out.2
  rw [← hbl] at hblok
  have HBL := hide hbl
  have HBLOK := hide hblok
  have HFE := hide hfe
  have HX2 := hide hx2
  have HSL2 := hide hsl2
  clear hfe hx2 hsl2 hbl hblok
  go_wp2_with fail
  refine KB0.out.mono ?_
  rintro y w3 ⟨v7, rfl, hl7, ho7, hx3⟩
  obtain ⟨p7, c7, rfl⟩ := own_slice ho7
  have hz3 := hx3.size
  have hrow5 := fun k hk => HO5.out.lt k hk
  have hb3 := (HB1.out.ex HX2.out (by simp)).ex hx3 (by simp; omega)
  have hx03 : Ex [] w w3 := (((HX1.out.trans HX2.out).drop (l' := [m0, mb0]) (by simp)).trans hx3).drop (fun y hy hlt => by simp at hy; omega)
  have hsl3 : SL w3 (.slice p5 ls.length c5) ls := HSL2.out.ex hx3 (fun k hk => by have := hrow5 k hk; simp; omega)
  have HX03 := hide hx03
  have HSL3 := hide hsl3
  have HB3 := hide hb3
  have HO7 := hide ho7
  obtain ⟨hc0, hf0⟩ := hb3.all
  have hl0 := hb3.lt
  have hss3 : SSo (w3.setCell ⟨w.heap.size, 0, none⟩ (.int .i64 (a.tdiv 11 * 11))) rp0 rs := HRAW.out.row.ex (o := [w.heap.size]) ((hx03.drop (by simp)).setCell (Or.inl (by simp)) _) (by simp)
  have HSS3 := hide hss3
  clear hx3 hx03 hsl3 hb3 ho7 hss3 hrow5
  go_wp2_with fail
  refine (KRU.out _ HSS3.out).mono ?_
  rintro y w4 ⟨k, p, c, ss, se, re, ta, rp, rfl, hrok, hx4⟩
  have hz4 := hx4.size
  have hz4' : w3.heap.size ≤ w4.heap.size := by simpa using hz4
  have hx34 : Ex [w.heap.size] w3 w4 := ((Ex.refl _ _).setCell (Or.inl (by simp)) _).trans (hx4.drop (by simp))
  have hx04 : Ex [] w w4 := ((HX03.out.drop (by simp)).trans hx34).drop (fun y hy hlt => by simp at hy; omega)
  have hsl4 : SL w4 (.slice p5 ls.length c5) ls := HSL3.out.ex hx34 (fun k hk => by have := (HO5.out.lt k hk).1; simp at this ⊢; omega)
  have hsw4 : SL w4 (.slice p7 bl.length c7) bl := own_sl (own_ex HO7.out hx34 (fun y hy => by simp at hy; omega))
  obtain ⟨ns, hns⟩ : ∃ ns, ns = ss.length := ⟨_, rfl⟩
  have HNS := hide hns
  rw [← hns]
  have HROK := hide hrok
  have HX04 := hide hx04
  have HSL4 := hide hsl4
  have HSW4 := hide hsw4
  obtain ⟨sl5, hsl5⟩ : ∃ sl5, sl5 = ls.length := ⟨_, rfl⟩
  obtain ⟨sl7, hsl7⟩ : ∃ sl7, sl7 = bl.length := ⟨_, rfl⟩
  rw [← hsl5, ← hsl7]
  have HSL5 := hide hsl5
  have HSL7 := hide hsl7
  clear hrok hx4 hx34 hx04 hsl4 hsw4 hns hc0 hf0 hsl5 hsl7
  obtain ⟨M, hM⟩ : ∃ M, M = (matchM (patC re) (textN bl ss se)).isSome := ⟨_, rfl⟩
  have e1 : runF [F1 ss se re] bl = if M then (bl, true) else ([], false) := by rw [hM]; rfl
  have e2 : runF [F2 ss se re] bl = if !M then (bl, true) else ([], false) := by rw [hM]; rfl
  obtain ⟨E, hE⟩ : ∃ E, E = eqB (textN bl ss se) (valN bl aT) := ⟨_, rfl⟩
  have e3 : runF [F3 ss se aT] bl = if E then (bl, true) else ([], false) := by rw [hE]; rfl
  have e4 : runF [F4 ss se aT] bl = if !E then (bl, true) else ([], false) := by rw [hE]; rfl
  have KP1 := hide (fun (W : World) (hx : Ex [] w4 W) => pair_any ⟨1, p, ss.length, c, se, re, nil0, nil0, 0⟩ ⟨2, p, ss.length, c, se, re, nil0, nil0, 0⟩ (F1 ss se re) (F2 ss se re) (.slice p5 ls.length c5) ls W (mk1 (HP.out.ex (HX04.out.trans hx)) (HROK.out.ex hx)) (mk2 (HP.out.ex (HX04.out.trans hx)) (HROK.out.ex hx)) (HP.out.ex (HX04.out.trans hx)).gl (HSL4.out.ex hx (by simp)) (by have := HLS.out.1; omega) HLS.out.2)
  have KP2 := hide (fun (W : World) (hx : Ex [] w4 W) => pair_any ⟨3, p, ss.length, c, se, nil0, aT, nil0, 0⟩ ⟨4, p, ss.length, c, se, nil0, aT, nil0, 0⟩ (F3 ss se aT) (F4 ss se aT) (.slice p5 ls.length c5) ls W (mk3 (HP.out.ex (HX04.out.trans hx)) (HROK.out.ex hx)) (mk4 (HP.out.ex (HX04.out.trans hx)) (HROK.out.ex hx)) (HP.out.ex (HX04.out.trans hx)).gl (HSL4.out.ex hx (by simp)) (by have := HLS.out.1; omega) HLS.out.2)
  have KP3 := hide (fun (W : World) (hx : Ex [] w4 W) => pair_any ⟨8, none, 0, 0, nil0, re, nil0, nil0, 0⟩ ⟨7, none, 0, 0, nil0, re, nil0, nil0, 0⟩ (F8 re) (F7 re) (.slice p5 ls.length c5) ls W (mk8 (HP.out.ex (HX04.out.trans hx)) HROK.out.pat) (mk7 (HP.out.ex (HX04.out.trans hx)) HROK.out.pat) (HP.out.ex (HX04.out.trans hx)).gl (HSL4.out.ex hx (by simp)) (by have := HLS.out.1; omega) HLS.out.2)
  rw [← HNS.out, ← HSL5.out, ← HBL.out] at KP1 KP2
  rw [← HSL5.out, ← HBL.out] at KP3
  rw [e1, e2] at KP1
  rw [e3, e4] at KP2
  obtain ⟨A, hA⟩ : ∃ A, A = bl.filter (fun l => (matchM (patC re) l.1).isSome) := ⟨_, rfl⟩
  obtain ⟨B, hB⟩ : ∃ B, B = bl.filter (fun l => !(matchM (patC re) l.1).isSome) := ⟨_, rfl⟩
  rw [show runF [F8 re] bl = (A, true) by rw [hA]; rfl, show runF [F7 re] bl = (B, true) by rw [hB]; rfl] at KP3
  unfold AR.val ruleV nil0 at KP1 KP3
  unfold AR.val ruleV nil0 aT at KP2
  dsimp only at KP1 KP2 KP3
  have HA := hide hA
  have HB := hide hB
  have KSM := hide (fun (W : World) (hx : Ex [] w4 W) (u : Value) (hu : SL W u bl) => same_yes u (.slice p7 bl.length c7) bl W hu (HSW4.out.ex hx (by simp)) (by have := HBLOK.out.1.len; omega))
  rw [← HSL7.out] at KSM
  clear hM hE hA hB e1 e2 e3 e4
  go_wp2_with fail
  generalize hW : World.alloc _ _ = W5
  have bx : BK W5 w4.heap.size (.cells #[.int .i64 k, .slice p ns c, .string se, .string re, .string ⟨#[]⟩, .string ⟨#[]⟩, .int .u64 0] 37 (0, 0)) := by rw [← hW]; exact ((BK.new _ _).alloc _).alloc _
  have bk : BK W5 (w4.heap.size + 1) (.cells #[.int .i64 1, .slice p ns c, .string se, .string re, .string ⟨#[]⟩, .string ⟨#[]⟩, .int .u64 0] 37 (0, 0)) := by rw [← hW]; exact (bk1 _ _ _).alloc _
  have bd : BK W5 (w4.heap.size + 1 + 1) (.cells #[.int .i64 2, .slice p ns c, .string se, .string re, .string ⟨#[]⟩, .string ⟨#[]⟩, .int .u64 0] 37 (0, 0)) := by rw [← hW]; exact bk2 _ _ _ _
  have hx5 : Ex [] w4 W5 := by rw [← hW]; exact (((Ex.refl _ _).alloc _).alloc _).alloc _
  have hz5 : w4.heap.size + 3 ≤ W5.heap.size := by have := bd.lt; omega
  have HBX := hide bx
  have HBK := hide bk
  have HBD := hide bd
  have HX5 := hide hx5
  clear hW bx bk bd hx5
  cases M
  case' true =>
    have KP1' := hide (KP1.out W5 HX5.out)
    simp only [if_true, if_false, Bool.not_true, Bool.not_false, Bool.false_eq_true] at KP1'
    refine KP1'.out.mono ?_
    rintro y w6 ⟨v14, v16, rfl, hs14, hs16, hb14, hb16, hl14, hl16, hx6⟩
    have hx46 : Ex [] w4 w6 := HX5.out.trans hx6
    have bx6 := HBX.out.ex hx6 (by simp)
    have bk6 := HBK.out.ex hx6 (by simp)
    have bd6 := HBD.out.ex hx6 (by simp)
    have KS6 := hide (KSM.out w6 hx46 v14 hs14)
    obtain ⟨p14, c14, rfl⟩ := hs14.slice
    obtain ⟨p16, c16, rfl⟩ := hs16.slice
    have HX46 := hide hx46
    have HX6 := hide hx6
    have HBX6 := hide bx6
    have HBK6 := hide bk6
    have HBD6 := hide bd6
    have hlx := bx6.lt
    have hlk := bk6.lt
    have hld := bd6.lt
    obtain ⟨hcx, hfx⟩ := bx6.all
    obtain ⟨hck, hfk⟩ := bk6.all
    obtain ⟨hcd, hfd⟩ := bd6.all
    clear hs14 hs16 hb14 hb16 hl14 hl16 hx6 hx46 bx6 bk6 bd6
    go_wp2_with fail
    refine KS6.out.mono ?_
    rintro y w7 ⟨rfl, nd, rfl⟩
    have HSZ3 : Hid ((Tryz.prog.info? 37).map (·.size) = some (#[.int .i64 3, .slice p ns c, .string se, .string ⟨#[]⟩, .string ⟨#[97]⟩, .string ⟨#[]⟩, .int .u64 0] : Array Value).size) := by show (Tryz.prog.info? 37).map (·.size) = some 7; kernel_rfl
    have HAL3 : Hid ((#[.int .i64 3, .slice p ns c, .string se, .string ⟨#[]⟩, .string ⟨#[97]⟩, .string ⟨#[]⟩, .int .u64 0] : Array Value).all (·.oneCell') = true) := by show (#[.int .i64 3, .slice p ns c, .string se, .string ⟨#[]⟩, .string ⟨#[97]⟩, .string ⟨#[]⟩, .int .u64 0] : Array Value).all (·.oneCell') = true; simp [Value.oneCell']
    clear hck hfk hcd hfd
    go_wp2_with (first
      | (refine wpList_store_row rfl 37 _ _ rfl (w4.heap.size + 1 + 1) #[.int .i64 3, .slice p ns c, .string se, .string ⟨#[]⟩, .string ⟨#[97]⟩, .string ⟨#[]⟩, .int .u64 0] rfl rfl 37 _ HBD7.out HSZ3.out rfl HAL3.out ?_; generalize hW8 : World.setRow W7 (w4.heap.size + 1 + 1) _ = W8; have hx8 : Ex [w4.heap.size + 1, w4.heap.size + 1 + 1] w6 W8 := (by rw [← hW8]; exact HX7.out.setRow (Or.inl (by simp)) _); have bd8 : BK W8 (w4.heap.size + 1 + 1) (.cells #[.int .i64 3, .slice p ns c, .string se, .string ⟨#[]⟩, .string ⟨#[97]⟩, .string ⟨#[]⟩, .int .u64 0] 37 (0, 0)) := (by rw [← hW8]; exact setRow_heap _ _ _ _ _ _ HBD7.out); have bk8 : BK W8 (w4.heap.size + 1) (.cells #[.int .i64 3, .slice p ns c, .string se, .string ⟨#[]⟩, .string ⟨#[97]⟩, .string ⟨#[]⟩, .int .u64 0] 37 (0, 0)) := (by rw [← hW8]; exact (setRow_other _ _ _ _ (by omega)).trans HBK7.out); have HX8 := hide hx8; have HBD8 := hide bd8; have HBK8 := hide bk8; obtain ⟨hck8, hfk8⟩ := bk8.all; obtain ⟨hcd8, hfd8⟩ := bd8.all; have hlk8 := bk8.lt; have hld8 := bd8.lt; clear hW8 hx8 bd8 bk8 hck7 hfk7)
      | (refine wpList_store_row rfl 37 _ _ rfl (w4.heap.size + 1) #[.int .i64 3, .slice p ns c, .string se, .string ⟨#[]⟩, .string ⟨#[97]⟩, .string ⟨#[]⟩, .int .u64 0] rfl rfl 37 _ (HBK6.out.drewN nd) HSZ3.out rfl HAL3.out ?_; generalize hW7 : World.setRow (w6.drewN nd) (w4.heap.size + 1) _ = W7; have hx7 : Ex [w4.heap.size + 1, w4.heap.size + 1 + 1] w6 W7 := (by rw [← hW7]; exact ((Ex.refl _ _).drewN nd).setRow (Or.inl (by simp)) _); have bk7 : BK W7 (w4.heap.size + 1) (.cells #[.int .i64 3, .slice p ns c, .string se, .string ⟨#[]⟩, .string ⟨#[97]⟩, .string ⟨#[]⟩, .int .u64 0] 37 (0, 0)) := (by rw [← hW7]; exact setRow_heap _ _ _ _ _ _ (HBK6.out.drewN nd)); have bd7 : BK W7 (w4.heap.size + 1 + 1) (.cells #[.int .i64 2, .slice p ns c, .string se, .string re, .string ⟨#[]⟩, .string ⟨#[]⟩, .int .u64 0] 37 (0, 0)) := (by rw [← hW7]; exact (setRow_other _ _ _ _ (by omega)).trans (HBD6.out.drewN nd)); have HX7 := hide hx7; have HBD7 := hide bd7; have HBK7 := hide bk7; obtain ⟨hck7, hfk7⟩ := bk7.all; have hlk7 := bk7.lt; have hld7 := bd7.lt; clear hW7 hx7 bd7 bk7 hcx hfx))
  case' false =>
    have KP1' := hide (KP1.out W5 HX5.out)
    simp only [if_true, if_false, Bool.not_true, Bool.not_false, Bool.false_eq_true] at KP1'
    refine KP1'.out.mono ?_
    rintro y w6 ⟨v14, v16, rfl, hs14, hs16, hb14, hb16, hl14, hl16, hx6⟩
    have hx46 : Ex [] w4 w6 := HX5.out.trans hx6
    have bx6 := HBX.out.ex hx6 (by simp)
    have bk6 := HBK.out.ex hx6 (by simp)
    have bd6 := HBD.out.ex hx6 (by simp)
    have KS6 := hide (KSM.out w6 hx46 v16 hs16)
    obtain ⟨p14, c14, rfl⟩ := hs14.slice
    obtain ⟨p16, c16, rfl⟩ := hs16.slice
    have HX46 := hide hx46
    have HX6 := hide hx6
    have HBX6 := hide bx6
    have HBK6 := hide bk6
    have HBD6 := hide bd6
    have hlx := bx6.lt
    have hlk := bk6.lt
    have hld := bd6.lt
    obtain ⟨hcx, hfx⟩ := bx6.all
    obtain ⟨hck, hfk⟩ := bk6.all
    obtain ⟨hcd, hfd⟩ := bd6.all
    clear hs14 hs16 hb14 hb16 hl14 hl16 hx6 hx46 bx6 bk6 bd6
    go_wp2_with fail
    refine KS6.out.mono ?_
    rintro y w7 ⟨rfl, nd, rfl⟩
    have HSZ3 : Hid ((Tryz.prog.info? 37).map (·.size) = some (#[.int .i64 3, .slice p ns c, .string se, .string ⟨#[]⟩, .string ⟨#[97]⟩, .string ⟨#[]⟩, .int .u64 0] : Array Value).size) := by show (Tryz.prog.info? 37).map (·.size) = some 7; kernel_rfl
    have HAL3 : Hid ((#[.int .i64 3, .slice p ns c, .string se, .string ⟨#[]⟩, .string ⟨#[97]⟩, .string ⟨#[]⟩, .int .u64 0] : Array Value).all (·.oneCell') = true) := by show (#[.int .i64 3, .slice p ns c, .string se, .string ⟨#[]⟩, .string ⟨#[97]⟩, .string ⟨#[]⟩, .int .u64 0] : Array Value).all (·.oneCell') = true; simp [Value.oneCell']
    clear hck hfk hcd hfd
    go_wp2_with (first
      | (refine wpList_store_row rfl 37 _ _ rfl (w4.heap.size + 1 + 1) #[.int .i64 3, .slice p ns c, .string se, .string ⟨#[]⟩, .string ⟨#[97]⟩, .string ⟨#[]⟩, .int .u64 0] rfl rfl 37 _ HBD7.out HSZ3.out rfl HAL3.out ?_; generalize hW8 : World.setRow W7 (w4.heap.size + 1 + 1) _ = W8; have hx8 : Ex [w4.heap.size + 1, w4.heap.size + 1 + 1] w6 W8 := (by rw [← hW8]; exact HX7.out.setRow (Or.inl (by simp)) _); have bd8 : BK W8 (w4.heap.size + 1 + 1) (.cells #[.int .i64 3, .slice p ns c, .string se, .string ⟨#[]⟩, .string ⟨#[97]⟩, .string ⟨#[]⟩, .int .u64 0] 37 (0, 0)) := (by rw [← hW8]; exact setRow_heap _ _ _ _ _ _ HBD7.out); have bk8 : BK W8 (w4.heap.size + 1) (.cells #[.int .i64 3, .slice p ns c, .string se, .string ⟨#[]⟩, .string ⟨#[97]⟩, .string ⟨#[]⟩, .int .u64 0] 37 (0, 0)) := (by rw [← hW8]; exact (setRow_other _ _ _ _ (by omega)).trans HBK7.out); have HX8 := hide hx8; have HBD8 := hide bd8; have HBK8 := hide bk8; obtain ⟨hck8, hfk8⟩ := bk8.all; obtain ⟨hcd8, hfd8⟩ := bd8.all; have hlk8 := bk8.lt; have hld8 := bd8.lt; clear hW8 hx8 bd8 bk8 hck7 hfk7)
      | (refine wpList_store_row rfl 37 _ _ rfl (w4.heap.size + 1) #[.int .i64 3, .slice p ns c, .string se, .string ⟨#[]⟩, .string ⟨#[97]⟩, .string ⟨#[]⟩, .int .u64 0] rfl rfl 37 _ (HBK6.out.drewN nd) HSZ3.out rfl HAL3.out ?_; generalize hW7 : World.setRow (w6.drewN nd) (w4.heap.size + 1) _ = W7; have hx7 : Ex [w4.heap.size + 1, w4.heap.size + 1 + 1] w6 W7 := (by rw [← hW7]; exact ((Ex.refl _ _).drewN nd).setRow (Or.inl (by simp)) _); have bk7 : BK W7 (w4.heap.size + 1) (.cells #[.int .i64 3, .slice p ns c, .string se, .string ⟨#[]⟩, .string ⟨#[97]⟩, .string ⟨#[]⟩, .int .u64 0] 37 (0, 0)) := (by rw [← hW7]; exact setRow_heap _ _ _ _ _ _ (HBK6.out.drewN nd)); have bd7 : BK W7 (w4.heap.size + 1 + 1) (.cells #[.int .i64 2, .slice p ns c, .string se, .string re, .string ⟨#[]⟩, .string ⟨#[]⟩, .int .u64 0] 37 (0, 0)) := (by rw [← hW7]; exact (setRow_other _ _ _ _ (by omega)).trans (HBD6.out.drewN nd)); have HX7 := hide hx7; have HBD7 := hide bd7; have HBK7 := hide bk7; obtain ⟨hck7, hfk7⟩ := bk7.all; have hlk7 := bk7.lt; have hld7 := bd7.lt; clear hW7 hx7 bd7 bk7 hcx hfx))
  all_goals
    have hx49 : Ex [] w4 (W8.setCell ⟨w4.heap.size + 1 + 1, 0, none⟩ (.int .i64 4)) := (((HX46.out.drop (l' := [w4.heap.size + 1, w4.heap.size + 1 + 1]) (by simp)).trans HX8.out).setCell (Or.inl (by simp)) _).drop (fun y hy hlt => by simp at hy; omega)
    have KPB := hide (KP2.out _ hx49)
    have HX49 := hide hx49
    clear hx49 KP1 KP1' KP2 KS6 HSZ3 HAL3 HX7 HBX6 HBK6 HBD6 HBK7 HBD7 HBX HBK HBD KRU KB0 KL hck8 hfk8 hlk7 hld7 hlx hlk hld
    cases E
    case' true =>
      simp only [if_true, if_false, Bool.not_true, Bool.not_false, Bool.false_eq_true] at KPB
      refine KPB.out.mono ?_
      rintro y w10 ⟨v14, v16, rfl, hs14, hs16, hb14, hb16, hl14, hl16, hx6⟩
      have hxA : Ex [] w4 w10 := HX49.out.trans hx6
      have KS6 := hide (KSM.out w10 hxA v14 hs14)
    case' false =>
      simp only [if_true, if_false, Bool.not_true, Bool.not_false, Bool.false_eq_true] at KPB
      refine KPB.out.mono ?_
      rintro y w10 ⟨v14, v16, rfl, hs14, hs16, hb14, hb16, hl14, hl16, hx6⟩
      have hxA : Ex [] w4 w10 := HX49.out.trans hx6
      have KS6 := hide (KSM.out w10 hxA v16 hs16)
    all_goals
      clear KPB HX49 HX8 HBK8 HBD8 hlk8 hld8 hcd8 hfd8
      obtain ⟨p18, c18, rfl⟩ := hs14.slice
      obtain ⟨p20, c20, rfl⟩ := hs16.slice
      have HXA := hide hxA
      clear hs14 hs16 hb14 hb16 hl14 hl16 hx6 hxA
      go_wp2_with fail
      refine KS6.out.mono ?_
      rintro y w11 ⟨rfl, nd2, rfl⟩
      clear KS6
      go_wp2_with fail
      refine (KP3.out _ (HXA.out.drewN nd2)).mono ?_
      rintro y w12 ⟨vA, vB, rfl, hsA, hsB, hbA, hbB, hlA, hlB, hx12⟩
      have hxC : Ex [] w4 w12 := (HXA.out.drewN nd2).trans hx12
      obtain ⟨pA, cA, rfl⟩ := hsA.slice
      obtain ⟨pB, cB, rfl⟩ := hsB.slice
      have KGA := hide (fun (W : World) (hx : Ex [] w12 W) (t : ByteArray) => get_any _ A t W (hsA.ex hx (by simp)) (by omega))
      have KGB := hide (fun (W : World) (hx : Ex [] w12 W) (t : ByteArray) => get_any _ B t W (hsB.ex hx (by simp)) (by omega))
      have KIS := hide (fun (W : World) (hx : Ex [] w12 W) (s : ByteArray) (hs : s.size ≤ 9223372036854775807) => is_any re s x W (HP.out.ex (HX04.out.trans (hxC.trans hx))).ev (pat_good HROK.out.pat) (HP.out.ex (HX04.out.trans (hxC.trans hx))).gl hs)
      have hW12 : SL w12 (.slice p7 bl.length c7) bl := HSW4.out.ex hxC (by simp)
      have HW12 := hide hW12
      have hab : A.length + B.length = sl7 := by rw [HA.out, HB.out, HSL7.out]; exact filter_two (fun l : Lab => (matchM (patC re) l.1).isSome) bl
      obtain ⟨la, hla⟩ : ∃ la, la = A.length := ⟨_, rfl⟩
      obtain ⟨lb, hlb⟩ : ∃ lb, lb = B.length := ⟨_, rfl⟩
      rw [← hla] at KGA hab hlA ⊢
      rw [← hlb] at KGB hab hlB ⊢
      have HXC := hide (HX04.out.trans hxC)
      have hab1 : (la : Int) + (lb : Int) = (sl7 : Int) := by omega
      have h60 : sl7 ≤ 60 := by rw [HSL7.out]; omega
      clear hsA hsB hbA hbB hx12 hxC hW12 hla hlb KP3 HXA
      go_wp2_with fail
      go_loopg [19] sl7 (fun gk i wr => ∃ j : Nat, j + gk = sl7 ∧ i = .int .i64 j ∧ Ex [] w12 wr)
      case atStart => exact ⟨0, by omega, rfl, Ex.refl _ _⟩
      case round =>
        obtain ⟨j, hj, rfl, hxr⟩ := hrel
        have HXR := hide hxr
        clear hxr
        cases gk with
        | zero =>
          obtain rfl : j = sl7 := by omega
          clear hj
          go_wp2_with fail
          go_ret
          exact ⟨rfl, HXC.out.trans HXR.out⟩
        | succ g =>
          have hjl : j < bl.length := by rw [← HSL7.out]; omega
          have hjn : (j : Int) < (sl7 : Int) := by omega
          obtain ⟨l, hl⟩ : ∃ l, bl[j]? = some l := ⟨_, List.getElem?_eq_getElem hjl⟩
          obtain ⟨b, c', h1, hb, a0, a1⟩ := same_nonempty (HW12.out.ex HXR.out (by simp)) j l hl
          have hga := getM_filter HBLOK.out.1.srt hl (fun l => (matchM (patC re) l.1).isSome)
          have hgb := getM_filter HBLOK.out.1.srt hl (fun l => !(matchM (patC re) l.1).isSome)
          have hsz := name_size (HBLOK.out.1.nam l (List.mem_of_getElem? hl))
          rw [← HA.out] at hga
          rw [← HB.out] at hgb
          injection h1 with e1 e2 e3
          subst e1
          obtain ⟨l1, l2⟩ := l
          simp only at a0 a1 hga hgb hsz
          have KI := hide (KIS.out _ HXR.out l1 (by omega))
          obtain ⟨Q, hQ⟩ : ∃ Q, Q = (matchM (patC re) l1).isSome := ⟨_, rfl⟩
          rw [← hQ] at hga hgb KI
          have HGA := hide hga
          have HGB := hide hgb
          clear hl e2 e3 hga hgb hQ
          go_wp2_with fail
          refine KI.out.mono ?_
          rintro y w13 ⟨rfl, hx13⟩
          have HX13 := hide (HXR.out.trans hx13)
          have b0 := (hx13.cell0.1 _ _ hb).trans a0
          have b1 := (hx13.cell0.1 _ _ hb).trans a1
          have hb13 : b < w13.heap.size := by have := hx13.size; omega
          have KA := hide (KGA.out _ HX13.out l1)
          have KB := hide (KGB.out _ HX13.out l1)
          rw [HGA.out] at KA
          rw [HGB.out] at KB
          clear hx13 a0 a1 hb KI
          cases Q with
          | true =>
            simp only [if_true, if_false, Bool.not_true, Bool.not_false, Bool.false_eq_true] at KA KB
            go_wp2_with fail
            refine KA.out.mono ?_
            rintro y w14 ⟨rfl, rfl⟩
            go_wp2_with fail
            refine KB.out.mono ?_
            rintro y w14 ⟨rfl, rfl⟩
            go_wp2_with fail
            go_roundg g
            case measure => omega
            case rel => exact ⟨j + 1, by omega, by simp, HX13.out⟩
          | false =>
            simp only [if_true, if_false, Bool.not_true, Bool.not_false, Bool.false_eq_true] at KA KB
            go_wp2_with fail
            refine KA.out.mono ?_
            rintro y w14 ⟨rfl, rfl⟩
            go_wp2_with fail
            refine KB.out.mono ?_
            rintro y w14 ⟨rfl, rfl⟩
            go_wp2_with fail
            go_roundg g
            case measure => omega
            case rel => exact ⟨j + 1, by omega, by simp, HX13.out⟩
end Go.Proofs.YtmeffeigamaipabGreatDoor.G
