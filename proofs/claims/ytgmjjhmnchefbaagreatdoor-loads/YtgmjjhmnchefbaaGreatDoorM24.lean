/- N2 L1 L2, one behind the other. -/
import Derived.Test.YtgmjjhmnchefbaaGreatDoorM23
import Derived.Test.YtgmjjhmnchefbaaGreatDoorProg
import Derived.Test.YtgmjjhmnchefbaaGreatDoorM01
import Derived.Deep.MidRow
import Derived.Deep.DeepCutAuto
set_option linter.unusedVariables false
set_option linter.unusedSimpArgs false
/- Load, at whatever list of rules. -/
namespace Go.Proofs.YtgmjjhmnchefbaaGreatDoor.G
open Go.RowKit

structure UR where
  act : Int
  ss : List ByteArray
  se : ByteArray
  re : ByteArray
  ta : ByteArray
  rp : ByteArray
  mo : Int
def UR.err (u : UR) : Nat × Nat := ruleR u.act u.ss u.se u.re u.ta u.rp u.mo
def checkR : Nat → List UR → Nat × Nat × Nat
  | _, [] => (0, 0, 0)
  | i, u :: l => if u.err.1 ≠ 0 then (u.err.1, i, u.err.2) else checkR (i + 1) l
def loadR (us : List UR) : Nat × Nat × Nat := if 12 < us.length then (8, 0, 0) else checkR 0 us
theorem check_drop {us : List UR} {j : Nat} {u : UR} (h : us[j]? = some u) : checkR j (us.drop j) = if u.err.1 ≠ 0 then (u.err.1, j, u.err.2) else checkR (j + 1) (us.drop (j + 1)) := by
  have hj : j < us.length := (List.getElem?_eq_some_iff.1 h).1
  rw [List.drop_eq_getElem_cons hj]
  rw [List.getElem?_eq_getElem hj] at h
  rw [Option.some.inj h]
  rfl
structure Says (w : World) (r : AR) (u : UR) : Prop where
  act : r.act = u.act
  len : r.n = u.ss.length
  ss : SS w (.slice r.p u.ss.length r.c) u.ss
  se : r.se = u.se
  re : r.re = u.re
  ta : r.ta = u.ta
  rp : r.rp = u.rp
  mo : r.mo = u.mo
structure UR.fits (u : UR) : Prop where
  ss : ∀ s ∈ u.ss, s.size ≤ 281474976710656
  se : u.se.size ≤ 281474976710656
  ta : u.ta.size ≤ 281474976710656
  rp : u.rp.size ≤ 281474976710656
set_option maxHeartbeats 4000000 in
set_option maxRecDepth 100000 in
theorem load_any (R : List Value → List Lab → Bool → Prop) (e m mb base room : Nat) (rv : Value) (ts : List (List Value)) (tv : Value) (es : Array MapEntry) (clk : Nat) (v : Value) (rs : List AR) (us : List UR) {x : EV} (w : World) (he : EN R w e m mb base room rv ts tv es clk)
    (hv : AL w v rs) (hlen : us.length = rs.length) (hsay : ∀ (i : Nat) r u, rs[i]? = some r → us[i]? = some u → Says w r u) (hfit : ∀ u ∈ us, u.fits) (hub : UB w) (hev : w.cell? ⟨0, 0, none⟩ = some (.iface x.1 x.2)) :
    Calls Tryz.prog 17 #[.pointer (some ⟨e, 0, none⟩), v] w fun y w' => y = .returned (.tuple #[.int .i64 ((loadR us).1 : Int), .int .i64 ((loadR us).2.1 : Int), .int .i64 ((loadR us).2.2 : Int)]) ∧ Ex [e, m, mb] w w' := by
  have HE := hide he
  have HV := hide hv
  have HSAY := hide hsay
  have HFIT := hide hfit
  have HLEN := hide hlen
  have HUB := hide hub
  have HEV := hide hev
  obtain ⟨i0, hi, hz0, hz1, hz2⟩ := info_parts infoRule
  obtain ⟨p, c, rfl⟩ := hv.slice
  obtain ⟨n, hnn⟩ : ∃ n, n = rs.length := ⟨_, rfl⟩
  have HNN := hide hnn
  rw [← hnn]
  by_cases hn : 12 < n
  · have hn12 : ((n : Int) > 12) := by omega
    have hn12' : ((12 : Int) < (n : Int)) := by omega
    have HL : Hid (loadR us = (8, 0, 0)) := by show _ = _; unfold loadR; rw [if_pos (by rw [hlen, ← hnn]; exact hn)]
    clear he hv hsay hfit hub hev hlen hnn
    go_enter Tryz.func17, Tryz.ntmps17
    go_wp2_with fail
    go_ret3
    exact ⟨by rw [HL.out]; rfl, Ex.refl _ _⟩
  have hn12 : ¬ ((n : Int) > 12) := by omega
  have hn12' : ¬ ((12 : Int) < (n : Int)) := by omega
  obtain ⟨C, hC⟩ : ∃ C, C = checkR 0 us := ⟨_, rfl⟩
  have HL : Hid (loadR us = C) := by show _ = _; unfold loadR; rw [if_neg (by rw [hlen, ← hnn]; exact hn), hC]
  have HC := hide hC
  rw [show loadR us = C from HL.out]
  clear he hv hsay hfit hub hev hlen hnn hC HL
  go_enter Tryz.func17, Tryz.ntmps17
  go_wp2_with fail
  go_loopg [7, 18] n (fun gk s7 i18 wr => ∃ (j : Nat) (fvs : List Value), j + gk = n ∧ i18 = .int .i64 j ∧ wr.ownsRow w.heap.size 122 1 s7 j fvs ∧ checkR j (us.drop j) = C ∧ Ex [] w wr)
  case atStart => exact ⟨0, [], by omega, rfl, World.ownsRow_nil _ _ _ _, by rw [List.drop_zero]; exact HC.out.symm, Ex.refl _ _⟩
  case round =>
    obtain ⟨j, fvs, hj, rfl, hown, hck, hx⟩ := hrel
    have HOWN := hide hown
    have HCK := hide hck
    have HX := hide hx
    have hwz := hx.size
    obtain ⟨p7, c7, rfl⟩ := own_slice hown
    cases gk with
    | zero =>
      obtain rfl : j = n := by omega
      have HCZ : Hid (C = (0, 0, 0)) := by show _ = _; rw [← HCK.out, List.drop_eq_nil_of_le (by rw [HLEN.out, ← HNN.out]; exact Nat.le_refl _)]; rfl
      have he2 := HE.out.blk.ex hx (by simp)
      have hm2 := HE.out.mem.ex hx (by simp)
      have HE2 := hide he2
      have HM2 := hide hm2
      obtain ⟨hce, hfe⟩ := he2.all
      have hel2 := he2.lt
      clear hown hck hx hj he2 hm2
      go_wp2_with fail
      have hb3 := HE2.out.self 0 (.slice p7 j c7)
      simp only [List.setIfInBounds_toArray, List.set_cons_zero] at hb3
      have hm3 : MM R (wr.setCell ⟨e, 0, none⟩ (.slice p7 j c7)) m mb base room ts tv es clk := HM2.out.ex (o := [e]) ((Ex.refl _ _).setCell (.inl (by simp)) _) (by simp [HE.out.lt, HE.out.nem, HE.out.nemb])
      have hx3 : Ex [e] wr (wr.setCell ⟨e, 0, none⟩ (.slice p7 j c7)) := (Ex.refl _ _).setCell (.inl (by simp)) _
      refine (forget_any R m mb base room ts tv es clk _ hm3).mono ?_
      rintro y w4 ⟨rfl, hm4, hx4⟩
      have HX24 : Hid (Ex [e, m, mb] wr w4) := (hx3.drop (by simp)).trans (hx4.drop (fun y hy _ => by simp at hy ⊢; omega))
      clear hb3 hm3 hm4 hx3 hx4 hce hfe
      go_wp2_with fail
      go_ret3
      exact ⟨by rw [HCZ.out]; rfl, (HX.out.drop (by simp)).trans HX24.out⟩
    | succ g =>
      have hjl : j < rs.length := by rw [← HNN.out]; omega
      have hjn : (j : Int) < (n : Int) := by omega
      obtain ⟨r, hr⟩ : ∃ r, rs[j]? = some r := ⟨_, List.getElem?_eq_getElem hjl⟩
      obtain ⟨u, hu⟩ : ∃ u, us[j]? = some u := ⟨_, List.getElem?_eq_getElem (by rw [HLEN.out]; exact hjl)⟩
      obtain ⟨rb, off, hprb, hrbl, hrc⟩ : ∃ rb off, p = some ⟨rb, off, none⟩ ∧ rb < wr.heap.size ∧ ∀ o, o < 7 → wr.cell? ⟨rb, off + j * 7 + o, none⟩ = r.cells[o]? := by
        obtain ⟨p', c', h1, h2⟩ := HV.out
        injection h1 with e1 e2 e3
        obtain ⟨b, off, h3, hb, hc⟩ := h2 j r hr
        exact ⟨b, off, e1.trans h3, by omega, fun o ho => (hx.cell0.1 b _ hb).trans (hc o ho)⟩
      subst hprb
      have hs := HSAY.out j r u hr hu
      have hf := HFIT.out u (List.mem_of_getElem? hu)
      have hstep := check_drop hu
      rw [HCK.out] at hstep
      have HSTEP := hide hstep
      obtain ⟨act, rp0, rn, rc, se, re, ta, rp, mo⟩ := r
      obtain ⟨uact, uss, use, ure, uta, urp, umo⟩ := u
      obtain ⟨h1, h2, hss, h4, h5, h6, h7, h8⟩ := hs
      dsimp only at h1 h2 hss h4 h5 h6 h7 h8
      subst h1 h2 h4 h5 h6 h7 h8
      try dsimp only at *
      obtain ⟨w0, hw0⟩ : ∃ w0, w0 = wr.alloc (Obj.cells (AR.cells ⟨act, rp0, uss.length, rc, se, re, ta, rp, mo⟩).toArray 118) := ⟨_, rfl⟩
      have hx0 : Ex [] wr w0 := by rw [hw0]; exact (Ex.refl _ _).alloc _
      have hxx := hx.trans hx0
      have KM := hide (make_any act rp0 rc uss se re ta rp mo w0 (HUB.out.ex hxx (by simp)) ((hxx.cell0.1 _ _ (lt_of_cell HEV.out)).trans HEV.out) (hss.ex0 hxx) hf.ss hf.se hf.ta hf.rp)
      obtain ⟨E, hE⟩ : ∃ E, E = ruleR act uss se re ta rp mo := ⟨_, rfl⟩
      rw [← hE] at KM
      have HS2 : Hid (C = if E.1 ≠ 0 then (E.1, j, E.2) else checkR (j + 1) (us.drop (j + 1))) := by show _ = _; rw [hE]; exact HSTEP.out
      have HX0 := hide hx0
      have HW0 := hide hw0
      obtain ⟨sl, hsl⟩ : ∃ sl, sl = uss.length := ⟨_, rfl⟩
      rw [← hsl] at KM hrc HW0
      unfold ruleV at KM
      unfold AR.cells at hrc HW0
      dsimp only at KM hrc HW0
      have c0 : wr.cell? ⟨rb, off + j * 7, none⟩ = some (.int .i64 act) := hrc 0 (by omega)
      have c1 : wr.cell? ⟨rb, off + j * 7 + 1, none⟩ = some (.slice rp0 sl rc) := hrc 1 (by omega)
      have c2 : wr.cell? ⟨rb, off + j * 7 + 2, none⟩ = some (.string se) := hrc 2 (by omega)
      have c3 : wr.cell? ⟨rb, off + j * 7 + 3, none⟩ = some (.string re) := hrc 3 (by omega)
      have c4 : wr.cell? ⟨rb, off + j * 7 + 4, none⟩ = some (.string ta) := hrc 4 (by omega)
      have c5 : wr.cell? ⟨rb, off + j * 7 + 5, none⟩ = some (.string rp) := hrc 5 (by omega)
      have c6 : wr.cell? ⟨rb, off + j * 7 + 6, none⟩ = some (.int .u64 mo) := hrc 6 (by omega)
      clear hown hck hx hr hu hrc hx0 hw0 hxx hstep HSTEP hss hf hE hsl
      go_wp2_with fail
      rw [← HW0.out]
      refine KM.out.mono ?_
      rintro y w1 ⟨⟨fv, rfl, hok, hno⟩, hx1⟩
      have hx01 : Ex [] wr w1 := HX0.out.trans hx1
      have hzA := hx01.size
      have hzB := HX0.out.size
      have HX01 := hide hx01
      have hown1 := own_ex HOWN.out hx01 (by simp)
      have HO1 := hide hown1
      obtain ⟨E1, E2⟩ := E
      try dsimp only at *
      by_cases h0 : E1 = 0
      · subst h0
        obtain ⟨f, fa, fb, rfl⟩ := hok rfl
        have hst := store_func f fa fb (BK.new w1 (Obj.cells #[.nilFunc] 122))
        have HCN : Hid (checkR (j + 1) (us.drop (j + 1)) = C) := by show _ = _; rw [HS2.out, if_neg (by simp)]
        clear hx1 hx01 hown1 c0 c1 c2 c3 c4 c5 c6 hok hno HS2
        go_wp2_with (at_builtin; refine wpList_append_lies _ rfl (.tmp 34) (.tmp 36) 112 rfl w.heap.size 122 i0 (.agg #[.nilFunc]) 1 8 Tryz.underlying112 hi hz0 hz1 hz2 rfl (by decide) (.slice p7 j c7) j fvs rfl ((HO1.out.alloc _).alloc _) ⟨w1.heap.size + 1, 0, none⟩ 1 1 [.func f fa fb] rfl rfl (by have h9 := cells_new (w1.alloc (Obj.cells #[.func f fa fb] 122)) #[.func f fa fb] 122; simp only [World.size_alloc] at h9; exact h9) (by simp [Value.oneCell']) (by decide) (by unfold maxLen; omega) (by omega) (by simp; omega) _ rfl ?_)
        intro gb cap w2 hown2 hgrow hcase hlt2
        have hrow : ∀ k, (Value.slice p7 j c7).ownBlock = some k → w.heap.size ≤ k ∧ k < wr.heap.size := fun k hk => HOWN.out.lt k hk
        have hx12 : Ex (Value.slice p7 j c7).ownBlock.toList w1 w2 := Ex.grown ((((Ex.refl _ _).alloc _).alloc _)) hgrow (fun k hk => Or.inl (by simpa using hk))
        have hx02 : Ex [] w w2 := (((HX.out.trans HX01.out).drop (by simp)).trans hx12).drop (fun x hx hlt => by have := hrow x (by simpa using hx); omega)
        have HO2 := hide hown2
        have HX02 := hide hx02
        clear hown2 hgrow hcase hx12 hx02 hst
        go_wp2_with fail
        go_roundg g
        case measure => omega
        case rel => exact ⟨j + 1, fvs ++ [.func f fa fb], by omega, by simp, HO2.out, HCN.out, HX02.out⟩
      · obtain rfl := hno h0
        have hst := store_nilFunc (BK.new w1 (Obj.cells #[.nilFunc] 122))
        have HCE : Hid (C = (E1, j, E2)) := by show _ = _; rw [HS2.out, if_pos h0]
        have h0i : ((E1 : Int) != 0) = true := by rw [bne_iff_ne]; omega
        have h0j : ¬ (E1 : Int) = 0 := by omega
        clear hx1 hx01 hown1 c0 c1 c2 c3 c4 c5 c6 hok hno HS2
        go_wp2_with fail
        go_ret3
        refine ⟨by rw [HCE.out]; rfl, ?_⟩
        exact (HX.out.trans (HX01.out.trans (by first | exact ((Ex.refl _ _).alloc _).setCell (.inr (by simp)) _ | exact (Ex.refl _ _).alloc _))).drop (by simp)
end Go.Proofs.YtgmjjhmnchefbaaGreatDoor.G

/- The document's own reader of patterns: sets of runes. -/
namespace Go.Proofs.YtgmjjhmnchefbaaGreatDoor.G
open Go.RowKit

def sB (bs : List Bool) : List Value := bs.map Value.bool
theorem sB_len (bs : List Bool) : (sB bs).length = bs.length := by simp [sB]
theorem sB_plain (bs : List Bool) : ∀ u ∈ sB bs, u.oneCell' = true := fun u hu => by
  simp only [sB, List.mem_map] at hu
  obtain ⟨b, _, rfl⟩ := hu
  rfl
theorem sB_at (bs : List Bool) (j : Nat) : (sB bs)[j]? = (bs[j]?).map Value.bool := by simp [sB]
theorem sB_set (bs : List Bool) (j : Nat) (b : Bool) : (sB bs).set j (.bool b) = sB (bs.set j b) := by simp [sB, List.map_set]
def noB : List Bool := List.replicate 129 false
theorem all_plain {xs : List Value} (h : ∀ u ∈ xs, u.oneCell' = true) : xs.toArray.all (·.oneCell') = true := by
  rw [List.all_toArray, List.all_eq_true]
  exact h
set_option maxRecDepth 100000 in
theorem infoSet {bs : List Bool} (h : bs.length = 129) : (Tryz.prog.info? 107).map (·.size) = some (sB bs).length := by rw [sB_len, h]; kernel_rfl
theorem infoSetA {bs : List Bool} (h : bs.length = 129) : (Tryz.prog.info? 107).map (·.size) = some (sB bs).toArray.size := by rw [List.size_toArray]; exact infoSet h
def SB (w : World) (b : Nat) (bs : List Bool) : Prop := BK w b (.cells (sB bs).toArray 107 (0, 0)) ∧ bs.length = 129
theorem SB.ex {l : List Nat} {w w' : World} {b : Nat} {bs : List Bool} (h : SB w b bs) (hx : Ex l w w') (hn : b ∉ l) : SB w' b bs := ⟨h.1.ex hx hn, h.2⟩
theorem SB.cell {w : World} {b : Nat} {bs : List Bool} (h : SB w b bs) (j : Nat) (hj : j < 129) : ∃ x, bs[j]? = some x ∧ w.cell? ⟨b, j, none⟩ = some (.bool x) := by
  refine ⟨_, List.getElem?_eq_getElem (by rw [h.2]; exact hj), ?_⟩
  rw [h.1.all.1 j, List.getElem?_toArray, sB_at, List.getElem?_eq_getElem (by rw [h.2]; exact hj)]
  rfl
theorem SB.set {w : World} {b : Nat} {bs : List Bool} (h : SB w b bs) (j : Nat) (x : Bool) : SB (w.setCell ⟨b, j, none⟩ (.bool x)) b (bs.set j x) := ⟨by rw [← sB_set]; exact h.1.selfL j _, by rw [List.length_set]; exact h.2⟩
theorem SB.new (w : World) (bs : List Bool) (h : bs.length = 129) : SB (w.alloc (Obj.cells (sB bs).toArray 107)) w.heap.size bs := ⟨BK.new _ _, h⟩
theorem SB.store {w : World} {b : Nat} {bs : List Bool} (h : SB w b bs) {cs : List Bool} (hc : cs.length = 129) : SB (w.setRow b (sB cs).toArray) b cs := ⟨setRow_heap _ _ _ _ _ _ h.1, hc⟩
theorem SB.load {w : World} {b : Nat} {bs : List Bool} (h : SB w b bs) : (loadVar 107 ⟨b, 0, none⟩).run Tryz.prog w = .ok (.agg (sB bs).toArray) w := run_loadVar_mid w _ 0 _ (sB bs) _ h.1.rangeL Tryz.underlying107 rfl (infoSet h.2)

def invTo (bs : List Bool) (j : Nat) : List Bool := (bs.take j).map (!·) ++ bs.drop j
theorem invTo_succ (bs : List Bool) (j : Nat) (x : Bool) (h : (invTo bs j)[j]? = some x) (hj : j < bs.length) : (invTo bs j).set j (!x) = invTo bs (j + 1) := by
  have hl : ((bs.take j).map (!·)).length = j := by simp; omega
  unfold invTo at h ⊢
  rw [List.getElem?_append_right (by omega), hl, Nat.sub_self, List.getElem?_drop, Nat.add_zero] at h
  rw [List.set_append_right _ _ (by omega), hl, Nat.sub_self, List.drop_eq_getElem_cons hj, List.set_cons_zero, List.take_add_one, List.getElem?_eq_getElem hj]
  rw [List.getElem?_eq_getElem hj] at h
  rw [Option.some.inj h]
  simp
theorem invTo_end (bs : List Bool) (h : bs.length = 129) (x : Bool) (hx : (invTo bs 128)[128]? = some x) : (invTo bs 128).set 128 (!x) = bs.map (!·) := by
  rw [invTo_succ bs 128 x hx (by omega)]
  unfold invTo
  rw [List.take_of_length_le (by omega), List.drop_eq_nil_of_le (by omega), List.append_nil]

set_option maxHeartbeats 4000000 in
set_option maxRecDepth 100000 in
theorem inverse_any (bs : List Bool) (w : World) (hb : bs.length = 129) :
    Calls Tryz.prog 135 #[.agg (sB bs).toArray] w fun e w' => e = .returned (.agg (sB (bs.map (!·))).toArray) ∧ Ex [] w w' := by
  obtain ⟨S, hS⟩ : ∃ S, S = sB bs := ⟨_, rfl⟩
  have hw1 : SB (w.alloc (Obj.cells S.toArray 107)) w.heap.size bs := by rw [hS]; exact SB.new w bs hb
  rw [← hS]
  have HW1 := hide hw1
  clear hw1 hS
  go_enter Tryz.func135, Tryz.ntmps135
  go_wp2_with fail
  generalize hw2 : World.alloc _ _ = w2
  have hs2 : SB w2 w.heap.size bs := by rw [← hw2]; exact HW1.out.ex ((Ex.refl [] _).alloc _) (by simp)
  have hr2 : SB w2 (w.heap.size + 1) noB := by
    have h9 : BK w2 (w.alloc (Obj.cells S.toArray 107)).heap.size (.cells (sB noB).toArray 107 (0, 0)) := by rw [← hw2]; exact BK.new _ _
    rw [World.size_alloc] at h9
    exact ⟨h9, rfl⟩
  have hx2 : Ex [] w w2 := by rw [← hw2]; exact ((Ex.refl _ _).alloc _).alloc _
  have HS2 := hide hs2
  have HR2 := hide hr2
  have HX2 := hide hx2
  clear hw2 hs2 hr2 hx2
  go_loopg [3] 128 (fun gk i wr => ∃ j : Nat, j + gk = 128 ∧ i = .int .i64 j ∧ SB wr w.heap.size (invTo bs j) ∧ SB wr (w.heap.size + 1) noB ∧ Ex [] w wr)
  case atStart => exact ⟨0, by omega, rfl, by simpa [invTo] using HS2.out, HR2.out, HX2.out⟩
  case round =>
    obtain ⟨j, hj, rfl, hs, hr, hx⟩ := hrel
    have HS := hide hs
    have HR := hide hr
    have HX := hide hx
    have hlt := hs.1.lt
    have hlt2 := hr.1.lt
    have hfz := hs.1.all.2
    cases gk with
    | zero =>
      obtain rfl : j = 128 := by omega
      obtain ⟨x, hx1, hc⟩ := hs.cell 128 (by omega)
      have hend := invTo_end bs hb x hx1
      have hs3 : SB (wr.setCell ⟨w.heap.size, 128, none⟩ (.bool (!x))) w.heap.size (bs.map (!·)) := by rw [← hend]; exact hs.set 128 _
      have hr3 : SB (wr.setCell ⟨w.heap.size, 128, none⟩ (.bool (!x))) (w.heap.size + 1) noB := ⟨hr.1.set (by simp) _, hr.2⟩
      have hx3 : Ex [] w (wr.setCell ⟨w.heap.size, 128, none⟩ (.bool (!x))) := hx.setCell (.inr (by simp)) _
      obtain ⟨w3, hw3⟩ : ∃ w3, w3 = wr.setCell ⟨w.heap.size, 128, none⟩ (.bool (!x)) := ⟨_, rfl⟩
      rw [← hw3] at hs3 hr3 hx3
      have HW3 := hide hw3
      have HS3 := hide hs3
      have HR3 := hide hr3
      have HX3 := hide hx3
      have hb2 : (bs.map (!·)).length = 129 := by simp [hb]
      clear hs hr hx hx1 hend hs3 hr3 hx3 hw3 hj
      obtain ⟨T, hT⟩ : ∃ T, T = sB (bs.map (!·)) := ⟨_, rfl⟩
      have HI : Hid ((Tryz.prog.info? 107).map (·.size) = some T.length) := by rw [hT]; exact infoSet hb2
      have HI2 : Hid ((Tryz.prog.info? 107).map (·.size) = some T.toArray.size) := by rw [hT]; exact infoSetA hb2
      have HAL : Hid (T.toArray.all (·.oneCell') = true) := by rw [hT]; exact all_plain (sB_plain _)
      have HT := hide hT
      have HRG : Hid (World.rangeAt w3 (w.heap.size) 0 T) := by rw [hT]; exact HS3.out.1.rangeL
      have HOLD : Hid ((sB noB).toArray.size = T.toArray.size) := by show _ = _; rw [List.size_toArray, List.size_toArray, hT, sB_len, sB_len, hb2, HR3.out.2]
      clear hT
      go_wp2_with (first
        | (rw [← HW3.out]; refine wpList_load_mid rfl 107 _ rfl (w.heap.size) 0 rfl T _ HRG.out Tryz.underlying107 rfl HI.out ?_)
        | (refine wpList_store_row rfl 107 _ _ rfl (w.heap.size + 1) T.toArray rfl rfl 107 _ HR3.out.1 HI2.out HOLD.out HAL.out ?_))
      have hs4 : SB (w3.setRow (w.heap.size + 1) T.toArray) (w.heap.size + 1) (bs.map (!·)) := by rw [HT.out]; exact HR3.out.store hb2
      have hl4 := hs4.load
      rw [← HT.out] at hl4
      refine bodyPost_ret (results_cell1 rfl rfl hl4) rfl ⟨by rw [HT.out], HX3.out.setRow (.inr (by omega)) _⟩
    | succ g =>
      obtain ⟨x, hx1, hc⟩ := hs.cell j (by omega)
      have hj128 : (j : Int) < 128 := by omega
      have hst := invTo_succ bs j x hx1 (by omega)
      have HS3 : Hid (SB (wr.setCell ⟨w.heap.size, j, none⟩ (.bool (!x))) w.heap.size (invTo bs (j + 1))) := by rw [← hst]; exact hs.set j _
      have HR3 : Hid (SB (wr.setCell ⟨w.heap.size, j, none⟩ (.bool (!x))) (w.heap.size + 1) noB) := ⟨hr.1.set (by simp) _, hr.2⟩
      have HX3 : Hid (Ex [] w (wr.setCell ⟨w.heap.size, j, none⟩ (.bool (!x)))) := hx.setCell (.inr (by simp)) _
      clear hs hr hx hx1 hst
      go_wp2_with fail
      go_roundg g
      case measure => omega
      case rel => exact ⟨j + 1, by omega, by simp, HS3.out, HR3.out, HX3.out⟩

def oneB (c : Nat) : List Bool := noB.set c true
theorem oneB_len (c : Nat) : (oneB c).length = 129 := by simp [oneB, noB]
set_option maxHeartbeats 4000000 in
set_option maxRecDepth 100000 in
theorem one_any (c : Nat) (w : World) (hc : c < 128) :
    Calls Tryz.prog 108 #[.int .u8 (c : Int)] w fun e w' => e = .returned (.agg (sB (oneB c)).toArray) ∧ Ex [] w w' := by
  have hci : (c : Int) < 128 := by omega
  go_enter Tryz.func108, Tryz.ntmps108
  go_upto_region 2 with fail
  generalize hw2 : World.alloc _ _ = w2
  have hr2 : SB w2 w.heap.size noB := by rw [← hw2]; exact SB.ex (⟨BK.new _ _, rfl⟩ : SB (w.alloc (Obj.cells (sB noB).toArray 107)) w.heap.size noB) ((Ex.refl [] _).alloc _) (by simp)
  have hs2 : SB w2 (w.heap.size + 1) noB := by
    have h9 : BK w2 (w.alloc (Obj.cells (sB noB).toArray 107)).heap.size (.cells (sB noB).toArray 107 (0, 0)) := by rw [← hw2]; exact BK.new _ _
    rw [World.size_alloc] at h9
    exact ⟨h9, rfl⟩
  have hx2 : Ex [] w w2 := by rw [← hw2]; exact ((Ex.refl _ _).alloc _).alloc _
  have hlt := hs2.1.lt
  have hfz := hs2.1.all.2
  obtain ⟨x, hx1, hcl⟩ := hs2.cell c (by omega)
  have hs3 : SB (w2.setCell ⟨w.heap.size + 1, c, none⟩ (.bool true)) (w.heap.size + 1) (oneB c) := hs2.set c true
  have hr3 : SB (w2.setCell ⟨w.heap.size + 1, c, none⟩ (.bool true)) w.heap.size noB := ⟨hr2.1.set (by simp) _, hr2.2⟩
  have hx3 : Ex [] w (w2.setCell ⟨w.heap.size + 1, c, none⟩ (.bool true)) := hx2.setCell (.inr (by simp)) _
  obtain ⟨w3, hw3⟩ : ∃ w3, w3 = w2.setCell ⟨w.heap.size + 1, c, none⟩ (.bool true) := ⟨_, rfl⟩
  rw [← hw3] at hs3 hr3 hx3
  have HW3 := hide hw3
  have HS3 := hide hs3
  have HR3 := hide hr3
  have HX3 := hide hx3
  have hb2 := oneB_len c
  clear hw2 hr2 hs2 hx2 hs3 hr3 hx3 hw3 hx1
  obtain ⟨T, hT⟩ : ∃ T, T = sB (oneB c) := ⟨_, rfl⟩
  have HI : Hid ((Tryz.prog.info? 107).map (·.size) = some T.length) := by rw [hT]; exact infoSet hb2
  have HI2 : Hid ((Tryz.prog.info? 107).map (·.size) = some T.toArray.size) := by rw [hT]; exact infoSetA hb2
  have HAL : Hid (T.toArray.all (·.oneCell') = true) := by rw [hT]; exact all_plain (sB_plain _)
  have HT := hide hT
  have HRG : Hid (World.rangeAt w3 (w.heap.size + 1) 0 T) := by rw [hT]; exact HS3.out.1.rangeL
  have HOLD : Hid ((sB noB).toArray.size = T.toArray.size) := by show _ = _; rw [List.size_toArray, List.size_toArray, hT, sB_len, sB_len, hb2, HR3.out.2]
  clear hT
  go_wp2_with (first
    | (rw [← HW3.out]; refine wpList_load_mid rfl 107 _ rfl (w.heap.size + 1) 0 rfl T _ HRG.out Tryz.underlying107 rfl HI.out ?_)
    | (refine wpList_store_row rfl 107 _ _ rfl (w.heap.size) T.toArray rfl rfl 107 _ HR3.out.1 HI2.out HOLD.out HAL.out ?_))
  have hs4 : SB (w3.setRow (w.heap.size) T.toArray) (w.heap.size) (oneB c) := by rw [HT.out]; exact HR3.out.store hb2
  have hl4 := hs4.load
  rw [← HT.out] at hl4
  refine bodyPost_ret (results_cell1 rfl rfl hl4) rfl ⟨by rw [HT.out], HX3.out.setRow (.inr (by omega)) _⟩

set_option maxHeartbeats 4000000 in
set_option maxRecDepth 100000 in
theorem full_any (w : World) :
    Calls Tryz.prog 103 #[] w fun e w' => e = .returned (.agg (sB (noB.map (!·))).toArray) ∧ Ex [] w w' := by
  go_enter Tryz.func103, Tryz.ntmps103
  go_upto_region 2 with fail
  generalize hw2 : World.alloc _ _ = w2
  have hr2 : SB w2 w.heap.size noB := by rw [← hw2]; exact SB.ex (⟨BK.new _ _, rfl⟩ : SB (w.alloc (Obj.cells (sB noB).toArray 107)) w.heap.size noB) ((Ex.refl [] _).alloc _) (by simp)
  have hs2 : SB w2 (w.heap.size + 1) noB := by
    have h9 : BK w2 (w.alloc (Obj.cells (sB noB).toArray 107)).heap.size (.cells (sB noB).toArray 107 (0, 0)) := by rw [← hw2]; exact BK.new _ _
    rw [World.size_alloc] at h9
    exact ⟨h9, rfl⟩
  have hx2 : Ex [] w w2 := by rw [← hw2]; exact ((Ex.refl _ _).alloc _).alloc _
  have HS2 := hide hs2
  have HR2 := hide hr2
  have HX2 := hide hx2
  obtain ⟨Z, hZ⟩ : ∃ Z, Z = sB noB := ⟨_, rfl⟩
  have HRZ : Hid (World.rangeAt w2 (w.heap.size + 1) 0 Z) := by rw [hZ]; exact hs2.1.rangeL
  have HIZ : Hid ((Tryz.prog.info? 107).map (·.size) = some Z.length) := by rw [hZ]; exact infoSet rfl
  have KI := hide (inverse_any noB w2 rfl)
  rw [← hZ] at KI
  clear hw2 hs2 hr2 hx2 hZ
  go_wp2_with (refine wpList_load_mid rfl 107 _ rfl (w.heap.size + 1) 0 rfl Z _ HRZ.out Tryz.underlying107 rfl HIZ.out ?_)
  refine KI.out.mono ?_
  rintro e w3 ⟨rfl, hx⟩
  have HR3 := hide (HR2.out.ex hx (by simp))
  have HX3 := hide (HX2.out.trans hx)
  have hb2 : (noB.map (!·)).length = 129 := rfl
  clear hx
  obtain ⟨T, hT⟩ : ∃ T, T = sB (noB.map (!·)) := ⟨_, rfl⟩
  have HI : Hid ((Tryz.prog.info? 107).map (·.size) = some T.length) := by rw [hT]; exact infoSet hb2
  have HI2 : Hid ((Tryz.prog.info? 107).map (·.size) = some T.toArray.size) := by rw [hT]; exact infoSetA hb2
  have HAL : Hid (T.toArray.all (·.oneCell') = true) := by rw [hT]; exact all_plain (sB_plain _)
  have HT := hide hT
  have HOLD : Hid ((sB noB).toArray.size = T.toArray.size) := by show _ = _; rw [List.size_toArray, List.size_toArray, hT, sB_len, sB_len, hb2]; rfl
  rw [← hT]
  clear hT
  go_wp2_with (refine wpList_store_row rfl 107 _ _ rfl w.heap.size T.toArray rfl rfl 107 _ HR3.out.1 HI2.out HOLD.out HAL.out ?_)
  have hs4 : SB (w3.setRow w.heap.size T.toArray) w.heap.size (noB.map (!·)) := by rw [HT.out]; exact HR3.out.store hb2
  have hl4 := hs4.load
  rw [← HT.out] at hl4
  refine bodyPost_ret (results_cell1 rfl rfl hl4) rfl ⟨by rw [HT.out], HX3.out.setRow (.inr (by omega)) _⟩

def orTo (us bs : List Bool) (j : Nat) : List Bool := (List.zipWith (· || ·) us bs).take j ++ us.drop j
theorem orTo_succ (us bs : List Bool) (j : Nat) (x y : Bool) (hl : us.length = bs.length) (h : (orTo us bs j)[j]? = some x) (hy : bs[j]? = some y) (hj : j < us.length) : (orTo us bs j).set j (x || y) = orTo us bs (j + 1) := by
  have hz : (List.zipWith (· || ·) us bs).length = us.length := by simp [hl]
  have hlen : ((List.zipWith (· || ·) us bs).take j).length = j := by rw [List.length_take, hz]; omega
  unfold orTo at h ⊢
  rw [List.getElem?_append_right (by omega), hlen, Nat.sub_self, List.getElem?_drop, Nat.add_zero, List.getElem?_eq_getElem hj] at h
  rw [List.set_append_right _ _ (by omega), hlen, Nat.sub_self, List.drop_eq_getElem_cons hj, List.set_cons_zero, List.take_add_one, List.getElem?_eq_getElem (by omega), List.getElem_zipWith]
  rw [List.getElem?_eq_getElem (by omega)] at hy
  rw [Option.some.inj h, Option.some.inj hy]
  simp
theorem orTo_end (us bs : List Bool) (ha : us.length = 129) (hb : bs.length = 129) (x y : Bool) (hx : (orTo us bs 128)[128]? = some x) (hy : bs[128]? = some y) : (orTo us bs 128).set 128 (x || y) = List.zipWith (· || ·) us bs := by
  rw [orTo_succ us bs 128 x y (by omega) hx hy (by omega)]
  unfold orTo
  rw [List.take_of_length_le (by simp [ha, hb]), List.drop_eq_nil_of_le (by omega), List.append_nil]
set_option maxHeartbeats 4000000 in
set_option maxRecDepth 100000 in
theorem union_any (us bs : List Bool) (w : World) (ha : us.length = 129) (hb : bs.length = 129) :
    Calls Tryz.prog 134 #[.agg (sB us).toArray, .agg (sB bs).toArray] w fun e w' => e = .returned (.agg (sB (List.zipWith (· || ·) us bs)).toArray) ∧ Ex [] w w' := by
  obtain ⟨S, hS⟩ : ∃ S, S = sB us := ⟨_, rfl⟩
  obtain ⟨R, hR⟩ : ∃ S, S = sB bs := ⟨_, rfl⟩
  have HW1 : Hid (∀ o1 o2, SB (((w.alloc (Obj.cells S.toArray 107)).alloc o1).alloc o2) w.heap.size us) := fun o1 o2 => by rw [hS]; exact (SB.new w us ha).ex (((Ex.refl [] _).alloc _).alloc _) (by simp)
  have HW2 : Hid (∀ o2, SB (((w.alloc (Obj.cells S.toArray 107)).alloc (Obj.cells R.toArray 107)).alloc o2) (w.heap.size + 1) bs) := fun o2 => by
    have h9 := SB.new (w.alloc (Obj.cells S.toArray 107)) bs hb
    rw [World.size_alloc] at h9
    rw [hR]
    exact h9.ex ((Ex.refl [] _).alloc _) (by simp)
  rw [← hS, ← hR]
  clear hS hR
  go_enter Tryz.func134, Tryz.ntmps134
  go_wp2_with fail
  generalize hw2 : World.alloc _ _ = w2
  have hs2 : SB w2 w.heap.size us := by rw [← hw2]; exact HW1.out _ _
  have ht2 : SB w2 (w.heap.size + 1) bs := by rw [← hw2]; exact HW2.out _
  have hr2 : SB w2 (w.heap.size + 1 + 1) noB := by
    have h9 : BK w2 ((w.alloc (Obj.cells S.toArray 107)).alloc (Obj.cells R.toArray 107)).heap.size (.cells (sB noB).toArray 107 (0, 0)) := by rw [← hw2]; exact BK.new _ _
    rw [World.size_alloc, World.size_alloc] at h9
    exact ⟨h9, rfl⟩
  have hx2 : Ex [] w w2 := by rw [← hw2]; exact (((Ex.refl _ _).alloc _).alloc _).alloc _
  have HS2 := hide hs2
  have HT2 := hide ht2
  have HR2 := hide hr2
  have HX2 := hide hx2
  clear hw2 hs2 ht2 hr2 hx2
  go_loopg [5] 128 (fun gk i wr => ∃ j : Nat, j + gk = 128 ∧ i = .int .i64 j ∧ SB wr w.heap.size (orTo us bs j) ∧ SB wr (w.heap.size + 1) bs ∧ SB wr (w.heap.size + 1 + 1) noB ∧ Ex [] w wr)
  case atStart => exact ⟨0, by omega, rfl, by simpa [orTo] using HS2.out, HT2.out, HR2.out, HX2.out⟩
  case round =>
    obtain ⟨j, hj, rfl, hs, ht, hr, hx⟩ := hrel
    have hlt := hs.1.lt
    have hlt1 := ht.1.lt
    have hlt2 := hr.1.lt
    have hfz := hs.1.all.2
    have key : ∀ (x y : Bool), (orTo us bs j)[j]? = some x → bs[j]? = some y → j < 129 → SB (wr.setCell ⟨w.heap.size, j, none⟩ (.bool (x || y))) w.heap.size ((orTo us bs j).set j (x || y)) ∧ SB (wr.setCell ⟨w.heap.size, j, none⟩ (.bool (x || y))) (w.heap.size + 1) bs ∧ SB (wr.setCell ⟨w.heap.size, j, none⟩ (.bool (x || y))) (w.heap.size + 1 + 1) noB ∧ Ex [] w (wr.setCell ⟨w.heap.size, j, none⟩ (.bool (x || y))) := fun x y _ _ _ => ⟨hs.set j _, ⟨ht.1.set (by simp) _, ht.2⟩, ⟨hr.1.set (by simp; omega) _, hr.2⟩, hx.setCell (.inr (by simp)) _⟩
    have hjj : j < 129 := by omega
    obtain ⟨x, hx1, hc⟩ := hs.cell j hjj
    obtain ⟨y, hy1, hcy⟩ := ht.cell j hjj
    obtain ⟨k1, k2, k3, k4⟩ := key x y hx1 hy1 hjj
    cases gk with
    | zero =>
      obtain rfl : j = 128 := by omega
      have hend := orTo_end us bs ha hb x y hx1 hy1
      rw [hend] at k1
      obtain ⟨w3, hw3⟩ : ∃ w3, w3 = wr.setCell ⟨w.heap.size, 128, none⟩ (.bool (x || y)) := ⟨_, rfl⟩
      rw [← hw3] at k1 k2 k3 k4
      have HW3 := hide hw3
      have HS3 := hide k1
      have HR3 := hide k3
      have HX3 := hide k4
      have hb2 : (List.zipWith (· || ·) us bs).length = 129 := by simp [ha, hb]
      clear hs ht hr hx hx1 hy1 hend k1 k2 k3 k4 hw3 hj key hjj
      cases x
      all_goals
        simp only [Bool.false_or, Bool.true_or] at HW3
        obtain ⟨T, hT⟩ : ∃ T, T = sB (List.zipWith (· || ·) us bs) := ⟨_, rfl⟩
        have HI : Hid ((Tryz.prog.info? 107).map (·.size) = some T.length) := by rw [hT]; exact infoSet hb2
        have HI2 : Hid ((Tryz.prog.info? 107).map (·.size) = some T.toArray.size) := by rw [hT]; exact infoSetA hb2
        have HAL : Hid (T.toArray.all (·.oneCell') = true) := by rw [hT]; exact all_plain (sB_plain _)
        have HT := hide hT
        have HRG : Hid (World.rangeAt w3 (w.heap.size) 0 T) := by rw [hT]; exact HS3.out.1.rangeL
        have HOLD : Hid ((sB noB).toArray.size = T.toArray.size) := by show _ = _; rw [List.size_toArray, List.size_toArray, hT, sB_len, sB_len, hb2, HR3.out.2]
        clear hT
        go_wp2_with (first
          | (rw [← HW3.out]; refine wpList_load_mid rfl 107 _ rfl (w.heap.size) 0 rfl T _ HRG.out Tryz.underlying107 rfl HI.out ?_)
          | (refine wpList_store_row rfl 107 _ _ rfl (w.heap.size + 1 + 1) T.toArray rfl rfl 107 _ HR3.out.1 HI2.out HOLD.out HAL.out ?_))
        have hs4 : SB (w3.setRow (w.heap.size + 1 + 1) T.toArray) (w.heap.size + 1 + 1) (List.zipWith (· || ·) us bs) := by rw [HT.out]; exact HR3.out.store hb2
        have hl4 := hs4.load
        rw [← HT.out] at hl4
        refine bodyPost_ret (results_cell1 rfl rfl hl4) rfl ⟨by rw [HT.out], HX3.out.setRow (.inr (by omega)) _⟩
    | succ g =>
      have hst := orTo_succ us bs j x y (by omega) hx1 hy1 (by omega)
      rw [hst] at k1
      have hj128 : (j : Int) < 128 := by omega
      have K1 := hide k1
      have K2 := hide k2
      have K3 := hide k3
      have K4 := hide k4
      clear hs ht hr hx hx1 hy1 hst k1 k2 k3 k4 key hjj
      cases x
      all_goals
        simp only [Bool.false_or, Bool.true_or] at K1 K2 K3 K4
        go_wp2_with fail
        go_roundg g
        case measure => omega
        case rel => exact ⟨j + 1, by omega, by simp, K1.out, K2.out, K3.out, K4.out⟩
end Go.Proofs.YtgmjjhmnchefbaaGreatDoor.G

/- The document's own reader of patterns: sets of runes by letters; what such functions answer. -/
namespace Go.Proofs.YtgmjjhmnchefbaaGreatDoor.G
open Go.RowKit

set_option maxHeartbeats 400000 in
theorem refDigit (x : Int) (w : World) :
    Calls Tryz.prog 128 #[.int .u8 x] w fun e w' => e = .returned (.bool (digB x)) ∧ w' = w := by
  unfold digB
  by_cases h1 : 48 ≤ x
  · by_cases h2 : x ≤ 57
    · go_enter Tryz.func128, Tryz.ntmps128
      go_wp2
      go_ret
      exact ⟨by simp [h1, h2], rfl⟩
    · go_enter Tryz.func128, Tryz.ntmps128
      go_wp2
      go_ret
      exact ⟨by simp [h1, h2], rfl⟩
  · go_enter Tryz.func128, Tryz.ntmps128
    go_wp2
    go_ret
    exact ⟨by simp; omega, rfl⟩

set_option maxHeartbeats 400000 in
theorem refLetter (x : Int) (w : World) :
    Calls Tryz.prog 149 #[.int .u8 x] w fun e w' => e = .returned (.bool (letB x)) ∧ w' = w := by
  unfold letB
  by_cases h1 : 97 ≤ x <;> by_cases h2 : x ≤ 122 <;> by_cases h3 : 65 ≤ x <;> by_cases h4 : x ≤ 90
  all_goals
    first
    | (exfalso; omega)
    | (go_enter Tryz.func149, Tryz.ntmps149
       go_wp2
       go_ret
       exact ⟨by simp [h1, h2, h3, h4], rfl⟩)

def specLB : List UInt8 := [92, 46, 43, 42, 63, 40, 41, 124, 91, 93, 123, 125, 94, 36]
def plB (c : UInt8) : Bool := decide (c.toNat < 128) && !specLB.contains c
theorem spec_drop {j : Nat} (hj : j < 14) (c : UInt8) : (specLB.drop j).contains c = ((specLB[j]'hj == c) || (specLB.drop (j + 1)).contains c) := by
  rw [List.drop_eq_getElem_cons hj, List.contains_cons]
  congr 1
  exact Bool.beq_comm
set_option maxHeartbeats 4000000 in
set_option maxRecDepth 100000 in
theorem plain_any (c : UInt8) (w : World) : Calls Tryz.prog 105 #[.int .u8 (c.toNat : Int)] w fun e w' => e = .returned (.bool (plB c)) ∧ w' = w := by
  go_enter Tryz.func105, Tryz.ntmps105
  go_wp2_with fail
  go_loopg [3] 14 (fun gk i wr => ∃ j : Nat, j + gk = 14 ∧ i = .int .i64 j ∧ specLB.contains c = (specLB.drop j).contains c ∧ wr = w)
  case atStart => exact ⟨0, by omega, rfl, rfl, rfl⟩
  case round =>
    obtain ⟨j, hj, rfl, hsp, rfl⟩ := hrel
    have HSP := hide hsp
    clear hsp
    cases gk with
    | zero =>
      obtain rfl : j = 14 := by omega
      go_wp2_with fail
      go_ret
      refine ⟨?_, rfl⟩
      have HR : plB c = decide ((c.toNat : Int) < 128) := by
        unfold plB
        rw [HSP.out, show (specLB.drop 14).contains c = false from rfl, Bool.not_false, Bool.and_true, decide_eq_decide]
        omega
      rw [HR]
      rfl
    | succ g =>
      have hj14 : (j : Int) < 14 := by omega
      have hjn : j < 14 := by omega
      have hst := spec_drop hjn c
      have hjs : j < (⟨#[92, 46, 43, 42, 63, 40, 41, 124, 91, 93, 123, 125, 94, 36]⟩ : ByteArray).size := hjn
      have hget : (⟨#[92, 46, 43, 42, 63, 40, 41, 124, 91, 93, 123, 125, 94, 36]⟩ : ByteArray)[j]'hjs = specLB[j]'hjn := rfl
      obtain ⟨d, hd⟩ : ∃ d, d = specLB[j]'hjn := ⟨_, rfl⟩
      rw [← hd] at hst hget
      cases he : (d == c) with
      | true =>
        have hdc : d = c := by simpa using he
        have he2 : ((d.toNat : Int) == (c.toNat : Int)) = true := by rw [hdc]; simp
        have HR : Hid (plB c = false) := by show plB c = false; unfold plB; rw [HSP.out, hst, he]; simp
        clear hst hd
        go_wp2_with fail
        go_ret
        exact ⟨by rw [HR.out]; rfl, rfl⟩
      | false =>
        have he2 : ((d.toNat : Int) == (c.toNat : Int)) = false := by
          rw [Bool.eq_false_iff] at he ⊢
          intro h9
          exact he (by have h8 : d.toNat = c.toNat := by have := beq_iff_eq.1 h9; omega
                       exact beq_iff_eq.2 (UInt8.toNat_inj.1 h8))
        have HR : Hid (specLB.contains c = (specLB.drop (j + 1)).contains c) := by show _ = _; rw [HSP.out, hst, he]; simp
        clear hst hd
        go_wp2_with fail
        go_roundg g
        case measure => omega
        case rel => exact ⟨j + 1, by omega, by simp, HR.out, rfl⟩
end Go.Proofs.YtgmjjhmnchefbaaGreatDoor.G
