/- L25 T13b, one behind the other. -/
import Derived.Test.YtgmjjhmnchefbaaGreatDoorM38
import Derived.Test.YtgmjjhmnchefbaaGreatDoorM22
import Derived.Test.YtgmjjhmnchefbaaGreatDoorM21
set_option linter.unusedVariables false
set_option linter.unusedSimpArgs false
/- The document's own reader of patterns: Read. -/
namespace Go.Proofs.YtgmjjhmnchefbaaGreatDoor.G
open Go.RowKit

theorem ra_start (w W : World) (t : ByteArray) (hp : BK W (w.heap.size + 1) (.cells #[.string t, .int .i64 0, .bool false, .pointer (some ⟨w.heap.size, 0, none⟩), .bool false, .int .i64 0, .int .i64 0] 50 (0, 0)))
    (hr : BK W w.heap.size (.cells #[.slice none 0 0, .int .i64 0, .int .i64 0, .slice none 0 0] 48 (0, 0))) : RA W (w.heap.size + 1) w.heap.size w.heap.size t startS false 0 0 :=
  ⟨hp, ⟨.slice none 0 0, .slice none 0 0, [], [], hr, ⟨rfl, .inl ⟨rfl, rfl⟩⟩, ⟨rfl, .inl ⟨rfl, rfl⟩⟩, fun a _ => rfl, rfl⟩, by omega, Nat.le_refl _, by have := hr.lt; omega⟩
def ReadPost (t : ByteArray) (e : Ending) : Prop := match placeM t with
  | some k => e = .returned (.tuple #[.pointer none, .int .i64 4, .int .i64 (k : Int)])
  | none => ∃ b, e = .returned (.tuple #[.pointer (some ⟨b, 0, none⟩), .int .i64 0, .int .i64 0])
theorem ReadPost.some {t : ByteArray} {k : Nat} {v : Int} (h : placeM t = .some k) (hv : v = (k : Int)) : ReadPost t (.returned (.tuple #[.pointer none, .int .i64 4, .int .i64 v])) := by
  unfold ReadPost
  rw [h, hv]
theorem ReadPost.none {t : ByteArray} {b : Nat} (h : placeM t = .none) : ReadPost t (.returned (.tuple #[.pointer (Option.some ⟨b, 0, Option.none⟩), .int .i64 0, .int .i64 0])) := by
  unfold ReadPost
  rw [h]
  exact ⟨b, rfl⟩
theorem place_of {t : ByteArray} (ht : t.size ≤ 60) {s0 : RS} (hf : foldM t = .ok () s0) : placeM t = match exprAt t 7 s0 with
    | .bad s => some s.k
    | .ok p s => if s.k = t.size then (if 120 < wt p then some t.size else none) else some s.k := by
  unfold placeM
  rw [if_neg (by omega)]
  unfold readM
  rw [hf, Res.bind_ok]
  cases exprAt t 7 s0 with
  | bad s => rfl
  | ok p s =>
    simp only [Res.bind_ok]
    by_cases h : s.k = t.size
    · rw [if_pos h, if_pos h]
    · rw [if_neg h, if_neg h]
theorem three_bytes {t : ByteArray} (h : 3 ≤ t.size) : (t.extract 0 3).toList = [40, 63, 105] ↔ (byteAt t 0 = some 40 ∧ byteAt t 1 = some 63 ∧ byteAt t 2 = some 105) := by
  have e : (t.extract 0 3).toList = [t.data[0]'(by show 0 < t.size; omega), t.data[1]'(by show 1 < t.size; omega), t.data[2]'(by show 2 < t.size; omega)] := by
    rw [ByteArray.toList_eq, ByteArray.data_extract, Array.toList_extract]
    apply List.ext_getElem?
    intro i
    simp only [List.extract_eq_take_drop, List.drop_zero, Nat.sub_zero, List.getElem?_take]
    match i with
    | 0 => simp
    | 1 => simp
    | 2 => simp
    | i + 3 => simp; omega
  rw [e]
  unfold byteAt
  rw [Array.getElem?_eq_getElem (by show 0 < t.size; omega), Array.getElem?_eq_getElem (by show 1 < t.size; omega), Array.getElem?_eq_getElem (by show 2 < t.size; omega)]
  simp
theorem four_bytes {t : ByteArray} (h : 4 ≤ t.size) : (t.extract 0 4).toList = [40, 63, 105, 41] ↔ ((t.extract 0 3).toList = [40, 63, 105] ∧ byteAt t 3 = some 41) := by
  have e : (t.extract 0 4).toList = (t.extract 0 3).toList ++ [t.data[3]'(by show 3 < t.size; omega)] := by
    rw [ByteArray.toList_eq, ByteArray.data_extract, Array.toList_extract, ByteArray.toList_eq, ByteArray.data_extract, Array.toList_extract]
    simp only [List.extract_eq_take_drop, List.drop_zero, Nat.sub_zero]
    rw [show (4 : Nat) = 3 + 1 from rfl, List.take_succ_eq_append_getElem (by rw [Array.length_toList]; show 3 < t.size; omega)]
    rfl
  have hl : (t.extract 0 3).toList.length = 3 := by
    rw [ByteArray.toList_eq, ByteArray.data_extract, Array.toList_extract]
    simp only [List.extract_eq_take_drop, List.drop_zero, Nat.sub_zero, List.length_take, Array.length_toList]
    have : t.data.size = t.size := rfl
    omega
  rw [e]
  unfold byteAt
  rw [Array.getElem?_eq_getElem (by show 3 < t.size; omega)]
  constructor
  · intro h9
    have h10 : (t.extract 0 3).toList ++ [t.data[3]'(by show 3 < t.size; omega)] = [40, 63, 105] ++ [41] := h9
    obtain ⟨a, b⟩ := List.append_inj h10 (by rw [hl]; rfl)
    exact ⟨a, by simpa using b⟩
  · rintro ⟨a, b⟩
    rw [a]
    simp at b
    rw [b]
    rfl
theorem Ex.own {w w5 w6 : World} (h : Ex [] w w5) (k : Ex [w.heap.size] w5 w6) : Ex [] w w6 := ⟨k.os.trans h.os, k.tape.trans h.tape, k.output.trans h.output, Nat.le_trans h.size k.size, fun b hb hn => (k.block b (by have := h.size; omega) (by simp; omega)).trans (h.block b hb hn)⟩
set_option maxHeartbeats 8000000 in
set_option maxRecDepth 100000 in
theorem Read_any (t : ByteArray) (w : World) :
    Calls Tryz.prog 6 #[.string t] w fun e w' => ReadPost t e ∧ Ex [] w w' := by
  by_cases ht : t.size ≤ 60
  rotate_left
  · have h60 : (60 : Int) < (t.size : Int) := by omega
    have HP : Hid (placeM t = some 60) := by show _ = _; unfold placeM; rw [if_pos (by omega)]
    go_enter Tryz.func6, Tryz.ntmps6
    go_wp2_with fail
    refine bodyPost_ret (v := .tuple #[.pointer none, .int .i64 4, .int .i64 60]) (by simp [results, Tryz.results6, go_sem]) rfl ⟨ReadPost.some HP.out rfl, Ex.refl _ _⟩
  have h60 : ¬ (60 : Int) < (t.size : Int) := by omega
  by_cases h3 : 3 ≤ t.size ∧ (t.extract 0 3).toList = [40, 63, 105]
  · have hb3 := (three_bytes h3.1).1 h3.2
    have hFM : foldM t = (mustM t ⟨3, 0, false, 0, []⟩ 41).bind fun _ s => .ok () { s with f := true } := by
      unfold foldM
      rw [if_pos hb3]
      rfl
    by_cases h41 : byteAt t 3 = some 41
    · -- (?i)
      have h4 : 4 ≤ t.size := byte_lt h41
      have hFM2 : foldM t = .ok () ⟨4, 0, true, 0, []⟩ := by
        rw [hFM]
        unfold mustM seesM
        rw [h41]
        rfl
      have HFM := hide hFM2
      have h4i : (4 : Int) ≤ (t.size : Int) := by omega
      obtain ⟨n4, hn4⟩ : ∃ x, t.extract 0 4 = x := ⟨_, rfl⟩
      have e4 : (n4.toList == [40, 63, 105, 41]) = true := by rw [← hn4, (four_bytes h4).2 ⟨h3.2, h41⟩]; rfl
      clear hFM hFM2 h41 hb3 h3
      go_enter Tryz.func6, Tryz.ntmps6
      go_upto_region 4 with fail
      generalize hw2 : World.alloc _ _ = w2
      have hx2 : Ex [] w w2 := by rw [← hw2]; exact ((Ex.refl _ _).alloc _).alloc _
      have hr2 : BK w2 w.heap.size (.cells #[.slice none 0 0, .int .i64 0, .int .i64 0, .slice none 0 0] 48 (0, 0)) := by rw [← hw2]; exact (BK.new w _).alloc _
      have hp2 : BK w2 (w.heap.size + 1) (.cells #[.string t, .int .i64 0, .bool false, .pointer (some ⟨w.heap.size, 0, none⟩), .bool false, .int .i64 0, .int .i64 0] 50 (0, 0)) := by
        have h9 : BK w2 (w.alloc (Obj.cells #[.slice none 0 0, .int .i64 0, .int .i64 0, .slice none 0 0] 48)).heap.size (.cells #[.string t, .int .i64 0, .bool false, .pointer (some ⟨w.heap.size, 0, none⟩), .bool false, .int .i64 0, .int .i64 0] 50 (0, 0)) := by rw [← hw2]; exact BK.new _ _
        rw [World.size_alloc] at h9
        exact h9
      have H2 := hide (ra_start w w2 t hp2 hr2)
      have X2 := hide hx2
      clear hw2 hx2 hr2 hp2
      have hp2 := H2.out.rk
      unfold RK at hp2
      have p4 : w2.cell? ⟨w.heap.size + 1, 4, none⟩ = some (.bool false) := hp2.all.1 4
      have pf4 : w2.frozen? ⟨w.heap.size + 1, 4, none⟩ = false := hp2.all.2 4
      have hl2 := hp2.lt
      clear hp2
      go_upto_region 6 with fail
      generalize hw9 : World.setCell _ _ _ = w3a
      have hst := H2.out.setCell (s' := ⟨0, 0, true, 0, []⟩) (bad' := false) (hv' := 0) 4 (.bool true) rfl rfl rfl
      rw [hw9] at hst
      have H3a := hide hst.1
      have X3a : Hid (Ex [] w w3a) := EB.toEx ((EB.ofEx X2.out (Nat.le_refl _)).trans hst.2.2)
      clear hw9 hst p4 pf4 hl2
      obtain ⟨c0, c1, c2, f1, f2, hl⟩ := H3a.out.facts
      go_upto_region 11 with fail
      generalize hw9 : World.setCell _ _ _ = w3
      have hup := H3a.out.ats w3 4 hw9 rfl
      have H3 : Hid (RA w3 (w.heap.size + 1) w.heap.size w.heap.size t ⟨4, 0, true, 0, []⟩ false 0 0) := hup.1
      have hX3 : Hid (Ex [] w w3) := by
        have h9 := hup.2.eb
        rw [← hw9]
        exact X3a.out.setCell (.inr (by simp)) _
      clear hw9 hup c0 c1 c2 f1 f2 hl H3a X3a H2 X2
      have KX := hide (expr_all (p := w.heap.size + 1) (r := w.heap.size) (base := w.heap.size) ht 7 0 rfl (by decide) _ _ _ _ H3.out rfl (by decide) h4 (by omega))
      go_wp2_with fail
      refine KX.out.mono ?_
      rintro e w5 ⟨hf5, hp5⟩
      obtain ⟨y5, hy5, hz5⟩ := hp5.split
      subst hy5
      have F5 := hide (EB.toEx ((EB.ofEx hX3.out (Nat.le_refl _)).trans hf5.eb))
      clear hp5 hf5 KX
      have hPL := place_of ht HFM.out
      rcases hz5 with ⟨q, s5, n5, hq5, ra5, hn5⟩ | ⟨s9, s5, hv5, n5, hq5, hk5, hd5, ra5, hn5⟩
      · rw [hq5] at hPL
        dsimp only at hPL
        have hsz := (exprAt_fine ht 7 (by decide) _ _ _ hq5 (by decide) h4).sz h4
        have H5 := hide ra5
        have HPL := hide hPL
        obtain ⟨wq, hwq⟩ : ∃ x, x = wt q := ⟨_, rfl⟩
        have HWQ := hide hwq
        rw [← hwq] at HPL
        obtain ⟨m3, m5, m6, g5, g6, mr, gr, hrl⟩ := H5.out.more
        rw [← hwq] at m6
        obtain ⟨c0, c1, c2, f1, f2, hl⟩ := H5.out.facts
        obtain ⟨av, nv, xs, ns, hbr, _⟩ := H5.out.rn.ex
        have r1 : w5.cell? ⟨w.heap.size, 1, none⟩ = some (.int .i64 0) := hbr.all.1 1
        have rf1 : w5.frozen? ⟨w.heap.size, 1, none⟩ = false := hbr.all.2 1
        clear hPL hq5 ra5 hwq hbr
        obtain ⟨k5, d5, f5, g5', nm5⟩ := s5
        dsimp only at c1 hsz HPL
        by_cases hk : k5 = t.size
        · have hlt : ¬ (k5 : Int) < (t.size : Int) := by omega
          by_cases h120 : 120 < wq
          · have h120i : (120 : Int) < (wq : Int) := by omega
            have HP : Hid (placeM t = some t.size) := by show _ = _; rw [HPL.out, if_pos hk, if_pos h120]
            clear hk
            go_wp2_with fail
            refine bodyPost_ret (v := .tuple #[.pointer none, .int .i64 4, .int .i64 (t.size : Int)]) (by simp [results, Tryz.results6, go_sem]) rfl ⟨ReadPost.some HP.out rfl, F5.out⟩
          · have h120i : ¬ (120 : Int) < (wq : Int) := by omega
            have HP : Hid (placeM t = none) := by show _ = _; rw [HPL.out, if_pos hk, if_neg h120]
            clear hk
            go_upto_region 17 with fail
            generalize hw9 : World.setCell _ _ _ = w6
            have hx6 : Ex [w.heap.size] w5 w6 := by rw [← hw9]; exact (Ex.refl _ _).setCell (.inl (by simp)) _
            have hp6 := H5.out.rk
            unfold RK at hp6
            have hb6 := hp6.ex hx6 (by simp)
            have m36 : w6.cell? ⟨w.heap.size + 1, 3, none⟩ = some (.pointer (some ⟨w.heap.size, 0, none⟩)) := hb6.all.1 3
            have hl6 := hb6.lt
            have F6 : Hid (Ex [] w w6) := Ex.own F5.out hx6
            clear hw9 hx6 hp6 hb6 c0 c1 c2 f1 f2 hl m3 m5 m6 g5 g6 mr gr hrl r1 rf1
            go_wp2_with fail
            refine bodyPost_ret (v := .tuple #[.pointer (some ⟨w.heap.size, 0, none⟩), .int .i64 0, .int .i64 0]) (by simp [results, Tryz.results6, go_sem]) rfl ⟨ReadPost.none HP.out, F6.out⟩
        · have hlt : (k5 : Int) < (t.size : Int) := by omega
          have HP : Hid (placeM t = some k5) := by show _ = _; rw [HPL.out, if_neg hk]
          clear hk
          go_wp2_with fail
          go_quiet (fail)
          go_wp2_with fail
          refine bodyPost_ret (v := .tuple #[.pointer none, .int .i64 4, .int .i64 (k5 : Int)]) (by simp [results, Tryz.results6, go_sem]) rfl ⟨ReadPost.some HP.out rfl, F5.out.drewN _⟩
      · rw [hq5] at hPL
        dsimp only at hPL
        have H5 := hide ra5
        have HP : Hid (placeM t = some s5.k) := by show _ = _; rw [hPL, hk5]
        obtain ⟨c0, c1, c2, f1, f2, hl⟩ := H5.out.facts
        clear hPL hq5 ra5 hk5
        obtain ⟨k5, d5, f5, g5', nm5⟩ := s5
        dsimp only at c1 HP
        go_wp2_with fail
        go_quiet (fail)
        go_wp2_with fail
        refine bodyPost_ret (v := .tuple #[.pointer none, .int .i64 4, .int .i64 (k5 : Int)]) (by simp [results, Tryz.results6, go_sem]) rfl ⟨ReadPost.some HP.out rfl, F5.out.drewN _⟩
    · -- (?i, and no )
      have HP : Hid (placeM t = some 3) := by
        show _ = _
        unfold placeM
        rw [if_neg (by omega)]
        unfold readM
        rw [hFM]
        unfold mustM seesM
        rw [if_neg (by simpa using h41)]
        rfl
      by_cases h4 : 4 ≤ t.size
      · have h4i : (4 : Int) ≤ (t.size : Int) := by omega
        have h4l : ¬ (t.size : Int) < 4 := by omega
        obtain ⟨n4, hn4⟩ : ∃ x, t.extract 0 4 = x := ⟨_, rfl⟩
        have e4 : (n4.toList == [40, 63, 105, 41]) = false := by
          rw [beq_eq_false_iff_ne, ← hn4]
          intro h9
          exact h41 ((four_bytes h4).1 h9).2
        obtain ⟨n3, hn3⟩ : ∃ x, t.extract 0 3 = x := ⟨_, rfl⟩
        have e3 : (n3.toList == [40, 63, 105]) = true := by rw [← hn3, h3.2]; rfl
        clear hFM h41 hb3 h3
        go_enter Tryz.func6, Tryz.ntmps6
        go_upto_region 4 with fail
        generalize hw2 : World.alloc _ _ = w2
        have hx2 : Ex [] w w2 := by rw [← hw2]; exact ((Ex.refl _ _).alloc _).alloc _
        have hr2 : BK w2 w.heap.size (.cells #[.slice none 0 0, .int .i64 0, .int .i64 0, .slice none 0 0] 48 (0, 0)) := by rw [← hw2]; exact (BK.new w _).alloc _
        have hp2 : BK w2 (w.heap.size + 1) (.cells #[.string t, .int .i64 0, .bool false, .pointer (some ⟨w.heap.size, 0, none⟩), .bool false, .int .i64 0, .int .i64 0] 50 (0, 0)) := by
          have h9 : BK w2 (w.alloc (Obj.cells #[.slice none 0 0, .int .i64 0, .int .i64 0, .slice none 0 0] 48)).heap.size (.cells #[.string t, .int .i64 0, .bool false, .pointer (some ⟨w.heap.size, 0, none⟩), .bool false, .int .i64 0, .int .i64 0] 50 (0, 0)) := by rw [← hw2]; exact BK.new _ _
          rw [World.size_alloc] at h9
          exact h9
        have H2 := hide (ra_start w w2 t hp2 hr2)
        have X2 := hide hx2
        clear hw2 hx2 hr2 hp2
        go_wp2_with fail
        refine bodyPost_ret (v := .tuple #[.pointer none, .int .i64 4, .int .i64 3]) (by simp [results, Tryz.results6, go_sem]) rfl ⟨ReadPost.some HP.out rfl, X2.out⟩
      · have h4i : ¬ (4 : Int) ≤ (t.size : Int) := by omega
        have h4l : (t.size : Int) < 4 := by omega
        have h2i : (2 : Int) < (t.size : Int) := by omega
        have e3 : (t.toList == [40, 63, 105]) = true := by
          have h9 : t.extract 0 3 = t := by
            rw [show 3 = t.size by omega]
            exact ByteArray.extract_zero_size
          rw [← h9, h3.2]
          rfl
        clear hFM h41 hb3 h3
        go_enter Tryz.func6, Tryz.ntmps6
        go_upto_region 4 with fail
        generalize hw2 : World.alloc _ _ = w2
        have hx2 : Ex [] w w2 := by rw [← hw2]; exact ((Ex.refl _ _).alloc _).alloc _
        have hr2 : BK w2 w.heap.size (.cells #[.slice none 0 0, .int .i64 0, .int .i64 0, .slice none 0 0] 48 (0, 0)) := by rw [← hw2]; exact (BK.new w _).alloc _
        have hp2 : BK w2 (w.heap.size + 1) (.cells #[.string t, .int .i64 0, .bool false, .pointer (some ⟨w.heap.size, 0, none⟩), .bool false, .int .i64 0, .int .i64 0] 50 (0, 0)) := by
          have h9 : BK w2 (w.alloc (Obj.cells #[.slice none 0 0, .int .i64 0, .int .i64 0, .slice none 0 0] 48)).heap.size (.cells #[.string t, .int .i64 0, .bool false, .pointer (some ⟨w.heap.size, 0, none⟩), .bool false, .int .i64 0, .int .i64 0] 50 (0, 0)) := by rw [← hw2]; exact BK.new _ _
          rw [World.size_alloc] at h9
          exact h9
        have H2 := hide (ra_start w w2 t hp2 hr2)
        have X2 := hide hx2
        clear hw2 hx2 hr2 hp2
        go_wp2_with fail
        refine bodyPost_ret (v := .tuple #[.pointer none, .int .i64 4, .int .i64 3]) (by simp [results, Tryz.results6, go_sem]) rfl ⟨ReadPost.some HP.out rfl, X2.out⟩
  · have HFM : Hid (foldM t = .ok () startS) := by
      show _ = _
      unfold foldM
      rw [if_neg]
      intro hb
      have h3s : 3 ≤ t.size := byte_lt hb.2.2
      exact h3 ⟨h3s, (three_bytes h3s).2 hb⟩
    by_cases h4 : 4 ≤ t.size
    · have h4i : (4 : Int) ≤ (t.size : Int) := by omega
      have h4l : ¬ (t.size : Int) < 4 := by omega
      obtain ⟨n4, hn4⟩ : ∃ x, t.extract 0 4 = x := ⟨_, rfl⟩
      have e4 : (n4.toList == [40, 63, 105, 41]) = false := by
        rw [beq_eq_false_iff_ne, ← hn4]
        intro h9
        exact h3 ⟨by omega, ((four_bytes h4).1 h9).1⟩
      obtain ⟨n3, hn3⟩ : ∃ x, t.extract 0 3 = x := ⟨_, rfl⟩
      have e3 : (n3.toList == [40, 63, 105]) = false := by
        rw [beq_eq_false_iff_ne, ← hn3]
        intro h9
        exact h3 ⟨by omega, h9⟩
      clear h3
      go_enter Tryz.func6, Tryz.ntmps6
      go_upto_region 4 with fail
      generalize hw2 : World.alloc _ _ = w2
      have hx2 : Ex [] w w2 := by rw [← hw2]; exact ((Ex.refl _ _).alloc _).alloc _
      have hr2 : BK w2 w.heap.size (.cells #[.slice none 0 0, .int .i64 0, .int .i64 0, .slice none 0 0] 48 (0, 0)) := by rw [← hw2]; exact (BK.new w _).alloc _
      have hp2 : BK w2 (w.heap.size + 1) (.cells #[.string t, .int .i64 0, .bool false, .pointer (some ⟨w.heap.size, 0, none⟩), .bool false, .int .i64 0, .int .i64 0] 50 (0, 0)) := by
        have h9 : BK w2 (w.alloc (Obj.cells #[.slice none 0 0, .int .i64 0, .int .i64 0, .slice none 0 0] 48)).heap.size (.cells #[.string t, .int .i64 0, .bool false, .pointer (some ⟨w.heap.size, 0, none⟩), .bool false, .int .i64 0, .int .i64 0] 50 (0, 0)) := by rw [← hw2]; exact BK.new _ _
        rw [World.size_alloc] at h9
        exact h9
      have H2 := hide (ra_start w w2 t hp2 hr2)
      have X2 := hide hx2
      clear hw2 hx2 hr2 hp2
      have H3 := H2
      have hX3 := X2
      clear H2 X2
      have KX := hide (expr_all (p := w.heap.size + 1) (r := w.heap.size) (base := w.heap.size) ht 7 0 rfl (by decide) _ _ _ _ H3.out rfl (by decide) (Nat.zero_le _) (by omega))
      go_wp2_with fail
      refine KX.out.mono ?_
      rintro e w5 ⟨hf5, hp5⟩
      obtain ⟨y5, hy5, hz5⟩ := hp5.split
      subst hy5
      have F5 := hide (EB.toEx ((EB.ofEx hX3.out (Nat.le_refl _)).trans hf5.eb))
      clear hp5 hf5 KX
      have hPL := place_of ht HFM.out
      rcases hz5 with ⟨q, s5, n5, hq5, ra5, hn5⟩ | ⟨s9, s5, hv5, n5, hq5, hk5, hd5, ra5, hn5⟩
      · rw [hq5] at hPL
        dsimp only at hPL
        have hsz := (exprAt_fine ht 7 (by decide) _ _ _ hq5 (by decide) (Nat.zero_le _)).sz (Nat.zero_le _)
        have H5 := hide ra5
        have HPL := hide hPL
        obtain ⟨wq, hwq⟩ : ∃ x, x = wt q := ⟨_, rfl⟩
        have HWQ := hide hwq
        rw [← hwq] at HPL
        obtain ⟨m3, m5, m6, g5, g6, mr, gr, hrl⟩ := H5.out.more
        rw [← hwq] at m6
        obtain ⟨c0, c1, c2, f1, f2, hl⟩ := H5.out.facts
        obtain ⟨av, nv, xs, ns, hbr, _⟩ := H5.out.rn.ex
        have r1 : w5.cell? ⟨w.heap.size, 1, none⟩ = some (.int .i64 0) := hbr.all.1 1
        have rf1 : w5.frozen? ⟨w.heap.size, 1, none⟩ = false := hbr.all.2 1
        clear hPL hq5 ra5 hwq hbr
        obtain ⟨k5, d5, f5, g5', nm5⟩ := s5
        dsimp only at c1 hsz HPL
        by_cases hk : k5 = t.size
        · have hlt : ¬ (k5 : Int) < (t.size : Int) := by omega
          by_cases h120 : 120 < wq
          · have h120i : (120 : Int) < (wq : Int) := by omega
            have HP : Hid (placeM t = some t.size) := by show _ = _; rw [HPL.out, if_pos hk, if_pos h120]
            clear hk
            go_wp2_with fail
            refine bodyPost_ret (v := .tuple #[.pointer none, .int .i64 4, .int .i64 (t.size : Int)]) (by simp [results, Tryz.results6, go_sem]) rfl ⟨ReadPost.some HP.out rfl, F5.out⟩
          · have h120i : ¬ (120 : Int) < (wq : Int) := by omega
            have HP : Hid (placeM t = none) := by show _ = _; rw [HPL.out, if_pos hk, if_neg h120]
            clear hk
            go_upto_region 17 with fail
            generalize hw9 : World.setCell _ _ _ = w6
            have hx6 : Ex [w.heap.size] w5 w6 := by rw [← hw9]; exact (Ex.refl _ _).setCell (.inl (by simp)) _
            have hp6 := H5.out.rk
            unfold RK at hp6
            have hb6 := hp6.ex hx6 (by simp)
            have m36 : w6.cell? ⟨w.heap.size + 1, 3, none⟩ = some (.pointer (some ⟨w.heap.size, 0, none⟩)) := hb6.all.1 3
            have hl6 := hb6.lt
            have F6 : Hid (Ex [] w w6) := Ex.own F5.out hx6
            clear hw9 hx6 hp6 hb6 c0 c1 c2 f1 f2 hl m3 m5 m6 g5 g6 mr gr hrl r1 rf1
            go_wp2_with fail
            refine bodyPost_ret (v := .tuple #[.pointer (some ⟨w.heap.size, 0, none⟩), .int .i64 0, .int .i64 0]) (by simp [results, Tryz.results6, go_sem]) rfl ⟨ReadPost.none HP.out, F6.out⟩
        · have hlt : (k5 : Int) < (t.size : Int) := by omega
          have HP : Hid (placeM t = some k5) := by show _ = _; rw [HPL.out, if_neg hk]
          clear hk
          go_wp2_with fail
          go_quiet (fail)
          go_wp2_with fail
          refine bodyPost_ret (v := .tuple #[.pointer none, .int .i64 4, .int .i64 (k5 : Int)]) (by simp [results, Tryz.results6, go_sem]) rfl ⟨ReadPost.some HP.out rfl, F5.out.drewN _⟩
      · rw [hq5] at hPL
        dsimp only at hPL
        have H5 := hide ra5
        have HP : Hid (placeM t = some s5.k) := by show _ = _; rw [hPL, hk5]
        obtain ⟨c0, c1, c2, f1, f2, hl⟩ := H5.out.facts
        clear hPL hq5 ra5 hk5
        obtain ⟨k5, d5, f5, g5', nm5⟩ := s5
        dsimp only at c1 HP
        go_wp2_with fail
        go_quiet (fail)
        go_wp2_with fail
        refine bodyPost_ret (v := .tuple #[.pointer none, .int .i64 4, .int .i64 (k5 : Int)]) (by simp [results, Tryz.results6, go_sem]) rfl ⟨ReadPost.some HP.out rfl, F5.out.drewN _⟩
    · have h4i : ¬ (4 : Int) ≤ (t.size : Int) := by omega
      have h4l : (t.size : Int) < 4 := by omega
      by_cases h2 : 2 < t.size
      · have h2i : (2 : Int) < (t.size : Int) := by omega
        have e3 : (t.toList == [40, 63, 105]) = false := by
          rw [beq_eq_false_iff_ne]
          intro h9
          have h10 : t.extract 0 3 = t := by
            rw [show 3 = t.size by omega]
            exact ByteArray.extract_zero_size
          exact h3 ⟨by omega, by rw [h10]; exact h9⟩
        clear h3
        go_enter Tryz.func6, Tryz.ntmps6
        go_upto_region 4 with fail
        generalize hw2 : World.alloc _ _ = w2
        have hx2 : Ex [] w w2 := by rw [← hw2]; exact ((Ex.refl _ _).alloc _).alloc _
        have hr2 : BK w2 w.heap.size (.cells #[.slice none 0 0, .int .i64 0, .int .i64 0, .slice none 0 0] 48 (0, 0)) := by rw [← hw2]; exact (BK.new w _).alloc _
        have hp2 : BK w2 (w.heap.size + 1) (.cells #[.string t, .int .i64 0, .bool false, .pointer (some ⟨w.heap.size, 0, none⟩), .bool false, .int .i64 0, .int .i64 0] 50 (0, 0)) := by
          have h9 : BK w2 (w.alloc (Obj.cells #[.slice none 0 0, .int .i64 0, .int .i64 0, .slice none 0 0] 48)).heap.size (.cells #[.string t, .int .i64 0, .bool false, .pointer (some ⟨w.heap.size, 0, none⟩), .bool false, .int .i64 0, .int .i64 0] 50 (0, 0)) := by rw [← hw2]; exact BK.new _ _
          rw [World.size_alloc] at h9
          exact h9
        have H2 := hide (ra_start w w2 t hp2 hr2)
        have X2 := hide hx2
        clear hw2 hx2 hr2 hp2
        have H3 := H2
        have hX3 := X2
        clear H2 X2
        have KX := hide (expr_all (p := w.heap.size + 1) (r := w.heap.size) (base := w.heap.size) ht 7 0 rfl (by decide) _ _ _ _ H3.out rfl (by decide) (Nat.zero_le _) (by omega))
        go_wp2_with fail
        refine KX.out.mono ?_
        rintro e w5 ⟨hf5, hp5⟩
        obtain ⟨y5, hy5, hz5⟩ := hp5.split
        subst hy5
        have F5 := hide (EB.toEx ((EB.ofEx hX3.out (Nat.le_refl _)).trans hf5.eb))
        clear hp5 hf5 KX
        have hPL := place_of ht HFM.out
        rcases hz5 with ⟨q, s5, n5, hq5, ra5, hn5⟩ | ⟨s9, s5, hv5, n5, hq5, hk5, hd5, ra5, hn5⟩
        · rw [hq5] at hPL
          dsimp only at hPL
          have hsz := (exprAt_fine ht 7 (by decide) _ _ _ hq5 (by decide) (Nat.zero_le _)).sz (Nat.zero_le _)
          have H5 := hide ra5
          have HPL := hide hPL
          obtain ⟨wq, hwq⟩ : ∃ x, x = wt q := ⟨_, rfl⟩
          have HWQ := hide hwq
          rw [← hwq] at HPL
          obtain ⟨m3, m5, m6, g5, g6, mr, gr, hrl⟩ := H5.out.more
          rw [← hwq] at m6
          obtain ⟨c0, c1, c2, f1, f2, hl⟩ := H5.out.facts
          obtain ⟨av, nv, xs, ns, hbr, _⟩ := H5.out.rn.ex
          have r1 : w5.cell? ⟨w.heap.size, 1, none⟩ = some (.int .i64 0) := hbr.all.1 1
          have rf1 : w5.frozen? ⟨w.heap.size, 1, none⟩ = false := hbr.all.2 1
          clear hPL hq5 ra5 hwq hbr
          obtain ⟨k5, d5, f5, g5', nm5⟩ := s5
          dsimp only at c1 hsz HPL
          by_cases hk : k5 = t.size
          · have hlt : ¬ (k5 : Int) < (t.size : Int) := by omega
            by_cases h120 : 120 < wq
            · have h120i : (120 : Int) < (wq : Int) := by omega
              have HP : Hid (placeM t = some t.size) := by show _ = _; rw [HPL.out, if_pos hk, if_pos h120]
              clear hk
              go_wp2_with fail
              refine bodyPost_ret (v := .tuple #[.pointer none, .int .i64 4, .int .i64 (t.size : Int)]) (by simp [results, Tryz.results6, go_sem]) rfl ⟨ReadPost.some HP.out rfl, F5.out⟩
            · have h120i : ¬ (120 : Int) < (wq : Int) := by omega
              have HP : Hid (placeM t = none) := by show _ = _; rw [HPL.out, if_pos hk, if_neg h120]
              clear hk
              go_upto_region 17 with fail
              generalize hw9 : World.setCell _ _ _ = w6
              have hx6 : Ex [w.heap.size] w5 w6 := by rw [← hw9]; exact (Ex.refl _ _).setCell (.inl (by simp)) _
              have hp6 := H5.out.rk
              unfold RK at hp6
              have hb6 := hp6.ex hx6 (by simp)
              have m36 : w6.cell? ⟨w.heap.size + 1, 3, none⟩ = some (.pointer (some ⟨w.heap.size, 0, none⟩)) := hb6.all.1 3
              have hl6 := hb6.lt
              have F6 : Hid (Ex [] w w6) := Ex.own F5.out hx6
              clear hw9 hx6 hp6 hb6 c0 c1 c2 f1 f2 hl m3 m5 m6 g5 g6 mr gr hrl r1 rf1
              go_wp2_with fail
              refine bodyPost_ret (v := .tuple #[.pointer (some ⟨w.heap.size, 0, none⟩), .int .i64 0, .int .i64 0]) (by simp [results, Tryz.results6, go_sem]) rfl ⟨ReadPost.none HP.out, F6.out⟩
          · have hlt : (k5 : Int) < (t.size : Int) := by omega
            have HP : Hid (placeM t = some k5) := by show _ = _; rw [HPL.out, if_neg hk]
            clear hk
            go_wp2_with fail
            go_quiet (fail)
            go_wp2_with fail
            refine bodyPost_ret (v := .tuple #[.pointer none, .int .i64 4, .int .i64 (k5 : Int)]) (by simp [results, Tryz.results6, go_sem]) rfl ⟨ReadPost.some HP.out rfl, F5.out.drewN _⟩
        · rw [hq5] at hPL
          dsimp only at hPL
          have H5 := hide ra5
          have HP : Hid (placeM t = some s5.k) := by show _ = _; rw [hPL, hk5]
          obtain ⟨c0, c1, c2, f1, f2, hl⟩ := H5.out.facts
          clear hPL hq5 ra5 hk5
          obtain ⟨k5, d5, f5, g5', nm5⟩ := s5
          dsimp only at c1 HP
          go_wp2_with fail
          go_quiet (fail)
          go_wp2_with fail
          refine bodyPost_ret (v := .tuple #[.pointer none, .int .i64 4, .int .i64 (k5 : Int)]) (by simp [results, Tryz.results6, go_sem]) rfl ⟨ReadPost.some HP.out rfl, F5.out.drewN _⟩
      · have h2i : ¬ (2 : Int) < (t.size : Int) := by omega
        clear h3
        go_enter Tryz.func6, Tryz.ntmps6
        go_upto_region 4 with fail
        generalize hw2 : World.alloc _ _ = w2
        have hx2 : Ex [] w w2 := by rw [← hw2]; exact ((Ex.refl _ _).alloc _).alloc _
        have hr2 : BK w2 w.heap.size (.cells #[.slice none 0 0, .int .i64 0, .int .i64 0, .slice none 0 0] 48 (0, 0)) := by rw [← hw2]; exact (BK.new w _).alloc _
        have hp2 : BK w2 (w.heap.size + 1) (.cells #[.string t, .int .i64 0, .bool false, .pointer (some ⟨w.heap.size, 0, none⟩), .bool false, .int .i64 0, .int .i64 0] 50 (0, 0)) := by
          have h9 : BK w2 (w.alloc (Obj.cells #[.slice none 0 0, .int .i64 0, .int .i64 0, .slice none 0 0] 48)).heap.size (.cells #[.string t, .int .i64 0, .bool false, .pointer (some ⟨w.heap.size, 0, none⟩), .bool false, .int .i64 0, .int .i64 0] 50 (0, 0)) := by rw [← hw2]; exact BK.new _ _
          rw [World.size_alloc] at h9
          exact h9
        have H2 := hide (ra_start w w2 t hp2 hr2)
        have X2 := hide hx2
        clear hw2 hx2 hr2 hp2
        have H3 := H2
        have hX3 := X2
        clear H2 X2
        have KX := hide (expr_all (p := w.heap.size + 1) (r := w.heap.size) (base := w.heap.size) ht 7 0 rfl (by decide) _ _ _ _ H3.out rfl (by decide) (Nat.zero_le _) (by omega))
        go_wp2_with fail
        refine KX.out.mono ?_
        rintro e w5 ⟨hf5, hp5⟩
        obtain ⟨y5, hy5, hz5⟩ := hp5.split
        subst hy5
        have F5 := hide (EB.toEx ((EB.ofEx hX3.out (Nat.le_refl _)).trans hf5.eb))
        clear hp5 hf5 KX
        have hPL := place_of ht HFM.out
        rcases hz5 with ⟨q, s5, n5, hq5, ra5, hn5⟩ | ⟨s9, s5, hv5, n5, hq5, hk5, hd5, ra5, hn5⟩
        · rw [hq5] at hPL
          dsimp only at hPL
          have hsz := (exprAt_fine ht 7 (by decide) _ _ _ hq5 (by decide) (Nat.zero_le _)).sz (Nat.zero_le _)
          have H5 := hide ra5
          have HPL := hide hPL
          obtain ⟨wq, hwq⟩ : ∃ x, x = wt q := ⟨_, rfl⟩
          have HWQ := hide hwq
          rw [← hwq] at HPL
          obtain ⟨m3, m5, m6, g5, g6, mr, gr, hrl⟩ := H5.out.more
          rw [← hwq] at m6
          obtain ⟨c0, c1, c2, f1, f2, hl⟩ := H5.out.facts
          obtain ⟨av, nv, xs, ns, hbr, _⟩ := H5.out.rn.ex
          have r1 : w5.cell? ⟨w.heap.size, 1, none⟩ = some (.int .i64 0) := hbr.all.1 1
          have rf1 : w5.frozen? ⟨w.heap.size, 1, none⟩ = false := hbr.all.2 1
          clear hPL hq5 ra5 hwq hbr
          obtain ⟨k5, d5, f5, g5', nm5⟩ := s5
          dsimp only at c1 hsz HPL
          by_cases hk : k5 = t.size
          · have hlt : ¬ (k5 : Int) < (t.size : Int) := by omega
            by_cases h120 : 120 < wq
            · have h120i : (120 : Int) < (wq : Int) := by omega
              have HP : Hid (placeM t = some t.size) := by show _ = _; rw [HPL.out, if_pos hk, if_pos h120]
              clear hk
              go_wp2_with fail
              refine bodyPost_ret (v := .tuple #[.pointer none, .int .i64 4, .int .i64 (t.size : Int)]) (by simp [results, Tryz.results6, go_sem]) rfl ⟨ReadPost.some HP.out rfl, F5.out⟩
            · have h120i : ¬ (120 : Int) < (wq : Int) := by omega
              have HP : Hid (placeM t = none) := by show _ = _; rw [HPL.out, if_pos hk, if_neg h120]
              clear hk
              go_upto_region 17 with fail
              generalize hw9 : World.setCell _ _ _ = w6
              have hx6 : Ex [w.heap.size] w5 w6 := by rw [← hw9]; exact (Ex.refl _ _).setCell (.inl (by simp)) _
              have hp6 := H5.out.rk
              unfold RK at hp6
              have hb6 := hp6.ex hx6 (by simp)
              have m36 : w6.cell? ⟨w.heap.size + 1, 3, none⟩ = some (.pointer (some ⟨w.heap.size, 0, none⟩)) := hb6.all.1 3
              have hl6 := hb6.lt
              have F6 : Hid (Ex [] w w6) := Ex.own F5.out hx6
              clear hw9 hx6 hp6 hb6 c0 c1 c2 f1 f2 hl m3 m5 m6 g5 g6 mr gr hrl r1 rf1
              go_wp2_with fail
              refine bodyPost_ret (v := .tuple #[.pointer (some ⟨w.heap.size, 0, none⟩), .int .i64 0, .int .i64 0]) (by simp [results, Tryz.results6, go_sem]) rfl ⟨ReadPost.none HP.out, F6.out⟩
          · have hlt : (k5 : Int) < (t.size : Int) := by omega
            have HP : Hid (placeM t = some k5) := by show _ = _; rw [HPL.out, if_neg hk]
            clear hk
            go_wp2_with fail
            go_quiet (fail)
            go_wp2_with fail
            refine bodyPost_ret (v := .tuple #[.pointer none, .int .i64 4, .int .i64 (k5 : Int)]) (by simp [results, Tryz.results6, go_sem]) rfl ⟨ReadPost.some HP.out rfl, F5.out.drewN _⟩
        · rw [hq5] at hPL
          dsimp only at hPL
          have H5 := hide ra5
          have HP : Hid (placeM t = some s5.k) := by show _ = _; rw [hPL, hk5]
          obtain ⟨c0, c1, c2, f1, f2, hl⟩ := H5.out.facts
          clear hPL hq5 ra5 hk5
          obtain ⟨k5, d5, f5, g5', nm5⟩ := s5
          dsimp only at c1 HP
          go_wp2_with fail
          go_quiet (fail)
          go_wp2_with fail
          refine bodyPost_ret (v := .tuple #[.pointer none, .int .i64 4, .int .i64 (k5 : Int)]) (by simp [results, Tryz.results6, go_sem]) rfl ⟨ReadPost.some HP.out rfl, F5.out.drewN _⟩
end Go.Proofs.YtgmjjhmnchefbaaGreatDoor.G

/- Slices that are handed in: they may begin anywhere in their block. -/
namespace Go.Proofs.YtgmjjhmnchefbaaGreatDoor.G
open Go.RowKit

def SSo (w : World) (p : Option Addr) (ss : List ByteArray) : Prop := ∀ (j : Nat) (s : ByteArray), ss[j]? = some s → ∃ b o, p = some ⟨b, o, none⟩ ∧ b < w.heap.size ∧ w.cell? ⟨b, o + j, none⟩ = some (.string s)
theorem SSo.ex {w w' : World} {p : Option Addr} {ss : List ByteArray} {o : List Nat} (h : SSo w p ss) (hx : Ex o w w') (hn : ∀ y ∈ o, w.heap.size ≤ y) : SSo w' p ss := fun j s hs => by
  obtain ⟨b, off, h1, h2, h3⟩ := h j s hs
  exact ⟨b, off, h1, Nat.lt_of_lt_of_le h2 hx.size, (hx.cell.1 b _ h2 (fun hb => by have := hn b hb; omega)).trans h3⟩
end Go.Proofs.YtgmjjhmnchefbaaGreatDoor.G
