/- The document's own reader of patterns: classes of runes. -/
import Derived.Test.YtgmjjhmnchefbaaGreatDoorM32
set_option linter.unusedVariables false
set_option linter.unusedSimpArgs false
namespace Go.Proofs.YtgmjjhmnchefbaaGreatDoor.G
open Go.RowKit

def isCls (c : Nat) : Bool := [100, 119, 115, 68, 87, 83].contains c
set_option maxHeartbeats 8000000 in
set_option maxRecDepth 100000 in
theorem class_none (c : Nat) (hc : isCls c = false) (hc2 : c < 256) (w : World) :
    Calls Tryz.prog 136 #[.int .u8 (c : Int)] w fun e w' => ∃ cs, cs.length = 129 ∧ e = .returned (.tuple #[.agg (sB cs).toArray, .bool false]) ∧ Ex [] w w' := by
  have hne : ∀ k : Nat, k ∈ [100, 119, 115, 68, 87, 83] → ((c : Int) == (k : Int)) = false := fun k hk => by
    rw [beq_eq_false_iff_ne]
    intro e
    have : c = k := by omega
    subst this
    have : isCls c = true := by unfold isCls; simpa using hk
    rw [hc] at this
    cases this
  have n1 : ((c : Int) == 100) = false := hne 100 (by simp)
  have n2 : ((c : Int) == 119) = false := hne 119 (by simp)
  have n3 : ((c : Int) == 115) = false := hne 115 (by simp)
  have n4 : ((c : Int) == 68) = false := hne 68 (by simp)
  have n5 : ((c : Int) == 87) = false := hne 87 (by simp)
  have n6 : ((c : Int) == 83) = false := hne 83 (by simp)
  clear hne hc
  go_enter Tryz.func136, Tryz.ntmps136
  go_upto_region 2 with fail
  generalize hw2 : World.alloc _ _ = w2
  have hr2 : SB w2 w.heap.size noB := by rw [← hw2]; exact SB.ex (⟨BK.new _ _, rfl⟩ : SB (w.alloc (Obj.cells (sB noB).toArray 107)) w.heap.size noB) ((Ex.refl [] _).alloc _) (by simp)
  have hs2 : SB w2 (w.heap.size + 1) noB := by
    have h9 : BK w2 (w.alloc (Obj.cells (sB noB).toArray 107)).heap.size (.cells (sB noB).toArray 107 (0, 0)) := by rw [← hw2]; exact BK.new _ _
    rw [World.size_alloc] at h9
    exact ⟨h9, rfl⟩
  have hx2 : Ex [] w w2 := by rw [← hw2]; exact ((Ex.refl _ _).alloc _).alloc _
  have HS2 := hide hs2
  have HR2 := hide hr2
  have HX2 := hide hx2
  clear hw2 hs2 hr2 hx2
  go_wp2_with fail
  go_loopg [6] 128 (fun gk i wr => ∃ (j : Nat) (cs : List Bool), j + gk = 128 ∧ j = 0 ∧ i = .int .i64 j ∧ SB wr (w.heap.size + 1) cs ∧ SB wr w.heap.size noB ∧ Ex [] w wr)
  case atStart => exact ⟨0, noB, by omega, rfl, rfl, HS2.out, HR2.out, HX2.out⟩
  case round =>
    obtain ⟨j, cs, hj, hj0, rfl, hs, hr, hx⟩ := hrel
    have hlt := hs.1.lt
    have hlt2 := hr.1.lt
    have hfz := hs.1.all.2
    have hb3 := hs.2
    cases gk with
    | zero => exact absurd hj0 (by omega)
    | succ g =>
      have hj128 : (j : Int) < 128 := by omega
      have hwr : IntKind.u8.wrap (j : Int) = (j : Int) := by rw [IntKind.wrap_u8]; omega
      have HS3 := hide hs
      have HR3 := hide hr
      have HX3 := hide hx
      clear hs hr hx
      go_wp2_with fail
      refine (refDigit _ _).mono ?_
      rintro e w9 ⟨rfl, rfl⟩
      go_wp2_with fail
      refine (refLetter _ _).mono ?_
      rintro e w3 ⟨rfl, rfl⟩
      obtain ⟨T, hT⟩ : ∃ T, T = sB cs := ⟨_, rfl⟩
      have HI : Hid ((Tryz.prog.info? 107).map (·.size) = some T.length) := by rw [hT]; exact infoSet hb3
      have HI2 : Hid ((Tryz.prog.info? 107).map (·.size) = some T.toArray.size) := by rw [hT]; exact infoSetA hb3
      have HAL : Hid (T.toArray.all (·.oneCell') = true) := by rw [hT]; exact all_plain (sB_plain _)
      have HT := hide hT
      have HRG : Hid (World.rangeAt w3 (w.heap.size + 1) 0 T) := by rw [hT]; exact HS3.out.1.rangeL
      have HOLD : Hid ((sB noB).toArray.size = T.toArray.size) := by show _ = _; rw [List.size_toArray, List.size_toArray, hT, sB_len, sB_len, hb3, HR3.out.2]
      clear hT
      go_wp2_with (first
        | (refine wpList_load_mid rfl 107 _ rfl (w.heap.size + 1) 0 rfl T _ HRG.out Tryz.underlying107 rfl HI.out ?_)
        | (refine wpList_store_row rfl 107 _ _ rfl (w.heap.size) T.toArray rfl rfl 107 _ HR3.out.1 HI2.out HOLD.out HAL.out ?_))
      have hs4 : SB (w3.setRow (w.heap.size) T.toArray) (w.heap.size) cs := by rw [HT.out]; exact HR3.out.store hb3
      have hl4 := hs4.load
      rw [← HT.out] at hl4
      refine bodyPost_ret (results_cell_tmp rfl rfl hl4) rfl ⟨_, hb3, by rw [HT.out]; rfl, HX3.out.setRow (.inr (by omega)) _⟩
set_option maxHeartbeats 8000000 in
set_option maxRecDepth 100000 in
theorem class100 (w : World) :
    Calls Tryz.prog 136 #[.int .u8 (100 : Int)] w fun e w' => ∃ cs, cs.length = 129 ∧ e = .returned (.tuple #[.agg (sB cs).toArray, .bool true]) ∧ Ex [] w w' := by
  go_enter Tryz.func136, Tryz.ntmps136
  go_upto_region 2 with fail
  generalize hw2 : World.alloc _ _ = w2
  have hr2 : SB w2 w.heap.size noB := by rw [← hw2]; exact SB.ex (⟨BK.new _ _, rfl⟩ : SB (w.alloc (Obj.cells (sB noB).toArray 107)) w.heap.size noB) ((Ex.refl [] _).alloc _) (by simp)
  have hs2 : SB w2 (w.heap.size + 1) noB := by
    have h9 : BK w2 (w.alloc (Obj.cells (sB noB).toArray 107)).heap.size (.cells (sB noB).toArray 107 (0, 0)) := by rw [← hw2]; exact BK.new _ _
    rw [World.size_alloc] at h9
    exact ⟨h9, rfl⟩
  have hx2 : Ex [] w w2 := by rw [← hw2]; exact ((Ex.refl _ _).alloc _).alloc _
  have HS2 := hide hs2
  have HR2 := hide hr2
  have HX2 := hide hx2
  clear hw2 hs2 hr2 hx2
  go_wp2_with fail
  go_loopg [6] 128 (fun gk i wr => ∃ (j : Nat) (cs : List Bool), j + gk = 128 ∧ i = .int .i64 j ∧ SB wr (w.heap.size + 1) cs ∧ SB wr w.heap.size noB ∧ Ex [] w wr)
  case atStart => exact ⟨0, noB, by omega, rfl, HS2.out, HR2.out, HX2.out⟩
  case round =>
    obtain ⟨j, cs, hj, rfl, hs, hr, hx⟩ := hrel
    have hlt := hs.1.lt
    have hlt2 := hr.1.lt
    have hfz := hs.1.all.2
    have hb3 := hs.2
    cases gk with
    | zero =>
      obtain rfl : j = 128 := by omega
      have HS3 := hide hs
      have HR3 := hide hr
      have HX3 := hide hx
      obtain ⟨w3, hw3⟩ : ∃ w3, w3 = wr := ⟨_, rfl⟩
      subst hw3
      clear hs hr hx
      obtain ⟨T, hT⟩ : ∃ T, T = sB cs := ⟨_, rfl⟩
      have HI : Hid ((Tryz.prog.info? 107).map (·.size) = some T.length) := by rw [hT]; exact infoSet hb3
      have HI2 : Hid ((Tryz.prog.info? 107).map (·.size) = some T.toArray.size) := by rw [hT]; exact infoSetA hb3
      have HAL : Hid (T.toArray.all (·.oneCell') = true) := by rw [hT]; exact all_plain (sB_plain _)
      have HT := hide hT
      have HRG : Hid (World.rangeAt w3 (w.heap.size + 1) 0 T) := by rw [hT]; exact HS3.out.1.rangeL
      have HOLD : Hid ((sB noB).toArray.size = T.toArray.size) := by show _ = _; rw [List.size_toArray, List.size_toArray, hT, sB_len, sB_len, hb3, HR3.out.2]
      clear hT
      go_wp2_with (first
        | (refine wpList_load_mid rfl 107 _ rfl (w.heap.size + 1) 0 rfl T _ HRG.out Tryz.underlying107 rfl HI.out ?_)
        | (refine wpList_store_row rfl 107 _ _ rfl (w.heap.size) T.toArray rfl rfl 107 _ HR3.out.1 HI2.out HOLD.out HAL.out ?_))
      have hs4 : SB (w3.setRow (w.heap.size) T.toArray) (w.heap.size) cs := by rw [HT.out]; exact HR3.out.store hb3
      have hl4 := hs4.load
      rw [← HT.out] at hl4
      refine bodyPost_ret (results_cell_tmp rfl rfl hl4) rfl ⟨_, hb3, by rw [HT.out]; rfl, HX3.out.setRow (.inr (by omega)) _⟩
    | succ g =>
      have hj128 : (j : Int) < 128 := by omega
      have hwr : IntKind.u8.wrap (j : Int) = (j : Int) := by rw [IntKind.wrap_u8]; omega
      obtain ⟨x, _, hcx⟩ := hs.cell j (by omega)
      have key : ∀ b : Bool, SB (wr.setCell ⟨w.heap.size + 1, j, none⟩ (.bool b)) (w.heap.size + 1) (cs.set j b) ∧ SB (wr.setCell ⟨w.heap.size + 1, j, none⟩ (.bool b)) w.heap.size noB ∧ Ex [] w (wr.setCell ⟨w.heap.size + 1, j, none⟩ (.bool b)) := fun b => ⟨hs.set _ b, ⟨hr.1.set (by simp) _, hr.2⟩, hx.setCell (.inr (by simp)) _⟩
      have KEY := hide key
      clear hs hr hx key
      go_wp2_with fail
      refine (refDigit _ _).mono ?_
      rintro e w9 ⟨rfl, rfl⟩
      go_wp2_with fail
      refine (refLetter _ _).mono ?_
      rintro e w9 ⟨rfl, rfl⟩
      obtain ⟨d, hd⟩ : ∃ d, d = digB (j : Int) := ⟨_, rfl⟩
      obtain ⟨l, hl⟩ : ∃ l, l = letB (j : Int) := ⟨_, rfl⟩
      try rw [← hd]
      try rw [← hl]
      clear hd hl
      go_wp2_with fail
      go_roundg g
      case measure => omega
      case rel => exact ⟨j + 1, _, by omega, by simp, (KEY.out _).1, (KEY.out _).2.1, (KEY.out _).2.2⟩
set_option maxHeartbeats 8000000 in
set_option maxRecDepth 100000 in
theorem class119 (w : World) :
    Calls Tryz.prog 136 #[.int .u8 (119 : Int)] w fun e w' => ∃ cs, cs.length = 129 ∧ e = .returned (.tuple #[.agg (sB cs).toArray, .bool true]) ∧ Ex [] w w' := by
  go_enter Tryz.func136, Tryz.ntmps136
  go_upto_region 2 with fail
  generalize hw2 : World.alloc _ _ = w2
  have hr2 : SB w2 w.heap.size noB := by rw [← hw2]; exact SB.ex (⟨BK.new _ _, rfl⟩ : SB (w.alloc (Obj.cells (sB noB).toArray 107)) w.heap.size noB) ((Ex.refl [] _).alloc _) (by simp)
  have hs2 : SB w2 (w.heap.size + 1) noB := by
    have h9 : BK w2 (w.alloc (Obj.cells (sB noB).toArray 107)).heap.size (.cells (sB noB).toArray 107 (0, 0)) := by rw [← hw2]; exact BK.new _ _
    rw [World.size_alloc] at h9
    exact ⟨h9, rfl⟩
  have hx2 : Ex [] w w2 := by rw [← hw2]; exact ((Ex.refl _ _).alloc _).alloc _
  have HS2 := hide hs2
  have HR2 := hide hr2
  have HX2 := hide hx2
  clear hw2 hs2 hr2 hx2
  go_wp2_with fail
  go_loopg [6] 128 (fun gk i wr => ∃ (j : Nat) (cs : List Bool), j + gk = 128 ∧ i = .int .i64 j ∧ SB wr (w.heap.size + 1) cs ∧ SB wr w.heap.size noB ∧ Ex [] w wr)
  case atStart => exact ⟨0, noB, by omega, rfl, HS2.out, HR2.out, HX2.out⟩
  case round =>
    obtain ⟨j, cs, hj, rfl, hs, hr, hx⟩ := hrel
    have hlt := hs.1.lt
    have hlt2 := hr.1.lt
    have hfz := hs.1.all.2
    have hb3 := hs.2
    cases gk with
    | zero =>
      obtain rfl : j = 128 := by omega
      have HS3 := hide hs
      have HR3 := hide hr
      have HX3 := hide hx
      obtain ⟨w3, hw3⟩ : ∃ w3, w3 = wr := ⟨_, rfl⟩
      subst hw3
      clear hs hr hx
      obtain ⟨T, hT⟩ : ∃ T, T = sB cs := ⟨_, rfl⟩
      have HI : Hid ((Tryz.prog.info? 107).map (·.size) = some T.length) := by rw [hT]; exact infoSet hb3
      have HI2 : Hid ((Tryz.prog.info? 107).map (·.size) = some T.toArray.size) := by rw [hT]; exact infoSetA hb3
      have HAL : Hid (T.toArray.all (·.oneCell') = true) := by rw [hT]; exact all_plain (sB_plain _)
      have HT := hide hT
      have HRG : Hid (World.rangeAt w3 (w.heap.size + 1) 0 T) := by rw [hT]; exact HS3.out.1.rangeL
      have HOLD : Hid ((sB noB).toArray.size = T.toArray.size) := by show _ = _; rw [List.size_toArray, List.size_toArray, hT, sB_len, sB_len, hb3, HR3.out.2]
      clear hT
      go_wp2_with (first
        | (refine wpList_load_mid rfl 107 _ rfl (w.heap.size + 1) 0 rfl T _ HRG.out Tryz.underlying107 rfl HI.out ?_)
        | (refine wpList_store_row rfl 107 _ _ rfl (w.heap.size) T.toArray rfl rfl 107 _ HR3.out.1 HI2.out HOLD.out HAL.out ?_))
      have hs4 : SB (w3.setRow (w.heap.size) T.toArray) (w.heap.size) cs := by rw [HT.out]; exact HR3.out.store hb3
      have hl4 := hs4.load
      rw [← HT.out] at hl4
      refine bodyPost_ret (results_cell_tmp rfl rfl hl4) rfl ⟨_, hb3, by rw [HT.out]; rfl, HX3.out.setRow (.inr (by omega)) _⟩
    | succ g =>
      have hj128 : (j : Int) < 128 := by omega
      have hwr : IntKind.u8.wrap (j : Int) = (j : Int) := by rw [IntKind.wrap_u8]; omega
      obtain ⟨x, _, hcx⟩ := hs.cell j (by omega)
      have key : ∀ b : Bool, SB (wr.setCell ⟨w.heap.size + 1, j, none⟩ (.bool b)) (w.heap.size + 1) (cs.set j b) ∧ SB (wr.setCell ⟨w.heap.size + 1, j, none⟩ (.bool b)) w.heap.size noB ∧ Ex [] w (wr.setCell ⟨w.heap.size + 1, j, none⟩ (.bool b)) := fun b => ⟨hs.set _ b, ⟨hr.1.set (by simp) _, hr.2⟩, hx.setCell (.inr (by simp)) _⟩
      have KEY := hide key
      clear hs hr hx key
      go_wp2_with fail
      refine (refDigit _ _).mono ?_
      rintro e w9 ⟨rfl, rfl⟩
      go_wp2_with fail
      refine (refLetter _ _).mono ?_
      rintro e w9 ⟨rfl, rfl⟩
      obtain ⟨d, hd⟩ : ∃ d, d = digB (j : Int) := ⟨_, rfl⟩
      obtain ⟨l, hl⟩ : ∃ l, l = letB (j : Int) := ⟨_, rfl⟩
      try rw [← hd]
      try rw [← hl]
      clear hd hl
      cases d
      all_goals cases l
      all_goals
        go_wp2_with fail
        go_roundg g
        case measure => omega
        case rel => exact ⟨j + 1, _, by omega, by simp, (KEY.out _).1, (KEY.out _).2.1, (KEY.out _).2.2⟩
set_option maxHeartbeats 8000000 in
set_option maxRecDepth 100000 in
theorem class115 (w : World) :
    Calls Tryz.prog 136 #[.int .u8 (115 : Int)] w fun e w' => ∃ cs, cs.length = 129 ∧ e = .returned (.tuple #[.agg (sB cs).toArray, .bool true]) ∧ Ex [] w w' := by
  go_enter Tryz.func136, Tryz.ntmps136
  go_upto_region 2 with fail
  generalize hw2 : World.alloc _ _ = w2
  have hr2 : SB w2 w.heap.size noB := by rw [← hw2]; exact SB.ex (⟨BK.new _ _, rfl⟩ : SB (w.alloc (Obj.cells (sB noB).toArray 107)) w.heap.size noB) ((Ex.refl [] _).alloc _) (by simp)
  have hs2 : SB w2 (w.heap.size + 1) noB := by
    have h9 : BK w2 (w.alloc (Obj.cells (sB noB).toArray 107)).heap.size (.cells (sB noB).toArray 107 (0, 0)) := by rw [← hw2]; exact BK.new _ _
    rw [World.size_alloc] at h9
    exact ⟨h9, rfl⟩
  have hx2 : Ex [] w w2 := by rw [← hw2]; exact ((Ex.refl _ _).alloc _).alloc _
  have HS2 := hide hs2
  have HR2 := hide hr2
  have HX2 := hide hx2
  clear hw2 hs2 hr2 hx2
  go_wp2_with fail
  go_loopg [6] 128 (fun gk i wr => ∃ (j : Nat) (cs : List Bool), j + gk = 128 ∧ i = .int .i64 j ∧ SB wr (w.heap.size + 1) cs ∧ SB wr w.heap.size noB ∧ Ex [] w wr)
  case atStart => exact ⟨0, noB, by omega, rfl, HS2.out, HR2.out, HX2.out⟩
  case round =>
    obtain ⟨j, cs, hj, rfl, hs, hr, hx⟩ := hrel
    have hlt := hs.1.lt
    have hlt2 := hr.1.lt
    have hfz := hs.1.all.2
    have hb3 := hs.2
    cases gk with
    | zero =>
      obtain rfl : j = 128 := by omega
      have HS3 := hide hs
      have HR3 := hide hr
      have HX3 := hide hx
      obtain ⟨w3, hw3⟩ : ∃ w3, w3 = wr := ⟨_, rfl⟩
      subst hw3
      clear hs hr hx
      obtain ⟨T, hT⟩ : ∃ T, T = sB cs := ⟨_, rfl⟩
      have HI : Hid ((Tryz.prog.info? 107).map (·.size) = some T.length) := by rw [hT]; exact infoSet hb3
      have HI2 : Hid ((Tryz.prog.info? 107).map (·.size) = some T.toArray.size) := by rw [hT]; exact infoSetA hb3
      have HAL : Hid (T.toArray.all (·.oneCell') = true) := by rw [hT]; exact all_plain (sB_plain _)
      have HT := hide hT
      have HRG : Hid (World.rangeAt w3 (w.heap.size + 1) 0 T) := by rw [hT]; exact HS3.out.1.rangeL
      have HOLD : Hid ((sB noB).toArray.size = T.toArray.size) := by show _ = _; rw [List.size_toArray, List.size_toArray, hT, sB_len, sB_len, hb3, HR3.out.2]
      clear hT
      go_wp2_with (first
        | (refine wpList_load_mid rfl 107 _ rfl (w.heap.size + 1) 0 rfl T _ HRG.out Tryz.underlying107 rfl HI.out ?_)
        | (refine wpList_store_row rfl 107 _ _ rfl (w.heap.size) T.toArray rfl rfl 107 _ HR3.out.1 HI2.out HOLD.out HAL.out ?_))
      have hs4 : SB (w3.setRow (w.heap.size) T.toArray) (w.heap.size) cs := by rw [HT.out]; exact HR3.out.store hb3
      have hl4 := hs4.load
      rw [← HT.out] at hl4
      refine bodyPost_ret (results_cell_tmp rfl rfl hl4) rfl ⟨_, hb3, by rw [HT.out]; rfl, HX3.out.setRow (.inr (by omega)) _⟩
    | succ g =>
      have hj128 : (j : Int) < 128 := by omega
      have hwr : IntKind.u8.wrap (j : Int) = (j : Int) := by rw [IntKind.wrap_u8]; omega
      obtain ⟨x, _, hcx⟩ := hs.cell j (by omega)
      have key : ∀ b : Bool, SB (wr.setCell ⟨w.heap.size + 1, j, none⟩ (.bool b)) (w.heap.size + 1) (cs.set j b) ∧ SB (wr.setCell ⟨w.heap.size + 1, j, none⟩ (.bool b)) w.heap.size noB ∧ Ex [] w (wr.setCell ⟨w.heap.size + 1, j, none⟩ (.bool b)) := fun b => ⟨hs.set _ b, ⟨hr.1.set (by simp) _, hr.2⟩, hx.setCell (.inr (by simp)) _⟩
      have KEY := hide key
      clear hs hr hx key
      go_wp2_with fail
      refine (refDigit _ _).mono ?_
      rintro e w9 ⟨rfl, rfl⟩
      go_wp2_with fail
      refine (refLetter _ _).mono ?_
      rintro e w9 ⟨rfl, rfl⟩
      obtain ⟨d, hd⟩ : ∃ d, d = digB (j : Int) := ⟨_, rfl⟩
      obtain ⟨l, hl⟩ : ∃ l, l = letB (j : Int) := ⟨_, rfl⟩
      try rw [← hd]
      try rw [← hl]
      clear hd hl
      cases h1 : ((j : Int) == 32)
      all_goals cases h2 : ((j : Int) == 9)
      all_goals cases h3 : ((j : Int) == 10)
      all_goals
        go_wp2_with fail
        go_roundg g
        case measure => omega
        case rel => exact ⟨j + 1, _, by omega, by simp, (KEY.out _).1, (KEY.out _).2.1, (KEY.out _).2.2⟩
set_option maxHeartbeats 8000000 in
set_option maxRecDepth 100000 in
theorem class68 (w : World) :
    Calls Tryz.prog 136 #[.int .u8 (68 : Int)] w fun e w' => ∃ cs, cs.length = 129 ∧ e = .returned (.tuple #[.agg (sB cs).toArray, .bool true]) ∧ Ex [] w w' := by
  go_enter Tryz.func136, Tryz.ntmps136
  go_upto_region 2 with fail
  generalize hw2 : World.alloc _ _ = w2
  have hr2 : SB w2 w.heap.size noB := by rw [← hw2]; exact SB.ex (⟨BK.new _ _, rfl⟩ : SB (w.alloc (Obj.cells (sB noB).toArray 107)) w.heap.size noB) ((Ex.refl [] _).alloc _) (by simp)
  have hs2 : SB w2 (w.heap.size + 1) noB := by
    have h9 : BK w2 (w.alloc (Obj.cells (sB noB).toArray 107)).heap.size (.cells (sB noB).toArray 107 (0, 0)) := by rw [← hw2]; exact BK.new _ _
    rw [World.size_alloc] at h9
    exact ⟨h9, rfl⟩
  have hx2 : Ex [] w w2 := by rw [← hw2]; exact ((Ex.refl _ _).alloc _).alloc _
  have HS2 := hide hs2
  have HR2 := hide hr2
  have HX2 := hide hx2
  clear hw2 hs2 hr2 hx2
  go_wp2_with fail
  go_loopg [6] 128 (fun gk i wr => ∃ (j : Nat) (cs : List Bool), j + gk = 128 ∧ i = .int .i64 j ∧ SB wr (w.heap.size + 1) cs ∧ SB wr w.heap.size noB ∧ Ex [] w wr)
  case atStart => exact ⟨0, noB, by omega, rfl, HS2.out, HR2.out, HX2.out⟩
  case round =>
    obtain ⟨j, cs, hj, rfl, hs, hr, hx⟩ := hrel
    have hlt := hs.1.lt
    have hlt2 := hr.1.lt
    have hfz := hs.1.all.2
    have hb3 := hs.2
    cases gk with
    | zero =>
      obtain rfl : j = 128 := by omega
      have HS2 := hide hs
      have HR2 := hide hr
      have HX2 := hide hx
      obtain ⟨Z, hZ⟩ : ∃ Z, Z = sB cs := ⟨_, rfl⟩
      have HRZ : Hid (World.rangeAt wr (w.heap.size + 1) 0 Z) := by rw [hZ]; exact hs.1.rangeL
      have HIZ : Hid ((Tryz.prog.info? 107).map (·.size) = some Z.length) := by rw [hZ]; exact infoSet hb3
      have KI := hide (inverse_any cs wr hb3)
      rw [← hZ] at KI
      have hzl : Z.length = 129 := by rw [hZ, sB_len]; exact hb3
      clear hs hr hx hZ
      go_wp2_with (refine wpList_load_mid rfl 107 _ rfl (w.heap.size + 1) 0 rfl Z _ HRZ.out Tryz.underlying107 rfl HIZ.out ?_)
      refine KI.out.mono ?_
      rintro e w4 ⟨rfl, hx4⟩
      have hs4 := HS2.out.ex hx4 (by simp)
      have hr4 := HR2.out.ex hx4 (by simp)
      have hx5 := HX2.out.trans hx4
      have hbi : (cs.map (!·)).length = 129 := by simp [hb3]
      obtain ⟨V, hV⟩ : ∃ V, V = sB (cs.map (!·)) := ⟨_, rfl⟩
      have HIV : Hid ((Tryz.prog.info? 107).map (·.size) = some V.toArray.size) := by rw [hV]; exact infoSetA hbi
      have HALV : Hid (V.toArray.all (·.oneCell') = true) := by rw [hV]; exact all_plain (sB_plain _)
      have HOLDV : Hid ((sB cs).toArray.size = V.toArray.size) := by show _ = _; rw [List.size_toArray, List.size_toArray, hV, sB_len, sB_len, hbi, hb3]
      have HSV := hide hs4
      rw [← hV]
      have hs6 : SB (w4.setRow (w.heap.size + 1) V.toArray) (w.heap.size + 1) (cs.map (!·)) := by rw [hV]; exact hs4.store hbi
      have hr6 : SB (w4.setRow (w.heap.size + 1) V.toArray) w.heap.size noB := ⟨by unfold BK; rw [setRow_other _ _ _ _ (by omega)]; exact hr4.1, hr4.2⟩
      have hx6 : Ex [] w (w4.setRow (w.heap.size + 1) V.toArray) := hx5.setRow (.inr (by omega)) _
      have hl6 := hs6.1.lt
      have hl7 := hr6.1.lt
      obtain ⟨w3, hw3⟩ : ∃ w3, w3 = w4.setRow (w.heap.size + 1) V.toArray := ⟨_, rfl⟩
      rw [← hw3] at hs6 hr6 hx6 hl6 hl7
      have HW3 := hide hw3
      have HS3 := hide hs6
      have HR3 := hide hr6
      have HX3 := hide hx6
      clear hs4 hr4 hx4 hx5 hs6 hr6 hx6 hV hw3
      obtain ⟨T, hT⟩ : ∃ T, T = sB (cs.map (!·)) := ⟨_, rfl⟩
      have HI : Hid ((Tryz.prog.info? 107).map (·.size) = some T.length) := by rw [hT]; exact infoSet hbi
      have HI2 : Hid ((Tryz.prog.info? 107).map (·.size) = some T.toArray.size) := by rw [hT]; exact infoSetA hbi
      have HAL : Hid (T.toArray.all (·.oneCell') = true) := by rw [hT]; exact all_plain (sB_plain _)
      have HT := hide hT
      have HRG : Hid (World.rangeAt w3 (w.heap.size + 1) 0 T) := by rw [hT]; exact HS3.out.1.rangeL
      have HOLD : Hid ((sB noB).toArray.size = T.toArray.size) := by show _ = _; rw [List.size_toArray, List.size_toArray, hT, sB_len, sB_len, hbi, HR3.out.2]
      clear hT
      go_wp2_with (first
        | (refine wpList_store_row rfl 107 _ _ rfl (w.heap.size + 1) V.toArray rfl rfl 107 _ HSV.out.1 HIV.out HOLDV.out HALV.out ?_; rw [← HW3.out])
        | (refine wpList_load_mid rfl 107 _ rfl (w.heap.size + 1) 0 rfl T _ HRG.out Tryz.underlying107 rfl HI.out ?_)
        | (refine wpList_store_row rfl 107 _ _ rfl (w.heap.size) T.toArray rfl rfl 107 _ HR3.out.1 HI2.out HOLD.out HAL.out ?_))
      have hs4 : SB (w3.setRow (w.heap.size) T.toArray) (w.heap.size) (cs.map (!·)) := by rw [HT.out]; exact HR3.out.store hbi
      have hl4 := hs4.load
      rw [← HT.out] at hl4
      refine bodyPost_ret (results_cell_tmp rfl rfl hl4) rfl ⟨_, hbi, by rw [HT.out]; rfl, HX3.out.setRow (.inr (by omega)) _⟩
    | succ g =>
      have hj128 : (j : Int) < 128 := by omega
      have hwr : IntKind.u8.wrap (j : Int) = (j : Int) := by rw [IntKind.wrap_u8]; omega
      obtain ⟨x, _, hcx⟩ := hs.cell j (by omega)
      have key : ∀ b : Bool, SB (wr.setCell ⟨w.heap.size + 1, j, none⟩ (.bool b)) (w.heap.size + 1) (cs.set j b) ∧ SB (wr.setCell ⟨w.heap.size + 1, j, none⟩ (.bool b)) w.heap.size noB ∧ Ex [] w (wr.setCell ⟨w.heap.size + 1, j, none⟩ (.bool b)) := fun b => ⟨hs.set _ b, ⟨hr.1.set (by simp) _, hr.2⟩, hx.setCell (.inr (by simp)) _⟩
      have KEY := hide key
      clear hs hr hx key
      go_wp2_with fail
      refine (refDigit _ _).mono ?_
      rintro e w9 ⟨rfl, rfl⟩
      go_wp2_with fail
      refine (refLetter _ _).mono ?_
      rintro e w9 ⟨rfl, rfl⟩
      obtain ⟨d, hd⟩ : ∃ d, d = digB (j : Int) := ⟨_, rfl⟩
      obtain ⟨l, hl⟩ : ∃ l, l = letB (j : Int) := ⟨_, rfl⟩
      try rw [← hd]
      try rw [← hl]
      clear hd hl
      go_wp2_with fail
      go_roundg g
      case measure => omega
      case rel => exact ⟨j + 1, _, by omega, by simp, (KEY.out _).1, (KEY.out _).2.1, (KEY.out _).2.2⟩
set_option maxHeartbeats 8000000 in
set_option maxRecDepth 100000 in
theorem class87 (w : World) :
    Calls Tryz.prog 136 #[.int .u8 (87 : Int)] w fun e w' => ∃ cs, cs.length = 129 ∧ e = .returned (.tuple #[.agg (sB cs).toArray, .bool true]) ∧ Ex [] w w' := by
  go_enter Tryz.func136, Tryz.ntmps136
  go_upto_region 2 with fail
  generalize hw2 : World.alloc _ _ = w2
  have hr2 : SB w2 w.heap.size noB := by rw [← hw2]; exact SB.ex (⟨BK.new _ _, rfl⟩ : SB (w.alloc (Obj.cells (sB noB).toArray 107)) w.heap.size noB) ((Ex.refl [] _).alloc _) (by simp)
  have hs2 : SB w2 (w.heap.size + 1) noB := by
    have h9 : BK w2 (w.alloc (Obj.cells (sB noB).toArray 107)).heap.size (.cells (sB noB).toArray 107 (0, 0)) := by rw [← hw2]; exact BK.new _ _
    rw [World.size_alloc] at h9
    exact ⟨h9, rfl⟩
  have hx2 : Ex [] w w2 := by rw [← hw2]; exact ((Ex.refl _ _).alloc _).alloc _
  have HS2 := hide hs2
  have HR2 := hide hr2
  have HX2 := hide hx2
  clear hw2 hs2 hr2 hx2
  go_wp2_with fail
  go_loopg [6] 128 (fun gk i wr => ∃ (j : Nat) (cs : List Bool), j + gk = 128 ∧ i = .int .i64 j ∧ SB wr (w.heap.size + 1) cs ∧ SB wr w.heap.size noB ∧ Ex [] w wr)
  case atStart => exact ⟨0, noB, by omega, rfl, HS2.out, HR2.out, HX2.out⟩
  case round =>
    obtain ⟨j, cs, hj, rfl, hs, hr, hx⟩ := hrel
    have hlt := hs.1.lt
    have hlt2 := hr.1.lt
    have hfz := hs.1.all.2
    have hb3 := hs.2
    cases gk with
    | zero =>
      obtain rfl : j = 128 := by omega
      have HS2 := hide hs
      have HR2 := hide hr
      have HX2 := hide hx
      obtain ⟨Z, hZ⟩ : ∃ Z, Z = sB cs := ⟨_, rfl⟩
      have HRZ : Hid (World.rangeAt wr (w.heap.size + 1) 0 Z) := by rw [hZ]; exact hs.1.rangeL
      have HIZ : Hid ((Tryz.prog.info? 107).map (·.size) = some Z.length) := by rw [hZ]; exact infoSet hb3
      have KI := hide (inverse_any cs wr hb3)
      rw [← hZ] at KI
      have hzl : Z.length = 129 := by rw [hZ, sB_len]; exact hb3
      clear hs hr hx hZ
      go_wp2_with (refine wpList_load_mid rfl 107 _ rfl (w.heap.size + 1) 0 rfl Z _ HRZ.out Tryz.underlying107 rfl HIZ.out ?_)
      refine KI.out.mono ?_
      rintro e w4 ⟨rfl, hx4⟩
      have hs4 := HS2.out.ex hx4 (by simp)
      have hr4 := HR2.out.ex hx4 (by simp)
      have hx5 := HX2.out.trans hx4
      have hbi : (cs.map (!·)).length = 129 := by simp [hb3]
      obtain ⟨V, hV⟩ : ∃ V, V = sB (cs.map (!·)) := ⟨_, rfl⟩
      have HIV : Hid ((Tryz.prog.info? 107).map (·.size) = some V.toArray.size) := by rw [hV]; exact infoSetA hbi
      have HALV : Hid (V.toArray.all (·.oneCell') = true) := by rw [hV]; exact all_plain (sB_plain _)
      have HOLDV : Hid ((sB cs).toArray.size = V.toArray.size) := by show _ = _; rw [List.size_toArray, List.size_toArray, hV, sB_len, sB_len, hbi, hb3]
      have HSV := hide hs4
      rw [← hV]
      have hs6 : SB (w4.setRow (w.heap.size + 1) V.toArray) (w.heap.size + 1) (cs.map (!·)) := by rw [hV]; exact hs4.store hbi
      have hr6 : SB (w4.setRow (w.heap.size + 1) V.toArray) w.heap.size noB := ⟨by unfold BK; rw [setRow_other _ _ _ _ (by omega)]; exact hr4.1, hr4.2⟩
      have hx6 : Ex [] w (w4.setRow (w.heap.size + 1) V.toArray) := hx5.setRow (.inr (by omega)) _
      have hl6 := hs6.1.lt
      have hl7 := hr6.1.lt
      obtain ⟨w3, hw3⟩ : ∃ w3, w3 = w4.setRow (w.heap.size + 1) V.toArray := ⟨_, rfl⟩
      rw [← hw3] at hs6 hr6 hx6 hl6 hl7
      have HW3 := hide hw3
      have HS3 := hide hs6
      have HR3 := hide hr6
      have HX3 := hide hx6
      clear hs4 hr4 hx4 hx5 hs6 hr6 hx6 hV hw3
      obtain ⟨T, hT⟩ : ∃ T, T = sB (cs.map (!·)) := ⟨_, rfl⟩
      have HI : Hid ((Tryz.prog.info? 107).map (·.size) = some T.length) := by rw [hT]; exact infoSet hbi
      have HI2 : Hid ((Tryz.prog.info? 107).map (·.size) = some T.toArray.size) := by rw [hT]; exact infoSetA hbi
      have HAL : Hid (T.toArray.all (·.oneCell') = true) := by rw [hT]; exact all_plain (sB_plain _)
      have HT := hide hT
      have HRG : Hid (World.rangeAt w3 (w.heap.size + 1) 0 T) := by rw [hT]; exact HS3.out.1.rangeL
      have HOLD : Hid ((sB noB).toArray.size = T.toArray.size) := by show _ = _; rw [List.size_toArray, List.size_toArray, hT, sB_len, sB_len, hbi, HR3.out.2]
      clear hT
      go_wp2_with (first
        | (refine wpList_store_row rfl 107 _ _ rfl (w.heap.size + 1) V.toArray rfl rfl 107 _ HSV.out.1 HIV.out HOLDV.out HALV.out ?_; rw [← HW3.out])
        | (refine wpList_load_mid rfl 107 _ rfl (w.heap.size + 1) 0 rfl T _ HRG.out Tryz.underlying107 rfl HI.out ?_)
        | (refine wpList_store_row rfl 107 _ _ rfl (w.heap.size) T.toArray rfl rfl 107 _ HR3.out.1 HI2.out HOLD.out HAL.out ?_))
      have hs4 : SB (w3.setRow (w.heap.size) T.toArray) (w.heap.size) (cs.map (!·)) := by rw [HT.out]; exact HR3.out.store hbi
      have hl4 := hs4.load
      rw [← HT.out] at hl4
      refine bodyPost_ret (results_cell_tmp rfl rfl hl4) rfl ⟨_, hbi, by rw [HT.out]; rfl, HX3.out.setRow (.inr (by omega)) _⟩
    | succ g =>
      have hj128 : (j : Int) < 128 := by omega
      have hwr : IntKind.u8.wrap (j : Int) = (j : Int) := by rw [IntKind.wrap_u8]; omega
      obtain ⟨x, _, hcx⟩ := hs.cell j (by omega)
      have key : ∀ b : Bool, SB (wr.setCell ⟨w.heap.size + 1, j, none⟩ (.bool b)) (w.heap.size + 1) (cs.set j b) ∧ SB (wr.setCell ⟨w.heap.size + 1, j, none⟩ (.bool b)) w.heap.size noB ∧ Ex [] w (wr.setCell ⟨w.heap.size + 1, j, none⟩ (.bool b)) := fun b => ⟨hs.set _ b, ⟨hr.1.set (by simp) _, hr.2⟩, hx.setCell (.inr (by simp)) _⟩
      have KEY := hide key
      clear hs hr hx key
      go_wp2_with fail
      refine (refDigit _ _).mono ?_
      rintro e w9 ⟨rfl, rfl⟩
      go_wp2_with fail
      refine (refLetter _ _).mono ?_
      rintro e w9 ⟨rfl, rfl⟩
      obtain ⟨d, hd⟩ : ∃ d, d = digB (j : Int) := ⟨_, rfl⟩
      obtain ⟨l, hl⟩ : ∃ l, l = letB (j : Int) := ⟨_, rfl⟩
      try rw [← hd]
      try rw [← hl]
      clear hd hl
      cases d
      all_goals cases l
      all_goals
        go_wp2_with fail
        go_roundg g
        case measure => omega
        case rel => exact ⟨j + 1, _, by omega, by simp, (KEY.out _).1, (KEY.out _).2.1, (KEY.out _).2.2⟩
set_option maxHeartbeats 8000000 in
set_option maxRecDepth 100000 in
theorem class83 (w : World) :
    Calls Tryz.prog 136 #[.int .u8 (83 : Int)] w fun e w' => ∃ cs, cs.length = 129 ∧ e = .returned (.tuple #[.agg (sB cs).toArray, .bool true]) ∧ Ex [] w w' := by
  go_enter Tryz.func136, Tryz.ntmps136
  go_upto_region 2 with fail
  generalize hw2 : World.alloc _ _ = w2
  have hr2 : SB w2 w.heap.size noB := by rw [← hw2]; exact SB.ex (⟨BK.new _ _, rfl⟩ : SB (w.alloc (Obj.cells (sB noB).toArray 107)) w.heap.size noB) ((Ex.refl [] _).alloc _) (by simp)
  have hs2 : SB w2 (w.heap.size + 1) noB := by
    have h9 : BK w2 (w.alloc (Obj.cells (sB noB).toArray 107)).heap.size (.cells (sB noB).toArray 107 (0, 0)) := by rw [← hw2]; exact BK.new _ _
    rw [World.size_alloc] at h9
    exact ⟨h9, rfl⟩
  have hx2 : Ex [] w w2 := by rw [← hw2]; exact ((Ex.refl _ _).alloc _).alloc _
  have HS2 := hide hs2
  have HR2 := hide hr2
  have HX2 := hide hx2
  clear hw2 hs2 hr2 hx2
  go_wp2_with fail
  go_loopg [6] 128 (fun gk i wr => ∃ (j : Nat) (cs : List Bool), j + gk = 128 ∧ i = .int .i64 j ∧ SB wr (w.heap.size + 1) cs ∧ SB wr w.heap.size noB ∧ Ex [] w wr)
  case atStart => exact ⟨0, noB, by omega, rfl, HS2.out, HR2.out, HX2.out⟩
  case round =>
    obtain ⟨j, cs, hj, rfl, hs, hr, hx⟩ := hrel
    have hlt := hs.1.lt
    have hlt2 := hr.1.lt
    have hfz := hs.1.all.2
    have hb3 := hs.2
    cases gk with
    | zero =>
      obtain rfl : j = 128 := by omega
      have HS2 := hide hs
      have HR2 := hide hr
      have HX2 := hide hx
      obtain ⟨Z, hZ⟩ : ∃ Z, Z = sB cs := ⟨_, rfl⟩
      have HRZ : Hid (World.rangeAt wr (w.heap.size + 1) 0 Z) := by rw [hZ]; exact hs.1.rangeL
      have HIZ : Hid ((Tryz.prog.info? 107).map (·.size) = some Z.length) := by rw [hZ]; exact infoSet hb3
      have KI := hide (inverse_any cs wr hb3)
      rw [← hZ] at KI
      have hzl : Z.length = 129 := by rw [hZ, sB_len]; exact hb3
      clear hs hr hx hZ
      go_wp2_with (refine wpList_load_mid rfl 107 _ rfl (w.heap.size + 1) 0 rfl Z _ HRZ.out Tryz.underlying107 rfl HIZ.out ?_)
      refine KI.out.mono ?_
      rintro e w4 ⟨rfl, hx4⟩
      have hs4 := HS2.out.ex hx4 (by simp)
      have hr4 := HR2.out.ex hx4 (by simp)
      have hx5 := HX2.out.trans hx4
      have hbi : (cs.map (!·)).length = 129 := by simp [hb3]
      obtain ⟨V, hV⟩ : ∃ V, V = sB (cs.map (!·)) := ⟨_, rfl⟩
      have HIV : Hid ((Tryz.prog.info? 107).map (·.size) = some V.toArray.size) := by rw [hV]; exact infoSetA hbi
      have HALV : Hid (V.toArray.all (·.oneCell') = true) := by rw [hV]; exact all_plain (sB_plain _)
      have HOLDV : Hid ((sB cs).toArray.size = V.toArray.size) := by show _ = _; rw [List.size_toArray, List.size_toArray, hV, sB_len, sB_len, hbi, hb3]
      have HSV := hide hs4
      rw [← hV]
      have hs6 : SB (w4.setRow (w.heap.size + 1) V.toArray) (w.heap.size + 1) (cs.map (!·)) := by rw [hV]; exact hs4.store hbi
      have hr6 : SB (w4.setRow (w.heap.size + 1) V.toArray) w.heap.size noB := ⟨by unfold BK; rw [setRow_other _ _ _ _ (by omega)]; exact hr4.1, hr4.2⟩
      have hx6 : Ex [] w (w4.setRow (w.heap.size + 1) V.toArray) := hx5.setRow (.inr (by omega)) _
      have hl6 := hs6.1.lt
      have hl7 := hr6.1.lt
      obtain ⟨w3, hw3⟩ : ∃ w3, w3 = w4.setRow (w.heap.size + 1) V.toArray := ⟨_, rfl⟩
      rw [← hw3] at hs6 hr6 hx6 hl6 hl7
      have HW3 := hide hw3
      have HS3 := hide hs6
      have HR3 := hide hr6
      have HX3 := hide hx6
      clear hs4 hr4 hx4 hx5 hs6 hr6 hx6 hV hw3
      obtain ⟨T, hT⟩ : ∃ T, T = sB (cs.map (!·)) := ⟨_, rfl⟩
      have HI : Hid ((Tryz.prog.info? 107).map (·.size) = some T.length) := by rw [hT]; exact infoSet hbi
      have HI2 : Hid ((Tryz.prog.info? 107).map (·.size) = some T.toArray.size) := by rw [hT]; exact infoSetA hbi
      have HAL : Hid (T.toArray.all (·.oneCell') = true) := by rw [hT]; exact all_plain (sB_plain _)
      have HT := hide hT
      have HRG : Hid (World.rangeAt w3 (w.heap.size + 1) 0 T) := by rw [hT]; exact HS3.out.1.rangeL
      have HOLD : Hid ((sB noB).toArray.size = T.toArray.size) := by show _ = _; rw [List.size_toArray, List.size_toArray, hT, sB_len, sB_len, hbi, HR3.out.2]
      clear hT
      go_wp2_with (first
        | (refine wpList_store_row rfl 107 _ _ rfl (w.heap.size + 1) V.toArray rfl rfl 107 _ HSV.out.1 HIV.out HOLDV.out HALV.out ?_; rw [← HW3.out])
        | (refine wpList_load_mid rfl 107 _ rfl (w.heap.size + 1) 0 rfl T _ HRG.out Tryz.underlying107 rfl HI.out ?_)
        | (refine wpList_store_row rfl 107 _ _ rfl (w.heap.size) T.toArray rfl rfl 107 _ HR3.out.1 HI2.out HOLD.out HAL.out ?_))
      have hs4 : SB (w3.setRow (w.heap.size) T.toArray) (w.heap.size) (cs.map (!·)) := by rw [HT.out]; exact HR3.out.store hbi
      have hl4 := hs4.load
      rw [← HT.out] at hl4
      refine bodyPost_ret (results_cell_tmp rfl rfl hl4) rfl ⟨_, hbi, by rw [HT.out]; rfl, HX3.out.setRow (.inr (by omega)) _⟩
    | succ g =>
      have hj128 : (j : Int) < 128 := by omega
      have hwr : IntKind.u8.wrap (j : Int) = (j : Int) := by rw [IntKind.wrap_u8]; omega
      obtain ⟨x, _, hcx⟩ := hs.cell j (by omega)
      have key : ∀ b : Bool, SB (wr.setCell ⟨w.heap.size + 1, j, none⟩ (.bool b)) (w.heap.size + 1) (cs.set j b) ∧ SB (wr.setCell ⟨w.heap.size + 1, j, none⟩ (.bool b)) w.heap.size noB ∧ Ex [] w (wr.setCell ⟨w.heap.size + 1, j, none⟩ (.bool b)) := fun b => ⟨hs.set _ b, ⟨hr.1.set (by simp) _, hr.2⟩, hx.setCell (.inr (by simp)) _⟩
      have KEY := hide key
      clear hs hr hx key
      go_wp2_with fail
      refine (refDigit _ _).mono ?_
      rintro e w9 ⟨rfl, rfl⟩
      go_wp2_with fail
      refine (refLetter _ _).mono ?_
      rintro e w9 ⟨rfl, rfl⟩
      obtain ⟨d, hd⟩ : ∃ d, d = digB (j : Int) := ⟨_, rfl⟩
      obtain ⟨l, hl⟩ : ∃ l, l = letB (j : Int) := ⟨_, rfl⟩
      try rw [← hd]
      try rw [← hl]
      clear hd hl
      cases h1 : ((j : Int) == 32)
      all_goals cases h2 : ((j : Int) == 9)
      all_goals cases h3 : ((j : Int) == 10)
      all_goals
        go_wp2_with fail
        go_roundg g
        case measure => omega
        case rel => exact ⟨j + 1, _, by omega, by simp, (KEY.out _).1, (KEY.out _).2.1, (KEY.out _).2.2⟩

theorem class_any (c : Nat) (hc : c < 256) (w : World) :
    Calls Tryz.prog 136 #[.int .u8 (c : Int)] w fun e w' => ∃ cs, cs.length = 129 ∧ e = .returned (.tuple #[.agg (sB cs).toArray, .bool (isCls c)]) ∧ Ex [] w w' := by
  cases h : isCls c with
  | false => exact class_none c h hc w
  | true =>
    unfold isCls at h
    simp at h
    rcases h with rfl | rfl | rfl | rfl | rfl | rfl
    · exact class100 w
    · exact class119 w
    · exact class115 w
    · exact class68 w
    · exact class87 w
    · exact class83 w
end Go.Proofs.YtgmjjhmnchefbaaGreatDoor.G
