/- The document's own reader of patterns: letters of both cases; classes. -/
import Derived.Test.YtgmjjhmnchefbaaGreatDoorM26
set_option linter.unusedVariables false
set_option linter.unusedSimpArgs false
namespace Go.Proofs.YtgmjjhmnchefbaaGreatDoor.G
open Go.RowKit

set_option maxHeartbeats 4000000 in
set_option maxRecDepth 100000 in
theorem folded_any (bs : List Bool) (hb : bs.length = 129) {w : World} {p r : Nat} {t : ByteArray} {s : RS} {bad : Bool} {hv : Int} (h : RK w p r t s bad hv) :
    Calls Tryz.prog 107 #[.pointer (some ⟨p, 0, none⟩), .agg (sB bs).toArray] w fun e w' => ∃ cs, cs.length = 129 ∧ e = .returned (.agg (sB cs).toArray) ∧ Ex [] w w' := by
  have HK := hide h
  have hpl0 := h.lt
  clear h
  obtain ⟨S, hS⟩ : ∃ S, S = sB bs := ⟨_, rfl⟩
  have hw1 : SB (w.alloc (Obj.cells S.toArray 107)) w.heap.size bs := by rw [hS]; exact SB.new w bs hb
  rw [← hS]
  have HW1 := hide hw1
  clear hw1 hS
  go_enter Tryz.func107, Tryz.ntmps107
  go_upto_region 1 with fail
  generalize hw2 : World.alloc _ _ = w2
  have hs2 : SB w2 w.heap.size bs := by rw [← hw2]; exact HW1.out.ex ((Ex.refl [] _).alloc _) (by simp)
  have hr2 : SB w2 (w.heap.size + 1) noB := by
    have h9 : BK w2 (w.alloc (Obj.cells S.toArray 107)).heap.size (.cells (sB noB).toArray 107 (0, 0)) := by rw [← hw2]; exact BK.new _ _
    rw [World.size_alloc] at h9
    exact ⟨h9, rfl⟩
  have hx2 : Ex [] w w2 := by rw [← hw2]; exact ((Ex.refl _ _).alloc _).alloc _
  have c4 : w2.cell? ⟨p, 4, none⟩ = some (.bool s.f) := (HK.out.ex hx2 (by simp)).all.1 4
  have hpl := (HK.out.ex hx2 (by simp)).lt
  obtain ⟨f, hf⟩ : ∃ f, f = s.f := ⟨_, rfl⟩
  rw [← hf] at c4
  clear hw2 hf
  cases f with
  | false =>
    have HS3 := hide hs2
    have HR3 := hide hr2
    have HX3 := hide hx2
    have hb3 := hb
    obtain ⟨w3, hw3⟩ : ∃ w3, w3 = w2 := ⟨_, rfl⟩
    subst hw3
    clear hs2 hr2 hx2
    obtain ⟨T, hT⟩ : ∃ T, T = sB bs := ⟨_, rfl⟩
    have HI : Hid ((Tryz.prog.info? 107).map (·.size) = some T.length) := by rw [hT]; exact infoSet hb3
    have HI2 : Hid ((Tryz.prog.info? 107).map (·.size) = some T.toArray.size) := by rw [hT]; exact infoSetA hb3
    have HAL : Hid (T.toArray.all (·.oneCell') = true) := by rw [hT]; exact all_plain (sB_plain _)
    have HT := hide hT
    have HRG : Hid (World.rangeAt w3 (w.heap.size) 0 T) := by rw [hT]; exact HS3.out.1.rangeL
    have HOLD : Hid ((sB noB).toArray.size = T.toArray.size) := by show _ = _; rw [List.size_toArray, List.size_toArray, hT, sB_len, sB_len, hb3, HR3.out.2]
    clear hT
    go_wp2_with (first
      | (refine wpList_load_mid rfl 107 _ rfl (w.heap.size) 0 rfl T _ HRG.out Tryz.underlying107 rfl HI.out ?_)
      | (refine wpList_store_row rfl 107 _ _ rfl (w.heap.size + 1) T.toArray rfl rfl 107 _ HR3.out.1 HI2.out HOLD.out HAL.out ?_))
    have hs4 : SB (w3.setRow (w.heap.size + 1) T.toArray) (w.heap.size + 1) bs := by rw [HT.out]; exact HR3.out.store hb3
    have hl4 := hs4.load
    rw [← HT.out] at hl4
    refine bodyPost_ret (results_cell1 rfl rfl hl4) rfl ⟨_, hb3, by rw [HT.out], HX3.out.setRow (.inr (by omega)) _⟩
  | true =>
    have HS2 := hide hs2
    have HR2 := hide hr2
    have HX2 := hide hx2
    clear hs2 hr2 hx2
    go_wp2_with fail
    go_loopg [5, 6] 26 (fun gk i5 s6 wr => ∃ (k : Nat) (cs : List Bool), k + gk = 91 ∧ 65 ≤ k ∧ i5 = .int .i32 ((k : Int) + 32) ∧ SB wr w.heap.size cs ∧ SB wr (w.heap.size + 1) noB ∧ Ex [] w wr)
    case atStart => exact ⟨65, bs, by omega, by omega, rfl, HS2.out, HR2.out, HX2.out⟩
    case round =>
      obtain ⟨k, cs, hk, hk65, rfl, hs, hr, hx⟩ := hrel
      have hlt := hs.1.lt
      have hlt2 := hr.1.lt
      have hfz := hs.1.all.2
      have hb3 := hs.2
      cases gk with
      | zero =>
        have h122 : ¬ ((k : Int) + 32 ≤ 122) := by omega
        have HS3 := hide hs
        have HR3 := hide hr
        have HX3 := hide hx
        obtain ⟨w3, hw3⟩ : ∃ w3, w3 = wr := ⟨_, rfl⟩
        subst hw3
        clear hs hr hx
        obtain ⟨T, hT⟩ : ∃ T, T = sB cs := ⟨_, rfl⟩
        have HI : Hid ((Tryz.prog.info? 107).map (·.size) = some T.length) := by rw [hT]; exact infoSet hb3
        have HI2 : Hid ((Tryz.prog.info? 107).map (·.size) = some T.toArray.size) := by rw [hT]; exact infoSetA hb3
        have HAL : Hid (T.toArray.all (·.oneCell') = true) := by rw [hT]; exact all_plain (sB_plain _)
        have HT := hide hT
        have HRG : Hid (World.rangeAt w3 (w.heap.size) 0 T) := by rw [hT]; exact HS3.out.1.rangeL
        have HOLD : Hid ((sB noB).toArray.size = T.toArray.size) := by show _ = _; rw [List.size_toArray, List.size_toArray, hT, sB_len, sB_len, hb3, HR3.out.2]
        clear hT
        go_wp2_with (first
          | (refine wpList_load_mid rfl 107 _ rfl (w.heap.size) 0 rfl T _ HRG.out Tryz.underlying107 rfl HI.out ?_)
          | (refine wpList_store_row rfl 107 _ _ rfl (w.heap.size + 1) T.toArray rfl rfl 107 _ HR3.out.1 HI2.out HOLD.out HAL.out ?_))
        have hs4 : SB (w3.setRow (w.heap.size + 1) T.toArray) (w.heap.size + 1) cs := by rw [HT.out]; exact HR3.out.store hb3
        have hl4 := hs4.load
        rw [← HT.out] at hl4
        refine bodyPost_ret (results_cell1 rfl rfl hl4) rfl ⟨_, hb3, by rw [HT.out], HX3.out.setRow (.inr (by omega)) _⟩
      | succ g =>
        have h122 : (k : Int) + 32 ≤ 122 := by omega
        have hi1 : (k : Int) + 32 < 128 := by omega
        have hi2 : (k : Int) < 128 := by omega
        have hi3 : (0 : Int) ≤ (k : Int) + 32 := by omega
        have htn : ((k : Int) + 32).toNat = k + 32 := by omega
        have hsub : (k : Int) + 32 - 32 = (k : Int) := by omega
        obtain ⟨x, hx1, hcx⟩ := hs.cell (k + 32) (by omega)
        obtain ⟨y, hy1, hcy⟩ := hs.cell k (by omega)
        have key : ∀ b : Bool, SB ((wr.setCell ⟨w.heap.size, k + 32, none⟩ (.bool b)).setCell ⟨w.heap.size, k, none⟩ (.bool b)) w.heap.size ((cs.set (k + 32) b).set k b) ∧ SB ((wr.setCell ⟨w.heap.size, k + 32, none⟩ (.bool b)).setCell ⟨w.heap.size, k, none⟩ (.bool b)) (w.heap.size + 1) noB ∧ Ex [] w ((wr.setCell ⟨w.heap.size, k + 32, none⟩ (.bool b)).setCell ⟨w.heap.size, k, none⟩ (.bool b)) := fun b => ⟨(hs.set _ b).set _ b, ⟨(hr.1.set (by simp) _).set (by simp) _, hr.2⟩, (hx.setCell (.inr (by simp)) _).setCell (.inr (by simp)) _⟩
        have hcy2 : ∀ b : Bool, ∃ z, (wr.setCell ⟨w.heap.size, k + 32, none⟩ (.bool b)).cell? ⟨w.heap.size, k, none⟩ = some (.bool z) := fun b => by
          obtain ⟨z, _, hz⟩ := (hs.set (k + 32) b).cell k (by omega)
          exact ⟨z, hz⟩
        have KEY := hide key
        clear hs hr hx hx1 hy1 key
        cases x
        case false =>
          cases y
          all_goals
            go_wp2_with fail
            go_roundg g
            case measure => omega
            case rel => exact ⟨k + 1, _, by omega, by omega, by simp; omega, (KEY.out _).1, (KEY.out _).2.1, (KEY.out _).2.2⟩
        case true =>
          go_wp2_with fail
          go_roundg g
          case measure => omega
          case rel => exact ⟨k + 1, _, by omega, by omega, by simp; omega, (KEY.out _).1, (KEY.out _).2.1, (KEY.out _).2.2⟩
end Go.Proofs.YtgmjjhmnchefbaaGreatDoor.G
