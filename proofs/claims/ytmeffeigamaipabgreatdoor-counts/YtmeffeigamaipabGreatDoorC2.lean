/- Contracts of package series: a label that is wrong, and whether there is one among many. -/
import Derived.Test.YtmeffeigamaipabGreatDoorC1
set_option linter.unusedVariables false
set_option linter.unusedSimpArgs false
namespace Go.Proofs.YtmeffeigamaipabGreatDoor
open Go.RowKit

abbrev Lab := ByteArray × ByteArray
def labV (l : Lab) : Value := .agg #[.string l.1, .string l.2]
def wrongB (l : Lab) : Bool := !nameB l.1 || decide (200 < l.2.size)

set_option maxHeartbeats 1000000 in
set_option maxRecDepth 100000 in
theorem isWrong_any (l : Lab) (w : World) (hs : l.1.size ≤ maxLen) :
    Calls Tryz.prog 40 #[labV l] w fun e w' => e = .returned (.bool (wrongB l)) ∧ Ex [] w w' := by
  obtain ⟨a, b⟩ := l
  unfold labV wrongB
  simp only at hs ⊢
  go_enter Tryz.func40, Tryz.ntmps40
  go_wp2_with fail
  refine (isName_any _ _ hs).mono ?_
  rintro e w' ⟨rfl, rfl⟩
  cases hN : nameB a with
  | false =>
    have HN := hide hN
    clear hN
    go_wp2_with fail
    go_ret
    exact ⟨by simp [unhide HN], (Ex.refl _ _).alloc _⟩
  | true =>
    have HN := hide hN
    clear hN
    go_wp2_with fail
    go_ret
    exact ⟨by simp [unhide HN]; omega, (Ex.refl _ _).alloc _⟩

/-- A list of labels lies there. -/
def SL (w : World) (v : Value) (ls : List Lab) : Prop :=
  (v = .slice none 0 0 ∧ ls = []) ∨ ∃ b c, v = .slice (some ⟨b, 0, none⟩) ls.length c ∧ b < w.heap.size ∧ ∀ j l, ls[j]? = some l → w.cell? ⟨b, j * 2, none⟩ = some (.string l.1) ∧ w.cell? ⟨b, j * 2 + 1, none⟩ = some (.string l.2)

theorem SL.ex {w w' : World} {v : Value} {ls : List Lab} {o : List Nat} (h : SL w v ls) (hx : Ex o w w') (hn : ∀ k, v.ownBlock = some k → k ∉ o) : SL w' v ls := by
  rcases h with h | ⟨b, c, rfl, hb, hc⟩
  · exact .inl h
  · refine .inr ⟨b, c, rfl, Nat.lt_of_lt_of_le hb hx.size, fun j l hj => ?_⟩
    rw [hx.cell.1 b _ hb (hn b rfl), hx.cell.1 b _ hb (hn b rfl)]
    exact hc j l hj

theorem SL.slice {w : World} {v : Value} {ls : List Lab} (h : SL w v ls) : ∃ p c, v = .slice p ls.length c := by
  rcases h with ⟨rfl, rfl⟩ | ⟨b, c, rfl, _⟩
  · exact ⟨_, _, rfl⟩
  · exact ⟨_, _, rfl⟩

def idxB (ls : List Lab) : Int := match ls.findIdx? wrongB with | some i => (i : Int) | none => -1

set_option maxHeartbeats 1000000 in
set_option maxRecDepth 100000 in
theorem indexWrong (v : Value) (ls : List Lab) (w : World) (hv : SL w v ls) (hn : ls.length ≤ 1000) (hl : ∀ l ∈ ls, l.1.size ≤ maxLen) :
    Calls Tryz.prog 59 #[v, .func (.func 40) #[] #[]] w fun e w' => e = .returned (.int .i64 (idxB ls)) ∧ Ex [] w w' := by
  have HV := hide hv
  have HL := hide hl
  obtain ⟨p, c, rfl⟩ := hv.slice
  clear hv hl
  go_enter Tryz.func59, Tryz.ntmps59
  go_wp2_with fail
  go_loopg [8] ls.length (fun gk i wr => ∃ j : Nat, j + gk = ls.length ∧ i = .int .i64 j ∧ (∀ k l, k < j → ls[k]? = some l → wrongB l = false) ∧ Ex [] w wr)
  case atStart => exact ⟨0, by omega, rfl, fun k l h => by omega, Ex.refl _ _⟩
  case round =>
    obtain ⟨j, hj, rfl, hw, hx⟩ := hrel
    have HW := hide hw
    have HX := hide hx
    cases gk with
    | zero =>
      obtain rfl : j = ls.length := by omega
      clear hj hw hx
      go_wp2_with fail
      go_ret
      refine ⟨?_, HX.out⟩
      have hnone : ls.findIdx? wrongB = none := by
        rw [List.findIdx?_eq_none_iff]
        intro l hl
        obtain ⟨k, hk, rfl⟩ := List.getElem_of_mem hl
        exact HW.out k _ hk (List.getElem?_eq_getElem hk)
      simp [idxB, hnone]
    | succ g =>
      have hjl : j < ls.length := by omega
      have hj' : (j : Int) < (ls.length : Int) := by omega
      obtain ⟨l, hl⟩ : ∃ l, ls[j]? = some l := ⟨_, List.getElem?_eq_getElem hjl⟩
      have hlm := HL.out l (List.mem_of_getElem? hl)
      have HLJ := hide hl
      obtain ⟨b, c', rfl, hb, c0, c1⟩ : ∃ b c', p = some ⟨b, 0, none⟩ ∧ b < wr.heap.size ∧ wr.cell? ⟨b, j * 2, none⟩ = some (.string l.1) ∧ wr.cell? ⟨b, j * 2 + 1, none⟩ = some (.string l.2) := by
        rcases HV.out with ⟨h1, h2⟩ | ⟨b, c', h1, hb, hc⟩
        · rw [h2] at hjl; simp at hjl
        · cases h1
          obtain ⟨h3, h4⟩ := hc j l hl
          exact ⟨b, 0, rfl, Nat.lt_of_lt_of_le hb hx.size, by rw [hx.cell0.1 b _ hb]; exact h3, by rw [hx.cell0.1 b _ hb]; exact h4⟩
      clear hw hx hl
      go_wp2_with fail
      refine (isWrong_any l _ hlm).mono ?_
      rintro e w' ⟨rfl, hx1⟩
      have HX1 := hide hx1
      clear hx1
      cases hW : wrongB l with
      | true =>
        have HB := hide hW
        clear hW
        go_wp2_with fail
        go_ret
        refine ⟨?_, HX.out.trans HX1.out⟩
        have hs : ls.findIdx? wrongB = some j := by
          rw [List.findIdx?_eq_some_iff_getElem]
          refine ⟨hjl, ?_, fun k hk => ?_⟩
          · have := HLJ.out; rw [List.getElem?_eq_getElem hjl] at this; rw [Option.some.inj this]; exact unhide HB
          · simpa using HW.out k _ hk (List.getElem?_eq_getElem (by omega))
        simp [idxB, hs]
      | false =>
        have HB := hide hW
        clear hW
        go_wp2_with fail
        go_roundg g
        case measure => omega
        case rel =>
          refine ⟨j + 1, by omega, by simp, fun k l' hk hl' => ?_, HX.out.trans HX1.out⟩
          by_cases hkj : k = j
          · subst hkj; have := HLJ.out; rw [hl'] at this; cases this; exact unhide HB
          · exact HW.out k l' (by omega) hl'

theorem any_idx (ls : List Lab) : decide (0 ≤ idxB ls) = ls.any wrongB := by
  unfold idxB
  cases h : ls.findIdx? wrongB with
  | none =>
    rw [List.findIdx?_eq_none_iff] at h
    have : ls.any wrongB = false := by rw [List.any_eq_false]; intro x hx; simp [h x hx]
    rw [this]; rfl
  | some i =>
    obtain ⟨hi, h1, _⟩ := List.findIdx?_eq_some_iff_getElem.1 h
    have : ls.any wrongB = true := by rw [List.any_eq_true]; exact ⟨ls[i], List.getElem_mem hi, h1⟩
    rw [this]; simp

set_option maxHeartbeats 1000000 in
set_option maxRecDepth 100000 in
theorem containsWrong (v : Value) (ls : List Lab) (w : World) (hv : SL w v ls) (hn : ls.length ≤ 1000) (hl : ∀ l ∈ ls, l.1.size ≤ maxLen) :
    Calls Tryz.prog 39 #[v, .func (.func 40) #[] #[]] w fun e w' => e = .returned (.bool (ls.any wrongB)) ∧ Ex [] w w' := by
  rw [← any_idx]
  have HV := hide hv
  have HL := hide hl
  clear hv hl
  go_enter Tryz.func39, Tryz.ntmps39
  go_wp2_with fail
  refine (indexWrong _ _ _ HV.out hn HL.out).mono ?_
  rintro e w' ⟨rfl, hx1⟩
  have HX1 := hide hx1
  clear hx1
  go_wp2_with fail
  go_ret
  exact ⟨by simp, HX1.out⟩
end Go.Proofs.YtmeffeigamaipabGreatDoor
