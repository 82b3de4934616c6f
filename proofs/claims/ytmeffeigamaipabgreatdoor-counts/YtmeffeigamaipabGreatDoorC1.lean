/- Contracts of package series: which texts are names, which labels are wrong. -/
import Derived.Test.YtmeffeigamaipabGreatDoorProg
import Derived.Test.YtmeffeigamaipabGreatDoorB0
set_option linter.unusedVariables false
set_option linter.unusedSimpArgs false
namespace Go.Proofs.YtmeffeigamaipabGreatDoor
open Go.RowKit

def digB (x : Int) : Bool := decide (48 ≤ x) && decide (x ≤ 57)
def letB (x : Int) : Bool := (decide (97 ≤ x) && decide (x ≤ 122)) || (decide (65 ≤ x) && decide (x ≤ 90))
def wordB (x : Int) : Bool := letB x || digB x || x == 95
/-- Is it a name? -/
def nameB (s : ByteArray) : Bool := !(s.size == 0) && !decide (60 < s.size) && !digB ((s.data.toList.headD 0).toNat : Int) && s.data.toList.all (fun b => wordB (b.toNat : Int))

set_option maxHeartbeats 400000 in
theorem isDigit_any (x : Int) (w : World) :
    Calls Tryz.prog 92 #[.int .u8 x] w fun e w' => e = .returned (.bool (digB x)) ∧ w' = w := by
  unfold digB
  by_cases h1 : 48 ≤ x
  · by_cases h2 : x ≤ 57
    · go_enter Tryz.func92, Tryz.ntmps92
      go_wp2
      go_ret
      exact ⟨by simp [h1, h2], rfl⟩
    · go_enter Tryz.func92, Tryz.ntmps92
      go_wp2
      go_ret
      exact ⟨by simp [h1, h2], rfl⟩
  · go_enter Tryz.func92, Tryz.ntmps92
    go_wp2
    go_ret
    exact ⟨by simp; omega, rfl⟩

set_option maxHeartbeats 400000 in
theorem isLetter_any (x : Int) (w : World) :
    Calls Tryz.prog 93 #[.int .u8 x] w fun e w' => e = .returned (.bool (letB x)) ∧ w' = w := by
  unfold letB
  by_cases h1 : 97 ≤ x <;> by_cases h2 : x ≤ 122 <;> by_cases h3 : 65 ≤ x <;> by_cases h4 : x ≤ 90
  all_goals
    first
    | (exfalso; omega)
    | (go_enter Tryz.func93, Tryz.ntmps93
       go_wp2
       go_ret
       exact ⟨by simp [h1, h2, h3, h4], rfl⟩)

theorem at_list {s : ByteArray} {k : Nat} (hk : k < s.size) : s.data.toList[k]? = some (s[k]'hk) := by
  rw [Array.getElem?_toList, Array.getElem?_eq_getElem (show k < s.data.size from hk)]; rfl

theorem head_list {s : ByteArray} (hk : 0 < s.size) : s.data.toList.headD 0 = s[0]'hk := by
  have h := at_list hk
  cases hl : s.data.toList with
  | nil => rw [hl] at h; cases h
  | cons a r => rw [hl] at h; simpa using h

theorem len_list (s : ByteArray) : s.data.toList.length = s.size := by rw [Array.length_toList]; rfl

theorem nonempty_list {s : ByteArray} (h0 : ¬ s.size = 0) : s.toList.isEmpty = false := by
  rw [ByteArray.toList_eq, List.isEmpty_eq_false_iff]
  intro h
  have := len_list s
  rw [h] at this
  simp at this
  omega

/-- The first j bytes may stand in a name. -/
def wordsTo (s : ByteArray) (j : Nat) : Prop := ∀ i (h : i < s.size), i < j → wordB ((s[i]'h).toNat : Int) = true

theorem all_of_words {s : ByteArray} (h : wordsTo s s.size) : s.data.toList.all (fun b => wordB (b.toNat : Int)) = true := by
  rw [List.all_eq_true]
  intro b hb
  obtain ⟨i, hi, rfl⟩ := List.getElem_of_mem hb
  have hi' : i < s.size := by rw [← len_list]; exact hi
  have := h i hi' hi'
  have e := at_list hi'
  rw [List.getElem?_eq_getElem hi] at e
  rw [Option.some.inj e]; exact this

theorem not_all_of {s : ByteArray} {j : Nat} (hj : j < s.size) (h : wordB ((s[j]'hj).toNat : Int) = false) : s.data.toList.all (fun b => wordB (b.toNat : Int)) = false := by
  rw [List.all_eq_false]
  exact ⟨s[j]'hj, List.mem_of_getElem? (at_list hj), by simpa using h⟩

set_option maxHeartbeats 1000000 in
set_option maxRecDepth 100000 in
theorem isName_any (s : ByteArray) (w : World) (hs : s.size ≤ maxLen) :
    Calls Tryz.prog 60 #[.string s] w fun e w' => e = .returned (.bool (nameB s)) ∧ w' = w := by
  by_cases h0 : s.size = 0
  · have hs : s = ⟨#[]⟩ := by apply ByteArray.ext; exact Array.eq_empty_of_size_eq_zero h0
    subst hs
    go_enter Tryz.func60, Tryz.ntmps60
    go_wp2
    go_ret
    exact ⟨rfl, rfl⟩
  have hem := nonempty_list h0
  have hz : (s.size == 0) = false := by simpa using h0
  by_cases h60 : 60 < s.size
  · have hn : nameB s = false := by simp [nameB, hz, h60]
    rw [hn]; clear hn
    go_enter Tryz.func60, Tryz.ntmps60
    go_wp2
    go_ret
    exact ⟨rfl, rfl⟩
  have hp : 0 < s.size := by omega
  have hnm : nameB s = (!digB ((s[0]'hp).toNat : Int) && s.data.toList.all (fun b => wordB (b.toNat : Int))) := by
    simp only [nameB, hz, head_list hp, h60, Bool.not_false, Bool.true_and, decide_false]
  rw [hnm]
  have H60 := hide h60
  clear hnm hz
  cases hd : digB ((s[0]'hp).toNat : Int) with
  | true =>
    have HD := hide hd
    clear hd
    go_enter Tryz.func60, Tryz.ntmps60
    go_wp2_with fail
    refine (isDigit_any _ _).mono ?_
    rintro e w' ⟨rfl, rfl⟩
    rw [show digB ((s[0]'hp).toNat : Int) = true from HD.out]
    go_wp2_with fail
    go_ret
    exact ⟨rfl, rfl⟩
  | false =>
    have HD := hide hd
    clear hd
    go_enter Tryz.func60, Tryz.ntmps60
    go_wp2_with fail
    refine (isDigit_any _ _).mono ?_
    rintro e w' ⟨rfl, rfl⟩
    rw [show digB ((s[0]'hp).toNat : Int) = false from HD.out]
    go_wp2_with fail
    go_loopg [18] s.size (fun gk i wr => ∃ j : Nat, j + gk = s.size ∧ i = .int .i64 j ∧ wordsTo s j ∧ wr = w')
    case atStart => exact ⟨0, by omega, rfl, fun i _ h => by omega, rfl⟩
    case round =>
      obtain ⟨j, hj, rfl, hw, rfl⟩ := hrel
      have HW := hide hw
      clear hw
      cases gk with
      | zero =>
        obtain rfl : j = s.size := by omega
        clear hj
        go_wp2_with fail
        go_ret
        exact ⟨by rw [all_of_words HW.out]; rfl, rfl⟩
      | succ g =>
        have hjl : j < s.size := by omega
        have hj' : (j : Int) < (s.size : Int) := by omega
        have hstep : wordB ((s[j]'hjl).toNat : Int) = true → wordsTo s (j + 1) := fun hb i hi hlt => by
          by_cases hij : i = j
          · subst hij; exact hb
          · exact HW.out i hi (by omega)
        have HS := hide hstep
        obtain ⟨x, hx⟩ : ∃ x : Int, x = ((s[j]'hjl).toNat : Int) := ⟨_, rfl⟩
        have HX := hide hx
        clear hstep hx
        go_wp2_with fail
        refine (isLetter_any _ _).mono ?_
        rintro e w' ⟨rfl, rfl⟩
        rw [← show x = ((s[j]'hjl).toNat : Int) from HX.out]
        cases hl : letB x with
        | true =>
          have HL := hide hl
          clear hl
          go_wp2_with fail
          go_roundg g
          case measure => omega
          case rel => exact ⟨j + 1, by omega, by simp, HS.out (by rw [← HX.out]; simp [wordB, unhide HL]), rfl⟩
        | false =>
          have HL := hide hl
          clear hl
          go_wp2_with fail
          refine (isDigit_any _ _).mono ?_
          rintro e w' ⟨rfl, rfl⟩
          rw [← show x = ((s[j]'hjl).toNat : Int) from HX.out]
          cases hd : digB x with
          | true =>
            have HL2 := hide hd
            clear hd
            go_wp2_with fail
            go_roundg g
            case measure => omega
            case rel => exact ⟨j + 1, by omega, by simp, HS.out (by rw [← HX.out]; simp [wordB, unhide HL2]), rfl⟩
          | false =>
            have HL2 := hide hd
            clear hd
            by_cases h95 : ((s[j]'hjl).toNat : Int) = 95
            · have hb : (((s[j]'hjl).toNat : Int) == 95) = true := by simpa using h95
              have HB := hide hb
              clear h95
              go_wp2_with fail
              go_roundg g
              case measure => omega
              case rel => exact ⟨j + 1, by omega, by simp, HS.out (by simp [wordB, unhide HB]), rfl⟩
            · have hb : (((s[j]'hjl).toNat : Int) == 95) = false := by simpa using h95
              have HB := hide hb
              have H95 := hide h95
              go_wp2_with fail
              go_ret
              exact ⟨by rw [not_all_of hjl (by unfold wordB; rw [← HX.out, unhide HL, unhide HL2, HX.out, unhide HB]; rfl)]; rfl, rfl⟩
end Go.Proofs.YtmeffeigamaipabGreatDoor
