/- C1 C2 S0 C3, one behind the other. -/
import Derived.Test.YtmeffeigamaipabGreatDoorProg
import Derived.Test.YtmeffeigamaipabGreatDoorM01
import Derived.Test.YtmeffeigamaipabGreatDoorShelf
import Derived.Lib.Bytealg
set_option linter.unusedVariables false
set_option linter.unusedSimpArgs false
/- Contracts of package series: which texts are names, which labels are wrong. -/
namespace Go.Proofs.YtmeffeigamaipabGreatDoor
open Go.RowKit

def digB (x : Int) : Bool := decide (48 ≤ x) && decide (x ≤ 57)
def letB (x : Int) : Bool := (decide (97 ≤ x) && decide (x ≤ 122)) || (decide (65 ≤ x) && decide (x ≤ 90))
def wordB (x : Int) : Bool := letB x || digB x || x == 95
/-- Is it a name? -/
def nameB (s : ByteArray) : Bool := !(s.size == 0) && !decide (60 < s.size) && !digB ((s.data.toList.headD 0).toNat : Int) && s.data.toList.all (fun b => wordB (b.toNat : Int))

set_option maxHeartbeats 400000 in
theorem isDigit_any (x : Int) (w : World) :
    Calls Tryz.prog 92 #[.int .u8 x] w fun e w' => e = .returned (.bool (digB x)) ∧ w' = w := by
  unfold digB
  by_cases h1 : 48 ≤ x
  · by_cases h2 : x ≤ 57
    · go_enter Tryz.func92, Tryz.ntmps92
      go_wp2
      go_ret
      exact ⟨by simp [h1, h2], rfl⟩
    · go_enter Tryz.func92, Tryz.ntmps92
      go_wp2
      go_ret
      exact ⟨by simp [h1, h2], rfl⟩
  · go_enter Tryz.func92, Tryz.ntmps92
    go_wp2
    go_ret
    exact ⟨by simp; omega, rfl⟩

set_option maxHeartbeats 400000 in
theorem isLetter_any (x : Int) (w : World) :
    Calls Tryz.prog 93 #[.int .u8 x] w fun e w' => e = .returned (.bool (letB x)) ∧ w' = w := by
  unfold letB
  by_cases h1 : 97 ≤ x <;> by_cases h2 : x ≤ 122 <;> by_cases h3 : 65 ≤ x <;> by_cases h4 : x ≤ 90
  all_goals
    first
    | (exfalso; omega)
    | (go_enter Tryz.func93, Tryz.ntmps93
       go_wp2
       go_ret
       exact ⟨by simp [h1, h2, h3, h4], rfl⟩)

theorem at_list {s : ByteArray} {k : Nat} (hk : k < s.size) : s.data.toList[k]? = some (s[k]'hk) := by
  rw [Array.getElem?_toList, Array.getElem?_eq_getElem (show k < s.data.size from hk)]; rfl

theorem head_list {s : ByteArray} (hk : 0 < s.size) : s.data.toList.headD 0 = s[0]'hk := by
  have h := at_list hk
  cases hl : s.data.toList with
  | nil => rw [hl] at h; cases h
  | cons a r => rw [hl] at h; simpa using h

theorem len_list (s : ByteArray) : s.data.toList.length = s.size := by rw [Array.length_toList]; rfl

theorem nonempty_list {s : ByteArray} (h0 : ¬ s.size = 0) : s.toList.isEmpty = false := by
  rw [ByteArray.toList_eq, List.isEmpty_eq_false_iff]
  intro h
  have := len_list s
  rw [h] at this
  simp at this
  omega

/-- The first j bytes may stand in a name. -/
def wordsTo (s : ByteArray) (j : Nat) : Prop := ∀ i (h : i < s.size), i < j → wordB ((s[i]'h).toNat : Int) = true

theorem all_of_words {s : ByteArray} (h : wordsTo s s.size) : s.data.toList.all (fun b => wordB (b.toNat : Int)) = true := by
  rw [List.all_eq_true]
  intro b hb
  obtain ⟨i, hi, rfl⟩ := List.getElem_of_mem hb
  have hi' : i < s.size := by rw [← len_list]; exact hi
  have := h i hi' hi'
  have e := at_list hi'
  rw [List.getElem?_eq_getElem hi] at e
  rw [Option.some.inj e]; exact this

theorem not_all_of {s : ByteArray} {j : Nat} (hj : j < s.size) (h : wordB ((s[j]'hj).toNat : Int) = false) : s.data.toList.all (fun b => wordB (b.toNat : Int)) = false := by
  rw [List.all_eq_false]
  exact ⟨s[j]'hj, List.mem_of_getElem? (at_list hj), by simpa using h⟩

set_option maxHeartbeats 1000000 in
set_option maxRecDepth 100000 in
theorem isName_any (s : ByteArray) (w : World) (hs : s.size ≤ maxLen) :
    Calls Tryz.prog 60 #[.string s] w fun e w' => e = .returned (.bool (nameB s)) ∧ w' = w := by
  by_cases h0 : s.size = 0
  · have hs : s = ⟨#[]⟩ := by apply ByteArray.ext; exact Array.eq_empty_of_size_eq_zero h0
    subst hs
    go_enter Tryz.func60, Tryz.ntmps60
    go_wp2
    go_ret
    exact ⟨rfl, rfl⟩
  have hem := nonempty_list h0
  have hz : (s.size == 0) = false := by simpa using h0
  by_cases h60 : 60 < s.size
  · have hn : nameB s = false := by simp [nameB, hz, h60]
    rw [hn]; clear hn
    go_enter Tryz.func60, Tryz.ntmps60
    go_wp2
    go_ret
    exact ⟨rfl, rfl⟩
  have hp : 0 < s.size := by omega
  have hnm : nameB s = (!digB ((s[0]'hp).toNat : Int) && s.data.toList.all (fun b => wordB (b.toNat : Int))) := by
    simp only [nameB, hz, head_list hp, h60, Bool.not_false, Bool.true_and, decide_false]
  rw [hnm]
  have H60 := hide h60
  clear hnm hz
  cases hd : digB ((s[0]'hp).toNat : Int) with
  | true =>
    have HD := hide hd
    clear hd
    go_enter Tryz.func60, Tryz.ntmps60
    go_wp2_with fail
    refine (isDigit_any _ _).mono ?_
    rintro e w' ⟨rfl, rfl⟩
    rw [show digB ((s[0]'hp).toNat : Int) = true from HD.out]
    go_wp2_with fail
    go_ret
    exact ⟨rfl, rfl⟩
  | false =>
    have HD := hide hd
    clear hd
    go_enter Tryz.func60, Tryz.ntmps60
    go_wp2_with fail
    refine (isDigit_any _ _).mono ?_
    rintro e w' ⟨rfl, rfl⟩
    rw [show digB ((s[0]'hp).toNat : Int) = false from HD.out]
    go_wp2_with fail
    go_loopg [18] s.size (fun gk i wr => ∃ j : Nat, j + gk = s.size ∧ i = .int .i64 j ∧ wordsTo s j ∧ wr = w')
    case atStart => exact ⟨0, by omega, rfl, fun i _ h => by omega, rfl⟩
    case round =>
      obtain ⟨j, hj, rfl, hw, rfl⟩ := hrel
      have HW := hide hw
      clear hw
      cases gk with
      | zero =>
        obtain rfl : j = s.size := by omega
        clear hj
        go_wp2_with fail
        go_ret
        exact ⟨by rw [all_of_words HW.out]; rfl, rfl⟩
      | succ g =>
        have hjl : j < s.size := by omega
        have hj' : (j : Int) < (s.size : Int) := by omega
        have hstep : wordB ((s[j]'hjl).toNat : Int) = true → wordsTo s (j + 1) := fun hb i hi hlt => by
          by_cases hij : i = j
          · subst hij; exact hb
          · exact HW.out i hi (by omega)
        have HS := hide hstep
        obtain ⟨x, hx⟩ : ∃ x : Int, x = ((s[j]'hjl).toNat : Int) := ⟨_, rfl⟩
        have HX := hide hx
        clear hstep hx
        go_wp2_with fail
        refine (isLetter_any _ _).mono ?_
        rintro e w' ⟨rfl, rfl⟩
        rw [← show x = ((s[j]'hjl).toNat : Int) from HX.out]
        cases hl : letB x with
        | true =>
          have HL := hide hl
          clear hl
          go_wp2_with fail
          go_roundg g
          case measure => omega
          case rel => exact ⟨j + 1, by omega, by simp, HS.out (by rw [← HX.out]; simp [wordB, unhide HL]), rfl⟩
        | false =>
          have HL := hide hl
          clear hl
          go_wp2_with fail
          refine (isDigit_any _ _).mono ?_
          rintro e w' ⟨rfl, rfl⟩
          rw [← show x = ((s[j]'hjl).toNat : Int) from HX.out]
          cases hd : digB x with
          | true =>
            have HL2 := hide hd
            clear hd
            go_wp2_with fail
            go_roundg g
            case measure => omega
            case rel => exact ⟨j + 1, by omega, by simp, HS.out (by rw [← HX.out]; simp [wordB, unhide HL2]), rfl⟩
          | false =>
            have HL2 := hide hd
            clear hd
            by_cases h95 : ((s[j]'hjl).toNat : Int) = 95
            · have hb : (((s[j]'hjl).toNat : Int) == 95) = true := by simpa using h95
              have HB := hide hb
              clear h95
              go_wp2_with fail
              go_roundg g
              case measure => omega
              case rel => exact ⟨j + 1, by omega, by simp, HS.out (by simp [wordB, unhide HB]), rfl⟩
            · have hb : (((s[j]'hjl).toNat : Int) == 95) = false := by simpa using h95
              have HB := hide hb
              have H95 := hide h95
              go_wp2_with fail
              go_ret
              exact ⟨by rw [not_all_of hjl (by unfold wordB; rw [← HX.out, unhide HL, unhide HL2, HX.out, unhide HB]; rfl)]; rfl, rfl⟩
end Go.Proofs.YtmeffeigamaipabGreatDoor

/- Contracts of package series: a label that is wrong, and whether there is one among many. -/
namespace Go.Proofs.YtmeffeigamaipabGreatDoor
open Go.RowKit

abbrev Lab := ByteArray × ByteArray
def labV (l : Lab) : Value := .agg #[.string l.1, .string l.2]
def wrongB (l : Lab) : Bool := !nameB l.1 || decide (200 < l.2.size)

set_option maxHeartbeats 1000000 in
set_option maxRecDepth 100000 in
theorem isWrong_any (l : Lab) (w : World) (hs : l.1.size ≤ maxLen) :
    Calls Tryz.prog 40 #[labV l] w fun e w' => e = .returned (.bool (wrongB l)) ∧ Ex [] w w' := by
  obtain ⟨a, b⟩ := l
  unfold labV wrongB
  simp only at hs ⊢
  go_enter Tryz.func40, Tryz.ntmps40
  go_wp2_with fail
  refine (isName_any _ _ hs).mono ?_
  rintro e w' ⟨rfl, rfl⟩
  cases hN : nameB a with
  | false =>
    have HN := hide hN
    clear hN
    go_wp2_with fail
    go_ret
    exact ⟨by simp [unhide HN], (Ex.refl _ _).alloc _⟩
  | true =>
    have HN := hide hN
    clear hN
    go_wp2_with fail
    go_ret
    exact ⟨by simp [unhide HN]; omega, (Ex.refl _ _).alloc _⟩

/-- A list of labels lies there. -/
def SL (w : World) (v : Value) (ls : List Lab) : Prop :=
  (v = .slice none 0 0 ∧ ls = []) ∨ ∃ b c, v = .slice (some ⟨b, 0, none⟩) ls.length c ∧ b < w.heap.size ∧ ∀ j l, ls[j]? = some l → w.cell? ⟨b, j * 2, none⟩ = some (.string l.1) ∧ w.cell? ⟨b, j * 2 + 1, none⟩ = some (.string l.2)

theorem SL.ex {w w' : World} {v : Value} {ls : List Lab} {o : List Nat} (h : SL w v ls) (hx : Ex o w w') (hn : ∀ k, v.ownBlock = some k → k ∉ o) : SL w' v ls := by
  rcases h with h | ⟨b, c, rfl, hb, hc⟩
  · exact .inl h
  · refine .inr ⟨b, c, rfl, Nat.lt_of_lt_of_le hb hx.size, fun j l hj => ?_⟩
    rw [hx.cell.1 b _ hb (hn b rfl), hx.cell.1 b _ hb (hn b rfl)]
    exact hc j l hj

theorem SL.slice {w : World} {v : Value} {ls : List Lab} (h : SL w v ls) : ∃ p c, v = .slice p ls.length c := by
  rcases h with ⟨rfl, rfl⟩ | ⟨b, c, rfl, _⟩
  · exact ⟨_, _, rfl⟩
  · exact ⟨_, _, rfl⟩

def idxB (ls : List Lab) : Int := match ls.findIdx? wrongB with | some i => (i : Int) | none => -1

set_option maxHeartbeats 1000000 in
set_option maxRecDepth 100000 in
theorem indexWrong (v : Value) (ls : List Lab) (w : World) (hv : SL w v ls) (hn : ls.length ≤ 1000) (hl : ∀ l ∈ ls, l.1.size ≤ maxLen) :
    Calls Tryz.prog 59 #[v, .func (.func 40) #[] #[]] w fun e w' => e = .returned (.int .i64 (idxB ls)) ∧ Ex [] w w' := by
  have HV := hide hv
  have HL := hide hl
  obtain ⟨p, c, rfl⟩ := hv.slice
  clear hv hl
  go_enter Tryz.func59, Tryz.ntmps59
  go_wp2_with fail
  go_loopg [8] ls.length (fun gk i wr => ∃ j : Nat, j + gk = ls.length ∧ i = .int .i64 j ∧ (∀ k l, k < j → ls[k]? = some l → wrongB l = false) ∧ Ex [] w wr)
  case atStart => exact ⟨0, by omega, rfl, fun k l h => by omega, Ex.refl _ _⟩
  case round =>
    obtain ⟨j, hj, rfl, hw, hx⟩ := hrel
    have HW := hide hw
    have HX := hide hx
    cases gk with
    | zero =>
      obtain rfl : j = ls.length := by omega
      clear hj hw hx
      go_wp2_with fail
      go_ret
      refine ⟨?_, HX.out⟩
      have hnone : ls.findIdx? wrongB = none := by
        rw [List.findIdx?_eq_none_iff]
        intro l hl
        obtain ⟨k, hk, rfl⟩ := List.getElem_of_mem hl
        exact HW.out k _ hk (List.getElem?_eq_getElem hk)
      simp [idxB, hnone]
    | succ g =>
      have hjl : j < ls.length := by omega
      have hj' : (j : Int) < (ls.length : Int) := by omega
      obtain ⟨l, hl⟩ : ∃ l, ls[j]? = some l := ⟨_, List.getElem?_eq_getElem hjl⟩
      have hlm := HL.out l (List.mem_of_getElem? hl)
      have HLJ := hide hl
      obtain ⟨b, c', rfl, hb, c0, c1⟩ : ∃ b c', p = some ⟨b, 0, none⟩ ∧ b < wr.heap.size ∧ wr.cell? ⟨b, j * 2, none⟩ = some (.string l.1) ∧ wr.cell? ⟨b, j * 2 + 1, none⟩ = some (.string l.2) := by
        rcases HV.out with ⟨h1, h2⟩ | ⟨b, c', h1, hb, hc⟩
        · rw [h2] at hjl; simp at hjl
        · cases h1
          obtain ⟨h3, h4⟩ := hc j l hl
          exact ⟨b, 0, rfl, Nat.lt_of_lt_of_le hb hx.size, by rw [hx.cell0.1 b _ hb]; exact h3, by rw [hx.cell0.1 b _ hb]; exact h4⟩
      clear hw hx hl
      go_wp2_with fail
      refine (isWrong_any l _ hlm).mono ?_
      rintro e w' ⟨rfl, hx1⟩
      have HX1 := hide hx1
      clear hx1
      cases hW : wrongB l with
      | true =>
        have HB := hide hW
        clear hW
        go_wp2_with fail
        go_ret
        refine ⟨?_, HX.out.trans HX1.out⟩
        have hs : ls.findIdx? wrongB = some j := by
          rw [List.findIdx?_eq_some_iff_getElem]
          refine ⟨hjl, ?_, fun k hk => ?_⟩
          · have := HLJ.out; rw [List.getElem?_eq_getElem hjl] at this; rw [Option.some.inj this]; exact unhide HB
          · simpa using HW.out k _ hk (List.getElem?_eq_getElem (by omega))
        simp [idxB, hs]
      | false =>
        have HB := hide hW
        clear hW
        go_wp2_with fail
        go_roundg g
        case measure => omega
        case rel =>
          refine ⟨j + 1, by omega, by simp, fun k l' hk hl' => ?_, HX.out.trans HX1.out⟩
          by_cases hkj : k = j
          · subst hkj; have := HLJ.out; rw [hl'] at this; cases this; exact unhide HB
          · exact HW.out k l' (by omega) hl'

theorem any_idx (ls : List Lab) : decide (0 ≤ idxB ls) = ls.any wrongB := by
  unfold idxB
  cases h : ls.findIdx? wrongB with
  | none =>
    rw [List.findIdx?_eq_none_iff] at h
    have : ls.any wrongB = false := by rw [List.any_eq_false]; intro x hx; simp [h x hx]
    rw [this]; rfl
  | some i =>
    obtain ⟨hi, h1, _⟩ := List.findIdx?_eq_some_iff_getElem.1 h
    have : ls.any wrongB = true := by rw [List.any_eq_true]; exact ⟨ls[i], List.getElem_mem hi, h1⟩
    rw [this]; simp

set_option maxHeartbeats 1000000 in
set_option maxRecDepth 100000 in
theorem containsWrong (v : Value) (ls : List Lab) (w : World) (hv : SL w v ls) (hn : ls.length ≤ 1000) (hl : ∀ l ∈ ls, l.1.size ≤ maxLen) :
    Calls Tryz.prog 39 #[v, .func (.func 40) #[] #[]] w fun e w' => e = .returned (.bool (ls.any wrongB)) ∧ Ex [] w w' := by
  rw [← any_idx]
  have HV := hide hv
  have HL := hide hl
  clear hv hl
  go_enter Tryz.func39, Tryz.ntmps39
  go_wp2_with fail
  refine (indexWrong _ _ _ HV.out hn HL.out).mono ?_
  rintro e w' ⟨rfl, hx1⟩
  have HX1 := hide hx1
  clear hx1
  go_wp2_with fail
  go_ret
  exact ⟨by simp, HX1.out⟩
end Go.Proofs.YtmeffeigamaipabGreatDoor

/- The shelf's two contracts, under names of our own. -/
namespace Go.Proofs.YtmeffeigamaipabGreatDoor
open Go.RowKit
theorem compare_any (a b : ByteArray) (w : World) :
    Calls Tryz.prog 96 #[.string a, .string b] w fun e w' => e = .returned (.int .i64 (Lib.compareBytes a.data.toList b.data.toList)) ∧ w' = w := Tryz.strings_Compare a b w
theorem cloneIn_any (s : ByteArray) (w : World) (hlim : s.size ≤ 281474976710656) :
    Calls Tryz.prog 65 #[.string s] w fun e w' => e = .returned (.string s) ∧ Below w.heap.size w w' := Tryz.stringslite_Clone s w hlim
end Go.Proofs.YtmeffeigamaipabGreatDoor

/- Contracts of package series: where a label is, or where it would belong. -/
namespace Go.Proofs.YtmeffeigamaipabGreatDoor
open Go.RowKit

set_option maxHeartbeats 1000000 in
theorem clone_any (s : ByteArray) (w : World) (hs : s.size ≤ 281474976710656) :
    Calls Tryz.prog 42 #[.string s] w fun e w' => e = .returned (.string s) ∧ Ex [] w w' := by
  go_enter Tryz.func42, Tryz.ntmps42
  go_wp2_with fail
  refine (cloneIn_any _ _ hs).mono ?_
  rintro e w' ⟨rfl, hb⟩
  have HB := hide hb
  clear hb
  go_wp2_with fail
  go_ret
  exact ⟨rfl, Ex.below HB.out⟩

def cmpN (a b : ByteArray) : Int := Lib.compareBytes a.data.toList b.data.toList

set_option maxHeartbeats 1000000 in
theorem cmp_any (l : Lab) (t : ByteArray) (w : World) :
    Calls Tryz.prog 95 #[labV l, .string t] w fun e w' => e = .returned (.int .i64 (cmpN l.1 t)) ∧ Ex [] w w' := by
  obtain ⟨a, b⟩ := l
  unfold labV
  go_enter Tryz.func95, Tryz.ntmps95
  go_wp2_with fail
  refine (compare_any _ _ _).mono ?_
  rintro e w' ⟨rfl, rfl⟩
  go_wp2_with fail
  go_ret
  exact ⟨rfl, (Ex.refl _ _).alloc _⟩

/-- How many have names that are less. -/
def posN (ls : List Lab) (t : ByteArray) : Nat := (ls.takeWhile fun l => decide (cmpN l.1 t < 0)).length
def thereN (ls : List Lab) (t : ByteArray) : Bool := match ls[posN ls t]? with | some l => cmpN l.1 t == 0 | none => false

/-- Sorted, as far as one name can tell. -/
def SortedFor (ls : List Lab) (t : ByteArray) : Prop := ∀ (a b : Nat) (x y : Lab), a ≤ b → ls[a]? = some x → ls[b]? = some y → cmpN y.1 t < 0 → cmpN x.1 t < 0

theorem posN_eq : ∀ {ls : List Lab} {t : ByteArray} {i : Nat}, i ≤ ls.length → (∀ k l, k < i → ls[k]? = some l → cmpN l.1 t < 0) → (∀ k l, i ≤ k → ls[k]? = some l → ¬ cmpN l.1 t < 0) → posN ls t = i := by
  intro ls t
  induction ls with
  | nil => intro i hi _ _; simp at hi; subst hi; rfl
  | cons a r ih =>
    intro i hi h1 h2
    cases i with
    | zero =>
      have := h2 0 a (Nat.le_refl _) rfl
      simp [posN, List.takeWhile_cons, this]
    | succ i =>
      have ha := h1 0 a (by omega) rfl
      have := ih (i := i) (by simpa using hi) (fun k l hk hl => h1 (k + 1) l (by omega) (by simpa using hl)) (fun k l hk hl => h2 (k + 1) l (by omega) (by simpa using hl))
      simp only [posN, List.takeWhile_cons, ha, decide_true, if_true, List.length_cons]
      unfold posN at this
      omega

set_option maxHeartbeats 2000000 in
set_option maxRecDepth 100000 in
theorem search_any (v : Value) (ls : List Lab) (t : ByteArray) (w : World) (hv : SL w v ls) (hn : ls.length ≤ 1000) (hsrt : SortedFor ls t) :
    Calls Tryz.prog 94 #[v, .string t, .func (.func 95) #[] #[]] w fun e w' => e = .returned (.tuple #[.int .i64 (posN ls t), .bool (thereN ls t)]) ∧ Ex [] w w' := by
  have HV := hide hv
  have HS := hide hsrt
  obtain ⟨p, c, rfl⟩ := hv.slice
  clear hv hsrt
  go_enter Tryz.func94, Tryz.ntmps94
  go_wp2_with fail
  go_loopg [9, 10] ls.length (fun gk i j wr => ∃ a b : Nat, b - a ≤ gk ∧ a ≤ b ∧ b ≤ ls.length ∧ i = .int .i64 a ∧ j = .int .i64 b ∧ (∀ k l, k < a → ls[k]? = some l → cmpN l.1 t < 0) ∧ (∀ k l, b ≤ k → ls[k]? = some l → ¬ cmpN l.1 t < 0) ∧ Ex [] w wr)
  case atStart => exact ⟨0, ls.length, by omega, by omega, by omega, rfl, rfl, fun k l h => by omega, fun k l h hl => (by rw [List.getElem?_eq_none h] at hl; cases hl), Ex.refl _ _⟩
  case round =>
    obtain ⟨a, b, hg, hab, hbl, rfl, rfl, h1, h2, hx⟩ := hrel
    have H1 := hide h1
    have H2 := hide h2
    have HX := hide hx
    by_cases hlt : a < b
    · have hlt' : (a : Int) < (b : Int) := by omega
      obtain ⟨h, hh⟩ : ∃ h : Nat, ((a : Int) + (b : Int)) / 2 = (h : Int) := ⟨(a + b) / 2, by omega⟩
      have hha : a ≤ h := by omega
      have hhb : h < b := by omega
      have hhl : h < ls.length := by omega
      have hhl' : (h : Int) < (ls.length : Int) := by omega
      obtain ⟨l, hl⟩ : ∃ l, ls[h]? = some l := ⟨_, List.getElem?_eq_getElem hhl⟩
      have HLJ := hide hl
      obtain ⟨b', c', rfl, hb, c0, c1⟩ : ∃ b' c', p = some ⟨b', 0, none⟩ ∧ b' < wr.heap.size ∧ wr.cell? ⟨b', h * 2, none⟩ = some (.string l.1) ∧ wr.cell? ⟨b', h * 2 + 1, none⟩ = some (.string l.2) := by
        rcases HV.out with ⟨h1, h2⟩ | ⟨b', c', h1, hb, hc⟩
        · rw [h2] at hhl; simp at hhl
        · cases h1
          obtain ⟨h3, h4⟩ := hc h l hl
          exact ⟨b', 0, rfl, Nat.lt_of_lt_of_le hb hx.size, by rw [hx.cell0.1 b' _ hb]; exact h3, by rw [hx.cell0.1 b' _ hb]; exact h4⟩
      clear h1 h2 hx hl
      go_wp2_with fail
      refine (cmp_any l t _).mono ?_
      rintro e w' ⟨rfl, hx1⟩
      have HX1 := hide hx1
      clear hx1
      by_cases hc : cmpN l.1 t < 0
      · have HC := hide hc
        go_wp2_with fail
        go_roundg (gk - 1)
        case measure => omega
        case rel =>
          refine ⟨h + 1, b, by omega, by omega, by omega, by simp, rfl, fun k l' hk hl' => ?_, H2.out, HX.out.trans HX1.out⟩
          exact HS.out k h l' l (by omega) hl' HLJ.out HC.out
      · have HC := hide hc
        have hc' : 0 ≤ cmpN l.1 t := by omega
        clear hc
        go_wp2_with fail
        go_roundg (gk - 1)
        case measure => omega
        case rel =>
          refine ⟨a, h, by omega, by omega, by omega, rfl, by simp, H1.out, fun k l' hk hl' => Int.not_lt.1 fun hlt2 => ?_, HX.out.trans HX1.out⟩
          exact absurd (HS.out h k l l' hk HLJ.out hl' hlt2) (by have := HC.out; omega)
    · obtain rfl : a = b := by omega
      have hpos : posN ls t = a := posN_eq hbl h1 h2
      have HP := hide hpos
      clear hpos hlt h1 h2
      by_cases hal : a < ls.length
      · have hal' : (a : Int) < (ls.length : Int) := by omega
        obtain ⟨l, hl⟩ : ∃ l, ls[a]? = some l := ⟨_, List.getElem?_eq_getElem hal⟩
        have HLJ := hide hl
        obtain ⟨b, c', rfl, hb, c0, c1⟩ : ∃ b c', p = some ⟨b, 0, none⟩ ∧ b < wr.heap.size ∧ wr.cell? ⟨b, a * 2, none⟩ = some (.string l.1) ∧ wr.cell? ⟨b, a * 2 + 1, none⟩ = some (.string l.2) := by
          rcases HV.out with ⟨h1, h2⟩ | ⟨b, c', h1, hb, hc⟩
          · rw [h2] at hal; simp at hal
          · cases h1
            obtain ⟨h3, h4⟩ := hc a l hl
            exact ⟨b, 0, rfl, Nat.lt_of_lt_of_le hb hx.size, by rw [hx.cell0.1 b _ hb]; exact h3, by rw [hx.cell0.1 b _ hb]; exact h4⟩
        clear hx hl
        go_wp2_with fail
        refine (cmp_any l t _).mono ?_
        rintro e w' ⟨rfl, hx1⟩
        have HX1 := hide hx1
        clear hx1
        go_wp2_with fail
        go_ret2
        refine ⟨?_, HX.out.trans HX1.out⟩
        simp [thereN, unhide HP, HLJ.out]
      · obtain rfl : a = ls.length := by omega
        clear hx hal
        go_wp2_with fail
        go_ret2
        refine ⟨?_, HX.out⟩
        simp [thereN, unhide HP]

/-- The labels of a series that is rewritten: a pointer to a block with a slice that the call's side owns. -/
structure LS (w : World) (q base : Nat) (ls : List Lab) : Prop where
  lt : q < base
  le : base ≤ w.heap.size
  ex : ∃ v, BK w q (.cells #[v] 98 (0, 0)) ∧ w.ownsRow base 48 2 v ls.length (ls.flatMap fun l => [.string l.1, .string l.2])

theorem flat_at : ∀ (ls : List Lab) (j : Nat) (l : Lab), ls[j]? = some l → (ls.flatMap fun l => [Value.string l.1, Value.string l.2])[j * 2]? = some (.string l.1) ∧ (ls.flatMap fun l => [Value.string l.1, Value.string l.2])[j * 2 + 1]? = some (.string l.2)
  | [], j, l, h => by simp at h
  | a :: r, 0, l, h => by simp at h; subst h; simp
  | a :: r, j + 1, l, h => by
    have := flat_at r j l (by simpa using h)
    simp only [List.flatMap_cons, List.cons_append, List.nil_append]
    rw [show (j + 1) * 2 = j * 2 + 1 + 1 by omega]
    simpa using this

theorem own_sl {w : World} {base : Nat} {v : Value} {ls : List Lab} (h : w.ownsRow base 48 2 v ls.length (ls.flatMap fun l => [.string l.1, .string l.2])) : SL w v ls := by
  rcases h.2 with ⟨rfl, h2⟩ | ⟨g, cap, cur, rfl, hb, hg, hn, hm, hs, ht⟩
  · exact .inl ⟨rfl, List.length_eq_zero_iff.1 h2⟩
  · refine .inr ⟨g, cap, rfl, (Array.getElem?_eq_some_iff.1 hg).1, fun j l hj => ?_⟩
    have hjl : j < ls.length := (List.getElem?_eq_some_iff.1 hj).1
    have h1 := flat_at ls j l hj
    rw [cell_of_row w g _ cur _ _ hg, cell_of_row w g _ cur _ _ hg]
    rw [← ht, List.getElem?_take, List.getElem?_take, if_pos (by omega), if_pos (by omega)] at h1
    simpa using h1

set_option maxHeartbeats 1000000 in
set_option maxRecDepth 100000 in
theorem find_any (q base : Nat) (ls : List Lab) (t : ByteArray) (w : World) (hq : LS w q base ls) (hn : ls.length ≤ 1000) (hsrt : SortedFor ls t) :
    Calls Tryz.prog 61 #[.pointer (some ⟨q, 0, none⟩), .string t] w fun e w' => e = .returned (.tuple #[.int .i64 (posN ls t), .bool (thereN ls t)]) ∧ Ex [] w w' := by
  obtain ⟨v, hb, ho⟩ := hq.ex
  obtain ⟨hc, hf⟩ := hb.all
  have HO := hide ho
  have HS := hide hsrt
  clear hq hb ho hsrt
  go_enter Tryz.func61, Tryz.ntmps61
  go_wp2_with fail
  refine (search_any v ls t _ (own_sl HO.out) hn HS.out).mono ?_
  rintro e w' ⟨rfl, hx1⟩
  have HX1 := hide hx1
  clear hx1
  go_wp2_with fail
  go_ret2
  exact ⟨rfl, HX1.out⟩
end Go.Proofs.YtmeffeigamaipabGreatDoor
