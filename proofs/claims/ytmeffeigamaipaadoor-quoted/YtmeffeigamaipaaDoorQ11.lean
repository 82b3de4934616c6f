/- Contracts of what makes texts: turned. -/
import Derived.Test.YtmeffeigamaipaaDoorQ10
import Derived.Laws.IdiomStrings
set_option linter.unusedVariables false
set_option linter.unusedSimpArgs false
namespace Go.Proofs.YtmeffeigamaipaaDoor.Q
open Go.RowKit

/-- A block that holds bytes (and room behind them). -/
def BB (w : World) (b : Nat) (l : List UInt8) : Prop := ∃ C : Array Value, BK w b (.cells C 5 (C.size, C.size + 1)) ∧ l.length ≤ C.size ∧ ∀ j, j < l.length → C[j]? = (l[j]?).map fun x => Value.int .u8 x.toNat

theorem BB.cell {w : World} {b : Nat} {l : List UInt8} (h : BB w b l) (j : Nat) (hj : j < l.length) : w.cell? ⟨b, j, none⟩ = some (.int .u8 (l[j]'hj).toNat) := by
  obtain ⟨C, hb, hl, hc⟩ := h
  rw [cell_of_row w b j C 5 (C.size, C.size + 1) hb, hc j hj, List.getElem?_eq_getElem hj]
  rfl
theorem BB.frozen {w : World} {b : Nat} {l : List UInt8} (h : BB w b l) (j : Nat) (hj : j < l.length) : w.frozen? ⟨b, j, none⟩ = false := by
  obtain ⟨C, hb, hl, hc⟩ := h
  unfold BK at hb
  simp [World.frozen?, hb]
  omega
theorem BB.lt {w : World} {b : Nat} {l : List UInt8} (h : BB w b l) : b < w.heap.size := by
  obtain ⟨C, hb, hl, hc⟩ := h
  exact hb.lt
theorem BB.set {w : World} {b : Nat} {l : List UInt8} (h : BB w b l) (i : Nat) (y : UInt8) : BB (w.setCell ⟨b, i, none⟩ (.int .u8 y.toNat)) b (l.set i y) := by
  obtain ⟨C, hb, hl, hc⟩ := h
  refine ⟨C.setIfInBounds i (.int .u8 y.toNat), ?_, by simpa using hl, fun j hj => ?_⟩
  · unfold BK at hb ⊢
    simp [World.setCell, Array.getElem?_modify, hb]
  · simp only [List.length_set] at hj
    by_cases e : i = j
    · subst e
      rw [Array.getElem?_setIfInBounds_self_of_lt (by omega), List.getElem?_set_self hj]; rfl
    · rw [Array.getElem?_setIfInBounds_ne e, List.getElem?_set_ne e]; exact hc j hj
theorem BB.ex {l0 : List Nat} {w w' : World} {b : Nat} {l : List UInt8} (h : BB w b l) (hx : Ex l0 w w') (hn : b ∉ l0) : BB w' b l := by
  obtain ⟨C, hb, hl, hc⟩ := h
  exact ⟨C, hb.ex hx hn, hl, hc⟩
theorem BB.new (w : World) (s : ByteArray) (cap : Nat) : BB (w.alloc (.cells (bytesRow s cap) 5 ((bytesRow s cap).size, (bytesRow s cap).size + 1))) w.heap.size s.data.toList := by
  refine ⟨_, BK.new _ _, ?_, fun j hj => ?_⟩
  · simp [bytesRow]
  · have hj' : j < s.data.size := by simpa using hj
    unfold bytesRow
    rw [Array.getElem?_append_left (by simpa using hj')]
    simp

theorem upd_next {f : UInt8 → UInt8} {l l' : List UInt8} {i : Nat} (hi : i < l.length) (hl : l'.length = l.length) (h : ∀ j, l'[j]? = if j < i then (l[j]?).map f else l[j]?) :
    ∀ j, (l'.set i (f l[i]))[j]? = if j < i + 1 then (l[j]?).map f else l[j]? := by
  intro j
  by_cases e : i = j
  · subst e
    rw [List.getElem?_set_self (by omega), if_pos (by omega), List.getElem?_eq_getElem hi]; rfl
  · rw [List.getElem?_set_ne e, h j]
    by_cases h1 : j < i
    · rw [if_pos h1, if_pos (by omega)]
    · rw [if_neg h1, if_neg (by omega)]
theorem upd_end {f : UInt8 → UInt8} {l l' : List UInt8} (h : ∀ j, l'[j]? = if j < l.length then (l[j]?).map f else l[j]?) : l' = l.map f := by
  apply List.ext_getElem?
  intro j
  rw [h j, List.getElem?_map]
  by_cases h1 : j < l.length
  · rw [if_pos h1]
  · rw [if_neg h1, List.getElem?_eq_none (by omega)]; rfl

/-- A letter in the other case. -/
def turnB (b : UInt8) : UInt8 := if 97 ≤ b.toNat ∧ b.toNat ≤ 122 then b - 32 else if 65 ≤ b.toNat ∧ b.toNat ≤ 90 then b + 32 else b
def turnA (s : ByteArray) : ByteArray := ⟨(s.data.toList.map turnB).toArray⟩

set_option maxHeartbeats 1000000 in
set_option maxRecDepth 100000 in
theorem turned_any (s : ByteArray) (w : World) (hs : s.size ≤ 1000) : Calls Tryd.prog 12 #[.string s] w fun e w' => e = .returned (.string (turnA s)) ∧ Ex [] w w' := by
  have hcv := run_bytes_of_string (P := Tryd.prog) w 9 31 5 s Tryd.underlying9 Tryd.underlying31 Tryd.underlying5
  have hN : BB (w.drew.alloc (.cells (bytesRow s (grownCap w s.size 0 5)) 5 ((bytesRow s (grownCap w s.size 0 5)).size, (bytesRow s (grownCap w s.size 0 5)).size + 1))) w.heap.size s.data.toList := BB.new w.drew s _
  have hlen : s.data.toList.length = s.size := (Lib.size_eq s).symm
  have HN := hide hN
  clear hN
  obtain ⟨cap, hcap⟩ : ∃ cap, grownCap w s.size 0 5 = cap := ⟨_, rfl⟩
  rw [hcap] at hcv HN
  clear hcap
  obtain ⟨l, hl⟩ : ∃ l, s.data.toList = l := ⟨_, rfl⟩
  have HL := hide hl
  rw [hl] at hlen HN
  clear hl
  obtain ⟨W0, hW0⟩ : ∃ W0, w.drew.alloc (.cells (bytesRow s cap) 5 ((bytesRow s cap).size, (bytesRow s cap).size + 1)) = W0 := ⟨_, rfl⟩
  have HX0 : Hid (Ex [] w W0) := by rw [← hW0]; exact ((Ex.refl _ _).drew).alloc _
  rw [hW0] at hcv HN
  clear hW0
  go_enter Tryd.func12, Tryd.ntmps12
  go_wp2_with fail
  go_loopg [4] s.size (fun gk i4 wr => ∃ (i : Nat) (l' : List UInt8), i + gk = s.size ∧ i4 = .int .i64 i ∧ l'.length = l.length ∧ (∀ j, l'[j]? = if j < i then (l[j]?).map turnB else l[j]?) ∧ BB wr w.heap.size l' ∧ Ex [] w wr)
  case atStart => exact ⟨0, l, by omega, rfl, rfl, fun j => by simp, HN.out, HX0.out⟩
  case round =>
    obtain ⟨i, l', hgi, rfl, hll, hup, hbb, hx⟩ := hrel
    have HX := hide hx
    have HB := hide hbb
    have HU := hide hup
    have hbl := hbb.lt
    clear hx hbb hup hcv
    cases gk with
    | zero =>
      obtain rfl : i = s.size := by omega
      have hend : l' = l.map turnB := upd_end (by rw [hlen]; exact HU.out)
      have hback := run_convert_bytes_back (P := Tryd.prog) wr 31 9 5 ⟨w.heap.size, 0, none⟩ cap l' Tryd.underlying31 Tryd.underlying5 Tryd.underlying9 (fun j hj => by rw [Addr.add_lit, Nat.zero_add]; exact HB.out.cell j hj)
      rw [hll, hlen] at hback
      go_wp2_with fail
      go_ret
      refine ⟨?_, HX.out⟩
      unfold turnA
      rw [HL.out]
      simp
    | succ g =>
      have hi : i < l.length := by omega
      have hi' : (i : Int) < (s.size : Int) := by omega
      have hc := HB.out.cell i (by omega)
      have hf := HB.out.frozen i (by omega)
      have hli : (l'[i]'(by omega)) = l[i] := by
        have h1 := HU.out i
        rw [if_neg (by omega), List.getElem?_eq_getElem (by omega), List.getElem?_eq_getElem hi] at h1
        exact Option.some.inj h1
      rw [hli] at hc
      obtain ⟨b, hb⟩ : ∃ b, l[i] = b := ⟨_, rfl⟩
      rw [hb] at hc
      have hb256 := b.toNat_lt
      have hnext := upd_next hi hll HU.out
      rw [hb] at hnext
      have HNX := hide hnext
      clear hnext hli
      by_cases h1 : 97 ≤ b.toNat ∧ b.toNat ≤ 122
      · have e1 : (97 : Int) ≤ (b.toNat : Int) := by omega
        have e2 : (b.toNat : Int) ≤ 122 := by omega
        have et : ((b.toNat : Int) - 32) = ((turnB b).toNat : Int) := by
          unfold turnB; rw [if_pos h1]
          rw [UInt8.toNat_sub_of_le _ _ (by rw [UInt8.le_iff_toNat_le]; show 32 ≤ b.toNat; omega)]
          have : (32 : UInt8).toNat = 32 := rfl
          omega
        go_wp2_with fail
        go_roundg g
        case measure => omega
        case rel => exact ⟨i + 1, l'.set i (turnB b), by omega, by simp, by simpa using hll, HNX.out, HB.out.set i _, HX.out.setCell (Or.inr (by simp)) _⟩
      · have n1 : ¬ ((97 : Int) ≤ (b.toNat : Int) ∧ (b.toNat : Int) ≤ 122) := by omega
        by_cases h2 : 65 ≤ b.toNat ∧ b.toNat ≤ 90
        · have e0 : ¬ (97 : Int) ≤ (b.toNat : Int) := by omega
          have e1 : (65 : Int) ≤ (b.toNat : Int) := by omega
          have e2 : (b.toNat : Int) ≤ 90 := by omega
          have et : ((b.toNat : Int) + 32) = ((turnB b).toNat : Int) := by
            unfold turnB; rw [if_neg h1, if_pos h2]
            rw [UInt8.toNat_add]
            have : (32 : UInt8).toNat = 32 := rfl
            omega
          go_wp2_with fail
          go_roundg g
          case measure => omega
          case rel => exact ⟨i + 1, l'.set i (turnB b), by omega, by simp, by simpa using hll, HNX.out, HB.out.set i _, HX.out.setCell (Or.inr (by simp)) _⟩
        · have et : turnB b = b := by unfold turnB; rw [if_neg h1, if_neg h2]
          have hsame : l'.set i b = l' := by
            apply List.ext_getElem?
            intro j
            by_cases e : i = j
            · subst e
              have h3 := HU.out i
              rw [if_neg (by omega), List.getElem?_eq_getElem hi, hb] at h3
              rw [List.getElem?_set_self (by omega), h3]
            · rw [List.getElem?_set_ne e]
          have HNX2 : Hid (∀ j, l'[j]? = if j < i + 1 then (l[j]?).map turnB else l[j]?) := by
            show ∀ j, l'[j]? = if j < i + 1 then (l[j]?).map turnB else l[j]?
            have h3 := HNX.out
            rw [et, hsame] at h3
            exact h3
          clear et hsame
          by_cases h3 : 97 ≤ b.toNat
          · have e0 : (97 : Int) ≤ (b.toNat : Int) := by omega
            have e1 : ¬ (b.toNat : Int) ≤ 122 := by omega
            have e2 : (65 : Int) ≤ (b.toNat : Int) := by omega
            have e3 : ¬ (b.toNat : Int) ≤ 90 := by omega
            go_wp2_with fail
            go_roundg g
            case measure => omega
            case rel => exact ⟨i + 1, l', by omega, by simp, hll, HNX2.out, HB.out, HX.out⟩
          · have e0 : ¬ (97 : Int) ≤ (b.toNat : Int) := by omega
            by_cases h4 : 65 ≤ b.toNat
            · have e2 : (65 : Int) ≤ (b.toNat : Int) := by omega
              have e3 : ¬ (b.toNat : Int) ≤ 90 := by omega
              go_wp2_with fail
              go_roundg g
              case measure => omega
              case rel => exact ⟨i + 1, l', by omega, by simp, hll, HNX2.out, HB.out, HX.out⟩
            · have e2 : ¬ (65 : Int) ≤ (b.toNat : Int) := by omega
              go_wp2_with fail
              go_roundg g
              case measure => omega
              case rel => exact ⟨i + 1, l', by omega, by simp, hll, HNX2.out, HB.out, HX.out⟩
end Go.Proofs.YtmeffeigamaipaaDoor.Q
