/- F3 F4 F8 T2 P0, one behind the other. -/
import Derived.Test.YtcbiidoebpkifaaGreatDoorM02
import Derived.Laws.IdiomStrings
import Derived.Test.YtcbiidoebpkifaaGreatDoorM04
import Derived.Test.YtcbiidoebpkifaaGreatDoorM32
import Derived.Test.YtcbiidoebpkifaaGreatDoorM33
import Derived.Test.YtcbiidoebpkifaaGreatDoorM05
import Derived.Test.YtcbiidoebpkifaaGreatDoorM01
import Derived.Test.YtcbiidoebpkifaaGreatDoorProg
import Derived.Lib.ItoaMem
set_option linter.unusedVariables false
set_option linter.unusedSimpArgs false
/- Contracts of package rule: texts in the other case. -/
namespace Go.Proofs.YtcbiidoebpkifaaGreatDoor
open Go.RowKit

def BB (w : World) (b : Nat) (l : List UInt8) : Prop := ∃ C : Array Value, BK w b (.cells C 5 (C.size, C.size + 1)) ∧ l.length ≤ C.size ∧ ∀ j, j < l.length → C[j]? = (l[j]?).map fun x => Value.int .u8 x.toNat

theorem BB.cell {w : World} {b : Nat} {l : List UInt8} (h : BB w b l) (j : Nat) (hj : j < l.length) : w.cell? ⟨b, j, none⟩ = some (.int .u8 (l[j]'hj).toNat) := by
  obtain ⟨C, hb, hl, hc⟩ := h
  rw [cell_of_row w b j C 5 (C.size, C.size + 1) hb, hc j hj, List.getElem?_eq_getElem hj]
  rfl
theorem BB.frozen {w : World} {b : Nat} {l : List UInt8} (h : BB w b l) (j : Nat) (hj : j < l.length) : w.frozen? ⟨b, j, none⟩ = false := by
  obtain ⟨C, hb, hl, hc⟩ := h
  unfold BK at hb
  simp [World.frozen?, hb]
  omega
theorem BB.lt {w : World} {b : Nat} {l : List UInt8} (h : BB w b l) : b < w.heap.size := by
  obtain ⟨C, hb, hl, hc⟩ := h
  exact hb.lt
theorem BB.set {w : World} {b : Nat} {l : List UInt8} (h : BB w b l) (i : Nat) (y : UInt8) : BB (w.setCell ⟨b, i, none⟩ (.int .u8 y.toNat)) b (l.set i y) := by
  obtain ⟨C, hb, hl, hc⟩ := h
  refine ⟨C.setIfInBounds i (.int .u8 y.toNat), ?_, by simpa using hl, fun j hj => ?_⟩
  · unfold BK at hb ⊢
    simp [World.setCell, Array.getElem?_modify, hb]
  · simp only [List.length_set] at hj
    by_cases e : i = j
    · subst e
      rw [Array.getElem?_setIfInBounds_self_of_lt (by omega), List.getElem?_set_self hj]; rfl
    · rw [Array.getElem?_setIfInBounds_ne e, List.getElem?_set_ne e]; exact hc j hj
theorem BB.ex {l0 : List Nat} {w w' : World} {b : Nat} {l : List UInt8} (h : BB w b l) (hx : Ex l0 w w') (hn : b ∉ l0) : BB w' b l := by
  obtain ⟨C, hb, hl, hc⟩ := h
  exact ⟨C, hb.ex hx hn, hl, hc⟩
theorem BB.new (w : World) (s : ByteArray) (cap : Nat) : BB (w.alloc (.cells (bytesRow s cap) 5 ((bytesRow s cap).size, (bytesRow s cap).size + 1))) w.heap.size s.data.toList := by
  refine ⟨_, BK.new _ _, ?_, fun j hj => ?_⟩
  · simp [bytesRow]
  · have hj' : j < s.data.size := by simpa using hj
    unfold bytesRow
    rw [Array.getElem?_append_left (by simpa using hj')]
    simp

theorem upd_next {f : UInt8 → UInt8} {l l' : List UInt8} {i : Nat} (hi : i < l.length) (hl : l'.length = l.length) (h : ∀ j, l'[j]? = if j < i then (l[j]?).map f else l[j]?) :
    ∀ j, (l'.set i (f l[i]))[j]? = if j < i + 1 then (l[j]?).map f else l[j]? := by
  intro j
  by_cases e : i = j
  · subst e
    rw [List.getElem?_set_self (by omega), if_pos (by omega), List.getElem?_eq_getElem hi]; rfl
  · rw [List.getElem?_set_ne e, h j]
    by_cases h1 : j < i
    · rw [if_pos h1, if_pos (by omega)]
    · rw [if_neg h1, if_neg (by omega)]
theorem upd_end {f : UInt8 → UInt8} {l l' : List UInt8} (h : ∀ j, l'[j]? = if j < l.length then (l[j]?).map f else l[j]?) : l' = l.map f := by
  apply List.ext_getElem?
  intro j
  rw [h j, List.getElem?_map]
  by_cases h1 : j < l.length
  · rw [if_pos h1]
  · rw [if_neg h1, List.getElem?_eq_none (by omega)]; rfl


def upperB (b : UInt8) : UInt8 := if 97 ≤ b.toNat ∧ b.toNat ≤ 122 then b - 32 else b
def upperA (s : ByteArray) : ByteArray := ⟨(s.data.toList.map upperB).toArray⟩

set_option maxHeartbeats 1000000 in
set_option maxRecDepth 100000 in
theorem shifted_upper (s : ByteArray) (w : World) (hs : s.size ≤ 281474976710656) : Calls Tryz.prog 140 #[.string s, .int .u8 97, .int .u8 65] w fun e w' => e = .returned (.string (upperA s)) ∧ Ex [] w w' := by
  have hcv := run_bytes_of_string (P := Tryz.prog) w 9 119 5 s Tryz.underlying9 Tryz.underlying119 Tryz.underlying5
  have hN : BB (w.drew.alloc (.cells (bytesRow s (grownCap w s.size 0 5)) 5 ((bytesRow s (grownCap w s.size 0 5)).size, (bytesRow s (grownCap w s.size 0 5)).size + 1))) w.heap.size s.data.toList := BB.new w.drew s _
  have hlen : s.data.toList.length = s.size := (Lib.size_eq s).symm
  have HN := hide hN
  clear hN
  obtain ⟨cap, hcap⟩ : ∃ cap, grownCap w s.size 0 5 = cap := ⟨_, rfl⟩
  rw [hcap] at hcv HN
  clear hcap
  obtain ⟨l, hl⟩ : ∃ l, s.data.toList = l := ⟨_, rfl⟩
  have HL := hide hl
  rw [hl] at hlen HN
  clear hl
  obtain ⟨W0, hW0⟩ : ∃ W0, w.drew.alloc (.cells (bytesRow s cap) 5 ((bytesRow s cap).size, (bytesRow s cap).size + 1)) = W0 := ⟨_, rfl⟩
  have HX0 : Hid (Ex [] w W0) := by rw [← hW0]; exact ((Ex.refl _ _).drew).alloc _
  rw [hW0] at hcv HN
  clear hW0
  go_enter Tryz.func140, Tryz.ntmps140
  go_wp2_with fail
  go_loopg [14] s.size (fun gk i4 wr => ∃ (i : Nat) (l' : List UInt8), i + gk = s.size ∧ i4 = .int .i64 i ∧ l'.length = l.length ∧ (∀ j, l'[j]? = if j < i then (l[j]?).map upperB else l[j]?) ∧ BB wr w.heap.size l' ∧ Ex [] w wr)
  case atStart => exact ⟨0, l, by omega, rfl, rfl, fun j => by simp, HN.out, HX0.out⟩
  case round =>
    obtain ⟨i, l', hgi, rfl, hll, hup, hbb, hx⟩ := hrel
    have HX := hide hx
    have HB := hide hbb
    have HU := hide hup
    have hbl := hbb.lt
    clear hx hbb hup hcv
    cases gk with
    | zero =>
      obtain rfl : i = s.size := by omega
      have hend : l' = l.map upperB := upd_end (by rw [hlen]; exact HU.out)
      have hback := run_convert_bytes_back (P := Tryz.prog) wr 119 9 5 ⟨w.heap.size, 0, none⟩ cap l' Tryz.underlying119 Tryz.underlying5 Tryz.underlying9 (fun j hj => by rw [Addr.add_lit, Nat.zero_add]; exact HB.out.cell j hj)
      rw [hll, hlen] at hback
      go_wp2_with fail
      go_ret
      refine ⟨?_, HX.out⟩
      unfold upperA
      rw [HL.out]
      simp
    | succ g =>
      have hi : i < l.length := by omega
      have hi' : (i : Int) < (s.size : Int) := by omega
      have hc := HB.out.cell i (by omega)
      have hf := HB.out.frozen i (by omega)
      have hli : (l'[i]'(by omega)) = l[i] := by
        have h1 := HU.out i
        rw [if_neg (by omega), List.getElem?_eq_getElem (by omega), List.getElem?_eq_getElem hi] at h1
        exact Option.some.inj h1
      rw [hli] at hc
      obtain ⟨b, hb⟩ : ∃ b, l[i] = b := ⟨_, rfl⟩
      rw [hb] at hc
      have hb256 := b.toNat_lt
      have hnext := upd_next hi hll HU.out
      rw [hb] at hnext
      have HNX := hide hnext
      clear hnext hli
      by_cases h1 : 97 ≤ b.toNat ∧ b.toNat ≤ 122
      · have e1 : (97 : Int) ≤ (b.toNat : Int) := by omega
        have e2 : (b.toNat : Int) < 123 := by omega
        have et : ((b.toNat : Int) - 97 + 65) = ((upperB b).toNat : Int) := by
          unfold upperB; rw [if_pos h1]
          rw [UInt8.toNat_sub_of_le _ _ (by rw [UInt8.le_iff_toNat_le]; show 32 ≤ b.toNat; omega)]
          have : (32 : UInt8).toNat = 32 := rfl
          omega
        go_wp2_with fail
        go_roundg g
        case measure => omega
        case rel => exact ⟨i + 1, l'.set i (upperB b), by omega, by simp, by simpa using hll, HNX.out, by first | exact HB.out.set i _ | (rw [et]; exact HB.out.set i _), HX.out.setCell (Or.inr (by simp)) _⟩
      · have et : upperB b = b := by unfold upperB; rw [if_neg h1]
        have hsame : l'.set i b = l' := by
          apply List.ext_getElem?
          intro j
          by_cases e : i = j
          · subst e
            have h3 := HU.out i
            rw [if_neg (by omega), List.getElem?_eq_getElem hi, hb] at h3
            rw [List.getElem?_set_self (by omega), h3]
          · rw [List.getElem?_set_ne e]
        have HNX2 : Hid (∀ j, l'[j]? = if j < i + 1 then (l[j]?).map upperB else l[j]?) := by
          show ∀ j, l'[j]? = if j < i + 1 then (l[j]?).map upperB else l[j]?
          have h3 := HNX.out
          rw [et, hsame] at h3
          exact h3
        clear et hsame
        by_cases h3 : 97 ≤ b.toNat
        · have e0 : (97 : Int) ≤ (b.toNat : Int) := by omega
          have e1 : ¬ (b.toNat : Int) < 123 := by omega
          go_wp2_with fail
          go_roundg g
          case measure => omega
          case rel => exact ⟨i + 1, l', by omega, by simp, hll, HNX2.out, HB.out, HX.out⟩
        · have e0 : ¬ (97 : Int) ≤ (b.toNat : Int) := by omega
          go_wp2_with fail
          go_roundg g
          case measure => omega
          case rel => exact ⟨i + 1, l', by omega, by simp, hll, HNX2.out, HB.out, HX.out⟩

set_option maxHeartbeats 400000 in
theorem upper_any (s : ByteArray) (w : World) (hs : s.size ≤ 281474976710656) : Calls Tryz.prog 113 #[.string s] w fun e w' => e = .returned (.string (upperA s)) ∧ Ex [] w w' := by
  go_enter Tryz.func113, Tryz.ntmps113
  go_wp2_with fail
  refine (shifted_upper s _ hs).mono ?_
  rintro e w' ⟨rfl, hx⟩
  have HX := hide hx
  clear hx
  go_wp2_with fail
  go_ret
  exact ⟨rfl, HX.out⟩

def lowerB (b : UInt8) : UInt8 := if 65 ≤ b.toNat ∧ b.toNat ≤ 90 then b + 32 else b
def lowerA (s : ByteArray) : ByteArray := ⟨(s.data.toList.map lowerB).toArray⟩

set_option maxHeartbeats 1000000 in
set_option maxRecDepth 100000 in
theorem shifted_lower (s : ByteArray) (w : World) (hs : s.size ≤ 281474976710656) : Calls Tryz.prog 140 #[.string s, .int .u8 65, .int .u8 97] w fun e w' => e = .returned (.string (lowerA s)) ∧ Ex [] w w' := by
  have hcv := run_bytes_of_string (P := Tryz.prog) w 9 119 5 s Tryz.underlying9 Tryz.underlying119 Tryz.underlying5
  have hN : BB (w.drew.alloc (.cells (bytesRow s (grownCap w s.size 0 5)) 5 ((bytesRow s (grownCap w s.size 0 5)).size, (bytesRow s (grownCap w s.size 0 5)).size + 1))) w.heap.size s.data.toList := BB.new w.drew s _
  have hlen : s.data.toList.length = s.size := (Lib.size_eq s).symm
  have HN := hide hN
  clear hN
  obtain ⟨cap, hcap⟩ : ∃ cap, grownCap w s.size 0 5 = cap := ⟨_, rfl⟩
  rw [hcap] at hcv HN
  clear hcap
  obtain ⟨l, hl⟩ : ∃ l, s.data.toList = l := ⟨_, rfl⟩
  have HL := hide hl
  rw [hl] at hlen HN
  clear hl
  obtain ⟨W0, hW0⟩ : ∃ W0, w.drew.alloc (.cells (bytesRow s cap) 5 ((bytesRow s cap).size, (bytesRow s cap).size + 1)) = W0 := ⟨_, rfl⟩
  have HX0 : Hid (Ex [] w W0) := by rw [← hW0]; exact ((Ex.refl _ _).drew).alloc _
  rw [hW0] at hcv HN
  clear hW0
  go_enter Tryz.func140, Tryz.ntmps140
  go_wp2_with fail
  go_loopg [14] s.size (fun gk i4 wr => ∃ (i : Nat) (l' : List UInt8), i + gk = s.size ∧ i4 = .int .i64 i ∧ l'.length = l.length ∧ (∀ j, l'[j]? = if j < i then (l[j]?).map lowerB else l[j]?) ∧ BB wr w.heap.size l' ∧ Ex [] w wr)
  case atStart => exact ⟨0, l, by omega, rfl, rfl, fun j => by simp, HN.out, HX0.out⟩
  case round =>
    obtain ⟨i, l', hgi, rfl, hll, hup, hbb, hx⟩ := hrel
    have HX := hide hx
    have HB := hide hbb
    have HU := hide hup
    have hbl := hbb.lt
    clear hx hbb hup hcv
    cases gk with
    | zero =>
      obtain rfl : i = s.size := by omega
      have hend : l' = l.map lowerB := upd_end (by rw [hlen]; exact HU.out)
      have hback := run_convert_bytes_back (P := Tryz.prog) wr 119 9 5 ⟨w.heap.size, 0, none⟩ cap l' Tryz.underlying119 Tryz.underlying5 Tryz.underlying9 (fun j hj => by rw [Addr.add_lit, Nat.zero_add]; exact HB.out.cell j hj)
      rw [hll, hlen] at hback
      go_wp2_with fail
      go_ret
      refine ⟨?_, HX.out⟩
      unfold lowerA
      rw [HL.out]
      simp
    | succ g =>
      have hi : i < l.length := by omega
      have hi' : (i : Int) < (s.size : Int) := by omega
      have hc := HB.out.cell i (by omega)
      have hf := HB.out.frozen i (by omega)
      have hli : (l'[i]'(by omega)) = l[i] := by
        have h1 := HU.out i
        rw [if_neg (by omega), List.getElem?_eq_getElem (by omega), List.getElem?_eq_getElem hi] at h1
        exact Option.some.inj h1
      rw [hli] at hc
      obtain ⟨b, hb⟩ : ∃ b, l[i] = b := ⟨_, rfl⟩
      rw [hb] at hc
      have hb256 := b.toNat_lt
      have hnext := upd_next hi hll HU.out
      rw [hb] at hnext
      have HNX := hide hnext
      clear hnext hli
      by_cases h1 : 65 ≤ b.toNat ∧ b.toNat ≤ 90
      · have e1 : (65 : Int) ≤ (b.toNat : Int) := by omega
        have e2 : (b.toNat : Int) < 91 := by omega
        have et : ((b.toNat : Int) - 65 + 97) = ((lowerB b).toNat : Int) := by
          unfold lowerB; rw [if_pos h1]
          rw [UInt8.toNat_add]
          have : (32 : UInt8).toNat = 32 := rfl
          omega
        go_wp2_with fail
        go_roundg g
        case measure => omega
        case rel => exact ⟨i + 1, l'.set i (lowerB b), by omega, by simp, by simpa using hll, HNX.out, by first | exact HB.out.set i _ | (rw [et]; exact HB.out.set i _), HX.out.setCell (Or.inr (by simp)) _⟩
      · have et : lowerB b = b := by unfold lowerB; rw [if_neg h1]
        have hsame : l'.set i b = l' := by
          apply List.ext_getElem?
          intro j
          by_cases e : i = j
          · subst e
            have h3 := HU.out i
            rw [if_neg (by omega), List.getElem?_eq_getElem hi, hb] at h3
            rw [List.getElem?_set_self (by omega), h3]
          · rw [List.getElem?_set_ne e]
        have HNX2 : Hid (∀ j, l'[j]? = if j < i + 1 then (l[j]?).map lowerB else l[j]?) := by
          show ∀ j, l'[j]? = if j < i + 1 then (l[j]?).map lowerB else l[j]?
          have h3 := HNX.out
          rw [et, hsame] at h3
          exact h3
        clear et hsame
        by_cases h3 : 65 ≤ b.toNat
        · have e0 : (65 : Int) ≤ (b.toNat : Int) := by omega
          have e1 : ¬ (b.toNat : Int) < 91 := by omega
          go_wp2_with fail
          go_roundg g
          case measure => omega
          case rel => exact ⟨i + 1, l', by omega, by simp, hll, HNX2.out, HB.out, HX.out⟩
        · have e0 : ¬ (65 : Int) ≤ (b.toNat : Int) := by omega
          go_wp2_with fail
          go_roundg g
          case measure => omega
          case rel => exact ⟨i + 1, l', by omega, by simp, hll, HNX2.out, HB.out, HX.out⟩

set_option maxHeartbeats 400000 in
theorem lower_any (s : ByteArray) (w : World) (hs : s.size ≤ 281474976710656) : Calls Tryz.prog 112 #[.string s] w fun e w' => e = .returned (.string (lowerA s)) ∧ Ex [] w w' := by
  go_enter Tryz.func112, Tryz.ntmps112
  go_wp2_with fail
  refine (shifted_lower s _ hs).mono ?_
  rintro e w' ⟨rfl, hx⟩
  have HX := hide hx
  clear hx
  go_wp2_with fail
  go_ret
  exact ⟨rfl, HX.out⟩
end Go.Proofs.YtcbiidoebpkifaaGreatDoor

/- Contracts: the value of a label; strings.Join of none and of one. -/
namespace Go.Proofs.YtcbiidoebpkifaaGreatDoor
open Go.RowKit

def valN (ls : List Lab) (t : ByteArray) : ByteArray := if thereN ls t then match ls[posN ls t]? with | some l => l.2 | none => ⟨#[]⟩ else ⟨#[]⟩

theorem LT.sl {w : World} {q base : Nat} {ls : List Lab} (h : LT w q base ls) : ∃ v, BK w q (.cells #[v] 143 (0, 0)) ∧ SL w v ls ∧ v.ownBlock ≠ some q := by
  obtain ⟨v, hb, ho, hn⟩ := h.ex
  exact ⟨v, hb, own_sl ho, hn⟩

set_option maxHeartbeats 1000000 in
set_option maxRecDepth 100000 in
theorem value_any (q base : Nat) (ls : List Lab) (t : ByteArray) (w : World) (hq : LT w q base ls) (hn : ls.length ≤ 1000) (hsrt : SortedFor ls t) :
    Calls Tryz.prog 134 #[.pointer (some ⟨q, 0, none⟩), .string t] w fun e w' => e = .returned (.string (valN ls t)) ∧ Ex [] w w' := by
  have HQ := hide hq
  obtain ⟨v, hb, hs, hnq⟩ := hq.sl
  have HB := hide hb
  have HS := hide hs
  have HN := hide hnq
  have HSR := hide hsrt
  clear hq hb hs hnq hsrt
  go_enter Tryz.func134, Tryz.ntmps134
  go_wp2_with fail
  refine (find_lt q base ls t _ HQ.out hn HSR.out).mono ?_
  rintro e w1 ⟨rfl, hx1⟩
  have HX1 := hide hx1
  cases ht : thereN ls t with
  | false =>
    have HT := hide ht
    clear ht hx1
    go_wp2_with fail
    go_ret
    exact ⟨by simp [valN, unhide HT], HX1.out⟩
  | true =>
    have hlt : posN ls t < ls.length := there_lt ht
    obtain ⟨l, hl⟩ : ∃ l, ls[posN ls t]? = some l := ⟨_, List.getElem?_eq_getElem hlt⟩
    have HV : Hid (valN ls t = l.2) := by show valN ls t = l.2; simp [valN, ht, hl]
    obtain ⟨pp, hpp⟩ : ∃ pp, posN ls t = pp := ⟨_, rfl⟩
    rw [hpp] at hlt hl ⊢
    have hb1 := HB.out.ex hx1 (by simp)
    obtain ⟨hc, hf⟩ := hb1.all
    have hql := hb1.lt
    obtain ⟨b, c, rfl, hbl, c0, c1⟩ : ∃ b c, v = .slice (some ⟨b, 0, none⟩) ls.length c ∧ b < w1.heap.size ∧ w1.cell? ⟨b, pp * 2, none⟩ = some (.string l.1) ∧ w1.cell? ⟨b, pp * 2 + 1, none⟩ = some (.string l.2) := by
      rcases HS.out with ⟨h1, h2⟩ | ⟨b, c', h1, hb, hc⟩
      · rw [h2] at hlt; simp at hlt
      · obtain ⟨h3, h4⟩ := hc _ l hl
        exact ⟨b, c', h1, Nat.lt_of_lt_of_le hb hx1.size, by rw [hx1.cell0.1 b _ hb]; exact h3, by rw [hx1.cell0.1 b _ hb]; exact h4⟩
    have hlt' : (pp : Int) < (ls.length : Int) := by omega
    clear ht hl hx1 hb1 hpp
    go_wp2_with fail
    go_ret
    exact ⟨by rw [unhide HV]; rfl, HX1.out⟩

end Go.Proofs.YtcbiidoebpkifaaGreatDoor

/- Contracts: the text of one source; a rule that raises it. -/
namespace Go.Proofs.YtcbiidoebpkifaaGreatDoor
open Go.RowKit

theorem upper_size (s : ByteArray) : (upperA s).size = s.size := by
  show ((s.data.toList.map upperB).toArray).size = s.data.size
  rw [List.size_toArray, List.length_map, Array.length_toList]
theorem LT.exN {l : List Nat} {w w' : World} {q base : Nat} {ls : List Lab} (h : LT w q base ls) (hx : Ex l w w') (hl : l = []) : LT w' q base ls := by
  subst hl
  obtain ⟨v, hb, ho, hn⟩ := h.ex
  exact ⟨Nat.le_trans h.le hx.size, v, hb.ex hx (by simp), own_ex ho hx (by simp), hn⟩

end Go.Proofs.YtcbiidoebpkifaaGreatDoor

/- The text of a rule: the values of its sources, joined. -/
namespace Go.Proofs.YtcbiidoebpkifaaGreatDoor.G
open Go.RowKit

def joinB (ss : List ByteArray) (se : ByteArray) : ByteArray := ⟨(Lib.join (ss.map (·.data.toList)) se.data.toList).toArray⟩
def textN (ls : List Lab) (ss : List ByteArray) (se : ByteArray) : ByteArray := joinB (ss.map (valN ls)) se
theorem tail_len (M : Nat) (se : List UInt8) : ∀ xs : List (List UInt8), (∀ x ∈ xs, x.length ≤ M) → (Lib.joinTail se xs).length ≤ xs.length * (M + se.length)
  | [], _ => by simp [Lib.joinTail]
  | x :: xs, h => by
    have h1 := h x (by simp)
    have h2 := tail_len M se xs (fun z hz => h z (List.mem_cons_of_mem _ hz))
    have h3 : (Lib.joinTail se (x :: xs)).length = se.length + x.length + (Lib.joinTail se xs).length := by simp [Lib.joinTail, Nat.add_assoc]
    rw [h3, List.length_cons, Nat.add_mul]
    omega
theorem join_len (M : Nat) (se : List UInt8) : ∀ xs : List (List UInt8), (∀ x ∈ xs, x.length ≤ M) → (Lib.join xs se).length ≤ xs.length * (M + se.length)
  | [], _ => by simp [Lib.join_nil]
  | x :: xs, h => by
    have h1 := h x (by simp)
    have h2 := tail_len M se xs (fun z hz => h z (List.mem_cons_of_mem _ hz))
    rw [Lib.join_cons, List.length_append, List.length_cons, Nat.add_mul]
    omega
theorem joinB_size (ss : List ByteArray) (se : ByteArray) (M : Nat) (h : ∀ s ∈ ss, s.size ≤ M) : (joinB ss se).size ≤ ss.length * (M + se.size) := by
  have h1 := join_len M se.data.toList (ss.map (·.data.toList)) (fun x hx => by
    simp only [List.mem_map] at hx
    obtain ⟨s, hs, rfl⟩ := hx
    have h2 := h s hs
    rw [len_list]; exact h2)
  rw [List.length_map, len_list] at h1
  show (List.toArray _).size ≤ _
  rw [List.size_toArray]
  exact h1

set_option maxHeartbeats 2000000 in
theorem join_any (p : Option Addr) (c : Nat) (ss : List ByteArray) (se : ByteArray) (w : World) (hv : SS w (.slice p ss.length c) ss) (hcap : ss.length ≤ c) (hn : ss.length ≤ 1000) (hM : ∀ s ∈ ss, s.size ≤ 100000) (hse : se.size ≤ 100000) :
    Calls Tryz.prog 149 #[.slice p ss.length c, .string se] w fun e w' => e = .returned (.string (joinB ss se)) ∧ Ex [] w w' := by
  have hb := joinB_size ss se 100000 hM
  have hb2 : ss.length * (100000 + se.size) ≤ 1000 * 200000 := Nat.mul_le_mul hn (by omega)
  rcases hv with ⟨_, rfl⟩ | ⟨b, c', hv', hb', hc⟩
  · refine (Tryz.strings_Join_none p c se w).mono ?_
    rintro e w' ⟨rfl, rfl⟩
    exact ⟨rfl, Ex.refl _ _⟩
  · cases hv'
    refine (Tryz.strings_Join b 0 c ss se w (fun j x hx => by rw [Nat.zero_add]; exact hc j x hx) hb' (by omega) hcap (by
      have h3 : (joinB ss se).size = (Lib.join (ss.map (·.data.toList)) se.data.toList).length := by show (List.toArray _).size = _; rw [List.size_toArray]
      omega)).mono ?_
    rintro e w' ⟨rfl, hbel⟩
    exact ⟨rfl, Ex.below hbel⟩

set_option maxHeartbeats 4000000 in
set_option maxRecDepth 100000 in
theorem text_any (p : Option Addr) (c : Nat) (ss : List ByteArray) (se : ByteArray) (pp : Option Addr) (ta rp : ByteArray) (mo : Int) (q base : Nat) (ls : List Lab) (w : World) (hs : SS w (.slice p ss.length c) ss) (hq : LT w q base ls) (hn : ls.length ≤ 1000) (hsn : ss.length ≤ 1000) (hsrt : ∀ t, SortedFor ls t) (hvs : ∀ t, (valN ls t).size ≤ 100000) (hse : se.size ≤ 100000) :
    Calls Tryz.prog 130 #[meansV (.slice p ss.length c) se (.pointer pp) ta rp mo, .pointer (some ⟨q, 0, none⟩)] w fun x w' => x = .returned (.string (textN ls ss se)) ∧ Ex [] w w' := by
  unfold meansV
  obtain ⟨i0, hi, hz0, hz1, hz2⟩ := info_parts infoStr
  have HQ := hide hq
  have HS := hide hsrt
  have HSS := hide hs
  have HVS := hide hvs
  obtain ⟨n, hnn⟩ : ∃ n, n = ss.length := ⟨_, rfl⟩
  have HNN := hide hnn
  rw [← hnn] at hsn ⊢
  have KV := hide (fun t w' hq' => value_any q base ls t w' hq' hn (hsrt t))
  clear hs hq hsrt hvs hnn
  go_enter Tryz.func130, Tryz.ntmps130
  go_wp2_with fail
  go_loopg [5, 11] n (fun gk s5 i11 wr => ∃ j : Nat, j + gk = n ∧ i11 = .int .i64 j ∧ wr.ownsRow (w.heap.size + 1) 9 1 s5 j (((ss.map (valN ls)).take j).map Value.string) ∧ BK wr w.heap.size (.cells #[.slice p n c, .string se, .pointer pp, .string ta, .string rp, .int .u64 mo] 189 (0, 0)) ∧ Ex [] w wr)
  case atStart => exact ⟨0, by omega, rfl, World.ownsRow_nil _ _ _ _, BK.new _ _, (Ex.refl _ _).alloc _⟩
  case round =>
    obtain ⟨j, hj, rfl, hown, hbm, hx⟩ := hrel
    have HO := hide hown
    have HB := hide hbm
    have HX := hide hx
    obtain ⟨p5, c5, rfl⟩ := own_slice hown
    have hwz := hx.size
    cases gk with
    | zero =>
      obtain rfl : j = n := by omega
      have hss : SS wr (.slice p5 j c5) (ss.map (valN ls)) := by
        refine own_ss (base := w.heap.size + 1) ?_
        have h1 := hown
        rw [List.take_of_length_le (by rw [List.length_map, ← HNN.out]; exact Nat.le_refl _)] at h1
        rw [List.length_map, ← HNN.out]
        exact h1
      have hcc : j ≤ c5 := by
        rcases hown.2 with ⟨hv, hn0⟩ | ⟨g, cap, cur, hv, hb, hgg, hnc, hcm, hcs, htake⟩
        · cases hv; omega
        · cases hv; exact hnc
      have hjm : (ss.map (valN ls)).length = j := by rw [List.length_map, ← HNN.out]
      have KJ := hide (join_any p5 c5 (ss.map (valN ls)) se wr (by rw [hjm]; exact hss) (by rw [hjm]; exact hcc) (by rw [List.length_map, ← HNN.out]; exact hsn) (fun s hs => by
        simp only [List.mem_map] at hs
        obtain ⟨t, _, rfl⟩ := hs
        exact HVS.out t) hse)
      rw [hjm] at KJ
      obtain ⟨hc2, hf2⟩ := hbm.all
      have hl2 := hbm.lt
      clear hown hbm hx hj hss hcc hjm
      go_wp2_with fail
      refine KJ.out.mono ?_
      rintro x w3 ⟨rfl, hx3⟩
      have HX3 := hide hx3
      clear hx3
      go_wp2_with fail
      go_ret
      exact ⟨rfl, HX.out.trans HX3.out⟩
    | succ g =>
      have hjl : j < ss.length := by rw [← HNN.out]; omega
      have hj' : (j : Int) < (n : Int) := by omega
      obtain ⟨t, ht⟩ : ∃ t, ss[j]? = some t := ⟨_, List.getElem?_eq_getElem hjl⟩
      obtain ⟨b, rfl, hb, c0⟩ : ∃ b, p = some ⟨b, 0, none⟩ ∧ b < wr.heap.size ∧ wr.cell? ⟨b, j, none⟩ = some (.string t) := by
        rcases HSS.out with ⟨h1, h2⟩ | ⟨b, c', h1, hb, hc⟩
        · rw [h2] at hjl; simp at hjl
        · cases h1
          exact ⟨b, rfl, Nat.lt_of_lt_of_le hb hx.size, by rw [hx.cell0.1 b _ hb]; exact hc j t ht⟩
      obtain ⟨xs, hxs⟩ : ∃ xs, ((ss.map (valN ls)).take j).map Value.string = xs := ⟨_, rfl⟩
      have HXS := hide hxs
      have HT := hide ht
      rw [hxs] at HO
      have hlt : LT wr q base ls := HQ.out.exN hx rfl
      have KVT := hide (KV.out t wr hlt)
      obtain ⟨vv, hvv⟩ : ∃ vv, valN ls t = vv := ⟨_, rfl⟩
      rw [hvv] at KVT
      have HVV := hide hvv
      clear hown hbm hx ht hxs hlt hvv
      go_wp2_with fail
      refine KVT.out.mono ?_
      rintro x w1 ⟨rfl, hx1⟩
      have hown1 := own_ex HO.out hx1 (by simp)
      have hB1 := HB.out.ex hx1 (by simp)
      have hsz1 := hx1.size
      have HX1 := hide (HX.out.trans hx1)
      have HB1 := hide hB1
      clear hx1 c0 hB1
      go_wp2_with (at_builtin; refine wpList_append_lies _ rfl (.tmp 15) (.tmp 19) 62 rfl (w.heap.size + 1) 9 i0 (.string ⟨#[]⟩) 1 16 Tryz.underlying62 hi hz0 hz1 hz2 rfl (by decide) (.slice p5 j c5) j xs rfl (hown1.alloc _) ⟨w1.heap.size, 0, none⟩ 1 1 [.string vv] rfl rfl (cells_new _ _ _) (by simp [Value.oneCell']) (by decide) (by unfold maxLen; omega) (by omega) (by simp; omega) (w1.heap.size + 1) (by simp) ?_)
      intro gb cap w5 hown5 hgrow hcase hlt5
      have hob := own_block hown1
      have hB5 := BK.grown (HB1.out.alloc _) hgrow (fun e => by have := hob _ e; omega)
      have HB5 := hide hB5
      clear hB5
      go_wp2_with fail
      go_roundg g
      case measure => omega
      case rel =>
        refine ⟨j + 1, by omega, by simp, ?_, HB5.out, ?_⟩
        · have h9 : ((ss.map (valN ls)).take (j + 1)).map Value.string = xs ++ [.string vv] := by
            rw [List.take_add_one, List.getElem?_map, HT.out, List.map_append, HXS.out, Option.map_some, HVV.out]; rfl
          rw [h9]; exact hown5
        · exact Ex.grown (HX1.out.alloc _) hgrow (fun k hk => Or.inr (by have := hob k hk; simp; omega))
end Go.Proofs.YtcbiidoebpkifaaGreatDoor.G

/- The library's table of powers. -/
namespace Go.Proofs.YtcbiidoebpkifaaGreatDoor.G
open Go.RowKit

def PT (w : World) : Prop := Lib.TabIs Tryz.prog w "internal/strconv.uint64pow10" .u64 Lib.pow10Tab
theorem pow10_at : Tryz.prog.globalNamed "internal/strconv.uint64pow10" = some 7 := by kernel_rfl
theorem PT.block {w w' : World} (h : PT w) (hx : w'.heap[7]? = w.heap[7]?) : PT w' := by
  unfold PT Lib.TabIs World.var? at *
  rw [pow10_at] at h ⊢
  simp only [Option.bind_some] at h ⊢
  rw [hx]
  exact h
theorem PT.lt {w : World} (h : PT w) : 7 < w.heap.size := by
  unfold PT Lib.TabIs World.var? at h
  rw [pow10_at] at h
  simp only [Option.bind_some] at h
  rcases Nat.lt_or_ge 7 w.heap.size with h' | h'
  · exact h'
  · rw [Array.getElem?_eq_none h'] at h; simp at h
theorem PT.ex {w w' : World} (h : PT w) (hx : Ex [] w w') : PT w' := h.block (hx.block _ h.lt (by simp))
end Go.Proofs.YtcbiidoebpkifaaGreatDoor.G
