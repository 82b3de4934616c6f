/- F6 F3 F4, one behind the other. -/
import Derived.Test.YtmeffeigamaipabGreatDoorM16
import Derived.Test.YtmeffeigamaipabGreatDoorM02
import Derived.Laws.IdiomStrings
import Derived.Test.YtmeffeigamaipabGreatDoorM15
import Derived.Test.YtmeffeigamaipabGreatDoorM13
set_option linter.unusedVariables false
set_option linter.unusedSimpArgs false
/- Contracts of what an action does, as far as a rule that raises texts and one that keeps ask. -/
namespace Go.Proofs.YtmeffeigamaipabGreatDoor
open Go.RowKit

set_option maxHeartbeats 1000000 in
set_option maxRecDepth 100000 in
theorem deed_keep (p : Option Addr) (n c : Nat) (se : ByteArray) (pp : Option Addr) (ta rp : ByteArray) (mo : Int) (w : World) :
    Calls Tryz.prog 55 #[meansV (.slice p n c) se (.pointer pp) ta rp mo, .int .i64 1] w fun x w' => x = .returned (.func (.func 70) #[meansV (.slice p n c) se (.pointer pp) ta rp mo] #[]) ∧ Ex [] w w' := by
  have hmf : ∀ (fn : Fn) (first cap : Array Value) (w : World), (Instr.makeFunc fn first cap).run Tryz.prog w = .ok (.func fn first cap) w := fun _ _ _ _ => rfl
  unfold meansV
  go_enter Tryz.func55, Tryz.ntmps55
  go_wp2_with fail
  go_ret
  exact ⟨rfl, (Ex.refl _ _).alloc _⟩

set_option maxHeartbeats 1000000 in
set_option maxRecDepth 100000 in
theorem setTo_any (p : Option Addr) (n c : Nat) (se : ByteArray) (pp : Option Addr) (ta rp : ByteArray) (mo : Int) (f : FuncId) (w : World) :
    Calls Tryz.prog 73 #[meansV (.slice p n c) se (.pointer pp) ta rp mo, .func (.func f) #[] #[]] w fun x w' => x = .returned (.func (.func 106) #[] #[.pointer (some ⟨w.heap.size, 0, none⟩), .pointer (some ⟨w.heap.size + 1, 0, none⟩)]) ∧
      w' = (w.alloc (.cells #[.slice p n c, .string se, .pointer pp, .string ta, .string rp, .int .u64 mo] 116)).alloc (.cells #[.func (.func f) #[] #[]] 55) := by
  have hmf : ∀ (fn : Fn) (first cap : Array Value) (w : World), (Instr.makeFunc fn first cap).run Tryz.prog w = .ok (.func fn first cap) w := fun _ _ _ _ => rfl
  unfold meansV
  go_enter Tryz.func73, Tryz.ntmps73
  go_wp2_with fail
  go_ret
  exact ⟨by simp, rfl⟩

set_option maxHeartbeats 1000000 in
set_option maxRecDepth 100000 in
theorem deed_upper (p : Option Addr) (n c : Nat) (se : ByteArray) (pp : Option Addr) (ta rp : ByteArray) (mo : Int) (w : World) :
    Calls Tryz.prog 55 #[meansV (.slice p n c) se (.pointer pp) ta rp mo, .int .i64 10] w fun x w' => ∃ b1 b2, x = .returned (.func (.func 106) #[] #[.pointer (some ⟨b1, 0, none⟩), .pointer (some ⟨b2, 0, none⟩)]) ∧
      BK w' b1 (.cells #[.slice p n c, .string se, .pointer pp, .string ta, .string rp, .int .u64 mo] 116 (0, 0)) ∧ BK w' b2 (.cells #[.func (.func 79) #[] #[]] 55 (0, 0)) ∧ w.heap.size ≤ b1 ∧ w.heap.size ≤ b2 ∧ Ex [] w w' := by
  have KS := hide (fun w => setTo_any p n c se pp ta rp mo 79 w)
  unfold meansV at *
  go_enter Tryz.func55, Tryz.ntmps55
  go_wp2_with fail
  refine (KS.out _).mono ?_
  rintro x w1 ⟨rfl, hw1⟩
  have hb1 : BK w1 (w.heap.size + 1) (.cells #[.slice p n c, .string se, .pointer pp, .string ta, .string rp, .int .u64 mo] 116 (0, 0)) := by
    rw [hw1]
    have h := (BK.new (w.alloc (Obj.cells #[.slice p n c, .string se, .pointer pp, .string ta, .string rp, .int .u64 mo] 116)) (Obj.cells #[.slice p n c, .string se, .pointer pp, .string ta, .string rp, .int .u64 mo] 116)).alloc (Obj.cells #[.func (.func 79) #[] #[]] 55)
    simpa using h
  have hb2 : BK w1 (w.heap.size + 1 + 1) (.cells #[.func (.func 79) #[] #[]] 55 (0, 0)) := by
    rw [hw1]
    have h := BK.new ((w.alloc (Obj.cells #[.slice p n c, .string se, .pointer pp, .string ta, .string rp, .int .u64 mo] 116)).alloc (Obj.cells #[.slice p n c, .string se, .pointer pp, .string ta, .string rp, .int .u64 mo] 116)) (Obj.cells #[.func (.func 79) #[] #[]] 55)
    simpa using h
  have hx1 : Ex [] w w1 := by rw [hw1]; exact (((Ex.refl _ _).alloc _).alloc _).alloc _
  have H1 := hide hb1
  have H2 := hide hb2
  have HX := hide hx1
  clear hw1 hb1 hb2 hx1
  go_wp2_with fail
  go_ret
  refine ⟨w.heap.size + 1, w.heap.size + 1 + 1, by simp, H1.out, H2.out, by omega, by omega, HX.out⟩

/-- What the actions use. -/
def usesL : List Use := [⟨true, true, true, true, false⟩, ⟨true, true, false, false, false⟩, ⟨true, true, false, false, false⟩, ⟨true, false, true, false, false⟩, ⟨true, false, true, false, false⟩, ⟨true, false, true, false, true⟩, ⟨false, true, false, true, false⟩, ⟨false, true, false, false, false⟩, ⟨false, true, false, false, false⟩, ⟨true, false, true, false, false⟩, ⟨true, false, true, false, false⟩]
/-- The table lies there. -/
def UB (w : World) : Prop := 0 < w.heap.size ∧ ∀ (n : Nat) (u : Use), usesL[n]? = some u → w.rangeAt 0 (n * 5) u.cells
theorem UB.ex {l : List Nat} {w w' : World} (h : UB w) (hx : Ex l w w') (hn : 0 ∉ l) : UB w' :=
  ⟨Nat.lt_of_lt_of_le h.1 hx.size, fun n u hu j v hv => (World.cell?_of_block (hx.block _ h.1 hn)).trans (h.2 n u hu j v hv)⟩

/-- What comes of a rule: its error and its place. -/
def makeR (n : Nat) (ss : List ByteArray) (se re ta rp : ByteArray) (mo : Int) (u : Use) (ok : Bool) (pl : Nat) : Nat × Nat :=
  if bigB ss se ta rp then (2, 0) else if !ss.all nameB then (3, 0) else if u.regex && !ok then (4, pl) else if u.target && !targetB (n : Int) ta then (5, 0)
  else if unusedB ss.length se re ta rp mo u then (6, 0) else if u.modulus && mo == 0 then (7, 0) else (0, 0)

/-- What reading the pattern comes to, whenever it is read. -/
def ReadsTo (w : World) (re : ByteArray) (ok : Bool) (pl : Nat) : Prop := ∀ w1, Ex [] w w1 → Calls Tryz.prog 56 #[.string re] w1 fun x w2 => (∃ pp, x = .returned (.tuple #[.pointer pp, .int .i64 (pl : Int), .bool ok])) ∧ Ex [] w1 w2

set_option maxHeartbeats 400000 in
theorem readUsed_no (re : ByteArray) (w : World) : Calls Tryz.prog 51 #[.string re, .bool false] w fun x w' => x = .returned (.tuple #[.pointer none, .int .i64 0, .bool true]) ∧ w' = w := by
  go_enter Tryz.func51, Tryz.ntmps51
  go_wp2_with fail
  go_ret3
  exact ⟨rfl, rfl⟩
set_option maxHeartbeats 400000 in
theorem readUsed_yes (re : ByteArray) (ok : Bool) (pl : Nat) (w0 w : World) (hx : Ex [] w0 w) (hr : ReadsTo w0 re ok pl) : Calls Tryz.prog 51 #[.string re, .bool true] w fun x w' => (∃ pp, x = .returned (.tuple #[.pointer pp, .int .i64 (pl : Int), .bool ok])) ∧ Ex [] w w' := by
  have HR := hide (hr w hx)
  clear hr hx
  go_enter Tryz.func51, Tryz.ntmps51
  go_wp2_with fail
  refine HR.out.mono ?_
  rintro x w1 ⟨⟨pp, rfl⟩, hx1⟩
  have HX := hide hx1
  clear hx1
  go_wp2_with fail
  go_ret3
  exact ⟨⟨pp, rfl⟩, HX.out⟩
end Go.Proofs.YtmeffeigamaipabGreatDoor

/- Contracts of package rule: texts in the other case. -/
namespace Go.Proofs.YtmeffeigamaipabGreatDoor
open Go.RowKit

/-- A block that holds bytes (and room behind them). -/
def BB (w : World) (b : Nat) (l : List UInt8) : Prop := ∃ C : Array Value, BK w b (.cells C 5 (C.size, C.size + 1)) ∧ l.length ≤ C.size ∧ ∀ j, j < l.length → C[j]? = (l[j]?).map fun x => Value.int .u8 x.toNat

theorem BB.cell {w : World} {b : Nat} {l : List UInt8} (h : BB w b l) (j : Nat) (hj : j < l.length) : w.cell? ⟨b, j, none⟩ = some (.int .u8 (l[j]'hj).toNat) := by
  obtain ⟨C, hb, hl, hc⟩ := h
  rw [cell_of_row w b j C 5 (C.size, C.size + 1) hb, hc j hj, List.getElem?_eq_getElem hj]
  rfl
theorem BB.frozen {w : World} {b : Nat} {l : List UInt8} (h : BB w b l) (j : Nat) (hj : j < l.length) : w.frozen? ⟨b, j, none⟩ = false := by
  obtain ⟨C, hb, hl, hc⟩ := h
  unfold BK at hb
  simp [World.frozen?, hb]
  omega
theorem BB.lt {w : World} {b : Nat} {l : List UInt8} (h : BB w b l) : b < w.heap.size := by
  obtain ⟨C, hb, hl, hc⟩ := h
  exact hb.lt
theorem BB.set {w : World} {b : Nat} {l : List UInt8} (h : BB w b l) (i : Nat) (y : UInt8) : BB (w.setCell ⟨b, i, none⟩ (.int .u8 y.toNat)) b (l.set i y) := by
  obtain ⟨C, hb, hl, hc⟩ := h
  refine ⟨C.setIfInBounds i (.int .u8 y.toNat), ?_, by simpa using hl, fun j hj => ?_⟩
  · unfold BK at hb ⊢
    simp [World.setCell, Array.getElem?_modify, hb]
  · simp only [List.length_set] at hj
    by_cases e : i = j
    · subst e
      rw [Array.getElem?_setIfInBounds_self_of_lt (by omega), List.getElem?_set_self hj]; rfl
    · rw [Array.getElem?_setIfInBounds_ne e, List.getElem?_set_ne e]; exact hc j hj
theorem BB.ex {l0 : List Nat} {w w' : World} {b : Nat} {l : List UInt8} (h : BB w b l) (hx : Ex l0 w w') (hn : b ∉ l0) : BB w' b l := by
  obtain ⟨C, hb, hl, hc⟩ := h
  exact ⟨C, hb.ex hx hn, hl, hc⟩
theorem BB.new (w : World) (s : ByteArray) (cap : Nat) : BB (w.alloc (.cells (bytesRow s cap) 5 ((bytesRow s cap).size, (bytesRow s cap).size + 1))) w.heap.size s.data.toList := by
  refine ⟨_, BK.new _ _, ?_, fun j hj => ?_⟩
  · simp [bytesRow]
  · have hj' : j < s.data.size := by simpa using hj
    unfold bytesRow
    rw [Array.getElem?_append_left (by simpa using hj')]
    simp

theorem upd_next {f : UInt8 → UInt8} {l l' : List UInt8} {i : Nat} (hi : i < l.length) (hl : l'.length = l.length) (h : ∀ j, l'[j]? = if j < i then (l[j]?).map f else l[j]?) :
    ∀ j, (l'.set i (f l[i]))[j]? = if j < i + 1 then (l[j]?).map f else l[j]? := by
  intro j
  by_cases e : i = j
  · subst e
    rw [List.getElem?_set_self (by omega), if_pos (by omega), List.getElem?_eq_getElem hi]; rfl
  · rw [List.getElem?_set_ne e, h j]
    by_cases h1 : j < i
    · rw [if_pos h1, if_pos (by omega)]
    · rw [if_neg h1, if_neg (by omega)]
theorem upd_end {f : UInt8 → UInt8} {l l' : List UInt8} (h : ∀ j, l'[j]? = if j < l.length then (l[j]?).map f else l[j]?) : l' = l.map f := by
  apply List.ext_getElem?
  intro j
  rw [h j, List.getElem?_map]
  by_cases h1 : j < l.length
  · rw [if_pos h1]
  · rw [if_neg h1, List.getElem?_eq_none (by omega)]; rfl


/-- A letter of one case in the other. -/
def upperB (b : UInt8) : UInt8 := if 97 ≤ b.toNat ∧ b.toNat ≤ 122 then b - 32 else b
def upperA (s : ByteArray) : ByteArray := ⟨(s.data.toList.map upperB).toArray⟩

set_option maxHeartbeats 1000000 in
set_option maxRecDepth 100000 in
theorem shifted_upper (s : ByteArray) (w : World) (hs : s.size ≤ 281474976710656) : Calls Tryz.prog 110 #[.string s, .int .u8 97, .int .u8 65] w fun e w' => e = .returned (.string (upperA s)) ∧ Ex [] w w' := by
  have hcv := run_bytes_of_string (P := Tryz.prog) w 9 59 5 s Tryz.underlying9 Tryz.underlying59 Tryz.underlying5
  have hN : BB (w.drew.alloc (.cells (bytesRow s (grownCap w s.size 0 5)) 5 ((bytesRow s (grownCap w s.size 0 5)).size, (bytesRow s (grownCap w s.size 0 5)).size + 1))) w.heap.size s.data.toList := BB.new w.drew s _
  have hlen : s.data.toList.length = s.size := (Lib.size_eq s).symm
  have HN := hide hN
  clear hN
  obtain ⟨cap, hcap⟩ : ∃ cap, grownCap w s.size 0 5 = cap := ⟨_, rfl⟩
  rw [hcap] at hcv HN
  clear hcap
  obtain ⟨l, hl⟩ : ∃ l, s.data.toList = l := ⟨_, rfl⟩
  have HL := hide hl
  rw [hl] at hlen HN
  clear hl
  obtain ⟨W0, hW0⟩ : ∃ W0, w.drew.alloc (.cells (bytesRow s cap) 5 ((bytesRow s cap).size, (bytesRow s cap).size + 1)) = W0 := ⟨_, rfl⟩
  have HX0 : Hid (Ex [] w W0) := by rw [← hW0]; exact ((Ex.refl _ _).drew).alloc _
  rw [hW0] at hcv HN
  clear hW0
  go_enter Tryz.func110, Tryz.ntmps110
  go_wp2_with fail
  go_loopg [14] s.size (fun gk i4 wr => ∃ (i : Nat) (l' : List UInt8), i + gk = s.size ∧ i4 = .int .i64 i ∧ l'.length = l.length ∧ (∀ j, l'[j]? = if j < i then (l[j]?).map upperB else l[j]?) ∧ BB wr w.heap.size l' ∧ Ex [] w wr)
  case atStart => exact ⟨0, l, by omega, rfl, rfl, fun j => by simp, HN.out, HX0.out⟩
  case round =>
    obtain ⟨i, l', hgi, rfl, hll, hup, hbb, hx⟩ := hrel
    have HX := hide hx
    have HB := hide hbb
    have HU := hide hup
    have hbl := hbb.lt
    clear hx hbb hup hcv
    cases gk with
    | zero =>
      obtain rfl : i = s.size := by omega
      have hend : l' = l.map upperB := upd_end (by rw [hlen]; exact HU.out)
      have hback := run_convert_bytes_back (P := Tryz.prog) wr 59 9 5 ⟨w.heap.size, 0, none⟩ cap l' Tryz.underlying59 Tryz.underlying5 Tryz.underlying9 (fun j hj => by rw [Addr.add_lit, Nat.zero_add]; exact HB.out.cell j hj)
      rw [hll, hlen] at hback
      go_wp2_with fail
      go_ret
      refine ⟨?_, HX.out⟩
      unfold upperA
      rw [HL.out]
      simp
    | succ g =>
      have hi : i < l.length := by omega
      have hi' : (i : Int) < (s.size : Int) := by omega
      have hc := HB.out.cell i (by omega)
      have hf := HB.out.frozen i (by omega)
      have hli : (l'[i]'(by omega)) = l[i] := by
        have h1 := HU.out i
        rw [if_neg (by omega), List.getElem?_eq_getElem (by omega), List.getElem?_eq_getElem hi] at h1
        exact Option.some.inj h1
      rw [hli] at hc
      obtain ⟨b, hb⟩ : ∃ b, l[i] = b := ⟨_, rfl⟩
      rw [hb] at hc
      have hb256 := b.toNat_lt
      have hnext := upd_next hi hll HU.out
      rw [hb] at hnext
      have HNX := hide hnext
      clear hnext hli
      by_cases h1 : 97 ≤ b.toNat ∧ b.toNat ≤ 122
      · have e1 : (97 : Int) ≤ (b.toNat : Int) := by omega
        have e2 : (b.toNat : Int) < 123 := by omega
        have et : ((b.toNat : Int) - 97 + 65) = ((upperB b).toNat : Int) := by
          unfold upperB; rw [if_pos h1]
          rw [UInt8.toNat_sub_of_le _ _ (by rw [UInt8.le_iff_toNat_le]; show 32 ≤ b.toNat; omega)]
          have : (32 : UInt8).toNat = 32 := rfl
          omega
        go_wp2_with fail
        go_roundg g
        case measure => omega
        case rel => exact ⟨i + 1, l'.set i (upperB b), by omega, by simp, by simpa using hll, HNX.out, by first | exact HB.out.set i _ | (rw [et]; exact HB.out.set i _), HX.out.setCell (Or.inr (by simp)) _⟩
      · have et : upperB b = b := by unfold upperB; rw [if_neg h1]
        have hsame : l'.set i b = l' := by
          apply List.ext_getElem?
          intro j
          by_cases e : i = j
          · subst e
            have h3 := HU.out i
            rw [if_neg (by omega), List.getElem?_eq_getElem hi, hb] at h3
            rw [List.getElem?_set_self (by omega), h3]
          · rw [List.getElem?_set_ne e]
        have HNX2 : Hid (∀ j, l'[j]? = if j < i + 1 then (l[j]?).map upperB else l[j]?) := by
          show ∀ j, l'[j]? = if j < i + 1 then (l[j]?).map upperB else l[j]?
          have h3 := HNX.out
          rw [et, hsame] at h3
          exact h3
        clear et hsame
        by_cases h3 : 97 ≤ b.toNat
        · have e0 : (97 : Int) ≤ (b.toNat : Int) := by omega
          have e1 : ¬ (b.toNat : Int) < 123 := by omega
          go_wp2_with fail
          go_roundg g
          case measure => omega
          case rel => exact ⟨i + 1, l', by omega, by simp, hll, HNX2.out, HB.out, HX.out⟩
        · have e0 : ¬ (97 : Int) ≤ (b.toNat : Int) := by omega
          go_wp2_with fail
          go_roundg g
          case measure => omega
          case rel => exact ⟨i + 1, l', by omega, by simp, hll, HNX2.out, HB.out, HX.out⟩

set_option maxHeartbeats 400000 in
theorem upper_any (s : ByteArray) (w : World) (hs : s.size ≤ 281474976710656) : Calls Tryz.prog 79 #[.string s] w fun e w' => e = .returned (.string (upperA s)) ∧ Ex [] w w' := by
  go_enter Tryz.func79, Tryz.ntmps79
  go_wp2_with fail
  refine (shifted_upper s _ hs).mono ?_
  rintro e w' ⟨rfl, hx⟩
  have HX := hide hx
  clear hx
  go_wp2_with fail
  go_ret
  exact ⟨rfl, HX.out⟩

/-- A letter of one case in the other. -/
def lowerB (b : UInt8) : UInt8 := if 65 ≤ b.toNat ∧ b.toNat ≤ 90 then b + 32 else b
def lowerA (s : ByteArray) : ByteArray := ⟨(s.data.toList.map lowerB).toArray⟩

set_option maxHeartbeats 1000000 in
set_option maxRecDepth 100000 in
theorem shifted_lower (s : ByteArray) (w : World) (hs : s.size ≤ 281474976710656) : Calls Tryz.prog 110 #[.string s, .int .u8 65, .int .u8 97] w fun e w' => e = .returned (.string (lowerA s)) ∧ Ex [] w w' := by
  have hcv := run_bytes_of_string (P := Tryz.prog) w 9 59 5 s Tryz.underlying9 Tryz.underlying59 Tryz.underlying5
  have hN : BB (w.drew.alloc (.cells (bytesRow s (grownCap w s.size 0 5)) 5 ((bytesRow s (grownCap w s.size 0 5)).size, (bytesRow s (grownCap w s.size 0 5)).size + 1))) w.heap.size s.data.toList := BB.new w.drew s _
  have hlen : s.data.toList.length = s.size := (Lib.size_eq s).symm
  have HN := hide hN
  clear hN
  obtain ⟨cap, hcap⟩ : ∃ cap, grownCap w s.size 0 5 = cap := ⟨_, rfl⟩
  rw [hcap] at hcv HN
  clear hcap
  obtain ⟨l, hl⟩ : ∃ l, s.data.toList = l := ⟨_, rfl⟩
  have HL := hide hl
  rw [hl] at hlen HN
  clear hl
  obtain ⟨W0, hW0⟩ : ∃ W0, w.drew.alloc (.cells (bytesRow s cap) 5 ((bytesRow s cap).size, (bytesRow s cap).size + 1)) = W0 := ⟨_, rfl⟩
  have HX0 : Hid (Ex [] w W0) := by rw [← hW0]; exact ((Ex.refl _ _).drew).alloc _
  rw [hW0] at hcv HN
  clear hW0
  go_enter Tryz.func110, Tryz.ntmps110
  go_wp2_with fail
  go_loopg [14] s.size (fun gk i4 wr => ∃ (i : Nat) (l' : List UInt8), i + gk = s.size ∧ i4 = .int .i64 i ∧ l'.length = l.length ∧ (∀ j, l'[j]? = if j < i then (l[j]?).map lowerB else l[j]?) ∧ BB wr w.heap.size l' ∧ Ex [] w wr)
  case atStart => exact ⟨0, l, by omega, rfl, rfl, fun j => by simp, HN.out, HX0.out⟩
  case round =>
    obtain ⟨i, l', hgi, rfl, hll, hup, hbb, hx⟩ := hrel
    have HX := hide hx
    have HB := hide hbb
    have HU := hide hup
    have hbl := hbb.lt
    clear hx hbb hup hcv
    cases gk with
    | zero =>
      obtain rfl : i = s.size := by omega
      have hend : l' = l.map lowerB := upd_end (by rw [hlen]; exact HU.out)
      have hback := run_convert_bytes_back (P := Tryz.prog) wr 59 9 5 ⟨w.heap.size, 0, none⟩ cap l' Tryz.underlying59 Tryz.underlying5 Tryz.underlying9 (fun j hj => by rw [Addr.add_lit, Nat.zero_add]; exact HB.out.cell j hj)
      rw [hll, hlen] at hback
      go_wp2_with fail
      go_ret
      refine ⟨?_, HX.out⟩
      unfold lowerA
      rw [HL.out]
      simp
    | succ g =>
      have hi : i < l.length := by omega
      have hi' : (i : Int) < (s.size : Int) := by omega
      have hc := HB.out.cell i (by omega)
      have hf := HB.out.frozen i (by omega)
      have hli : (l'[i]'(by omega)) = l[i] := by
        have h1 := HU.out i
        rw [if_neg (by omega), List.getElem?_eq_getElem (by omega), List.getElem?_eq_getElem hi] at h1
        exact Option.some.inj h1
      rw [hli] at hc
      obtain ⟨b, hb⟩ : ∃ b, l[i] = b := ⟨_, rfl⟩
      rw [hb] at hc
      have hb256 := b.toNat_lt
      have hnext := upd_next hi hll HU.out
      rw [hb] at hnext
      have HNX := hide hnext
      clear hnext hli
      by_cases h1 : 65 ≤ b.toNat ∧ b.toNat ≤ 90
      · have e1 : (65 : Int) ≤ (b.toNat : Int) := by omega
        have e2 : (b.toNat : Int) < 91 := by omega
        have et : ((b.toNat : Int) - 65 + 97) = ((lowerB b).toNat : Int) := by
          unfold lowerB; rw [if_pos h1]
          rw [UInt8.toNat_add]
          have : (32 : UInt8).toNat = 32 := rfl
          omega
        go_wp2_with fail
        go_roundg g
        case measure => omega
        case rel => exact ⟨i + 1, l'.set i (lowerB b), by omega, by simp, by simpa using hll, HNX.out, by first | exact HB.out.set i _ | (rw [et]; exact HB.out.set i _), HX.out.setCell (Or.inr (by simp)) _⟩
      · have et : lowerB b = b := by unfold lowerB; rw [if_neg h1]
        have hsame : l'.set i b = l' := by
          apply List.ext_getElem?
          intro j
          by_cases e : i = j
          · subst e
            have h3 := HU.out i
            rw [if_neg (by omega), List.getElem?_eq_getElem hi, hb] at h3
            rw [List.getElem?_set_self (by omega), h3]
          · rw [List.getElem?_set_ne e]
        have HNX2 : Hid (∀ j, l'[j]? = if j < i + 1 then (l[j]?).map lowerB else l[j]?) := by
          show ∀ j, l'[j]? = if j < i + 1 then (l[j]?).map lowerB else l[j]?
          have h3 := HNX.out
          rw [et, hsame] at h3
          exact h3
        clear et hsame
        by_cases h3 : 65 ≤ b.toNat
        · have e0 : (65 : Int) ≤ (b.toNat : Int) := by omega
          have e1 : ¬ (b.toNat : Int) < 91 := by omega
          go_wp2_with fail
          go_roundg g
          case measure => omega
          case rel => exact ⟨i + 1, l', by omega, by simp, hll, HNX2.out, HB.out, HX.out⟩
        · have e0 : ¬ (65 : Int) ≤ (b.toNat : Int) := by omega
          go_wp2_with fail
          go_roundg g
          case measure => omega
          case rel => exact ⟨i + 1, l', by omega, by simp, hll, HNX2.out, HB.out, HX.out⟩

set_option maxHeartbeats 400000 in
theorem lower_any (s : ByteArray) (w : World) (hs : s.size ≤ 281474976710656) : Calls Tryz.prog 78 #[.string s] w fun e w' => e = .returned (.string (lowerA s)) ∧ Ex [] w w' := by
  go_enter Tryz.func78, Tryz.ntmps78
  go_wp2_with fail
  refine (shifted_lower s _ hs).mono ?_
  rintro e w' ⟨rfl, hx⟩
  have HX := hide hx
  clear hx
  go_wp2_with fail
  go_ret
  exact ⟨rfl, HX.out⟩
end Go.Proofs.YtmeffeigamaipabGreatDoor

/- Contracts: the value of a label; strings.Join of none and of one. -/
namespace Go.Proofs.YtmeffeigamaipabGreatDoor
open Go.RowKit

/-- The value of a label; none: nothing. -/
def valN (ls : List Lab) (t : ByteArray) : ByteArray := if thereN ls t then match ls[posN ls t]? with | some l => l.2 | none => ⟨#[]⟩ else ⟨#[]⟩

theorem LT.sl {w : World} {q base : Nat} {ls : List Lab} (h : LT w q base ls) : ∃ v, BK w q (.cells #[v] 98 (0, 0)) ∧ SL w v ls ∧ v.ownBlock ≠ some q := by
  obtain ⟨v, hb, ho, hn⟩ := h.ex
  exact ⟨v, hb, own_sl ho, hn⟩

set_option maxHeartbeats 1000000 in
set_option maxRecDepth 100000 in
theorem value_any (q base : Nat) (ls : List Lab) (t : ByteArray) (w : World) (hq : LT w q base ls) (hn : ls.length ≤ 1000) (hsrt : SortedFor ls t) :
    Calls Tryz.prog 105 #[.pointer (some ⟨q, 0, none⟩), .string t] w fun e w' => e = .returned (.string (valN ls t)) ∧ Ex [] w w' := by
  have HQ := hide hq
  obtain ⟨v, hb, hs, hnq⟩ := hq.sl
  have HB := hide hb
  have HS := hide hs
  have HN := hide hnq
  have HSR := hide hsrt
  clear hq hb hs hnq hsrt
  go_enter Tryz.func105, Tryz.ntmps105
  go_wp2_with fail
  refine (find_lt q base ls t _ HQ.out hn HSR.out).mono ?_
  rintro e w1 ⟨rfl, hx1⟩
  have HX1 := hide hx1
  cases ht : thereN ls t with
  | false =>
    have HT := hide ht
    clear ht hx1
    go_wp2_with fail
    go_ret
    exact ⟨by simp [valN, unhide HT], HX1.out⟩
  | true =>
    have hlt : posN ls t < ls.length := there_lt ht
    obtain ⟨l, hl⟩ : ∃ l, ls[posN ls t]? = some l := ⟨_, List.getElem?_eq_getElem hlt⟩
    have HV : Hid (valN ls t = l.2) := by show valN ls t = l.2; simp [valN, ht, hl]
    obtain ⟨pp, hpp⟩ : ∃ pp, posN ls t = pp := ⟨_, rfl⟩
    rw [hpp] at hlt hl ⊢
    have hb1 := HB.out.ex hx1 (by simp)
    obtain ⟨hc, hf⟩ := hb1.all
    have hql := hb1.lt
    obtain ⟨b, c, rfl, hbl, c0, c1⟩ : ∃ b c, v = .slice (some ⟨b, 0, none⟩) ls.length c ∧ b < w1.heap.size ∧ w1.cell? ⟨b, pp * 2, none⟩ = some (.string l.1) ∧ w1.cell? ⟨b, pp * 2 + 1, none⟩ = some (.string l.2) := by
      rcases HS.out with ⟨h1, h2⟩ | ⟨b, c', h1, hb, hc⟩
      · rw [h2] at hlt; simp at hlt
      · obtain ⟨h3, h4⟩ := hc _ l hl
        exact ⟨b, c', h1, Nat.lt_of_lt_of_le hb hx1.size, by rw [hx1.cell0.1 b _ hb]; exact h3, by rw [hx1.cell0.1 b _ hb]; exact h4⟩
    have hlt' : (pp : Int) < (ls.length : Int) := by omega
    clear ht hl hx1 hb1 hpp
    go_wp2_with fail
    go_ret
    exact ⟨by rw [unhide HV]; rfl, HX1.out⟩

set_option maxHeartbeats 400000 in
theorem join_none (sep : ByteArray) (v : Value) (w : World) (hv : SS w v []) :
    Calls Tryz.prog 124 #[v, .string sep] w fun e w' => e = .returned (.string ⟨#[]⟩) ∧ Ex [] w w' := by
  obtain ⟨p, c, rfl⟩ := hv.slice
  clear hv
  go_enter Tryz.func124, Tryz.ntmps124
  go_wp2_with fail
  go_ret
  exact ⟨rfl, Ex.refl _ _⟩

set_option maxHeartbeats 400000 in
theorem join_one (s sep : ByteArray) (v : Value) (w : World) (hv : SS w v [s]) :
    Calls Tryz.prog 124 #[v, .string sep] w fun e w' => e = .returned (.string s) ∧ Ex [] w w' := by
  obtain ⟨b, c, rfl, hb, c0⟩ : ∃ b c, v = .slice (some ⟨b, 0, none⟩) 1 c ∧ b < w.heap.size ∧ w.cell? ⟨b, 0, none⟩ = some (.string s) := by
    rcases hv with ⟨h1, h2⟩ | ⟨b, c', h1, hb, hc⟩
    · cases h2
    · exact ⟨b, c', h1, hb, hc 0 s rfl⟩
  clear hv
  go_enter Tryz.func124, Tryz.ntmps124
  go_wp2_with fail
  go_ret
  exact ⟨rfl, Ex.refl _ _⟩
end Go.Proofs.YtmeffeigamaipabGreatDoor
