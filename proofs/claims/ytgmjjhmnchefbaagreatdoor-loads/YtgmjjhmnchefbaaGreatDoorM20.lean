/- T1 F1 F5 F2 F6 F3 F4 F8 T2 P0 T3, one behind the other. -/
import Derived.Test.YtgmjjhmnchefbaaGreatDoorM01
import Derived.Test.YtgmjjhmnchefbaaGreatDoorM03
import Derived.Laws.IdiomStrings
import Derived.Test.YtgmjjhmnchefbaaGreatDoorM02
import Derived.Test.YtgmjjhmnchefbaaGreatDoorProg
import Derived.Lib.ItoaMem
import Derived.Test.YtgmjjhmnchefbaaGreatDoorM19
import Derived.Deep.RegionHeld3
set_option linter.unusedVariables false
set_option linter.unusedSimpArgs false
/- Labels that are sorted: plain facts. -/
namespace Go.Proofs.YtgmjjhmnchefbaaGreatDoor.G
open Go.Lib

end Go.Proofs.YtgmjjhmnchefbaaGreatDoor.G

/- Contracts of package rule: what is asked of a rule's fields. -/
namespace Go.Proofs.YtgmjjhmnchefbaaGreatDoor
open Go.RowKit

def SS (w : World) (v : Value) (ss : List ByteArray) : Prop :=
  (v = .slice none 0 0 ∧ ss = []) ∨ ∃ b c, v = .slice (some ⟨b, 0, none⟩) ss.length c ∧ b < w.heap.size ∧ ∀ j s, ss[j]? = some s → w.cell? ⟨b, j, none⟩ = some (.string s)

theorem SS.ex {w w' : World} {v : Value} {ss : List ByteArray} {o : List Nat} (h : SS w v ss) (hx : Ex o w w') (hn : ∀ k, v.ownBlock = some k → k ∉ o) : SS w' v ss := by
  rcases h with h | ⟨b, c, rfl, hb, hc⟩
  · exact .inl h
  · refine .inr ⟨b, c, rfl, Nat.lt_of_lt_of_le hb hx.size, fun j l hj => ?_⟩
    rw [hx.cell.1 b _ hb (hn b rfl)]
    exact hc j l hj
theorem SS.ex0 {w w' : World} {v : Value} {ss : List ByteArray} (h : SS w v ss) (hx : Ex [] w w') : SS w' v ss := h.ex hx (by simp)
theorem SS.slice {w : World} {v : Value} {ss : List ByteArray} (h : SS w v ss) : ∃ p c, v = .slice p ss.length c := by
  rcases h with ⟨rfl, rfl⟩ | ⟨b, c, rfl, _⟩
  · exact ⟨_, _, rfl⟩
  · exact ⟨_, _, rfl⟩

def longB (s : ByteArray) : Bool := decide (60 < s.size)

theorem isLong_any (s : ByteArray) (w : World) :
    Calls Tryz.prog 76 #[.string s] w fun e w' => e = .returned (.bool (longB s)) ∧ w' = w := by
  unfold longB
  go_enter Tryz.func76, Tryz.ntmps76
  go_wp2_with fail
  go_ret
  exact ⟨by simp; omega, rfl⟩

def idxLong (ss : List ByteArray) : Int := match ss.findIdx? longB with | some i => (i : Int) | none => -1

set_option maxHeartbeats 1000000 in
set_option maxRecDepth 100000 in
theorem indexLong (v : Value) (ls : List ByteArray) (w : World) (hv : SS w v ls) (hn : ls.length ≤ 1000) :
    Calls Tryz.prog 109 #[v, .func (.func 76) #[] #[]] w fun e w' => e = .returned (.int .i64 (idxLong ls)) ∧ Ex [] w w' := by
  have HV := hide hv
  obtain ⟨p, c, rfl⟩ := hv.slice
  clear hv
  go_enter Tryz.func109, Tryz.ntmps109
  go_wp2_with fail
  go_loopg [8] ls.length (fun gk i wr => ∃ j : Nat, j + gk = ls.length ∧ i = .int .i64 j ∧ (∀ k l, k < j → ls[k]? = some l → longB l = false) ∧ Ex [] w wr)
  case atStart => exact ⟨0, by omega, rfl, fun k l h => by omega, Ex.refl _ _⟩
  case round =>
    obtain ⟨j, hj, rfl, hw, hx⟩ := hrel
    have HW := hide hw
    have HX := hide hx
    cases gk with
    | zero =>
      obtain rfl : j = ls.length := by omega
      clear hj hw hx
      go_wp2_with fail
      go_ret
      refine ⟨?_, HX.out⟩
      have hnone : ls.findIdx? longB = none := by
        rw [List.findIdx?_eq_none_iff]
        intro l hl
        obtain ⟨k, hk, rfl⟩ := List.getElem_of_mem hl
        exact HW.out k _ hk (List.getElem?_eq_getElem hk)
      simp [idxLong, hnone]
    | succ g =>
      have hjl : j < ls.length := by omega
      have hj' : (j : Int) < (ls.length : Int) := by omega
      obtain ⟨l, hl⟩ : ∃ l, ls[j]? = some l := ⟨_, List.getElem?_eq_getElem hjl⟩
      have HLJ := hide hl
      obtain ⟨b, rfl, hb, c0⟩ : ∃ b, p = some ⟨b, 0, none⟩ ∧ b < wr.heap.size ∧ wr.cell? ⟨b, j, none⟩ = some (.string l) := by
        rcases HV.out with ⟨h1, h2⟩ | ⟨b, c', h1, hb, hc⟩
        · rw [h2] at hjl; simp at hjl
        · cases h1
          exact ⟨b, rfl, Nat.lt_of_lt_of_le hb hx.size, by rw [hx.cell0.1 b _ hb]; exact hc j l hl⟩
      clear hw hx hl
      go_wp2_with fail
      refine (isLong_any l _).mono ?_
      rintro e w' ⟨rfl, hx1⟩
      subst hx1
      cases hW : longB l with
      | true =>
        have HB := hide hW
        clear hW
        go_wp2_with fail
        go_ret
        refine ⟨?_, HX.out⟩
        have hs : ls.findIdx? longB = some j := by
          rw [List.findIdx?_eq_some_iff_getElem]
          refine ⟨hjl, ?_, fun k hk => ?_⟩
          · have := HLJ.out; rw [List.getElem?_eq_getElem hjl] at this; rw [Option.some.inj this]; exact unhide HB
          · simpa using HW.out k _ hk (List.getElem?_eq_getElem (by omega))
        simp [idxLong, hs]
      | false =>
        have HB := hide hW
        clear hW
        go_wp2_with fail
        go_roundg g
        case measure => omega
        case rel =>
          refine ⟨j + 1, by omega, by simp, fun k l' hk hl' => ?_, HX.out⟩
          by_cases hkj : k = j
          · subst hkj; have := HLJ.out; rw [hl'] at this; cases this; exact unhide HB
          · exact HW.out k l' (by omega) hl'

theorem any_idxLong (ls : List ByteArray) : decide (0 ≤ idxLong ls) = ls.any longB := by
  unfold idxLong
  cases h : ls.findIdx? longB with
  | none =>
    rw [List.findIdx?_eq_none_iff] at h
    have : ls.any longB = false := by rw [List.any_eq_false]; intro x hx; simp [h x hx]
    rw [this]; rfl
  | some i =>
    obtain ⟨hi, h1, _⟩ := List.findIdx?_eq_some_iff_getElem.1 h
    have : ls.any longB = true := by rw [List.any_eq_true]; exact ⟨ls[i], List.getElem_mem hi, h1⟩
    rw [this]; simp

set_option maxHeartbeats 1000000 in
set_option maxRecDepth 100000 in
theorem containsLong (v : Value) (ls : List ByteArray) (w : World) (hv : SS w v ls) (hn : ls.length ≤ 1000) :
    Calls Tryz.prog 75 #[v, .func (.func 76) #[] #[]] w fun e w' => e = .returned (.bool (ls.any longB)) ∧ Ex [] w w' := by
  rw [← any_idxLong]
  have HV := hide hv
  clear hv
  go_enter Tryz.func75, Tryz.ntmps75
  go_wp2_with fail
  refine (indexLong _ _ _ HV.out hn).mono ?_
  rintro e w' ⟨rfl, hx1⟩
  have HX1 := hide hx1
  clear hx1
  go_wp2_with fail
  go_ret
  exact ⟨by simp, HX1.out⟩

set_option maxHeartbeats 1000000 in
set_option maxRecDepth 100000 in
theorem areNames_any (v : Value) (ls : List ByteArray) (w : World) (hv : SS w v ls) (hn : ls.length ≤ 1000) (hz : ∀ s ∈ ls, s.size ≤ maxLen) :
    Calls Tryz.prog 57 #[v] w fun e w' => e = .returned (.bool (ls.all nameB)) ∧ Ex [] w w' := by
  have HV := hide hv
  have HZ := hide hz
  obtain ⟨p, c, rfl⟩ := hv.slice
  clear hv hz
  go_enter Tryz.func57, Tryz.ntmps57
  go_wp2_with fail
  go_loopg [7] ls.length (fun gk i wr => ∃ j : Nat, j + gk = ls.length ∧ i = .int .i64 j ∧ (∀ k l, k < j → ls[k]? = some l → nameB l = true) ∧ Ex [] w wr)
  case atStart => exact ⟨0, by omega, rfl, fun k l h => by omega, Ex.refl _ _⟩
  case round =>
    obtain ⟨j, hj, rfl, hw, hx⟩ := hrel
    have HW := hide hw
    have HX := hide hx
    cases gk with
    | zero =>
      obtain rfl : j = ls.length := by omega
      clear hj hw hx
      go_wp2_with fail
      go_ret
      refine ⟨?_, HX.out⟩
      have hall : ls.all nameB = true := by
        rw [List.all_eq_true]
        intro l hl
        obtain ⟨k, hk, rfl⟩ := List.getElem_of_mem hl
        exact HW.out k _ hk (List.getElem?_eq_getElem hk)
      rw [hall]; rfl
    | succ g =>
      have hjl : j < ls.length := by omega
      have hj' : (j : Int) < (ls.length : Int) := by omega
      obtain ⟨l, hl⟩ : ∃ l, ls[j]? = some l := ⟨_, List.getElem?_eq_getElem hjl⟩
      have HLJ := hide hl
      have hlm := HZ.out l (List.mem_of_getElem? hl)
      obtain ⟨b, rfl, hb, c0⟩ : ∃ b, p = some ⟨b, 0, none⟩ ∧ b < wr.heap.size ∧ wr.cell? ⟨b, j, none⟩ = some (.string l) := by
        rcases HV.out with ⟨h1, h2⟩ | ⟨b, c', h1, hb, hc⟩
        · rw [h2] at hjl; simp at hjl
        · cases h1
          exact ⟨b, rfl, Nat.lt_of_lt_of_le hb hx.size, by rw [hx.cell0.1 b _ hb]; exact hc j l hl⟩
      clear hw hx hl
      go_wp2_with fail
      refine (isName_any l _ hlm).mono ?_
      rintro e w' ⟨rfl, hx1⟩
      subst hx1
      cases hW : nameB l with
      | false =>
        have HB := hide hW
        clear hW
        go_wp2_with fail
        go_ret
        refine ⟨?_, HX.out⟩
        have hs : ls.all nameB = false := by
          rw [List.all_eq_false]
          exact ⟨l, List.mem_of_getElem? HLJ.out, by simp [unhide HB]⟩
        rw [hs]; rfl
      | true =>
        have HB := hide hW
        clear hW
        go_wp2_with fail
        go_roundg g
        case measure => omega
        case rel =>
          refine ⟨j + 1, by omega, by simp, fun k l' hk hl' => ?_, HX.out⟩
          by_cases hkj : k = j
          · subst hkj; have := HLJ.out; rw [hl'] at this; cases this; exact unhide HB
          · exact HW.out k l' (by omega) hl'
end Go.Proofs.YtgmjjhmnchefbaaGreatDoor

/- Contract of what a rule works with. -/
namespace Go.Proofs.YtgmjjhmnchefbaaGreatDoor
open Go.RowKit

theorem infoStr : (Tryz.prog.info? 9).map (fun i => (i.zero, i.size, i.bytes)) = some (some (.string ⟨#[]⟩), 1, 16) := by kernel_rfl

theorem own_ss {w : World} {base : Nat} {v : Value} {ss : List ByteArray} (h : w.ownsRow base 9 1 v ss.length (ss.map Value.string)) : SS w v ss := by
  rcases h.2 with ⟨rfl, h0⟩ | ⟨g, cap, cur, rfl, hb, hg, hnc, hcm, hcs, htk⟩
  · exact .inl ⟨rfl, List.length_eq_zero_iff.1 h0⟩
  · refine .inr ⟨g, cap, rfl, (Array.getElem?_eq_some_iff.1 hg).1, fun j s hj => ?_⟩
    have hjl := (List.getElem?_eq_some_iff.1 hj).1
    rw [cell_of_row w g _ cur 9 (0, 0) hg]
    have h1 : (cur.toList.take (ss.length * 1))[j]? = some (.string s) := by rw [htk, List.getElem?_map, hj]; rfl
    rw [List.getElem?_take, if_pos (by omega)] at h1
    simpa using h1

def meansV (sv : Value) (se : ByteArray) (pp : Value) (ta rp : ByteArray) (mo : Int) : Value := .agg #[sv, .string se, pp, .string ta, .string rp, .int .u64 mo]

set_option maxHeartbeats 2000000 in
set_option maxRecDepth 100000 in
theorem meansOf_any (a : Int) (so : Value) (ss : List ByteArray) (se re ta rp : ByteArray) (mo : Int) (pp : Option Addr) (w : World) (hv : SS w so ss) (hn : ss.length ≤ 1000) (hz : ∀ s ∈ ss, s.size ≤ 281474976710656) (hse : se.size ≤ 281474976710656) (hta : ta.size ≤ 281474976710656) (hrp : rp.size ≤ 281474976710656) :
    Calls Tryz.prog 61 #[ruleV a so se re ta rp mo, .pointer pp] w fun x w' => ∃ sv, x = .returned (meansV sv se (.pointer pp) ta rp mo) ∧ SS w' sv ss ∧ (∀ k, sv.ownBlock = some k → w.heap.size ≤ k) ∧ Ex [] w w' := by
  unfold ruleV
  obtain ⟨i0, hi, hz0, hz1, hz2⟩ := info_parts infoStr
  have HV := hide hv
  have HZ := hide hz
  obtain ⟨p, c, rfl⟩ := hv.slice
  clear hv hz
  have hW0 : Ex [] w ((w.alloc (Obj.cells #[.int .i64 a, .slice p ss.length c, .string se, .string re, .string ta, .string rp, .int .u64 mo] 118)).alloc (Obj.cells #[.slice none 0 0, .string ⟨#[]⟩, .pointer none, .string ⟨#[]⟩, .string ⟨#[]⟩, .int .u64 0] 170)) := ((Ex.refl _ _).alloc _).alloc _
  have HW0 := hide hW0
  clear hW0
  go_enter Tryz.func61, Tryz.ntmps61
  go_wp2_with fail
  go_loopg [5, 11] ss.length (fun gk v5 i wr => ∃ j : Nat, j + gk = ss.length ∧ i = .int .i64 j ∧ wr.ownsRow (w.heap.size + 1 + 1) 9 1 v5 j ((ss.take j).map Value.string) ∧ Ex [] ((w.alloc (Obj.cells #[.int .i64 a, .slice p ss.length c, .string se, .string re, .string ta, .string rp, .int .u64 mo] 118)).alloc (Obj.cells #[.slice none 0 0, .string ⟨#[]⟩, .pointer none, .string ⟨#[]⟩, .string ⟨#[]⟩, .int .u64 0] 170)) wr)
  case atStart => exact ⟨0, by omega, rfl, by simpa using World.ownsRow_nil _ _ _ _, Ex.refl _ _⟩
  case round =>
    obtain ⟨j, hj, rfl, hown, hx⟩ := hrel
    have HX := hide hx
    have HO := hide hown
    have hzr : w.heap.size + 1 + 1 ≤ wr.heap.size := by have := hx.size; simpa using this
    have hG := ((BK.new w (Obj.cells #[.int .i64 a, .slice p ss.length c, .string se, .string re, .string ta, .string rp, .int .u64 mo] 118)).alloc (Obj.cells #[.slice none 0 0, .string ⟨#[]⟩, .pointer none, .string ⟨#[]⟩, .string ⟨#[]⟩, .int .u64 0] 170)).ex hx (by simp)
    have hR := (by simpa using BK.new (w.alloc (Obj.cells #[.int .i64 a, .slice p ss.length c, .string se, .string re, .string ta, .string rp, .int .u64 mo] 118)) (Obj.cells #[.slice none 0 0, .string ⟨#[]⟩, .pointer none, .string ⟨#[]⟩, .string ⟨#[]⟩, .int .u64 0] 170) : BK _ (w.heap.size + 1) _).ex hx (by simp)
    have HG := hide hG
    have HR := hide hR
    obtain ⟨p5, c5, rfl⟩ := own_slice hown
    clear hx hown hG hR
    cases gk with
    | zero =>
      obtain rfl : j = ss.length := by omega
      have HO2 : Hid (wr.ownsRow (w.heap.size + 1 + 1) 9 1 (.slice p5 ss.length c5) ss.length (ss.map Value.string)) := by have := HO.out; rw [List.take_length] at this; exact this
      obtain ⟨n, hnn⟩ : ∃ n, ss.length = n := ⟨_, rfl⟩
      have HN := hide hnn
      have hG := HG.out
      rw [hnn] at HO2 hG
      have HGn := hide hG
      obtain ⟨hcg, hfg⟩ := hG.all
      have hlg := hG.lt
      have K1 := hide (fun w => clone_any se w hse)
      have K2 := hide (fun w => clone_any ta w hta)
      have K3 := hide (fun w => clone_any rp w hrp)
      clear hj hG HG HO
      rw [hnn]
      go_wp2_with fail
      refine wp_region_J (by kernel_rfl) ?_
      refine wpAny_take (i := 0) (v := ?_) rfl (by kernel_rfl) (by kernel_rfl) (by kernel_rfl) (fun _ _ _ h => h) (Or.inl ⟨by rfl, ?_⟩) ?_
      rotate_left
      · intro w'
        go_simp
        try with_reducible rfl
      simp only [Act.put, List.setIfInBounds_toArray, List.set_cons_zero, List.set_cons_succ, List.getElem_toArray, List.getElem_cons_zero, List.getElem_cons_succ, List.replicate, Array.replicate, List.size_toArray, List.length_cons, List.length_nil]
      refine wpAny_take (i := 1) (v := ?_) rfl (by kernel_rfl) (by kernel_rfl) (by kernel_rfl) (fun _ _ _ h => h) (Or.inl ⟨by rfl, ?_⟩) ?_
      rotate_left
      · intro w'
        go_simp
        try with_reducible rfl
      simp only [Act.put, List.setIfInBounds_toArray, List.set_cons_zero, List.set_cons_succ, List.getElem_toArray, List.getElem_cons_zero, List.getElem_cons_succ, List.replicate, Array.replicate, List.size_toArray, List.length_cons, List.length_nil]
      refine wpAny_take (i := 4) (v := ?_) rfl (by kernel_rfl) (by kernel_rfl) (by kernel_rfl) (fun _ _ _ h => h) (Or.inl ⟨by rfl, ?_⟩) ?_
      rotate_left
      · intro w'
        go_simp
        try with_reducible rfl
      simp only [Act.put, List.setIfInBounds_toArray, List.set_cons_zero, List.set_cons_succ, List.getElem_toArray, List.getElem_cons_zero, List.getElem_cons_succ, List.replicate, Array.replicate, List.size_toArray, List.length_cons, List.length_nil]
      refine wpAny_take (i := 5) (v := ?_) rfl (by kernel_rfl) (by kernel_rfl) (by kernel_rfl) (fun _ _ _ h => h) (Or.inl ⟨by rfl, ?_⟩) ?_
      rotate_left
      · intro w'
        go_simp
        try with_reducible rfl
      simp only [Act.put, List.setIfInBounds_toArray, List.set_cons_zero, List.set_cons_succ, List.getElem_toArray, List.getElem_cons_zero, List.getElem_cons_succ, List.replicate, Array.replicate, List.size_toArray, List.length_cons, List.length_nil]
      refine wpAny_take (i := 8) (v := ?_) rfl (by kernel_rfl) (by kernel_rfl) (by kernel_rfl) (fun _ _ _ h => h) (Or.inl ⟨by rfl, ?_⟩) ?_
      rotate_left
      · intro w'
        go_simp
        try with_reducible rfl
      simp only [Act.put, List.setIfInBounds_toArray, List.set_cons_zero, List.set_cons_succ, List.getElem_toArray, List.getElem_cons_zero, List.getElem_cons_succ, List.replicate, Array.replicate, List.size_toArray, List.length_cons, List.length_nil]
      refine wpAny_take (i := 11) (v := ?_) rfl (by kernel_rfl) (by kernel_rfl) (by kernel_rfl) (fun _ _ _ h => h) (Or.inl ⟨by rfl, ?_⟩) ?_
      rotate_left
      · intro w'
        go_simp
        try with_reducible rfl
      simp only [Act.put, List.setIfInBounds_toArray, List.set_cons_zero, List.set_cons_succ, List.getElem_toArray, List.getElem_cons_zero, List.getElem_cons_succ, List.replicate, Array.replicate, List.size_toArray, List.length_cons, List.length_nil]
      refine wpAny_of_J (S := (fun j w' => j < 15 → ∀ o, w'.cell? ⟨w.heap.size, o, none⟩ = #[Value.int .i64 a, .slice p n c, .string se, .string re, .string ta, .string rp, .int .u64 mo][o]?)) _ _ _ _ ?_
      refine wpAnyJ_take (i := 2) (T := (fun w' => ∀ o, w'.cell? ⟨w.heap.size, o, none⟩ = #[Value.int .i64 a, .slice p n c, .string se, .string re, .string ta, .string rp, .int .u64 mo][o]?)) (v := ?_) (fun j => decide (j < 15)) rfl (by kernel_rfl) (by kernel_rfl) (by kernel_rfl) (by kernel_rfl) (fun j w' hj h => h (by simpa using hj)) (fun w' h _ => h) (fun _ _ _ h => h) hcg (Or.inl ⟨by rfl, ?_⟩) ?_
      rotate_left
      · intro w' hSw
        obtain hSw := hSw
        go_simp
        try with_reducible rfl
      simp only [Act.put, List.setIfInBounds_toArray, List.set_cons_zero, List.set_cons_succ, List.getElem_toArray, List.getElem_cons_zero, List.getElem_cons_succ, List.replicate, Array.replicate, List.size_toArray, List.length_cons, List.length_nil]
      refine wpAnyJ_take (i := 6) (T := (fun w' => ∀ o, w'.cell? ⟨w.heap.size, o, none⟩ = #[Value.int .i64 a, .slice p n c, .string se, .string re, .string ta, .string rp, .int .u64 mo][o]?)) (v := ?_) (fun j => decide (j < 15)) rfl (by kernel_rfl) (by kernel_rfl) (by kernel_rfl) (by kernel_rfl) (fun j w' hj h => h (by simpa using hj)) (fun w' h _ => h) (fun _ _ _ h => h) hcg (Or.inl ⟨by rfl, ?_⟩) ?_
      rotate_left
      · intro w' hSw
        obtain hSw := hSw
        go_simp
        try with_reducible rfl
      simp only [Act.put, List.setIfInBounds_toArray, List.set_cons_zero, List.set_cons_succ, List.getElem_toArray, List.getElem_cons_zero, List.getElem_cons_succ, List.replicate, Array.replicate, List.size_toArray, List.length_cons, List.length_nil]
      refine wpAnyJ_take (i := 9) (T := (fun w' => ∀ o, w'.cell? ⟨w.heap.size, o, none⟩ = #[Value.int .i64 a, .slice p n c, .string se, .string re, .string ta, .string rp, .int .u64 mo][o]?)) (v := ?_) (fun j => decide (j < 15)) rfl (by kernel_rfl) (by kernel_rfl) (by kernel_rfl) (by kernel_rfl) (fun j w' hj h => h (by simpa using hj)) (fun w' h _ => h) (fun _ _ _ h => h) hcg (Or.inl ⟨by rfl, ?_⟩) ?_
      rotate_left
      · intro w' hSw
        obtain hSw := hSw
        go_simp
        try with_reducible rfl
      simp only [Act.put, List.setIfInBounds_toArray, List.set_cons_zero, List.set_cons_succ, List.getElem_toArray, List.getElem_cons_zero, List.getElem_cons_succ, List.replicate, Array.replicate, List.size_toArray, List.length_cons, List.length_nil]
      refine wpAnyJ_take (i := 12) (T := (fun w' => ∀ o, w'.cell? ⟨w.heap.size, o, none⟩ = #[Value.int .i64 a, .slice p n c, .string se, .string re, .string ta, .string rp, .int .u64 mo][o]?)) (v := ?_) (fun j => decide (j < 15)) rfl (by kernel_rfl) (by kernel_rfl) (by kernel_rfl) (by kernel_rfl) (fun j w' hj h => h (by simpa using hj)) (fun w' h _ => h) (fun _ _ _ h => h) hcg (Or.inl ⟨by rfl, ?_⟩) ?_
      rotate_left
      · intro w' hSw
        obtain hSw := hSw
        go_simp
        try with_reducible rfl
      simp only [Act.put, List.setIfInBounds_toArray, List.set_cons_zero, List.set_cons_succ, List.getElem_toArray, List.getElem_cons_zero, List.getElem_cons_succ, List.replicate, Array.replicate, List.size_toArray, List.length_cons, List.length_nil]
      refine wpAnyJ_one (i := 3) rfl rfl (by kernel_rfl) (fun K hK => ?_)
      go_simp
      refine (K1.out _).mono ?_
      rintro e w3 ⟨rfl, hx3⟩
      have hy3 := ((Ex.refl [] wr).drew).trans hx3
      obtain ⟨q3, hf3⟩ := (HGn.out.ex hy3 (by simp)).all
      go_wp2_with fail
      refine hK.out _ _ (fun _ => q3) ?_
      clear hK K
      simp only [Act.put, List.setIfInBounds_toArray, List.set_cons_zero, List.set_cons_succ, List.getElem_toArray, List.getElem_cons_zero, List.getElem_cons_succ]
      refine wpAnyJ_one (i := 7) rfl rfl (by kernel_rfl) (fun K hK => ?_)
      go_simp
      refine (K2.out _).mono ?_
      rintro e w4 ⟨rfl, hx4⟩
      have hy4 := hy3.trans hx4
      obtain ⟨q4, hf4⟩ := (HGn.out.ex hy4 (by simp)).all
      go_wp2_with fail
      refine hK.out _ _ (fun _ => q4) ?_
      clear hK K
      simp only [Act.put, List.setIfInBounds_toArray, List.set_cons_zero, List.set_cons_succ, List.getElem_toArray, List.getElem_cons_zero, List.getElem_cons_succ]
      refine wpAnyJ_one (i := 10) rfl rfl (by kernel_rfl) (fun K hK => ?_)
      go_simp
      refine (K3.out _).mono ?_
      rintro e w5 ⟨rfl, hx5⟩
      have hy5 := hy4.trans hx5
      obtain ⟨q5, hf5⟩ := (HGn.out.ex hy5 (by simp)).all
      go_wp2_with fail
      refine hK.out _ _ (fun _ => q5) ?_
      clear hK K
      simp only [Act.put, List.setIfInBounds_toArray, List.set_cons_zero, List.set_cons_succ, List.getElem_toArray, List.getElem_cons_zero, List.getElem_cons_succ]
      obtain ⟨hcr, hfr⟩ := (HR.out.ex hy5 (by simp)).all
      have hlr := (HR.out.ex hy5 (by simp)).lt
      refine wpAnyJ_one (i := 13) rfl rfl (by kernel_rfl) (fun K hK => ?_)
      go_simp
      refine hK.out _ _ (fun _ => q5) ?_
      clear hK K
      simp only [Act.put, List.setIfInBounds_toArray, List.set_cons_zero, List.set_cons_succ, List.getElem_toArray, List.getElem_cons_zero, List.getElem_cons_succ]
      refine wpAnyJ_one (i := 14) rfl rfl (by kernel_rfl) (fun K hK => ?_)
      go_simp
      refine hK.out _ _ (fun _ => ?_) ?_
      · intro o
        have hg := HGn.out.ex hy5 (by simp)
        exact ((((((hg.set (by simp) _).set (by simp) _).set (by simp) _).set (by simp) _).set (by simp) _).set (by simp) _).all.1 o
      clear hK K
      refine wpAnyJ_done (by kernel_rfl) ?_ _
      have HR5 := hide (HR.out.ex hy5 (by simp))
      have HY5 := hide hy5
      clear hx3 hx4 hx5 hy3 hy4 hy5 q3 q4 q5 hf3 hf4 hf5 hcr hfr hcg hfg
      go_wp2_with fail
      have hb6 := ((((((HR5.out.self 0 (.slice p5 n c5)).self 1 (.string se)).self 2 (.pointer pp)).self 3 (.string ta)).self 4 (.string rp)).self 5 (.int .u64 mo))
      simp only [List.setIfInBounds_toArray, List.set_cons_zero, List.set_cons_succ] at hb6
      have hl6 := run_loadVar_mid (P := Tryz.prog) _ (w.heap.size + 1) 0 170 [.slice p5 n c5, .string se, .pointer pp, .string ta, .string rp, .int .u64 mo] _ hb6.rangeL Tryz.underlying170 rfl (by kernel_rfl)
      refine bodyPost_ret (results_cell1 rfl rfl hl6) rfl ⟨.slice p5 n c5, rfl, ?_, ?_, ?_⟩
      · refine own_ss (base := w.heap.size + 1 + 1) ?_
        rw [HN.out]
        iterate 6 (refine own_set ?_ (by simp) _)
        exact own_ex HO2.out HY5.out (by simp)
      · intro k hk
        have := (HO2.out.lt k hk).1
        omega
      · iterate 6 (refine Ex.setCell ?_ (Or.inr (by simp)) _)
        exact HW0.out.trans (HX.out.trans HY5.out)
    | succ g =>
      have hjl : j < ss.length := by omega
      have hj' : (j : Int) < (ss.length : Int) := by omega
      obtain ⟨l, hl⟩ : ∃ l, ss[j]? = some l := ⟨_, List.getElem?_eq_getElem hjl⟩
      have HLJ := hide hl
      have hls := HZ.out l (List.mem_of_getElem? hl)
      obtain ⟨b, rfl, hb, c0⟩ : ∃ b, p = some ⟨b, 0, none⟩ ∧ b < wr.heap.size ∧ wr.cell? ⟨b, j, none⟩ = some (.string l) := by
        rcases HV.out with ⟨h1, h2⟩ | ⟨b, c', h1, hb, hc⟩
        · rw [h2] at hjl; simp at hjl
        · cases h1
          have hxx : Ex [] w wr := HW0.out.trans HX.out
          exact ⟨b, rfl, Nat.lt_of_lt_of_le hb hxx.size, by rw [hxx.cell0.1 b _ hb]; exact hc j l hl⟩
      obtain ⟨xs, hxs⟩ : ∃ xs, (ss.take j).map Value.string = xs := ⟨_, rfl⟩
      have HXS := hide hxs
      rw [hxs] at HO
      clear hl hxs
      go_wp2_with fail
      refine (clone_any l _ hls).mono ?_
      rintro e w1 ⟨rfl, hx1⟩
      have hown1 := own_ex HO.out hx1 (by simp)
      have hsz1 := hx1.size
      have HX1 := hide (HX.out.trans hx1)
      clear hx1 c0
      go_wp2_with (at_builtin; refine wpList_append_lies _ rfl (.tmp 15) (.tmp 18) 46 rfl (w.heap.size + 1 + 1) 9 i0 (.string ⟨#[]⟩) 1 16 Tryz.underlying46 hi hz0 hz1 hz2 rfl (by decide) (.slice p5 j c5) j xs rfl (hown1.alloc _) ⟨w1.heap.size, 0, none⟩ 1 1 [.string l] rfl rfl (cells_new _ _ _) (by simp [Value.oneCell']) (by decide) (by unfold maxLen; omega) (by omega) (by simp; omega) (w1.heap.size + 1) (by simp) ?_)
      intro gb cap w5 hown5 hgrow hcase hlt5
      have hob := own_block hown1
      go_wp2
      go_roundg g
      case measure => omega
      case rel =>
        refine ⟨j + 1, by omega, by simp, ?_, ?_⟩
        · have h9 : (ss.take (j + 1)).map Value.string = xs ++ [.string l] := by
            rw [List.take_add_one, HLJ.out, List.map_append, HXS.out]; rfl
          rw [h9]; exact hown5
        · exact Ex.grown (HX1.out.alloc _) hgrow (fun k hk => Or.inr (by have := hob k hk; simp; omega))
end Go.Proofs.YtgmjjhmnchefbaaGreatDoor

/- Contracts of package rule: whether a rule is too big, its target, what it has no use for. -/
namespace Go.Proofs.YtgmjjhmnchefbaaGreatDoor
open Go.RowKit

def bigB (ss : List ByteArray) (se ta rp : ByteArray) : Bool := decide (5 < ss.length) || ss.any longB || longB se || longB ta || longB rp

def targetB (a : Int) (ta : ByteArray) : Bool := if a = 0 then !(ta.size == 0) else nameB ta

set_option maxHeartbeats 1000000 in
set_option maxRecDepth 100000 in
theorem isTarget_any (a : Int) (p : Option Addr) (n c : Nat) (se re ta rp : ByteArray) (mo : Int) (w : World) (hs : ta.size ≤ maxLen) :
    Calls Tryz.prog 59 #[ruleV a (.slice p n c) se re ta rp mo] w fun x w' => x = .returned (.bool (targetB a ta)) ∧ Ex [] w w' := by
  unfold ruleV targetB
  by_cases h0 : a = 0
  · rw [if_pos h0]
    subst h0
    by_cases hz : ta.size = 0
    · obtain rfl : ta = ⟨#[]⟩ := by apply ByteArray.ext; exact Array.eq_empty_of_size_eq_zero hz
      go_enter Tryz.func59, Tryz.ntmps59
      go_wp2_with fail
      go_ret
      exact ⟨rfl, (Ex.refl _ _).alloc _⟩
    · have hem := nonempty_list hz
      go_enter Tryz.func59, Tryz.ntmps59
      go_wp2_with fail
      go_ret
      exact ⟨by simp [hem, hz], (Ex.refl _ _).alloc _⟩
  · rw [if_neg h0]
    go_enter Tryz.func59, Tryz.ntmps59
    go_wp2_with fail
    refine (isName_any ta _ hs).mono ?_
    rintro x w3 ⟨rfl, hx3⟩
    subst hx3
    go_wp2_with fail
    go_ret
    exact ⟨rfl, (Ex.refl _ _).alloc _⟩

structure Use where
  text : Bool
  regex : Bool
  target : Bool
  repl : Bool
  modulus : Bool
def Use.cells (u : Use) : List Value := [.bool u.text, .bool u.regex, .bool u.target, .bool u.repl, .bool u.modulus]
def useV (u : Use) : Value := .agg #[.bool u.text, .bool u.regex, .bool u.target, .bool u.repl, .bool u.modulus]

def unusedB (n : Nat) (se re ta rp : ByteArray) (mo : Int) (u : Use) : Bool :=
  (!u.text && (decide (0 < n) || !(se.size == 0))) || (!u.regex && !(re.size == 0)) || (!u.target && !(ta.size == 0)) || (!u.repl && !(rp.size == 0)) || (!u.modulus && !(mo == 0))

theorem empty_size (s : ByteArray) : s.toList.isEmpty = (s.size == 0) := by
  by_cases h : s.size = 0
  · obtain rfl : s = ⟨#[]⟩ := by apply ByteArray.ext; exact Array.eq_empty_of_size_eq_zero h
    simp; rfl
  · rw [nonempty_list h]; simp [h]
theorem nil_size (s : ByteArray) : (s.toList = []) = (s.size = 0) := by
  rw [← List.isEmpty_iff, empty_size]; simp

set_option maxHeartbeats 1000000 in
set_option maxRecDepth 100000 in
theorem hasUnused_any (a : Int) (p : Option Addr) (n c : Nat) (se re ta rp : ByteArray) (mo : Int) (u : Use) (w : World) :
    Calls Tryz.prog 60 #[ruleV a (.slice p n c) se re ta rp mo, useV u] w fun x w' => x = .returned (.bool (unusedB n se re ta rp mo u)) ∧ Ex [] w w' := by
  obtain ⟨u0, u1, u2, u3, u4⟩ := u
  unfold ruleV useV
  simp only
  go_enter Tryz.func60, Tryz.ntmps60
  go_wp2_with fail
  all_goals
    go_ret
    refine ⟨?_, ((Ex.refl _ _).alloc _).alloc _⟩
    simp only [nil_size] at *
    simp_all [unusedB, empty_size, bne]
  all_goals try omega
end Go.Proofs.YtgmjjhmnchefbaaGreatDoor

/- Contracts of what an action does, as far as a rule that raises texts and one that keeps ask. -/
namespace Go.Proofs.YtgmjjhmnchefbaaGreatDoor
open Go.RowKit

set_option maxHeartbeats 1000000 in
set_option maxRecDepth 100000 in
theorem setTo_any (p : Option Addr) (n c : Nat) (se : ByteArray) (pp : Option Addr) (ta rp : ByteArray) (mo : Int) (f : FuncId) (w : World) :
    Calls Tryz.prog 83 #[meansV (.slice p n c) se (.pointer pp) ta rp mo, .func (.func f) #[] #[]] w fun x w' => x = .returned (.func (.func 119) #[] #[.pointer (some ⟨w.heap.size, 0, none⟩), .pointer (some ⟨w.heap.size + 1, 0, none⟩)]) ∧
      w' = (w.alloc (.cells #[.slice p n c, .string se, .pointer pp, .string ta, .string rp, .int .u64 mo] 170)).alloc (.cells #[.func (.func f) #[] #[]] 188) := by
  have hmf : ∀ (fn : Fn) (first cap : Array Value) (w : World), (Instr.makeFunc fn first cap).run Tryz.prog w = .ok (.func fn first cap) w := fun _ _ _ _ => rfl
  unfold meansV
  go_enter Tryz.func83, Tryz.ntmps83
  go_wp2_with fail
  go_ret
  exact ⟨by simp, rfl⟩

set_option maxHeartbeats 1000000 in
set_option maxRecDepth 100000 in
theorem deed_upper (p : Option Addr) (n c : Nat) (se : ByteArray) (pp : Option Addr) (ta rp : ByteArray) (mo : Int) (w : World) :
    Calls Tryz.prog 62 #[meansV (.slice p n c) se (.pointer pp) ta rp mo, .int .i64 10] w fun x w' => ∃ b1 b2, x = .returned (.func (.func 119) #[] #[.pointer (some ⟨b1, 0, none⟩), .pointer (some ⟨b2, 0, none⟩)]) ∧
      BK w' b1 (.cells #[.slice p n c, .string se, .pointer pp, .string ta, .string rp, .int .u64 mo] 170 (0, 0)) ∧ BK w' b2 (.cells #[.func (.func 89) #[] #[]] 188 (0, 0)) ∧ w.heap.size ≤ b1 ∧ w.heap.size ≤ b2 ∧ Ex [] w w' := by
  have KS := hide (fun w => setTo_any p n c se pp ta rp mo 89 w)
  unfold meansV at *
  go_enter Tryz.func62, Tryz.ntmps62
  go_wp2_with fail
  refine (KS.out _).mono ?_
  rintro x w1 ⟨rfl, hw1⟩
  have hb1 : BK w1 (w.heap.size + 1) (.cells #[.slice p n c, .string se, .pointer pp, .string ta, .string rp, .int .u64 mo] 170 (0, 0)) := by
    rw [hw1]
    have h := (BK.new (w.alloc (Obj.cells #[.slice p n c, .string se, .pointer pp, .string ta, .string rp, .int .u64 mo] 170)) (Obj.cells #[.slice p n c, .string se, .pointer pp, .string ta, .string rp, .int .u64 mo] 170)).alloc (Obj.cells #[.func (.func 89) #[] #[]] 188)
    simpa using h
  have hb2 : BK w1 (w.heap.size + 1 + 1) (.cells #[.func (.func 89) #[] #[]] 188 (0, 0)) := by
    rw [hw1]
    have h := BK.new ((w.alloc (Obj.cells #[.slice p n c, .string se, .pointer pp, .string ta, .string rp, .int .u64 mo] 170)).alloc (Obj.cells #[.slice p n c, .string se, .pointer pp, .string ta, .string rp, .int .u64 mo] 170)) (Obj.cells #[.func (.func 89) #[] #[]] 188)
    simpa using h
  have hx1 : Ex [] w w1 := by rw [hw1]; exact (((Ex.refl _ _).alloc _).alloc _).alloc _
  have H1 := hide hb1
  have H2 := hide hb2
  have HX := hide hx1
  clear hw1 hb1 hb2 hx1
  go_wp2_with fail
  go_ret
  refine ⟨w.heap.size + 1, w.heap.size + 1 + 1, by simp, H1.out, H2.out, by omega, by omega, HX.out⟩

def usesL : List Use := [⟨true, true, true, true, false⟩, ⟨true, true, false, false, false⟩, ⟨true, true, false, false, false⟩, ⟨true, false, true, false, false⟩, ⟨true, false, true, false, false⟩, ⟨true, false, true, false, true⟩, ⟨false, true, false, true, false⟩, ⟨false, true, false, false, false⟩, ⟨false, true, false, false, false⟩, ⟨true, false, true, false, false⟩, ⟨true, false, true, false, false⟩]
def UB (w : World) : Prop := 1 < w.heap.size ∧ ∀ (n : Nat) (u : Use), usesL[n]? = some u → w.rangeAt 1 (n * 5) u.cells
theorem UB.ex {l : List Nat} {w w' : World} (h : UB w) (hx : Ex l w w') (hn : 1 ∉ l) : UB w' :=
  ⟨Nat.lt_of_lt_of_le h.1 hx.size, fun n u hu j v hv => (World.cell?_of_block (hx.block _ h.1 hn)).trans (h.2 n u hu j v hv)⟩

def makeR (n : Nat) (ss : List ByteArray) (se re ta rp : ByteArray) (mo : Int) (u : Use) (ok : Bool) (pl : Nat) : Nat × Nat :=
  if bigB ss se ta rp then (2, 0) else if !ss.all nameB then (3, 0) else if u.regex && !ok then (4, pl) else if u.target && !targetB (n : Int) ta then (5, 0)
  else if unusedB ss.length se re ta rp mo u then (6, 0) else if u.modulus && mo == 0 then (7, 0) else (0, 0)

def ReadsTo (w : World) (re : ByteArray) (ok : Bool) (pl : Nat) : Prop := ∀ w1, Ex [] w w1 → Calls Tryz.prog 10 #[.string re] w1 fun x w2 => (∃ pp, x = .returned (.tuple #[.pointer pp, .int .i64 (pl : Int), .bool ok])) ∧ Ex [] w1 w2

set_option maxHeartbeats 400000 in
theorem readUsed_no (re : ByteArray) (w : World) : Calls Tryz.prog 58 #[.string re, .bool false] w fun x w' => x = .returned (.tuple #[.pointer none, .int .i64 0, .bool true]) ∧ w' = w := by
  go_enter Tryz.func58, Tryz.ntmps58
  go_wp2_with fail
  go_ret3
  exact ⟨rfl, rfl⟩
set_option maxHeartbeats 400000 in
theorem readUsed_yes (re : ByteArray) (ok : Bool) (pl : Nat) (w0 w : World) (hx : Ex [] w0 w) (hr : ReadsTo w0 re ok pl) : Calls Tryz.prog 58 #[.string re, .bool true] w fun x w' => (∃ pp, x = .returned (.tuple #[.pointer pp, .int .i64 (pl : Int), .bool ok])) ∧ Ex [] w w' := by
  have HR := hide (hr w hx)
  clear hr hx
  go_enter Tryz.func58, Tryz.ntmps58
  go_wp2_with fail
  refine HR.out.mono ?_
  rintro x w1 ⟨⟨pp, rfl⟩, hx1⟩
  have HX := hide hx1
  clear hx1
  go_wp2_with fail
  go_ret3
  exact ⟨⟨pp, rfl⟩, HX.out⟩
end Go.Proofs.YtgmjjhmnchefbaaGreatDoor

/- Contracts of package rule: texts in the other case. -/
namespace Go.Proofs.YtgmjjhmnchefbaaGreatDoor
open Go.RowKit

end Go.Proofs.YtgmjjhmnchefbaaGreatDoor

/- Contracts: the value of a label; strings.Join of none and of one. -/
namespace Go.Proofs.YtgmjjhmnchefbaaGreatDoor
open Go.RowKit

def valN (ls : List Lab) (t : ByteArray) : ByteArray := if thereN ls t then match ls[posN ls t]? with | some l => l.2 | none => ⟨#[]⟩ else ⟨#[]⟩

end Go.Proofs.YtgmjjhmnchefbaaGreatDoor

/- Contracts: the text of one source; a rule that raises it. -/
namespace Go.Proofs.YtgmjjhmnchefbaaGreatDoor
open Go.RowKit

end Go.Proofs.YtgmjjhmnchefbaaGreatDoor

/- The text of a rule: the values of its sources, joined. -/
namespace Go.Proofs.YtgmjjhmnchefbaaGreatDoor.G
open Go.RowKit

def joinB (ss : List ByteArray) (se : ByteArray) : ByteArray := ⟨(Lib.join (ss.map (·.data.toList)) se.data.toList).toArray⟩
def textN (ls : List Lab) (ss : List ByteArray) (se : ByteArray) : ByteArray := joinB (ss.map (valN ls)) se
end Go.Proofs.YtgmjjhmnchefbaaGreatDoor.G

/- The library's table of powers. -/
namespace Go.Proofs.YtgmjjhmnchefbaaGreatDoor.G
open Go.RowKit

end Go.Proofs.YtgmjjhmnchefbaaGreatDoor.G

/- What a rule does: rules by what they do to labels, whatever their memory. -/
namespace Go.Proofs.YtgmjjhmnchefbaaGreatDoor.G
open Go.RowKit

def KB (lo hi : Nat) (w w1 : World) : Prop := w.heap.size ≤ w1.heap.size ∧ ∀ b, lo ≤ b → b < hi → w1.heap[b]? = w.heap[b]?
end Go.Proofs.YtgmjjhmnchefbaaGreatDoor.G
