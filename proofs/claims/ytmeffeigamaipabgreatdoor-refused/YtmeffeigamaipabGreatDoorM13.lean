/- F1 B4 C10, one behind the other. -/
import Derived.Test.YtmeffeigamaipabGreatDoorM02
import Derived.Test.YtmeffeigamaipabGreatDoorM06
import Derived.Lib.AppendZeros
import Derived.Test.YtmeffeigamaipabGreatDoorM03
import Derived.Lib.Overlaps
import Derived.Laws.Externs
set_option linter.unusedVariables false
set_option linter.unusedSimpArgs false
/- Contracts of package rule: what is asked of a rule's fields. -/
namespace Go.Proofs.YtmeffeigamaipabGreatDoor
open Go.RowKit

/-- A list of texts lies there. -/
def SS (w : World) (v : Value) (ss : List ByteArray) : Prop :=
  (v = .slice none 0 0 ∧ ss = []) ∨ ∃ b c, v = .slice (some ⟨b, 0, none⟩) ss.length c ∧ b < w.heap.size ∧ ∀ j s, ss[j]? = some s → w.cell? ⟨b, j, none⟩ = some (.string s)

theorem SS.ex {w w' : World} {v : Value} {ss : List ByteArray} {o : List Nat} (h : SS w v ss) (hx : Ex o w w') (hn : ∀ k, v.ownBlock = some k → k ∉ o) : SS w' v ss := by
  rcases h with h | ⟨b, c, rfl, hb, hc⟩
  · exact .inl h
  · refine .inr ⟨b, c, rfl, Nat.lt_of_lt_of_le hb hx.size, fun j l hj => ?_⟩
    rw [hx.cell.1 b _ hb (hn b rfl)]
    exact hc j l hj
theorem SS.ex0 {w w' : World} {v : Value} {ss : List ByteArray} (h : SS w v ss) (hx : Ex [] w w') : SS w' v ss := h.ex hx (by simp)
theorem SS.slice {w : World} {v : Value} {ss : List ByteArray} (h : SS w v ss) : ∃ p c, v = .slice p ss.length c := by
  rcases h with ⟨rfl, rfl⟩ | ⟨b, c, rfl, _⟩
  · exact ⟨_, _, rfl⟩
  · exact ⟨_, _, rfl⟩

def longB (s : ByteArray) : Bool := decide (60 < s.size)

theorem isLong_any (s : ByteArray) (w : World) :
    Calls Tryz.prog 68 #[.string s] w fun e w' => e = .returned (.bool (longB s)) ∧ w' = w := by
  unfold longB
  go_enter Tryz.func68, Tryz.ntmps68
  go_wp2_with fail
  go_ret
  exact ⟨by simp; omega, rfl⟩

def idxLong (ss : List ByteArray) : Int := match ss.findIdx? longB with | some i => (i : Int) | none => -1

set_option maxHeartbeats 1000000 in
set_option maxRecDepth 100000 in
theorem indexLong (v : Value) (ls : List ByteArray) (w : World) (hv : SS w v ls) (hn : ls.length ≤ 1000) :
    Calls Tryz.prog 99 #[v, .func (.func 68) #[] #[]] w fun e w' => e = .returned (.int .i64 (idxLong ls)) ∧ Ex [] w w' := by
  have HV := hide hv
  obtain ⟨p, c, rfl⟩ := hv.slice
  clear hv
  go_enter Tryz.func99, Tryz.ntmps99
  go_wp2_with fail
  go_loopg [8] ls.length (fun gk i wr => ∃ j : Nat, j + gk = ls.length ∧ i = .int .i64 j ∧ (∀ k l, k < j → ls[k]? = some l → longB l = false) ∧ Ex [] w wr)
  case atStart => exact ⟨0, by omega, rfl, fun k l h => by omega, Ex.refl _ _⟩
  case round =>
    obtain ⟨j, hj, rfl, hw, hx⟩ := hrel
    have HW := hide hw
    have HX := hide hx
    cases gk with
    | zero =>
      obtain rfl : j = ls.length := by omega
      clear hj hw hx
      go_wp2_with fail
      go_ret
      refine ⟨?_, HX.out⟩
      have hnone : ls.findIdx? longB = none := by
        rw [List.findIdx?_eq_none_iff]
        intro l hl
        obtain ⟨k, hk, rfl⟩ := List.getElem_of_mem hl
        exact HW.out k _ hk (List.getElem?_eq_getElem hk)
      simp [idxLong, hnone]
    | succ g =>
      have hjl : j < ls.length := by omega
      have hj' : (j : Int) < (ls.length : Int) := by omega
      obtain ⟨l, hl⟩ : ∃ l, ls[j]? = some l := ⟨_, List.getElem?_eq_getElem hjl⟩
      have HLJ := hide hl
      obtain ⟨b, rfl, hb, c0⟩ : ∃ b, p = some ⟨b, 0, none⟩ ∧ b < wr.heap.size ∧ wr.cell? ⟨b, j, none⟩ = some (.string l) := by
        rcases HV.out with ⟨h1, h2⟩ | ⟨b, c', h1, hb, hc⟩
        · rw [h2] at hjl; simp at hjl
        · cases h1
          exact ⟨b, rfl, Nat.lt_of_lt_of_le hb hx.size, by rw [hx.cell0.1 b _ hb]; exact hc j l hl⟩
      clear hw hx hl
      go_wp2_with fail
      refine (isLong_any l _).mono ?_
      rintro e w' ⟨rfl, hx1⟩
      subst hx1
      cases hW : longB l with
      | true =>
        have HB := hide hW
        clear hW
        go_wp2_with fail
        go_ret
        refine ⟨?_, HX.out⟩
        have hs : ls.findIdx? longB = some j := by
          rw [List.findIdx?_eq_some_iff_getElem]
          refine ⟨hjl, ?_, fun k hk => ?_⟩
          · have := HLJ.out; rw [List.getElem?_eq_getElem hjl] at this; rw [Option.some.inj this]; exact unhide HB
          · simpa using HW.out k _ hk (List.getElem?_eq_getElem (by omega))
        simp [idxLong, hs]
      | false =>
        have HB := hide hW
        clear hW
        go_wp2_with fail
        go_roundg g
        case measure => omega
        case rel =>
          refine ⟨j + 1, by omega, by simp, fun k l' hk hl' => ?_, HX.out⟩
          by_cases hkj : k = j
          · subst hkj; have := HLJ.out; rw [hl'] at this; cases this; exact unhide HB
          · exact HW.out k l' (by omega) hl'

theorem any_idxLong (ls : List ByteArray) : decide (0 ≤ idxLong ls) = ls.any longB := by
  unfold idxLong
  cases h : ls.findIdx? longB with
  | none =>
    rw [List.findIdx?_eq_none_iff] at h
    have : ls.any longB = false := by rw [List.any_eq_false]; intro x hx; simp [h x hx]
    rw [this]; rfl
  | some i =>
    obtain ⟨hi, h1, _⟩ := List.findIdx?_eq_some_iff_getElem.1 h
    have : ls.any longB = true := by rw [List.any_eq_true]; exact ⟨ls[i], List.getElem_mem hi, h1⟩
    rw [this]; simp

set_option maxHeartbeats 1000000 in
set_option maxRecDepth 100000 in
theorem containsLong (v : Value) (ls : List ByteArray) (w : World) (hv : SS w v ls) (hn : ls.length ≤ 1000) :
    Calls Tryz.prog 67 #[v, .func (.func 68) #[] #[]] w fun e w' => e = .returned (.bool (ls.any longB)) ∧ Ex [] w w' := by
  rw [← any_idxLong]
  have HV := hide hv
  clear hv
  go_enter Tryz.func67, Tryz.ntmps67
  go_wp2_with fail
  refine (indexLong _ _ _ HV.out hn).mono ?_
  rintro e w' ⟨rfl, hx1⟩
  have HX1 := hide hx1
  clear hx1
  go_wp2_with fail
  go_ret
  exact ⟨by simp, HX1.out⟩

set_option maxHeartbeats 1000000 in
set_option maxRecDepth 100000 in
theorem areNames_any (v : Value) (ls : List ByteArray) (w : World) (hv : SS w v ls) (hn : ls.length ≤ 1000) (hz : ∀ s ∈ ls, s.size ≤ maxLen) :
    Calls Tryz.prog 50 #[v] w fun e w' => e = .returned (.bool (ls.all nameB)) ∧ Ex [] w w' := by
  have HV := hide hv
  have HZ := hide hz
  obtain ⟨p, c, rfl⟩ := hv.slice
  clear hv hz
  go_enter Tryz.func50, Tryz.ntmps50
  go_wp2_with fail
  go_loopg [7] ls.length (fun gk i wr => ∃ j : Nat, j + gk = ls.length ∧ i = .int .i64 j ∧ (∀ k l, k < j → ls[k]? = some l → nameB l = true) ∧ Ex [] w wr)
  case atStart => exact ⟨0, by omega, rfl, fun k l h => by omega, Ex.refl _ _⟩
  case round =>
    obtain ⟨j, hj, rfl, hw, hx⟩ := hrel
    have HW := hide hw
    have HX := hide hx
    cases gk with
    | zero =>
      obtain rfl : j = ls.length := by omega
      clear hj hw hx
      go_wp2_with fail
      go_ret
      refine ⟨?_, HX.out⟩
      have hall : ls.all nameB = true := by
        rw [List.all_eq_true]
        intro l hl
        obtain ⟨k, hk, rfl⟩ := List.getElem_of_mem hl
        exact HW.out k _ hk (List.getElem?_eq_getElem hk)
      rw [hall]; rfl
    | succ g =>
      have hjl : j < ls.length := by omega
      have hj' : (j : Int) < (ls.length : Int) := by omega
      obtain ⟨l, hl⟩ : ∃ l, ls[j]? = some l := ⟨_, List.getElem?_eq_getElem hjl⟩
      have HLJ := hide hl
      have hlm := HZ.out l (List.mem_of_getElem? hl)
      obtain ⟨b, rfl, hb, c0⟩ : ∃ b, p = some ⟨b, 0, none⟩ ∧ b < wr.heap.size ∧ wr.cell? ⟨b, j, none⟩ = some (.string l) := by
        rcases HV.out with ⟨h1, h2⟩ | ⟨b, c', h1, hb, hc⟩
        · rw [h2] at hjl; simp at hjl
        · cases h1
          exact ⟨b, rfl, Nat.lt_of_lt_of_le hb hx.size, by rw [hx.cell0.1 b _ hb]; exact hc j l hl⟩
      clear hw hx hl
      go_wp2_with fail
      refine (isName_any l _ hlm).mono ?_
      rintro e w' ⟨rfl, hx1⟩
      subst hx1
      cases hW : nameB l with
      | false =>
        have HB := hide hW
        clear hW
        go_wp2_with fail
        go_ret
        refine ⟨?_, HX.out⟩
        have hs : ls.all nameB = false := by
          rw [List.all_eq_false]
          exact ⟨l, List.mem_of_getElem? HLJ.out, by simp [unhide HB]⟩
        rw [hs]; rfl
      | true =>
        have HB := hide hW
        clear hW
        go_wp2_with fail
        go_roundg g
        case measure => omega
        case rel =>
          refine ⟨j + 1, by omega, by simp, fun k l' hk hl' => ?_, HX.out⟩
          by_cases hkj : k = j
          · subst hkj; have := HLJ.out; rw [hl'] at this; cases this; exact unhide HB
          · exact HW.out k l' (by omega) hl'
end Go.Proofs.YtmeffeigamaipabGreatDoor

/- Laws of no program: an append of zero values that grows a row; a copy to the middle of a block. -/
namespace Go.Proofs.YtmeffeigamaipabGreatDoor
open Go.RowKit

theorem nextcap_small {need cap : Nat} (hc : cap ≤ 200) (hn : need ≤ 400) : Builtin.nextslicecap need cap ≤ 400 := by
  unfold Builtin.nextslicecap
  split
  · omega
  · split <;> omega

theorem run_append_zeros_grow {P : Program} (w : World) (t tn ty e : TypeId) (i : TypeInfo) (z : Value) (k kn : IntKind) (ht : P.underlying t = some (.slice e)) (htn : P.underlying tn = some (.int kn)) (hi : P.info? e = some i) (hz : i.zero = some z)
    (base g n cap m : Nat) (xs : List Value) (hown : w.ownsRow base e i.size (.slice (some ⟨g, 0, none⟩) n cap) n xs) (hm : 0 < m) (hs : 0 < i.size) (hneed : cap < n + m) (hc : cap ≤ 200) (hn4 : n + m ≤ 400) (hb : i.bytes ≤ 1000) :
    (Builtin.append_ #[t, tn] ty #[.slice (some ⟨g, 0, none⟩) n cap, .int k m]).run P w =
      .ok (.slice (some ⟨w.heap.size, 0, none⟩) (n + m) (grownCap w (n + m) cap e)) (w.drew.alloc (.cells (xs.toArray ++ Builtin.zeroCells z.cells m ++ Builtin.zeroCells z.cells (grownCap w (n + m) cap e - (n + m))) e)) := by
  have hw : IntKind.i64.wrap (m : Int) = m := by rw [IntKind.wrap_i64]; omega
  have h63' : ¬ (9223372036854775807 < (n : Int) + (m : Int)) := by omega
  have hnx := nextcap_small hc hn4
  have h48' : ¬ (281474976710656 < Builtin.nextslicecap (n + m) cap * i.bytes) := by
    have := Nat.mul_le_mul hnx hb
    omega
  have h48i : ¬ (281474976710656 < (m : Int) * (i.bytes : Int)) := by
    rw [← Int.natCast_mul]
    have := Nat.mul_le_mul (show m ≤ 400 by omega) hb
    omega
  have hneg : ¬ ((m : Int) < 0) := by omega
  have hm0 : m ≠ 0 := by omega
  have hms : ¬ (m * i.size = 0) := Nat.mul_ne_zero hm0 (by omega)
  have hnc : ¬ (n + m ≤ cap) := by omega
  have hl : (loadCells ⟨g, 0, none⟩ (n * i.size)).run P w.drew = .ok xs.toArray w.drew := by
    rw [← hown.1]
    exact run_loadCells_list (P := P) w.drew ⟨g, 0, none⟩ xs (fun j u hj => by rw [Addr.add_lit, Nat.zero_add]; exact own_cell hown.drew hj)
  simp [Builtin.append_, run_underlying ht, run_underlying htn, sizeOf, typeInfo, zeroValue, hi, hz, asInt, asIntOf, hw, hm0, hneg, hms, h63', h48', h48i, hnc, Builtin.firstCells, hl, Question.forced, newRow, grownCap]

/-- 'copy' to some place of a block. -/
theorem run_copy_at {P : Program} (w : World) (dT sT ty elem : TypeId) (i : TypeInfo) (sz : Nat) (d o dLen dCap : Nat) (a : Addr) (sLen sCap n : Nat) (cur : Array Value) (t : TypeId) (cs : List Value)
    (hu : P.underlying dT = some (.slice elem)) (hi : P.info? elem = some i) (hsz : i.size = sz) (hd : w.heap[d]? = some (.cells cur t (0, 0))) (hn : Nat.min sLen dLen = n) (hc : cs.length = n * sz)
    (hsrc : ∀ j v, cs[j]? = some v → w.cell? (a.add j) = some v) (hfit : o + cs.length ≤ cur.size) (h1 : ∀ v ∈ cs, v.oneCell' = true) :
    (Builtin.copy_ #[dT, sT] ty #[.slice (some ⟨d, o, none⟩) dLen dCap, .slice (some a) sLen sCap]).run P w = .ok (goInt n) (w.setRow d (cur.toList.take o ++ cs ++ cur.toList.drop (o + cs.length)).toArray) := by
  subst hsz
  have hl : (loadCells a cs.length).run P w = .ok cs.toArray w := run_loadCells_list (P := P) w a cs hsrc
  have hst := run_storeCells_at P d o t cs 0 cur w hd (by simpa using hfit) h1
  simp only [Nat.add_zero] at hst
  rw [hc] at hl
  simp [Builtin.copy_, run_underlying hu, Builtin.lenOf, Builtin.firstCells, sizeOf, typeInfo, hi, hn, hl, hst]

/-- 'copy' whose run is known by an equation. -/
theorem wpList_copy_run {P : Program} (w : World) {ops : Array Oper} {rest : List Oper} {o : Oper} {a : Act} {Q : Exit → Act → World → Prop} (hgd : o.guard = none) (s x : Operand) (t t' : TypeId)
    (ho : o.op = .call { callee := .builtin .copy, args := #[s, x], argTypes := #[t, t'] }) (v u : Value) (hs : a.eval s = v) (hx : a.eval x = u) {v' : Value} {w' : World}
    (hr : (Builtin.copy_ #[t, t'] o.type #[v, u]).run P w = .ok v' w') (h : wpList P ops Q rest (a.put o.dst v') w') : wpList P ops Q (o :: rest) a w := by
  refine wpList_plain hgd fun K hK => ?_
  unfold Oper.wp
  simp [execOp, ho, resolve, invoke, builtin, hs, hx, hr, Result.andThen]
  exact hK _ _ h

/-- Two copies that make room in a row and fill it. -/
theorem fit_row {xs new cur : List Value} {a l m : Nat} (hx : cur.take l = xs) (hl : xs.length = l) (ha : a ≤ l) (hn : new.length = m) (hc : l + m ≤ cur.length) :
    ((cur.take (a + m) ++ xs.drop a ++ cur.drop (a + m + (l - a))).take a ++ new ++ (cur.take (a + m) ++ xs.drop a ++ cur.drop (a + m + (l - a))).drop (a + m)).take (l + m) = xs.take a ++ new ++ xs.drop a := by
  have h1 : (cur.take (a + m) ++ xs.drop a ++ cur.drop (a + m + (l - a))).take a = xs.take a := by
    rw [List.append_assoc, List.take_append_of_le_length (by simp; omega), List.take_take, Nat.min_eq_left (by omega), ← hx, List.take_take, Nat.min_eq_left ha]
  have h2 : (cur.take (a + m) ++ xs.drop a ++ cur.drop (a + m + (l - a))).drop (a + m) = xs.drop a ++ cur.drop (a + m + (l - a)) := by
    rw [List.append_assoc, List.drop_append_of_le_length (by simp; omega), List.drop_of_length_le (by simp; omega), List.nil_append]
  rw [h1, h2, ← List.append_assoc, List.take_append_of_le_length (by simp; omega), List.take_of_length_le (by simp; omega)]
end Go.Proofs.YtmeffeigamaipabGreatDoor

/- Contract of slices.Insert amid labels, where there is room. -/
namespace Go.Proofs.YtmeffeigamaipabGreatDoor
open Go.RowKit

theorem sizeLab (w : World) : (Go.sizeOf 48).run Tryz.prog w = .ok 2 w := by kernel_rfl

set_option maxHeartbeats 2000000 in
set_option maxRecDepth 100000 in
theorem insert_room (base g n cap i vb : Nat) (xs : List Value) (l : Lab) (w : World) (hown : w.ownsRow base 48 2 (.slice (some ⟨g, 0, none⟩) n cap) n xs) (hi : i < n) (hr : n + 1 ≤ cap) (hn : n ≤ 200) (hp : Plain xs)
    (hv : BK w vb (.cells #[.string l.1, .string l.2] 48 (0, 0))) (hne : vb ≠ g) :
    Calls Tryz.prog 63 #[.slice (some ⟨g, 0, none⟩) n cap, .int .i64 i, .slice (some ⟨vb, 0, none⟩) 1 1] w fun e w' => e = .returned (.slice (some ⟨g, 0, none⟩) (n + 1) cap) ∧
      w'.ownsRow base 48 2 (.slice (some ⟨g, 0, none⟩) (n + 1) cap) (n + 1) (xs.take (i * 2) ++ [.string l.1, .string l.2] ++ xs.drop (i * 2)) ∧ Ex [g] w w' := by
  obtain ⟨t0, hti, hzz0, hzz1, hzz2⟩ := info_parts infoLab
  have hlen := hown.1
  obtain ⟨cur, hbg, hg, hcm, hcs, htake⟩ : ∃ cur, base ≤ g ∧ BK w g (.cells cur 48 (0, 0)) ∧ cap ≤ maxLen ∧ cur.size = cap * 2 ∧ cur.toList.take (n * 2) = xs := by
    rcases hown.2 with ⟨h, _⟩ | ⟨g', cap', cur, h, hbg, hg, hnc, hcm, hcs, htake⟩
    · cases h
    · cases h; exact ⟨cur, hbg, hg, hcm, hcs, htake⟩
  have hcm' : cap ≤ 9223372036854775807 := hcm
  have hov : ∀ lb cb, (callFunc 97 #[.slice (some ⟨vb, 0, none⟩) 1 1, .slice (some ⟨g, (i + 1) * 2, none⟩) lb cb]).run Tryz.prog w = .ok (.value (.bool false)) w := fun lb cb => by
    rw [run_callFunc_extern Tryz.func97 (by kernel_rfl) (by kernel_rfl) (by kernel_rfl) (e := Extern.SlicesOverlaps.overlaps #[23, 23] #[4]) (by kernel_rfl),
      Lib.run_overlaps_apart w 23 4 48 Tryz.underlying23 2 sizeLab ⟨vb, 0, none⟩ ⟨g, (i + 1) * 2, none⟩ 1 1 lb cb hne 48 48 2 (cap * 2) (by unfold World.shape?; rw [show w.heap[vb]? = _ from hv]; rfl) (by unfold World.shape?; rw [show w.heap[g]? = _ from hg]; simp [hcs]) (by omega) (hv.all.2 0) (hv.all.2 2)]
    rfl
  have hcp1 := run_copy_at (P := Tryz.prog) w.drew 23 23 3 48 t0 2 g ((i + 1) * 2) (n + 1 - (i + 1)) (cap - (i + 1)) ⟨g, i * 2, none⟩ (n + 1 - i) (cap - i) (n - i) cur 48 (xs.drop (i * 2))
    Tryz.underlying23 hti hzz1 hg.drew (by simp only [Nat.min_def]; split <;> omega) (by rw [List.length_drop, hlen]; omega)
    (fun j u hj => by rw [Addr.add_lit]; exact own_cell hown.drew (by rwa [List.getElem?_drop] at hj)) (by rw [List.length_drop, hlen, hcs]; omega) (fun u hu => hp u (List.mem_of_mem_drop hu))
  obtain ⟨w1, hw1⟩ : ∃ w1, w1 = w.drew.setRow g (cur.toList.take ((i + 1) * 2) ++ xs.drop (i * 2) ++ cur.toList.drop ((i + 1) * 2 + (xs.drop (i * 2)).length)).toArray := ⟨_, rfl⟩
  rw [← hw1] at hcp1
  rw [show n + 1 - (i + 1) = n - i by omega] at hcp1
  have hg1 : BK w1 g (.cells (cur.toList.take ((i + 1) * 2) ++ xs.drop (i * 2) ++ cur.toList.drop ((i + 1) * 2 + (xs.drop (i * 2)).length)).toArray 48 (0, 0)) := by rw [hw1]; exact setRow_heap _ _ _ _ _ _ hg.drew
  have hv1 : BK w1 vb (.cells #[.string l.1, .string l.2] 48 (0, 0)) := by rw [hw1]; unfold BK; rw [setRow_other _ _ _ _ hne]; exact hv.drew
  have hcp2 := run_copy_at (P := Tryz.prog) w1 23 23 3 48 t0 2 g (i * 2) (n + 1 - i) (cap - i) ⟨vb, 0, none⟩ 1 1 1 _ 48 [.string l.1, .string l.2]
    Tryz.underlying23 hti hzz1 hg1 (by simp only [Nat.min_def]; split <;> omega) rfl
    (fun j u hj => by rw [Addr.add_lit, Nat.zero_add, hv1.all.1]; simpa using hj) (by simp [hlen, hcs]; omega) (by simp [Value.oneCell'])
  have HX1 : Hid (Ex [g] w w1) := hide (by rw [hw1]; exact ((Ex.refl _ _).drew).setRow (.inl (by simp)) _)
  have HO := hide hown
  have HG1 := hide hg1
  have HT := hide htake
  have HCS := hide hcs
  have HL := hide hlen
  have hbg' := hbg
  have h1 : (i : Int) < (n : Int) := by omega
  have h2 : ¬ ((i : Int) = (n : Int)) := by omega
  have h3 : ¬ ((cap : Int) < (n : Int) + 1) := by omega
  have h4 : (n : Int) + 1 ≤ (cap : Int) := by omega
  have h5 : (i : Int) + 1 ≤ (n : Int) + 1 := by omega
  have h6 : ((i : Int) + 1).toNat = i + 1 := by omega
  have h7 : ((n : Int) + 1).toNat = n + 1 := by omega
  have h8 : ¬ cap = i + 1 := by omega
  have h9 : ¬ cap = i := by omega
  have h10 : i + 1 ≤ n + 1 := by omega
  have h11 : (0 : Int) ≤ (i : Int) + 1 := by omega
  have h12 : (0 : Int) ≤ (n : Int) + 1 := by omega
  have h13 : (i : Int) ≤ (n : Int) + 1 := by omega
  have h14 : i ≤ n + 1 := by omega
  have h15 : IntKind.i64.wrap ((i : Int) + 1) = (i : Int) + 1 := by rw [IntKind.wrap_i64]; omega
  have h16 : (i : Int) ≤ (n : Int) := by omega
  have h17 : i ≤ n := by omega
  clear hown hv hg hg1 hv1 hw1 htake hcs hlen hcm hp
  go_enter Tryz.func63, Tryz.ntmps63
  go_wp2_with (simp only [hov])
  go_region_law (refine step_copy_run rfl _ _ 23 23 rfl (.slice (some ⟨g, (i + 1) * 2, none⟩) (n - i) (cap - (i + 1))) (.slice (some ⟨g, i * 2, none⟩) (n + 1 - i) (cap - i)) (by simp [Act.eval, Act.put]) (by simp [Act.eval, Act.put]) hcp1 ?_)
  obtain ⟨w2, hw2⟩ : ∃ w2, w2 = w1.setRow g ((cur.toList.take ((i + 1) * 2) ++ xs.drop (i * 2) ++ cur.toList.drop ((i + 1) * 2 + (xs.drop (i * 2)).length)).take (i * 2) ++ [Value.string l.1, Value.string l.2] ++ (cur.toList.take ((i + 1) * 2) ++ xs.drop (i * 2) ++ cur.toList.drop ((i + 1) * 2 + (xs.drop (i * 2)).length)).drop (i * 2 + [Value.string l.1, .string l.2].length)).toArray := ⟨_, rfl⟩
  have hcp2' := hcp2
  rw [← hw2] at hcp2'
  have HW2 := hide hw2
  clear hcp1 hcp2 hw2
  go_wp2_with (at_builtin; refine wpList_copy_run _ rfl _ _ 23 23 rfl _ _ rfl rfl hcp2' ?_)
  go_ret
  have hfr := fit_row (xs := xs) (new := [Value.string l.1, .string l.2]) (cur := cur.toList) (a := i * 2) (l := n * 2) (m := 2) HT.out HL.out (by omega) rfl (by rw [Array.length_toList, HCS.out]; omega)
  have hdl : (xs.drop (i * 2)).length = n * 2 - i * 2 := by rw [List.length_drop, HL.out]
  refine ⟨rfl, ⟨?_, .inr ⟨g, cap, _, rfl, hbg', by rw [unhide HW2]; exact setRow_heap _ _ _ _ _ _ HG1.out, hr, hcm', ?_, ?_⟩⟩, ?_⟩
  · have := HL.out
    simp; omega
  · have := HL.out
    have := HCS.out
    simp; omega
  · rw [List.toList_toArray, hdl, show (i + 1) * 2 = i * 2 + 2 by omega, show (n + 1) * 2 = n * 2 + 2 by omega]
    exact hfr
  · rw [unhide HW2]
    exact HX1.out.setRow (.inl (by simp)) _
end Go.Proofs.YtmeffeigamaipabGreatDoor
