/- T5 T6 T7, one behind the other. -/
import Derived.Test.YtmeffeigamaipabGreatDoorM34
import Derived.Test.YtmeffeigamaipabGreatDoorM35
import Derived.Test.YtmeffeigamaipabGreatDoorM37
set_option linter.unusedVariables false
set_option linter.unusedSimpArgs false
/- Labels taken away: slices.IndexFunc and DeleteFunc, whatever is chosen. -/
namespace Go.Proofs.YtmeffeigamaipabGreatDoor.G
open Go.RowKit

/-- Some of the last elements of an owned row are cleared; what is left is owned. -/
theorem run_clear_rest {P : Program} (w : World) (t e ty : TypeId) (z : Value) (ht : P.underlying t = some (.slice e)) (hv : ∀ w, (zeroValue e).run P w = .ok z w)
    (base sz g n m cap k c : Nat) (xs : List Value) (hzl : (Builtin.zeroCells z.cells (k + 1)).toList.length = (k + 1) * sz) (h1 : ∀ v ∈ (Builtin.zeroCells z.cells (k + 1)).toList, v.oneCell' = true) (hm : m + (k + 1) ≤ cap) (hnm : n ≤ m) (hown : w.ownsRow base e sz (.slice (some ⟨g, 0, none⟩) n cap) n xs) :
    ∃ w', (Builtin.clear_ #[t] ty #[.slice (some ⟨g, m * sz, none⟩) (k + 1) c]).run P w = .ok (.tuple #[]) w' ∧ w'.ownsRow base e sz (.slice (some ⟨g, 0, none⟩) n cap) n xs ∧ Ex [g] w w' := by
  rcases hown.2 with ⟨h, _⟩ | ⟨g', cap', cur, h, hbg, hg, hnc, hcm, hcs, htake⟩
  · cases h
  · cases h
    obtain ⟨zs, hzs⟩ : ∃ zs, zs = (Builtin.zeroCells z.cells (k + 1)).toList := ⟨_, rfl⟩
    rw [← hzs] at hzl h1
    have hle : m * sz + zs.length ≤ cur.size := by rw [hcs, hzl, ← Nat.add_mul]; exact Nat.mul_le_mul_right _ hm
    have hnl : n * sz ≤ m * sz := Nat.mul_le_mul_right _ hnm
    have hst := run_storeCells_at P g (m * sz) e zs 0 cur w hg (by simpa using hle) h1
    simp only [Nat.add_zero] at hst
    refine ⟨w.setRow g (cur.toList.take (m * sz) ++ zs ++ cur.toList.drop (m * sz + zs.length)).toArray, by simp [Builtin.clear_, run_underlying ht, hv, ← hzs, hst], ⟨hown.1, .inr ⟨g, cap, _, rfl, hbg, setRow_heap w g cur _ e (0, 0) hg, hnc, hcm, ?_, ?_⟩⟩, (Ex.refl _ _).setRow (.inl (by simp)) _⟩
    · simp only [List.size_toArray, List.length_append, List.length_take, List.length_drop, Array.length_toList]
      omega
    · rw [← htake, List.toList_toArray, List.append_assoc, List.take_append_of_le_length (by simp; omega), List.take_take, Nat.min_eq_left hnl]

/-- A cell of an owned row is written. -/
theorem own_put {w : World} {base e sz g n cap : Nat} {xs : List Value} (h : w.ownsRow base e sz (.slice (some ⟨g, 0, none⟩) n cap) n xs) (j : Nat) (u : Value) :
    (w.setCell ⟨g, j, none⟩ u).ownsRow base e sz (.slice (some ⟨g, 0, none⟩) n cap) n (xs.set j u) := by
  rcases h.2 with ⟨h', _⟩ | ⟨g', cap', cur, h', hbg, hg, hnc, hcm, hcs, htake⟩
  · cases h'
  · cases h'
    refine ⟨by rw [List.length_set]; exact h.1, .inr ⟨g, cap, cur.setIfInBounds j u, rfl, hbg, BK.self hg j u, hnc, hcm, by simpa using hcs, ?_⟩⟩
    rw [← htake, Array.toList_setIfInBounds, List.take_set]
theorem own_froz {w : World} {base e sz g n cap : Nat} {xs : List Value} (h : w.ownsRow base e sz (.slice (some ⟨g, 0, none⟩) n cap) n xs) (j : Nat) : w.frozen? ⟨g, j, none⟩ = false := by
  rcases h.2 with ⟨h', _⟩ | ⟨g', cap', cur, h', hbg, hg, hnc, hcm, hcs, htake⟩
  · cases h'
  · cases h'
    simp [World.frozen?, hg]
theorem own_caps {w : World} {base e sz g n cap : Nat} {xs : List Value} (h : w.ownsRow base e sz (.slice (some ⟨g, 0, none⟩) n cap) n xs) : n ≤ cap ∧ cap ≤ maxLen := by
  rcases h.2 with ⟨h', _⟩ | ⟨g', cap', cur, h', hbg, hg, hnc, hcm, _⟩
  · cases h'
  · cases h'; exact ⟨hnc, hcm⟩

def labV (l : Lab) : Value := .agg #[.string l.1, .string l.2]
/-- Which labels are chosen, by a function value. -/
def Picks (os : List Nat) (w : World) (b : Nat) (ls : List Lab) (p : Lab → Bool) : Prop := ∀ w', Ex os w w' → ∀ l ∈ ls, Calls Tryz.prog 130 #[labV l, .pointer (some ⟨b, 0, none⟩)] w' fun e w'' => e = .returned (.bool (p l)) ∧ Ex [] w' w''
def idxP (ls : List Lab) (p : Lab → Bool) : Int := match ls.findIdx? p with | some i => (i : Int) | none => -1

set_option maxHeartbeats 1000000 in
set_option maxRecDepth 100000 in
theorem indexPick (os : List Nat) (b : Nat) (v : Value) (ls : List Lab) (p : Lab → Bool) (w : World) (hv : SL w v ls) (hn : ls.length ≤ 1000) (hl : Picks os w b ls p) :
    Calls Tryz.prog 59 #[v, .func (.func 130) #[] #[.pointer (some ⟨b, 0, none⟩)]] w fun e w' => e = .returned (.int .i64 (idxP ls p)) ∧ Ex [] w w' := by
  have HV := hide hv
  have HL := hide hl
  obtain ⟨pa, c, rfl⟩ := hv.slice
  clear hv hl
  go_enter Tryz.func59, Tryz.ntmps59
  go_wp2_with fail
  go_loopg [8] ls.length (fun gk i wr => ∃ j : Nat, j + gk = ls.length ∧ i = .int .i64 j ∧ (∀ k l, k < j → ls[k]? = some l → p l = false) ∧ Ex [] w wr)
  case atStart => exact ⟨0, by omega, rfl, fun k l h => by omega, Ex.refl _ _⟩
  case round =>
    obtain ⟨j, hj, rfl, hw, hx⟩ := hrel
    have HW := hide hw
    have HX := hide hx
    cases gk with
    | zero =>
      obtain rfl : j = ls.length := by omega
      clear hj hw hx
      go_wp2_with fail
      go_ret
      refine ⟨?_, HX.out⟩
      have hnone : ls.findIdx? p = none := by
        rw [List.findIdx?_eq_none_iff]
        intro l hl
        obtain ⟨k, hk, rfl⟩ := List.getElem_of_mem hl
        exact HW.out k _ hk (List.getElem?_eq_getElem hk)
      simp [idxP, hnone]
    | succ g =>
      have hjl : j < ls.length := by omega
      have hj' : (j : Int) < (ls.length : Int) := by omega
      obtain ⟨l, hl⟩ : ∃ l, ls[j]? = some l := ⟨_, List.getElem?_eq_getElem hjl⟩
      have HLM := hide (List.mem_of_getElem? hl)
      have HLJ := hide hl
      obtain ⟨bb, c', rfl, hb, c0, c1⟩ : ∃ b c', pa = some ⟨b, 0, none⟩ ∧ b < wr.heap.size ∧ wr.cell? ⟨b, j * 2, none⟩ = some (.string l.1) ∧ wr.cell? ⟨b, j * 2 + 1, none⟩ = some (.string l.2) := by
        rcases HV.out with ⟨h1, h2⟩ | ⟨b, c', h1, hb, hc⟩
        · rw [h2] at hjl; simp at hjl
        · cases h1
          obtain ⟨h3, h4⟩ := hc j l hl
          exact ⟨b, 0, rfl, Nat.lt_of_lt_of_le hb hx.size, by rw [hx.cell0.1 b _ hb]; exact h3, by rw [hx.cell0.1 b _ hb]; exact h4⟩
      have KL := hide (HL.out wr (hx.drop (by simp)) l HLM.out)
      unfold labV at KL
      clear hw hx hl
      go_wp2_with fail
      refine KL.out.mono ?_
      rintro e w' ⟨rfl, hx1⟩
      have HX1 := hide hx1
      clear hx1
      cases hW : p l with
      | true =>
        have HB := hide hW
        clear hW
        go_wp2_with fail
        go_ret
        refine ⟨?_, HX.out.trans HX1.out⟩
        have hs : ls.findIdx? p = some j := by
          rw [List.findIdx?_eq_some_iff_getElem]
          refine ⟨hjl, ?_, fun k hk => ?_⟩
          · have := HLJ.out; rw [List.getElem?_eq_getElem hjl] at this; rw [Option.some.inj this]; exact unhide HB
          · simpa using HW.out k _ hk (List.getElem?_eq_getElem (by omega))
        simp [idxP, hs]
      | false =>
        have HB := hide hW
        clear hW
        go_wp2_with fail
        go_roundg g
        case measure => omega
        case rel =>
          refine ⟨j + 1, by omega, by simp, fun k l' hk hl' => ?_, HX.out.trans HX1.out⟩
          by_cases hkj : k = j
          · subst hkj; have := HLJ.out; rw [hl'] at this; cases this; exact unhide HB
          · exact HW.out k l' (by omega) hl'

/-- What is left of a row, as far as it was looked through. -/
theorem left_all {ls : List Lab} {p : Lab → Bool} (h : ls.findIdx? p = none) : ls.filter (fun l => !p l) = ls := by
  rw [List.findIdx?_eq_none_iff] at h
  rw [List.filter_eq_self]
  intro l hl
  simp [h l hl]
theorem left_first {ls : List Lab} {p : Lab → Bool} {i : Nat} (h : ls.findIdx? p = some i) : i < ls.length ∧ (ls.take (i + 1)).filter (fun l => !p l) = ls.take i := by
  rw [List.findIdx?_eq_some_iff_getElem] at h
  obtain ⟨hi, hp, hall⟩ := h
  refine ⟨hi, ?_⟩
  rw [List.take_succ_eq_append_getElem hi, List.filter_append, List.filter_eq_self.2 (fun l hl => by
    obtain ⟨k, hk, rfl⟩ := List.getElem_of_mem hl
    have hk' : k < i := by simp at hk; omega
    rw [List.getElem_take]
    have := hall k hk'
    simpa using this)]
  simp [hp]
theorem zeroLabs (k : Nat) : (Builtin.zeroCells (Value.agg #[.string ⟨#[]⟩, .string ⟨#[]⟩]).cells k).toList.length = k * 2 ∧ ∀ v ∈ (Builtin.zeroCells (Value.agg #[.string ⟨#[]⟩, .string ⟨#[]⟩]).cells k).toList, v.oneCell' = true := by
  refine ⟨by simp [Builtin.zeroCells, Value.cells], fun v hv => ?_⟩
  simp only [Builtin.zeroCells, Value.cells, Array.toList_map, List.mem_map, Array.toList_range] at hv
  obtain ⟨i, _, rfl⟩ := hv
  have : i % 2 = 0 ∨ i % 2 = 1 := by omega
  rcases this with h | h <;> simp [h, Value.oneCell']
end Go.Proofs.YtmeffeigamaipabGreatDoor.G

/- slices.DeleteFunc at labels, whatever is chosen. -/
namespace Go.Proofs.YtmeffeigamaipabGreatDoor.G
open Go.RowKit

theorem put_two (xs : List Value) (k : Nat) (a b : Value) (h : k + 1 < xs.length) : ((xs.set k a).set (k + 1) b).take (k + 2) = xs.take k ++ [a, b] := by
  apply List.ext_getElem?
  intro i
  rw [List.getElem?_take]
  have hl : (xs.take k).length = k := by simp; omega
  rcases Nat.lt_or_ge i k with hi | hi
  · rw [if_pos (by omega), List.getElem?_append_left (by omega), List.getElem?_take, if_pos hi, List.getElem?_set_ne (by omega), List.getElem?_set_ne (by omega)]
  · rw [List.getElem?_append_right (by omega), hl]
    by_cases e : i = k
    · subst e
      rw [if_pos (by omega), List.getElem?_set_ne (by omega), List.getElem?_set_self (by omega)]
      simp
    · by_cases e1 : i = k + 1
      · subst e1
        rw [if_pos (by omega), List.getElem?_set_self (by simp; omega), show k + 1 - k = 1 by omega]
        rfl
      · rw [if_neg (by omega), List.getElem?_eq_none (by simp; omega)]
theorem drop_two (xs : List Value) (k m : Nat) (a b : Value) (h : k + 1 < m) : ((xs.set k a).set (k + 1) b).drop m = xs.drop m := by
  apply List.ext_getElem?
  intro i
  rw [List.getElem?_drop, List.getElem?_drop, List.getElem?_set_ne (by omega), List.getElem?_set_ne (by omega)]
theorem cells_two (ls : List Lab) (l : Lab) : cellsOfL (ls ++ [l]) = cellsOfL ls ++ [.string l.1, .string l.2] := (cells_snoc ls l).symm

set_option maxHeartbeats 4000000 in
set_option maxRecDepth 100000 in
theorem deletePick (b base : Nat) (v : Value) (ls : List Lab) (p : Lab → Bool) (w : World) (hown : w.ownsRow base 48 2 v ls.length (cellsOfL ls)) (hn : ls.length ≤ 1000) (hbw : base ≤ w.heap.size) (hl : Picks v.ownBlock.toList w b ls p) :
    Calls Tryz.prog 129 #[v, .func (.func 130) #[] #[.pointer (some ⟨b, 0, none⟩)]] w fun e w' => ∃ v', e = .returned v' ∧ v'.ownBlock = v.ownBlock ∧
      w'.ownsRow base 48 2 v' (ls.filter fun l => !p l).length (cellsOfL (ls.filter fun l => !p l)) ∧ Ex v.ownBlock.toList w w' := by
  have KI := hide (indexPick _ b v ls p w (sl_own hown rfl) hn hl)
  have HL := hide hl
  have HO := hide hown
  unfold idxP at KI
  cases hfi : ls.findIdx? p with
  | none =>
    rw [hfi] at KI
    dsimp only at KI
    have hall := left_all hfi
    obtain ⟨pa, c, rfl⟩ := own_slice hown
    rw [hall]
    clear hl hown hfi hall
    go_enter Tryz.func129, Tryz.ntmps129
    go_wp2_with fail
    refine KI.out.mono ?_
    rintro e w1 ⟨rfl, hx1⟩
    have HX1 := hide hx1
    clear hx1
    go_wp2_with fail
    go_ret
    exact ⟨_, rfl, rfl, own_ex HO.out HX1.out (by simp), HX1.out.drop (by simp)⟩
  | some i0 =>
    rw [hfi] at KI
    dsimp only at KI
    obtain ⟨hi0, hfirst⟩ := left_first hfi
    obtain ⟨g, cap, rfl, hgb, hgl, hgc, hcell, hfz⟩ := own_cells hown (by omega)
    have hcaps := own_caps hown
    have hcm : cap ≤ 9223372036854775807 := hcaps.2
    obtain ⟨n, hnn⟩ : ∃ n, n = ls.length := ⟨_, rfl⟩
    have HNN := hide hnn
    have HF := hide hfirst
    have hlenxs := hown.1
    have HLX := hide hlenxs
    rw [← hnn] at KI hn hi0 hgc ⊢
    have hi0' : ((i0 : Int) == -1) = false := by rw [beq_eq_false_iff_ne]; omega
    clear hl hown hfi hfirst hcell hfz hcaps hnn hlenxs
    go_enter Tryz.func129, Tryz.ntmps129
    go_wp2_with fail
    refine KI.out.mono ?_
    rintro e w1 ⟨rfl, hx1⟩
    have HX1 := hide hx1
    have hz1 := hx1.size
    clear hx1
    go_wp2_with fail
    go_loopg [5, 6] (n - (i0 + 1)) (fun gk s5 s6 wr => ∃ (i j : Nat) (xs : List Value), j + gk = n ∧ s5 = .int .i64 i ∧ s6 = .int .i64 j ∧ i < j ∧ xs.take (i * 2) = cellsOfL ((ls.take j).filter fun l => !p l) ∧ i = ((ls.take j).filter fun l => !p l).length ∧ xs.drop (j * 2) = cellsOfL (ls.drop j) ∧
      wr.ownsRow base 48 2 (.slice (some ⟨g, 0, none⟩) n cap) n xs ∧ Ex [g] w wr)
    case atStart =>
      refine ⟨i0, i0 + 1, cellsOfL ls, by omega, rfl, by simp, by omega, ?_, ?_, ?_, ?_, HX1.out.drop (by simp)⟩
      · rw [HF.out, take_cells]
      · rw [HF.out, List.length_take, ← HNN.out]; omega
      · rw [drop_cells]
      · have h1 := own_ex HO.out HX1.out (by simp)
        rw [← HNN.out] at h1
        exact h1
    case round =>
      obtain ⟨i, j, xs, hj, rfl, rfl, hij, htk, hil, hdr, hown, hx⟩ := hrel
      have HTK := hide htk
      have HIL := hide hil
      have HDR := hide hdr
      have HOW := hide hown
      have HX := hide hx
      have hzr := hx.size
      have hxl := hown.1
      cases gk with
      | zero =>
        obtain rfl : j = n := by omega
        obtain ⟨k, hk⟩ : ∃ k, j - i = k + 1 := ⟨j - i - 1, by omega⟩
        obtain ⟨hz1', hz2'⟩ := zeroLabs (k + 1)
        obtain ⟨w2, hr2, ho2, hx2⟩ := run_clear_rest (P := Tryz.prog) wr 23 48 0 _ Tryz.underlying23 zeroLab base 2 g i i cap k (cap - i) _ hz1' hz2' (by omega) (Nat.le_refl _) (own_less hown (show i ≤ j by omega))
        rw [← hk] at hr2
        have h3 : (i : Int) ≤ (j : Int) := by omega
        have h4 : i ≤ j := by omega
        have h5 : ¬ cap = i := by omega
        have h6 : (i : Int) ≤ (cap : Int) := by omega
        have HO2 := hide ho2
        have HX2 := hide hx2
        have HHK := hide hk
        clear htk hil hdr hown hx hj ho2 hx2 hz1' hz2' hk hxl
        go_wp2_with (at_builtin; refine wpList_clear_run _ rfl _ 23 rfl _ rfl hr2 ?_)
        go_ret
        have hfa : (ls.take j).filter (fun l => !p l) = ls.filter (fun l => !p l) := by rw [List.take_of_length_le (by rw [← HNN.out]; exact Nat.le_refl _)]
        refine ⟨.slice (some ⟨g, 0, none⟩) i cap, by simp, rfl, ?_, ?_⟩
        · rw [← hfa, ← HIL.out, ← HTK.out]
          exact HO2.out
        · exact HX.out.trans HX2.out
      | succ gg =>
        have hjl : j < ls.length := by rw [← HNN.out]; omega
        have hjn : (j : Int) < (n : Int) := by omega
        have hin : (i : Int) < (n : Int) := by omega
        obtain ⟨l, hl⟩ : ∃ l, ls[j]? = some l := ⟨_, List.getElem?_eq_getElem hjl⟩
        have hdl : ls.drop j = l :: ls.drop (j + 1) := by
          rw [List.drop_eq_getElem_cons hjl]
          rw [List.getElem?_eq_getElem hjl] at hl
          rw [Option.some.inj hl]
        have htl : ls.take (j + 1) = ls.take j ++ [l] := by
          rw [List.take_succ_eq_append_getElem hjl]
          rw [List.getElem?_eq_getElem hjl] at hl
          rw [Option.some.inj hl]
        have x0 : xs[j * 2]? = some (.string l.1) := by
          have h1 : (xs.drop (j * 2))[0]? = some (.string l.1) := by rw [hdr, hdl]; rfl
          rw [List.getElem?_drop] at h1
          simpa using h1
        have x1 : xs[j * 2 + 1]? = some (.string l.2) := by
          have h1 : (xs.drop (j * 2))[1]? = some (.string l.2) := by rw [hdr, hdl]; rfl
          rw [List.getElem?_drop] at h1
          exact h1
        have hdr2 : xs.drop ((j + 1) * 2) = cellsOfL (ls.drop (j + 1)) := by
          have h1 := congrArg (List.drop 2) hdr
          rw [List.drop_drop, hdl] at h1
          rw [show (j + 1) * 2 = j * 2 + 2 by omega]
          exact h1
        have k0 := own_cell hown x0
        have k1 := own_cell hown x1
        have hgr : g < wr.heap.size := by omega
        have HLM := hide (List.mem_of_getElem? hl)
        obtain ⟨w0, hw0⟩ : ∃ w0, w0 = wr.alloc (Obj.cells #[.string l.1, .string l.2] 48) := ⟨_, rfl⟩
        have hx0 : Ex [] wr w0 := by rw [hw0]; exact (Ex.refl _ _).alloc _
        have hb0 : BK w0 wr.heap.size (.cells #[.string l.1, .string l.2] 48 (0, 0)) := by rw [hw0]; exact BK.new _ _
        have heb : Ex [g] w w0 := hx.trans (hx0.drop (by simp))
        have KL := hide (HL.out w0 heb l HLM.out)
        unfold labV at KL
        have HX0 := hide hx0
        have HB0 := hide hb0
        have HW0 := hide hw0
        have HTL := hide htl
        have HD2 := hide hdr2
        clear htk hil hdr hown hx hl hdl htl x0 x1 hdr2 hx0 hb0 hw0 heb
        go_wp2_with fail
        rw [← HW0.out]
        refine KL.out.mono ?_
        rintro e w2 ⟨rfl, hx2⟩
        have hb2 := HB0.out.ex hx2 (by simp)
        have ho2 := own_ex HOW.out (HX0.out.trans hx2) (by simp)
        have HX2 := hide (HX0.out.trans hx2)
        have HO2 := hide ho2
        have hl2 := hb2.lt
        have hg2 : g < w2.heap.size := by have := (HX0.out.trans hx2).size; omega
        cases hp : p l with
        | true =>
          have HP := hide hp
          clear hp hx2 hb2 ho2 k0 k1
          go_wp2_with fail
          go_roundg gg
          case measure => omega
          case rel =>
            refine ⟨i, j + 1, xs, by omega, rfl, by simp, by omega, ?_, ?_, HD2.out, HO2.out, HX.out.trans (HX2.out.drop (by simp))⟩
            · rw [HTL.out, List.filter_append, HTK.out]; simp [unhide HP]
            · rw [HTL.out, List.filter_append]; simp [unhide HP]; exact HIL.out
        | false =>
          have HP := hide hp
          obtain ⟨u0, y0⟩ : ∃ u0, xs[i * 2]? = some u0 := ⟨_, List.getElem?_eq_getElem (by rw [hxl]; omega)⟩
          obtain ⟨u1, y1⟩ : ∃ u1, xs[i * 2 + 1]? = some u1 := ⟨_, List.getElem?_eq_getElem (by rw [hxl]; omega)⟩
          have z0 := own_cell ho2 y0
          have z1 := own_cell ho2 y1
          have f0 := own_froz ho2 (i * 2)
          have f1 := own_froz ho2 (i * 2 + 1)
          obtain ⟨hc2, hf2⟩ := hb2.all
          clear hp hx2 hb2 ho2 k0 k1 y0 y1
          go_wp2_with fail
          go_roundg gg
          case measure => omega
          case rel =>
            refine ⟨i + 1, j + 1, (xs.set (i * 2) (.string l.1)).set (i * 2 + 1) (.string l.2), by omega, by simp, by simp, by omega, ?_, ?_, ?_, ?_, ?_⟩
            · rw [show (i + 1) * 2 = i * 2 + 2 by omega, put_two _ _ _ _ (by rw [hxl]; omega), HTL.out, List.filter_append, HTK.out]
              simp [unhide HP, cells_two]
            · rw [HTL.out, List.filter_append, List.length_append, ← HIL.out]; simp [unhide HP]
            · rw [drop_two _ _ _ _ _ (by omega)]; exact HD2.out
            · exact own_put (own_put HO2.out _ _) _ _
            · refine Ex.setCell (Ex.setCell (HX.out.trans (HX2.out.drop (by simp))) (Or.inl (by simp)) _) (Or.inl (by simp)) _
end Go.Proofs.YtmeffeigamaipabGreatDoor.G

/- LabelDrop and LabelKeep: what such a rule does. -/
namespace Go.Proofs.YtmeffeigamaipabGreatDoor.G
open Go.RowKit

set_option maxHeartbeats 2000000 in
set_option maxRecDepth 100000 in
theorem takeAway_any (q base : Nat) (f : FuncId) (fa fc : Array Value) (ls : List Lab) (p : Lab → Bool) (v0 : Value) (w : World) (hq : BK w q (.cells #[v0] 98 (0, 0))) (hown : w.ownsRow base 48 2 v0 ls.length (cellsOfL ls)) (hnq : v0.ownBlock ≠ some q) (hn : ls.length ≤ 1000) (hbw : base ≤ w.heap.size)
    (hl : Picks v0.ownBlock.toList (w.alloc (Obj.cells #[.func (.func f) fa fc] 127)) w.heap.size ls p) :
    Calls Tryz.prog 108 #[.pointer (some ⟨q, 0, none⟩), .func (.func f) fa fc] w fun e w' => e = .returned (.tuple #[]) ∧ LT w' q base (ls.filter fun l => !p l) ∧ Ex (q :: v0.ownBlock.toList) w w' := by
  have hmf : ∀ (fn : Fn) (first cap : Array Value) (w : World), (Instr.makeFunc fn first cap).run Tryz.prog w = .ok (.func fn first cap) w := fun _ _ _ _ => rfl
  have KD := hide (deletePick w.heap.size base v0 ls p _ (own_ex hown ((Ex.refl [] w).alloc (Obj.cells #[.func (.func f) fa fc] 127)) (by simp)) hn (by simp; omega) hl)
  have hq0 := hq.alloc (Obj.cells #[.func (.func f) fa fc] 127)
  have HQ0 := hide hq0
  have HNQ := hide hnq
  obtain ⟨pa, c, rfl⟩ := own_slice hown
  obtain ⟨hcq, hfq⟩ := hq.all
  have hql := hq.lt
  clear hq hown hnq hl hq0
  go_enter Tryz.func108, Tryz.ntmps108
  go_wp2_with fail
  refine KD.out.mono ?_
  rintro e w1 ⟨v', rfl, hob, hown1, hx1⟩
  obtain ⟨p1, c1, rfl⟩ := own_slice hown1
  have hq1 := HQ0.out.ex hx1 (by simpa using HNQ.out)
  have HQ1 := hide hq1
  have HO1 := hide hown1
  have HX1 := hide hx1
  have HOB := hide hob
  have hz1 := hx1.size
  simp only [World.size_alloc] at hz1
  clear hcq hfq hown1 hx1 hob
  obtain ⟨hcq, hfq⟩ := hq1.all
  have hql1 := hq1.lt
  clear hq1
  go_wp2_with fail
  go_end0
  refine ⟨rfl, ⟨by simp; omega, _, BK.self HQ1.out 0 _, ownsRow_setCell_other HO1.out (by rw [HOB.out]; exact HNQ.out) _, by rw [HOB.out]; exact HNQ.out⟩, ?_⟩
  exact Ex.setCell (((Ex.refl _ _).alloc _).trans (HX1.out.drop (fun x hx _ => List.mem_cons_of_mem _ hx))) (Or.inl (by simp)) _

theorem EB.kb {lo hi : Nat} {w w1 : World} (h : EB hi [] w w1) : KB lo hi w w1 := ⟨h.size, fun b _ h2 => h.block b h2 (by simp)⟩
theorem GL.eb {hi : Nat} {w w1 : World} (h : GL w) (hx : EB hi [] w w1) (hh : 3 < hi) : GL w1 := tabs_eb h hx hh

set_option maxHeartbeats 2000000 in
set_option maxRecDepth 100000 in
theorem pick_match (b : Nat) (sv : Value) (hsv : ∃ p n c, sv = .slice p n c) (se : ByteArray) (pq lo : Nat) (ta rp : ByteArray) (mo : Int) (code : List Ins) (ng : Nat) (nm : List (ByteArray × Nat)) (hf : Fit code ng) (l : Lab) (hs : l.1.size ≤ 9223372036854775807) (w : World) (hp : PG w pq lo code ng nm) (hg : GL w)
    (hb : BK w b (.cells #[.func (.func 103) #[meansV sv se (.pointer (some ⟨pq, 0, none⟩)) ta rp mo] #[]] 127 (0, 0))) :
    Calls Tryz.prog 130 #[labV l, .pointer (some ⟨b, 0, none⟩)] w fun e w' => e = .returned (.bool (matchM code l.1).isSome) ∧ Ex [] w w' := by
  have KM := hide (fun (w' : World) (hx : Ex [] w w') => patternMatches_any sv hsv se pq lo ta rp mo code ng nm hf l.1 w' (hp.ex' hx) (hg.ex hx) hs)
  obtain ⟨p, n, c, rfl⟩ := hsv
  obtain ⟨r, hr⟩ : ∃ r, r = (matchM code l.1).isSome := ⟨_, rfl⟩
  rw [← hr] at KM ⊢
  unfold labV
  unfold meansV at *
  obtain ⟨hcb, hfb⟩ := hb.all
  have hbl := hb.lt
  clear hp hg hr hb
  go_enter Tryz.func130, Tryz.ntmps130
  go_wp2_with fail
  refine (KM.out _ ((Ex.refl _ _).alloc _)).mono ?_
  rintro e w2 ⟨rfl, hx2⟩
  have HX2 := hide (((Ex.refl [] w).alloc _).trans hx2)
  clear hx2
  go_wp2_with fail
  go_ret
  exact ⟨rfl, HX2.out⟩

set_option maxHeartbeats 2000000 in
set_option maxRecDepth 100000 in
theorem pick_keep (b b2 : Nat) (sv : Value) (hsv : ∃ p n c, sv = .slice p n c) (se : ByteArray) (pq lo : Nat) (ta rp : ByteArray) (mo : Int) (code : List Ins) (ng : Nat) (nm : List (ByteArray × Nat)) (hf : Fit code ng) (l : Lab) (hs : l.1.size ≤ 9223372036854775807) (w : World) (hp : PG w pq lo code ng nm) (hg : GL w)
    (hb : BK w b (.cells #[.func (.func 109) #[] #[.pointer (some ⟨b2, 0, none⟩)]] 127 (0, 0)))
    (hb2 : BK w b2 (.cells #[sv, .string se, .pointer (some ⟨pq, 0, none⟩), .string ta, .string rp, .int .u64 mo] 116 (0, 0))) :
    Calls Tryz.prog 130 #[labV l, .pointer (some ⟨b, 0, none⟩)] w fun e w' => e = .returned (.bool (!(matchM code l.1).isSome)) ∧ Ex [] w w' := by
  have KM := hide (fun (w' : World) (hx : Ex [] w w') => patternMatches_any sv hsv se pq lo ta rp mo code ng nm hf l.1 w' (hp.ex' hx) (hg.ex hx) hs)
  obtain ⟨p, n, c, rfl⟩ := hsv
  obtain ⟨r, hr⟩ : ∃ r, r = (matchM code l.1).isSome := ⟨_, rfl⟩
  rw [← hr] at KM ⊢
  unfold labV
  unfold meansV at *
  obtain ⟨hcb, hfb⟩ := hb.all
  obtain ⟨hcb2, hfb2⟩ := hb2.all
  have hbl := hb.lt
  have hbl2 := hb2.lt
  clear hp hg hr hb hb2
  go_enter Tryz.func130, Tryz.ntmps130
  go_wp2_with (go_at_call 109; go_in)
  refine (KM.out _ ((Ex.refl _ _).alloc _)).mono ?_
  rintro e w2 ⟨rfl, hx2⟩
  have HX2 := hide (((Ex.refl [] w).alloc _).trans hx2)
  clear hx2
  go_wp2_with fail
  go_ret
  exact ⟨by simp, HX2.out⟩

set_option maxHeartbeats 2000000 in
set_option maxRecDepth 100000 in
theorem does_dropNames (lo : Nat) (p : Option Addr) (n c : Nat) (se : ByteArray) (pq : Nat) (ta rp : ByteArray) (mo : Int) (code : List Ins) (ng : Nat) (nm : List (ByteArray × Nat)) (hf : Fit code ng) (w : World) (hp : PG w pq lo code ng nm) (hlo : 3 < lo) :
    Does lo w.heap.size w (.func (.func 76) #[meansV (.slice p n c) se (.pointer (some ⟨pq, 0, none⟩)) ta rp mo] #[]) (fun ls => (ls.filter fun l => !(matchM code l.1).isSome, true)) := by
  have hmf : ∀ (fn : Fn) (first cap : Array Value) (w : World), (Instr.makeFunc fn first cap).run Tryz.prog w = .ok (.func fn first cap) w := fun _ _ _ _ => rfl
  refine ⟨Nat.le_refl _, ⟨_, _, _, rfl⟩, fun w1 hk hg q base ls v0 hb hle hqb hq ho hnq hok => ?_⟩
  have KT := hide (fun (w' : World) (hx : Ex [] w1 w') (hz : w1.heap.size < w'.heap.size) => takeAway_any q base 103 #[meansV (.slice p n c) se (.pointer (some ⟨pq, 0, none⟩)) ta rp mo] #[] ls (fun l => (matchM code l.1).isSome) v0 w' (hq.ex hx (by simp)) (own_ex ho hx (by simp)) hnq (by have := hok.len; omega) (Nat.le_trans hle hx.size)
    (fun w2 he l hl => by
      have hpl := hp.le
      have hrow : ∀ x, x ∈ v0.ownBlock.toList → base ≤ x ∧ x < w1.heap.size := fun x hxm => ho.lt x (by simpa using hxm)
      have hex : Ex v0.ownBlock.toList w1 w2 := ((hx.drop (by simp)).alloc _).trans (he.drop (fun x hxm _ => hxm))
      have hk2 : KB lo w.heap.size w w2 := hk.trans (KB.ofEx hex (fun x hxm => Or.inr (by have := hrow x hxm; omega)) hk.1)
      have heb : EB base [] w1 w2 := (EB.ofEx hex hle).mono (Nat.le_refl _) (fun x hxm hlt => by have := hrow x hxm; omega)
      have hname := hok.nam l hl
      have hsz : l.1.size ≤ 9223372036854775807 := by
        unfold nameB at hname
        simp at hname
        omega
      exact pick_match _ (.slice p n c) ⟨p, n, c, rfl⟩ se pq lo ta rp mo code ng nm hf l hsz w2 (hp.kb hk2) (GL.eb hg heb (by omega)) ((BK.new _ _).ex he (fun hm => by have := hrow _ hm; omega))))
  have HLO := hide hok
  have HNQ := hide hnq
  unfold meansV at *
  clear hk hg hq ho hnq hok
  go_enter Tryz.func46, Tryz.ntmps46
  go_wp2_with (go_at_call 76; go_in)
  refine (KT.out _ (((Ex.refl _ _).alloc _).alloc _) (by simp only [World.size_alloc]; omega)).mono ?_
  rintro x w2 ⟨rfl, hl2, hx2⟩
  have HL2 := hide hl2
  have HX2 := hide ((((Ex.refl (q :: v0.ownBlock.toList) w1).alloc _).alloc _).trans hx2)
  clear hl2 hx2
  go_wp2_with fail
  go_ret
  exact ⟨rfl, HL2.out, HLO.out.filter _, HX2.out⟩

set_option maxHeartbeats 2000000 in
set_option maxRecDepth 100000 in
theorem does_keepNames (lo : Nat) (p : Option Addr) (n c : Nat) (se : ByteArray) (pq : Nat) (ta rp : ByteArray) (mo : Int) (code : List Ins) (ng : Nat) (nm : List (ByteArray × Nat)) (hf : Fit code ng) (w : World) (hp : PG w pq lo code ng nm) (hlo : 3 < lo) :
    Does lo w.heap.size w (.func (.func 77) #[meansV (.slice p n c) se (.pointer (some ⟨pq, 0, none⟩)) ta rp mo] #[]) (fun ls => (ls.filter fun l => (matchM code l.1).isSome, true)) := by
  have hmf : ∀ (fn : Fn) (first cap : Array Value) (w : World), (Instr.makeFunc fn first cap).run Tryz.prog w = .ok (.func fn first cap) w := fun _ _ _ _ => rfl
  refine ⟨Nat.le_refl _, ⟨_, _, _, rfl⟩, fun w1 hk hg q base ls v0 hb hle hqb hq ho hnq hok => ?_⟩
  have KT := hide (fun (w' : World) (hx : Ex [] w1 w') (hz : w1.heap.size < w'.heap.size) (b2 : Nat) (hl2 : w1.heap.size ≤ b2) (hb2 : BK w' b2 (.cells #[.slice p n c, .string se, .pointer (some ⟨pq, 0, none⟩), .string ta, .string rp, .int .u64 mo] 116 (0, 0))) => takeAway_any q base 109 #[] #[.pointer (some ⟨b2, 0, none⟩)] ls (fun l => !(matchM code l.1).isSome) v0 w' (hq.ex hx (by simp)) (own_ex ho hx (by simp)) hnq (by have := hok.len; omega) (Nat.le_trans hle hx.size)
    (fun w2 he l hl => by
      have hpl := hp.le
      have hrow : ∀ x, x ∈ v0.ownBlock.toList → base ≤ x ∧ x < w1.heap.size := fun x hxm => ho.lt x (by simpa using hxm)
      have hex : Ex v0.ownBlock.toList w1 w2 := ((hx.drop (by simp)).alloc _).trans (he.drop (fun x hxm _ => hxm))
      have hk2 : KB lo w.heap.size w w2 := hk.trans (KB.ofEx hex (fun x hxm => Or.inr (by have := hrow x hxm; omega)) hk.1)
      have heb : EB base [] w1 w2 := (EB.ofEx hex hle).mono (Nat.le_refl _) (fun x hxm hlt => by have := hrow x hxm; omega)
      have hname := hok.nam l hl
      have hsz : l.1.size ≤ 9223372036854775807 := by
        unfold nameB at hname
        simp at hname
        omega
      exact pick_keep _ b2 (.slice p n c) ⟨p, n, c, rfl⟩ se pq lo ta rp mo code ng nm hf l hsz w2 (hp.kb hk2) (GL.eb hg heb (by omega)) ((BK.new _ _).ex he (fun hm => by have := hrow _ hm; omega)) ((hb2.alloc _).ex he (fun hm => by have := hrow _ hm; omega))))
  have HLO := hide hok
  have HNQ := hide hnq
  unfold meansV at *
  clear hk hg hq ho hnq hok
  go_enter Tryz.func46, Tryz.ntmps46
  go_wp2_with (go_at_call 77; go_in)
  refine (KT.out _ (((Ex.refl _ _).alloc _).alloc _) (by simp only [World.size_alloc]; omega) (w1.heap.size + 1) (by omega) (by simpa using BK.new (w1.alloc _) _)).mono ?_
  rintro x w2 ⟨rfl, hl2, hx2⟩
  have HL2 := hide hl2
  have HX2 := hide ((((Ex.refl (q :: v0.ownBlock.toList) w1).alloc _).alloc _).trans hx2)
  clear hl2 hx2
  go_wp2_with fail
  go_ret
  exact ⟨rfl, by simpa using HL2.out, HLO.out.filter _, HX2.out⟩

end Go.Proofs.YtmeffeigamaipabGreatDoor.G
