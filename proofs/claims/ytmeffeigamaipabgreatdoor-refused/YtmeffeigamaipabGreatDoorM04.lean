/- C7 B2 C8, one behind the other. -/
import Derived.Test.YtmeffeigamaipabGreatDoorM03
import Derived.Deep.RegionHeld3
import Derived.Deep.MidRow
set_option linter.unusedVariables false
set_option linter.unusedSimpArgs false
/- Contracts of (*series.Labels).Set, where the label comes behind all others and is there. -/
namespace Go.Proofs.YtmeffeigamaipabGreatDoor
open Go.RowKit

theorem take_cells (ls : List Lab) (i : Nat) : (cellsOfL ls).take (i * 2) = cellsOfL (ls.take i) := by
  induction ls generalizing i with
  | nil => simp [cellsOfL]
  | cons a r ih =>
    cases i with
    | zero => simp [cellsOfL]
    | succ i =>
      have := ih i
      simp only [cellsOfL, List.flatMap_cons, List.take_succ_cons, List.cons_append, List.nil_append] at this ⊢
      rw [show (i + 1) * 2 = i * 2 + 1 + 1 by omega, List.take_succ_cons, List.take_succ_cons, this]
theorem drop_cells (ls : List Lab) (i : Nat) : (cellsOfL ls).drop (i * 2) = cellsOfL (ls.drop i) := by
  induction ls generalizing i with
  | nil => simp [cellsOfL]
  | cons a r ih =>
    cases i with
    | zero => simp [cellsOfL]
    | succ i =>
      have := ih i
      simp only [cellsOfL, List.flatMap_cons, List.drop_succ_cons, List.cons_append, List.nil_append] at this ⊢
      rw [show (i + 1) * 2 = i * 2 + 1 + 1 by omega, List.drop_succ_cons, List.drop_succ_cons, this]

set_option maxHeartbeats 2000000 in
set_option maxRecDepth 100000 in
/-- A name that is there, greater than all others. -/
theorem set_again (q base : Nat) (ls : List Lab) (a v : ByteArray) (w : World) (hq : LS w q base ls) (hn : ls.length ≤ 60) (hsrt : SortedFor ls a) (hp : posN ls a + 1 = ls.length) (ht : thereN ls a = true) (hv0 : ¬ v.size = 0) (hv : v.size ≤ 200) :
    Calls Tryz.prog 41 #[.pointer (some ⟨q, 0, none⟩), .string a, .string v] w fun e w' => e = .returned (.tuple #[]) ∧ LS w' q base (ls.take (posN ls a) ++ [(a, v)]) ∧ EB base [q] w w' := by
  have HQ := hide hq
  have HS := hide hsrt
  have hqb := hq.lt
  have hle := hq.le
  have hem := nonempty_list hv0
  clear hq hsrt
  obtain ⟨n, hpn⟩ : ∃ n, posN ls a = n := ⟨_, rfl⟩
  rw [hpn] at hp ⊢
  go_enter Tryz.func41, Tryz.ntmps41
  go_wp2_with fail
  refine (find_any q base ls a _ HQ.out (by omega) HS.out).mono ?_
  rintro e w1 ⟨rfl, hx1⟩
  rw [ht, hpn]
  have hb1 : ∃ v0, BK w1 q (.cells #[v0] 98 (0, 0)) ∧ w1.ownsRow base 48 2 v0 (n + 1) (cellsOfL ls) := by
    obtain ⟨v0, hb, ho⟩ := HQ.out.ex
    rw [hp]
    exact ⟨v0, hb.ex hx1 (by simp), own_ex ho hx1 (by simp)⟩
  obtain ⟨v0, hb1, ho1⟩ := hb1
  have hz1 := hx1.size
  have HX1 := hide hx1
  have HB1 := hide hb1
  have HO1 := hide ho1
  have hql := hb1.lt
  obtain ⟨g, cap, rfl, hgb⟩ : ∃ g cap, v0 = .slice (some ⟨g, 0, none⟩) (n + 1) cap ∧ base ≤ g := by
    rcases ho1.2 with ⟨_, h⟩ | ⟨g, cap, cur, h, hb, _⟩
    · omega
    · exact ⟨g, cap, h, hb⟩
  obtain ⟨hc, hf⟩ := hb1.all
  have hn1 : n + 1 ≤ 60 := by omega
  have HP := hide hp
  have HPN := hide hpn
  clear hx1 hb1 ho1 ht hp hpn
  go_wp2_with fail
  refine (deleteLab base g (n + 1) cap n (cellsOfL ls) _ HO1.out (by omega) (by omega) (flat_plain ls)).mono ?_
  rintro e w2 ⟨rfl, ho2, hx2⟩
  have hdl : (cellsOfL ls).take (n * 2) ++ (cellsOfL ls).drop ((n + 1) * 2) = cellsOfL (ls.take n) := by
    rw [take_cells, List.drop_of_length_le (by rw [flat_len, ← HP.out]; exact Nat.le_refl _), List.append_nil]
  rw [hdl] at ho2
  simp only [Nat.add_sub_cancel] at ho2 ⊢
  have hb2 := HB1.out.ex hx2 (by simp; omega)
  have HB2 := hide hb2
  have HO2 := hide ho2
  have HX2 := hide hx2
  have hz2 := hx2.size
  clear hdl hc hf
  obtain ⟨hc, hf⟩ := hb2.all
  clear hb2 ho2 hx2
  have hn'' : ((n : Int) == 60) = false := by rw [beq_eq_false_iff_ne]; omega
  go_wp2_with fail
  obtain ⟨w3, hw3⟩ : ∃ w3, w3 = w2.setCell ⟨q, 0, none⟩ (.slice (some ⟨g, 0, none⟩) n cap) := ⟨_, rfl⟩
  rw [← hw3]
  have hb3 : BK w3 q (.cells #[.slice (some ⟨g, 0, none⟩) n cap] 98 (0, 0)) := by rw [hw3]; exact HB2.out.self 0 _
  have ho3 : w3.ownsRow base 48 2 (.slice (some ⟨g, 0, none⟩) n cap) n (cellsOfL (ls.take n)) := by rw [hw3]; exact own_set HO2.out hqb _
  have hx3 : EB base [q] w w3 := by
    rw [hw3]
    exact (((EB.ofEx HX1.out hle).mono (Nat.le_refl _) (by simp) : EB base [q] w w1).trans ((EB.ofEx HX2.out (by omega)).mono (Nat.le_refl _) (fun x hx hlt => by simp at hx; omega))).setCell (.inl (by simp)) _
  have hz3 : w.heap.size ≤ w3.heap.size := hx3.size
  have HB3 := hide hb3
  have HO3 := hide ho3
  have HX3 := hide hx3
  clear hw3 hc hf
  have hc : w3.cell? ⟨q, 0, none⟩ = some (.slice (some ⟨g, 0, none⟩) n cap) := hb3.all.1 0
  have hf : w3.frozen? ⟨q, 0, none⟩ = false := hb3.all.2 0
  have hq3 : q < w3.heap.size := hb3.lt
  clear hb3 ho3 hx3 HB2 HO2 HX2 HX1 HB1 HO1 hz2 hz1 hql hn''
  go_region_with (first
    | (go_at_call 64; refine (cut_short v _ hv).mono ?_; rintro e w4 ⟨rfl, rfl⟩)
    | (go_at_call 63; refine (insertEnd base n w3.heap.size _ (cellsOfL (ls.take n)) (a, v) _ (HO3.out.drew.alloc _) (by omega) (by simp; omega) ((BK.new _ _))).mono ?_; rintro e w5 ⟨v5, rfl, ho5, hg5, hl5⟩; obtain ⟨p5, c5, rfl⟩ := own_slice ho5; have hb5 := BK.grown ((HB3.out.drew.alloc (Obj.cells #[.string a, .string v] 48))) hg5 (fun e => by have h9 := own_block HO3.out q e; omega); obtain ⟨hc5, hf5⟩ := hb5.all))
  all_goals
    have HG5 := hide hg5
    have HO5 := hide ho5
    have HB5 := hide hb5
    clear hg5 ho5 hb5 hl5 hc hf hc5 hf5
    go_end0
    have hz5 : w3.heap.size + 1 ≤ w5.heap.size := by have := HG5.out.size; simpa using this
    refine ⟨rfl, LS.mk' hqb (by simp; omega) (BK.self HB5.out 0 _) (own_set HO5.out hqb _) (by have := HP.out; simp; omega) (cells_snoc (ls.take n) (a, v)), ?_⟩
    exact (((HX3.out.drew.alloc (by simp; omega) _).grown HG5.out (by simp; omega) (fun k hk => .inr (own_block HO3.out k hk))).setCell (.inl (by simp)) _)
end Go.Proofs.YtmeffeigamaipabGreatDoor

/- Laws of no program: 'copy' from a row that is owned. -/
namespace Go.Proofs.YtmeffeigamaipabGreatDoor
open Go.RowKit

/-- 'copy' into the head of a block, from a row that is owned. -/
theorem run_copy_own {P : Program} (w : World) (dT sT ty elem : TypeId) (i : TypeInfo) (base sz n : Nat) (v : Value) (xs : List Value) (d dLen dCap : Nat) (cur : Array Value) (t : TypeId)
    (hu : P.underlying dT = some (.slice elem)) (hi : P.info? elem = some i) (hsz : i.size = sz) (hown : w.ownsRow base elem sz v n xs) (hp : ∀ u ∈ xs, u.oneCell' = true)
    (hd : w.heap[d]? = some (.cells cur t (0, 0))) (hn : n ≤ dLen) (hfit : n * sz ≤ cur.size) :
    (Builtin.copy_ #[dT, sT] ty #[.slice (some ⟨d, 0, none⟩) dLen dCap, v]).run P w = .ok (goInt n) (w.setRow d (xs ++ cur.toList.drop (n * sz)).toArray) := by
  subst hsz
  rcases hown.2 with ⟨rfl, rfl⟩ | ⟨g, cap, c2, rfl, hb, hg, hnc, hcm, hcs, ht⟩
  · have hx : xs = [] := List.length_eq_zero_iff.1 (by simpa using hown.1)
    subst hx
    have hself : w.setRow d ([] ++ cur.toList.drop (0 * i.size)).toArray = w := by
      simp only [Nat.zero_mul, List.drop_zero, List.nil_append, Array.toArray_toList]
      exact setRow_self w d cur t (0, 0) hd
    rw [hself]
    simp [Builtin.copy_, run_underlying hu, Builtin.lenOf, Builtin.firstCells, sizeOf, typeInfo, hi, storeCells]
  · have hmin : Nat.min n dLen = n := Nat.min_eq_left hn
    have hl : (loadCells ⟨g, 0, none⟩ xs.length).run P w = .ok xs.toArray w := run_loadCells_list (P := P) w ⟨g, 0, none⟩ xs (fun j u hj => by rw [Addr.add_lit, Nat.zero_add]; exact own_cell hown hj)
    have hst := run_storeCells_at P d 0 t xs 0 cur w hd (by simp only [Nat.zero_add]; rw [hown.1]; exact hfit) hp
    simp only [Nat.add_zero, Nat.zero_add, List.take_zero, List.nil_append] at hst
    rw [hown.1] at hl hst
    simp [Builtin.copy_, run_underlying hu, Builtin.lenOf, Builtin.firstCells, sizeOf, typeInfo, hi, hmin, hl, hst]

/-- 'copy' whose run is known by an equation, as one step of a region that draws. -/
theorem step_copy_run {P : Program} {ops : Array Oper} {o : Oper} {a : Act} {w : World} {K : Act → World → Prop} {Q : Exit → Act → World → Prop} {E : Prop}
    (hg : o.guard = none) (s x : Operand) (t t' : TypeId) (hop : o.op = Op.call { callee := Callee.builtin Builtin.copy, args := #[s, x], argTypes := #[t, t'] })
    (v u : Value) (hd : a.eval s = v) (hx : a.eval x = u) {v' : Value} {w' : World} (hr : (Builtin.copy_ #[t, t'] o.type #[v, u]).run P w = .ok v' w') (hK : K (a.put o.dst v') w') :
    if Region.wanted o (yielded ops a.tmps) = true then Oper.wp P o a w K Q else E := by
  have hw : Region.wanted o (yielded ops a.tmps) = true := by simp [Region.wanted, hg]
  rw [if_pos hw]
  unfold Oper.wp
  simp [execOp, hop, resolve, invoke, builtin, hd, hx, hr, Result.andThen]
  exact hK

/-- One result, kept in memory. -/
theorem results_cell1 {P : Program} {fn : Func} {tmps : Array Value} {w : World} {a : Tmp} {t : TypeId} {ad : Addr} {v : Value} (hf : fn.results = #[.cell a t]) (ha : tmps.getD a undef = .pointer (some ad)) (hl : (loadVar t ad).run P w = .ok v w) :
    (results fn tmps).run P w = .ok v w := by
  have ha' : tmps[a]?.getD undef = .pointer (some ad) := by rw [← ha]; simp
  unfold results
  rw [hf]
  simp [ha', hl, asAddr]
/-- Two results, the first kept in memory. -/
theorem results_cell_tmp {P : Program} {fn : Func} {tmps : Array Value} {w : World} {a k : Tmp} {t : TypeId} {ad : Addr} {v : Value} (hf : fn.results = #[.cell a t, .tmp k]) (ha : tmps.getD a undef = .pointer (some ad)) (hl : (loadVar t ad).run P w = .ok v w) :
    (results fn tmps).run P w = .ok (.tuple #[v, tmps.getD k undef]) w := by
  have ha' : tmps[a]?.getD undef = .pointer (some ad) := by rw [← ha]; simp
  unfold results
  rw [hf]
  simp [ha', hl, asAddr]
end Go.Proofs.YtmeffeigamaipabGreatDoor

/- Contract of series.Read, whatever Set makes of the labels one by one. -/
namespace Go.Proofs.YtmeffeigamaipabGreatDoor
open Go.RowKit

/-- A series as a value: its labels, room for twenty, how many. -/
def serC (ls : List Lab) : List Value := cellsOfL ls ++ List.replicate (40 - ls.length * 2) (.string ⟨#[]⟩) ++ [.int .i64 ls.length]
def serV (ls : List Lab) : Value := .agg (serC ls).toArray
theorem serC_len {ls : List Lab} (h : ls.length ≤ 20) : (serC ls).length = 41 := by
  simp only [serC, List.length_append, flat_len, List.length_replicate, List.length_cons, List.length_nil]; omega
theorem serC_plain (ls : List Lab) : ∀ u ∈ serC ls, u.oneCell' = true := by
  intro u hu
  simp only [serC, List.mem_append, List.mem_replicate, List.mem_cons, List.not_mem_nil, or_false] at hu
  rcases hu with (hu | ⟨_, rfl⟩) | rfl
  · exact flat_plain ls u hu
  · rfl
  · rfl

theorem LS.ex' {w w' : World} {q base : Nat} {ls : List Lab} (h : LS w q base ls) {o : List Nat} (hx : Ex o w w') (ho : ∀ x ∈ o, x < base ∧ x ≠ q) : LS w' q base ls := by
  obtain ⟨v, hb, hown⟩ := h.ex
  exact ⟨h.lt, Nat.le_trans h.le hx.size, v, hb.ex hx (fun hm => (ho q hm).2 rfl), own_ex hown hx (fun x hm => (ho x hm).1)⟩
theorem LS.drew {w : World} {q base : Nat} {ls : List Lab} (h : LS w q base ls) : LS w.drew q base ls := h.ex' ((Ex.refl [] _).drew) (by simp)
theorem LS.alloc {w : World} {q base : Nat} {ls : List Lab} (h : LS w q base ls) (o : Obj) : LS (w.alloc o) q base ls := h.ex' ((Ex.refl [] _).alloc o) (by simp)

/-- What Set does with the labels of a list, one behind the other. -/
def Steps (ls : List Lab) (acc : Nat → List Lab) : Prop := acc 0 = [] ∧ ∀ j l, ls[j]? = some l → ∀ W q base, LS W q base (acc j) →
  Calls Tryz.prog 41 #[.pointer (some ⟨q, 0, none⟩), .string l.1, .string l.2] W fun e w' => e = .returned (.tuple #[]) ∧ LS w' q base (acc (j + 1)) ∧ EB base [q] W w'

theorem ser_nil : serC [] = List.replicate 40 (.string ⟨#[]⟩) ++ [.int .i64 0] := rfl
theorem ser_drop {n : Nat} (h : n ≤ 20) : (serC []).drop (n * 2) = List.replicate (40 - n * 2) (.string ⟨#[]⟩) ++ [.int .i64 0] := by
  rw [ser_nil, List.drop_append_of_le_length (by simp; omega), List.drop_replicate]
theorem ser_last (ls : List Lab) {n : Nat} (hn : ls.length = n) (h : n ≤ 20) : (cellsOfL ls ++ (serC []).drop (n * 2)).toArray[40]? = some (.int .i64 0) := by
  have hl : (cellsOfL ls).length = n * 2 := by rw [← hn]; exact flat_len ls
  rw [ser_drop h, List.getElem?_toArray, ← List.append_assoc, List.getElem?_append_right (by simp [hl]; omega)]
  have : 40 - (cellsOfL ls ++ List.replicate (40 - n * 2) (Value.string ⟨#[]⟩)).length = 0 := by rw [List.length_append, hl, List.length_replicate]; omega
  rw [this]; rfl
theorem ser_fill (ls : List Lab) {n : Nat} (hn : ls.length = n) (h : n ≤ 20) : (cellsOfL ls ++ (serC []).drop (n * 2)).toArray.setIfInBounds 40 (.int .i64 n) = (serC ls).toArray := by
  have hl : (cellsOfL ls).length = n * 2 := by rw [← hn]; exact flat_len ls
  rw [ser_drop h, List.setIfInBounds_toArray, ← List.append_assoc, List.set_append_right _ _ (by simp [hl]; omega)]
  have : 40 - (cellsOfL ls ++ List.replicate (40 - n * 2) (Value.string ⟨#[]⟩)).length = 0 := by rw [List.length_append, hl, List.length_replicate]; omega
  rw [this, serC, hn]; rfl

set_option maxHeartbeats 2000000 in
set_option maxRecDepth 100000 in
theorem read_any (v : Value) (ls : List Lab) (acc : Nat → List Lab) (w : World) (hv : SL w v ls) (hn : ls.length ≤ 20) (hw : ls.any wrongB = false) (hst : Steps ls acc) (hacc : (acc ls.length).length ≤ 20) :
    Calls Tryz.prog 31 #[v] w fun e w' => e = .returned (.tuple #[serV (acc ls.length), .int .i64 0]) ∧ Ex [] w w' := by
  have HV := hide hv
  have HST := hide hst
  have HW := hide hw
  obtain ⟨p, c, rfl⟩ := hv.slice
  have hn1 : (ls.length : Int) ≤ 20 := by omega
  have hlab : ∀ l ∈ ls, l.1.size ≤ 60 ∧ l.2.size ≤ 200 := by
    intro l hl
    have := List.any_eq_false.1 hw l hl
    simp only [wrongB, Bool.or_eq_true, Bool.not_eq_true', decide_eq_true_eq, not_or, Bool.not_eq_false] at this
    refine ⟨?_, by omega⟩
    have h1 := this.1
    simp only [nameB, Bool.and_eq_true, Bool.not_eq_true', decide_eq_false_iff_not] at h1
    omega
  have HLAB := hide hlab
  clear hv hst hlab
  go_enter Tryz.func31, Tryz.ntmps31
  go_wp2_with fail
  refine (containsWrong _ ls _ (HV.out.ex ((Ex.refl [] _).alloc _) (by simp)) (by omega) (fun l hl => by have := (HLAB.out l hl).1; unfold maxLen; omega)).mono ?_
  rintro e w1 ⟨rfl, hx1⟩
  rw [HW.out]
  have hz1 := hx1.size
  simp only [World.size_alloc] at hz1
  have hres : BK w1 w.heap.size (.cells (serC []).toArray 72 (0, 0)) := (BK.new _ _).ex hx1 (by simp)
  have hx01 : Ex [] w w1 := ((Ex.refl _ _).alloc _).trans hx1
  have HRES := hide hres
  have HX01 := hide hx01
  clear hx1 hres hx01 hw
  go_wp2_with fail
  obtain ⟨w2, hw2⟩ : ∃ w2, w2 = w1.alloc (Obj.cells #[.slice none 0 0] 98) := ⟨_, rfl⟩
  rw [← hw2]
  have hls0 : LS w2 w1.heap.size (w1.heap.size + 1) (acc 0) := by
    rw [HST.out.1, hw2]
    exact ⟨by omega, by simp, _, BK.new _ _, World.ownsRow_nil _ _ _ _⟩
  have hx12 : Ex [] w1 w2 := by rw [hw2]; exact (Ex.refl _ _).alloc _
  have hz2 : w2.heap.size = w1.heap.size + 1 := by rw [hw2]; simp
  have HLS0 := hide hls0
  have HX12 := hide hx12
  have HZ2 := hide hz2
  clear hls0 hx12 hz2 hw2
  go_loopg [17] ls.length (fun gk i wr => ∃ j : Nat, j + gk = ls.length ∧ i = .int .i64 j ∧ LS wr w1.heap.size (w1.heap.size + 1) (acc j) ∧ EB (w1.heap.size + 1) [w1.heap.size] w2 wr)
  case atStart => exact ⟨0, by omega, rfl, HLS0.out, EB.refl _ _ _⟩
  case round =>
    obtain ⟨j, hj, rfl, hls, heb⟩ := hrel
    have HLS := hide hls
    have HEB := hide heb
    have hzr : w1.heap.size + 1 ≤ wr.heap.size := by have := heb.size; have := HZ2.out; omega
    cases gk with
    | zero =>
      obtain rfl : j = ls.length := by omega
      clear hj hls heb
      obtain ⟨v4, hb4, ho4⟩ := HLS.out.ex
      obtain ⟨p4, c4, rfl⟩ := own_slice ho4
      have hresr : BK wr w.heap.size (.cells (serC []).toArray 72 (0, 0)) := (HRES.out.ex HX12.out (by simp)).eb HEB.out (by omega) (by simp; omega)
      have HB4 := hide hb4
      have HO4 := hide ho4
      have HRR := hide hresr
      clear hb4 ho4 hresr
      obtain ⟨n, hn4⟩ : ∃ n, (acc ls.length).length = n := ⟨_, rfl⟩
      have HN4 := hide hn4
      rw [hn4] at hacc HO4 HB4
      clear hn4
      go_wp2_with fail
      generalize hw5 : wr.alloc _ = w5
      have hb5 : BK w5 wr.heap.size (.cells (serC []).toArray 72 (0, 0)) := by rw [← hw5]; exact BK.new _ _
      have hq5 : BK w5 w1.heap.size (.cells #[.slice p4 n c4] 98 (0, 0)) := by rw [← hw5]; exact HB4.out.alloc _
      have ho5 : w5.ownsRow (w1.heap.size + 1) 48 2 (.slice p4 n c4) n (cellsOfL (acc ls.length)) := by rw [← hw5]; exact HO4.out.alloc _
      have hr5 : BK w5 w.heap.size (.cells (serC []).toArray 72 (0, 0)) := by rw [← hw5]; exact HRR.out.alloc _
      have he5 : EB (w1.heap.size + 1) [w1.heap.size] w2 w5 := by rw [← hw5]; exact HEB.out.alloc hzr _
      clear hw5
      obtain ⟨t0, hti, hzz0, hzz1, hzz2⟩ := info_parts infoLab
      have hcp := run_copy_own (P := Tryz.prog) w5.drew 23 23 3 48 t0 _ 2 n _ _ wr.heap.size 20 20 _ _ Tryz.underlying23 hti hzz1 ho5.drew (flat_plain _) hb5.drew hacc (by rw [List.size_toArray, serC_len (by simp)]; omega)
      obtain ⟨w6, hw6⟩ : ∃ w6, w6 = w5.drew.setRow wr.heap.size (cellsOfL (acc ls.length) ++ (serC []).toArray.toList.drop (n * 2)).toArray := ⟨_, rfl⟩
      rw [← hw6] at hcp
      have hb6 : BK w6 wr.heap.size (.cells (cellsOfL (acc ls.length) ++ (serC []).drop (n * 2)).toArray 72 (0, 0)) := by rw [hw6]; exact setRow_heap _ _ _ _ _ _ hb5.drew
      have hr6 : BK w6 w.heap.size (.cells (serC []).toArray 72 (0, 0)) := by rw [hw6]; unfold BK; rw [setRow_other _ _ _ _ (by omega)]; exact hr5.drew
      have he6 : EB (w1.heap.size + 1) [w1.heap.size] w2 w6 := by rw [hw6]; exact he5.drew.trans (EB.ofEx ((Ex.refl _ _).setRow (l := [wr.heap.size]) (.inl (by simp)) _) (by have := hb5.lt; simp; omega) |>.mono (Nat.le_refl _) (fun x hx hlt => by simp at hx; omega))
      have hlt6 : wr.heap.size < w6.heap.size := hb6.lt
      have h40 : w6.cell? ⟨wr.heap.size, 40, none⟩ = some (.int .i64 0) := by rw [hb6.all.1 40]; exact ser_last (acc ls.length) (unhide HN4) hacc
      have hf40 : w6.frozen? ⟨wr.heap.size, 40, none⟩ = false := hb6.all.2 40
      have hcq : w5.cell? ⟨w1.heap.size, 0, none⟩ = some (.slice p4 n c4) := hq5.all.1 0
      have hqlt : w1.heap.size < w5.heap.size := hq5.lt
      have hlt5 : wr.heap.size < w5.heap.size := hb5.lt
      have HB6 := hide hb6
      have HR6 := hide hr6
      have HE6 := hide he6
      clear hb5 hq5 ho5 hr5 he5 hb6 hr6 he6 hw6 hti hzz0 hzz1 hzz2
      go_region_law (refine step_copy_run rfl _ _ 23 23 rfl (.slice (some ⟨wr.heap.size, 0, none⟩) 20 20) (.slice p4 n c4) (by simp [Act.eval, Act.put]) (by simp [Act.eval, Act.put]) hcp ?_)
      generalize hw7 : w6.setCell _ _ = w7
      have hb7 : BK w7 wr.heap.size (.cells (serC (acc ls.length)).toArray 72 (0, 0)) := by rw [← hw7, ← ser_fill _ (unhide HN4) hacc]; exact HB6.out.self 40 _
      have hr7 : BK w7 w.heap.size (.cells (serC []).toArray 72 (0, 0)) := by rw [← hw7]; exact HR6.out.set (by simp; omega) _
      have he7 : EB (w1.heap.size + 1) [w1.heap.size] w2 w7 := by rw [← hw7]; exact HE6.out.setCell (.inr (by simp; omega)) _
      have hlen : (serC (acc ls.length)).length = 41 := serC_len (by have := unhide HN4; omega)
      have hpl := serC_plain (acc ls.length)
      obtain ⟨S, hS⟩ : ∃ S, S = serC (acc ls.length) := ⟨_, rfl⟩
      rw [← hS] at hb7 hlen hpl
      have HS := hide hS
      have hisz : (Tryz.prog.info? 72).map (·.size) = some S.length := by rw [hlen]; kernel_rfl
      have hisz' : (Tryz.prog.info? 72).map (·.size) = some S.toArray.size := by rw [List.size_toArray]; exact hisz
      have hrg := hb7.rangeL
      have HRG := hide hrg
      have HR7 := hide hr7
      have HE7 := hide he7
      have HI := hide hisz
      have HI' := hide hisz'
      have hold : (serC []).toArray.size = S.toArray.size := by rw [List.size_toArray, List.size_toArray, hlen, serC_len (by simp)]
      have HOLD := hide hold
      have hallp : S.toArray.all (·.oneCell') = true := all_oneCell_toArray hpl
      have HAL := hide hallp
      clear hw7 hb7 hr7 he7 hlen hpl hS hisz hisz' hrg hold hallp h40 hf40 hcq hcp
      go_wp2_with (first
        | (refine wpList_load_mid rfl 72 _ rfl wr.heap.size 0 rfl S _ HRG.out Tryz.underlying72 rfl HI.out ?_)
        | (refine wpList_store_row rfl 72 _ _ rfl w.heap.size S.toArray rfl rfl 72 _ HR7.out HI'.out HOLD.out HAL.out ?_))
      generalize hw8 : w7.setRow w.heap.size S.toArray = w8
      have hb8 : BK w8 w.heap.size (.cells S.toArray 72 (0, 0)) := by rw [← hw8]; exact setRow_heap _ _ _ _ _ _ HR7.out
      have hl8 : (loadVar 72 ⟨w.heap.size, 0, none⟩).run Tryz.prog w8 = .ok (.agg S.toArray) w8 := run_loadVar_mid w8 _ 0 _ S _ hb8.rangeL Tryz.underlying72 rfl HI.out
      have hx8 : Ex [] w w8 := by
        have h1 : EB w.heap.size [] w w7 := (EB.ofEx (HX01.out.trans HX12.out) (Nat.le_refl _)).trans (HE7.out.mono (by omega) (fun x hx hlt => by simp at hx; omega))
        have h2 : EB w.heap.size [] w7 w8 := by
          rw [← hw8]
          exact (EB.ofEx ((Ex.refl _ _).setRow (l := [w.heap.size]) (.inl (by simp)) _) (by have := HR7.out.lt; omega)).mono (Nat.le_refl _) (fun x hx hlt => by simp at hx; omega)
        exact EB.toEx (h1.trans h2)
      refine bodyPost_ret (results_cell_tmp rfl rfl hl8) rfl ⟨?_, hx8⟩
      rw [unhide HS]; rfl
    | succ g =>
      have hjl : j < ls.length := by omega
      have hj' : (j : Int) < (ls.length : Int) := by omega
      obtain ⟨l, hl⟩ : ∃ l, ls[j]? = some l := ⟨_, List.getElem?_eq_getElem hjl⟩
      have HLJ := hide hl
      obtain ⟨hs1, hs2⟩ := HLAB.out l (List.mem_of_getElem? hl)
      obtain ⟨b, c', rfl, hb, c0, c1⟩ : ∃ b c', p = some ⟨b, 0, none⟩ ∧ b < wr.heap.size ∧ wr.cell? ⟨b, j * 2, none⟩ = some (.string l.1) ∧ wr.cell? ⟨b, j * 2 + 1, none⟩ = some (.string l.2) := by
        rcases HV.out with ⟨h1, h2⟩ | ⟨b, c', h1, hb, hc⟩
        · rw [h2] at hjl; simp at hjl
        · cases h1
          obtain ⟨h3, h4⟩ := hc j l hl
          have hxw : EB w.heap.size [] w wr := ((EB.ofEx (HX01.out.trans HX12.out) (Nat.le_refl _))).trans (heb.mono (by omega) (fun x hx hlt => by simp at hx; omega))
          exact ⟨b, 0, rfl, Nat.lt_of_lt_of_le hb hxw.size, by rw [hxw.cell hb]; exact h3, by rw [hxw.cell hb]; exact h4⟩
      clear hls heb hl
      go_wp2_with fail
      obtain ⟨w3, hw3⟩ : ∃ w3, w3 = wr.alloc (Obj.cells #[.string l.1, .string l.2] 48) := ⟨_, rfl⟩
      rw [← hw3]
      have hb3 : BK w3 wr.heap.size (.cells #[.string l.1, .string l.2] 48 (0, 0)) := by rw [hw3]; exact BK.new _ _
      have hls3 : LS w3 w1.heap.size (w1.heap.size + 1) (acc j) := by rw [hw3]; exact HLS.out.alloc _
      have heb3 : EB (w1.heap.size + 1) [w1.heap.size] w2 w3 := by rw [hw3]; exact HEB.out.alloc hzr _
      have hlt3 : wr.heap.size < w3.heap.size := hb3.lt
      have HB3 := hide hb3
      have HLS3 := hide hls3
      have HEB3 := hide heb3
      obtain ⟨hc3, hf3⟩ := hb3.all
      clear hb3 hls3 heb3 hw3 c0 c1
      go_region_with (first
        | (go_at_call 42; refine (clone_any l.1 _ (by omega)).mono ?_; rintro e w4 ⟨rfl, hx4⟩; have hb4 := HB3.out.drew.ex hx4 (by simp); obtain ⟨hc4, hf4⟩ := hb4.all; have hlt4 : wr.heap.size < w4.heap.size := hb4.lt)
        | (go_at_call 42; refine (clone_any l.2 _ (by omega)).mono ?_; rintro e w5 ⟨rfl, hx5⟩)
        | (go_at_call 41; refine (HST.out.2 j l HLJ.out _ w1.heap.size (w1.heap.size + 1) ((HLS3.out.drew.ex' hx4 (by simp)).ex' hx5 (by simp))).mono ?_; rintro e w6 ⟨rfl, hls6, heb6⟩))
      all_goals
        have HLS6 := hide hls6
        have HEB6 : Hid (EB (w1.heap.size + 1) [w1.heap.size] w2 w6) := hide (((HEB3.out.drew.trans ((EB.ofEx hx4 (by simp; omega)).mono (Nat.le_refl _) (by simp))).trans ((EB.ofEx hx5 (by omega)).mono (Nat.le_refl _) (by simp))).trans heb6)
        clear hls6 heb6 hx4 hx5 hb4 hc4 hf4 hc3 hf3
        go_wp2_with fail
        go_roundg g
        case measure => omega
        case rel => exact ⟨j + 1, by omega, by simp, HLS6.out, HEB6.out⟩
end Go.Proofs.YtmeffeigamaipabGreatDoor
