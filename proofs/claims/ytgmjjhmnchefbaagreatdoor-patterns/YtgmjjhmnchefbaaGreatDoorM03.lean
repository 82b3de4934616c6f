/- C10 C11, one behind the other. -/
import Derived.Test.YtgmjjhmnchefbaaGreatDoorM02
import Derived.Lib.Overlaps
import Derived.Laws.Externs
set_option linter.unusedVariables false
set_option linter.unusedSimpArgs false
/- Contract of slices.Insert amid labels, where there is room. -/
namespace Go.Proofs.YtgmjjhmnchefbaaGreatDoor
open Go.RowKit

theorem sizeLab (w : World) : (Go.sizeOf 210).run Tryz.prog w = .ok 2 w := by kernel_rfl

set_option maxHeartbeats 2000000 in
set_option maxRecDepth 100000 in
theorem insert_room (base g n cap i vb : Nat) (xs : List Value) (l : Lab) (w : World) (hown : w.ownsRow base 210 2 (.slice (some ⟨g, 0, none⟩) n cap) n xs) (hi : i < n) (hr : n + 1 ≤ cap) (hn : n ≤ 200) (hp : Plain xs)
    (hv : BK w vb (.cells #[.string l.1, .string l.2] 210 (0, 0))) (hne : vb ≠ g) :
    Calls Tryz.prog 143 #[.slice (some ⟨g, 0, none⟩) n cap, .int .i64 i, .slice (some ⟨vb, 0, none⟩) 1 1] w fun e w' => e = .returned (.slice (some ⟨g, 0, none⟩) (n + 1) cap) ∧
      w'.ownsRow base 210 2 (.slice (some ⟨g, 0, none⟩) (n + 1) cap) (n + 1) (xs.take (i * 2) ++ [.string l.1, .string l.2] ++ xs.drop (i * 2)) ∧ Ex [g] w w' := by
  obtain ⟨t0, hti, hzz0, hzz1, hzz2⟩ := info_parts infoLab
  have hlen := hown.1
  obtain ⟨cur, hbg, hg, hcm, hcs, htake⟩ : ∃ cur, base ≤ g ∧ BK w g (.cells cur 210 (0, 0)) ∧ cap ≤ maxLen ∧ cur.size = cap * 2 ∧ cur.toList.take (n * 2) = xs := by
    rcases hown.2 with ⟨h, _⟩ | ⟨g', cap', cur, h, hbg, hg, hnc, hcm, hcs, htake⟩
    · cases h
    · cases h; exact ⟨cur, hbg, hg, hcm, hcs, htake⟩
  have hcm' : cap ≤ 9223372036854775807 := hcm
  have hov : ∀ lb cb, (callFunc 170 #[.slice (some ⟨vb, 0, none⟩) 1 1, .slice (some ⟨g, (i + 1) * 2, none⟩) lb cb]).run Tryz.prog w = .ok (.value (.bool false)) w := fun lb cb => by
    rw [run_callFunc_extern Tryz.func170 (by kernel_rfl) (by kernel_rfl) (by kernel_rfl) (e := Extern.SlicesOverlaps.overlaps #[207, 207] #[4]) (by kernel_rfl),
      Lib.run_overlaps_apart w 207 4 210 Tryz.underlying207 2 sizeLab ⟨vb, 0, none⟩ ⟨g, (i + 1) * 2, none⟩ 1 1 lb cb hne 210 210 2 (cap * 2) (by unfold World.shape?; rw [show w.heap[vb]? = _ from hv]; rfl) (by unfold World.shape?; rw [show w.heap[g]? = _ from hg]; simp [hcs]) (by omega) (hv.all.2 0) (hv.all.2 2)]
    rfl
  have hcp1 := run_copy_at (P := Tryz.prog) w.drew 207 207 3 210 t0 2 g ((i + 1) * 2) (n + 1 - (i + 1)) (cap - (i + 1)) ⟨g, i * 2, none⟩ (n + 1 - i) (cap - i) (n - i) cur 210 (xs.drop (i * 2))
    Tryz.underlying207 hti hzz1 hg.drew (by simp only [Nat.min_def]; split <;> omega) (by rw [List.length_drop, hlen]; omega)
    (fun j u hj => by rw [Addr.add_lit]; exact own_cell hown.drew (by rwa [List.getElem?_drop] at hj)) (by rw [List.length_drop, hlen, hcs]; omega) (fun u hu => hp u (List.mem_of_mem_drop hu))
  obtain ⟨w1, hw1⟩ : ∃ w1, w1 = w.drew.setRow g (cur.toList.take ((i + 1) * 2) ++ xs.drop (i * 2) ++ cur.toList.drop ((i + 1) * 2 + (xs.drop (i * 2)).length)).toArray := ⟨_, rfl⟩
  rw [← hw1] at hcp1
  rw [show n + 1 - (i + 1) = n - i by omega] at hcp1
  have hg1 : BK w1 g (.cells (cur.toList.take ((i + 1) * 2) ++ xs.drop (i * 2) ++ cur.toList.drop ((i + 1) * 2 + (xs.drop (i * 2)).length)).toArray 210 (0, 0)) := by rw [hw1]; exact setRow_heap _ _ _ _ _ _ hg.drew
  have hv1 : BK w1 vb (.cells #[.string l.1, .string l.2] 210 (0, 0)) := by rw [hw1]; unfold BK; rw [setRow_other _ _ _ _ hne]; exact hv.drew
  have hcp2 := run_copy_at (P := Tryz.prog) w1 207 207 3 210 t0 2 g (i * 2) (n + 1 - i) (cap - i) ⟨vb, 0, none⟩ 1 1 1 _ 210 [.string l.1, .string l.2]
    Tryz.underlying207 hti hzz1 hg1 (by simp only [Nat.min_def]; split <;> omega) rfl
    (fun j u hj => by rw [Addr.add_lit, Nat.zero_add, hv1.all.1]; simpa using hj) (by simp [hlen, hcs]; omega) (by simp [Value.oneCell'])
  have HX1 : Hid (Ex [g] w w1) := hide (by rw [hw1]; exact ((Ex.refl _ _).drew).setRow (.inl (by simp)) _)
  have HO := hide hown
  have HG1 := hide hg1
  have HT := hide htake
  have HCS := hide hcs
  have HL := hide hlen
  have hbg' := hbg
  have h1 : (i : Int) < (n : Int) := by omega
  have h2 : ¬ ((i : Int) = (n : Int)) := by omega
  have h3 : ¬ ((cap : Int) < (n : Int) + 1) := by omega
  have h4 : (n : Int) + 1 ≤ (cap : Int) := by omega
  have h5 : (i : Int) + 1 ≤ (n : Int) + 1 := by omega
  have h6 : ((i : Int) + 1).toNat = i + 1 := by omega
  have h7 : ((n : Int) + 1).toNat = n + 1 := by omega
  have h8 : ¬ cap = i + 1 := by omega
  have h9 : ¬ cap = i := by omega
  have h10 : i + 1 ≤ n + 1 := by omega
  have h11 : (0 : Int) ≤ (i : Int) + 1 := by omega
  have h12 : (0 : Int) ≤ (n : Int) + 1 := by omega
  have h13 : (i : Int) ≤ (n : Int) + 1 := by omega
  have h14 : i ≤ n + 1 := by omega
  have h15 : IntKind.i64.wrap ((i : Int) + 1) = (i : Int) + 1 := by rw [IntKind.wrap_i64]; omega
  have h16 : (i : Int) ≤ (n : Int) := by omega
  have h17 : i ≤ n := by omega
  clear hown hv hg hg1 hv1 hw1 htake hcs hlen hcm hp
  go_enter Tryz.func143, Tryz.ntmps143
  go_wp2_with (simp only [hov])
  go_region_law (refine step_copy_run rfl _ _ 207 207 rfl (.slice (some ⟨g, (i + 1) * 2, none⟩) (n - i) (cap - (i + 1))) (.slice (some ⟨g, i * 2, none⟩) (n + 1 - i) (cap - i)) (by simp [Act.eval, Act.put]) (by simp [Act.eval, Act.put]) hcp1 ?_)
  obtain ⟨w2, hw2⟩ : ∃ w2, w2 = w1.setRow g ((cur.toList.take ((i + 1) * 2) ++ xs.drop (i * 2) ++ cur.toList.drop ((i + 1) * 2 + (xs.drop (i * 2)).length)).take (i * 2) ++ [Value.string l.1, Value.string l.2] ++ (cur.toList.take ((i + 1) * 2) ++ xs.drop (i * 2) ++ cur.toList.drop ((i + 1) * 2 + (xs.drop (i * 2)).length)).drop (i * 2 + [Value.string l.1, .string l.2].length)).toArray := ⟨_, rfl⟩
  have hcp2' := hcp2
  rw [← hw2] at hcp2'
  have HW2 := hide hw2
  clear hcp1 hcp2 hw2
  go_wp2_with (at_builtin; refine wpList_copy_run _ rfl _ _ 207 207 rfl _ _ rfl rfl hcp2' ?_)
  go_ret
  have hfr := fit_row (xs := xs) (new := [Value.string l.1, .string l.2]) (cur := cur.toList) (a := i * 2) (l := n * 2) (m := 2) HT.out HL.out (by omega) rfl (by rw [Array.length_toList, HCS.out]; omega)
  have hdl : (xs.drop (i * 2)).length = n * 2 - i * 2 := by rw [List.length_drop, HL.out]
  refine ⟨rfl, ⟨?_, .inr ⟨g, cap, _, rfl, hbg', by rw [unhide HW2]; exact setRow_heap _ _ _ _ _ _ HG1.out, hr, hcm', ?_, ?_⟩⟩, ?_⟩
  · have := HL.out
    simp; omega
  · have := HL.out
    have := HCS.out
    simp; omega
  · rw [List.toList_toArray, hdl, show (i + 1) * 2 = i * 2 + 2 by omega, show (n + 1) * 2 = n * 2 + 2 by omega]
    exact hfr
  · rw [unhide HW2]
    exact HX1.out.setRow (.inl (by simp)) _
end Go.Proofs.YtgmjjhmnchefbaaGreatDoor

/- Contract of slices.Insert amid labels, where there is no room. -/
namespace Go.Proofs.YtgmjjhmnchefbaaGreatDoor
open Go.RowKit



theorem fill_row {xs new zs rest : List Value} {a l m : Nat} (hl : xs.length = l) (ha : a ≤ l) (hn : new.length = m) (hz : zs.length = l - a + m) :
    ((xs.take a ++ zs ++ rest).take a ++ new ++ (xs.take a ++ zs ++ rest).drop (a + m)).take (a + m) ++ xs.drop a ++ ((xs.take a ++ zs ++ rest).take a ++ new ++ (xs.take a ++ zs ++ rest).drop (a + m)).drop (a + m + (l - a)) = xs.take a ++ new ++ xs.drop a ++ rest := by
  have hta : (xs.take a).length = a := by simp; omega
  have h1 : (xs.take a ++ zs ++ rest).take a = xs.take a := by
    rw [List.append_assoc, List.take_append_of_le_length (by omega), List.take_of_length_le (by omega)]
  have h2 : (xs.take a ++ zs ++ rest).drop (a + m) = zs.drop m ++ rest := by
    rw [List.append_assoc, List.drop_append, List.drop_of_length_le (by omega), List.nil_append, hta, Nat.add_sub_cancel_left, List.drop_append_of_le_length (by omega)]
  rw [h1, h2]
  have h3 : (xs.take a ++ new ++ (zs.drop m ++ rest)).take (a + m) = xs.take a ++ new := by
    rw [List.take_append_of_le_length (by simp; omega), List.take_of_length_le (by simp; omega)]
  have h4 : (xs.take a ++ new ++ (zs.drop m ++ rest)).drop (a + m + (l - a)) = rest := by
    rw [← List.append_assoc, List.drop_append, List.drop_of_length_le (by simp; omega), List.nil_append]
    have : a + m + (l - a) - (xs.take a ++ new ++ zs.drop m).length = 0 := by simp; omega
    rw [this, List.drop_zero]
  rw [h3, h4]

theorem zeroCells_len (z : Array Value) (n : Nat) : (Builtin.zeroCells z n).size = n * z.size := by simp [Builtin.zeroCells]

set_option maxHeartbeats 2000000 in
set_option maxRecDepth 100000 in
theorem insert_grow (base g n i vb : Nat) (xs : List Value) (l : Lab) (w : World) (hown : w.ownsRow base 210 2 (.slice (some ⟨g, 0, none⟩) n n) n xs) (hi : i < n) (hn : n ≤ 200) (hp : Plain xs) (hb : base ≤ w.heap.size)
    (hv : BK w vb (.cells #[.string l.1, .string l.2] 210 (0, 0))) :
    Calls Tryz.prog 143 #[.slice (some ⟨g, 0, none⟩) n n, .int .i64 i, .slice (some ⟨vb, 0, none⟩) 1 1] w fun e w' => ∃ G, e = .returned (.slice (some ⟨w.heap.size, 0, none⟩) (n + 1) G) ∧
      w'.ownsRow base 210 2 (.slice (some ⟨w.heap.size, 0, none⟩) (n + 1) G) (n + 1) (xs.take (i * 2) ++ [.string l.1, .string l.2] ++ xs.drop (i * 2)) ∧ Ex [] w w' := by
  obtain ⟨t0, hti, hzz0, hzz1, hzz2⟩ := info_parts infoLab
  have hlen := hown.1
  have hgl : g < w.heap.size := (hown.lt g rfl).2
  have hvl := hv.lt
  have hown' : w.ownsRow base 210 t0.size (.slice (some ⟨g, 0, none⟩) n n) n xs := by rw [hzz1]; exact hown
  have hless : w.ownsRow base 210 t0.size (.slice (some ⟨g, 0, none⟩) i n) i (xs.take (i * 2)) := by rw [hzz1]; exact own_less hown (by omega)
  have hap := run_append_zeros_grow (P := Tryz.prog) w 207 3 207 210 t0 _ .i64 .i64 Tryz.underlying207 Tryz.underlying3 hti hzz0 base g i n (n + 1 - i) (xs.take (i * 2)) hless (by omega) (by rw [hzz1]; decide) (by omega) hn (by omega) (by rw [hzz2]; decide)
  rw [show i + (n + 1 - i) = n + 1 by omega] at hap
  obtain ⟨G, hG⟩ : ∃ G, grownCap w (n + 1) n 210 = G := ⟨_, rfl⟩
  have hGge : n + 1 ≤ G := by rw [← hG]; exact grownCap_ge _ _ _ _
  have hGle : G ≤ maxLen := by rw [← hG]; exact grownCap_le_maxLen _ _ _ _ (by unfold maxLen; omega)
  have hGle' : G ≤ 9223372036854775807 := hGle
  rw [hG] at hap
  obtain ⟨Z, hZ⟩ : ∃ Z, Z = Builtin.zeroCells (Value.agg #[.string ⟨#[]⟩, .string ⟨#[]⟩]).cells (n + 1 - i) := ⟨_, rfl⟩
  obtain ⟨Y, hY⟩ : ∃ Y, Y = Builtin.zeroCells (Value.agg #[.string ⟨#[]⟩, .string ⟨#[]⟩]).cells (G - (n + 1)) := ⟨_, rfl⟩
  have hZl : Z.toList.length = n * 2 - i * 2 + 2 := by rw [hZ, Array.length_toList, zeroCells_len]; show (n + 1 - i) * 2 = _; omega
  have hYl : Y.toList.length = (G - (n + 1)) * 2 := by rw [hY, Array.length_toList, zeroCells_len]; rfl
  rw [← hZ, ← hY] at hap
  obtain ⟨w1, hw1⟩ : ∃ w1, w1 = w.drew.alloc (.cells ((xs.take (i * 2)).toArray ++ Z ++ Y) 210) := ⟨_, rfl⟩
  rw [← hw1] at hap
  obtain ⟨C1, hC1⟩ : ∃ C1, C1 = (xs.take (i * 2)).toArray ++ Z ++ Y := ⟨_, rfl⟩
  have hC1l : C1.toList = xs.take (i * 2) ++ Z.toList ++ Y.toList := by rw [hC1]; simp
  have hC1s : C1.size = G * 2 := by rw [← Array.length_toList, hC1l]; simp [hlen] at *; omega
  have hb1 : BK w1 w.heap.size (.cells C1 210 (0, 0)) := by rw [hw1, hC1]; exact BK.new _ _
  have hv1 : BK w1 vb (.cells #[.string l.1, .string l.2] 210 (0, 0)) := by rw [hw1]; exact hv.drew.alloc _
  have hx1 : Ex [] w w1 := by rw [hw1]; exact ((Ex.refl _ _).drew).alloc _
  have ho1 : w1.ownsRow base 210 2 (.slice (some ⟨g, 0, none⟩) n n) n xs := by rw [hw1]; exact hown.drew.alloc _
  have hcp1 := run_copy_at (P := Tryz.prog) w1 207 207 3 210 t0 2 w.heap.size (i * 2) (n + 1 - i) (G - i) ⟨vb, 0, none⟩ 1 1 1 C1 210 [.string l.1, .string l.2]
    Tryz.underlying207 hti hzz1 hb1 (by simp only [Nat.min_def]; split <;> omega) rfl
    (fun j u hj => by rw [Addr.add_lit, Nat.zero_add, hv1.all.1]; simpa using hj) (by simp [hC1s]; omega) (by simp [Value.oneCell'])
  obtain ⟨C2, hC2⟩ : ∃ C2, C2 = C1.toList.take (i * 2) ++ [Value.string l.1, Value.string l.2] ++ C1.toList.drop (i * 2 + [Value.string l.1, Value.string l.2].length) := ⟨_, rfl⟩
  rw [← hC2] at hcp1
  obtain ⟨w2, hw2⟩ : ∃ w2, w2 = w1.setRow w.heap.size C2.toArray := ⟨_, rfl⟩
  rw [← hw2] at hcp1
  have hC2s : C2.toArray.size = G * 2 := by rw [hC2]; simp [hC1s]; omega
  have hb2 : BK w2 w.heap.size (.cells C2.toArray 210 (0, 0)) := by rw [hw2]; exact setRow_heap _ _ _ _ _ _ hb1
  have hx2 : Ex [] w w2 := by rw [hw2]; exact hx1.setRow (.inr (Nat.le_refl _)) _
  have ho2 : w2.ownsRow base 210 2 (.slice (some ⟨g, 0, none⟩) n n) n xs := by
    rw [hw2]
    exact own_exn ho1 ((Ex.refl _ _).setRow (l := [w.heap.size]) (.inl (by simp)) _) (fun k hk => by cases hk; simp; omega)
  have hcp2 := run_copy_at (P := Tryz.prog) w2.drew 207 207 3 210 t0 2 w.heap.size ((i + 1) * 2) (n - i) (G - (i + 1)) ⟨g, i * 2, none⟩ (n - i) (n - i) (n - i) C2.toArray 210 (xs.drop (i * 2))
    Tryz.underlying207 hti hzz1 hb2.drew (by simp only [Nat.min_def]; split <;> omega) (by rw [List.length_drop, hlen]; omega)
    (fun j u hj => by rw [Addr.add_lit]; exact own_cell ho2.drew (by rwa [List.getElem?_drop] at hj)) (by rw [List.length_drop, hlen, hC2s]; omega) (fun u hu => hp u (List.mem_of_mem_drop hu))
  obtain ⟨w3, hw3⟩ : ∃ w3, w3 = w2.drew.setRow w.heap.size (C2.toArray.toList.take ((i + 1) * 2) ++ xs.drop (i * 2) ++ C2.toArray.toList.drop ((i + 1) * 2 + (xs.drop (i * 2)).length)).toArray := ⟨_, rfl⟩
  rw [← hw3] at hcp2
  have hb3 : BK w3 w.heap.size (.cells (C2.toArray.toList.take ((i + 1) * 2) ++ xs.drop (i * 2) ++ C2.toArray.toList.drop ((i + 1) * 2 + (xs.drop (i * 2)).length)).toArray 210 (0, 0)) := by rw [hw3]; exact setRow_heap _ _ _ _ _ _ hb2.drew
  have hx3 : Ex [] w w3 := by rw [hw3]; exact hx2.drew.setRow (.inr (Nat.le_refl _)) _
  have hrow : (C2.toArray.toList.take ((i + 1) * 2) ++ xs.drop (i * 2) ++ C2.toArray.toList.drop ((i + 1) * 2 + (xs.drop (i * 2)).length)) = xs.take (i * 2) ++ [.string l.1, .string l.2] ++ xs.drop (i * 2) ++ Y.toList := by
    have h := fill_row (xs := xs) (new := [Value.string l.1, .string l.2]) (zs := Z.toList) (rest := Y.toList) (a := i * 2) (l := n * 2) (m := 2) hlen (by omega) rfl hZl
    rw [List.toList_toArray, hC2, hC1l, List.length_drop, hlen, show (i + 1) * 2 = i * 2 + 2 by omega]
    exact h
  rw [hrow] at hb3
  have HB3 := hide hb3
  have HX3 := hide hx3
  have HYL := hide hYl
  have HL := hide hlen
  have hC : ¬ ((i : Int) = (n : Int)) := by omega
  have h1 : (i : Int) < (n : Int) := by omega
  have h3 : (n : Int) < (n : Int) + 1 := by omega
  have h4 : i ≤ n := by omega
  have h5 : (i : Int) ≤ (n : Int) + 1 := by omega
  have h6 : ((i : Int) + 1).toNat = i + 1 := by omega
  have h8 : ¬ G = i := by omega
  have h9 : ¬ G = i + 1 := by omega
  have h10 : ¬ n = i := by omega
  have h11 : (0 : Int) ≤ (i : Int) + 1 := by omega
  have h12 : i ≤ n + 1 := by omega
  have h15 : IntKind.i64.wrap ((i : Int) + 1) = (i : Int) + 1 := by rw [IntKind.wrap_i64]; omega
  have h16 : (i : Int) ≤ (n : Int) := by omega
  have h17 : IntKind.i64.wrap ((n : Int) + 1 - (i : Int)) = ((n + 1 - i : Nat) : Int) := by rw [IntKind.wrap_i64]; omega
  have h18 : (n : Int) + 1 - (i : Int) = ((n + 1 - i : Nat) : Int) := by omega
  clear hown hown' hless hv hv1 hb1 hx1 ho1 hb2 hx2 ho2 hb3 hx3 hw1 hw2 hw3 hC1 hC1l hC1s hC2 hC2s hZ hY hZl hYl hlen hp hrow hG
  go_enter Tryz.func143, Tryz.ntmps143
  go_wp2_with (first
    | (at_builtin; refine Lib.wpList_append_run _ rfl _ _ 207 3 rfl _ _ rfl rfl _ _ hap ?_)
    | (at_builtin; refine wpList_copy_run _ rfl _ _ 207 207 rfl _ _ rfl rfl hcp1 ?_))
  go_region_law (refine step_copy_run rfl _ _ 207 207 rfl (.slice (some ⟨w.heap.size, (i + 1) * 2, none⟩) (n - i) (G - (i + 1))) (.slice (some ⟨g, i * 2, none⟩) (n - i) (n - i)) (by simp [Act.eval, Act.put]) (by simp [Act.eval, Act.put]) hcp2 ?_)
  go_wp2_with fail
  go_ret
  have hyl := unhide HYL
  have hl := unhide HL
  refine ⟨G, rfl, ⟨by simp; omega, .inr ⟨w.heap.size, G, _, rfl, hb, HB3.out, hGge, hGle, ?_, ?_⟩⟩, HX3.out⟩
  · rw [List.size_toArray, List.length_append, hyl]
    simp
    omega
  · rw [List.toList_toArray, List.take_append_of_le_length (by simp; omega), List.take_of_length_le (by simp; omega)]

theorem insertLab (base n i vb : Nat) (v : Value) (xs : List Value) (l : Lab) (w : World) (hown : w.ownsRow base 210 2 v n xs) (hi : i ≤ n) (hn : n ≤ 200) (hp : Plain xs) (hb : base ≤ w.heap.size)
    (hv : BK w vb (.cells #[.string l.1, .string l.2] 210 (0, 0))) (hne : v.ownBlock ≠ some vb) :
    Calls Tryz.prog 143 #[v, .int .i64 i, .slice (some ⟨vb, 0, none⟩) 1 1] w fun e w' => ∃ v', e = .returned v' ∧
      w'.ownsRow base 210 2 v' (n + 1) (xs.take (i * 2) ++ [.string l.1, .string l.2] ++ xs.drop (i * 2)) ∧ Ex v.ownBlock.toList w w' ∧ (v'.ownBlock = v.ownBlock ∨ v'.ownBlock = some w.heap.size) := by
  by_cases hin : i = n
  · subst hin
    refine (insertEnd base i vb v xs l w hown (by omega) hb hv).mono ?_
    rintro e w' ⟨v', rfl, ho, hg, hl⟩
    refine ⟨v', rfl, ?_, (Ex.refl _ _).grown hg (fun k hk => .inl (by rw [hk]; simp)), hl.imp Eq.symm id⟩
    rw [List.take_of_length_le (by rw [hown.1]; exact Nat.le_refl _), List.drop_of_length_le (by rw [hown.1]; exact Nat.le_refl _), List.append_nil]
    exact ho
  · rcases hown.2 with ⟨_, h0⟩ | ⟨g, cap, cur, rfl, hbg, hg, hnc, hcm, hcs, ht⟩
    · omega
    by_cases hr : n + 1 ≤ cap
    · refine (insert_room base g n cap i vb xs l w hown (by omega) hr hn hp hv (fun e => hne (by rw [e]; rfl))).mono ?_
      rintro e w' ⟨rfl, ho, hx⟩
      exact ⟨_, rfl, ho, hx, .inl rfl⟩
    · obtain rfl : cap = n := by omega
      refine (insert_grow base g cap i vb xs l w hown (by omega) hn hp hb hv).mono ?_
      rintro e w' ⟨G, rfl, ho, hx⟩
      exact ⟨_, rfl, ho, hx.drop (by simp), .inr rfl⟩
end Go.Proofs.YtgmjjhmnchefbaaGreatDoor
