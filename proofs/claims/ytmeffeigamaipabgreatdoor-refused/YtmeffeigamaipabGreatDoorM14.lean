/- Contract of slices.Insert amid labels, where there is no room. -/
import Derived.Test.YtmeffeigamaipabGreatDoorM13
import Derived.Lib.Overlaps
import Derived.Laws.Externs
set_option linter.unusedVariables false
set_option linter.unusedSimpArgs false
namespace Go.Proofs.YtmeffeigamaipabGreatDoor
open Go.RowKit



/-- The row that was grown, filled. -/
theorem fill_row {xs new zs rest : List Value} {a l m : Nat} (hl : xs.length = l) (ha : a ≤ l) (hn : new.length = m) (hz : zs.length = l - a + m) :
    ((xs.take a ++ zs ++ rest).take a ++ new ++ (xs.take a ++ zs ++ rest).drop (a + m)).take (a + m) ++ xs.drop a ++ ((xs.take a ++ zs ++ rest).take a ++ new ++ (xs.take a ++ zs ++ rest).drop (a + m)).drop (a + m + (l - a)) = xs.take a ++ new ++ xs.drop a ++ rest := by
  have hta : (xs.take a).length = a := by simp; omega
  have h1 : (xs.take a ++ zs ++ rest).take a = xs.take a := by
    rw [List.append_assoc, List.take_append_of_le_length (by omega), List.take_of_length_le (by omega)]
  have h2 : (xs.take a ++ zs ++ rest).drop (a + m) = zs.drop m ++ rest := by
    rw [List.append_assoc, List.drop_append, List.drop_of_length_le (by omega), List.nil_append, hta, Nat.add_sub_cancel_left, List.drop_append_of_le_length (by omega)]
  rw [h1, h2]
  have h3 : (xs.take a ++ new ++ (zs.drop m ++ rest)).take (a + m) = xs.take a ++ new := by
    rw [List.take_append_of_le_length (by simp; omega), List.take_of_length_le (by simp; omega)]
  have h4 : (xs.take a ++ new ++ (zs.drop m ++ rest)).drop (a + m + (l - a)) = rest := by
    rw [← List.append_assoc, List.drop_append, List.drop_of_length_le (by simp; omega), List.nil_append]
    have : a + m + (l - a) - (xs.take a ++ new ++ zs.drop m).length = 0 := by simp; omega
    rw [this, List.drop_zero]
  rw [h3, h4]

theorem zeroCells_len (z : Array Value) (n : Nat) : (Builtin.zeroCells z n).size = n * z.size := by simp [Builtin.zeroCells]

set_option maxHeartbeats 2000000 in
set_option maxRecDepth 100000 in
theorem insert_grow (base g n i vb : Nat) (xs : List Value) (l : Lab) (w : World) (hown : w.ownsRow base 48 2 (.slice (some ⟨g, 0, none⟩) n n) n xs) (hi : i < n) (hn : n ≤ 200) (hp : Plain xs) (hb : base ≤ w.heap.size)
    (hv : BK w vb (.cells #[.string l.1, .string l.2] 48 (0, 0))) :
    Calls Tryz.prog 63 #[.slice (some ⟨g, 0, none⟩) n n, .int .i64 i, .slice (some ⟨vb, 0, none⟩) 1 1] w fun e w' => ∃ G, e = .returned (.slice (some ⟨w.heap.size, 0, none⟩) (n + 1) G) ∧
      w'.ownsRow base 48 2 (.slice (some ⟨w.heap.size, 0, none⟩) (n + 1) G) (n + 1) (xs.take (i * 2) ++ [.string l.1, .string l.2] ++ xs.drop (i * 2)) ∧ Ex [] w w' := by
  obtain ⟨t0, hti, hzz0, hzz1, hzz2⟩ := info_parts infoLab
  have hlen := hown.1
  have hgl : g < w.heap.size := (hown.lt g rfl).2
  have hvl := hv.lt
  have hown' : w.ownsRow base 48 t0.size (.slice (some ⟨g, 0, none⟩) n n) n xs := by rw [hzz1]; exact hown
  have hless : w.ownsRow base 48 t0.size (.slice (some ⟨g, 0, none⟩) i n) i (xs.take (i * 2)) := by rw [hzz1]; exact own_less hown (by omega)
  have hap := run_append_zeros_grow (P := Tryz.prog) w 23 3 23 48 t0 _ .i64 .i64 Tryz.underlying23 Tryz.underlying3 hti hzz0 base g i n (n + 1 - i) (xs.take (i * 2)) hless (by omega) (by rw [hzz1]; decide) (by omega) hn (by omega) (by rw [hzz2]; decide)
  rw [show i + (n + 1 - i) = n + 1 by omega] at hap
  obtain ⟨G, hG⟩ : ∃ G, grownCap w (n + 1) n 48 = G := ⟨_, rfl⟩
  have hGge : n + 1 ≤ G := by rw [← hG]; exact grownCap_ge _ _ _ _
  have hGle : G ≤ maxLen := by rw [← hG]; exact grownCap_le_maxLen _ _ _ _ (by unfold maxLen; omega)
  have hGle' : G ≤ 9223372036854775807 := hGle
  rw [hG] at hap
  obtain ⟨Z, hZ⟩ : ∃ Z, Z = Builtin.zeroCells (Value.agg #[.string ⟨#[]⟩, .string ⟨#[]⟩]).cells (n + 1 - i) := ⟨_, rfl⟩
  obtain ⟨Y, hY⟩ : ∃ Y, Y = Builtin.zeroCells (Value.agg #[.string ⟨#[]⟩, .string ⟨#[]⟩]).cells (G - (n + 1)) := ⟨_, rfl⟩
  have hZl : Z.toList.length = n * 2 - i * 2 + 2 := by rw [hZ, Array.length_toList, zeroCells_len]; show (n + 1 - i) * 2 = _; omega
  have hYl : Y.toList.length = (G - (n + 1)) * 2 := by rw [hY, Array.length_toList, zeroCells_len]; rfl
  rw [← hZ, ← hY] at hap
  obtain ⟨w1, hw1⟩ : ∃ w1, w1 = w.drew.alloc (.cells ((xs.take (i * 2)).toArray ++ Z ++ Y) 48) := ⟨_, rfl⟩
  rw [← hw1] at hap
  obtain ⟨C1, hC1⟩ : ∃ C1, C1 = (xs.take (i * 2)).toArray ++ Z ++ Y := ⟨_, rfl⟩
  have hC1l : C1.toList = xs.take (i * 2) ++ Z.toList ++ Y.toList := by rw [hC1]; simp
  have hC1s : C1.size = G * 2 := by rw [← Array.length_toList, hC1l]; simp [hlen] at *; omega
  have hb1 : BK w1 w.heap.size (.cells C1 48 (0, 0)) := by rw [hw1, hC1]; exact BK.new _ _
  have hv1 : BK w1 vb (.cells #[.string l.1, .string l.2] 48 (0, 0)) := by rw [hw1]; exact hv.drew.alloc _
  have hx1 : Ex [] w w1 := by rw [hw1]; exact ((Ex.refl _ _).drew).alloc _
  have ho1 : w1.ownsRow base 48 2 (.slice (some ⟨g, 0, none⟩) n n) n xs := by rw [hw1]; exact hown.drew.alloc _
  have hcp1 := run_copy_at (P := Tryz.prog) w1 23 23 3 48 t0 2 w.heap.size (i * 2) (n + 1 - i) (G - i) ⟨vb, 0, none⟩ 1 1 1 C1 48 [.string l.1, .string l.2]
    Tryz.underlying23 hti hzz1 hb1 (by simp only [Nat.min_def]; split <;> omega) rfl
    (fun j u hj => by rw [Addr.add_lit, Nat.zero_add, hv1.all.1]; simpa using hj) (by simp [hC1s]; omega) (by simp [Value.oneCell'])
  obtain ⟨C2, hC2⟩ : ∃ C2, C2 = C1.toList.take (i * 2) ++ [Value.string l.1, Value.string l.2] ++ C1.toList.drop (i * 2 + [Value.string l.1, Value.string l.2].length) := ⟨_, rfl⟩
  rw [← hC2] at hcp1
  obtain ⟨w2, hw2⟩ : ∃ w2, w2 = w1.setRow w.heap.size C2.toArray := ⟨_, rfl⟩
  rw [← hw2] at hcp1
  have hC2s : C2.toArray.size = G * 2 := by rw [hC2]; simp [hC1s]; omega
  have hb2 : BK w2 w.heap.size (.cells C2.toArray 48 (0, 0)) := by rw [hw2]; exact setRow_heap _ _ _ _ _ _ hb1
  have hx2 : Ex [] w w2 := by rw [hw2]; exact hx1.setRow (.inr (Nat.le_refl _)) _
  have ho2 : w2.ownsRow base 48 2 (.slice (some ⟨g, 0, none⟩) n n) n xs := by
    rw [hw2]
    exact own_exn ho1 ((Ex.refl _ _).setRow (l := [w.heap.size]) (.inl (by simp)) _) (fun k hk => by cases hk; simp; omega)
  have hcp2 := run_copy_at (P := Tryz.prog) w2.drew 23 23 3 48 t0 2 w.heap.size ((i + 1) * 2) (n - i) (G - (i + 1)) ⟨g, i * 2, none⟩ (n - i) (n - i) (n - i) C2.toArray 48 (xs.drop (i * 2))
    Tryz.underlying23 hti hzz1 hb2.drew (by simp only [Nat.min_def]; split <;> omega) (by rw [List.length_drop, hlen]; omega)
    (fun j u hj => by rw [Addr.add_lit]; exact own_cell ho2.drew (by rwa [List.getElem?_drop] at hj)) (by rw [List.length_drop, hlen, hC2s]; omega) (fun u hu => hp u (List.mem_of_mem_drop hu))
  obtain ⟨w3, hw3⟩ : ∃ w3, w3 = w2.drew.setRow w.heap.size (C2.toArray.toList.take ((i + 1) * 2) ++ xs.drop (i * 2) ++ C2.toArray.toList.drop ((i + 1) * 2 + (xs.drop (i * 2)).length)).toArray := ⟨_, rfl⟩
  rw [← hw3] at hcp2
  have hb3 : BK w3 w.heap.size (.cells (C2.toArray.toList.take ((i + 1) * 2) ++ xs.drop (i * 2) ++ C2.toArray.toList.drop ((i + 1) * 2 + (xs.drop (i * 2)).length)).toArray 48 (0, 0)) := by rw [hw3]; exact setRow_heap _ _ _ _ _ _ hb2.drew
  have hx3 : Ex [] w w3 := by rw [hw3]; exact hx2.drew.setRow (.inr (Nat.le_refl _)) _
  have hrow : (C2.toArray.toList.take ((i + 1) * 2) ++ xs.drop (i * 2) ++ C2.toArray.toList.drop ((i + 1) * 2 + (xs.drop (i * 2)).length)) = xs.take (i * 2) ++ [.string l.1, .string l.2] ++ xs.drop (i * 2) ++ Y.toList := by
    have h := fill_row (xs := xs) (new := [Value.string l.1, .string l.2]) (zs := Z.toList) (rest := Y.toList) (a := i * 2) (l := n * 2) (m := 2) hlen (by omega) rfl hZl
    rw [List.toList_toArray, hC2, hC1l, List.length_drop, hlen, show (i + 1) * 2 = i * 2 + 2 by omega]
    exact h
  rw [hrow] at hb3
  have HB3 := hide hb3
  have HX3 := hide hx3
  have HYL := hide hYl
  have HL := hide hlen
  have hC : ¬ ((i : Int) = (n : Int)) := by omega
  have h1 : (i : Int) < (n : Int) := by omega
  have h3 : (n : Int) < (n : Int) + 1 := by omega
  have h4 : i ≤ n := by omega
  have h5 : (i : Int) ≤ (n : Int) + 1 := by omega
  have h6 : ((i : Int) + 1).toNat = i + 1 := by omega
  have h8 : ¬ G = i := by omega
  have h9 : ¬ G = i + 1 := by omega
  have h10 : ¬ n = i := by omega
  have h11 : (0 : Int) ≤ (i : Int) + 1 := by omega
  have h12 : i ≤ n + 1 := by omega
  have h15 : IntKind.i64.wrap ((i : Int) + 1) = (i : Int) + 1 := by rw [IntKind.wrap_i64]; omega
  have h16 : (i : Int) ≤ (n : Int) := by omega
  have h17 : IntKind.i64.wrap ((n : Int) + 1 - (i : Int)) = ((n + 1 - i : Nat) : Int) := by rw [IntKind.wrap_i64]; omega
  have h18 : (n : Int) + 1 - (i : Int) = ((n + 1 - i : Nat) : Int) := by omega
  clear hown hown' hless hv hv1 hb1 hx1 ho1 hb2 hx2 ho2 hb3 hx3 hw1 hw2 hw3 hC1 hC1l hC1s hC2 hC2s hZ hY hZl hYl hlen hp hrow hG
  go_enter Tryz.func63, Tryz.ntmps63
  go_wp2_with (first
    | (at_builtin; refine Lib.wpList_append_run _ rfl _ _ 23 3 rfl _ _ rfl rfl _ _ hap ?_)
    | (at_builtin; refine wpList_copy_run _ rfl _ _ 23 23 rfl _ _ rfl rfl hcp1 ?_))
  go_region_law (refine step_copy_run rfl _ _ 23 23 rfl (.slice (some ⟨w.heap.size, (i + 1) * 2, none⟩) (n - i) (G - (i + 1))) (.slice (some ⟨g, i * 2, none⟩) (n - i) (n - i)) (by simp [Act.eval, Act.put]) (by simp [Act.eval, Act.put]) hcp2 ?_)
  go_wp2_with fail
  go_ret
  have hyl := unhide HYL
  have hl := unhide HL
  refine ⟨G, rfl, ⟨by simp; omega, .inr ⟨w.heap.size, G, _, rfl, hb, HB3.out, hGge, hGle, ?_, ?_⟩⟩, HX3.out⟩
  · rw [List.size_toArray, List.length_append, hyl]
    simp
    omega
  · rw [List.toList_toArray, List.take_append_of_le_length (by simp; omega), List.take_of_length_le (by simp; omega)]

/-- slices.Insert at whatever place. -/
theorem insertLab (base n i vb : Nat) (v : Value) (xs : List Value) (l : Lab) (w : World) (hown : w.ownsRow base 48 2 v n xs) (hi : i ≤ n) (hn : n ≤ 200) (hp : Plain xs) (hb : base ≤ w.heap.size)
    (hv : BK w vb (.cells #[.string l.1, .string l.2] 48 (0, 0))) (hne : v.ownBlock ≠ some vb) :
    Calls Tryz.prog 63 #[v, .int .i64 i, .slice (some ⟨vb, 0, none⟩) 1 1] w fun e w' => ∃ v', e = .returned v' ∧
      w'.ownsRow base 48 2 v' (n + 1) (xs.take (i * 2) ++ [.string l.1, .string l.2] ++ xs.drop (i * 2)) ∧ Ex v.ownBlock.toList w w' ∧ (v'.ownBlock = v.ownBlock ∨ v'.ownBlock = some w.heap.size) := by
  by_cases hin : i = n
  · subst hin
    refine (insertEnd base i vb v xs l w hown (by omega) hb hv).mono ?_
    rintro e w' ⟨v', rfl, ho, hg, hl⟩
    refine ⟨v', rfl, ?_, (Ex.refl _ _).grown hg (fun k hk => .inl (by rw [hk]; simp)), hl.imp Eq.symm id⟩
    rw [List.take_of_length_le (by rw [hown.1]; exact Nat.le_refl _), List.drop_of_length_le (by rw [hown.1]; exact Nat.le_refl _), List.append_nil]
    exact ho
  · rcases hown.2 with ⟨_, h0⟩ | ⟨g, cap, cur, rfl, hbg, hg, hnc, hcm, hcs, ht⟩
    · omega
    by_cases hr : n + 1 ≤ cap
    · refine (insert_room base g n cap i vb xs l w hown (by omega) hr hn hp hv (fun e => hne (by rw [e]; rfl))).mono ?_
      rintro e w' ⟨rfl, ho, hx⟩
      exact ⟨_, rfl, ho, hx, .inl rfl⟩
    · obtain rfl : cap = n := by omega
      refine (insert_grow base g cap i vb xs l w hown (by omega) hn hp hb hv).mono ?_
      rintro e w' ⟨G, rfl, ho, hx⟩
      exact ⟨_, rfl, ho, hx.drop (by simp), .inr rfl⟩
end Go.Proofs.YtmeffeigamaipabGreatDoor
