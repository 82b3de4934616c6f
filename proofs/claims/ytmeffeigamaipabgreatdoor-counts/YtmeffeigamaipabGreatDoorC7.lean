/- Contracts of (*series.Labels).Set, where the label comes behind all others and is there. -/
import Derived.Test.YtmeffeigamaipabGreatDoorC6
import Derived.Deep.RegionHeld3
set_option linter.unusedVariables false
set_option linter.unusedSimpArgs false
namespace Go.Proofs.YtmeffeigamaipabGreatDoor
open Go.RowKit

theorem take_cells (ls : List Lab) (i : Nat) : (cellsOfL ls).take (i * 2) = cellsOfL (ls.take i) := by
  induction ls generalizing i with
  | nil => simp [cellsOfL]
  | cons a r ih =>
    cases i with
    | zero => simp [cellsOfL]
    | succ i =>
      have := ih i
      simp only [cellsOfL, List.flatMap_cons, List.take_succ_cons, List.cons_append, List.nil_append] at this ⊢
      rw [show (i + 1) * 2 = i * 2 + 1 + 1 by omega, List.take_succ_cons, List.take_succ_cons, this]
theorem drop_cells (ls : List Lab) (i : Nat) : (cellsOfL ls).drop (i * 2) = cellsOfL (ls.drop i) := by
  induction ls generalizing i with
  | nil => simp [cellsOfL]
  | cons a r ih =>
    cases i with
    | zero => simp [cellsOfL]
    | succ i =>
      have := ih i
      simp only [cellsOfL, List.flatMap_cons, List.drop_succ_cons, List.cons_append, List.nil_append] at this ⊢
      rw [show (i + 1) * 2 = i * 2 + 1 + 1 by omega, List.drop_succ_cons, List.drop_succ_cons, this]

set_option maxHeartbeats 2000000 in
set_option maxRecDepth 100000 in
/-- A name that is there, greater than all others. -/
theorem set_again (q base : Nat) (ls : List Lab) (a v : ByteArray) (w : World) (hq : LS w q base ls) (hn : ls.length ≤ 60) (hsrt : SortedFor ls a) (hp : posN ls a + 1 = ls.length) (ht : thereN ls a = true) (hv0 : ¬ v.size = 0) (hv : v.size ≤ 200) :
    Calls Tryz.prog 41 #[.pointer (some ⟨q, 0, none⟩), .string a, .string v] w fun e w' => e = .returned (.tuple #[]) ∧ LS w' q base (ls.take (posN ls a) ++ [(a, v)]) ∧ EB base [q] w w' := by
  have HQ := hide hq
  have HS := hide hsrt
  have hqb := hq.lt
  have hle := hq.le
  have hem := nonempty_list hv0
  clear hq hsrt
  obtain ⟨n, hpn⟩ : ∃ n, posN ls a = n := ⟨_, rfl⟩
  rw [hpn] at hp ⊢
  go_enter Tryz.func41, Tryz.ntmps41
  go_wp2_with fail
  refine (find_any q base ls a _ HQ.out (by omega) HS.out).mono ?_
  rintro e w1 ⟨rfl, hx1⟩
  rw [ht, hpn]
  have hb1 : ∃ v0, BK w1 q (.cells #[v0] 98 (0, 0)) ∧ w1.ownsRow base 48 2 v0 (n + 1) (cellsOfL ls) := by
    obtain ⟨v0, hb, ho⟩ := HQ.out.ex
    rw [hp]
    exact ⟨v0, hb.ex hx1 (by simp), own_ex ho hx1 (by simp)⟩
  obtain ⟨v0, hb1, ho1⟩ := hb1
  have hz1 := hx1.size
  have HX1 := hide hx1
  have HB1 := hide hb1
  have HO1 := hide ho1
  have hql := hb1.lt
  obtain ⟨g, cap, rfl, hgb⟩ : ∃ g cap, v0 = .slice (some ⟨g, 0, none⟩) (n + 1) cap ∧ base ≤ g := by
    rcases ho1.2 with ⟨_, h⟩ | ⟨g, cap, cur, h, hb, _⟩
    · omega
    · exact ⟨g, cap, h, hb⟩
  obtain ⟨hc, hf⟩ := hb1.all
  have hn1 : n + 1 ≤ 60 := by omega
  have HP := hide hp
  have HPN := hide hpn
  clear hx1 hb1 ho1 ht hp hpn
  go_wp2_with fail
  refine (deleteLab base g (n + 1) cap n (cellsOfL ls) _ HO1.out (by omega) (by omega) (flat_plain ls)).mono ?_
  rintro e w2 ⟨rfl, ho2, hx2⟩
  have hdl : (cellsOfL ls).take (n * 2) ++ (cellsOfL ls).drop ((n + 1) * 2) = cellsOfL (ls.take n) := by
    rw [take_cells, List.drop_of_length_le (by rw [flat_len, ← HP.out]; exact Nat.le_refl _), List.append_nil]
  rw [hdl] at ho2
  simp only [Nat.add_sub_cancel] at ho2 ⊢
  have hb2 := HB1.out.ex hx2 (by simp; omega)
  have HB2 := hide hb2
  have HO2 := hide ho2
  have HX2 := hide hx2
  have hz2 := hx2.size
  clear hdl hc hf
  obtain ⟨hc, hf⟩ := hb2.all
  clear hb2 ho2 hx2
  have hn'' : ((n : Int) == 60) = false := by rw [beq_eq_false_iff_ne]; omega
  go_wp2_with fail
  obtain ⟨w3, hw3⟩ : ∃ w3, w3 = w2.setCell ⟨q, 0, none⟩ (.slice (some ⟨g, 0, none⟩) n cap) := ⟨_, rfl⟩
  rw [← hw3]
  have hb3 : BK w3 q (.cells #[.slice (some ⟨g, 0, none⟩) n cap] 98 (0, 0)) := by rw [hw3]; exact HB2.out.self 0 _
  have ho3 : w3.ownsRow base 48 2 (.slice (some ⟨g, 0, none⟩) n cap) n (cellsOfL (ls.take n)) := by rw [hw3]; exact own_set HO2.out hqb _
  have hx3 : EB base [q] w w3 := by
    rw [hw3]
    exact (((EB.ofEx HX1.out hle).mono (Nat.le_refl _) (by simp) : EB base [q] w w1).trans ((EB.ofEx HX2.out (by omega)).mono (Nat.le_refl _) (fun x hx hlt => by simp at hx; omega))).setCell (.inl (by simp)) _
  have hz3 : w.heap.size ≤ w3.heap.size := hx3.size
  have HB3 := hide hb3
  have HO3 := hide ho3
  have HX3 := hide hx3
  clear hw3 hc hf
  have hc : w3.cell? ⟨q, 0, none⟩ = some (.slice (some ⟨g, 0, none⟩) n cap) := hb3.all.1 0
  have hf : w3.frozen? ⟨q, 0, none⟩ = false := hb3.all.2 0
  have hq3 : q < w3.heap.size := hb3.lt
  clear hb3 ho3 hx3 HB2 HO2 HX2 HX1 HB1 HO1 hz2 hz1 hql hn''
  go_region_with (first
    | (go_at_call 64; refine (cut_short v _ hv).mono ?_; rintro e w4 ⟨rfl, rfl⟩)
    | (go_at_call 63; refine (insertEnd base n w3.heap.size _ (cellsOfL (ls.take n)) (a, v) _ (HO3.out.drew.alloc _) (by omega) (by simp; omega) ((BK.new _ _))).mono ?_; rintro e w5 ⟨v5, rfl, ho5, hg5, hl5⟩; obtain ⟨p5, c5, rfl⟩ := own_slice ho5; have hb5 := BK.grown ((HB3.out.drew.alloc (Obj.cells #[.string a, .string v] 48))) hg5 (fun e => by have h9 := own_block HO3.out q e; omega); obtain ⟨hc5, hf5⟩ := hb5.all))
  all_goals
    have HG5 := hide hg5
    have HO5 := hide ho5
    have HB5 := hide hb5
    clear hg5 ho5 hb5 hl5 hc hf hc5 hf5
    go_end0
    have hz5 : w3.heap.size + 1 ≤ w5.heap.size := by have := HG5.out.size; simpa using this
    refine ⟨rfl, LS.mk' hqb (by simp; omega) (BK.self HB5.out 0 _) (own_set HO5.out hqb _) (by have := HP.out; simp; omega) (cells_snoc (ls.take n) (a, v)), ?_⟩
    exact (((HX3.out.drew.alloc (by simp; omega) _).grown HG5.out (by simp; omega) (fun k hk => .inr (own_block HO3.out k hk))).setCell (.inl (by simp)) _)
end Go.Proofs.YtmeffeigamaipabGreatDoor
