/- C12 Shelf2, one behind the other. -/
import Derived.Test.YtgmjjhmnchefbaaGreatDoorM03
import Derived.Test.YtgmjjhmnchefbaaGreatDoorM02
import Derived.Shelf.Strings.OnBuilder
import Derived.Test.YtgmjjhmnchefbaaGreatDoorProg
set_option linter.unusedVariables false
set_option linter.unusedSimpArgs false
/- Contract of (*series.Labels).Set at whatever labels. -/
namespace Go.Proofs.YtgmjjhmnchefbaaGreatDoor
open Go.RowKit

def cutB (v : ByteArray) : ByteArray := if 200 < v.size then v.extract 0 200 else v
def offL (ls : List Lab) (a : ByteArray) : List Lab := if thereN ls a then ls.take (posN ls a) ++ ls.drop (posN ls a + 1) else ls
def setL (ls : List Lab) (a v : ByteArray) : List Lab :=
  if v.size = 0 ∨ (offL ls a).length = 60 then offL ls a else (offL ls a).take (posN ls a) ++ [(a, cutB v)] ++ (offL ls a).drop (posN ls a)

structure LT (w : World) (q base : Nat) (ls : List Lab) : Prop where
  le : base ≤ w.heap.size
  ex : ∃ v, BK w q (.cells #[v] 232 (0, 0)) ∧ w.ownsRow base 210 2 v ls.length (cellsOfL ls) ∧ v.ownBlock ≠ some q

structure LTN (w : World) (q base : Nat) (ls : List Lab) (o : Option Nat) (S : Nat) : Prop where
  le : base ≤ w.heap.size
  ex : ∃ v, BK w q (.cells #[v] 232 (0, 0)) ∧ w.ownsRow base 210 2 v ls.length (cellsOfL ls) ∧ v.ownBlock ≠ some q ∧ ∀ k, v.ownBlock = some k → o = some k ∨ S ≤ k
theorem LTN.lt {w : World} {q base : Nat} {ls : List Lab} {o : Option Nat} {S : Nat} (h : LTN w q base ls o S) : LT w q base ls := by
  obtain ⟨v, h1, h2, h3, _⟩ := h.ex
  exact ⟨h.le, v, h1, h2, h3⟩

theorem posN_le (ls : List Lab) (a : ByteArray) : posN ls a ≤ ls.length := by
  unfold posN
  exact (List.takeWhile_sublist _).length_le
theorem there_lt {ls : List Lab} {a : ByteArray} (h : thereN ls a = true) : posN ls a < ls.length := by
  unfold thereN at h
  cases hl : ls[posN ls a]? with
  | none => rw [hl] at h; cases h
  | some l => exact (List.getElem?_eq_some_iff.1 hl).1

set_option maxHeartbeats 1000000 in
theorem cut_any (s : ByteArray) (w : World) (hs : s.size ≤ 281474976710656) :
    Calls Tryz.prog 144 #[.string s] w fun e w' => e = .returned (.string (cutB s)) ∧ Ex [] w w' := by
  unfold cutB
  by_cases h : 200 < s.size
  · rw [if_pos h]
    have h1 : (200 : Int) < s.size := by omega
    have h2 : 200 ≤ s.size := by omega
    go_enter Tryz.func144, Tryz.ntmps144
    go_wp2_with fail
    refine (clone_any _ _ (by simp; omega)).mono ?_
    rintro e w' ⟨rfl, hx1⟩
    have HX1 := hide hx1
    clear hx1
    go_wp2_with fail
    go_ret
    exact ⟨rfl, HX1.out⟩
  · rw [if_neg h]
    refine (cut_short s w (by omega)).mono ?_
    rintro e w' ⟨rfl, rfl⟩
    exact ⟨rfl, Ex.refl _ _⟩

theorem find_lt (q base : Nat) (ls : List Lab) (t : ByteArray) (w : World) (hq : LT w q base ls) (hn : ls.length ≤ 1000) (hsrt : SortedFor ls t) :
    Calls Tryz.prog 141 #[.pointer (some ⟨q, 0, none⟩), .string t] w fun e w' => e = .returned (.tuple #[.int .i64 (posN ls t), .bool (thereN ls t)]) ∧ Ex [] w w' := by
  obtain ⟨v, hb, ho, _⟩ := hq.ex
  obtain ⟨hc, hf⟩ := hb.all
  have HO := hide ho
  have HS := hide hsrt
  clear hq hb ho hsrt
  go_enter Tryz.func141, Tryz.ntmps141
  go_wp2_with fail
  refine (search_any v ls t _ (own_sl HO.out) hn HS.out).mono ?_
  rintro e w' ⟨rfl, hx1⟩
  have HX1 := hide hx1
  clear hx1
  go_wp2_with fail
  go_ret2
  exact ⟨rfl, HX1.out⟩

set_option maxHeartbeats 4000000 in
set_option maxRecDepth 100000 in
theorem set_ls (q base : Nat) (ls : List Lab) (a v : ByteArray) (v0 : Value) (w : World) (hle : base ≤ w.heap.size) (hq : BK w q (.cells #[v0] 232 (0, 0))) (ho : w.ownsRow base 210 2 v0 ls.length (cellsOfL ls)) (hnq : v0.ownBlock ≠ some q)
    (hn : ls.length ≤ 60) (hsrt : SortedFor ls a) (hvl : v.size ≤ 281474976710656) :
    Calls Tryz.prog 120 #[.pointer (some ⟨q, 0, none⟩), .string a, .string v] w fun e w' => e = .returned (.tuple #[]) ∧ LTN w' q base (setL ls a v) v0.ownBlock w.heap.size ∧ Ex (q :: v0.ownBlock.toList) w w' := by
  have HLT : Hid (LT w q base ls) := ⟨hle, v0, hq, ho, hnq⟩
  have HB0 := hide hq
  have HO0 := hide ho
  have HN0 := hide hnq
  have HS := hide hsrt
  have hql := hq.lt
  clear hq ho hnq hsrt
  go_enter Tryz.func120, Tryz.ntmps120
  go_wp2_with fail
  refine (find_lt q base ls a _ HLT.out (by omega) HS.out).mono ?_
  rintro e w1 ⟨rfl, hx1⟩
  obtain ⟨pp, hpp⟩ : ∃ pp, posN ls a = pp := ⟨_, rfl⟩
  rw [hpp]
  have hpl : pp ≤ ls.length := by rw [← hpp]; exact posN_le ls a
  have HPP := hide hpp
  clear hpp
  have hb1 := HB0.out.ex hx1 (by simp)
  have ho1 := own_ex HO0.out hx1 (by simp)
  have hz1 := hx1.size
  cases ht : thereN ls a with
  | false =>
    have hoff : offL ls a = ls := by simp [offL, ht]
    obtain ⟨p, c, rfl⟩ := own_slice ho1
    have HXX : Hid (Ex (q :: (Value.slice p ls.length c).ownBlock.toList) w w1) := hx1.drop (by simp)
    have HBX := hide hb1
    have HOX : Hid (w1.ownsRow base 210 2 (.slice p ls.length c) (offL ls a).length (cellsOfL (offL ls a))) := by rw [hoff]; exact ho1
    have HOX' : Hid (w1.ownsRow base 210 2 (.slice p ls.length c) ls.length (cellsOfL (offL ls a))) := by rw [hoff]; exact ho1
    have HNQ := HN0
    have HLN : Hid ((offL ls a).length = ls.length) := by rw [hoff]; rfl
    have HPL := hide hpl
    obtain ⟨hc, hf⟩ := hb1.all
    have hq1 := hb1.lt
    clear ht hoff hx1 hb1 ho1
    by_cases hv0 : v.size = 0
    · obtain rfl : v = ⟨#[]⟩ := by apply ByteArray.ext; exact Array.eq_empty_of_size_eq_zero hv0
      go_wp2_with fail
      refine bodyPost_ret (results_none rfl _ _ _) rfl ⟨rfl, ?_, HXX.out⟩
      rw [setL, if_pos (.inl rfl)]
      exact ⟨Nat.le_trans hle HXX.out.size, _, HBX.out, HOX.out, HNQ.out, fun k hk => .inl hk⟩
    have hem := nonempty_list hv0
    by_cases h60 : (offL ls a).length = 60
    · have h60' : (((ls.length : Nat) : Int) == 60) = true := by have := unhide HLN; simp; omega
      go_wp2_with fail
      refine bodyPost_ret (results_none rfl _ _ _) rfl ⟨rfl, ?_, HXX.out⟩
      rw [setL, if_pos (.inr h60)]
      exact ⟨Nat.le_trans hle HXX.out.size, _, HBX.out, HOX.out, HNQ.out, fun k hk => .inl hk⟩
    have h60' : (((ls.length : Nat) : Int) == 60) = false := by have := unhide HLN; rw [beq_eq_false_iff_ne]; omega
    have hset : setL ls a v = (offL ls a).take (pp) ++ [(a, cutB v)] ++ (offL ls a).drop (pp) := by rw [setL, if_neg (by simp [hv0, h60]), unhide HPP]
    have HSET := hide hset
    have hzx : w.heap.size ≤ w1.heap.size := HXX.out.size
    clear hset
    go_wp2_with fail
    go_region_with (first
      | (go_at_call 144; refine (cut_any v _ hvl).mono ?_; rintro e w4 ⟨rfl, hx4⟩; have hb4 := HBX.out.drew.ex hx4 (by simp); obtain ⟨hc4, hf4⟩ := hb4.all; have hl4 := hb4.lt; have hz4 : w1.heap.size ≤ w4.heap.size := hx4.size)
      | (go_at_call 143; refine (insertLab base ls.length (pp) w4.heap.size _ (cellsOfL (offL ls a)) (a, cutB v) _ ((own_ex (World.ownsRow.drew HOX'.out) hx4 (by simp)).alloc _) (by have := unhide HPL; omega) (by omega) (flat_plain _) (by simp; omega) ((BK.new _ _)) (fun e => by have := (HOX'.out.lt _ e).2; omega)).mono ?_; rintro e w5 ⟨v5, rfl, ho5, hx5, hl5⟩; obtain ⟨p5, c5, rfl⟩ := own_slice ho5; have hb5 := BK.ex (hb4.alloc (Obj.cells #[.string a, .string (cutB v)] 210)) hx5 (by simp only [Option.mem_toList]; exact HNQ.out); obtain ⟨hc5, hf5⟩ := hb5.all))
    all_goals
      have HX4 := hide hx4
      have HX5 := hide hx5
      have HO5 := hide ho5
      have HB5 := hide hb5
      have HL5 := hide hl5
      clear hx4 hx5 ho5 hb5 hl5 hb4 hc4 hf4 hc hf hc5 hf5
      go_end0
      have hz5 : w4.heap.size + 1 ≤ w5.heap.size := by have := HX5.out.size; simpa using this
      refine ⟨rfl, ?_, ?_⟩
      · rw [unhide HSET]
        refine ⟨by simp; omega, _, BK.self HB5.out 0 _, ?_, ?_, fun k hk => ?_⟩
        · have ho6 := own_exn HO5.out ((Ex.refl [q] w5).setCell (p := ⟨q, 0, none⟩) (.inl (by simp)) (.slice p5 (ls.length + 1) c5)) (fun k hk => by
            rcases HL5.out with h | h
            · rw [h] at hk; intro hm; simp at hm; subst hm; exact HNQ.out hk
            · rw [h] at hk; cases hk; simp; omega)
          rw [take_cells, drop_cells] at ho6
          have e1 : (((offL ls a).take (pp) ++ [(a, cutB v)] ++ (offL ls a).drop (pp)).length) = ls.length + 1 := by
            have := unhide HLN
            have := unhide HPL
            simp; omega
          have e2 : cellsOfL ((offL ls a).take (pp) ++ [(a, cutB v)] ++ (offL ls a).drop (pp)) = cellsOfL ((offL ls a).take (pp)) ++ [.string a, .string (cutB v)] ++ cellsOfL ((offL ls a).drop (pp)) := by simp [cellsOfL]
          rw [e1, e2]
          exact ho6
        · rcases HL5.out with h | h
          · rw [h]; exact HNQ.out
          · rw [h]; simp; omega
        · rcases HL5.out with h | h
          · exact .inl (h.symm.trans hk)
          · rw [h] at hk; cases hk; right; simp; omega
      · refine Ex.setCell (((HXX.out.drew.trans (HX4.out.drop (by simp))).alloc _).trans (HX5.out.drop (fun x hx _ => ?_))) (.inl (by simp)) _
        simp only [Option.mem_toList] at hx
        simp [hx]
  | true =>
    have hlt : pp < ls.length := by rw [← unhide HPP]; exact there_lt ht
    obtain ⟨n, hnn⟩ : ∃ n, ls.length = n + 1 := ⟨ls.length - 1, by omega⟩
    have hoff : offL ls a = ls.take pp ++ ls.drop (pp + 1) := by simp [offL, ht, unhide HPP]
    obtain ⟨g, cap, rfl, hgb⟩ : ∃ g cap, v0 = .slice (some ⟨g, 0, none⟩) ls.length cap ∧ base ≤ g := by
      rcases ho1.2 with ⟨_, h⟩ | ⟨g, cap, cur, h, hb, _⟩
      · omega
      · exact ⟨g, cap, h, hb⟩
    have HB1 := hide hb1
    have HO1 := hide ho1
    have HX1 := hide hx1
    have HT := hide ht
    have hgq : g ≠ q := fun e => HN0.out (by rw [e]; rfl)
    obtain ⟨hc, hf⟩ := hb1.all
    have hq1 := hb1.lt
    have HNN := hide hnn
    clear hb1 ho1 hx1 ht hnn
    go_wp2_with fail
    have hnn := unhide HNN
    refine (deleteLab base g ls.length cap (pp) (cellsOfL ls) _ HO1.out hlt (by omega) (flat_plain ls)).mono ?_
    rintro e w2 ⟨rfl, ho2, hx2⟩
    have hdl : (cellsOfL ls).take (pp * 2) ++ (cellsOfL ls).drop ((pp + 1) * 2) = cellsOfL (offL ls a) := by
      rw [take_cells, drop_cells, hoff]; simp [cellsOfL]
    rw [hdl, show ls.length - 1 = n by omega] at ho2
    rw [show ls.length - 1 = n by omega]
    have hb2 := HB1.out.ex hx2 (by simpa using Ne.symm hgq)
    have HB2 := hide hb2
    have HO2 := hide ho2
    have HX2 := hide hx2
    have hz2 := hx2.size
    clear hc hf hdl
    obtain ⟨hc, hf⟩ := hb2.all
    have hq2 := hb2.lt
    have HOFF := hide hoff
    clear hb2 ho2 hx2 hnn hoff
    obtain ⟨w3, hw3⟩ : ∃ w3, w3 = w2.setCell ⟨q, 0, none⟩ (.slice (some ⟨g, 0, none⟩) n cap) := ⟨_, rfl⟩
    have hlo : (offL ls a).length = n := by have := unhide HNN; rw [unhide HOFF]; simp; omega
    have hb3 : BK w3 q (.cells #[.slice (some ⟨g, 0, none⟩) n cap] 232 (0, 0)) := by rw [hw3]; exact HB2.out.self 0 _
    have ho3 : w3.ownsRow base 210 2 (.slice (some ⟨g, 0, none⟩) n cap) n (cellsOfL (offL ls a)) := by
      rw [hw3]; exact own_exn HO2.out ((Ex.refl [q] _).setCell (.inl (by simp)) _) (fun k hk => by cases hk; simpa using hgq)
    have hx3 : Ex (q :: (Value.slice (some ⟨g, 0, none⟩) ls.length cap).ownBlock.toList) w w3 := by
      rw [hw3]
      exact ((HX1.out.drop (by simp)).trans (HX2.out.drop (fun x hx _ => by simp at hx; subst hx; simp [Value.ownBlock]))).setCell (.inl (by simp)) _
    have HXX := hide hx3
    have HBX := hide hb3
    have HOX : Hid (w3.ownsRow base 210 2 (.slice (some ⟨g, 0, none⟩) n cap) (offL ls a).length (cellsOfL (offL ls a))) := by rw [hlo]; exact ho3
    have HOX' := hide ho3
    have HNQ : Hid ((Value.slice (some ⟨g, 0, none⟩) n cap).ownBlock ≠ some q) := HN0.out
    have HLN := hide hlo
    have HPL : Hid (pp ≤ n) := show pp ≤ n by have := unhide HNN; omega
    have HOB : Hid ((Value.slice (some ⟨g, 0, none⟩) n cap).ownBlock = (Value.slice (some ⟨g, 0, none⟩) ls.length cap).ownBlock) := rfl
    have HW3 := hide hw3
    clear hw3
    have HC3 := hide hb3.all
    have hq3 := hb3.lt
    have hn59 : n ≤ 60 := by have := unhide HNN; omega
    clear hb3 ho3 hx3 hlo
    by_cases hv0 : v.size = 0
    · obtain rfl : v = ⟨#[]⟩ := by apply ByteArray.ext; exact Array.eq_empty_of_size_eq_zero hv0
      go_wp2_with fail
      rw [← unhide HW3]
      refine bodyPost_ret (results_none rfl _ _ _) rfl ⟨rfl, ?_, HXX.out⟩
      rw [setL, if_pos (.inl rfl)]
      exact ⟨Nat.le_trans hle HXX.out.size, _, HBX.out, HOX.out, HNQ.out, fun k hk => .inl hk⟩
    have hem := nonempty_list hv0
    by_cases h60 : (offL ls a).length = 60
    · have h60' : (((n : Nat) : Int) == 60) = true := by have := unhide HLN; simp; omega
      go_wp2_with fail
      rw [← unhide HW3]
      refine bodyPost_ret (results_none rfl _ _ _) rfl ⟨rfl, ?_, HXX.out⟩
      rw [setL, if_pos (.inr h60)]
      exact ⟨Nat.le_trans hle HXX.out.size, _, HBX.out, HOX.out, HNQ.out, fun k hk => .inl hk⟩
    have h60' : (((n : Nat) : Int) == 60) = false := by have := unhide HLN; rw [beq_eq_false_iff_ne]; omega
    have hset : setL ls a v = (offL ls a).take (pp) ++ [(a, cutB v)] ++ (offL ls a).drop (pp) := by rw [setL, if_neg (by simp [hv0, h60]), unhide HPP]
    have HSET := hide hset
    have hzx : w.heap.size ≤ w3.heap.size := HXX.out.size
    clear hset
    go_wp2_with fail
    rw [← unhide HW3]
    clear hc hf
    obtain ⟨hc, hf⟩ := HC3.out
    go_region_with (first
      | (go_at_call 144; refine (cut_any v _ hvl).mono ?_; rintro e w4 ⟨rfl, hx4⟩; have hb4 := HBX.out.drew.ex hx4 (by simp); obtain ⟨hc4, hf4⟩ := hb4.all; have hl4 := hb4.lt; have hz4 : w3.heap.size ≤ w4.heap.size := hx4.size)
      | (go_at_call 143; refine (insertLab base n (pp) w4.heap.size _ (cellsOfL (offL ls a)) (a, cutB v) _ ((own_ex (World.ownsRow.drew HOX'.out) hx4 (by simp)).alloc _) (by have := unhide HPL; omega) (by omega) (flat_plain _) (by simp; omega) ((BK.new _ _)) (fun e => by have := (HOX'.out.lt _ e).2; omega)).mono ?_; rintro e w5 ⟨v5, rfl, ho5, hx5, hl5⟩; obtain ⟨p5, c5, rfl⟩ := own_slice ho5; have hb5 := BK.ex (hb4.alloc (Obj.cells #[.string a, .string (cutB v)] 210)) hx5 (by simp only [Option.mem_toList]; exact HNQ.out); obtain ⟨hc5, hf5⟩ := hb5.all))
    all_goals
      have HX4 := hide hx4
      have HX5 := hide hx5
      have HO5 := hide ho5
      have HB5 := hide hb5
      have HL5 := hide hl5
      clear hx4 hx5 ho5 hb5 hl5 hb4 hc4 hf4 hc hf hc5 hf5
      go_end0
      have hz5 : w4.heap.size + 1 ≤ w5.heap.size := by have := HX5.out.size; simpa using this
      refine ⟨rfl, ?_, ?_⟩
      · rw [unhide HSET]
        refine ⟨by simp; omega, _, BK.self HB5.out 0 _, ?_, ?_, fun k hk => ?_⟩
        · have ho6 := own_exn HO5.out ((Ex.refl [q] w5).setCell (p := ⟨q, 0, none⟩) (.inl (by simp)) (.slice p5 (n + 1) c5)) (fun k hk => by
            rcases HL5.out with h | h
            · rw [h] at hk; intro hm; simp at hm; subst hm; exact HNQ.out hk
            · rw [h] at hk; cases hk; simp; omega)
          rw [take_cells, drop_cells] at ho6
          have e1 : (((offL ls a).take (pp) ++ [(a, cutB v)] ++ (offL ls a).drop (pp)).length) = n + 1 := by
            have := unhide HLN
            have := unhide HPL
            simp; omega
          have e2 : cellsOfL ((offL ls a).take (pp) ++ [(a, cutB v)] ++ (offL ls a).drop (pp)) = cellsOfL ((offL ls a).take (pp)) ++ [.string a, .string (cutB v)] ++ cellsOfL ((offL ls a).drop (pp)) := by simp [cellsOfL]
          rw [e1, e2]
          exact ho6
        · rcases HL5.out with h | h
          · rw [h]; exact HNQ.out
          · rw [h]; simp; omega
        · rcases HL5.out with h | h
          · exact .inl (h.symm.trans hk)
          · rw [h] at hk; cases hk; right; simp; omega
      · refine Ex.setCell (((HXX.out.drew.trans (HX4.out.drop (by simp))).alloc _).trans (HX5.out.drop (fun x hx _ => ?_))) (.inl (by simp)) _
        simp only [Option.mem_toList] at hx
        rw [HOB.out] at hx
        simp [hx]
theorem set_any (q base : Nat) (ls : List Lab) (a v : ByteArray) (v0 : Value) (w : World) (hle : base ≤ w.heap.size) (hq : BK w q (.cells #[v0] 232 (0, 0))) (ho : w.ownsRow base 210 2 v0 ls.length (cellsOfL ls)) (hnq : v0.ownBlock ≠ some q)
    (hn : ls.length ≤ 60) (hsrt : SortedFor ls a) (hvl : v.size ≤ 281474976710656) :
    Calls Tryz.prog 120 #[.pointer (some ⟨q, 0, none⟩), .string a, .string v] w fun e w' => e = .returned (.tuple #[]) ∧ LT w' q base (setL ls a v) ∧ Ex (q :: v0.ownBlock.toList) w w' :=
  (set_ls q base ls a v v0 w hle hq ho hnq hn hsrt hvl).mono fun _ _ h => ⟨h.1, h.2.1.lt, h.2.2⟩
end Go.Proofs.YtgmjjhmnchefbaaGreatDoor

/- The library's strings.Join at this program, in plain words (laid by the kit's command; numbers of seat ab). -/
namespace Go.Proofs
open Go.Shelf
end Go.Proofs
