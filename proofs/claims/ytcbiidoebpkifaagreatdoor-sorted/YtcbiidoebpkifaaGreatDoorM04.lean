/- C12 C8, one behind the other. -/
import Derived.Test.YtcbiidoebpkifaaGreatDoorM03
import Derived.Test.YtcbiidoebpkifaaGreatDoorM02
set_option linter.unusedVariables false
set_option linter.unusedSimpArgs false
/- Contract of (*series.Labels).Set at whatever labels. -/
namespace Go.Proofs.YtcbiidoebpkifaaGreatDoor
open Go.RowKit

def cutB (v : ByteArray) : ByteArray := if 200 < v.size then v.extract 0 200 else v
def offL (ls : List Lab) (a : ByteArray) : List Lab := if thereN ls a then ls.take (posN ls a) ++ ls.drop (posN ls a + 1) else ls
def setL (ls : List Lab) (a v : ByteArray) : List Lab :=
  if v.size = 0 ∨ (offL ls a).length = 60 then offL ls a else (offL ls a).take (posN ls a) ++ [(a, cutB v)] ++ (offL ls a).drop (posN ls a)

structure LT (w : World) (q base : Nat) (ls : List Lab) : Prop where
  le : base ≤ w.heap.size
  ex : ∃ v, BK w q (.cells #[v] 143 (0, 0)) ∧ w.ownsRow base 42 2 v ls.length (cellsOfL ls) ∧ v.ownBlock ≠ some q

structure LTN (w : World) (q base : Nat) (ls : List Lab) (o : Option Nat) (S : Nat) : Prop where
  le : base ≤ w.heap.size
  ex : ∃ v, BK w q (.cells #[v] 143 (0, 0)) ∧ w.ownsRow base 42 2 v ls.length (cellsOfL ls) ∧ v.ownBlock ≠ some q ∧ ∀ k, v.ownBlock = some k → o = some k ∨ S ≤ k
theorem LTN.lt {w : World} {q base : Nat} {ls : List Lab} {o : Option Nat} {S : Nat} (h : LTN w q base ls o S) : LT w q base ls := by
  obtain ⟨v, h1, h2, h3, _⟩ := h.ex
  exact ⟨h.le, v, h1, h2, h3⟩

theorem posN_le (ls : List Lab) (a : ByteArray) : posN ls a ≤ ls.length := by
  unfold posN
  exact (List.takeWhile_sublist _).length_le
theorem there_lt {ls : List Lab} {a : ByteArray} (h : thereN ls a = true) : posN ls a < ls.length := by
  unfold thereN at h
  cases hl : ls[posN ls a]? with
  | none => rw [hl] at h; cases h
  | some l => exact (List.getElem?_eq_some_iff.1 hl).1

set_option maxHeartbeats 1000000 in
theorem cut_any (s : ByteArray) (w : World) (hs : s.size ≤ 281474976710656) :
    Calls Tryz.prog 85 #[.string s] w fun e w' => e = .returned (.string (cutB s)) ∧ Ex [] w w' := by
  unfold cutB
  by_cases h : 200 < s.size
  · rw [if_pos h]
    have h1 : (200 : Int) < s.size := by omega
    have h2 : 200 ≤ s.size := by omega
    go_enter Tryz.func85, Tryz.ntmps85
    go_wp2_with fail
    refine (clone_any _ _ (by simp; omega)).mono ?_
    rintro e w' ⟨rfl, hx1⟩
    have HX1 := hide hx1
    clear hx1
    go_wp2_with fail
    go_ret
    exact ⟨rfl, HX1.out⟩
  · rw [if_neg h]
    refine (cut_short s w (by omega)).mono ?_
    rintro e w' ⟨rfl, rfl⟩
    exact ⟨rfl, Ex.refl _ _⟩

theorem find_lt (q base : Nat) (ls : List Lab) (t : ByteArray) (w : World) (hq : LT w q base ls) (hn : ls.length ≤ 1000) (hsrt : SortedFor ls t) :
    Calls Tryz.prog 82 #[.pointer (some ⟨q, 0, none⟩), .string t] w fun e w' => e = .returned (.tuple #[.int .i64 (posN ls t), .bool (thereN ls t)]) ∧ Ex [] w w' := by
  obtain ⟨v, hb, ho, _⟩ := hq.ex
  obtain ⟨hc, hf⟩ := hb.all
  have HO := hide ho
  have HS := hide hsrt
  clear hq hb ho hsrt
  go_enter Tryz.func82, Tryz.ntmps82
  go_wp2_with fail
  refine (search_any v ls t _ (own_sl HO.out) hn HS.out).mono ?_
  rintro e w' ⟨rfl, hx1⟩
  have HX1 := hide hx1
  clear hx1
  go_wp2_with fail
  go_ret2
  exact ⟨rfl, HX1.out⟩

set_option maxHeartbeats 4000000 in
set_option maxRecDepth 100000 in
theorem set_ls (q base : Nat) (ls : List Lab) (a v : ByteArray) (v0 : Value) (w : World) (hle : base ≤ w.heap.size) (hq : BK w q (.cells #[v0] 143 (0, 0))) (ho : w.ownsRow base 42 2 v0 ls.length (cellsOfL ls)) (hnq : v0.ownBlock ≠ some q)
    (hn : ls.length ≤ 60) (hsrt : SortedFor ls a) (hvl : v.size ≤ 281474976710656) :
    Calls Tryz.prog 48 #[.pointer (some ⟨q, 0, none⟩), .string a, .string v] w fun e w' => e = .returned (.tuple #[]) ∧ LTN w' q base (setL ls a v) v0.ownBlock w.heap.size ∧ Ex (q :: v0.ownBlock.toList) w w' := by
  have HLT : Hid (LT w q base ls) := ⟨hle, v0, hq, ho, hnq⟩
  have HB0 := hide hq
  have HO0 := hide ho
  have HN0 := hide hnq
  have HS := hide hsrt
  have hql := hq.lt
  clear hq ho hnq hsrt
  go_enter Tryz.func48, Tryz.ntmps48
  go_wp2_with fail
  refine (find_lt q base ls a _ HLT.out (by omega) HS.out).mono ?_
  rintro e w1 ⟨rfl, hx1⟩
  obtain ⟨pp, hpp⟩ : ∃ pp, posN ls a = pp := ⟨_, rfl⟩
  rw [hpp]
  have hpl : pp ≤ ls.length := by rw [← hpp]; exact posN_le ls a
  have HPP := hide hpp
  clear hpp
  have hb1 := HB0.out.ex hx1 (by simp)
  have ho1 := own_ex HO0.out hx1 (by simp)
  have hz1 := hx1.size
  cases ht : thereN ls a with
  | false =>
    have hoff : offL ls a = ls := by simp [offL, ht]
    obtain ⟨p, c, rfl⟩ := own_slice ho1
    have HXX : Hid (Ex (q :: (Value.slice p ls.length c).ownBlock.toList) w w1) := hx1.drop (by simp)
    have HBX := hide hb1
    have HOX : Hid (w1.ownsRow base 42 2 (.slice p ls.length c) (offL ls a).length (cellsOfL (offL ls a))) := by rw [hoff]; exact ho1
    have HOX' : Hid (w1.ownsRow base 42 2 (.slice p ls.length c) ls.length (cellsOfL (offL ls a))) := by rw [hoff]; exact ho1
    have HNQ := HN0
    have HLN : Hid ((offL ls a).length = ls.length) := by rw [hoff]; rfl
    have HPL := hide hpl
    obtain ⟨hc, hf⟩ := hb1.all
    have hq1 := hb1.lt
    clear ht hoff hx1 hb1 ho1
    by_cases hv0 : v.size = 0
    · obtain rfl : v = ⟨#[]⟩ := by apply ByteArray.ext; exact Array.eq_empty_of_size_eq_zero hv0
      go_wp2_with fail
      refine bodyPost_ret (results_none rfl _ _ _) rfl ⟨rfl, ?_, HXX.out⟩
      rw [setL, if_pos (.inl rfl)]
      exact ⟨Nat.le_trans hle HXX.out.size, _, HBX.out, HOX.out, HNQ.out, fun k hk => .inl hk⟩
    have hem := nonempty_list hv0
    by_cases h60 : (offL ls a).length = 60
    · have h60' : (((ls.length : Nat) : Int) == 60) = true := by have := unhide HLN; simp; omega
      go_wp2_with fail
      refine bodyPost_ret (results_none rfl _ _ _) rfl ⟨rfl, ?_, HXX.out⟩
      rw [setL, if_pos (.inr h60)]
      exact ⟨Nat.le_trans hle HXX.out.size, _, HBX.out, HOX.out, HNQ.out, fun k hk => .inl hk⟩
    have h60' : (((ls.length : Nat) : Int) == 60) = false := by have := unhide HLN; rw [beq_eq_false_iff_ne]; omega
    have hset : setL ls a v = (offL ls a).take (pp) ++ [(a, cutB v)] ++ (offL ls a).drop (pp) := by rw [setL, if_neg (by simp [hv0, h60]), unhide HPP]
    have HSET := hide hset
    have hzx : w.heap.size ≤ w1.heap.size := HXX.out.size
    clear hset
    go_wp2_with fail
    go_region_with (first
      | (go_at_call 85; refine (cut_any v _ hvl).mono ?_; rintro e w4 ⟨rfl, hx4⟩; have hb4 := HBX.out.drew.ex hx4 (by simp); obtain ⟨hc4, hf4⟩ := hb4.all; have hl4 := hb4.lt; have hz4 : w1.heap.size ≤ w4.heap.size := hx4.size)
      | (go_at_call 84; refine (insertLab base ls.length (pp) w4.heap.size _ (cellsOfL (offL ls a)) (a, cutB v) _ ((own_ex (World.ownsRow.drew HOX'.out) hx4 (by simp)).alloc _) (by have := unhide HPL; omega) (by omega) (flat_plain _) (by simp; omega) ((BK.new _ _)) (fun e => by have := (HOX'.out.lt _ e).2; omega)).mono ?_; rintro e w5 ⟨v5, rfl, ho5, hx5, hl5⟩; obtain ⟨p5, c5, rfl⟩ := own_slice ho5; have hb5 := BK.ex (hb4.alloc (Obj.cells #[.string a, .string (cutB v)] 42)) hx5 (by simp only [Option.mem_toList]; exact HNQ.out); obtain ⟨hc5, hf5⟩ := hb5.all))
    all_goals
      have HX4 := hide hx4
      have HX5 := hide hx5
      have HO5 := hide ho5
      have HB5 := hide hb5
      have HL5 := hide hl5
      clear hx4 hx5 ho5 hb5 hl5 hb4 hc4 hf4 hc hf hc5 hf5
      go_end0
      have hz5 : w4.heap.size + 1 ≤ w5.heap.size := by have := HX5.out.size; simpa using this
      refine ⟨rfl, ?_, ?_⟩
      · rw [unhide HSET]
        refine ⟨by simp; omega, _, BK.self HB5.out 0 _, ?_, ?_, fun k hk => ?_⟩
        · have ho6 := own_exn HO5.out ((Ex.refl [q] w5).setCell (p := ⟨q, 0, none⟩) (.inl (by simp)) (.slice p5 (ls.length + 1) c5)) (fun k hk => by
            rcases HL5.out with h | h
            · rw [h] at hk; intro hm; simp at hm; subst hm; exact HNQ.out hk
            · rw [h] at hk; cases hk; simp; omega)
          rw [take_cells, drop_cells] at ho6
          have e1 : (((offL ls a).take (pp) ++ [(a, cutB v)] ++ (offL ls a).drop (pp)).length) = ls.length + 1 := by
            have := unhide HLN
            have := unhide HPL
            simp; omega
          have e2 : cellsOfL ((offL ls a).take (pp) ++ [(a, cutB v)] ++ (offL ls a).drop (pp)) = cellsOfL ((offL ls a).take (pp)) ++ [.string a, .string (cutB v)] ++ cellsOfL ((offL ls a).drop (pp)) := by simp [cellsOfL]
          rw [e1, e2]
          exact ho6
        · rcases HL5.out with h | h
          · rw [h]; exact HNQ.out
          · rw [h]; simp; omega
        · rcases HL5.out with h | h
          · exact .inl (h.symm.trans hk)
          · rw [h] at hk; cases hk; right; simp; omega
      · refine Ex.setCell (((HXX.out.drew.trans (HX4.out.drop (by simp))).alloc _).trans (HX5.out.drop (fun x hx _ => ?_))) (.inl (by simp)) _
        simp only [Option.mem_toList] at hx
        simp [hx]
  | true =>
    have hlt : pp < ls.length := by rw [← unhide HPP]; exact there_lt ht
    obtain ⟨n, hnn⟩ : ∃ n, ls.length = n + 1 := ⟨ls.length - 1, by omega⟩
    have hoff : offL ls a = ls.take pp ++ ls.drop (pp + 1) := by simp [offL, ht, unhide HPP]
    obtain ⟨g, cap, rfl, hgb⟩ : ∃ g cap, v0 = .slice (some ⟨g, 0, none⟩) ls.length cap ∧ base ≤ g := by
      rcases ho1.2 with ⟨_, h⟩ | ⟨g, cap, cur, h, hb, _⟩
      · omega
      · exact ⟨g, cap, h, hb⟩
    have HB1 := hide hb1
    have HO1 := hide ho1
    have HX1 := hide hx1
    have HT := hide ht
    have hgq : g ≠ q := fun e => HN0.out (by rw [e]; rfl)
    obtain ⟨hc, hf⟩ := hb1.all
    have hq1 := hb1.lt
    have HNN := hide hnn
    clear hb1 ho1 hx1 ht hnn
    go_wp2_with fail
    have hnn := unhide HNN
    refine (deleteLab base g ls.length cap (pp) (cellsOfL ls) _ HO1.out hlt (by omega) (flat_plain ls)).mono ?_
    rintro e w2 ⟨rfl, ho2, hx2⟩
    have hdl : (cellsOfL ls).take (pp * 2) ++ (cellsOfL ls).drop ((pp + 1) * 2) = cellsOfL (offL ls a) := by
      rw [take_cells, drop_cells, hoff]; simp [cellsOfL]
    rw [hdl, show ls.length - 1 = n by omega] at ho2
    rw [show ls.length - 1 = n by omega]
    have hb2 := HB1.out.ex hx2 (by simpa using Ne.symm hgq)
    have HB2 := hide hb2
    have HO2 := hide ho2
    have HX2 := hide hx2
    have hz2 := hx2.size
    clear hc hf hdl
    obtain ⟨hc, hf⟩ := hb2.all
    have hq2 := hb2.lt
    have HOFF := hide hoff
    clear hb2 ho2 hx2 hnn hoff
    obtain ⟨w3, hw3⟩ : ∃ w3, w3 = w2.setCell ⟨q, 0, none⟩ (.slice (some ⟨g, 0, none⟩) n cap) := ⟨_, rfl⟩
    have hlo : (offL ls a).length = n := by have := unhide HNN; rw [unhide HOFF]; simp; omega
    have hb3 : BK w3 q (.cells #[.slice (some ⟨g, 0, none⟩) n cap] 143 (0, 0)) := by rw [hw3]; exact HB2.out.self 0 _
    have ho3 : w3.ownsRow base 42 2 (.slice (some ⟨g, 0, none⟩) n cap) n (cellsOfL (offL ls a)) := by
      rw [hw3]; exact own_exn HO2.out ((Ex.refl [q] _).setCell (.inl (by simp)) _) (fun k hk => by cases hk; simpa using hgq)
    have hx3 : Ex (q :: (Value.slice (some ⟨g, 0, none⟩) ls.length cap).ownBlock.toList) w w3 := by
      rw [hw3]
      exact ((HX1.out.drop (by simp)).trans (HX2.out.drop (fun x hx _ => by simp at hx; subst hx; simp [Value.ownBlock]))).setCell (.inl (by simp)) _
    have HXX := hide hx3
    have HBX := hide hb3
    have HOX : Hid (w3.ownsRow base 42 2 (.slice (some ⟨g, 0, none⟩) n cap) (offL ls a).length (cellsOfL (offL ls a))) := by rw [hlo]; exact ho3
    have HOX' := hide ho3
    have HNQ : Hid ((Value.slice (some ⟨g, 0, none⟩) n cap).ownBlock ≠ some q) := HN0.out
    have HLN := hide hlo
    have HPL : Hid (pp ≤ n) := show pp ≤ n by have := unhide HNN; omega
    have HOB : Hid ((Value.slice (some ⟨g, 0, none⟩) n cap).ownBlock = (Value.slice (some ⟨g, 0, none⟩) ls.length cap).ownBlock) := rfl
    have HW3 := hide hw3
    clear hw3
    have HC3 := hide hb3.all
    have hq3 := hb3.lt
    have hn59 : n ≤ 60 := by have := unhide HNN; omega
    clear hb3 ho3 hx3 hlo
    by_cases hv0 : v.size = 0
    · obtain rfl : v = ⟨#[]⟩ := by apply ByteArray.ext; exact Array.eq_empty_of_size_eq_zero hv0
      go_wp2_with fail
      rw [← unhide HW3]
      refine bodyPost_ret (results_none rfl _ _ _) rfl ⟨rfl, ?_, HXX.out⟩
      rw [setL, if_pos (.inl rfl)]
      exact ⟨Nat.le_trans hle HXX.out.size, _, HBX.out, HOX.out, HNQ.out, fun k hk => .inl hk⟩
    have hem := nonempty_list hv0
    by_cases h60 : (offL ls a).length = 60
    · have h60' : (((n : Nat) : Int) == 60) = true := by have := unhide HLN; simp; omega
      go_wp2_with fail
      rw [← unhide HW3]
      refine bodyPost_ret (results_none rfl _ _ _) rfl ⟨rfl, ?_, HXX.out⟩
      rw [setL, if_pos (.inr h60)]
      exact ⟨Nat.le_trans hle HXX.out.size, _, HBX.out, HOX.out, HNQ.out, fun k hk => .inl hk⟩
    have h60' : (((n : Nat) : Int) == 60) = false := by have := unhide HLN; rw [beq_eq_false_iff_ne]; omega
    have hset : setL ls a v = (offL ls a).take (pp) ++ [(a, cutB v)] ++ (offL ls a).drop (pp) := by rw [setL, if_neg (by simp [hv0, h60]), unhide HPP]
    have HSET := hide hset
    have hzx : w.heap.size ≤ w3.heap.size := HXX.out.size
    clear hset
    go_wp2_with fail
    rw [← unhide HW3]
    clear hc hf
    obtain ⟨hc, hf⟩ := HC3.out
    go_region_with (first
      | (go_at_call 85; refine (cut_any v _ hvl).mono ?_; rintro e w4 ⟨rfl, hx4⟩; have hb4 := HBX.out.drew.ex hx4 (by simp); obtain ⟨hc4, hf4⟩ := hb4.all; have hl4 := hb4.lt; have hz4 : w3.heap.size ≤ w4.heap.size := hx4.size)
      | (go_at_call 84; refine (insertLab base n (pp) w4.heap.size _ (cellsOfL (offL ls a)) (a, cutB v) _ ((own_ex (World.ownsRow.drew HOX'.out) hx4 (by simp)).alloc _) (by have := unhide HPL; omega) (by omega) (flat_plain _) (by simp; omega) ((BK.new _ _)) (fun e => by have := (HOX'.out.lt _ e).2; omega)).mono ?_; rintro e w5 ⟨v5, rfl, ho5, hx5, hl5⟩; obtain ⟨p5, c5, rfl⟩ := own_slice ho5; have hb5 := BK.ex (hb4.alloc (Obj.cells #[.string a, .string (cutB v)] 42)) hx5 (by simp only [Option.mem_toList]; exact HNQ.out); obtain ⟨hc5, hf5⟩ := hb5.all))
    all_goals
      have HX4 := hide hx4
      have HX5 := hide hx5
      have HO5 := hide ho5
      have HB5 := hide hb5
      have HL5 := hide hl5
      clear hx4 hx5 ho5 hb5 hl5 hb4 hc4 hf4 hc hf hc5 hf5
      go_end0
      have hz5 : w4.heap.size + 1 ≤ w5.heap.size := by have := HX5.out.size; simpa using this
      refine ⟨rfl, ?_, ?_⟩
      · rw [unhide HSET]
        refine ⟨by simp; omega, _, BK.self HB5.out 0 _, ?_, ?_, fun k hk => ?_⟩
        · have ho6 := own_exn HO5.out ((Ex.refl [q] w5).setCell (p := ⟨q, 0, none⟩) (.inl (by simp)) (.slice p5 (n + 1) c5)) (fun k hk => by
            rcases HL5.out with h | h
            · rw [h] at hk; intro hm; simp at hm; subst hm; exact HNQ.out hk
            · rw [h] at hk; cases hk; simp; omega)
          rw [take_cells, drop_cells] at ho6
          have e1 : (((offL ls a).take (pp) ++ [(a, cutB v)] ++ (offL ls a).drop (pp)).length) = n + 1 := by
            have := unhide HLN
            have := unhide HPL
            simp; omega
          have e2 : cellsOfL ((offL ls a).take (pp) ++ [(a, cutB v)] ++ (offL ls a).drop (pp)) = cellsOfL ((offL ls a).take (pp)) ++ [.string a, .string (cutB v)] ++ cellsOfL ((offL ls a).drop (pp)) := by simp [cellsOfL]
          rw [e1, e2]
          exact ho6
        · rcases HL5.out with h | h
          · rw [h]; exact HNQ.out
          · rw [h]; simp; omega
        · rcases HL5.out with h | h
          · exact .inl (h.symm.trans hk)
          · rw [h] at hk; cases hk; right; simp; omega
      · refine Ex.setCell (((HXX.out.drew.trans (HX4.out.drop (by simp))).alloc _).trans (HX5.out.drop (fun x hx _ => ?_))) (.inl (by simp)) _
        simp only [Option.mem_toList] at hx
        rw [HOB.out] at hx
        simp [hx]
theorem set_any (q base : Nat) (ls : List Lab) (a v : ByteArray) (v0 : Value) (w : World) (hle : base ≤ w.heap.size) (hq : BK w q (.cells #[v0] 143 (0, 0))) (ho : w.ownsRow base 42 2 v0 ls.length (cellsOfL ls)) (hnq : v0.ownBlock ≠ some q)
    (hn : ls.length ≤ 60) (hsrt : SortedFor ls a) (hvl : v.size ≤ 281474976710656) :
    Calls Tryz.prog 48 #[.pointer (some ⟨q, 0, none⟩), .string a, .string v] w fun e w' => e = .returned (.tuple #[]) ∧ LT w' q base (setL ls a v) ∧ Ex (q :: v0.ownBlock.toList) w w' :=
  (set_ls q base ls a v v0 w hle hq ho hnq hn hsrt hvl).mono fun _ _ h => ⟨h.1, h.2.1.lt, h.2.2⟩
end Go.Proofs.YtcbiidoebpkifaaGreatDoor

/- Contract of series.Read, whatever Set makes of the labels one by one. -/
namespace Go.Proofs.YtcbiidoebpkifaaGreatDoor
open Go.RowKit

def serC (ls : List Lab) : List Value := cellsOfL ls ++ List.replicate (40 - ls.length * 2) (.string ⟨#[]⟩) ++ [.int .i64 ls.length]
def serV (ls : List Lab) : Value := .agg (serC ls).toArray
theorem serC_len {ls : List Lab} (h : ls.length ≤ 20) : (serC ls).length = 41 := by
  simp only [serC, List.length_append, flat_len, List.length_replicate, List.length_cons, List.length_nil]; omega
theorem serC_plain (ls : List Lab) : ∀ u ∈ serC ls, u.oneCell' = true := by
  intro u hu
  simp only [serC, List.mem_append, List.mem_replicate, List.mem_cons, List.not_mem_nil, or_false] at hu
  rcases hu with (hu | ⟨_, rfl⟩) | rfl
  · exact flat_plain ls u hu
  · rfl
  · rfl

theorem LS.ex' {w w' : World} {q base : Nat} {ls : List Lab} (h : LS w q base ls) {o : List Nat} (hx : Ex o w w') (ho : ∀ x ∈ o, x < base ∧ x ≠ q) : LS w' q base ls := by
  obtain ⟨v, hb, hown⟩ := h.ex
  exact ⟨h.lt, Nat.le_trans h.le hx.size, v, hb.ex hx (fun hm => (ho q hm).2 rfl), own_ex hown hx (fun x hm => (ho x hm).1)⟩
theorem LS.drew {w : World} {q base : Nat} {ls : List Lab} (h : LS w q base ls) : LS w.drew q base ls := h.ex' ((Ex.refl [] _).drew) (by simp)
theorem LS.alloc {w : World} {q base : Nat} {ls : List Lab} (h : LS w q base ls) (o : Obj) : LS (w.alloc o) q base ls := h.ex' ((Ex.refl [] _).alloc o) (by simp)

def Steps (ls : List Lab) (acc : Nat → List Lab) : Prop := acc 0 = [] ∧ ∀ j l, ls[j]? = some l → ∀ W q base, LS W q base (acc j) →
  Calls Tryz.prog 48 #[.pointer (some ⟨q, 0, none⟩), .string l.1, .string l.2] W fun e w' => e = .returned (.tuple #[]) ∧ LS w' q base (acc (j + 1)) ∧ EB base [q] W w'

theorem ser_nil : serC [] = List.replicate 40 (.string ⟨#[]⟩) ++ [.int .i64 0] := rfl
theorem ser_drop {n : Nat} (h : n ≤ 20) : (serC []).drop (n * 2) = List.replicate (40 - n * 2) (.string ⟨#[]⟩) ++ [.int .i64 0] := by
  rw [ser_nil, List.drop_append_of_le_length (by simp; omega), List.drop_replicate]
theorem ser_last (ls : List Lab) {n : Nat} (hn : ls.length = n) (h : n ≤ 20) : (cellsOfL ls ++ (serC []).drop (n * 2)).toArray[40]? = some (.int .i64 0) := by
  have hl : (cellsOfL ls).length = n * 2 := by rw [← hn]; exact flat_len ls
  rw [ser_drop h, List.getElem?_toArray, ← List.append_assoc, List.getElem?_append_right (by simp [hl]; omega)]
  have : 40 - (cellsOfL ls ++ List.replicate (40 - n * 2) (Value.string ⟨#[]⟩)).length = 0 := by rw [List.length_append, hl, List.length_replicate]; omega
  rw [this]; rfl
theorem ser_fill (ls : List Lab) {n : Nat} (hn : ls.length = n) (h : n ≤ 20) : (cellsOfL ls ++ (serC []).drop (n * 2)).toArray.setIfInBounds 40 (.int .i64 n) = (serC ls).toArray := by
  have hl : (cellsOfL ls).length = n * 2 := by rw [← hn]; exact flat_len ls
  rw [ser_drop h, List.setIfInBounds_toArray, ← List.append_assoc, List.set_append_right _ _ (by simp [hl]; omega)]
  have : 40 - (cellsOfL ls ++ List.replicate (40 - n * 2) (Value.string ⟨#[]⟩)).length = 0 := by rw [List.length_append, hl, List.length_replicate]; omega
  rw [this, serC, hn]; rfl

set_option maxHeartbeats 2000000 in
set_option maxRecDepth 100000 in
theorem read_any (v : Value) (ls : List Lab) (acc : Nat → List Lab) (w : World) (hv : SL w v ls) (hn : ls.length ≤ 20) (hw : ls.any wrongB = false) (hst : Steps ls acc) (hacc : (acc ls.length).length ≤ 20) :
    Calls Tryz.prog 24 #[v] w fun e w' => e = .returned (.tuple #[serV (acc ls.length), .int .i64 0]) ∧ Ex [] w w' := by
  have HV := hide hv
  have HST := hide hst
  have HW := hide hw
  obtain ⟨p, c, rfl⟩ := hv.slice
  have hn1 : (ls.length : Int) ≤ 20 := by omega
  have hlab : ∀ l ∈ ls, l.1.size ≤ 60 ∧ l.2.size ≤ 200 := by
    intro l hl
    have := List.any_eq_false.1 hw l hl
    simp only [wrongB, Bool.or_eq_true, Bool.not_eq_true', decide_eq_true_eq, not_or, Bool.not_eq_false] at this
    refine ⟨?_, by omega⟩
    have h1 := this.1
    simp only [nameB, Bool.and_eq_true, Bool.not_eq_true', decide_eq_false_iff_not] at h1
    omega
  have HLAB := hide hlab
  clear hv hst hlab
  go_enter Tryz.func24, Tryz.ntmps24
  go_wp2_with fail
  refine (containsWrong _ ls _ (HV.out.ex ((Ex.refl [] _).alloc _) (by simp)) (by omega) (fun l hl => by have := (HLAB.out l hl).1; unfold maxLen; omega)).mono ?_
  rintro e w1 ⟨rfl, hx1⟩
  rw [HW.out]
  have hz1 := hx1.size
  simp only [World.size_alloc] at hz1
  have hres : BK w1 w.heap.size (.cells (serC []).toArray 74 (0, 0)) := (BK.new _ _).ex hx1 (by simp)
  have hx01 : Ex [] w w1 := ((Ex.refl _ _).alloc _).trans hx1
  have HRES := hide hres
  have HX01 := hide hx01
  clear hx1 hres hx01 hw
  go_wp2_with fail
  obtain ⟨w2, hw2⟩ : ∃ w2, w2 = w1.alloc (Obj.cells #[.slice none 0 0] 143) := ⟨_, rfl⟩
  rw [← hw2]
  have hls0 : LS w2 w1.heap.size (w1.heap.size + 1) (acc 0) := by
    rw [HST.out.1, hw2]
    exact ⟨by omega, by simp, _, BK.new _ _, World.ownsRow_nil _ _ _ _⟩
  have hx12 : Ex [] w1 w2 := by rw [hw2]; exact (Ex.refl _ _).alloc _
  have hz2 : w2.heap.size = w1.heap.size + 1 := by rw [hw2]; simp
  have HLS0 := hide hls0
  have HX12 := hide hx12
  have HZ2 := hide hz2
  clear hls0 hx12 hz2 hw2
  go_loopg [17] ls.length (fun gk i wr => ∃ j : Nat, j + gk = ls.length ∧ i = .int .i64 j ∧ LS wr w1.heap.size (w1.heap.size + 1) (acc j) ∧ EB (w1.heap.size + 1) [w1.heap.size] w2 wr)
  case atStart => exact ⟨0, by omega, rfl, HLS0.out, EB.refl _ _ _⟩
  case round =>
    obtain ⟨j, hj, rfl, hls, heb⟩ := hrel
    have HLS := hide hls
    have HEB := hide heb
    have hzr : w1.heap.size + 1 ≤ wr.heap.size := by have := heb.size; have := HZ2.out; omega
    cases gk with
    | zero =>
      obtain rfl : j = ls.length := by omega
      clear hj hls heb
      obtain ⟨v4, hb4, ho4⟩ := HLS.out.ex
      obtain ⟨p4, c4, rfl⟩ := own_slice ho4
      have hresr : BK wr w.heap.size (.cells (serC []).toArray 74 (0, 0)) := (HRES.out.ex HX12.out (by simp)).eb HEB.out (by omega) (by simp; omega)
      have HB4 := hide hb4
      have HO4 := hide ho4
      have HRR := hide hresr
      clear hb4 ho4 hresr
      obtain ⟨n, hn4⟩ : ∃ n, (acc ls.length).length = n := ⟨_, rfl⟩
      have HN4 := hide hn4
      rw [hn4] at hacc HO4 HB4
      clear hn4
      go_wp2_with fail
      generalize hw5 : wr.alloc _ = w5
      have hb5 : BK w5 wr.heap.size (.cells (serC []).toArray 74 (0, 0)) := by rw [← hw5]; exact BK.new _ _
      have hq5 : BK w5 w1.heap.size (.cells #[.slice p4 n c4] 143 (0, 0)) := by rw [← hw5]; exact HB4.out.alloc _
      have ho5 : w5.ownsRow (w1.heap.size + 1) 42 2 (.slice p4 n c4) n (cellsOfL (acc ls.length)) := by rw [← hw5]; exact HO4.out.alloc _
      have hr5 : BK w5 w.heap.size (.cells (serC []).toArray 74 (0, 0)) := by rw [← hw5]; exact HRR.out.alloc _
      have he5 : EB (w1.heap.size + 1) [w1.heap.size] w2 w5 := by rw [← hw5]; exact HEB.out.alloc hzr _
      clear hw5
      obtain ⟨t0, hti, hzz0, hzz1, hzz2⟩ := info_parts infoLab
      have hcp := run_copy_own (P := Tryz.prog) w5.drew 32 32 3 42 t0 _ 2 n _ _ wr.heap.size 20 20 _ _ Tryz.underlying32 hti hzz1 ho5.drew (flat_plain _) hb5.drew hacc (by rw [List.size_toArray, serC_len (by simp)]; omega)
      obtain ⟨w6, hw6⟩ : ∃ w6, w6 = w5.drew.setRow wr.heap.size (cellsOfL (acc ls.length) ++ (serC []).toArray.toList.drop (n * 2)).toArray := ⟨_, rfl⟩
      rw [← hw6] at hcp
      have hb6 : BK w6 wr.heap.size (.cells (cellsOfL (acc ls.length) ++ (serC []).drop (n * 2)).toArray 74 (0, 0)) := by rw [hw6]; exact setRow_heap _ _ _ _ _ _ hb5.drew
      have hr6 : BK w6 w.heap.size (.cells (serC []).toArray 74 (0, 0)) := by rw [hw6]; unfold BK; rw [setRow_other _ _ _ _ (by omega)]; exact hr5.drew
      have he6 : EB (w1.heap.size + 1) [w1.heap.size] w2 w6 := by rw [hw6]; exact he5.drew.trans (EB.ofEx ((Ex.refl _ _).setRow (l := [wr.heap.size]) (.inl (by simp)) _) (by have := hb5.lt; simp; omega) |>.mono (Nat.le_refl _) (fun x hx hlt => by simp at hx; omega))
      have hlt6 : wr.heap.size < w6.heap.size := hb6.lt
      have h40 : w6.cell? ⟨wr.heap.size, 40, none⟩ = some (.int .i64 0) := by rw [hb6.all.1 40]; exact ser_last (acc ls.length) (unhide HN4) hacc
      have hf40 : w6.frozen? ⟨wr.heap.size, 40, none⟩ = false := hb6.all.2 40
      have hcq : w5.cell? ⟨w1.heap.size, 0, none⟩ = some (.slice p4 n c4) := hq5.all.1 0
      have hqlt : w1.heap.size < w5.heap.size := hq5.lt
      have hlt5 : wr.heap.size < w5.heap.size := hb5.lt
      have HB6 := hide hb6
      have HR6 := hide hr6
      have HE6 := hide he6
      clear hb5 hq5 ho5 hr5 he5 hb6 hr6 he6 hw6 hti hzz0 hzz1 hzz2
      go_region_law (refine step_copy_run rfl _ _ 32 32 rfl (.slice (some ⟨wr.heap.size, 0, none⟩) 20 20) (.slice p4 n c4) (by simp [Act.eval, Act.put]) (by simp [Act.eval, Act.put]) hcp ?_)
      generalize hw7 : w6.setCell _ _ = w7
      have hb7 : BK w7 wr.heap.size (.cells (serC (acc ls.length)).toArray 74 (0, 0)) := by rw [← hw7, ← ser_fill _ (unhide HN4) hacc]; exact HB6.out.self 40 _
      have hr7 : BK w7 w.heap.size (.cells (serC []).toArray 74 (0, 0)) := by rw [← hw7]; exact HR6.out.set (by simp; omega) _
      have he7 : EB (w1.heap.size + 1) [w1.heap.size] w2 w7 := by rw [← hw7]; exact HE6.out.setCell (.inr (by simp; omega)) _
      have hlen : (serC (acc ls.length)).length = 41 := serC_len (by have := unhide HN4; omega)
      have hpl := serC_plain (acc ls.length)
      obtain ⟨S, hS⟩ : ∃ S, S = serC (acc ls.length) := ⟨_, rfl⟩
      rw [← hS] at hb7 hlen hpl
      have HS := hide hS
      have hisz : (Tryz.prog.info? 74).map (·.size) = some S.length := by rw [hlen]; kernel_rfl
      have hisz' : (Tryz.prog.info? 74).map (·.size) = some S.toArray.size := by rw [List.size_toArray]; exact hisz
      have hrg := hb7.rangeL
      have HRG := hide hrg
      have HR7 := hide hr7
      have HE7 := hide he7
      have HI := hide hisz
      have HI' := hide hisz'
      have hold : (serC []).toArray.size = S.toArray.size := by rw [List.size_toArray, List.size_toArray, hlen, serC_len (by simp)]
      have HOLD := hide hold
      have hallp : S.toArray.all (·.oneCell') = true := all_oneCell_toArray hpl
      have HAL := hide hallp
      clear hw7 hb7 hr7 he7 hlen hpl hS hisz hisz' hrg hold hallp h40 hf40 hcq hcp
      go_wp2_with (first
        | (refine wpList_load_mid rfl 74 _ rfl wr.heap.size 0 rfl S _ HRG.out Tryz.underlying74 rfl HI.out ?_)
        | (refine wpList_store_row rfl 74 _ _ rfl w.heap.size S.toArray rfl rfl 74 _ HR7.out HI'.out HOLD.out HAL.out ?_))
      generalize hw8 : w7.setRow w.heap.size S.toArray = w8
      have hb8 : BK w8 w.heap.size (.cells S.toArray 74 (0, 0)) := by rw [← hw8]; exact setRow_heap _ _ _ _ _ _ HR7.out
      have hl8 : (loadVar 74 ⟨w.heap.size, 0, none⟩).run Tryz.prog w8 = .ok (.agg S.toArray) w8 := run_loadVar_mid w8 _ 0 _ S _ hb8.rangeL Tryz.underlying74 rfl HI.out
      have hx8 : Ex [] w w8 := by
        have h1 : EB w.heap.size [] w w7 := (EB.ofEx (HX01.out.trans HX12.out) (Nat.le_refl _)).trans (HE7.out.mono (by omega) (fun x hx hlt => by simp at hx; omega))
        have h2 : EB w.heap.size [] w7 w8 := by
          rw [← hw8]
          exact (EB.ofEx ((Ex.refl _ _).setRow (l := [w.heap.size]) (.inl (by simp)) _) (by have := HR7.out.lt; omega)).mono (Nat.le_refl _) (fun x hx hlt => by simp at hx; omega)
        exact EB.toEx (h1.trans h2)
      refine bodyPost_ret (results_cell_tmp rfl rfl hl8) rfl ⟨?_, hx8⟩
      rw [unhide HS]; rfl
    | succ g =>
      have hjl : j < ls.length := by omega
      have hj' : (j : Int) < (ls.length : Int) := by omega
      obtain ⟨l, hl⟩ : ∃ l, ls[j]? = some l := ⟨_, List.getElem?_eq_getElem hjl⟩
      have HLJ := hide hl
      obtain ⟨hs1, hs2⟩ := HLAB.out l (List.mem_of_getElem? hl)
      obtain ⟨b, c', rfl, hb, c0, c1⟩ : ∃ b c', p = some ⟨b, 0, none⟩ ∧ b < wr.heap.size ∧ wr.cell? ⟨b, j * 2, none⟩ = some (.string l.1) ∧ wr.cell? ⟨b, j * 2 + 1, none⟩ = some (.string l.2) := by
        rcases HV.out with ⟨h1, h2⟩ | ⟨b, c', h1, hb, hc⟩
        · rw [h2] at hjl; simp at hjl
        · cases h1
          obtain ⟨h3, h4⟩ := hc j l hl
          have hxw : EB w.heap.size [] w wr := ((EB.ofEx (HX01.out.trans HX12.out) (Nat.le_refl _))).trans (heb.mono (by omega) (fun x hx hlt => by simp at hx; omega))
          exact ⟨b, 0, rfl, Nat.lt_of_lt_of_le hb hxw.size, by rw [hxw.cell hb]; exact h3, by rw [hxw.cell hb]; exact h4⟩
      clear hls heb hl
      go_wp2_with fail
      obtain ⟨w3, hw3⟩ : ∃ w3, w3 = wr.alloc (Obj.cells #[.string l.1, .string l.2] 42) := ⟨_, rfl⟩
      rw [← hw3]
      have hb3 : BK w3 wr.heap.size (.cells #[.string l.1, .string l.2] 42 (0, 0)) := by rw [hw3]; exact BK.new _ _
      have hls3 : LS w3 w1.heap.size (w1.heap.size + 1) (acc j) := by rw [hw3]; exact HLS.out.alloc _
      have heb3 : EB (w1.heap.size + 1) [w1.heap.size] w2 w3 := by rw [hw3]; exact HEB.out.alloc hzr _
      have hlt3 : wr.heap.size < w3.heap.size := hb3.lt
      have HB3 := hide hb3
      have HLS3 := hide hls3
      have HEB3 := hide heb3
      obtain ⟨hc3, hf3⟩ := hb3.all
      clear hb3 hls3 heb3 hw3 c0 c1
      go_region_with (first
        | (go_at_call 49; refine (clone_any l.1 _ (by omega)).mono ?_; rintro e w4 ⟨rfl, hx4⟩; have hb4 := HB3.out.drew.ex hx4 (by simp); obtain ⟨hc4, hf4⟩ := hb4.all; have hlt4 : wr.heap.size < w4.heap.size := hb4.lt)
        | (go_at_call 49; refine (clone_any l.2 _ (by omega)).mono ?_; rintro e w5 ⟨rfl, hx5⟩)
        | (go_at_call 48; refine (HST.out.2 j l HLJ.out _ w1.heap.size (w1.heap.size + 1) ((HLS3.out.drew.ex' hx4 (by simp)).ex' hx5 (by simp))).mono ?_; rintro e w6 ⟨rfl, hls6, heb6⟩))
      all_goals
        have HLS6 := hide hls6
        have HEB6 : Hid (EB (w1.heap.size + 1) [w1.heap.size] w2 w6) := hide (((HEB3.out.drew.trans ((EB.ofEx hx4 (by simp; omega)).mono (Nat.le_refl _) (by simp))).trans ((EB.ofEx hx5 (by omega)).mono (Nat.le_refl _) (by simp))).trans heb6)
        clear hls6 heb6 hx4 hx5 hb4 hc4 hf4 hc3 hf3
        go_wp2_with fail
        go_roundg g
        case measure => omega
        case rel => exact ⟨j + 1, by omega, by simp, HLS6.out, HEB6.out⟩
end Go.Proofs.YtcbiidoebpkifaaGreatDoor
