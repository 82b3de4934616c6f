import Derived.Test.YtfnanjbleifjkaaGreatDoorM02
import Derived.Shelf.Strings.OnBuilder
set_option linter.unusedVariables false
set_option linter.unusedSimpArgs false
set_option maxHeartbeats 4000000
set_option maxRecDepth 100000
namespace Go.Proofs.YtfnanjbleifjkaaGreatDoor
open Go.RowKit
theorem uP {xs new zs rest : List Value} {a l m : Nat} (hl : xs.length = l) (ha : a <= l) (hn : new.length = m) (hz : zs.length = l - a + m) :
  ((xs.take a ++ zs ++ rest).take a ++ new ++ (xs.take a ++ zs ++ rest).drop (a + m)).take (a + m) ++ xs.drop a ++ ((xs.take a ++ zs ++ rest).take a ++ new ++ (xs.take a ++ zs ++ rest).drop (a + m)).drop (a + m + (l - a)) = xs.take a ++ new ++ xs.drop a ++ rest := by
 have hta : (xs.take a).length = a := by simp; omega
 have h1 : (xs.take a ++ zs ++ rest).take a = xs.take a := by
  rw [List.append_assoc, List.take_append_of_le_length (by omega), List.take_of_length_le (by omega)]
 have h2 : (xs.take a ++ zs ++ rest).drop (a + m) = zs.drop m ++ rest := by
  rw [List.append_assoc, List.drop_append, List.drop_of_length_le (by omega), List.nil_append, hta, Nat.add_sub_cancel_left, List.drop_append_of_le_length (by omega)]
 rw [h1, h2]
 have h3 : (xs.take a ++ new ++ (zs.drop m ++ rest)).take (a + m) = xs.take a ++ new := by
  rw [List.take_append_of_le_length (by simp; omega), List.take_of_length_le (by simp; omega)]
 have h4 : (xs.take a ++ new ++ (zs.drop m ++ rest)).drop (a + m + (l - a)) = rest := by
  rw [<- List.append_assoc, List.drop_append, List.drop_of_length_le (by simp; omega), List.nil_append]
  have : a + m + (l - a) - (xs.take a ++ new ++ zs.drop m).length = 0 := by simp; omega
  rw [this, List.drop_zero]
 rw [h3, h4]
theorem ie (z : Array Value) (n : Nat) : (Builtin.zeroCells z n).size = n * z.size := by simp [Builtin.zeroCells]
theorem pm (base g n i vb : Nat) (xs : List Value) (l : Lab) (w : World) (hown : w.ownsRow base 167 2 (.slice (some ⟨g, 0, none⟩) n n) n xs) (hi : i < n) (hn : n <= 200) (hp : rM xs) (hb : base <= w.heap.size)
  (hv : BK w vb (.cells #[.string l.1, .string l.2] 167 (0, 0))) :
  Calls Tryz.prog 173 #[.slice (some ⟨g, 0, none⟩) n n, .int .i64 i, .slice (some ⟨vb, 0, none⟩) 1 1] w fun e w' => ∃ G, e = .returned (.slice (some ⟨w.heap.size, 0, none⟩) (n + 1) G) /\
   w'.ownsRow base 167 2 (.slice (some ⟨w.heap.size, 0, none⟩) (n + 1) G) (n + 1) (xs.take (i * 2) ++ [.string l.1, .string l.2] ++ xs.drop (i * 2)) /\ Ex [] w w' := by
 obtain ⟨t0, hti, hzz0, hzz1, hzz2⟩ := info_parts jW
 have hlen := hown.1
 have hgl : g < w.heap.size := (hown.lt g rfl).2
 have hvl := hv.lt
 have hown' : w.ownsRow base 167 t0.size (.slice (some ⟨g, 0, none⟩) n n) n xs := by rw [hzz1]; exact hown
 have hless : w.ownsRow base 167 t0.size (.slice (some ⟨g, 0, none⟩) i n) i (xs.take (i * 2)) := by rw [hzz1]; exact ke hown (by omega)
 have hap := fX (P := Tryz.prog) w 41 3 41 167 t0 _ .i64 .i64 Tryz.underlying41 Tryz.underlying3 hti hzz0 base g i n (n + 1 - i) (xs.take (i * 2)) hless (by omega) (by rw [hzz1]; decide) (by omega) hn (by omega) (by rw [hzz2]; decide)
 rw [show i + (n + 1 - i) = n + 1 by omega] at hap
 obtain ⟨G, hG⟩ : ∃ G, grownCap w (n + 1) n 167 = G := ⟨_, rfl⟩
 have hGge : n + 1 <= G := by rw [<- hG]; exact grownCap_ge _ _ _ _
 have hGle : G <= maxLen := by rw [<- hG]; exact grownCap_le_maxLen _ _ _ _ (by unfold maxLen; omega)
 have hGle' : G <= 9223372036854775807 := hGle
 rw [hG] at hap
 obtain ⟨Z, hZ⟩ := exq (Builtin.zeroCells (Value.agg #[.string ⟨#[]⟩, .string ⟨#[]⟩]).cells (n + 1 - i))
 obtain ⟨Y, hY⟩ := exq (Builtin.zeroCells (Value.agg #[.string ⟨#[]⟩, .string ⟨#[]⟩]).cells (G - (n + 1)))
 have hZl : Z.toList.length = n * 2 - i * 2 + 2 := by rw [hZ, Array.length_toList, ie]; show (n + 1 - i) * 2 = _; omega
 have hYl : Y.toList.length = (G - (n + 1)) * 2 := by rw [hY, Array.length_toList, ie]; rfl
 rw [<- hZ, <- hY] at hap
 obtain ⟨w1, hw1⟩ := exq (w.drew.alloc (.cells ((xs.take (i * 2)).toArray ++ Z ++ Y) 167))
 rw [<- hw1] at hap
 obtain ⟨C1, hC1⟩ := exq ((xs.take (i * 2)).toArray ++ Z ++ Y)
 have hC1l : C1.toList = xs.take (i * 2) ++ Z.toList ++ Y.toList := by rw [hC1]; simp
 have hC1s : C1.size = G * 2 := by rw [<- Array.length_toList, hC1l]; simp [hlen] at *; omega
 have hb1 : BK w1 w.heap.size (.cells C1 167 (0, 0)) := by rw [hw1, hC1]; exact BK.new _ _
 have hv1 : BK w1 vb (.cells #[.string l.1, .string l.2] 167 (0, 0)) := by rw [hw1]; exact hv.drew.alloc _
 have hx1 : Ex [] w w1 := by rw [hw1]; exact ((Ex.refl _ _).drew).alloc _
 have ho1 : w1.ownsRow base 167 2 (.slice (some ⟨g, 0, none⟩) n n) n xs := by rw [hw1]; exact hown.drew.alloc _
 have hcp1 := eU (P := Tryz.prog) w1 41 41 3 167 t0 2 w.heap.size (i * 2) (n + 1 - i) (G - i) ⟨vb, 0, none⟩ 1 1 1 C1 167 [.string l.1, .string l.2]
  Tryz.underlying41 hti hzz1 hb1 (by simp only [Nat.min_def]; split <;> omega) rfl
  (fun j u hj => by rw [Addr.add_lit, Nat.zero_add, hv1.all.1]; simpa using hj) (by simp [hC1s]; omega) (by simp [Value.oneCell'])
 obtain ⟨C2, hC2⟩ := exq (C1.toList.take (i * 2) ++ [Value.string l.1, Value.string l.2] ++ C1.toList.drop (i * 2 + [Value.string l.1, Value.string l.2].length))
 rw [<- hC2] at hcp1
 obtain ⟨w2, hw2⟩ := exq (w1.setRow w.heap.size C2.toArray)
 rw [<- hw2] at hcp1
 have hC2s : C2.toArray.size = G * 2 := by rw [hC2]; simp [hC1s]; omega
 have hb2 : BK w2 w.heap.size (.cells C2.toArray 167 (0, 0)) := by rw [hw2]; exact setRow_heap _ _ _ _ _ _ hb1
 have hx2 : Ex [] w w2 := by rw [hw2]; exact hx1.setRow (.inr (Nat.le_refl _)) _
 have ho2 : w2.ownsRow base 167 2 (.slice (some ⟨g, 0, none⟩) n n) n xs := by
  rw [hw2]
  exact fR ho1 ((Ex.refl _ _).setRow (l := [w.heap.size]) (.inl (by simp)) _) (fun k hk => by cases hk; simp; omega)
 have hcp2 := eU (P := Tryz.prog) w2.drew 41 41 3 167 t0 2 w.heap.size ((i + 1) * 2) (n - i) (G - (i + 1)) ⟨g, i * 2, none⟩ (n - i) (n - i) (n - i) C2.toArray 167 (xs.drop (i * 2))
  Tryz.underlying41 hti hzz1 hb2.drew (by simp only [Nat.min_def]; split <;> omega) (by rw [List.length_drop, hlen]; omega)
  (fun j u hj => by rw [Addr.add_lit]; exact gy ho2.drew (by rwa [List.getElem?_drop] at hj)) (by rw [List.length_drop, hlen, hC2s]; omega) (fun u hu => hp u (List.mem_of_mem_drop hu))
 obtain ⟨w3, hw3⟩ := exq (w2.drew.setRow w.heap.size (C2.toArray.toList.take ((i + 1) * 2) ++ xs.drop (i * 2) ++ C2.toArray.toList.drop ((i + 1) * 2 + (xs.drop (i * 2)).length)).toArray)
 rw [<- hw3] at hcp2
 have hb3 : BK w3 w.heap.size (.cells (C2.toArray.toList.take ((i + 1) * 2) ++ xs.drop (i * 2) ++ C2.toArray.toList.drop ((i + 1) * 2 + (xs.drop (i * 2)).length)).toArray 167 (0, 0)) := by rw [hw3]; exact setRow_heap _ _ _ _ _ _ hb2.drew
 have hx3 : Ex [] w w3 := by rw [hw3]; exact hx2.drew.setRow (.inr (Nat.le_refl _)) _
 have hrow : (C2.toArray.toList.take ((i + 1) * 2) ++ xs.drop (i * 2) ++ C2.toArray.toList.drop ((i + 1) * 2 + (xs.drop (i * 2)).length)) = xs.take (i * 2) ++ [.string l.1, .string l.2] ++ xs.drop (i * 2) ++ Y.toList := by
  have h := uP (xs := xs) (new := [Value.string l.1, .string l.2]) (zs := Z.toList) (rest := Y.toList) (a := i * 2) (l := n * 2) (m := 2) hlen (by omega) rfl hZl
  rw [List.toList_toArray, hC2, hC1l, List.length_drop, hlen, show (i + 1) * 2 = i * 2 + 2 by omega]
  exact h
 rw [hrow] at hb3
 have HB3 := aa hb3
 have HX3 := aa hx3
 have HYL := aa hYl
 have HL := aa hlen
 have hC : ¬ ((i : Int) = (n : Int)) := by omega
 have h1 : (i : Int) < (n : Int) := by omega
 have h3 : (n : Int) < (n : Int) + 1 := by omega
 have h4 : i <= n := by omega
 have h5 : (i : Int) <= (n : Int) + 1 := by omega
 have h6 : ((i : Int) + 1).toNat = i + 1 := by omega
 have h8 : ¬ G = i := by omega
 have h9 : ¬ G = i + 1 := by omega
 have h10 : ¬ n = i := by omega
 have h11 : (0 : Int) <= (i : Int) + 1 := by omega
 have h12 : i <= n + 1 := by omega
 have h15 : IntKind.i64.wrap ((i : Int) + 1) = (i : Int) + 1 := by rw [IntKind.wrap_i64]; omega
 have h16 : (i : Int) <= (n : Int) := by omega
 have h17 : IntKind.i64.wrap ((n : Int) + 1 - (i : Int)) = ((n + 1 - i : Nat) : Int) := by rw [IntKind.wrap_i64]; omega
 have h18 : (n : Int) + 1 - (i : Int) = ((n + 1 - i : Nat) : Int) := by omega
 clear hown hown' hless hv hv1 hb1 hx1 ho1 hb2 hx2 ho2 hb3 hx3 hw1 hw2 hw3 hC1 hC1l hC1s hC2 hC2s hZ hY hZl hYl hlen hp hrow hG
 go_enter Tryz.func173, Tryz.ntmps173
 go_wp2_with (first
  |(at_builtin; refine Lib.wpList_append_run _ rfl _ _ 41 3 rfl _ _ rfl rfl _ _ hap ?_)
  |(at_builtin; refine fS _ rfl _ _ 41 41 rfl _ _ rfl rfl hcp1 ?_))
 go_region_law (refine ii rfl _ _ 41 41 rfl (.slice (some ⟨w.heap.size, (i + 1) * 2, none⟩) (n - i) (G - (i + 1))) (.slice (some ⟨g, i * 2, none⟩) (n - i) (n - i)) (by simp [Act.eval, Act.put]) (by simp [Act.eval, Act.put]) hcp2 ?_)
 go_wp2_with fail
 go_ret
 have hyl := af HYL
 have hl := af HL
 refine ⟨G, rfl, ⟨by simp; omega, .inr ⟨w.heap.size, G, _, rfl, hb, HB3.O, hGge, hGle, ?_, ?_⟩⟩, HX3.O⟩
 ·rw [List.size_toArray, List.length_append, hyl]
  simp
  omega
 ·rw [List.toList_toArray, List.take_append_of_le_length (by simp; omega), List.take_of_length_le (by simp; omega)]
theorem mn (base n i vb : Nat) (v : Value) (xs : List Value) (l : Lab) (w : World) (hown : w.ownsRow base 167 2 v n xs) (hi : i <= n) (hn : n <= 200) (hp : rM xs) (hb : base <= w.heap.size)
  (hv : BK w vb (.cells #[.string l.1, .string l.2] 167 (0, 0))) (hne : v.ownBlock ≠ some vb) :
  Calls Tryz.prog 173 #[v, .int .i64 i, .slice (some ⟨vb, 0, none⟩) 1 1] w fun e w' => ∃ v', e = .returned v' /\
   w'.ownsRow base 167 2 v' (n + 1) (xs.take (i * 2) ++ [.string l.1, .string l.2] ++ xs.drop (i * 2)) /\ Ex v.ownBlock.toList w w' /\ (v'.ownBlock = v.ownBlock \/ v'.ownBlock = some w.heap.size) := by
 by_cases hin : i = n
 ·subst hin
  refine (mc base i vb v xs l w hown (by omega) hb hv).mono ?_
  rintro e w' ⟨v', rfl, ho, hg, hl⟩
  refine ⟨v', rfl, ?_, (Ex.refl _ _).grown hg (fun k hk => .inl (by rw [hk]; simp)), hl.imp Eq.symm id⟩
  rw [List.take_of_length_le (by rw [hown.1]; exact Nat.le_refl _), List.drop_of_length_le (by rw [hown.1]; exact Nat.le_refl _), List.append_nil]
  exact ho
 ·rcases hown.2 with ⟨_, h0⟩ | ⟨g, cap, cur, rfl, hbg, hg, hnc, hcm, hcs, ht⟩
  ·omega
  by_cases hr : n + 1 <= cap
  ·refine (pY base g n cap i vb xs l w hown (by omega) hr hn hp hv (fun e => hne (by rw [e]; rfl))).mono ?_
   rintro e w' ⟨rfl, ho, hx⟩
   exact ⟨_, rfl, ho, hx, .inl rfl⟩
  ·obtain rfl : cap = n := by omega
   refine (pm base g cap i vb xs l w hown (by omega) hn hp hb hv).mono ?_
   rintro e w' ⟨G, rfl, ho, hx⟩
   exact ⟨_, rfl, ho, hx.drop (by simp), .inr rfl⟩
def iA (v : ByteArray) : ByteArray := if 200 < v.size then v.extract 0 200 else v
def cQ (ls : List Lab) (a : ByteArray) : List Lab := if d8 ls a then ls.take (ft ls a) ++ ls.drop (ft ls a + 1) else ls
def dJ (ls : List Lab) (a v : ByteArray) : List Lab :=
 if v.size = 0 \/ (cQ ls a).length = 60 then cQ ls a else (cQ ls a).take (ft ls a) ++ [(a, iA v)] ++ (cQ ls a).drop (ft ls a)
structure LT (w : World) (q base : Nat) (ls : List Lab) : Prop where
 le : base <= w.heap.size
 ex : ∃ v, BK w q (.cells #[v] 250 (0, 0)) /\ w.ownsRow base 167 2 v ls.length (aB ls) /\ v.ownBlock ≠ some q
structure LTN (w : World) (q base : Nat) (ls : List Lab) (o : Option Nat) (S : Nat) : Prop where
 le : base <= w.heap.size
 ex : ∃ v, BK w q (.cells #[v] 250 (0, 0)) /\ w.ownsRow base 167 2 v ls.length (aB ls) /\ v.ownBlock ≠ some q /\ ∀ k, v.ownBlock = some k -> o = some k \/ S <= k
theorem LTN.lt {w : World} {q base : Nat} {ls : List Lab} {o : Option Nat} {S : Nat} (h : LTN w q base ls o S) : LT w q base ls := by
 obtain ⟨v, h1, h2, h3, _⟩ := h.ex
 exact ⟨h.le, v, h1, h2, h3⟩
theorem vV (ls : List Lab) (a : ByteArray) : ft ls a <= ls.length := by
 unfold ft
 exact (List.takeWhile_sublist _).length_le
theorem tX {ls : List Lab} {a : ByteArray} (h : d8 ls a = true) : ft ls a < ls.length := by
 unfold d8 at h
 cases hl : ls[ft ls a]? with
 |none => rw [hl] at h; cases h
 |some l => exact (List.getElem?_eq_some_iff.1 hl).1
theorem r8 (s : ByteArray) (w : World) (hs : s.size <= 281474976710656) :
  Calls Tryz.prog 174 #[.string s] w fun e w' => e = .returned (.string (iA s)) /\ Ex [] w w' := by
 unfold iA
 by_cases h : 200 < s.size
 ·rw [if_pos h]
  have h1 : (200 : Int) < s.size := by omega
  have h2 : 200 <= s.size := by omega
  go_enter Tryz.func174, Tryz.ntmps174
  go_wp2_with fail
  refine (mK _ _ (by simp; omega)).mono ?_
  rintro e w' ⟨rfl, hx1⟩
  have HX1 := aa hx1
  clear hx1
  go_wp2_with fail
  go_ret
  exact ⟨rfl, HX1.O⟩
 ·rw [if_neg h]
  refine (mq s w (by omega)).mono ?_
  rintro e w' ⟨rfl, rfl⟩
  exact ⟨rfl, Ex.refl _ _⟩
theorem xb (q base : Nat) (ls : List Lab) (t : ByteArray) (w : World) (hq : LT w q base ls) (hn : ls.length <= 1000) (hsrt : eu ls t) :
  Calls Tryz.prog 171 #[.pointer (some ⟨q, 0, none⟩), .string t] w fun e w' => e = .returned (.tuple #[.int .i64 (ft ls t), .bool (d8 ls t)]) /\ Ex [] w w' := by
 obtain ⟨v, hb, ho, _⟩ := hq.ex
 obtain ⟨hc, hf⟩ := hb.all
 have HO := aa ho
 have HS := aa hsrt
 clear hq hb ho hsrt
 go_enter Tryz.func171, Tryz.ntmps171
 go_wp2_with fail
 refine (eL v ls t _ (vx HO.O) hn HS.O).mono ?_
 rintro e w' ⟨rfl, hx1⟩
 have HX1 := aa hx1
 clear hx1
 go_wp2_with fail
 go_ret2
 exact ⟨rfl, HX1.O⟩
theorem xV (q base : Nat) (ls : List Lab) (a v : ByteArray) (v0 : Value) (w : World) (hle : base <= w.heap.size) (hq : BK w q (.cells #[v0] 250 (0, 0))) (ho : w.ownsRow base 167 2 v0 ls.length (aB ls)) (hnq : v0.ownBlock ≠ some q)
  (hn : ls.length <= 60) (hsrt : eu ls a) (hvl : v.size <= 281474976710656) :
  Calls Tryz.prog 119 #[.pointer (some ⟨q, 0, none⟩), .string a, .string v] w fun e w' => e = .returned (.tuple #[]) /\ LTN w' q base (dJ ls a v) v0.ownBlock w.heap.size /\ Ex (q :: v0.ownBlock.toList) w w' := by
 have HLT : Hid (LT w q base ls) := ⟨hle, v0, hq, ho, hnq⟩
 have HB0 := aa hq
 have HO0 := aa ho
 have HN0 := aa hnq
 have HS := aa hsrt
 have hql := hq.lt
 clear hq ho hnq hsrt
 go_enter Tryz.func119, Tryz.ntmps119
 go_wp2_with fail
 refine (xb q base ls a _ HLT.O (by omega) HS.O).mono ?_
 rintro e w1 ⟨rfl, hx1⟩
 obtain ⟨pp, hpp⟩ : ∃ pp, ft ls a = pp := ⟨_, rfl⟩
 rw [hpp]
 have hpl : pp <= ls.length := by rw [<- hpp]; exact vV ls a
 have HPP := aa hpp
 clear hpp
 have hb1 := HB0.O.ex hx1 (by simp)
 have ho1 := aE HO0.O hx1 (by simp)
 have hz1 := hx1.size
 cases ht : d8 ls a with
 |false =>
  have hoff : cQ ls a = ls := by simp [cQ, ht]
  obtain ⟨p, c, rfl⟩ := aw ho1
  have HXX : Hid (Ex (q :: (Value.slice p ls.length c).ownBlock.toList) w w1) := hx1.drop (by simp)
  have HBX := aa hb1
  have HOX : Hid (w1.ownsRow base 167 2 (.slice p ls.length c) (cQ ls a).length (aB (cQ ls a))) := by rw [hoff]; exact ho1
  have HOX' : Hid (w1.ownsRow base 167 2 (.slice p ls.length c) ls.length (aB (cQ ls a))) := by rw [hoff]; exact ho1
  have HNQ := HN0
  have HLN : Hid ((cQ ls a).length = ls.length) := by rw [hoff]; rfl
  have HPL := aa hpl
  obtain ⟨hc, hf⟩ := hb1.all
  have hq1 := hb1.lt
  clear ht hoff hx1 hb1 ho1
  by_cases hv0 : v.size = 0
  ·obtain rfl : v = ⟨#[]⟩ := by apply ByteArray.ext; exact Array.eq_empty_of_size_eq_zero hv0
   go_wp2_with fail
   refine bodyPost_ret (results_none rfl _ _ _) rfl ⟨rfl, ?_, HXX.O⟩
   rw [dJ, if_pos (.inl rfl)]
   exact ⟨Nat.le_trans hle HXX.O.size, _, HBX.O, HOX.O, HNQ.O, fun k hk => .inl hk⟩
  have hem := cr hv0
  by_cases h60 : (cQ ls a).length = 60
  ·have h60' : (((ls.length : Nat) : Int) == 60) = true := by have := af HLN; simp; omega
   go_wp2_with fail
   refine bodyPost_ret (results_none rfl _ _ _) rfl ⟨rfl, ?_, HXX.O⟩
   rw [dJ, if_pos (.inr h60)]
   exact ⟨Nat.le_trans hle HXX.O.size, _, HBX.O, HOX.O, HNQ.O, fun k hk => .inl hk⟩
  have h60' : (((ls.length : Nat) : Int) == 60) = false := by have := af HLN; rw [beq_eq_false_iff_ne]; omega
  have hset : dJ ls a v = (cQ ls a).take (pp) ++ [(a, iA v)] ++ (cQ ls a).drop (pp) := by rw [dJ, if_neg (by simp [hv0, h60]), af HPP]
  have HSET := aa hset
  have hzx : w.heap.size <= w1.heap.size := HXX.O.size
  clear hset
  go_wp2_with fail
  go_region_with (first
   |(go_at_call 174; refine (r8 v _ hvl).mono ?_; rintro e w4 ⟨rfl, hx4⟩; have hb4 := HBX.O.drew.ex hx4 (by simp); obtain ⟨hc4, hf4⟩ := hb4.all; have hl4 := hb4.lt; have hz4 : w1.heap.size <= w4.heap.size := hx4.size)
   |(go_at_call 173; refine (mn base ls.length (pp) w4.heap.size _ (aB (cQ ls a)) (a, iA v) _ ((aE (World.ownsRow.drew HOX'.O) hx4 (by simp)).alloc _) (by have := af HPL; omega) (by omega) (iC _) (by simp; omega) ((BK.new _ _)) (fun e => by have := (HOX'.O.lt _ e).2; omega)).mono ?_; rintro e w5 ⟨v5, rfl, ho5, hx5, hl5⟩; obtain ⟨p5, c5, rfl⟩ := aw ho5; have hb5 := BK.ex (hb4.alloc (Obj.cells #[.string a, .string (iA v)] 167)) hx5 (by simp only [Option.mem_toList]; exact HNQ.O); obtain ⟨hc5, hf5⟩ := hb5.all))
  all_goals
   have HX4 := aa hx4
   have HX5 := aa hx5
   have HO5 := aa ho5
   have HB5 := aa hb5
   have HL5 := aa hl5
   clear hx4 hx5 ho5 hb5 hl5 hb4 hc4 hf4 hc hf hc5 hf5
   go_end0
   have hz5 : w4.heap.size + 1 <= w5.heap.size := by have := HX5.O.size; simpa using this
   refine ⟨rfl, ?_, ?_⟩
   ·rw [af HSET]
    refine ⟨by simp; omega, _, BK.self HB5.O 0 _, ?_, ?_, fun k hk => ?_⟩
    ·have ho6 := fR HO5.O ((Ex.refl [q] w5).setCell (p := ⟨q, 0, none⟩) (.inl (by simp)) (.slice p5 (ls.length + 1) c5)) (fun k hk => by
      rcases HL5.O with h | h
      ·rw [h] at hk; intro hm; simp at hm; subst hm; exact HNQ.O hk
      ·rw [h] at hk; cases hk; simp; omega)
     rw [ik, im] at ho6
     have e1 : (((cQ ls a).take (pp) ++ [(a, iA v)] ++ (cQ ls a).drop (pp)).length) = ls.length + 1 := by
      have := af HLN
      have := af HPL
      simp; omega
     have e2 : aB ((cQ ls a).take (pp) ++ [(a, iA v)] ++ (cQ ls a).drop (pp)) = aB ((cQ ls a).take (pp)) ++ [.string a, .string (iA v)] ++ aB ((cQ ls a).drop (pp)) := by simp [aB]
     rw [e1, e2]
     exact ho6
    ·rcases HL5.O with h | h
     ·rw [h]; exact HNQ.O
     ·rw [h]; simp; omega
    ·rcases HL5.O with h | h
     ·exact .inl (h.symm.trans hk)
     ·rw [h] at hk; cases hk; right; simp; omega
   ·refine Ex.setCell (((HXX.O.drew.trans (HX4.O.drop (by simp))).alloc _).trans (HX5.O.drop (fun x hx _ => ?_))) (.inl (by simp)) _
    simp only [Option.mem_toList] at hx
    simp [hx]
 |true =>
  have hlt : pp < ls.length := by rw [<- af HPP]; exact tX ht
  obtain ⟨n, hnn⟩ : ∃ n, ls.length = n + 1 := ⟨ls.length - 1, by omega⟩
  have hoff : cQ ls a = ls.take pp ++ ls.drop (pp + 1) := by simp [cQ, ht, af HPP]
  obtain ⟨g, cap, rfl, hgb⟩ : ∃ g cap, v0 = .slice (some ⟨g, 0, none⟩) ls.length cap /\ base <= g := by
   rcases ho1.2 with ⟨_, h⟩ | ⟨g, cap, cur, h, hb, _⟩
   ·omega
   ·exact ⟨g, cap, h, hb⟩
  have HB1 := aa hb1
  have HO1 := aa ho1
  have HX1 := aa hx1
  have HT := aa ht
  have hgq : g ≠ q := fun e => HN0.O (by rw [e]; rfl)
  obtain ⟨hc, hf⟩ := hb1.all
  have hq1 := hb1.lt
  have HNN := aa hnn
  clear hb1 ho1 hx1 ht hnn
  go_wp2_with fail
  have hnn := af HNN
  refine (tg base g ls.length cap (pp) (aB ls) _ HO1.O hlt (by omega) (iC ls)).mono ?_
  rintro e w2 ⟨rfl, ho2, hx2⟩
  have hdl : (aB ls).take (pp * 2) ++ (aB ls).drop ((pp + 1) * 2) = aB (cQ ls a) := by
   rw [ik, im, hoff]; simp [aB]
  rw [hdl, show ls.length - 1 = n by omega] at ho2
  rw [show ls.length - 1 = n by omega]
  have hb2 := HB1.O.ex hx2 (by simpa using Ne.symm hgq)
  have HB2 := aa hb2
  have HO2 := aa ho2
  have HX2 := aa hx2
  have hz2 := hx2.size
  clear hc hf hdl
  obtain ⟨hc, hf⟩ := hb2.all
  have hq2 := hb2.lt
  have HOFF := aa hoff
  clear hb2 ho2 hx2 hnn hoff
  obtain ⟨w3, hw3⟩ := exq (w2.setCell ⟨q, 0, none⟩ (.slice (some ⟨g, 0, none⟩) n cap))
  have hlo : (cQ ls a).length = n := by have := af HNN; rw [af HOFF]; simp; omega
  have hb3 : BK w3 q (.cells #[.slice (some ⟨g, 0, none⟩) n cap] 250 (0, 0)) := by rw [hw3]; exact HB2.O.self 0 _
  have ho3 : w3.ownsRow base 167 2 (.slice (some ⟨g, 0, none⟩) n cap) n (aB (cQ ls a)) := by
   rw [hw3]; exact fR HO2.O ((Ex.refl [q] _).setCell (.inl (by simp)) _) (fun k hk => by cases hk; simpa using hgq)
  have hx3 : Ex (q :: (Value.slice (some ⟨g, 0, none⟩) ls.length cap).ownBlock.toList) w w3 := by
   rw [hw3]
   exact ((HX1.O.drop (by simp)).trans (HX2.O.drop (fun x hx _ => by simp at hx; subst hx; simp [Value.ownBlock]))).setCell (.inl (by simp)) _
  have HXX := aa hx3
  have HBX := aa hb3
  have HOX : Hid (w3.ownsRow base 167 2 (.slice (some ⟨g, 0, none⟩) n cap) (cQ ls a).length (aB (cQ ls a))) := by rw [hlo]; exact ho3
  have HOX' := aa ho3
  have HNQ : Hid ((Value.slice (some ⟨g, 0, none⟩) n cap).ownBlock ≠ some q) := HN0.O
  have HLN := aa hlo
  have HPL : Hid (pp <= n) := show pp <= n by have := af HNN; omega
  have HOB : Hid ((Value.slice (some ⟨g, 0, none⟩) n cap).ownBlock = (Value.slice (some ⟨g, 0, none⟩) ls.length cap).ownBlock) := rfl
  have HW3 := aa hw3
  clear hw3
  have HC3 := aa hb3.all
  have hq3 := hb3.lt
  have hn59 : n <= 60 := by have := af HNN; omega
  clear hb3 ho3 hx3 hlo
  by_cases hv0 : v.size = 0
  ·obtain rfl : v = ⟨#[]⟩ := by apply ByteArray.ext; exact Array.eq_empty_of_size_eq_zero hv0
   go_wp2_with fail
   rw [<- af HW3]
   refine bodyPost_ret (results_none rfl _ _ _) rfl ⟨rfl, ?_, HXX.O⟩
   rw [dJ, if_pos (.inl rfl)]
   exact ⟨Nat.le_trans hle HXX.O.size, _, HBX.O, HOX.O, HNQ.O, fun k hk => .inl hk⟩
  have hem := cr hv0
  by_cases h60 : (cQ ls a).length = 60
  ·have h60' : (((n : Nat) : Int) == 60) = true := by have := af HLN; simp; omega
   go_wp2_with fail
   rw [<- af HW3]
   refine bodyPost_ret (results_none rfl _ _ _) rfl ⟨rfl, ?_, HXX.O⟩
   rw [dJ, if_pos (.inr h60)]
   exact ⟨Nat.le_trans hle HXX.O.size, _, HBX.O, HOX.O, HNQ.O, fun k hk => .inl hk⟩
  have h60' : (((n : Nat) : Int) == 60) = false := by have := af HLN; rw [beq_eq_false_iff_ne]; omega
  have hset : dJ ls a v = (cQ ls a).take (pp) ++ [(a, iA v)] ++ (cQ ls a).drop (pp) := by rw [dJ, if_neg (by simp [hv0, h60]), af HPP]
  have HSET := aa hset
  have hzx : w.heap.size <= w3.heap.size := HXX.O.size
  clear hset
  go_wp2_with fail
  rw [<- af HW3]
  clear hc hf
  obtain ⟨hc, hf⟩ := HC3.O
  go_region_with (first
   |(go_at_call 174; refine (r8 v _ hvl).mono ?_; rintro e w4 ⟨rfl, hx4⟩; have hb4 := HBX.O.drew.ex hx4 (by simp); obtain ⟨hc4, hf4⟩ := hb4.all; have hl4 := hb4.lt; have hz4 : w3.heap.size <= w4.heap.size := hx4.size)
   |(go_at_call 173; refine (mn base n (pp) w4.heap.size _ (aB (cQ ls a)) (a, iA v) _ ((aE (World.ownsRow.drew HOX'.O) hx4 (by simp)).alloc _) (by have := af HPL; omega) (by omega) (iC _) (by simp; omega) ((BK.new _ _)) (fun e => by have := (HOX'.O.lt _ e).2; omega)).mono ?_; rintro e w5 ⟨v5, rfl, ho5, hx5, hl5⟩; obtain ⟨p5, c5, rfl⟩ := aw ho5; have hb5 := BK.ex (hb4.alloc (Obj.cells #[.string a, .string (iA v)] 167)) hx5 (by simp only [Option.mem_toList]; exact HNQ.O); obtain ⟨hc5, hf5⟩ := hb5.all))
  all_goals
   have HX4 := aa hx4
   have HX5 := aa hx5
   have HO5 := aa ho5
   have HB5 := aa hb5
   have HL5 := aa hl5
   clear hx4 hx5 ho5 hb5 hl5 hb4 hc4 hf4 hc hf hc5 hf5
   go_end0
   have hz5 : w4.heap.size + 1 <= w5.heap.size := by have := HX5.O.size; simpa using this
   refine ⟨rfl, ?_, ?_⟩
   ·rw [af HSET]
    refine ⟨by simp; omega, _, BK.self HB5.O 0 _, ?_, ?_, fun k hk => ?_⟩
    ·have ho6 := fR HO5.O ((Ex.refl [q] w5).setCell (p := ⟨q, 0, none⟩) (.inl (by simp)) (.slice p5 (n + 1) c5)) (fun k hk => by
      rcases HL5.O with h | h
      ·rw [h] at hk; intro hm; simp at hm; subst hm; exact HNQ.O hk
      ·rw [h] at hk; cases hk; simp; omega)
     rw [ik, im] at ho6
     have e1 : (((cQ ls a).take (pp) ++ [(a, iA v)] ++ (cQ ls a).drop (pp)).length) = n + 1 := by
      have := af HLN
      have := af HPL
      simp; omega
     have e2 : aB ((cQ ls a).take (pp) ++ [(a, iA v)] ++ (cQ ls a).drop (pp)) = aB ((cQ ls a).take (pp)) ++ [.string a, .string (iA v)] ++ aB ((cQ ls a).drop (pp)) := by simp [aB]
     rw [e1, e2]
     exact ho6
    ·rcases HL5.O with h | h
     ·rw [h]; exact HNQ.O
     ·rw [h]; simp; omega
    ·rcases HL5.O with h | h
     ·exact .inl (h.symm.trans hk)
     ·rw [h] at hk; cases hk; right; simp; omega
   ·refine Ex.setCell (((HXX.O.drew.trans (HX4.O.drop (by simp))).alloc _).trans (HX5.O.drop (fun x hx _ => ?_))) (.inl (by simp)) _
    simp only [Option.mem_toList] at hx
    rw [HOB.O] at hx
    simp [hx]
theorem sA (q base : Nat) (ls : List Lab) (a v : ByteArray) (v0 : Value) (w : World) (hle : base <= w.heap.size) (hq : BK w q (.cells #[v0] 250 (0, 0))) (ho : w.ownsRow base 167 2 v0 ls.length (aB ls)) (hnq : v0.ownBlock ≠ some q)
  (hn : ls.length <= 60) (hsrt : eu ls a) (hvl : v.size <= 281474976710656) :
  Calls Tryz.prog 119 #[.pointer (some ⟨q, 0, none⟩), .string a, .string v] w fun e w' => e = .returned (.tuple #[]) /\ LT w' q base (dJ ls a v) /\ Ex (q :: v0.ownBlock.toList) w w' :=
 (xV q base ls a v v0 w hle hq ho hnq hn hsrt hvl).mono fun _ _ h => ⟨h.1, h.2.1.lt, h.2.2⟩
end Go.Proofs.YtfnanjbleifjkaaGreatDoor
namespace Go.Proofs
open Go.Shelf
end Go.Proofs
