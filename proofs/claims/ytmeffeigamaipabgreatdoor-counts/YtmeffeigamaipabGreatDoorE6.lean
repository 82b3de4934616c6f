/- retagkeep.Counts answers true, at every cache. -/
import Derived.Test.YtmeffeigamaipabGreatDoorE5
import Derived.Laws.IdiomStrings
set_option linter.unusedVariables false
set_option linter.unusedSimpArgs false
namespace Go.Proofs.YtmeffeigamaipabGreatDoor
open Go.RowKit

set_option maxHeartbeats 4000000 in
set_option maxRecDepth 100000 in
theorem counts_low (c : Int) (hc : c < 1) (n a : Int) (w : World) (hn : -9223372036854775808 ≤ n ∧ n ≤ 9223372036854775807) (ha : -9223372036854775808 ≤ a ∧ a ≤ 9223372036854775807) :
    Calls Tryz.prog 7 #[.int .i64 c, .int .i64 n, .int .i64 a] w fun x w' => x = .returned (.bool true) ∧ Ex [] w w' := by
  have hro : roomOf c = 1 := by unfold roomOf; omega
  have HRO := hide hro
  have HA := hide ha
  clear hro ha
  go_enter Tryz.func7, Tryz.ntmps7
  go_wp2_with fail
  refine (pick_any n 70 _ (by omega) (by omega) hn).mono ?_
  rintro x w1 ⟨⟨k, rfl, hk⟩, rfl⟩
  go_wp2_with fail
  refine (open_any R0 c _).mono ?_
  rintro x w0 ⟨e, m, mb, rfl, hen, hx0, he0, hm0, hmb0⟩
  rw [unhide HRO] at hen
  have HEN := hide hen
  have HX0 := hide hx0
  clear hen hx0
  go_wp2_with fail
  go_loopg [9] k (fun gk i wr => ∃ (j : Nat) (ts : List (List Value)) (tv : Value) (es : Array MapEntry) (clk : Nat), j + gk = k ∧ i = .int .i64 j ∧ Inv 1 j ts ∧ EN R0 wr e m mb w0.heap.size 1 (.slice none 0 0) ts tv es clk ∧ EB w0.heap.size [m, mb] w0 wr)
  case atStart => exact ⟨0, [], _, _, _, by omega, rfl, inv_nil _, HEN.out, EB.refl _ _ _⟩
  case round =>
    obtain ⟨j, ts, tv, es, clk, hj, rfl, hinv, hen, heb⟩ := hrel
    have HINV := hide hinv
    have HENR := hide hen
    have HEB := hide heb
    clear hinv hen heb
    cases gk with
    | zero =>
      obtain rfl : j = k := by omega
      have hle : w0.heap.size ≤ wr.heap.size := HENR.out.mem.le
      clear hj
      go_wp2_with fail
      refine (cached_any R0 e m mb w0.heap.size 1 _ ts tv es clk _ HENR.out).mono ?_
      rintro x w2 ⟨rfl, hw2⟩
      subst hw2
      go_wp2_with fail
      have hbr := BK.new w2 (Obj.cells #[.int .i64 (-1), .slice none 0 0, .string ⟨#[]⟩, .string ⟨#[]⟩, .string ⟨#[]⟩, .string ⟨#[]⟩, .int .u64 0] 37)
      refine (load_noAction e w2.heap.size (-1) none 0 0 ⟨#[]⟩ ⟨#[]⟩ ⟨#[]⟩ ⟨#[]⟩ 0 _ (by omega) hbr).mono ?_
      rintro x w3 ⟨rfl, hx3⟩
      have hen3 := (HENR.out.ex0 ((Ex.refl _ _).alloc _)).ex0 hx3
      have heb3 : EB w0.heap.size [m, mb] w0 w3 := (HEB.out.alloc hle _).trans ((EB.ofEx hx3 (by simp; omega)).mono (Nat.le_refl _) (by simp))
      have HEN3 := hide hen3
      have HEB3 := hide heb3
      clear hbr hx3 hen3 heb3
      go_wp2_with fail
      refine (cached_any R0 e m mb w0.heap.size 1 _ ts tv es clk _ HEN3.out).mono ?_
      rintro x w4 ⟨rfl, hw4⟩
      subst hw4
      go_wp2_with fail
      refine (flush_any R0 e m mb w0.heap.size 1 _ ts tv es clk _ HEN3.out).mono ?_
      rintro x w5 ⟨rfl, hen5, hx5⟩
      have heb5 : EB w0.heap.size [m, mb] w0 w5 := HEB3.out.trans (EB.ofEx hx5 HEN3.out.mem.le)
      have HEN5 := hide hen5
      have HEB5 := hide heb5
      clear hen5 hx5 heb5
      go_wp2_with fail
      refine (cached_any R0 e m mb w0.heap.size 1 _ [] _ _ clk _ HEN5.out).mono ?_
      rintro x w6 ⟨rfl, hw6⟩
      subst hw6
      go_wp2_with fail
      refine (asks_nil HEN5.out).mono ?_
      rintro x w7 ⟨⟨v', b, rfl⟩, ⟨ts7, tv7, es7, clk7, haf7, hen7⟩, heb7⟩
      obtain rfl := after_nil (by omega) haf7
      have heb07 := HEB5.out.trans heb7
      have HEN7 := hide hen7
      have HEB7 := hide heb07
      clear haf7 hen7 heb7 heb07
      go_wp2_with fail
      refine (cached_any R0 e m mb w0.heap.size 1 _ [serC []] tv7 es7 clk7 _ HEN7.out).mono ?_
      rintro x w8 ⟨rfl, hw8⟩
      subst hw8
      go_wp2_with fail
      refine (load_none R0 e m mb w0.heap.size 1 _ [serC []] tv7 es7 clk7 _ HEN7.out).mono ?_
      rintro x w9 ⟨rfl, hen9, hx9⟩
      have HEN9 := hide hen9
      have HX9 := hide hx9
      clear hen9 hx9
      go_wp2_with fail
      refine (cached_any R0 e m mb w0.heap.size 1 _ [] _ _ clk7 _ HEN9.out).mono ?_
      rintro x w10 ⟨rfl, hw10⟩
      subst hw10
      go_wp2_with fail
      go_ret
      refine ⟨by simp, ?_⟩
      have h1 : EB w1.heap.size [] w1 w0 := EB.ofEx HX0.out (Nat.le_refl _)
      have hz : w1.heap.size ≤ w0.heap.size := HX0.out.size
      have h2 : EB w1.heap.size [] w0 w8 := HEB7.out.mono hz (fun x hx hlt => by simp at hx; omega)
      have h3 : EB w1.heap.size [] w8 w10 := (EB.ofEx HX9.out (Nat.le_trans hz HEN7.out.mem.le)).mono (Nat.le_refl _) (fun x hx hlt => by simp at hx; omega)
      exact EB.toEx ((h1.trans h2).trans h3)
    | succ g =>
      have hjk : j < k := by omega
      have hjk' : (j : Int) < (k : Int) := by omega
      have hj70 : j < 70 := by omega
      have hcv := conv_two wr j (by omega)
      go_wp2_with fail
      rw [cat_x]
      clear hcv
      have hen2 : EN R0 ((wr.alloc (Obj.cells #[.int .u8 118, .int .u8 j] 5)).alloc (Obj.cells #[.string aN, .string (vk j), .string aN, .string (xv j)] 48)) e m mb w0.heap.size 1 (.slice none 0 0) ts tv es clk := HENR.out.ex0 (((Ex.refl _ _).alloc _).alloc _)
      have hsl2 := sl_new2 (wr.alloc (Obj.cells #[.int .u8 118, .int .u8 j] 5)) (vk j) (xv j) 48
      simp only [World.size_alloc] at hsl2
      have hle : w0.heap.size ≤ wr.heap.size := HENR.out.mem.le
      refine (asks_two hen2 hsl2 (by simp [vk, ByteArray.size]) (by simp [vk, ByteArray.size]) (by simp [xv, ByteArray.size]) (by simp [xv, ByteArray.size])).mono ?_
      rintro x w3 ⟨⟨v', b, rfl⟩, ⟨ts1, tv1, es1, clk1, haf1, hen3⟩, heb3⟩
      have hinv1 := inv_new (by omega) hj70 HINV.out haf1
      have heb03 : EB w0.heap.size [m, mb] w0 w3 := ((HEB.out.alloc hle _).alloc (by simp; omega) _).trans heb3
      have HINV1 := hide hinv1
      have HEN3 := hide hen3
      have HEB3 := hide heb03
      clear hen2 hsl2 haf1 hen3 heb3 hinv1 heb03
      go_wp2_with fail
      refine (pick_any a ((j : Int) + 1) _ (by omega) (by omega) HA.out).mono ?_
      rintro x w4 ⟨⟨q, rfl, hq⟩, hw4⟩
      subst hw4
      have hcv2 := conv_one w4 q (by omega)
      have hq255 : (q : Int) < 256 := by omega
      go_wp2_with fail
      rw [cat_xv]
      clear hcv2
      have hen4 : EN R0 ((w4.alloc (Obj.cells #[.int .u8 q] 5)).alloc (Obj.cells #[.string aN, .string (xv q)] 48)) e m mb w0.heap.size 1 (.slice none 0 0) ts1 tv1 es1 clk1 := HEN3.out.ex0 (((Ex.refl _ _).alloc _).alloc _)
      have hsl4 := sl_new1 (w4.alloc (Obj.cells #[.int .u8 q] 5)) (xv q) 48
      simp only [World.size_alloc] at hsl4
      have hle4 : w0.heap.size ≤ w4.heap.size := HEN3.out.mem.le
      refine (asks_one hen4 hsl4 (by simp [xv, ByteArray.size]) (by simp [xv, ByteArray.size])).mono ?_
      rintro x w5 ⟨⟨v', b', rfl⟩, ⟨ts2, tv2, es2, clk2, haf2, hen5⟩, heb5⟩
      have hinv2 := inv_old (k := q) (by omega) (by omega) HINV1.out haf2
      have heb05 : EB w0.heap.size [m, mb] w0 w5 := ((HEB3.out.alloc hle4 _).alloc (by simp; omega) _).trans heb5
      have HINV2 := hide hinv2
      have HEN5 := hide hen5
      have HEB5 := hide heb05
      have hmin := hinv2.2.1
      clear hen4 hsl4 haf2 hen5 heb5 hinv2 heb05
      by_cases hw : 1 < j + 1
      · have hlen : ts2.length = 1 := by omega
        have HLEN := hide hlen
        have hw' : (1 : Int) < (j : Int) + 1 := by omega
        clear hmin hlen
        go_wp2_with fail
        refine (cached_any R0 e m mb w0.heap.size 1 _ ts2 tv2 es2 clk2 _ HEN5.out).mono ?_
        rintro x w6 ⟨rfl, hw6⟩
        subst hw6
        rw [unhide HLEN]
        go_wp2_with fail
        go_roundg g
        case measure => omega
        case rel => exact ⟨j + 1, ts2, tv2, es2, clk2, by omega, by simp, HINV2.out, HEN5.out, HEB5.out⟩
      · have hlen : ts2.length = j + 1 := by omega
        have HLEN := hide hlen
        have hw' : (j : Int) + 1 ≤ (1 : Int) := by omega
        clear hmin hlen
        go_wp2_with fail
        refine (cached_any R0 e m mb w0.heap.size 1 _ ts2 tv2 es2 clk2 _ HEN5.out).mono ?_
        rintro x w6 ⟨rfl, hw6⟩
        subst hw6
        rw [unhide HLEN]
        go_wp2_with fail
        go_roundg g
        case measure => omega
        case rel => exact ⟨j + 1, ts2, tv2, es2, clk2, by omega, by simp, HINV2.out, HEN5.out, HEB5.out⟩

set_option maxHeartbeats 4000000 in
set_option maxRecDepth 100000 in
theorem counts_high (c : Int) (hc : 50 < c) (n a : Int) (w : World) (hn : -9223372036854775808 ≤ n ∧ n ≤ 9223372036854775807) (ha : -9223372036854775808 ≤ a ∧ a ≤ 9223372036854775807) :
    Calls Tryz.prog 7 #[.int .i64 c, .int .i64 n, .int .i64 a] w fun x w' => x = .returned (.bool true) ∧ Ex [] w w' := by
  have hro : roomOf c = 50 := by unfold roomOf; omega
  have HRO := hide hro
  have HA := hide ha
  clear hro ha
  go_enter Tryz.func7, Tryz.ntmps7
  go_wp2_with fail
  refine (pick_any n 70 _ (by omega) (by omega) hn).mono ?_
  rintro x w1 ⟨⟨k, rfl, hk⟩, rfl⟩
  go_wp2_with fail
  refine (open_any R0 c _).mono ?_
  rintro x w0 ⟨e, m, mb, rfl, hen, hx0, he0, hm0, hmb0⟩
  rw [unhide HRO] at hen
  have HEN := hide hen
  have HX0 := hide hx0
  clear hen hx0
  go_wp2_with fail
  go_loopg [9] k (fun gk i wr => ∃ (j : Nat) (ts : List (List Value)) (tv : Value) (es : Array MapEntry) (clk : Nat), j + gk = k ∧ i = .int .i64 j ∧ Inv 50 j ts ∧ EN R0 wr e m mb w0.heap.size 50 (.slice none 0 0) ts tv es clk ∧ EB w0.heap.size [m, mb] w0 wr)
  case atStart => exact ⟨0, [], _, _, _, by omega, rfl, inv_nil _, HEN.out, EB.refl _ _ _⟩
  case round =>
    obtain ⟨j, ts, tv, es, clk, hj, rfl, hinv, hen, heb⟩ := hrel
    have HINV := hide hinv
    have HENR := hide hen
    have HEB := hide heb
    clear hinv hen heb
    cases gk with
    | zero =>
      obtain rfl : j = k := by omega
      have hle : w0.heap.size ≤ wr.heap.size := HENR.out.mem.le
      clear hj
      go_wp2_with fail
      refine (cached_any R0 e m mb w0.heap.size 50 _ ts tv es clk _ HENR.out).mono ?_
      rintro x w2 ⟨rfl, hw2⟩
      subst hw2
      go_wp2_with fail
      have hbr := BK.new w2 (Obj.cells #[.int .i64 (-1), .slice none 0 0, .string ⟨#[]⟩, .string ⟨#[]⟩, .string ⟨#[]⟩, .string ⟨#[]⟩, .int .u64 0] 37)
      refine (load_noAction e w2.heap.size (-1) none 0 0 ⟨#[]⟩ ⟨#[]⟩ ⟨#[]⟩ ⟨#[]⟩ 0 _ (by omega) hbr).mono ?_
      rintro x w3 ⟨rfl, hx3⟩
      have hen3 := (HENR.out.ex0 ((Ex.refl _ _).alloc _)).ex0 hx3
      have heb3 : EB w0.heap.size [m, mb] w0 w3 := (HEB.out.alloc hle _).trans ((EB.ofEx hx3 (by simp; omega)).mono (Nat.le_refl _) (by simp))
      have HEN3 := hide hen3
      have HEB3 := hide heb3
      clear hbr hx3 hen3 heb3
      go_wp2_with fail
      refine (cached_any R0 e m mb w0.heap.size 50 _ ts tv es clk _ HEN3.out).mono ?_
      rintro x w4 ⟨rfl, hw4⟩
      subst hw4
      go_wp2_with fail
      refine (flush_any R0 e m mb w0.heap.size 50 _ ts tv es clk _ HEN3.out).mono ?_
      rintro x w5 ⟨rfl, hen5, hx5⟩
      have heb5 : EB w0.heap.size [m, mb] w0 w5 := HEB3.out.trans (EB.ofEx hx5 HEN3.out.mem.le)
      have HEN5 := hide hen5
      have HEB5 := hide heb5
      clear hen5 hx5 heb5
      go_wp2_with fail
      refine (cached_any R0 e m mb w0.heap.size 50 _ [] _ _ clk _ HEN5.out).mono ?_
      rintro x w6 ⟨rfl, hw6⟩
      subst hw6
      go_wp2_with fail
      refine (asks_nil HEN5.out).mono ?_
      rintro x w7 ⟨⟨v', b, rfl⟩, ⟨ts7, tv7, es7, clk7, haf7, hen7⟩, heb7⟩
      obtain rfl := after_nil (by omega) haf7
      have heb07 := HEB5.out.trans heb7
      have HEN7 := hide hen7
      have HEB7 := hide heb07
      clear haf7 hen7 heb7 heb07
      go_wp2_with fail
      refine (cached_any R0 e m mb w0.heap.size 50 _ [serC []] tv7 es7 clk7 _ HEN7.out).mono ?_
      rintro x w8 ⟨rfl, hw8⟩
      subst hw8
      go_wp2_with fail
      refine (load_none R0 e m mb w0.heap.size 50 _ [serC []] tv7 es7 clk7 _ HEN7.out).mono ?_
      rintro x w9 ⟨rfl, hen9, hx9⟩
      have HEN9 := hide hen9
      have HX9 := hide hx9
      clear hen9 hx9
      go_wp2_with fail
      refine (cached_any R0 e m mb w0.heap.size 50 _ [] _ _ clk7 _ HEN9.out).mono ?_
      rintro x w10 ⟨rfl, hw10⟩
      subst hw10
      go_wp2_with fail
      go_ret
      refine ⟨by simp, ?_⟩
      have h1 : EB w1.heap.size [] w1 w0 := EB.ofEx HX0.out (Nat.le_refl _)
      have hz : w1.heap.size ≤ w0.heap.size := HX0.out.size
      have h2 : EB w1.heap.size [] w0 w8 := HEB7.out.mono hz (fun x hx hlt => by simp at hx; omega)
      have h3 : EB w1.heap.size [] w8 w10 := (EB.ofEx HX9.out (Nat.le_trans hz HEN7.out.mem.le)).mono (Nat.le_refl _) (fun x hx hlt => by simp at hx; omega)
      exact EB.toEx ((h1.trans h2).trans h3)
    | succ g =>
      have hjk : j < k := by omega
      have hjk' : (j : Int) < (k : Int) := by omega
      have hj70 : j < 70 := by omega
      have hcv := conv_two wr j (by omega)
      go_wp2_with fail
      rw [cat_x]
      clear hcv
      have hen2 : EN R0 ((wr.alloc (Obj.cells #[.int .u8 118, .int .u8 j] 5)).alloc (Obj.cells #[.string aN, .string (vk j), .string aN, .string (xv j)] 48)) e m mb w0.heap.size 50 (.slice none 0 0) ts tv es clk := HENR.out.ex0 (((Ex.refl _ _).alloc _).alloc _)
      have hsl2 := sl_new2 (wr.alloc (Obj.cells #[.int .u8 118, .int .u8 j] 5)) (vk j) (xv j) 48
      simp only [World.size_alloc] at hsl2
      have hle : w0.heap.size ≤ wr.heap.size := HENR.out.mem.le
      refine (asks_two hen2 hsl2 (by simp [vk, ByteArray.size]) (by simp [vk, ByteArray.size]) (by simp [xv, ByteArray.size]) (by simp [xv, ByteArray.size])).mono ?_
      rintro x w3 ⟨⟨v', b, rfl⟩, ⟨ts1, tv1, es1, clk1, haf1, hen3⟩, heb3⟩
      have hinv1 := inv_new (by omega) hj70 HINV.out haf1
      have heb03 : EB w0.heap.size [m, mb] w0 w3 := ((HEB.out.alloc hle _).alloc (by simp; omega) _).trans heb3
      have HINV1 := hide hinv1
      have HEN3 := hide hen3
      have HEB3 := hide heb03
      clear hen2 hsl2 haf1 hen3 heb3 hinv1 heb03
      go_wp2_with fail
      refine (pick_any a ((j : Int) + 1) _ (by omega) (by omega) HA.out).mono ?_
      rintro x w4 ⟨⟨q, rfl, hq⟩, hw4⟩
      subst hw4
      have hcv2 := conv_one w4 q (by omega)
      have hq255 : (q : Int) < 256 := by omega
      go_wp2_with fail
      rw [cat_xv]
      clear hcv2
      have hen4 : EN R0 ((w4.alloc (Obj.cells #[.int .u8 q] 5)).alloc (Obj.cells #[.string aN, .string (xv q)] 48)) e m mb w0.heap.size 50 (.slice none 0 0) ts1 tv1 es1 clk1 := HEN3.out.ex0 (((Ex.refl _ _).alloc _).alloc _)
      have hsl4 := sl_new1 (w4.alloc (Obj.cells #[.int .u8 q] 5)) (xv q) 48
      simp only [World.size_alloc] at hsl4
      have hle4 : w0.heap.size ≤ w4.heap.size := HEN3.out.mem.le
      refine (asks_one hen4 hsl4 (by simp [xv, ByteArray.size]) (by simp [xv, ByteArray.size])).mono ?_
      rintro x w5 ⟨⟨v', b', rfl⟩, ⟨ts2, tv2, es2, clk2, haf2, hen5⟩, heb5⟩
      have hinv2 := inv_old (k := q) (by omega) (by omega) HINV1.out haf2
      have heb05 : EB w0.heap.size [m, mb] w0 w5 := ((HEB3.out.alloc hle4 _).alloc (by simp; omega) _).trans heb5
      have HINV2 := hide hinv2
      have HEN5 := hide hen5
      have HEB5 := hide heb05
      have hmin := hinv2.2.1
      clear hen4 hsl4 haf2 hen5 heb5 hinv2 heb05
      by_cases hw : 50 < j + 1
      · have hlen : ts2.length = 50 := by omega
        have HLEN := hide hlen
        have hw' : (50 : Int) < (j : Int) + 1 := by omega
        clear hmin hlen
        go_wp2_with fail
        refine (cached_any R0 e m mb w0.heap.size 50 _ ts2 tv2 es2 clk2 _ HEN5.out).mono ?_
        rintro x w6 ⟨rfl, hw6⟩
        subst hw6
        rw [unhide HLEN]
        go_wp2_with fail
        go_roundg g
        case measure => omega
        case rel => exact ⟨j + 1, ts2, tv2, es2, clk2, by omega, by simp, HINV2.out, HEN5.out, HEB5.out⟩
      · have hlen : ts2.length = j + 1 := by omega
        have HLEN := hide hlen
        have hw' : (j : Int) + 1 ≤ (50 : Int) := by omega
        clear hmin hlen
        go_wp2_with fail
        refine (cached_any R0 e m mb w0.heap.size 50 _ ts2 tv2 es2 clk2 _ HEN5.out).mono ?_
        rintro x w6 ⟨rfl, hw6⟩
        subst hw6
        rw [unhide HLEN]
        go_wp2_with fail
        go_roundg g
        case measure => omega
        case rel => exact ⟨j + 1, ts2, tv2, es2, clk2, by omega, by simp, HINV2.out, HEN5.out, HEB5.out⟩


theorem Counts_true (c n a : Int) (w : World) (hn : -9223372036854775808 ≤ n ∧ n ≤ 9223372036854775807) (ha : -9223372036854775808 ≤ a ∧ a ≤ 9223372036854775807) :
    Calls Tryz.prog 7 #[.int .i64 c, .int .i64 n, .int .i64 a] w fun x w' => x = .returned (.bool true) ∧ Ex [] w w' := by
  by_cases h1 : c < 1
  · exact counts_low c h1 n a w hn ha
  · by_cases h2 : 50 < c
    · exact counts_high c h2 n a w hn ha
    · obtain ⟨r, rfl⟩ : ∃ r : Nat, c = r := ⟨c.toNat, by omega⟩
      exact counts_mid r (by omega) (by omega) n a w hn ha
end Go.Proofs.YtmeffeigamaipabGreatDoor
