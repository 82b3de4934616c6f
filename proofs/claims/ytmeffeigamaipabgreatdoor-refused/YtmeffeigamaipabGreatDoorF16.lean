/- retagkeep.Refused, walked. -/
import Derived.Test.YtmeffeigamaipabGreatDoorM45
set_option linter.unusedVariables false
set_option linter.unusedSimpArgs false
namespace Go.Proofs.YtmeffeigamaipabGreatDoor
open Go.RowKit

set_option maxHeartbeats 4000000 in
set_option maxRecDepth 100000 in
theorem Refused_true (n which : Int) (w : World) (hn : -9223372036854775808 ≤ n ∧ n ≤ 9223372036854775807) (hwh : -9223372036854775808 ≤ which ∧ which ≤ 9223372036854775807) (hub : UB w) (x : G.EV) (hev : w.cell? ⟨1, 0, none⟩ = some (.iface x.1 x.2)) :
    Calls Tryz.prog 8 #[.int .i64 n, .int .i64 which] w fun y w' => y = .returned (.bool true) ∧ Ex [] w w' := by
  have HUB := hide hub
  have HEV := hide hev
  clear hub hev
  go_enter Tryz.func8, Tryz.ntmps8
  go_wp2_with fail
  obtain ⟨w0, hw0⟩ : ∃ w0, w0 = (w.alloc (Obj.cells #[.string ⟨#[97]⟩] 9)).alloc (Obj.cells #[.int .i64 10, .slice (some ⟨w.heap.size, 0, none⟩) 1 1, .string ⟨#[]⟩, .string ⟨#[]⟩, .string ⟨#[98]⟩, .string ⟨#[]⟩, .int .u64 0] 37) := ⟨_, rfl⟩
  rw [← hw0]
  have hx0 : Ex [] w w0 := by rw [hw0]; exact ((Ex.refl _ _).alloc _).alloc _
  have hb0 : BK w0 (w.heap.size + 1) (.cells #[.int .i64 10, .slice (some ⟨w.heap.size, 0, none⟩) 1 1, .string ⟨#[]⟩, .string ⟨#[]⟩, .string ⟨#[98]⟩, .string ⟨#[]⟩, .int .u64 0] 37 (0, 0)) := by
    rw [hw0]
    have h := BK.new (w.alloc (Obj.cells #[.string ⟨#[97]⟩] 9)) (Obj.cells #[.int .i64 10, .slice (some ⟨w.heap.size, 0, none⟩) 1 1, .string ⟨#[]⟩, .string ⟨#[]⟩, .string ⟨#[98]⟩, .string ⟨#[]⟩, .int .u64 0] 37)
    simp only [World.size_alloc] at h
    exact h
  have hs0 : SS w0 (.slice (some ⟨w.heap.size, 0, none⟩) 1 1) [aN] := by
    have hb : BK w0 w.heap.size (.cells #[.string ⟨#[97]⟩] 9 (0, 0)) := by rw [hw0]; exact (BK.new _ _).alloc _
    refine .inr ⟨w.heap.size, 1, rfl, hb.lt, fun j s hj => ?_⟩
    obtain rfl : j = 0 := by have := (List.getElem?_eq_some_iff.1 hj).1; simp at this; omega
    simp at hj
    subst hj
    exact hb.all.1 0
  refine (engine_raise R1 3 (w.heap.size + 1) (some ⟨w.heap.size, 0, none⟩) 1 aN ⟨#[]⟩ bN w0 hb0 (HUB.out.ex hx0 (by simp)) hs0 (by decide) (by decide) (by decide) (by decide) (by decide)).mono ?_
  rintro y w1 ⟨e, m, mb, gb, cap, b1, b2, p, c, pp, rfl, hen, hcg, hru, hm0, hmb0, hx1⟩
  have hx01 : Ex [] w w1 := hx0.trans hx1
  have hmw : w.heap.size ≤ m := by have := hx0.size; omega
  have hmbw : w.heap.size ≤ mb := by have := hx0.size; omega
  have HEN := hide hen
  have HCG := hide hcg
  have HRU := hide hru
  have HX01 := hide hx01
  have hgl := G.lt_of_cell hcg
  have hel := hen.lt
  clear hw0 hx0 hb0 hs0 hen hcg hru hx1 hx01 hm0 hmb0
  obtain ⟨w2, hmk2, hx12⟩ := mk_labels w1
  obtain ⟨w3, hmk3, hcv3, hx23⟩ := mk_long w2
  have hx13 : Ex [] w1 w3 := hx12.trans hx23
  have HX13 := hide hx13
  obtain ⟨L, hL⟩ : ∃ L, longN = L := ⟨_, rfl⟩
  have HL := hide hL
  rw [hL] at hcv3
  clear hx12 hx23 hx13 hL
  go_wp2_with fail
  refine (relabel_refused e _ 8 w3 (by decide) (by decide) (read_many _ 21 21 w3 (by decide))).mono ?_
  rintro y w4 ⟨rfl, hx4⟩
  have HX14 := hide (HX13.out.trans hx4)
  clear hx4 hmk2 hmk3 hcv3
  go_wp2_with fail
  refine (relabel_refused e _ 9 _ (by decide) (by decide) (read_wrong _ [(⟨#[49, 97]⟩, ⟨#[120]⟩)] _ (sl_lit (BK.new w4 (.cells #[.string ⟨#[49, 97]⟩, .string ⟨#[120]⟩] 48))) (by decide) (by simp; decide) (by decide))).mono ?_
  rintro y w5 ⟨rfl, hx5⟩
  have HX15 := hide ((HX14.out.alloc (.cells #[.string ⟨#[49, 97]⟩, .string ⟨#[120]⟩] 48)).trans hx5)
  clear hx5
  have hLs : L.size = 201 := by rw [← HL.out]; exact longN_size
  have hwr : [((⟨#[97]⟩ : ByteArray), L)].any wrongB = true := by simp [wrongB, hLs]
  have KW := hide (read_wrong _ [(⟨#[97]⟩, L)] _ (sl_lit (BK.new w5 (.cells #[.string ⟨#[97]⟩, .string L] 48))) (by simp) (by simp; decide) hwr)
  have HLS := hide hLs
  clear hwr hLs
  go_wp2_with fail
  refine (relabel_refused e _ 9 _ (by decide) (by decide) KW.out).mono ?_
  rintro y w6 ⟨rfl, hx6⟩
  have HX16 := hide ((HX15.out.alloc (.cells #[.string ⟨#[97]⟩, .string L] 48)).trans hx6)
  clear hx6 KW
  go_wp2_with fail
  refine (pick_any n 1099511627776 _ (by decide) (by decide) hn).mono ?_
  rintro y w7 ⟨⟨k1, rfl, hk1⟩, rfl⟩
  have HBZ : Hid (BK ((w6.alloc (Obj.cells #[.string ⟨#[97, 45, 98]⟩] 9)).alloc (Obj.cells #[.int .i64 0, .slice none 0 0, .string ⟨#[]⟩, .string ⟨#[]⟩, .string ⟨#[]⟩, .string ⟨#[]⟩, .int .u64 0, .int .i64 0, .slice none 0 0, .string ⟨#[]⟩, .string ⟨#[]⟩, .string ⟨#[]⟩, .string ⟨#[]⟩, .int .u64 0, .int .i64 0, .slice none 0 0, .string ⟨#[]⟩, .string ⟨#[]⟩, .string ⟨#[]⟩, .string ⟨#[]⟩, .int .u64 0, .int .i64 0, .slice none 0 0, .string ⟨#[]⟩, .string ⟨#[]⟩, .string ⟨#[]⟩, .string ⟨#[]⟩, .int .u64 0, .int .i64 0, .slice none 0 0, .string ⟨#[]⟩, .string ⟨#[]⟩, .string ⟨#[]⟩, .string ⟨#[]⟩, .int .u64 0, .int .i64 0, .slice none 0 0, .string ⟨#[]⟩, .string ⟨#[]⟩, .string ⟨#[]⟩, .string ⟨#[]⟩, .int .u64 0, .int .i64 0, .slice none 0 0, .string ⟨#[]⟩, .string ⟨#[]⟩, .string ⟨#[]⟩, .string ⟨#[]⟩, .int .u64 0, .int .i64 0, .slice none 0 0, .string ⟨#[]⟩, .string ⟨#[]⟩, .string ⟨#[]⟩, .string ⟨#[]⟩, .int .u64 0, .int .i64 0, .slice none 0 0, .string ⟨#[]⟩, .string ⟨#[]⟩, .string ⟨#[]⟩, .string ⟨#[]⟩, .int .u64 0] 62)) (w6.heap.size + 1) (.cells #[.int .i64 0, .slice none 0 0, .string ⟨#[]⟩, .string ⟨#[]⟩, .string ⟨#[]⟩, .string ⟨#[]⟩, .int .u64 0, .int .i64 0, .slice none 0 0, .string ⟨#[]⟩, .string ⟨#[]⟩, .string ⟨#[]⟩, .string ⟨#[]⟩, .int .u64 0, .int .i64 0, .slice none 0 0, .string ⟨#[]⟩, .string ⟨#[]⟩, .string ⟨#[]⟩, .string ⟨#[]⟩, .int .u64 0, .int .i64 0, .slice none 0 0, .string ⟨#[]⟩, .string ⟨#[]⟩, .string ⟨#[]⟩, .string ⟨#[]⟩, .int .u64 0, .int .i64 0, .slice none 0 0, .string ⟨#[]⟩, .string ⟨#[]⟩, .string ⟨#[]⟩, .string ⟨#[]⟩, .int .u64 0, .int .i64 0, .slice none 0 0, .string ⟨#[]⟩, .string ⟨#[]⟩, .string ⟨#[]⟩, .string ⟨#[]⟩, .int .u64 0, .int .i64 0, .slice none 0 0, .string ⟨#[]⟩, .string ⟨#[]⟩, .string ⟨#[]⟩, .string ⟨#[]⟩, .int .u64 0, .int .i64 0, .slice none 0 0, .string ⟨#[]⟩, .string ⟨#[]⟩, .string ⟨#[]⟩, .string ⟨#[]⟩, .int .u64 0, .int .i64 0, .slice none 0 0, .string ⟨#[]⟩, .string ⟨#[]⟩, .string ⟨#[]⟩, .string ⟨#[]⟩, .int .u64 0] 62 (0, 0))) := by
    have h := BK.new (w6.alloc (Obj.cells #[.string ⟨#[97, 45, 98]⟩] 9)) (Obj.cells #[.int .i64 0, .slice none 0 0, .string ⟨#[]⟩, .string ⟨#[]⟩, .string ⟨#[]⟩, .string ⟨#[]⟩, .int .u64 0, .int .i64 0, .slice none 0 0, .string ⟨#[]⟩, .string ⟨#[]⟩, .string ⟨#[]⟩, .string ⟨#[]⟩, .int .u64 0, .int .i64 0, .slice none 0 0, .string ⟨#[]⟩, .string ⟨#[]⟩, .string ⟨#[]⟩, .string ⟨#[]⟩, .int .u64 0, .int .i64 0, .slice none 0 0, .string ⟨#[]⟩, .string ⟨#[]⟩, .string ⟨#[]⟩, .string ⟨#[]⟩, .int .u64 0, .int .i64 0, .slice none 0 0, .string ⟨#[]⟩, .string ⟨#[]⟩, .string ⟨#[]⟩, .string ⟨#[]⟩, .int .u64 0, .int .i64 0, .slice none 0 0, .string ⟨#[]⟩, .string ⟨#[]⟩, .string ⟨#[]⟩, .string ⟨#[]⟩, .int .u64 0, .int .i64 0, .slice none 0 0, .string ⟨#[]⟩, .string ⟨#[]⟩, .string ⟨#[]⟩, .string ⟨#[]⟩, .int .u64 0, .int .i64 0, .slice none 0 0, .string ⟨#[]⟩, .string ⟨#[]⟩, .string ⟨#[]⟩, .string ⟨#[]⟩, .int .u64 0, .int .i64 0, .slice none 0 0, .string ⟨#[]⟩, .string ⟨#[]⟩, .string ⟨#[]⟩, .string ⟨#[]⟩, .int .u64 0] 62)
    simp only [World.size_alloc] at h
    exact h
  have HSZ : Hid ((Tryz.prog.info? 62).map (·.size) = some (#[.int .i64 11, .slice none 0 0, .string ⟨#[]⟩, .string ⟨#[]⟩, .string ⟨#[]⟩, .string ⟨#[]⟩, .int .u64 0, .int .i64 1, .slice none 0 0, .string L, .string ⟨#[]⟩, .string ⟨#[]⟩, .string ⟨#[]⟩, .int .u64 0, .int .i64 1, .slice (some ⟨w6.heap.size, 0, none⟩) 1 1, .string ⟨#[]⟩, .string ⟨#[]⟩, .string ⟨#[]⟩, .string ⟨#[]⟩, .int .u64 0, .int .i64 2, .slice none 0 0, .string ⟨#[]⟩, .string ⟨#[97, 42, 42]⟩, .string ⟨#[]⟩, .string ⟨#[]⟩, .int .u64 0, .int .i64 0, .slice none 0 0, .string ⟨#[]⟩, .string ⟨#[]⟩, .string ⟨#[]⟩, .string ⟨#[]⟩, .int .u64 0, .int .i64 5, .slice none 0 0, .string ⟨#[]⟩, .string ⟨#[]⟩, .string ⟨#[97, 36]⟩, .string ⟨#[]⟩, .int .u64 0, .int .i64 7, .slice none 0 0, .string ⟨#[59]⟩, .string ⟨#[]⟩, .string ⟨#[]⟩, .string ⟨#[]⟩, .int .u64 0, .int .i64 5, .slice none 0 0, .string ⟨#[]⟩, .string ⟨#[]⟩, .string ⟨#[97]⟩, .string ⟨#[]⟩, .int .u64 0, .int .i64 (-1 - (k1 : Int)), .slice none 0 0, .string ⟨#[]⟩, .string ⟨#[]⟩, .string ⟨#[]⟩, .string ⟨#[]⟩, .int .u64 0] : Array Value).size) := arr_size
  have HAL : Hid ((#[.int .i64 11, .slice none 0 0, .string ⟨#[]⟩, .string ⟨#[]⟩, .string ⟨#[]⟩, .string ⟨#[]⟩, .int .u64 0, .int .i64 1, .slice none 0 0, .string L, .string ⟨#[]⟩, .string ⟨#[]⟩, .string ⟨#[]⟩, .int .u64 0, .int .i64 1, .slice (some ⟨w6.heap.size, 0, none⟩) 1 1, .string ⟨#[]⟩, .string ⟨#[]⟩, .string ⟨#[]⟩, .string ⟨#[]⟩, .int .u64 0, .int .i64 2, .slice none 0 0, .string ⟨#[]⟩, .string ⟨#[97, 42, 42]⟩, .string ⟨#[]⟩, .string ⟨#[]⟩, .int .u64 0, .int .i64 0, .slice none 0 0, .string ⟨#[]⟩, .string ⟨#[]⟩, .string ⟨#[]⟩, .string ⟨#[]⟩, .int .u64 0, .int .i64 5, .slice none 0 0, .string ⟨#[]⟩, .string ⟨#[]⟩, .string ⟨#[97, 36]⟩, .string ⟨#[]⟩, .int .u64 0, .int .i64 7, .slice none 0 0, .string ⟨#[59]⟩, .string ⟨#[]⟩, .string ⟨#[]⟩, .string ⟨#[]⟩, .int .u64 0, .int .i64 5, .slice none 0 0, .string ⟨#[]⟩, .string ⟨#[]⟩, .string ⟨#[97]⟩, .string ⟨#[]⟩, .int .u64 0, .int .i64 (-1 - (k1 : Int)), .slice none 0 0, .string ⟨#[]⟩, .string ⟨#[]⟩, .string ⟨#[]⟩, .string ⟨#[]⟩, .int .u64 0] : Array Value).all (·.oneCell') = true) := by show Array.all _ _ = true; simp [Value.oneCell']
  have HS0 : Hid (SS ((w6.alloc (Obj.cells #[.string ⟨#[97, 45, 98]⟩] 9)).alloc (Obj.cells #[.int .i64 0, .slice none 0 0, .string ⟨#[]⟩, .string ⟨#[]⟩, .string ⟨#[]⟩, .string ⟨#[]⟩, .int .u64 0, .int .i64 0, .slice none 0 0, .string ⟨#[]⟩, .string ⟨#[]⟩, .string ⟨#[]⟩, .string ⟨#[]⟩, .int .u64 0, .int .i64 0, .slice none 0 0, .string ⟨#[]⟩, .string ⟨#[]⟩, .string ⟨#[]⟩, .string ⟨#[]⟩, .int .u64 0, .int .i64 0, .slice none 0 0, .string ⟨#[]⟩, .string ⟨#[]⟩, .string ⟨#[]⟩, .string ⟨#[]⟩, .int .u64 0, .int .i64 0, .slice none 0 0, .string ⟨#[]⟩, .string ⟨#[]⟩, .string ⟨#[]⟩, .string ⟨#[]⟩, .int .u64 0, .int .i64 0, .slice none 0 0, .string ⟨#[]⟩, .string ⟨#[]⟩, .string ⟨#[]⟩, .string ⟨#[]⟩, .int .u64 0, .int .i64 0, .slice none 0 0, .string ⟨#[]⟩, .string ⟨#[]⟩, .string ⟨#[]⟩, .string ⟨#[]⟩, .int .u64 0, .int .i64 0, .slice none 0 0, .string ⟨#[]⟩, .string ⟨#[]⟩, .string ⟨#[]⟩, .string ⟨#[]⟩, .int .u64 0, .int .i64 0, .slice none 0 0, .string ⟨#[]⟩, .string ⟨#[]⟩, .string ⟨#[]⟩, .string ⟨#[]⟩, .int .u64 0] 62)) (.slice (some ⟨w6.heap.size, 0, none⟩) 1 1) [⟨#[97, 45, 98]⟩]) := by
    have hb := (BK.new w6 (Obj.cells #[.string ⟨#[97, 45, 98]⟩] 9)).alloc (Obj.cells #[.int .i64 0, .slice none 0 0, .string ⟨#[]⟩, .string ⟨#[]⟩, .string ⟨#[]⟩, .string ⟨#[]⟩, .int .u64 0, .int .i64 0, .slice none 0 0, .string ⟨#[]⟩, .string ⟨#[]⟩, .string ⟨#[]⟩, .string ⟨#[]⟩, .int .u64 0, .int .i64 0, .slice none 0 0, .string ⟨#[]⟩, .string ⟨#[]⟩, .string ⟨#[]⟩, .string ⟨#[]⟩, .int .u64 0, .int .i64 0, .slice none 0 0, .string ⟨#[]⟩, .string ⟨#[]⟩, .string ⟨#[]⟩, .string ⟨#[]⟩, .int .u64 0, .int .i64 0, .slice none 0 0, .string ⟨#[]⟩, .string ⟨#[]⟩, .string ⟨#[]⟩, .string ⟨#[]⟩, .int .u64 0, .int .i64 0, .slice none 0 0, .string ⟨#[]⟩, .string ⟨#[]⟩, .string ⟨#[]⟩, .string ⟨#[]⟩, .int .u64 0, .int .i64 0, .slice none 0 0, .string ⟨#[]⟩, .string ⟨#[]⟩, .string ⟨#[]⟩, .string ⟨#[]⟩, .int .u64 0, .int .i64 0, .slice none 0 0, .string ⟨#[]⟩, .string ⟨#[]⟩, .string ⟨#[]⟩, .string ⟨#[]⟩, .int .u64 0, .int .i64 0, .slice none 0 0, .string ⟨#[]⟩, .string ⟨#[]⟩, .string ⟨#[]⟩, .string ⟨#[]⟩, .int .u64 0] 62)
    refine .inr ⟨w6.heap.size, 1, rfl, hb.lt, fun j s hj => ?_⟩
    obtain rfl : j = 0 := by have := (List.getElem?_eq_some_iff.1 hj).1; simp at this; omega
    simp at hj
    subst hj
    exact hb.all.1 0
  have HXZ : Hid (Ex [] w1 ((w6.alloc (Obj.cells #[.string ⟨#[97, 45, 98]⟩] 9)).alloc (Obj.cells #[.int .i64 0, .slice none 0 0, .string ⟨#[]⟩, .string ⟨#[]⟩, .string ⟨#[]⟩, .string ⟨#[]⟩, .int .u64 0, .int .i64 0, .slice none 0 0, .string ⟨#[]⟩, .string ⟨#[]⟩, .string ⟨#[]⟩, .string ⟨#[]⟩, .int .u64 0, .int .i64 0, .slice none 0 0, .string ⟨#[]⟩, .string ⟨#[]⟩, .string ⟨#[]⟩, .string ⟨#[]⟩, .int .u64 0, .int .i64 0, .slice none 0 0, .string ⟨#[]⟩, .string ⟨#[]⟩, .string ⟨#[]⟩, .string ⟨#[]⟩, .int .u64 0, .int .i64 0, .slice none 0 0, .string ⟨#[]⟩, .string ⟨#[]⟩, .string ⟨#[]⟩, .string ⟨#[]⟩, .int .u64 0, .int .i64 0, .slice none 0 0, .string ⟨#[]⟩, .string ⟨#[]⟩, .string ⟨#[]⟩, .string ⟨#[]⟩, .int .u64 0, .int .i64 0, .slice none 0 0, .string ⟨#[]⟩, .string ⟨#[]⟩, .string ⟨#[]⟩, .string ⟨#[]⟩, .int .u64 0, .int .i64 0, .slice none 0 0, .string ⟨#[]⟩, .string ⟨#[]⟩, .string ⟨#[]⟩, .string ⟨#[]⟩, .int .u64 0, .int .i64 0, .slice none 0 0, .string ⟨#[]⟩, .string ⟨#[]⟩, .string ⟨#[]⟩, .string ⟨#[]⟩, .int .u64 0] 62))) := (HX16.out.alloc _).alloc _
  go_wp2_with (refine wpList_store_row rfl 62 _ _ rfl (w6.heap.size + 1) #[.int .i64 11, .slice none 0 0, .string ⟨#[]⟩, .string ⟨#[]⟩, .string ⟨#[]⟩, .string ⟨#[]⟩, .int .u64 0, .int .i64 1, .slice none 0 0, .string L, .string ⟨#[]⟩, .string ⟨#[]⟩, .string ⟨#[]⟩, .int .u64 0, .int .i64 1, .slice (some ⟨w6.heap.size, 0, none⟩) 1 1, .string ⟨#[]⟩, .string ⟨#[]⟩, .string ⟨#[]⟩, .string ⟨#[]⟩, .int .u64 0, .int .i64 2, .slice none 0 0, .string ⟨#[]⟩, .string ⟨#[97, 42, 42]⟩, .string ⟨#[]⟩, .string ⟨#[]⟩, .int .u64 0, .int .i64 0, .slice none 0 0, .string ⟨#[]⟩, .string ⟨#[]⟩, .string ⟨#[]⟩, .string ⟨#[]⟩, .int .u64 0, .int .i64 5, .slice none 0 0, .string ⟨#[]⟩, .string ⟨#[]⟩, .string ⟨#[97, 36]⟩, .string ⟨#[]⟩, .int .u64 0, .int .i64 7, .slice none 0 0, .string ⟨#[59]⟩, .string ⟨#[]⟩, .string ⟨#[]⟩, .string ⟨#[]⟩, .int .u64 0, .int .i64 5, .slice none 0 0, .string ⟨#[]⟩, .string ⟨#[]⟩, .string ⟨#[97]⟩, .string ⟨#[]⟩, .int .u64 0, .int .i64 (-1 - (k1 : Int)), .slice none 0 0, .string ⟨#[]⟩, .string ⟨#[]⟩, .string ⟨#[]⟩, .string ⟨#[]⟩, .int .u64 0] rfl rfl 62 _ HBZ.out HSZ.out rfl HAL.out ?_)
  refine (pick_any which 9 _ (by decide) (by decide) hwh).mono ?_
  rintro y w8 ⟨⟨k, rfl, hk⟩, hw8⟩
  have hszW : (World.setRow ((w6.alloc (Obj.cells #[.string ⟨#[97, 45, 98]⟩] 9)).alloc (Obj.cells #[.int .i64 0, .slice none 0 0, .string ⟨#[]⟩, .string ⟨#[]⟩, .string ⟨#[]⟩, .string ⟨#[]⟩, .int .u64 0, .int .i64 0, .slice none 0 0, .string ⟨#[]⟩, .string ⟨#[]⟩, .string ⟨#[]⟩, .string ⟨#[]⟩, .int .u64 0, .int .i64 0, .slice none 0 0, .string ⟨#[]⟩, .string ⟨#[]⟩, .string ⟨#[]⟩, .string ⟨#[]⟩, .int .u64 0, .int .i64 0, .slice none 0 0, .string ⟨#[]⟩, .string ⟨#[]⟩, .string ⟨#[]⟩, .string ⟨#[]⟩, .int .u64 0, .int .i64 0, .slice none 0 0, .string ⟨#[]⟩, .string ⟨#[]⟩, .string ⟨#[]⟩, .string ⟨#[]⟩, .int .u64 0, .int .i64 0, .slice none 0 0, .string ⟨#[]⟩, .string ⟨#[]⟩, .string ⟨#[]⟩, .string ⟨#[]⟩, .int .u64 0, .int .i64 0, .slice none 0 0, .string ⟨#[]⟩, .string ⟨#[]⟩, .string ⟨#[]⟩, .string ⟨#[]⟩, .int .u64 0, .int .i64 0, .slice none 0 0, .string ⟨#[]⟩, .string ⟨#[]⟩, .string ⟨#[]⟩, .string ⟨#[]⟩, .int .u64 0, .int .i64 0, .slice none 0 0, .string ⟨#[]⟩, .string ⟨#[]⟩, .string ⟨#[]⟩, .string ⟨#[]⟩, .int .u64 0] 62)) (w6.heap.size + 1) #[.int .i64 11, .slice none 0 0, .string ⟨#[]⟩, .string ⟨#[]⟩, .string ⟨#[]⟩, .string ⟨#[]⟩, .int .u64 0, .int .i64 1, .slice none 0 0, .string L, .string ⟨#[]⟩, .string ⟨#[]⟩, .string ⟨#[]⟩, .int .u64 0, .int .i64 1, .slice (some ⟨w6.heap.size, 0, none⟩) 1 1, .string ⟨#[]⟩, .string ⟨#[]⟩, .string ⟨#[]⟩, .string ⟨#[]⟩, .int .u64 0, .int .i64 2, .slice none 0 0, .string ⟨#[]⟩, .string ⟨#[97, 42, 42]⟩, .string ⟨#[]⟩, .string ⟨#[]⟩, .int .u64 0, .int .i64 0, .slice none 0 0, .string ⟨#[]⟩, .string ⟨#[]⟩, .string ⟨#[]⟩, .string ⟨#[]⟩, .int .u64 0, .int .i64 5, .slice none 0 0, .string ⟨#[]⟩, .string ⟨#[]⟩, .string ⟨#[97, 36]⟩, .string ⟨#[]⟩, .int .u64 0, .int .i64 7, .slice none 0 0, .string ⟨#[59]⟩, .string ⟨#[]⟩, .string ⟨#[]⟩, .string ⟨#[]⟩, .int .u64 0, .int .i64 5, .slice none 0 0, .string ⟨#[]⟩, .string ⟨#[]⟩, .string ⟨#[97]⟩, .string ⟨#[]⟩, .int .u64 0, .int .i64 (-1 - (k1 : Int)), .slice none 0 0, .string ⟨#[]⟩, .string ⟨#[]⟩, .string ⟨#[]⟩, .string ⟨#[]⟩, .int .u64 0]).heap.size = w6.heap.size + 1 + 1 := by simp
  have hbb : BK w8 (w6.heap.size + 1) (.cells #[.int .i64 11, .slice none 0 0, .string ⟨#[]⟩, .string ⟨#[]⟩, .string ⟨#[]⟩, .string ⟨#[]⟩, .int .u64 0, .int .i64 1, .slice none 0 0, .string L, .string ⟨#[]⟩, .string ⟨#[]⟩, .string ⟨#[]⟩, .int .u64 0, .int .i64 1, .slice (some ⟨w6.heap.size, 0, none⟩) 1 1, .string ⟨#[]⟩, .string ⟨#[]⟩, .string ⟨#[]⟩, .string ⟨#[]⟩, .int .u64 0, .int .i64 2, .slice none 0 0, .string ⟨#[]⟩, .string ⟨#[97, 42, 42]⟩, .string ⟨#[]⟩, .string ⟨#[]⟩, .int .u64 0, .int .i64 0, .slice none 0 0, .string ⟨#[]⟩, .string ⟨#[]⟩, .string ⟨#[]⟩, .string ⟨#[]⟩, .int .u64 0, .int .i64 5, .slice none 0 0, .string ⟨#[]⟩, .string ⟨#[]⟩, .string ⟨#[97, 36]⟩, .string ⟨#[]⟩, .int .u64 0, .int .i64 7, .slice none 0 0, .string ⟨#[59]⟩, .string ⟨#[]⟩, .string ⟨#[]⟩, .string ⟨#[]⟩, .int .u64 0, .int .i64 5, .slice none 0 0, .string ⟨#[]⟩, .string ⟨#[]⟩, .string ⟨#[97]⟩, .string ⟨#[]⟩, .int .u64 0, .int .i64 (-1 - (k1 : Int)), .slice none 0 0, .string ⟨#[]⟩, .string ⟨#[]⟩, .string ⟨#[]⟩, .string ⟨#[]⟩, .int .u64 0] 62 (0, 0)) := by rw [hw8]; exact BK.alloc (setRow_heap _ _ _ _ _ _ HBZ.out) _
  have hwb : BK w8 (w6.heap.size + 1 + 1) (.cells #[.int .i64 1, .int .i64 2, .int .i64 3, .int .i64 4, .int .i64 5, .int .i64 5, .int .i64 6, .int .i64 7, .int .i64 1] 63 (0, 0)) := by
    rw [hw8]
    have h := BK.new (World.setRow ((w6.alloc (Obj.cells #[.string ⟨#[97, 45, 98]⟩] 9)).alloc (Obj.cells #[.int .i64 0, .slice none 0 0, .string ⟨#[]⟩, .string ⟨#[]⟩, .string ⟨#[]⟩, .string ⟨#[]⟩, .int .u64 0, .int .i64 0, .slice none 0 0, .string ⟨#[]⟩, .string ⟨#[]⟩, .string ⟨#[]⟩, .string ⟨#[]⟩, .int .u64 0, .int .i64 0, .slice none 0 0, .string ⟨#[]⟩, .string ⟨#[]⟩, .string ⟨#[]⟩, .string ⟨#[]⟩, .int .u64 0, .int .i64 0, .slice none 0 0, .string ⟨#[]⟩, .string ⟨#[]⟩, .string ⟨#[]⟩, .string ⟨#[]⟩, .int .u64 0, .int .i64 0, .slice none 0 0, .string ⟨#[]⟩, .string ⟨#[]⟩, .string ⟨#[]⟩, .string ⟨#[]⟩, .int .u64 0, .int .i64 0, .slice none 0 0, .string ⟨#[]⟩, .string ⟨#[]⟩, .string ⟨#[]⟩, .string ⟨#[]⟩, .int .u64 0, .int .i64 0, .slice none 0 0, .string ⟨#[]⟩, .string ⟨#[]⟩, .string ⟨#[]⟩, .string ⟨#[]⟩, .int .u64 0, .int .i64 0, .slice none 0 0, .string ⟨#[]⟩, .string ⟨#[]⟩, .string ⟨#[]⟩, .string ⟨#[]⟩, .int .u64 0, .int .i64 0, .slice none 0 0, .string ⟨#[]⟩, .string ⟨#[]⟩, .string ⟨#[]⟩, .string ⟨#[]⟩, .int .u64 0] 62)) (w6.heap.size + 1) #[.int .i64 11, .slice none 0 0, .string ⟨#[]⟩, .string ⟨#[]⟩, .string ⟨#[]⟩, .string ⟨#[]⟩, .int .u64 0, .int .i64 1, .slice none 0 0, .string L, .string ⟨#[]⟩, .string ⟨#[]⟩, .string ⟨#[]⟩, .int .u64 0, .int .i64 1, .slice (some ⟨w6.heap.size, 0, none⟩) 1 1, .string ⟨#[]⟩, .string ⟨#[]⟩, .string ⟨#[]⟩, .string ⟨#[]⟩, .int .u64 0, .int .i64 2, .slice none 0 0, .string ⟨#[]⟩, .string ⟨#[97, 42, 42]⟩, .string ⟨#[]⟩, .string ⟨#[]⟩, .int .u64 0, .int .i64 0, .slice none 0 0, .string ⟨#[]⟩, .string ⟨#[]⟩, .string ⟨#[]⟩, .string ⟨#[]⟩, .int .u64 0, .int .i64 5, .slice none 0 0, .string ⟨#[]⟩, .string ⟨#[]⟩, .string ⟨#[97, 36]⟩, .string ⟨#[]⟩, .int .u64 0, .int .i64 7, .slice none 0 0, .string ⟨#[59]⟩, .string ⟨#[]⟩, .string ⟨#[]⟩, .string ⟨#[]⟩, .int .u64 0, .int .i64 5, .slice none 0 0, .string ⟨#[]⟩, .string ⟨#[]⟩, .string ⟨#[97]⟩, .string ⟨#[]⟩, .int .u64 0, .int .i64 (-1 - (k1 : Int)), .slice none 0 0, .string ⟨#[]⟩, .string ⟨#[]⟩, .string ⟨#[]⟩, .string ⟨#[]⟩, .int .u64 0]) (Obj.cells #[.int .i64 1, .int .i64 2, .int .i64 3, .int .i64 4, .int .i64 5, .int .i64 5, .int .i64 6, .int .i64 7, .int .i64 1] 63)
    rw [hszW] at h
    exact h
  have hxr : Ex [w6.heap.size + 1] ((w6.alloc (Obj.cells #[.string ⟨#[97, 45, 98]⟩] 9)).alloc (Obj.cells #[.int .i64 0, .slice none 0 0, .string ⟨#[]⟩, .string ⟨#[]⟩, .string ⟨#[]⟩, .string ⟨#[]⟩, .int .u64 0, .int .i64 0, .slice none 0 0, .string ⟨#[]⟩, .string ⟨#[]⟩, .string ⟨#[]⟩, .string ⟨#[]⟩, .int .u64 0, .int .i64 0, .slice none 0 0, .string ⟨#[]⟩, .string ⟨#[]⟩, .string ⟨#[]⟩, .string ⟨#[]⟩, .int .u64 0, .int .i64 0, .slice none 0 0, .string ⟨#[]⟩, .string ⟨#[]⟩, .string ⟨#[]⟩, .string ⟨#[]⟩, .int .u64 0, .int .i64 0, .slice none 0 0, .string ⟨#[]⟩, .string ⟨#[]⟩, .string ⟨#[]⟩, .string ⟨#[]⟩, .int .u64 0, .int .i64 0, .slice none 0 0, .string ⟨#[]⟩, .string ⟨#[]⟩, .string ⟨#[]⟩, .string ⟨#[]⟩, .int .u64 0, .int .i64 0, .slice none 0 0, .string ⟨#[]⟩, .string ⟨#[]⟩, .string ⟨#[]⟩, .string ⟨#[]⟩, .int .u64 0, .int .i64 0, .slice none 0 0, .string ⟨#[]⟩, .string ⟨#[]⟩, .string ⟨#[]⟩, .string ⟨#[]⟩, .int .u64 0, .int .i64 0, .slice none 0 0, .string ⟨#[]⟩, .string ⟨#[]⟩, .string ⟨#[]⟩, .string ⟨#[]⟩, .int .u64 0] 62)) w8 := by rw [hw8]; exact ((Ex.refl _ _).setRow (Or.inl (by simp)) _).alloc _
  have hz16 := HX16.out.size
  have hab : SS w8 (.slice (some ⟨w6.heap.size, 0, none⟩) 1 1) [⟨#[97, 45, 98]⟩] := HS0.out.ex hxr (by simp [Value.ownBlock])
  have hx18 : Ex [] w1 w8 := ((HXZ.out.drop (by simp)).trans hxr).drop (fun y hy hlt => by simp at hy; omega)
  have hx08 : Ex [] w w8 := HX01.out.trans hx18
  obtain ⟨a2, p2, n2, c2, se2, re2, ta2, rp2, mo2, er, pl, hbad⟩ := bad_any w8 (w6.heap.size + 1) (w6.heap.size + 1 + 1) w6.heap.size k k1 L HLS.out x (HUB.out.ex hx08 (by simp)) ((hx08.cell0.1 _ _ (G.lt_of_cell HEV.out)).trans HEV.out) (by omega) hbb hwb hab
  obtain ⟨hrg, hwc, her, her9, hpl, hmk⟩ := hbad
  have HRG := hide hrg
  have HWC := hide hwc
  have HPL := hide hpl
  have HMK := hide hmk
  have HX18 := hide hx18
  have hbbl := hbb.lt
  have hwbl := hwb.lt
  have HSR : Hid ((Tryz.prog.info? 37).map (·.size) = some ([.int .i64 a2, .slice p2 n2 c2, .string se2, .string re2, .string ta2, .string rp2, .int .u64 mo2] : List Value).length) := by show (Tryz.prog.info? 37).map (·.size) = some 7; kernel_rfl
  have hkI : (k : Int) < 9 := hk
  have hbW := BK.new w8 (Obj.cells #[.int .i64 1, .slice none 0 0, .string ⟨#[]⟩, .string ⟨#[120]⟩, .string ⟨#[]⟩, .string ⟨#[]⟩, .int .u64 0, .int .i64 a2, .slice p2 n2 c2, .string se2, .string re2, .string ta2, .string rp2, .int .u64 mo2] 37)
  have KL := hide (load_second e w8.heap.size a2 p2 n2 c2 se2 re2 ta2 rp2 mo2 er pl (w8.alloc (Obj.cells #[.int .i64 1, .slice none 0 0, .string ⟨#[]⟩, .string ⟨#[120]⟩, .string ⟨#[]⟩, .string ⟨#[]⟩, .int .u64 0, .int .i64 a2, .slice p2 n2 c2, .string se2, .string re2, .string ta2, .string rp2, .int .u64 mo2] 37)) her her9 hbW (HUB.out.ex (hx08.alloc _) (by simp)) (fun w' hx' => hmk w' (((Ex.refl _ _).alloc _).trans hx')))
  clear hw8 hszW hbb hwb hxr hab hx18 hx08 hrg hwc hpl hmk HBZ HSZ HAL HS0 HXZ hbW
  go_wp2_with (refine wpList_load_mid rfl 37 _ rfl (w6.heap.size + 1) (k * 7) (by simp [Act.eval, Act.put]) [.int .i64 a2, .slice p2 n2 c2, .string se2, .string re2, .string ta2, .string rp2, .int .u64 mo2] _ HRG.out Tryz.underlying37 rfl HSR.out ?_)
  refine KL.out.mono ?_
  rintro y w9 ⟨rfl, hx9⟩
  have HX19 := hide ((HX18.out.alloc (Obj.cells #[.int .i64 1, .slice none 0 0, .string ⟨#[]⟩, .string ⟨#[120]⟩, .string ⟨#[]⟩, .string ⟨#[]⟩, .int .u64 0, .int .i64 a2, .slice p2 n2 c2, .string se2, .string re2, .string ta2, .string rp2, .int .u64 mo2] 37)).trans hx9)
  have HX89 : Hid (Ex [] w8 w9) := ((Ex.refl _ _).alloc _).trans hx9
  obtain ⟨w10, hmk10, hx10⟩ := mk_rules w9
  have HX1A := hide (HX19.out.trans hx10)
  have HX8A := hide (HX89.out.trans hx10)
  clear hx9 hx10 KL
  go_wp2_with fail
  refine (load_many e _ 13 13 w10 (by decide)).mono ?_
  rintro y wA ⟨rfl, rfl⟩
  clear hmk10
  obtain ⟨w11, hw11⟩ : ∃ w11, w11 = wA.alloc (Obj.cells #[.string ⟨#[97]⟩, .string ⟨#[118]⟩] 48) := ⟨_, rfl⟩
  have hxb : Ex [] wA w11 := by rw [hw11]; exact (Ex.refl _ _).alloc _
  have hx1b : Ex [] w1 w11 := HX1A.out.trans hxb
  have hx8b : Ex [] w8 w11 := HX8A.out.trans hxb
  have hv11 : SL w11 (.slice (some ⟨wA.heap.size, 0, none⟩) 1 1) [(aN, vN)] := by rw [hw11]; exact sl_lit (BK.new wA (Obj.cells #[.string ⟨#[97]⟩, .string ⟨#[118]⟩] 48))
  have hen11 : EN R1 w11 e m mb w11.heap.size (roomOf 3) (.slice (some ⟨gb, 0, none⟩) 1 cap) [] (.slice none 0 0) #[] 0 := ⟨HEN.out.blk.ex hx1b (by simp), (HEN.out.mem.ex hx1b (by simp)).bare, (HEN.out.blk.ex hx1b (by simp)).lt, HEN.out.nem, HEN.out.nemb⟩
  have hru11 : RU w11 w11.heap.size b1 b2 p c aN ⟨#[]⟩ pp bN ⟨#[]⟩ 0 := by
    have h := HRU.out.ex0 hx1b
    exact ⟨h.h1, h.h2, h.hs, Nat.lt_of_lt_of_le h.l1 hx1b.size, Nat.lt_of_lt_of_le h.l2 hx1b.size⟩
  have KR := hide (asks_raise hen11 ((hx1b.cell0.1 gb 0 hgl).trans HCG.out) (Nat.lt_of_lt_of_le hgl hx1b.size) hru11 hv11)
  have HW11 := hide hw11
  have hmlt := HEN.out.mem.mlt
  have hmblt := HEN.out.mem.mblt
  have HX1B := hide hx1b
  have HX8B := hide hx8b
  have hz8 := HX18.out.size
  have hz8b := hx8b.size
  clear hw11 hxb hx1b hx8b hv11 hen11 hru11 HEN HRU HCG
  go_wp2_with fail
  rw [← HW11.out]
  refine KR.out.mono ?_
  rintro y w12 ⟨v', rfl, hsl, heb⟩
  have hwc12 : w12.cell? ⟨w6.heap.size + 1 + 1, k, none⟩ = some (.int .i64 (er : Int)) := by
    have h1 : w11.cell? ⟨w6.heap.size + 1 + 1, k, none⟩ = some (.int .i64 (er : Int)) := (HX8B.out.cell0.1 _ _ hwbl).trans HWC.out
    rw [← h1]
    exact World.cell?_of_block (heb.block (w6.heap.size + 1 + 1) (by omega) (by simp; omega))
  have hwl12 : w6.heap.size + 1 + 1 < w12.heap.size := by have := heb.size; omega
  have hx0c : Ex [] w w12 := by
    have h1 : Ex [m, mb] w11 w12 := heb.toEx
    exact (((HX01.out.trans HX1B.out).drop (by simp)).trans h1).drop (fun y hy hlt => by simp at hy; omega)
  have HSL := hide hsl
  have HX0C := hide hx0c
  obtain ⟨pv, cv, rfl⟩ := hsl.slice
  have hsl2 : ∀ w' : World, SL (w'.alloc (Obj.cells #[.string ⟨#[97]⟩, .string ⟨#[118]⟩, .string ⟨#[98]⟩, .string ⟨#[86]⟩] 48)) (.slice (some ⟨w'.heap.size, 0, none⟩) 2 2) [(aN, vN), (bN, upVN)] := fun w' => by
    have hb := BK.new w' (Obj.cells #[.string ⟨#[97]⟩, .string ⟨#[118]⟩, .string ⟨#[98]⟩, .string ⟨#[86]⟩] 48)
    refine .inr ⟨w'.heap.size, 2, rfl, hb.lt, fun j l hj => ?_⟩
    have hj2 : j < 2 := (List.getElem?_eq_some_iff.1 hj).1
    have : j = 0 ∨ j = 1 := by omega
    rcases this with rfl | rfl
    · cases hj; exact ⟨hb.all.1 0, hb.all.1 1⟩
    · cases hj; exact ⟨hb.all.1 2, hb.all.1 3⟩
  have HSL2 := hide hsl2
  clear heb hsl hx0c hsl2 KR
  by_cases h3 : k = 3
  · have hpl2 : pl = 2 := by rw [HPL.out, if_pos h3]
    subst hpl2
    subst h3
    go_wp2_with fail
    refine (same_yes _ _ [(aN, vN), (bN, upVN)] _ (HSL.out.ex ((Ex.refl [] _).alloc _) (by simp)) (HSL2.out _) (by decide)).mono ?_
    rintro y w13 ⟨rfl, n13, rfl⟩
    go_wp2_with fail
    go_ret
    exact ⟨rfl, (HX0C.out.alloc _).drewN _⟩
  · have hpl0 : pl = 0 := by rw [HPL.out, if_neg h3]
    subst hpl0
    have h3' : ((k : Int) == 3) = false := by rw [beq_eq_false_iff_ne]; omega
    clear h3 HPL
    go_wp2_with fail
    refine (same_yes _ _ [(aN, vN), (bN, upVN)] _ (HSL.out.ex ((Ex.refl [] _).alloc _) (by simp)) (HSL2.out _) (by decide)).mono ?_
    rintro y w13 ⟨rfl, n13, rfl⟩
    go_wp2_with fail
    go_ret
    exact ⟨rfl, (HX0C.out.alloc _).drewN _⟩
end Go.Proofs.YtmeffeigamaipabGreatDoor
