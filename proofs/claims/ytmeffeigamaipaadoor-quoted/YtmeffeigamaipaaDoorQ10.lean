/- The contracts of retag.Match and of is, at bytes that stand for themselves. -/
import Derived.Test.YtmeffeigamaipaaDoorQ9
set_option linter.unusedVariables false
set_option linter.unusedSimpArgs false
namespace Go.Proofs.YtmeffeigamaipaaDoor.Q
open Go.RowKit

set_option maxHeartbeats 2000000 in
set_option maxRecDepth 100000 in
theorem RMatch_items (t s : ByteArray) (f : Bool) (l : List UInt8) (w : World) (hd : FM t f l) (ht : t.size ≤ 60) (hl : l.length ≤ 60) (hs : s.size ≤ 9223372036854775807) (hT : Lib.Utf8Tabs 1 2 w) :
    Calls Tryd.prog 13 #[.string t, .string s] w fun e w' =>
      ((mt s (clsOf f l) 0 = true → ∃ v, e = .returned (.tuple #[v, .bool true, .int .i64 0, .int .i64 0]) ∧ w'.ownsRow w.heap.size 41 2 v 1 [.int .i64 0, .int .i64 s.size]) ∧
       (mt s (clsOf f l) 0 = false → e = .returned (.tuple #[.slice none 0 0, .bool false, .int .i64 0, .int .i64 0]))) ∧ Ex [] w w' := by
  have HD := hide hd
  have HT := hide hT
  have htl := tabs_lt hT
  clear hd hT
  go_enter Tryd.func13, Tryd.ntmps13
  go_wp2_with fail
  refine (Read_items t f l _ HD.out ht hl).mono ?_
  rintro e w1 ⟨q, rfl, hp, hx1⟩
  have HX1 := hide hx1
  have HP := hide hp
  have hz1 := hx1.size
  clear hp hx1
  go_wp2_with fail
  refine (Match_cls q w.heap.size l.length (clsOf f l) s _ HP.out hl hs (tabs_eb HT.out (EB.ofEx HX1.out (Nat.le_refl _)) htl)).mono ?_
  rintro e w2 ⟨⟨hy, hn⟩, hx2⟩
  have HX2 := hide hx2
  have hz2 := hx2.size
  clear hx2
  by_cases hc : mt s (clsOf f l) 0 = true
  · obtain ⟨g, nv, rfl, hb⟩ := hy hc
    have HC := hide hc
    have HB := hide hb
    clear hy hn hc hb
    go_wp2_with fail
    refine (Spans_one s nv g s.size _ (HB.out.alloc _)).mono ?_
    rintro e w3 ⟨v, rfl, ho, hx3⟩
    have HX3 := hide hx3
    have HO := hide ho
    have hz3 := hx3.size
    simp only [World.size_alloc] at hz3
    clear hx3 ho
    go_wp2_with fail
    refine bodyPost_ret (v := .tuple #[v, .bool true, .int .i64 0, .int .i64 0]) (by simp [results, Tryd.results13, go_sem]) rfl ⟨⟨fun _ => ⟨v, rfl, own_base HO.out (by simp; omega)⟩, fun h => absurd (HC.out.symm.trans h) (by decide)⟩, ?_⟩
    exact HX1.out.trans (HX2.out.trans (((Ex.refl _ _).alloc _).trans HX3.out))
  · have he := hn (by simpa using hc)
    subst he
    have HC := hide hc
    clear hy hn hc
    go_wp2_with fail
    refine (Spans_none _).mono ?_
    rintro e w3 ⟨rfl, hx3⟩
    have HX3 := hide hx3
    clear hx3
    go_wp2_with fail
    refine bodyPost_ret (v := .tuple #[.slice none 0 0, .bool false, .int .i64 0, .int .i64 0]) (by simp [results, Tryd.results13, go_sem]) rfl ⟨⟨fun h => absurd h HC.out, fun _ => rfl⟩, ?_⟩
    exact HX1.out.trans (HX2.out.trans (((Ex.refl _ _).alloc _).trans HX3.out))

set_option maxHeartbeats 2000000 in
set_option maxRecDepth 100000 in
theorem is_items (t s : ByteArray) (f : Bool) (l : List UInt8) (w : World) (hd : FM t f l) (ht : t.size ≤ 60) (hl : l.length ≤ 60) (hs : s.size ≤ 9223372036854775807) (hT : Lib.Utf8Tabs 1 2 w) :
    Calls Tryd.prog 8 #[.string t, .string s] w fun e w' => e = .returned (.tuple #[.bool (mt s (clsOf f l) 0), .bool true]) ∧ Ex [] w w' := by
  have HD := hide hd
  have HT := hide hT
  clear hd hT
  go_enter Tryd.func8, Tryd.ntmps8
  go_wp2_with fail
  refine (RMatch_items t s f l _ HD.out ht hl hs HT.out).mono ?_
  rintro e w1 ⟨⟨hy, hn⟩, hx1⟩
  have HX1 := hide hx1
  clear hx1
  by_cases hc : mt s (clsOf f l) 0 = true
  · obtain ⟨v, rfl, ho⟩ := hy hc
    obtain ⟨g, cap, rfl, _, _, hnc, hcell, _⟩ := own_cells ho (by omega)
    have j0 := hcell 0 (by omega)
    have j1 := hcell 1 (by omega)
    simp at j0 j1
    have HC := hide hc
    clear hy hn hc ho hcell
    go_wp2_with fail
    go_ret2
    refine ⟨?_, HX1.out⟩
    rw [HC.out]
    rfl
  · have he := hn (by simpa using hc)
    subst he
    have HC := hide hc
    clear hy hn hc
    go_wp2_with fail
    go_ret2
    refine ⟨?_, HX1.out⟩
    rw [show mt s (clsOf f l) 0 = false by simpa using HC.out]
    rfl
end Go.Proofs.YtmeffeigamaipaaDoor.Q
