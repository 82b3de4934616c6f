/- Contracts of (*series.Labels).Set, where the label comes behind all others. -/
import Derived.Test.YtmeffeigamaipabGreatDoorC5
import Derived.Deep.RegionHeld3
set_option linter.unusedVariables false
set_option linter.unusedSimpArgs false
namespace Go.Proofs.YtmeffeigamaipabGreatDoor
open Go.RowKit

abbrev cellsOfL (ls : List Lab) : List Value := ls.flatMap fun l => [.string l.1, .string l.2]
theorem cells_snoc (ls : List Lab) (l : Lab) : cellsOfL ls ++ [.string l.1, .string l.2] = cellsOfL (ls ++ [l]) := by simp [cellsOfL]

theorem LS.mk' {w : World} {q base n : Nat} {ls : List Lab} {xs : List Value} {v : Value} (hlt : q < base) (hle : base ≤ w.heap.size) (hb : BK w q (.cells #[v] 98 (0, 0)))
    (ho : w.ownsRow base 48 2 v n xs) (hn : n = ls.length) (hx : xs = cellsOfL ls) : LS w q base ls := by
  subst hn; subst hx; exact ⟨hlt, hle, v, hb, ho⟩

set_option maxHeartbeats 2000000 in
set_option maxRecDepth 100000 in
/-- A name that is not there, greater than all. -/
theorem set_new (q base : Nat) (ls : List Lab) (a v : ByteArray) (w : World) (hq : LS w q base ls) (hn : ls.length < 60) (hsrt : SortedFor ls a) (hp : posN ls a = ls.length) (hv0 : ¬ v.size = 0) (hv : v.size ≤ 200) :
    Calls Tryz.prog 41 #[.pointer (some ⟨q, 0, none⟩), .string a, .string v] w fun e w' => e = .returned (.tuple #[]) ∧ LS w' q base (ls ++ [(a, v)]) ∧ EB base [q] w w' := by
  have ht : thereN ls a = false := by simp [thereN, hp]
  have HQ := hide hq
  have HS := hide hsrt
  have hqb := hq.lt
  have hle := hq.le
  have hem := nonempty_list hv0
  clear hq hsrt
  go_enter Tryz.func41, Tryz.ntmps41
  go_wp2_with fail
  refine (find_any q base ls a _ HQ.out (by omega) HS.out).mono ?_
  rintro e w1 ⟨rfl, hx1⟩
  rw [ht, hp]
  have hb1 : ∃ v0, BK w1 q (.cells #[v0] 98 (0, 0)) ∧ w1.ownsRow base 48 2 v0 ls.length (cellsOfL ls) := by
    obtain ⟨v0, hb, ho⟩ := HQ.out.ex
    exact ⟨v0, hb.ex hx1 (by simp), own_ex ho hx1 (by simp)⟩
  obtain ⟨v0, hb1, ho1⟩ := hb1
  have hz1 := hx1.size
  have HX1 := hide hx1
  have HB1 := hide hb1
  have HO1 := hide ho1
  have hql := hb1.lt
  obtain ⟨p, c, rfl⟩ := own_slice ho1
  obtain ⟨hc, hf⟩ := hb1.all
  clear hx1 hb1 ho1 ht hp
  have hn' : ¬ ((ls.length : Int) = 60) := by omega
  have hn'' : ((ls.length : Int) == 60) = false := by simpa using hn'
  go_wp2_with fail
  go_region_with (first
    | (go_at_call 64; refine (cut_short v _ hv).mono ?_; rintro e w2 ⟨rfl, rfl⟩)
    | (go_at_call 63; refine (insertEnd base ls.length w1.heap.size _ (cellsOfL ls) (a, v) _ (HO1.out.drew.alloc _) (by omega) (by simp; omega) ((BK.new _ _))).mono ?_; rintro e w3 ⟨v3, rfl, ho3, hg3, hl3⟩; obtain ⟨p3, c3, rfl⟩ := own_slice ho3; have hb3 := BK.grown ((HB1.out.drew.alloc (Obj.cells #[.string a, .string v] 48))) hg3 (fun e => by have h9 := own_block HO1.out q e; omega); obtain ⟨hc3, hf3⟩ := hb3.all))
  all_goals
    have HG3 := hide hg3
    have HO3 := hide ho3
    have HB3 := hide hb3
    clear hg3 ho3 hb3 hl3 hc hf hc3 hf3
    go_end0
    have hz3 : w1.heap.size + 1 ≤ w3.heap.size := by have := HG3.out.size; simpa using this
    refine ⟨rfl, LS.mk' hqb (by simp; omega) (BK.self HB3.out 0 _) (own_set HO3.out hqb _) (by simp) (cells_snoc ls (a, v)), ?_⟩
    exact (((((EB.ofEx HX1.out hle).mono (Nat.le_refl _) (by simp) : EB base [q] w w1).drew.alloc (by simp; omega) _).grown HG3.out (by simp; omega) (fun k hk => .inr (own_block HO1.out k hk))).setCell (.inl (by simp)) _)

end Go.Proofs.YtmeffeigamaipabGreatDoor
