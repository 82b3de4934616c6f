/- The contract of newRun. -/
import Derived.Test.YtmeffeigamaipaaDoorW12
set_option linter.unusedVariables false
set_option linter.unusedSimpArgs false
namespace Go.Proofs.YtmeffeigamaipaaDoor
open Go.RowKit

theorem info3 : (Tryd.prog.info? 3).map (fun i => (i.zero, i.size, i.bytes)) = some (some (.int .i64 0), 1, 8) := by kernel_rfl

/-- The places at which instructions were reached: from j on (up to n) none. -/
def RC (w : World) (gr n j : Nat) : Prop := ∃ cs : Array Value, BK w gr (.cells cs 3 (0, 0)) ∧ cs.size = n ∧ (∀ i, j ≤ i → i < n → cs[i]? = some (.int .i64 (-1))) ∧ ∀ i, i < n → ∃ x, cs[i]? = some (.int .i64 x)

/-- While they are being laid: up to j. -/
def RL (w : World) (gr n j : Nat) : Prop := ∃ cs : Array Value, BK w gr (.cells cs 3 (0, 0)) ∧ cs.size = n ∧ ∀ i, i < j → i < n → cs[i]? = some (.int .i64 (-1))

theorem RL.next {w : World} {gr n j : Nat} (h : RL w gr n j) (hj : j < n) : RL (w.setCell ⟨gr, j, none⟩ (.int .i64 (-1))) gr n (j + 1) := by
  obtain ⟨cs, hb, hs, hc⟩ := h
  refine ⟨_, hb.self j _, by simp [hs], fun i hi hn => ?_⟩
  by_cases e : i = j
  · subst e; rw [Array.getElem?_setIfInBounds_self_of_lt (by omega)]
  · rw [Array.getElem?_setIfInBounds_ne (by omega)]; exact hc i (by omega) hn

set_option maxHeartbeats 2000000 in
set_option maxRecDepth 100000 in
theorem newRun_dot (q base m : Nat) (w : World) (hp : PT w q base m) (hm : m ≤ 60) :
    Calls Tryd.prog 22 #[.pointer (some ⟨q, 0, none⟩)] w fun e w' => ∃ u gr, e = .returned (.pointer (some ⟨u, 0, none⟩)) ∧ w.heap.size ≤ gr ∧ gr < u ∧ u < w'.heap.size ∧
      BK w' u (.cells #[.pointer (some ⟨q, 0, none⟩), .slice none 0 0, .slice none 0 0, .slice (some ⟨gr, 0, none⟩) (m + 1) (m + 1)] 108 (0, 0)) ∧ RC w' gr (m + 1) 0 ∧ Ex [] w w' := by
  obtain ⟨i0, hi, hz0, hz1, hz2⟩ := info_parts info3
  obtain ⟨cv, sv, B, mb, hq, hoc, hos, hbh, hbB⟩ := hp.ex
  obtain ⟨pc, cc, rfl⟩ := own_slice hoc
  obtain ⟨hcq, hfq⟩ := hq.all
  clear hoc hos hbh
  go_enter Tryd.func22, Tryd.ntmps22
  go_wp2_with (at_make; refine wpList_make_full _ rfl _ _ 105 rfl w.heap.size 3 i0 (.int .i64 0) 1 Tryd.underlying105 hi hz0 hz1 .i64 .i64 _ _ (m + 1) rfl rfl (by simp) (by simp) (by rw [hz2]; omega) (by unfold maxLen; omega) (Nat.le_refl _) ?_)
  intro w1 hown1 hg1
  have hx1 : Ex [] w w1 := (Ex.refl _ _).grown hg1 (by simp)
  have hrl : RL w1 w.heap.size (m + 1) 0 := by
    rcases hown1.2 with ⟨hv, _⟩ | ⟨g', cap', cur, hv, hb', hgg, h1, h2, h3, h4⟩
    · cases hv
    · cases hv
      exact ⟨cur, hgg, by omega, fun i hi => by omega⟩
  have hl1 : w.heap.size < w1.heap.size := by obtain ⟨cs, hb, _⟩ := hrl; exact hb.lt
  have HX1 := hide hx1
  have HRL := hide hrl
  clear hx1 hrl hown1 hg1 hcq hfq
  go_wp2_with fail
  go_loopg [19] (m + 1) (fun gk i wr => ∃ j : Nat, j + gk = m + 1 ∧ i = .int .i64 j ∧ RL wr w.heap.size (m + 1) j ∧ BK wr w1.heap.size (.cells #[.pointer (some ⟨q, 0, none⟩), .slice none 0 0, .slice none 0 0, .slice (some ⟨w.heap.size, 0, none⟩) (m + 1) (m + 1)] 108 (0, 0)) ∧ Ex [] w wr)
  case atStart =>
    refine ⟨0, by omega, rfl, ?_, BK.new _ _, HX1.out.alloc _⟩
    obtain ⟨cs, h1, h2, h3⟩ := HRL.out
    exact ⟨cs, h1.alloc _, h2, h3⟩
  case round =>
    obtain ⟨j, hj, rfl, hrl, hbu, hx⟩ := hrel
    have HX := hide hx
    have HR := hide hrl
    have HU := hide hbu
    obtain ⟨hcu, hfu⟩ := hbu.all
    cases gk with
    | zero =>
      obtain rfl : j = m + 1 := by omega
      clear hx hj hrl hbu
      go_wp2_with fail
      go_ret
      refine ⟨w1.heap.size, w.heap.size, rfl, Nat.le_refl _, hl1, HU.out.lt, HU.out, ?_, HX.out⟩
      obtain ⟨cs, h1, h2, h3⟩ := HR.out
      exact ⟨cs, h1, h2, fun i _ hi => h3 i hi hi, fun i hi => ⟨_, h3 i hi hi⟩⟩
    | succ g =>
      have hj' : ((j : Int) < ((m : Int) + 1)) := by omega
      obtain ⟨cs, hbk, hcs, _⟩ := hrl
      obtain ⟨hcB, hfB⟩ := hbk.all
      have kj : wr.cell? ⟨w.heap.size, j, none⟩ = some (cs[j]'(by omega)) := by rw [hcB, Array.getElem?_eq_getElem (by omega)]
      have kf := hfB j
      clear hx hcB hfB hbk hbu
      go_wp2_with fail
      go_roundg g
      case measure => omega
      case rel => exact ⟨j + 1, by omega, by simp, HR.out.next (by omega), HU.out.set (by simp; omega) _, HX.out.setCell (Or.inr (by simp)) _⟩
end Go.Proofs.YtmeffeigamaipaaDoor
