/- retagkeep.Greedy answers true, whatever its arguments. -/
import Derived.Test.YtcbiidoebpkifaaGreatDoorP28
import Derived.Test.YtcbiidoebpkifaaGreatDoorP25
import Derived.Test.YtcbiidoebpkifaaGreatDoorP27
set_option linter.unusedVariables false
set_option linter.unusedSimpArgs false
namespace Go.Proofs.YtcbiidoebpkifaaGreatDoor.G
open Go.RowKit

theorem atoms_cell (k : Nat) (hk : k < 6) : ∃ P, atoms[k]? = some P := ⟨_, List.getElem?_eq_getElem hk⟩
set_option maxHeartbeats 8000000 in
set_option maxRecDepth 100000 in
theorem greedy_any (raw : Int) (s : ByteArray) (x : EV) (w : World) (hraw : -9223372036854775808 ≤ raw ∧ raw ≤ 9223372036854775807) (hs : s.size ≤ 9223372036854775807) (hev : w.cell? ⟨0, 0, none⟩ = some (.iface x.1 x.2)) (hg : GL w) :
    Calls Tryz.prog 3 #[.int .i64 raw, .string s] w fun e w' => e = .returned (.bool true) ∧ Ex [] w w' := by
  have HG := hide hg
  have HEV : Hid (∀ W, Ex [] w W → W.cell? ⟨0, 0, none⟩ = some (.iface x.1 x.2)) := fun W hx => (hx.cell0.1 _ _ (lt_of_cell hev)).trans hev
  clear hg hev
  go_enter Tryz.func3, Tryz.ntmps3
  go_wp2_with fail
  refine (pick_val raw 6 _ (by omega) (by omega) hraw).mono ?_
  rintro x1 w1 ⟨rfl, hw1⟩
  obtain ⟨k, hk, hk6⟩ : ∃ k : Nat, (k : Int) = pickI raw 6 ∧ k < 6 := by
    have h9 := pickI_rng raw 6 (by omega)
    exact ⟨(pickI raw 6).toNat, by omega, by omega⟩
  rw [← hk]
  obtain ⟨P, hP⟩ := atoms_cell k hk6
  have hga := atom_ga (List.mem_of_getElem? hP)
  have hcell : w1.cell? ⟨w.heap.size, k, none⟩ = some (.string P) := by
    rw [hw1]
    have h9 := cells_new w (atoms.map Value.string).toArray 22 k (.string P) (by show (atoms.map Value.string)[k]? = _; rw [List.getElem?_map, hP]; rfl)
    rw [Addr.add_lit, Nat.zero_add] at h9
    exact h9
  have hx1 : Ex [] w w1 := by rw [hw1]; exact (Ex.refl _ _).alloc _
  have hwl : w.heap.size < w1.heap.size := by rw [hw1]; simp
  have hk6i : (k : Int) < 6 := by omega
  have HX1 := hide hx1
  have hPz := hga.sz
  have HGA := hide hga
  clear hw1 hk hP hga hx1 hraw hk6
  go_wp2_with fail
  refine (short_any s 20 _ hs (by omega)).mono ?_
  rintro x1 w2 ⟨s1, rfl, hs1, rfl⟩
  have KI0 := hide (is_any P ⟨#[97]⟩ x w2 (HEV.out _ HX1.out) HGA.out.g0 (HG.out.ex HX1.out) (by simp [ByteArray.size]))
  rw [HGA.out.one] at KI0
  clear hs hcell
  go_wp2_with fail
  refine KI0.out.mono ?_
  rintro x1 w3 ⟨rfl, hx3⟩
  have HX3 := hide (HX1.out.trans hx3)
  have KI1 := hide (is_any (starT P) s1 x w3 (HEV.out _ HX3.out) HGA.out.g1 (HG.out.ex HX3.out) (by omega))
  rw [HGA.out.m1] at KI1
  have HT2 := hide (HGA.out.x2 s1)
  have HT3 := hide (HGA.out.x3 s1)
  obtain ⟨b, hb⟩ : ∃ b, b = tookB P s1 := ⟨_, rfl⟩
  rw [← hb] at KI1 HT2 HT3
  unfold starT at KI1
  clear hx3 hb
  go_wp2_with fail
  refine KI1.out.mono ?_
  rintro x1 w4 ⟨rfl, hx4⟩
  have HX4 := hide (HX3.out.trans hx4)
  have KX2 := hide (Expand_any (gr2T P) s1 tplT x w4 (HEV.out _ HX4.out) HGA.out.g2 HGA.out.f2 (HG.out.ex HX4.out) (by omega) (by decide))
  obtain ⟨R2, hR2⟩ : ∃ R, R = expM (gr2T P) s1 tplT := ⟨_, rfl⟩
  rw [← hR2] at KX2 HT2
  unfold gr2T tplT at KX2
  clear hx4 hR2
  go_wp2_with fail
  refine KX2.out.mono ?_
  rintro x1 w5 ⟨rfl, hx5⟩
  have HX5 := hide (HX4.out.trans hx5)
  have KX3 := hide (Expand_any (lz2T P) s1 tplT x w5 (HEV.out _ HX5.out) HGA.out.g3 HGA.out.f3 (HG.out.ex HX5.out) (by omega) (by decide))
  obtain ⟨R3, hR3⟩ : ∃ R, R = expM (lz2T P) s1 tplT := ⟨_, rfl⟩
  rw [← hR3] at KX3 HT3
  unfold lz2T tplT at KX3
  clear hx5 hR3
  go_wp2_with fail
  refine KX3.out.mono ?_
  rintro x1 w6 ⟨rfl, hx6⟩
  have HX6 := hide (HX5.out.trans hx6)
  clear hx6
  cases b with
  | false =>
    obtain rfl : R2 = ⟨#[]⟩ := HT2.out
    obtain rfl : R3 = ⟨#[]⟩ := HT3.out
    go_wp2_with fail
    go_ret
    exact ⟨rfl, HX6.out⟩
  | true =>
    obtain rfl : R2 = ⟨#[60]⟩ ++ s1 ++ ⟨#[124, 62]⟩ ++ s1 ++ ⟨#[36]⟩ := HT2.out
    obtain rfl : R3 = ⟨#[60, 124]⟩ ++ s1 ++ ⟨#[62]⟩ ++ s1 ++ ⟨#[36]⟩ := HT3.out
    go_wp2_with fail
    go_ret
    exact ⟨rfl, HX6.out⟩
end Go.Proofs.YtcbiidoebpkifaaGreatDoor.G
