/- N17 H1 H2 H3 T14 T15 T15b Z1 Z2 H4 N18 N19 LoadsA, one behind the other. -/
import Derived.Test.YtgmjjhmnchefbaaGreatDoorM46
import Derived.Test.YtgmjjhmnchefbaaGreatDoorM20
import Derived.Test.YtgmjjhmnchefbaaGreatDoorM05
import Derived.Lib.LaidU8
import Derived.Test.YtgmjjhmnchefbaaGreatDoorRows
import Derived.Test.YtgmjjhmnchefbaaGreatDoorM39
import Derived.ProofKit
import Derived.MakeChecks
import Derived.OpenShut
import Derived.SliceStrings
import Derived.Deep.SlicePairs
import Derived.Carry
import Derived.Test.YtgmjjhmnchefbaaGreatDoorM21
import Derived.Deep.DeepCutAuto
import Derived.Deep.CutBlock
import Derived.Deep.Slices
import Derived.Test.YtgmjjhmnchefbaaGreatDoorCards
import Derived.Test.YtgmjjhmnchefbaaGreatDoorTie
import Derived.LaidMore
import Derived.Stop.Joined
set_option linter.unusedVariables false
set_option linter.unusedSimpArgs false
/- retaglaw.Loads: every Load: which rule is not right, and why. -/
namespace Go.Proofs.YtgmjjhmnchefbaaGreatDoor.G
open Go.RowKit

theorem bk_map {w : World} {a b : Nat} {ca : Array Value} {ta : TypeId} {es : Array MapEntry} {clk : Nat} (h1 : BK w a (.cells ca ta (0, 0))) (h2 : BK w b (.map es clk)) : a ≠ b := fun e => by
  subst e
  unfold BK at h1 h2
  rw [h1] at h2
  cases h2
set_option maxHeartbeats 2000000 in
set_option maxRecDepth 100000 in
theorem Loads_any (v : Value) (rs : List AR) (us : List UR) {x : EV} (w : World) (hv : AL w v rs) (hlen : us.length = rs.length) (hsay : ∀ (i : Nat) r u, rs[i]? = some r → us[i]? = some u → SaysO w r u) (hf1 : ∀ u ∈ us, u.fits) (hf2 : ∀ u ∈ us, u.fits2) (hf3 : ∀ u ∈ us, u.fits3) (hn : rs.length * 104 ≤ 140737488351232) (hub : UB w) (hev : w.cell? ⟨0, 0, none⟩ = some (.iface x.1 x.2)) :
    Calls Tryz.prog 4 #[v] w fun y w' => y = .returned (.bool true) ∧ Ex [] w w' := by
  have KB := hide (begin_one (fun _ _ _ => True) w)
  have KL := hide (fun (gb e m mb wb base room : Nat) (w1 : World) (hx : Ex [] w w1) (hg : GM (fun _ _ _ => True) w1 gb e m mb wb base room) (g1 : w.heap.size ≤ e) (g2 : w.heap.size ≤ m) (g3 : w.heap.size ≤ mb) (g4 : w.heap.size ≤ wb) => loads_any (fun _ _ _ => True) gb e m mb wb base room v rs us w w1 hx hg g1 g2 g3 g4 (bk_map hg.blk hg.eng.mem.map) (bk_map hg.wld hg.eng.mem.map) (bk_ne hg.blk hg.eng.mem.blk (by decide)) (bk_ne hg.wld hg.eng.mem.blk (by decide)) hg.eng.mem.map.lt hg.eng.mem.blk.lt hv hlen hsay hf1 hf2 hf3 hn hub hev)
  obtain ⟨p, c, rfl⟩ := hv.slice
  clear hv hlen hsay hf1 hf2 hf3 hn hub hev
  go_enter Tryz.func4, Tryz.ntmps4
  go_wp2_with fail
  refine KB.out.mono ?_
  rintro y w1 ⟨gb, e, m, mb, wb, base, room, rfl, hg, h1, h2, h3, h4, h5, hx1⟩
  have K2 := hide (KL.out gb e m mb wb base room w1 hx1 hg h1 h2 h3 h4)
  clear hg hx1 KL KB
  go_wp2_with fail
  refine K2.out.mono ?_
  rintro y w2 ⟨rfl, hx2⟩
  have HX2 := hide hx2
  clear hx2
  go_wp2_with fail
  go_ret
  exact ⟨rfl, HX2.out⟩
end Go.Proofs.YtgmjjhmnchefbaaGreatDoor.G

/- What a row's list gives: the table of the actions, the value by which the reader gives up. -/
namespace Go.Proofs.YtgmjjhmnchefbaaGreatDoor
open Go.RowKit

theorem bools_of_struct {H : Type} {enc : TypeId × Value → H} {P : Program} {w : World} {base : Nat} {sp : Nat → Bool} {held : Bool} {fuel : Nat} {t : TypeId} {fs : Array Field} {cs : List Value} {zs : List Bool} {p : List MemPlace} (ht : P.underlying t = some (.struct fs))
    (hf : ∀ (i : Nat) (f : Field), fs[i]? = some f → P.underlying f.type = some .bool ∧ f.offset = i ∧ P.cellsOf f.type = 1) (hct : P.cellsOf t = fs.size)
    (h : DataW.trod enc P w base sp held fuel t cs = some (.agg (zs.map fun z => .lit (.bool z)), p)) : cs = zs.map fun z => Value.bool z := by
  obtain ⟨xs, n, rfl, hx, hl, hxl, hall⟩ := DataW.trod_struct ht h
  have hxs : xs.map (·.1) = zs.map fun z => (DataW.lit (.bool z) : DataW H) := by
    have := congrArg Prod.fst hx
    simpa using this.symm
  have hzl : zs.length = fs.size := by
    have := congrArg List.length hxs
    simp at this
    omega
  apply List.ext_getElem?
  intro i
  by_cases hi : i < fs.size
  · obtain ⟨hu, ho, hc⟩ := hf i fs[i] (by simp [hi])
    have h1 := hall i fs[i] (by simp [hi])
    obtain ⟨b, hb⟩ : ∃ b, xs[i]? = some b := ⟨xs[i]'(by omega), List.getElem?_eq_getElem (by omega)⟩
    rw [hb, ho, hc] at h1
    obtain ⟨z, hcz, rfl⟩ := DataW.trod_bool hu h1
    have h2 : cs[i]? = some (.bool z) := by
      have := congrArg (·[0]?) hcz
      simpa [List.getElem?_take, List.getElem?_drop] using this
    have h3 : (xs.map (·.1))[i]? = some (DataW.lit (.bool z) : DataW H) := by simp [hb]
    rw [hxs] at h3
    simp only [List.getElem?_map, Option.map_eq_some_iff, DataW.lit.injEq, Lit.bool.injEq] at h3
    obtain ⟨z', hz', rfl⟩ := h3
    simp [h2, hz']
  · rw [List.getElem?_eq_none (by omega), List.getElem?_eq_none (by simp; omega)]

theorem iface_of {H : Type} {enc : TypeId × Value → H} {P : Program} {w : World} {base : Nat} {sp : Nat → Bool} {held : Bool} {fuel : Nat} {t : TypeId} {cs : List Value} {n : String} {d : DataW H} {p : List MemPlace} (ht : ∃ ms, P.underlying t = some (.interface ms))
    (h : DataW.trod enc P w base sp held fuel t cs = some (.iface n d, p)) : ∃ u v, cs = [.iface u v] := by
  obtain ⟨ms, ht⟩ := ht
  cases fuel with
  | zero => simp [DataW.trod] at h
  | succ fuel =>
    unfold DataW.trod at h
    rw [ht] at h
    split at h <;> first | cases h | (rename_i heq; exact ⟨_, _, rfl⟩) | simp_all
end Go.Proofs.YtgmjjhmnchefbaaGreatDoor

/- From a row's list to the table of the actions and the value by which the reader gives up. -/
namespace Go.Proofs.YtgmjjhmnchefbaaGreatDoor
open Go.RowKit

def useD (u : Use) : DataW Unit := .agg ([u.text, u.regex, u.target, u.repl, u.modulus].map fun z => .lit (.bool z))
set_option maxRecDepth 100000 in
theorem used_eq : (Rows.laid_retag_rule_usedBy : DataW Unit) = .agg (usesL.map useD) := by kernel_rfl

set_option maxRecDepth 100000 in
theorem ub_of_reads {W : World} (h : Lib.VarReads Tryz.prog W "retag/rule.usedBy" Rows.laid_retag_rule_usedBy) : UB W := by
  obtain ⟨g, t, cs, fuel, p, hg, hty, hvar, hd⟩ := h
  obtain rfl : g = 1 := (Option.some.inj ((show Tryz.prog.globalNamed "retag/rule.usedBy" = some 1 by kernel_rfl).symm.trans hg)).symm
  obtain rfl : t = 164 := (Option.some.inj ((show (Tryz.prog.globals[1]?).map (·.type) = some 164 by kernel_rfl).symm.trans hty)).symm
  rw [used_eq] at hd
  have key : ∀ (n : Nat) (u : Use), usesL[n]? = some u → W.rangeAt 1 (n * 5) u.cells := by
    intro n u hu
    have hn : n < 11 := (List.getElem?_eq_some_iff.1 hu).1
    obtain ⟨fuel', d, q, hdi, he⟩ := Lib.array_elem Tryz.underlying164 hd n hn
    rw [List.getElem?_map, hu] at hdi
    simp only [Option.map_some, Option.some.injEq] at hdi
    subst hdi
    rw [show Tryz.prog.cellsOf 163 = 5 by kernel_rfl] at he
    have hcs := bools_of_struct Tryz.underlying163 (fun j f hj => by
      match j, hj with
      | 0, hj => simp at hj; subst hj; exact ⟨Tryz.underlying4, rfl, by kernel_rfl⟩
      | 1, hj => simp at hj; subst hj; exact ⟨Tryz.underlying4, rfl, by kernel_rfl⟩
      | 2, hj => simp at hj; subst hj; exact ⟨Tryz.underlying4, rfl, by kernel_rfl⟩
      | 3, hj => simp at hj; subst hj; exact ⟨Tryz.underlying4, rfl, by kernel_rfl⟩
      | 4, hj => simp at hj; subst hj; exact ⟨Tryz.underlying4, rfl, by kernel_rfl⟩
      | j + 5, hj => simp at hj) (by kernel_rfl) he
    intro j v hv
    rw [World.var?_cell hg hvar (n * 5 + j), ← Array.getElem?_toList]
    have hj5 : j < 5 := (List.getElem?_eq_some_iff.1 hv).1
    have h1 := congrArg (·[j]?) hcs
    simp only [List.getElem?_take, List.getElem?_drop, if_pos hj5] at h1
    rw [h1]
    exact hv
  refine ⟨?_, key⟩
  exact G.lt_of_cell (key 0 _ rfl 0 _ rfl)

theorem ev_of_reads {W : World} (h : Lib.VarReads Tryz.prog W "retag/regex.errForm" Rows.laid_retag_regex_errForm) : ∃ x : G.EV, W.cell? ⟨0, 0, none⟩ = some (.iface x.1 x.2) := by
  obtain ⟨g, t, cs, fuel, p, hg, hty, hvar, hd⟩ := h
  obtain rfl : g = 0 := (Option.some.inj ((show Tryz.prog.globalNamed "retag/regex.errForm" = some 0 by kernel_rfl).symm.trans hg)).symm
  obtain rfl : t = 130 := (Option.some.inj ((show (Tryz.prog.globals[0]?).map (·.type) = some 130 by kernel_rfl).symm.trans hty)).symm
  obtain ⟨u, v, hcs⟩ := iface_of ⟨_, Tryz.underlying130⟩ hd
  refine ⟨(u, v), ?_⟩
  rw [World.var?_cell hg hvar 0, ← Array.getElem?_toList, hcs]
  rfl
end Go.Proofs.YtgmjjhmnchefbaaGreatDoor

/- A rule and labels among the arguments: opened. -/
namespace Go.Proofs.YtgmjjhmnchefbaaGreatDoor
open Go.ChangeShapes Go.WideShapes Go.ChangeAt Go.ChangeMaps Go.RowKit

theorem strs_plain {w : World} {a : Addr} {ss : List ByteArray} (h : ∀ i, i < ss.length → w.cell? (a.add i) = some (.string (ss.getD i ByteArray.empty))) : G.SSo w (some a) ss := by
  intro j s hs
  obtain ⟨b, off, spot⟩ := a
  have hj : j < ss.length := (List.getElem?_eq_some_iff.1 hs).1
  have h1 := h j hj
  have hspot : spot = none := by simpa [Addr.add] using World.cell?_spot (h 0 (by omega))
  subst hspot
  rw [add_plain] at h1
  have h2 : ss.getD j ByteArray.empty = s := by rw [List.getD, hs]; rfl
  rw [h2] at h1
  exact ⟨b, off, rfl, G.lt_of_cell h1, h1⟩

end Go.Proofs.YtgmjjhmnchefbaaGreatDoor

/- The statements' own labels: names of some, values that are short. -/
namespace Go.Proofs.YtgmjjhmnchefbaaGreatDoor.G
open Go.RowKit

end Go.Proofs.YtgmjjhmnchefbaaGreatDoor.G

/- The statements' own rules: each pattern is one of some. -/
namespace Go.Proofs.YtgmjjhmnchefbaaGreatDoor.G
open Go.RowKit

def texts : List ByteArray := [⟨#[]⟩, ⟨#[36, 49]⟩, ⟨#[36, 48]⟩, ⟨#[120, 36, 50, 121]⟩, ⟨#[36, 123, 120, 125]⟩, ⟨#[110, 101, 119]⟩, ⟨#[36, 36]⟩, ⟨#[36, 49, 36, 49]⟩, ⟨#[36, 123, 49, 125, 95, 36, 123, 50, 125]⟩, ⟨#[106, 111, 98]⟩]

end Go.Proofs.YtgmjjhmnchefbaaGreatDoor.G

/- The statements' own rules: the first action. -/
namespace Go.Proofs.YtgmjjhmnchefbaaGreatDoor.G
open Go.RowKit

end Go.Proofs.YtgmjjhmnchefbaaGreatDoor.G

/- The statements' own rules, whatever the action. -/
namespace Go.Proofs.YtgmjjhmnchefbaaGreatDoor.G
open Go.RowKit

end Go.Proofs.YtgmjjhmnchefbaaGreatDoor.G

/- The statements' own lists of rules. -/
namespace Go.Proofs.YtgmjjhmnchefbaaGreatDoor.G
open Go.RowKit

structure RawR (w : World) (r : AR) : Prop where
  ac : -9223372036854775808 ≤ r.act ∧ r.act ≤ 9223372036854775807
  ss : ∃ ss : List ByteArray, r.n = ss.length ∧ SSo w r.p ss ∧ ss.length ≤ 9223372036854775807 ∧ ∀ s ∈ ss, s.size ≤ 9223372036854775807
  se : r.se.size ≤ 9223372036854775807
  re : r.re.size ≤ 9223372036854775807
  ta : r.ta.size ≤ 9223372036854775807
  rp : r.rp.size ≤ 9223372036854775807
  mo : 0 ≤ r.mo ∧ r.mo < 18446744073709551616
end Go.Proofs.YtgmjjhmnchefbaaGreatDoor.G

/- Lists of rules among a row's arguments; the library's table of powers. -/
namespace Go.Proofs.YtgmjjhmnchefbaaGreatDoor
open Go.ChangeShapes Go.WideShapes Go.ChangeAt Go.ChangeMaps Go.RowKit

end Go.Proofs.YtgmjjhmnchefbaaGreatDoor

/- Rules among the arguments, in plain words. -/
namespace Go.Proofs.YtgmjjhmnchefbaaGreatDoor.G
open Go.RowKit
end Go.Proofs.YtgmjjhmnchefbaaGreatDoor.G

/- Rules among the arguments, with what the reach says of their sizes. -/
namespace Go.Proofs.YtgmjjhmnchefbaaGreatDoor
open Go.ChangeShapes Go.WideShapes Go.ChangeAt Go.ChangeMaps Go.RowKit

theorem reach_eq : reachBytes = 140737488351232 := by decide
theorem weightsAll_mem {H : Type} {P : Program} {e : TypeId} : ∀ {l : List (DataW H)} {d : DataW H}, (DataW.weightsAll P e l).all (· ≤ reachBytes) = true → d ∈ l → (d.weights P e).all (· ≤ reachBytes) = true
  | [], d, _, hd => by cases hd
  | a :: r, d, h, hd => by
    rw [DataW.weightsAll, List.all_append, Bool.and_eq_true] at h
    rcases List.mem_cons.1 hd with rfl | h9
    · exact h.1
    · exact weightsAll_mem h.2 h9
theorem weights_str {H : Type} {P : Program} {t : TypeId} {s : ByteArray} (h : ((DataW.lit (.string s.data.toList) : DataW H).weights P t).all (· ≤ reachBytes) = true) : s.size ≤ 140737488351232 := by
  simp only [DataW.weights, List.all_cons, List.all_nil, Bool.and_true, decide_eq_true_eq, reach_eq] at h
  have e : s.data.toList.length = s.size := by rw [Array.length_toList]; rfl
  omega
theorem weights_cons {H : Type} {P : Program} {t : TypeId} {ts : List TypeId} {d : DataW H} {r : List (DataW H)} (h : (DataW.weightsEach P (t :: ts) (d :: r)).all (· ≤ reachBytes) = true) : (d.weights P t).all (· ≤ reachBytes) = true ∧ (DataW.weightsEach P ts r).all (· ≤ reachBytes) = true := by
  rw [DataW.weightsEach, List.all_append, Bool.and_eq_true] at h
  exact h

set_option maxRecDepth 100000 in
theorem open_ssz {H : Type} {enc : TypeId × Value → H} {W : World} {base : Nat} {sp : Nat → Bool} {held : Bool} {fuel : Nat} {v : Value} {x : DataW H × List MemPlace}
    (h : DataW.trod enc Tryz.prog W base sp held fuel 46 [v] = some x) (hw : (x.1.weights Tryz.prog 46).all (· ≤ reachBytes) = true) : ∃ p c ss, v = .slice p ss.length c ∧ G.SSo W p ss ∧ ss.length * 16 ≤ 140737488351232 ∧ ∀ s ∈ ss, s.size ≤ 140737488351232 := by
  rcases open_strings Tryz.underlying46 Tryz.underlying9 (by kernel_rfl) h with ⟨hcs, hx⟩ | ⟨a, len, cap, ss, hcs, _, hl, hm, hz, hx, hcell, hsz⟩
  · simp only [List.cons.injEq, and_true] at hcs
    exact ⟨none, 0, [], hcs, fun j s hs => by simp at hs, by simp, fun s hs => by simp at hs⟩
  · simp only [List.cons.injEq, and_true] at hcs
    have hlen : (ss.take len).length = len := by rw [List.length_take, hz]; split <;> omega
    subst hx
    rw [DataW.weights, Tryz.underlying46] at hw
    simp only [List.all_cons, List.all_append, Bool.and_eq_true, decide_eq_true_eq, reach_eq] at hw
    obtain ⟨hw1, hw2, _⟩ := hw
    rw [show Tryz.prog.bytesOf 9 = 16 by kernel_rfl] at hw1
    simp only [strs, List.length_map] at hw1
    refine ⟨some a, cap, ss.take len, by rw [hlen]; exact hcs, ?_, ?_, fun s hs => ?_⟩
    · have h1 := strs_plain hcell
      intro j s hs
      refine h1 j s ?_
      rw [List.getElem?_take] at hs
      split at hs
      · exact hs
      · cases hs
    · refine Nat.le_trans (Nat.mul_le_mul_right _ (Nat.le_add_right _ _)) hw1
    · have h9 : (DataW.weightsAll Tryz.prog 9 (strs (ss.take len) : List (DataW H))).all (· ≤ reachBytes) = true := by
        rw [reach_eq]; simpa using hw2
      exact weights_str (weightsAll_mem h9 (List.mem_map.2 ⟨s, hs, rfl⟩))

set_option maxRecDepth 100000 in
theorem open_rcz {H : Type} {enc : TypeId × Value → H} {W : World} {base : Nat} {sp : Nat → Bool} {held : Bool} {fuel : Nat} {cs : List Value} {x : DataW H × List MemPlace}
    (hlen : cs.length = 7) (hf : DataW.trod enc Tryz.prog W base sp held fuel 118 cs = some x) (hw : (x.1.weights Tryz.prog 118).all (· ≤ reachBytes) = true) :
    ∃ (r : G.AR) (u : G.UR), cs = r.cells ∧ G.RawR W r ∧ G.SaysO W r u ∧ u.fits ∧ u.fits2 ∧ u.fits3 := by
  match cs, hlen with
  | [c0, c1, c2, c3, c4, c5, c6], _ =>
  obtain ⟨xs, n, _, hx, _, hlen, hall⟩ := DataW.trod_struct Tryz.underlying118 hf
  match xs, hlen with
  | [y0, y1, y2, y3, y4, y5, y6], _ =>
    subst hx
    rw [DataW.weights, Tryz.underlying118] at hw
    simp only [List.map_cons, List.map_nil] at hw
    obtain ⟨_, hw⟩ := weights_cons hw
    obtain ⟨q1, hw⟩ := weights_cons hw
    obtain ⟨q2, hw⟩ := weights_cons hw
    obtain ⟨q3, hw⟩ := weights_cons hw
    obtain ⟨q4, hw⟩ := weights_cons hw
    obtain ⟨q5, hw⟩ := weights_cons hw
    have k3 : Tryz.prog.cellsOf 3 = 1 := by kernel_rfl
    have k9 : Tryz.prog.cellsOf 9 = 1 := by kernel_rfl
    have ks : Tryz.prog.cellsOf 46 = 1 := by kernel_rfl
    have ku : Tryz.prog.cellsOf 71 = 1 := by kernel_rfl
    have g0 : DataW.trod enc Tryz.prog W base sp held n 3 [c0] = some y0 := by have g := hall 0 _ rfl; simpa [k3] using g
    have g1 : DataW.trod enc Tryz.prog W base sp held n 46 [c1] = some y1 := by have g := hall 1 _ rfl; simpa [ks] using g
    have g2 : DataW.trod enc Tryz.prog W base sp held n 9 [c2] = some y2 := by have g := hall 2 _ rfl; simpa [k9] using g
    have g3 : DataW.trod enc Tryz.prog W base sp held n 9 [c3] = some y3 := by have g := hall 3 _ rfl; simpa [k9] using g
    have g4 : DataW.trod enc Tryz.prog W base sp held n 9 [c4] = some y4 := by have g := hall 4 _ rfl; simpa [k9] using g
    have g5 : DataW.trod enc Tryz.prog W base sp held n 9 [c5] = some y5 := by have g := hall 5 _ rfl; simpa [k9] using g
    have g6 : DataW.trod enc Tryz.prog W base sp held n 71 [c6] = some y6 := by have g := hall 6 _ rfl; simpa [ku] using g
    obtain ⟨a, e0, _, w0⟩ := DataW.trod_int Tryz.underlying3 g0
    obtain ⟨p, c, ss, rfl, hss, hsl, hsz'⟩ := open_ssz g1 q1
    obtain ⟨se, e2, z2, _⟩ := DataW.trod_string Tryz.underlying9 g2
    obtain ⟨re, e3, z3, _⟩ := DataW.trod_string Tryz.underlying9 g3
    obtain ⟨ta, e4, z4, _⟩ := DataW.trod_string Tryz.underlying9 g4
    obtain ⟨rp, e5, z5, _⟩ := DataW.trod_string Tryz.underlying9 g5
    obtain ⟨mo, e6, _, w6⟩ := DataW.trod_int Tryz.underlying71 g6
    subst z2 z3 z4 z5
    have s2 := weights_str q2
    have s3 := weights_str q3
    have s4 := weights_str q4
    have s5 := weights_str q5
    simp only [List.cons.injEq, and_true] at e0 e2 e3 e4 e5 e6
    subst e0 e2 e3 e4 e5 e6
    simp only [Lit.wf, Bool.and_eq_true, decide_eq_true_eq] at w0 w6
    have u0 : IntKind.u64.min = 0 := rfl
    have u1 : IntKind.u64.max = 18446744073709551615 := rfl
    have hm : maxLen = 9223372036854775807 := rfl
    refine ⟨⟨a, p, ss.length, c, se, re, ta, rp, mo⟩, ⟨a, ss, se, re, ta, rp, mo⟩, rfl, ⟨w0, ⟨ss, rfl, hss, by omega, fun s hs => by have := hsz' s hs; omega⟩, by show se.size ≤ _; omega, by show re.size ≤ _; omega, by show ta.size ≤ _; omega, by show rp.size ≤ _; omega, by show 0 ≤ mo ∧ mo < _; omega⟩, ⟨rfl, rfl, hss, rfl, rfl, rfl, rfl, rfl⟩, ⟨fun s hs => ?_, ?_, ?_, ?_⟩, ⟨?_, fun s hs => ?_, ?_⟩, ⟨hsl⟩⟩
    · have := hsz' s hs; omega
    · show se.size ≤ _; omega
    · show ta.size ≤ _; omega
    · show rp.size ≤ _; omega
    · show ss.length ≤ _; omega
    · have := hsz' s hs; omega
    · show ta.size ≤ _; omega

structure RZ (W : World) (v : Value) (rs : List G.AR) (us : List G.UR) : Prop where
  al : G.AL W v rs
  len : us.length = rs.length
  say : ∀ (i : Nat) r u, rs[i]? = some r → us[i]? = some u → G.SaysO W r u
  raw : ∀ r ∈ rs, G.RawR W r
  f1 : ∀ u ∈ us, u.fits
  f2 : ∀ u ∈ us, u.fits2
  f3 : ∀ u ∈ us, u.fits3
  n : rs.length * 104 ≤ 140737488351232
set_option maxRecDepth 100000 in
theorem open_rzc {H : Type} {enc : TypeId × Value → H} {W : World} {base : Nat} {sp : Nat → Bool} {held : Bool} {fuel : Nat} {v : Value} {x : DataW H × List MemPlace}
    (hf : DataW.trod enc Tryz.prog W base sp held fuel 31 [v] = some x) (hw : (x.1.weights Tryz.prog 31).all (· ≤ reachBytes) = true) : ∃ rs us, RZ W v rs us := by
  rcases Deep.open_slice Tryz.underlying31 hf with ⟨hcs, _⟩ | ⟨a, len, cap, m, n, D, Pl, hcs, _, hl, hm, hmm, hx, hcell⟩
  · simp only [List.cons.injEq, and_true] at hcs
    subst hcs
    exact ⟨[], [], ⟨⟨none, 0, rfl, fun i r hr => (by simp at hr)⟩, rfl, fun i r u hr => (by simp at hr), fun r hr => (by cases hr), fun u hu => (by cases hu), fun u hu => (by cases hu), fun u hu => (by cases hu), by simp⟩⟩
  · simp only [List.cons.injEq, and_true] at hcs
    subst hcs hx
    have hlm : len ≤ m := by rw [hmm]; split <;> omega
    rw [DataW.weights, Tryz.underlying31] at hw
    simp only [List.all_cons, List.all_append, Bool.and_eq_true, decide_eq_true_eq, reach_eq] at hw
    obtain ⟨hw1, hw2, _⟩ := hw
    rw [show Tryz.prog.bytesOf 118 = 104 by kernel_rfl] at hw1
    simp only [List.length_map, List.length_range] at hw1
    have hw2' : (DataW.weightsAll Tryz.prog 118 ((List.range len).map D)).all (· ≤ reachBytes) = true := by rw [reach_eq]; simpa using hw2
    rw [show Tryz.prog.cellsOf 118 = 7 by kernel_rfl] at hcell
    have key : ∀ i, i < len → ∃ ru : G.AR × G.UR, (∀ o, o < 7 → W.cell? ((a.add (i * 7)).add o) = ru.1.cells[o]?) ∧ G.RawR W ru.1 ∧ G.SaysO W ru.1 ru.2 ∧ ru.2.fits ∧ ru.2.fits2 ∧ ru.2.fits3 := fun i hi => by
      obtain ⟨cs', h1, h2⟩ := hcell i (by omega)
      obtain ⟨_, hlen, hc⟩ := World.cells?_some h1
      obtain ⟨r, u, hr, hraw⟩ := open_rcz hlen h2 (weightsAll_mem hw2' (List.mem_map.2 ⟨i, List.mem_range.2 hi, rfl⟩))
      refine ⟨(r, u), fun o ho => ?_, hraw⟩
      rw [← hr]
      exact hc o ho
    let L : Nat → G.AR × G.UR := fun i => if h : i < len then Classical.choose (key i h) else (⟨0, none, 0, 0, ⟨#[]⟩, ⟨#[]⟩, ⟨#[]⟩, ⟨#[]⟩, 0⟩, ⟨0, [], ⟨#[]⟩, ⟨#[]⟩, ⟨#[]⟩, ⟨#[]⟩, 0⟩)
    have hL : ∀ i, i < len → (∀ o, o < 7 → W.cell? ((a.add (i * 7)).add o) = (L i).1.cells[o]?) ∧ G.RawR W (L i).1 ∧ G.SaysO W (L i).1 (L i).2 ∧ (L i).2.fits ∧ (L i).2.fits2 ∧ (L i).2.fits3 := fun i hi => by
      have h9 := Classical.choose_spec (key i hi)
      have e : L i = Classical.choose (key i hi) := by show (if h : i < len then _ else _) = _; rw [dif_pos hi]
      rw [e]; exact h9
    have gA : ∀ (j : Nat) r, ((List.range len).map fun i => (L i).1)[j]? = some r → j < len ∧ (L j).1 = r := fun j r hjl => by
      rw [List.getElem?_map] at hjl
      have hj : j < len := by
        rcases Nat.lt_or_ge j len with h9 | h9
        · exact h9
        · rw [List.getElem?_eq_none (by simpa using h9)] at hjl; cases hjl
      rw [List.getElem?_range hj] at hjl
      simp only [Option.map_some, Option.some.injEq] at hjl
      exact ⟨hj, hjl⟩
    have gU : ∀ (j : Nat) r, ((List.range len).map fun i => (L i).2)[j]? = some r → j < len ∧ (L j).2 = r := fun j r hjl => by
      rw [List.getElem?_map] at hjl
      have hj : j < len := by
        rcases Nat.lt_or_ge j len with h9 | h9
        · exact h9
        · rw [List.getElem?_eq_none (by simpa using h9)] at hjl; cases hjl
      rw [List.getElem?_range hj] at hjl
      simp only [Option.map_some, Option.some.injEq] at hjl
      exact ⟨hj, hjl⟩
    have mU : ∀ u, u ∈ (List.range len).map (fun i => (L i).2) → ∃ j, j < len ∧ (L j).2 = u := fun u hu => by
      obtain ⟨j, hj, e⟩ := List.mem_map.1 hu
      exact ⟨j, List.mem_range.1 hj, e⟩
    refine ⟨(List.range len).map fun i => (L i).1, (List.range len).map fun i => (L i).2, ⟨some a, cap, by rw [List.length_map, List.length_range], fun j r hjl => ?_⟩, by simp, fun j r u hr hu => ?_, fun r hr => ?_, fun u hu => ?_, fun u hu => ?_, fun u hu => ?_, ?_⟩
    · obtain ⟨hj, rfl⟩ := gA j r hjl
      obtain ⟨hc, hraw⟩ := hL j hj
      obtain ⟨b, off, spot⟩ := a
      have hc0 : W.cell? (((⟨b, off, spot⟩ : Addr).add (j * 7)).add 0) = some (.int .i64 (L j).1.act) := hc 0 (by omega)
      have hspot : spot = none := by
        have hz : W.cell? (((⟨b, off, spot⟩ : Addr).add (0 * 7)).add 0) = some (.int .i64 (L 0).1.act) := (hL 0 (by omega)).1 0 (by omega)
        have := World.cell?_spot hz
        simpa [Addr.add] using this
      subst hspot
      rw [add_plain, add_plain] at hc0
      refine ⟨b, off, rfl, G.lt_of_cell hc0, fun o ho => ?_⟩
      have h9 := hc o ho
      rw [add_plain, add_plain] at h9
      exact h9
    · obtain ⟨hj, rfl⟩ := gA j r hr
      obtain ⟨_, rfl⟩ := gU j u hu
      exact (hL j hj).2.2.1
    · obtain ⟨j, hj, rfl⟩ := List.mem_map.1 hr
      exact (hL j (List.mem_range.1 hj)).2.1
    · obtain ⟨j, hj, rfl⟩ := mU u hu
      exact (hL j hj).2.2.2.1
    · obtain ⟨j, hj, rfl⟩ := mU u hu
      exact (hL j hj).2.2.2.2.1
    · obtain ⟨j, hj, rfl⟩ := mU u hu
      exact (hL j hj).2.2.2.2.2
    · rw [List.length_map, List.length_range]
      exact Nat.le_trans (Nat.mul_le_mul_right _ (Nat.le_add_right _ _)) hw1
set_option maxRecDepth 100000 in
theorem open_rz {H : Type} {enc : TypeId × Value → H} {W : World} {r : Reach} {b0 base : Nat} {sp : Nat → Bool} {held : Bool} {v : Value} {d : DataW H} {ps : List MemPlace}
    (hv : Value.okWide Tryz.prog W r b0 31 v) (h : DataW.Trod enc Tryz.prog W base sp held 31 v d ps) (hw : (d.weights Tryz.prog 31).all (· ≤ reachBytes) = true) : ∃ rs us, RZ W v rs us := by
  obtain ⟨a0, len0, cap0, rfl⟩ := okWide_slice Tryz.underlying31 hv
  obtain ⟨fuel, hf⟩ := h
  exact open_rzc (x := (d, ps)) hf hw
end Go.Proofs.YtgmjjhmnchefbaaGreatDoor

/- A start at which retaglaw.Loads may be called. -/
namespace Go.Proofs.YtgmjjhmnchefbaaGreatDoor
open Go.ChangeShapes Go.WideShapes Go.ChangeAt Go.ChangeMaps Go.RowKit

theorem own : ownKnob Tryz.prog.godebug = none := by kernel_rfl

set_option maxRecDepth 100000 in
theorem start_fits (os : Os) (H : Type) (enc : TypeId × Value → H) : ∃ w0 : World, w0.os = os ∧ (w0.forCall (fun _ _ => 0) ⟨#[], #[.slice none 0 0], []⟩).Shaped Tryz.prog ∧
    Input.okWideB Tryz.prog (w0.forCall (fun _ _ => 0) ⟨#[], #[.slice none 0 0], []⟩) 4 ⟨#[], #[.slice none 0 0], []⟩ = true ∧
    Rows.loadsSpec.preB enc Tryz.prog Tryz.f4 [] false (w0.forCall (fun _ _ => 0) ⟨#[], #[.slice none 0 0], []⟩).memory #[.slice none 0 0] 8 = true ∧
    Rows.loadsSpec.sizedB enc Tryz.prog Tryz.f4 false (w0.forCall (fun _ _ => 0) ⟨#[], #[.slice none 0 0], []⟩).memory #[.slice none 0 0] 8 = true ∧
    laidMetH Tryz.prog Rows.loadsRow.laid (w0.forCall (fun _ _ => 0) ⟨#[], #[.slice none 0 0], []⟩).memory := by
  refine ⟨{ World.doorLaid Tryz.prog 400 os with heap := (World.doorLaid Tryz.prog 400 os).heap.modify 2 fun
      | .cells _ t frozen => .cells ⟨Go.Pinned.utf8FirstZ.map fun (z : Nat) => .int .u8 (z : Int)⟩ t frozen
      | o => o }, rfl, World.shaped_of_RefB (by kernel_rfl) (by kernel_rfl), by kernel_rfl, by kernel_rfl, by kernel_rfl, ?_⟩
  exact laidMetH_of_parts3 (fuel := 8) (laidMet_of_run' 8 (by kernel_rfl) (by kernel_rfl)) (by kernel_rfl) (by kernel_rfl)


theorem loads_list {W : World} (h : laidMetH Tryz.prog Rows.loadsRow.laid W) : UB W ∧ ∃ x : G.EV, W.cell? ⟨0, 0, none⟩ = some (.iface x.1 x.2) := by
  rw [MakeChecks.laidMetH_plain _ _ _ (by kernel_rfl)] at h
  exact ⟨ub_of_reads (Lib.laidMet.reads h (n := "retag/rule.usedBy") (d := Rows.laid_retag_rule_usedBy) (by simp [Rows.loadsRow])),
    ev_of_reads (Lib.laidMet.reads h (n := "retag/regex.errForm") (d := Rows.laid_retag_regex_errForm) (by simp [Rows.loadsRow]))⟩
end Go.Proofs.YtgmjjhmnchefbaaGreatDoor
