/- H1 H2 H3 H4 SortedA, one behind the other. -/
import Derived.Test.YtcbiidoebpkifaaGreatDoorM33
import Derived.Test.YtcbiidoebpkifaaGreatDoorM13
import Derived.Lib.LaidU8
import Derived.Test.YtcbiidoebpkifaaGreatDoorRows
import Derived.Test.YtcbiidoebpkifaaGreatDoorM36
import Derived.ProofKit
import Derived.MakeChecks
import Derived.OpenShut
import Derived.SliceStrings
import Derived.Deep.SlicePairs
import Derived.Carry
import Derived.Test.YtcbiidoebpkifaaGreatDoorM42
import Derived.Deep.Slices
import Derived.Test.YtcbiidoebpkifaaGreatDoorCards
import Derived.Test.YtcbiidoebpkifaaGreatDoorTie
import Derived.Test.YtcbiidoebpkifaaGreatDoorM48
import Derived.LaidMore
import Derived.Stop.Joined
set_option linter.unusedVariables false
set_option linter.unusedSimpArgs false
/- What a row's list gives: the table of the actions, the value by which the reader gives up. -/
namespace Go.Proofs.YtcbiidoebpkifaaGreatDoor
open Go.RowKit

theorem bools_of_struct {H : Type} {enc : TypeId × Value → H} {P : Program} {w : World} {base : Nat} {sp : Nat → Bool} {held : Bool} {fuel : Nat} {t : TypeId} {fs : Array Field} {cs : List Value} {zs : List Bool} {p : List MemPlace} (ht : P.underlying t = some (.struct fs))
    (hf : ∀ (i : Nat) (f : Field), fs[i]? = some f → P.underlying f.type = some .bool ∧ f.offset = i ∧ P.cellsOf f.type = 1) (hct : P.cellsOf t = fs.size)
    (h : DataW.trod enc P w base sp held fuel t cs = some (.agg (zs.map fun z => .lit (.bool z)), p)) : cs = zs.map fun z => Value.bool z := by
  obtain ⟨xs, n, rfl, hx, hl, hxl, hall⟩ := DataW.trod_struct ht h
  have hxs : xs.map (·.1) = zs.map fun z => (DataW.lit (.bool z) : DataW H) := by
    have := congrArg Prod.fst hx
    simpa using this.symm
  have hzl : zs.length = fs.size := by
    have := congrArg List.length hxs
    simp at this
    omega
  apply List.ext_getElem?
  intro i
  by_cases hi : i < fs.size
  · obtain ⟨hu, ho, hc⟩ := hf i fs[i] (by simp [hi])
    have h1 := hall i fs[i] (by simp [hi])
    obtain ⟨b, hb⟩ : ∃ b, xs[i]? = some b := ⟨xs[i]'(by omega), List.getElem?_eq_getElem (by omega)⟩
    rw [hb, ho, hc] at h1
    obtain ⟨z, hcz, rfl⟩ := DataW.trod_bool hu h1
    have h2 : cs[i]? = some (.bool z) := by
      have := congrArg (·[0]?) hcz
      simpa [List.getElem?_take, List.getElem?_drop] using this
    have h3 : (xs.map (·.1))[i]? = some (DataW.lit (.bool z) : DataW H) := by simp [hb]
    rw [hxs] at h3
    simp only [List.getElem?_map, Option.map_eq_some_iff, DataW.lit.injEq, Lit.bool.injEq] at h3
    obtain ⟨z', hz', rfl⟩ := h3
    simp [h2, hz']
  · rw [List.getElem?_eq_none (by omega), List.getElem?_eq_none (by simp; omega)]

theorem iface_of {H : Type} {enc : TypeId × Value → H} {P : Program} {w : World} {base : Nat} {sp : Nat → Bool} {held : Bool} {fuel : Nat} {t : TypeId} {cs : List Value} {n : String} {d : DataW H} {p : List MemPlace} (ht : ∃ ms, P.underlying t = some (.interface ms))
    (h : DataW.trod enc P w base sp held fuel t cs = some (.iface n d, p)) : ∃ u v, cs = [.iface u v] := by
  obtain ⟨ms, ht⟩ := ht
  cases fuel with
  | zero => simp [DataW.trod] at h
  | succ fuel =>
    unfold DataW.trod at h
    rw [ht] at h
    split at h <;> first | cases h | (rename_i heq; exact ⟨_, _, rfl⟩) | simp_all
end Go.Proofs.YtcbiidoebpkifaaGreatDoor

/- From a row's list to the table of the actions and the value by which the reader gives up. -/
namespace Go.Proofs.YtcbiidoebpkifaaGreatDoor
open Go.RowKit

def useD (u : Use) : DataW Unit := .agg ([u.text, u.regex, u.target, u.repl, u.modulus].map fun z => .lit (.bool z))
set_option maxRecDepth 100000 in
theorem used_eq : (Rows.laid_retag_rule_usedBy : DataW Unit) = .agg (usesL.map useD) := by kernel_rfl

set_option maxRecDepth 100000 in
theorem ub_of_reads {W : World} (h : Lib.VarReads Tryz.prog W "retag/rule.usedBy" Rows.laid_retag_rule_usedBy) : UB W := by
  obtain ⟨g, t, cs, fuel, p, hg, hty, hvar, hd⟩ := h
  obtain rfl : g = 1 := (Option.some.inj ((show Tryz.prog.globalNamed "retag/rule.usedBy" = some 1 by kernel_rfl).symm.trans hg)).symm
  obtain rfl : t = 183 := (Option.some.inj ((show (Tryz.prog.globals[1]?).map (·.type) = some 183 by kernel_rfl).symm.trans hty)).symm
  rw [used_eq] at hd
  have key : ∀ (n : Nat) (u : Use), usesL[n]? = some u → W.rangeAt 1 (n * 5) u.cells := by
    intro n u hu
    have hn : n < 11 := (List.getElem?_eq_some_iff.1 hu).1
    obtain ⟨fuel', d, q, hdi, he⟩ := Lib.array_elem Tryz.underlying183 hd n hn
    rw [List.getElem?_map, hu] at hdi
    simp only [Option.map_some, Option.some.injEq] at hdi
    subst hdi
    rw [show Tryz.prog.cellsOf 182 = 5 by kernel_rfl] at he
    have hcs := bools_of_struct Tryz.underlying182 (fun j f hj => by
      match j, hj with
      | 0, hj => simp at hj; subst hj; exact ⟨Tryz.underlying4, rfl, by kernel_rfl⟩
      | 1, hj => simp at hj; subst hj; exact ⟨Tryz.underlying4, rfl, by kernel_rfl⟩
      | 2, hj => simp at hj; subst hj; exact ⟨Tryz.underlying4, rfl, by kernel_rfl⟩
      | 3, hj => simp at hj; subst hj; exact ⟨Tryz.underlying4, rfl, by kernel_rfl⟩
      | 4, hj => simp at hj; subst hj; exact ⟨Tryz.underlying4, rfl, by kernel_rfl⟩
      | j + 5, hj => simp at hj) (by kernel_rfl) he
    intro j v hv
    rw [World.var?_cell hg hvar (n * 5 + j), ← Array.getElem?_toList]
    have hj5 : j < 5 := (List.getElem?_eq_some_iff.1 hv).1
    have h1 := congrArg (·[j]?) hcs
    simp only [List.getElem?_take, List.getElem?_drop, if_pos hj5] at h1
    rw [h1]
    exact hv
  refine ⟨?_, key⟩
  exact G.lt_of_cell (key 0 _ rfl 0 _ rfl)

theorem ev_of_reads {W : World} (h : Lib.VarReads Tryz.prog W "retag/regex.errForm" Rows.laid_retag_regex_errForm) : ∃ x : G.EV, W.cell? ⟨0, 0, none⟩ = some (.iface x.1 x.2) := by
  obtain ⟨g, t, cs, fuel, p, hg, hty, hvar, hd⟩ := h
  obtain rfl : g = 0 := (Option.some.inj ((show Tryz.prog.globalNamed "retag/regex.errForm" = some 0 by kernel_rfl).symm.trans hg)).symm
  obtain rfl : t = 125 := (Option.some.inj ((show (Tryz.prog.globals[0]?).map (·.type) = some 125 by kernel_rfl).symm.trans hty)).symm
  obtain ⟨u, v, hcs⟩ := iface_of ⟨_, Tryz.underlying125⟩ hd
  refine ⟨(u, v), ?_⟩
  rw [World.var?_cell hg hvar 0, ← Array.getElem?_toList, hcs]
  rfl
end Go.Proofs.YtcbiidoebpkifaaGreatDoor

/- A rule and labels among the arguments: opened. -/
namespace Go.Proofs.YtcbiidoebpkifaaGreatDoor
open Go.ChangeShapes Go.WideShapes Go.ChangeAt Go.ChangeMaps Go.RowKit

set_option maxRecDepth 100000 in
theorem first_eq : Rows.laid_unicode_utf8_first = Lib.firstData := by kernel_rfl
set_option maxRecDepth 100000 in
theorem accept_eq : (Rows.laid_unicode_utf8_acceptRanges : DataW Unit) = Lib.acceptData := by kernel_rfl
set_option maxRecDepth 100000 in
theorem gl_of_reads {W : World} (h1 : Lib.VarReads Tryz.prog W "unicode/utf8.first" Rows.laid_unicode_utf8_first) (h2 : Lib.VarReads Tryz.prog W "unicode/utf8.acceptRanges" Rows.laid_unicode_utf8_acceptRanges) : Lib.Utf8Tabs 2 3 W := by
  rw [accept_eq] at h2
  rw [first_eq] at h1
  exact utf8Tabs_of_reads Tryz.lays260 ⟨by kernel_rfl, by kernel_rfl, by kernel_rfl, by kernel_rfl, by kernel_rfl, by kernel_rfl, by kernel_rfl⟩ h1 h2

theorem strs_plain {w : World} {a : Addr} {ss : List ByteArray} (h : ∀ i, i < ss.length → w.cell? (a.add i) = some (.string (ss.getD i ByteArray.empty))) : G.SSo w (some a) ss := by
  intro j s hs
  obtain ⟨b, off, spot⟩ := a
  have hj : j < ss.length := (List.getElem?_eq_some_iff.1 hs).1
  have h1 := h j hj
  have hspot : spot = none := by simpa [Addr.add] using World.cell?_spot (h 0 (by omega))
  subst hspot
  rw [add_plain] at h1
  have h2 : ss.getD j ByteArray.empty = s := by rw [List.getD, hs]; rfl
  rw [h2] at h1
  exact ⟨b, off, rfl, G.lt_of_cell h1, h1⟩

theorem open_sso {H : Type} {enc : TypeId × Value → H} {W : World} {base : Nat} {sp : Nat → Bool} {held : Bool} {fuel : Nat} {v : Value} {x : DataW H × List MemPlace}
    (h : DataW.trod enc Tryz.prog W base sp held fuel 62 [v] = some x) : ∃ p c ss, v = .slice p ss.length c ∧ G.SSo W p ss ∧ ss.length ≤ 9223372036854775807 ∧ ∀ s ∈ ss, s.size ≤ 9223372036854775807 := by
  rcases open_strings Tryz.underlying62 Tryz.underlying9 (by kernel_rfl) h with ⟨hcs, hx⟩ | ⟨a, len, cap, ss, hcs, _, hl, hm, hz, hx, hcell, hsz⟩
  · simp only [List.cons.injEq, and_true] at hcs
    exact ⟨none, 0, [], hcs, fun j s hs => by simp at hs, by simp, fun s hs => by simp at hs⟩
  · simp only [List.cons.injEq, and_true] at hcs
    have hlen : (ss.take len).length = len := by rw [List.length_take, hz]; split <;> omega
    refine ⟨some a, cap, ss.take len, by rw [hlen]; exact hcs, ?_, ?_, fun s hs => ?_⟩
    · have h1 := strs_plain hcell
      intro j s hs
      refine h1 j s ?_
      rw [List.getElem?_take] at hs
      split at hs
      · exact hs
      · cases hs
    · rw [hlen]; unfold maxLen at hm; omega
    · have := hsz s (List.mem_of_mem_take hs); unfold maxLen at this; omega

set_option maxRecDepth 100000 in
theorem open_slo {H : Type} {enc : TypeId × Value → H} {W : World} {r : Reach} {b0 base : Nat} {sp : Nat → Bool} {held : Bool} {v : Value} {d : DataW H} {ps : List MemPlace}
    (hv : Value.okWide Tryz.prog W r b0 32 v) (h : DataW.Trod enc Tryz.prog W base sp held 32 v d ps) :
    ∃ p c ls, v = .slice p ls.length c ∧ G.SLo W p ls ∧ ls.length ≤ 9223372036854775807 ∧ ∀ l ∈ ls, l.1.size ≤ 9223372036854775807 ∧ l.2.size ≤ 9223372036854775807 := by
  obtain ⟨a0, len0, cap0, rfl⟩ := okWide_slice Tryz.underlying32 hv
  obtain ⟨fuel, hf⟩ := h
  rcases Deep.open_slice_pairs Tryz.underlying32 Tryz.underlying42 (by kernel_rfl) rfl rfl (by kernel_rfl) (by kernel_rfl) hf with ⟨hcs, _⟩ | ⟨a, len, cap, m, n, V0, V1, D0, D1, P0, P1, hcs, _, hl, hm, hmm, _, hcell⟩
  · simp only [Value.cells, List.cons.injEq, and_true] at hcs
    exact ⟨none, 0, [], hcs, fun j s hs => by simp at hs, by simp, fun s hs => by simp at hs⟩
  · simp only [Value.cells, List.cons.injEq, and_true] at hcs
    have hlm : len ≤ m := by rw [hmm]; split <;> omega
    have key : ∀ i, i < len → ∃ l : Lab, V0 i = .string l.1 ∧ V1 i = .string l.2 ∧ l.1.size ≤ 9223372036854775807 ∧ l.2.size ≤ 9223372036854775807 := fun i hi => by
      obtain ⟨_, _, h3, h4⟩ := hcell i (by omega)
      obtain ⟨s, e1, _, w1⟩ := DataW.trod_string Tryz.underlying9 h3
      obtain ⟨t, e2, _, w2⟩ := DataW.trod_string Tryz.underlying9 h4
      simp only [List.cons.injEq, and_true] at e1 e2
      unfold maxLen at w1 w2
      exact ⟨(s, t), e1, e2, by simpa using (by omega : s.size ≤ 9223372036854775807), by simpa using (by omega : t.size ≤ 9223372036854775807)⟩
    let L : Nat → Lab := fun i => if h : i < len then Classical.choose (key i h) else (⟨#[]⟩, ⟨#[]⟩)
    have hL : ∀ i, i < len → V0 i = .string (L i).1 ∧ V1 i = .string (L i).2 ∧ (L i).1.size ≤ 9223372036854775807 ∧ (L i).2.size ≤ 9223372036854775807 := fun i hi => by
      have h9 := Classical.choose_spec (key i hi)
      have e : L i = Classical.choose (key i hi) := by show (if h : i < len then _ else _) = _; rw [dif_pos hi]
      rw [e]; exact h9
    refine ⟨some a, cap, (List.range len).map L, by rw [List.length_map, List.length_range]; exact hcs, fun j l hjl => ?_, by rw [List.length_map, List.length_range]; unfold maxLen at hm; omega, fun l hl' => ?_⟩
    · rw [List.getElem?_map] at hjl
      have hj : j < len := by
        rcases Nat.lt_or_ge j len with h9 | h9
        · exact h9
        · rw [List.getElem?_eq_none (by simpa using h9)] at hjl; cases hjl
      rw [List.getElem?_range hj] at hjl
      simp only [Option.map_some, Option.some.injEq] at hjl
      subst hjl
      obtain ⟨c0, c1, _, _⟩ := hcell j (by omega)
      obtain ⟨h1, h2, _, _⟩ := hL j hj
      rw [h1] at c0
      rw [h2] at c1
      obtain ⟨b, off, spot⟩ := a
      have hspot : spot = none := by have := World.cell?_spot (hcell 0 (by omega)).1; simpa [Addr.add] using this
      subst hspot
      rw [add_plain] at c0 c1
      exact ⟨b, off, rfl, G.lt_of_cell c0, c0, by rw [Nat.add_assoc]; exact c1⟩
    · obtain ⟨i, hi, rfl⟩ := List.mem_map.1 hl'
      exact (hL i (List.mem_range.1 hi)).2.2
end Go.Proofs.YtcbiidoebpkifaaGreatDoor

/- Lists of rules among a row's arguments; the library's table of powers. -/
namespace Go.Proofs.YtcbiidoebpkifaaGreatDoor
open Go.ChangeShapes Go.WideShapes Go.ChangeAt Go.ChangeMaps Go.RowKit

set_option maxRecDepth 100000 in
theorem pow10_eq : (Rows.laid_internal_strconv_uint64pow10 : DataW Unit) = Lib.tabData .u64 Lib.pow10Tab := by kernel_rfl
theorem pt_of_reads {W : World} (h : Lib.VarReads Tryz.prog W "internal/strconv.uint64pow10" Rows.laid_internal_strconv_uint64pow10) : G.PT W := by
  rw [pow10_eq] at h
  obtain ⟨g, t, cs, fuel, p, hg, ht, hvar, hd⟩ := h
  have e1 : g = 7 := Option.some.inj (hg.symm.trans G.pow10_at)
  subst e1
  obtain rfl := Option.some.inj ((show (Tryz.prog.globals[7]?).map (·.type) = some 264 by kernel_rfl).symm.trans ht)
  unfold G.PT Lib.TabIs
  rw [hvar, ← Lib.cells_of_tab Tryz.underlying264 Tryz.underlying63 (by kernel_rfl) (by kernel_rfl) hd]
set_option maxRecDepth 100000 in
theorem open_rcells {H : Type} {enc : TypeId × Value → H} {W : World} {base : Nat} {sp : Nat → Bool} {held : Bool} {fuel : Nat} {cs : List Value} {x : DataW H × List MemPlace}
    (hlen : cs.length = 7) (hf : DataW.trod enc Tryz.prog W base sp held fuel 65 cs = some x) : ∃ r : G.AR, cs = r.cells ∧ G.RawR W r := by
  match cs, hlen with
  | [c0, c1, c2, c3, c4, c5, c6], _ =>
  obtain ⟨xs, n, _, _, _, hlen, hall⟩ := DataW.trod_struct Tryz.underlying65 hf
  match xs, hlen with
  | [y0, y1, y2, y3, y4, y5, y6], _ =>
    have k3 : Tryz.prog.cellsOf 3 = 1 := by kernel_rfl
    have k9 : Tryz.prog.cellsOf 9 = 1 := by kernel_rfl
    have ks : Tryz.prog.cellsOf 62 = 1 := by kernel_rfl
    have ku : Tryz.prog.cellsOf 63 = 1 := by kernel_rfl
    have g0 : DataW.trod enc Tryz.prog W base sp held n 3 [c0] = some y0 := by have g := hall 0 _ rfl; simpa [k3] using g
    have g1 : DataW.trod enc Tryz.prog W base sp held n 62 [c1] = some y1 := by have g := hall 1 _ rfl; simpa [ks] using g
    have g2 : DataW.trod enc Tryz.prog W base sp held n 9 [c2] = some y2 := by have g := hall 2 _ rfl; simpa [k9] using g
    have g3 : DataW.trod enc Tryz.prog W base sp held n 9 [c3] = some y3 := by have g := hall 3 _ rfl; simpa [k9] using g
    have g4 : DataW.trod enc Tryz.prog W base sp held n 9 [c4] = some y4 := by have g := hall 4 _ rfl; simpa [k9] using g
    have g5 : DataW.trod enc Tryz.prog W base sp held n 9 [c5] = some y5 := by have g := hall 5 _ rfl; simpa [k9] using g
    have g6 : DataW.trod enc Tryz.prog W base sp held n 63 [c6] = some y6 := by have g := hall 6 _ rfl; simpa [ku] using g
    obtain ⟨a, e0, _, w0⟩ := DataW.trod_int Tryz.underlying3 g0
    obtain ⟨p, c, ss, rfl, hss, hsl, hsz'⟩ := open_sso g1
    obtain ⟨se, e2, _, w2⟩ := DataW.trod_string Tryz.underlying9 g2
    obtain ⟨re, e3, _, w3⟩ := DataW.trod_string Tryz.underlying9 g3
    obtain ⟨ta, e4, _, w4⟩ := DataW.trod_string Tryz.underlying9 g4
    obtain ⟨rp, e5, _, w5⟩ := DataW.trod_string Tryz.underlying9 g5
    obtain ⟨mo, e6, _, w6⟩ := DataW.trod_int Tryz.underlying63 g6
    simp only [List.cons.injEq, and_true] at e0 e2 e3 e4 e5 e6
    subst e0 e2 e3 e4 e5 e6
    unfold maxLen at w2 w3 w4 w5
    simp only [Lit.wf, Bool.and_eq_true, decide_eq_true_eq] at w0 w6
    have u0 : IntKind.u64.min = 0 := rfl
    have u1 : IntKind.u64.max = 18446744073709551615 := rfl
    exact ⟨⟨a, p, ss.length, c, se, re, ta, rp, mo⟩, rfl, ⟨w0, ⟨ss, rfl, hss, hsl, hsz'⟩, by show se.size ≤ _; omega, by show re.size ≤ _; omega, by show ta.size ≤ _; omega, by show rp.size ≤ _; omega, by show 0 ≤ mo ∧ mo < _; omega⟩⟩

set_option maxRecDepth 100000 in
theorem open_rlo {H : Type} {enc : TypeId × Value → H} {W : World} {r : Reach} {b0 base : Nat} {sp : Nat → Bool} {held : Bool} {v : Value} {d : DataW H} {ps : List MemPlace}
    (hv : Value.okWide Tryz.prog W r b0 31 v) (h : DataW.Trod enc Tryz.prog W base sp held 31 v d ps) :
    ∃ p c rl, v = .slice p rl.length c ∧ G.RLo W p rl ∧ rl.length ≤ 9223372036854775807 := by
  obtain ⟨a0, len0, cap0, rfl⟩ := okWide_slice Tryz.underlying31 hv
  obtain ⟨fuel, hf⟩ := h
  rcases Deep.open_slice Tryz.underlying31 hf with ⟨hcs, _⟩ | ⟨a, len, cap, m, n, D, Pl, hcs, _, hl, hm, hmm, _, hcell⟩
  · simp only [Value.cells, List.cons.injEq, and_true] at hcs
    exact ⟨none, 0, [], hcs, fun j s hs => by simp at hs, by simp⟩
  · simp only [Value.cells, List.cons.injEq, and_true] at hcs
    have hlm : len ≤ m := by rw [hmm]; split <;> omega
    rw [show Tryz.prog.cellsOf 65 = 7 by kernel_rfl] at hcell
    have key : ∀ i, i < len → ∃ r : G.AR, (∀ o, o < 7 → W.cell? ((a.add (i * 7)).add o) = r.cells[o]?) ∧ G.RawR W r := fun i hi => by
      obtain ⟨cs', h1, h2⟩ := hcell i (by omega)
      obtain ⟨_, hlen, hc⟩ := World.cells?_some h1
      obtain ⟨r, hr, hraw⟩ := open_rcells hlen h2
      refine ⟨r, fun o ho => ?_, hraw⟩
      rw [← hr]
      exact hc o ho
    let L : Nat → G.AR := fun i => if h : i < len then Classical.choose (key i h) else ⟨0, none, 0, 0, ⟨#[]⟩, ⟨#[]⟩, ⟨#[]⟩, ⟨#[]⟩, 0⟩
    have hL : ∀ i, i < len → (∀ o, o < 7 → W.cell? ((a.add (i * 7)).add o) = (L i).cells[o]?) ∧ G.RawR W (L i) := fun i hi => by
      have h9 := Classical.choose_spec (key i hi)
      have e : L i = Classical.choose (key i hi) := by show (if h : i < len then _ else _) = _; rw [dif_pos hi]
      rw [e]; exact h9
    refine ⟨some a, cap, (List.range len).map L, by rw [List.length_map, List.length_range]; exact hcs, fun j r hjl => ?_, by rw [List.length_map, List.length_range]; unfold maxLen at hm; omega⟩
    rw [List.getElem?_map] at hjl
    have hj : j < len := by
      rcases Nat.lt_or_ge j len with h9 | h9
      · exact h9
      · rw [List.getElem?_eq_none (by simpa using h9)] at hjl; cases hjl
    rw [List.getElem?_range hj] at hjl
    simp only [Option.map_some, Option.some.injEq] at hjl
    subst hjl
    obtain ⟨hc, hraw⟩ := hL j hj
    refine ⟨?_, hraw⟩
    obtain ⟨b, off, spot⟩ := a
    have hc0 : W.cell? (((⟨b, off, spot⟩ : Addr).add (j * 7)).add 0) = some (.int .i64 (L j).act) := hc 0 (by omega)
    have hspot : spot = none := by
      have hz : W.cell? (((⟨b, off, spot⟩ : Addr).add (0 * 7)).add 0) = some (.int .i64 (L 0).act) := (hL 0 (by omega)).1 0 (by omega)
      have := World.cell?_spot hz
      simpa [Addr.add] using this
    subst hspot
    rw [add_plain, add_plain] at hc0
    refine ⟨b, off, rfl, G.lt_of_cell hc0, fun o ho => ?_⟩
    have h9 := hc o ho
    rw [add_plain, add_plain] at h9
    exact h9
end Go.Proofs.YtcbiidoebpkifaaGreatDoor

/- A start at which retagkeep.Sorted may be called. -/
namespace Go.Proofs.YtcbiidoebpkifaaGreatDoor
open Go.ChangeShapes Go.WideShapes Go.ChangeAt Go.ChangeMaps Go.RowKit

theorem own : ownKnob Tryz.prog.godebug = none := by kernel_rfl

set_option maxRecDepth 100000 in
theorem start_fits (os : Os) (H : Type) (enc : TypeId × Value → H) : ∃ w0 : World, w0.os = os ∧ (w0.forCall (fun _ _ => 0) ⟨#[], #[.slice none 0 0, .slice none 0 0], []⟩).Shaped Tryz.prog ∧
    Input.okWideB Tryz.prog (w0.forCall (fun _ _ => 0) ⟨#[], #[.slice none 0 0, .slice none 0 0], []⟩) 4 ⟨#[], #[.slice none 0 0, .slice none 0 0], []⟩ = true ∧
    Rows.sortedSpec.preB enc Tryz.prog Tryz.f4 [] false (w0.forCall (fun _ _ => 0) ⟨#[], #[.slice none 0 0, .slice none 0 0], []⟩).memory #[.slice none 0 0, .slice none 0 0] 8 = true ∧
    Rows.sortedSpec.sizedB enc Tryz.prog Tryz.f4 false (w0.forCall (fun _ _ => 0) ⟨#[], #[.slice none 0 0, .slice none 0 0], []⟩).memory #[.slice none 0 0, .slice none 0 0] 8 = true ∧
    laidMetH Tryz.prog Rows.sortedRow.laid (w0.forCall (fun _ _ => 0) ⟨#[], #[.slice none 0 0, .slice none 0 0], []⟩).memory := by
  refine ⟨{ World.doorLaid Tryz.prog 400 os with heap := (World.doorLaid Tryz.prog 400 os).heap.modify 2 fun
      | .cells _ t frozen => .cells ⟨Go.Pinned.utf8FirstZ.map fun (z : Nat) => .int .u8 (z : Int)⟩ t frozen
      | o => o }, rfl, World.shaped_of_RefB (by kernel_rfl) (by kernel_rfl), by kernel_rfl, by kernel_rfl, by kernel_rfl, ?_⟩
  exact laidMetH_of_parts3 (fuel := 8) (laidMet_of_run' 8 (by kernel_rfl) (by kernel_rfl)) (by kernel_rfl) (by kernel_rfl)


theorem sorted_list {W : World} (h : laidMetH Tryz.prog Rows.sortedRow.laid W) : ∃ x : G.EV, G.Pre W x := by
  rw [MakeChecks.laidMetH_plain _ _ _ (by kernel_rfl)] at h
  obtain ⟨x, hx⟩ := ev_of_reads (Lib.laidMet.reads h (n := "retag/regex.errForm") (d := Rows.laid_retag_regex_errForm) (by simp [Rows.sortedRow]))
  exact ⟨x, ub_of_reads (Lib.laidMet.reads h (n := "retag/rule.usedBy") (d := Rows.laid_retag_rule_usedBy) (by simp [Rows.sortedRow])),
    ⟨gl_of_reads (Lib.laidMet.reads h (n := "unicode/utf8.first") (d := Rows.laid_unicode_utf8_first) (by simp [Rows.sortedRow])) (Lib.laidMet.reads h (n := "unicode/utf8.acceptRanges") (d := Rows.laid_unicode_utf8_acceptRanges) (by simp [Rows.sortedRow])), pt_of_reads (Lib.laidMet.reads h (n := "internal/strconv.uint64pow10") (d := Rows.laid_internal_strconv_uint64pow10) (by simp [Rows.sortedRow]))⟩, hx⟩
end Go.Proofs.YtcbiidoebpkifaaGreatDoor
