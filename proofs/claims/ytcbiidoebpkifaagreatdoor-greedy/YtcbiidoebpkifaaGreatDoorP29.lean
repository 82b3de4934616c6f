/- H1 H2 H3 T15b Z1 Z2 H4 GreedyA, one behind the other. -/
import Derived.Test.YtcbiidoebpkifaaGreatDoorP24
import Derived.Test.YtcbiidoebpkifaaGreatDoorP05
import Derived.Lib.LaidU8
import Derived.Test.YtcbiidoebpkifaaGreatDoorRows
import Derived.Test.YtcbiidoebpkifaaGreatDoorP27
import Derived.ProofKit
import Derived.MakeChecks
import Derived.OpenShut
import Derived.SliceStrings
import Derived.Deep.SlicePairs
import Derived.Carry
import Derived.Deep.DeepCutAuto
import Derived.Deep.CutBlock
import Derived.Deep.Slices
import Derived.Test.YtcbiidoebpkifaaGreatDoorCards
import Derived.Test.YtcbiidoebpkifaaGreatDoorTie
import Derived.Test.YtcbiidoebpkifaaGreatDoorJ5
import Derived.LaidMore
import Derived.Stop.Joined
set_option linter.unusedVariables false
set_option linter.unusedSimpArgs false
/- What a row's list gives: the table of the actions, the value by which the reader gives up. -/
namespace Go.Proofs.YtcbiidoebpkifaaGreatDoor
open Go.RowKit

theorem iface_of {H : Type} {enc : TypeId × Value → H} {P : Program} {w : World} {base : Nat} {sp : Nat → Bool} {held : Bool} {fuel : Nat} {t : TypeId} {cs : List Value} {n : String} {d : DataW H} {p : List MemPlace} (ht : ∃ ms, P.underlying t = some (.interface ms))
    (h : DataW.trod enc P w base sp held fuel t cs = some (.iface n d, p)) : ∃ u v, cs = [.iface u v] := by
  obtain ⟨ms, ht⟩ := ht
  cases fuel with
  | zero => simp [DataW.trod] at h
  | succ fuel =>
    unfold DataW.trod at h
    rw [ht] at h
    split at h <;> first | cases h | (rename_i heq; exact ⟨_, _, rfl⟩) | simp_all
end Go.Proofs.YtcbiidoebpkifaaGreatDoor

/- From a row's list to the table of the actions and the value by which the reader gives up. -/
namespace Go.Proofs.YtcbiidoebpkifaaGreatDoor
open Go.RowKit

theorem ev_of_reads {W : World} (h : Lib.VarReads Tryz.prog W "retag/regex.errForm" Rows.laid_retag_regex_errForm) : ∃ x : G.EV, W.cell? ⟨0, 0, none⟩ = some (.iface x.1 x.2) := by
  obtain ⟨g, t, cs, fuel, p, hg, hty, hvar, hd⟩ := h
  obtain rfl : g = 0 := (Option.some.inj ((show Tryz.prog.globalNamed "retag/regex.errForm" = some 0 by kernel_rfl).symm.trans hg)).symm
  obtain rfl : t = 125 := (Option.some.inj ((show (Tryz.prog.globals[0]?).map (·.type) = some 125 by kernel_rfl).symm.trans hty)).symm
  obtain ⟨u, v, hcs⟩ := iface_of ⟨_, Tryz.underlying125⟩ hd
  refine ⟨(u, v), ?_⟩
  rw [World.var?_cell hg hvar 0, ← Array.getElem?_toList, hcs]
  rfl
end Go.Proofs.YtcbiidoebpkifaaGreatDoor

/- A rule and labels among the arguments: opened. -/
namespace Go.Proofs.YtcbiidoebpkifaaGreatDoor
open Go.ChangeShapes Go.WideShapes Go.ChangeAt Go.ChangeMaps Go.RowKit

set_option maxRecDepth 100000 in
theorem first_eq : Rows.laid_unicode_utf8_first = Lib.firstData := by kernel_rfl
set_option maxRecDepth 100000 in
theorem accept_eq : (Rows.laid_unicode_utf8_acceptRanges : DataW Unit) = Lib.acceptData := by kernel_rfl
set_option maxRecDepth 100000 in
theorem gl_of_reads {W : World} (h1 : Lib.VarReads Tryz.prog W "unicode/utf8.first" Rows.laid_unicode_utf8_first) (h2 : Lib.VarReads Tryz.prog W "unicode/utf8.acceptRanges" Rows.laid_unicode_utf8_acceptRanges) : Lib.Utf8Tabs 2 3 W := by
  rw [accept_eq] at h2
  rw [first_eq] at h1
  exact utf8Tabs_of_reads Tryz.lays260 ⟨by kernel_rfl, by kernel_rfl, by kernel_rfl, by kernel_rfl, by kernel_rfl, by kernel_rfl, by kernel_rfl⟩ h1 h2

end Go.Proofs.YtcbiidoebpkifaaGreatDoor

/- The statements' own rules: the first action. -/
namespace Go.Proofs.YtcbiidoebpkifaaGreatDoor.G
open Go.RowKit

end Go.Proofs.YtcbiidoebpkifaaGreatDoor.G

/- The statements' own rules, whatever the action. -/
namespace Go.Proofs.YtcbiidoebpkifaaGreatDoor.G
open Go.RowKit

def srcB (k : Nat) : Bool := decide (k < 6) || decide (8 < k)
def rgB (k : Nat) : Bool := decide (k < 3) || (decide (6 ≤ k) && decide (k ≤ 8))
def tgB (k : Nat) : Bool := decide (k ≠ 1) && decide (k ≠ 2) && srcB k
def rpB (k : Nat) : Bool := decide (k = 0) || decide (k = 6)
structure RuleK (w : World) (k : Nat) (p : Option Addr) (c : Nat) (ss : List ByteArray) (se re ta rp : ByteArray) (mo : Int) : Prop where
  k10 : k ≤ 10
  row : SS w (.slice p ss.length c) ss
  len : ss.length ≤ 3
  nam : ∀ s ∈ ss, nameB s = true
  sep : se.size ≤ 3
  src : srcB k = false → ss = [] ∧ se = ⟨#[]⟩
  pat : if rgB k then re ∈ pats else re = ⟨#[]⟩
  tgt : if tgB k then nameB ta = true else ta = ⟨#[]⟩
  rep : if rpB k then rp ∈ texts else rp = ⟨#[]⟩
  mod : if k = 5 then 1 ≤ mo ∧ mo ≤ 1000 else mo = 0
end Go.Proofs.YtcbiidoebpkifaaGreatDoor.G

/- The statements' own lists of rules. -/
namespace Go.Proofs.YtcbiidoebpkifaaGreatDoor.G
open Go.RowKit

structure RawR (w : World) (r : AR) : Prop where
  ac : -9223372036854775808 ≤ r.act ∧ r.act ≤ 9223372036854775807
  ss : ∃ ss : List ByteArray, r.n = ss.length ∧ SSo w r.p ss ∧ ss.length ≤ 9223372036854775807 ∧ ∀ s ∈ ss, s.size ≤ 9223372036854775807
  se : r.se.size ≤ 9223372036854775807
  re : r.re.size ≤ 9223372036854775807
  ta : r.ta.size ≤ 9223372036854775807
  rp : r.rp.size ≤ 9223372036854775807
  mo : 0 ≤ r.mo ∧ r.mo < 18446744073709551616
theorem RawR.ex {w w' : World} {r : AR} (h : RawR w r) (hx : Ex [] w w') : RawR w' r := by
  obtain ⟨ss, h1, h2, h3, h4⟩ := h.ss
  exact ⟨h.ac, ⟨ss, h1, h2.ex hx (by simp), h3, h4⟩, h.se, h.re, h.ta, h.rp, h.mo⟩
def RuleR (w : World) (r : AR) : Prop := ∃ (k : Nat) (ss : List ByteArray), r.act = (k : Int) ∧ r.n = ss.length ∧ RuleK w k r.p r.c ss r.se r.re r.ta r.rp r.mo
theorem RuleK.ex {w w' : World} {k : Nat} {p : Option Addr} {c : Nat} {ss : List ByteArray} {se re ta rp : ByteArray} {mo : Int} (h : RuleK w k p c ss se re ta rp mo) (hx : Ex [] w w') : RuleK w' k p c ss se re ta rp mo :=
  ⟨h.k10, h.row.ex0 hx, h.len, h.nam, h.sep, h.src, h.pat, h.tgt, h.rep, h.mod⟩
theorem RuleR.ex {w w' : World} {r : AR} (h : RuleR w r) (hx : Ex [] w w') : RuleR w' r := by
  obtain ⟨k, ss, h1, h2, h3⟩ := h
  exact ⟨k, ss, h1, h2, h3.ex hx⟩
end Go.Proofs.YtcbiidoebpkifaaGreatDoor.G

/- Lists of rules among a row's arguments; the library's table of powers. -/
namespace Go.Proofs.YtcbiidoebpkifaaGreatDoor
open Go.ChangeShapes Go.WideShapes Go.ChangeAt Go.ChangeMaps Go.RowKit

set_option maxRecDepth 100000 in
theorem pow10_eq : (Rows.laid_internal_strconv_uint64pow10 : DataW Unit) = Lib.tabData .u64 Lib.pow10Tab := by kernel_rfl
theorem pt_of_reads {W : World} (h : Lib.VarReads Tryz.prog W "internal/strconv.uint64pow10" Rows.laid_internal_strconv_uint64pow10) : G.PT W := by
  rw [pow10_eq] at h
  obtain ⟨g, t, cs, fuel, p, hg, ht, hvar, hd⟩ := h
  have e1 : g = 7 := Option.some.inj (hg.symm.trans G.pow10_at)
  subst e1
  obtain rfl := Option.some.inj ((show (Tryz.prog.globals[7]?).map (·.type) = some 264 by kernel_rfl).symm.trans ht)
  unfold G.PT Lib.TabIs
  rw [hvar, ← Lib.cells_of_tab Tryz.underlying264 Tryz.underlying63 (by kernel_rfl) (by kernel_rfl) hd]
end Go.Proofs.YtcbiidoebpkifaaGreatDoor

/- A start at which retagkeep.Greedy may be called. -/
namespace Go.Proofs.YtcbiidoebpkifaaGreatDoor
open Go.ChangeShapes Go.WideShapes Go.ChangeAt Go.ChangeMaps Go.RowKit

theorem own : ownKnob Tryz.prog.godebug = none := by kernel_rfl

set_option maxRecDepth 100000 in
theorem start_fits (os : Os) (H : Type) (enc : TypeId × Value → H) : ∃ w0 : World, w0.os = os ∧ (w0.forCall (fun _ _ => 0) ⟨#[], #[.int .i64 0, .string ⟨#[]⟩], []⟩).Shaped Tryz.prog ∧
    Input.okWideB Tryz.prog (w0.forCall (fun _ _ => 0) ⟨#[], #[.int .i64 0, .string ⟨#[]⟩], []⟩) 3 ⟨#[], #[.int .i64 0, .string ⟨#[]⟩], []⟩ = true ∧
    Rows.greedySpec.preB enc Tryz.prog Tryz.f3 [] false (w0.forCall (fun _ _ => 0) ⟨#[], #[.int .i64 0, .string ⟨#[]⟩], []⟩).memory #[.int .i64 0, .string ⟨#[]⟩] 8 = true ∧
    Rows.greedySpec.sizedB enc Tryz.prog Tryz.f3 false (w0.forCall (fun _ _ => 0) ⟨#[], #[.int .i64 0, .string ⟨#[]⟩], []⟩).memory #[.int .i64 0, .string ⟨#[]⟩] 8 = true ∧
    laidMetH Tryz.prog Rows.greedyRow.laid (w0.forCall (fun _ _ => 0) ⟨#[], #[.int .i64 0, .string ⟨#[]⟩], []⟩).memory := by
  refine ⟨{ World.doorLaid Tryz.prog 400 os with heap := (World.doorLaid Tryz.prog 400 os).heap.modify 2 fun
      | .cells _ t frozen => .cells ⟨Go.Pinned.utf8FirstZ.map fun (z : Nat) => .int .u8 (z : Int)⟩ t frozen
      | o => o }, rfl, World.shaped_of_RefB (by kernel_rfl) (by kernel_rfl), by kernel_rfl, by kernel_rfl, by kernel_rfl, ?_⟩
  exact laidMetH_of_parts3 (fuel := 8) (laidMet_of_run' 8 (by kernel_rfl) (by kernel_rfl)) (by kernel_rfl) (by kernel_rfl)


theorem wf_i64 {a : Int} (h : (Lit.int .i64 a).wf = true) : -9223372036854775808 ≤ a ∧ a ≤ 9223372036854775807 := by
  simp only [Lit.wf, Bool.and_eq_true, decide_eq_true_eq] at h
  exact h

theorem greedy_list {W : World} (h : laidMetH Tryz.prog Rows.greedyRow.laid W) : ∃ x : G.EV, W.cell? ⟨0, 0, none⟩ = some (.iface x.1 x.2) ∧ G.GL W := by
  rw [MakeChecks.laidMetH_plain _ _ _ (by kernel_rfl)] at h
  obtain ⟨x, hx⟩ := ev_of_reads (Lib.laidMet.reads h (n := "retag/regex.errForm") (d := Rows.laid_retag_regex_errForm) (by simp [Rows.greedyRow]))
  exact ⟨x, hx, gl_of_reads (Lib.laidMet.reads h (n := "unicode/utf8.first") (d := Rows.laid_unicode_utf8_first) (by simp [Rows.greedyRow])) (Lib.laidMet.reads h (n := "unicode/utf8.acceptRanges") (d := Rows.laid_unicode_utf8_acceptRanges) (by simp [Rows.greedyRow])), pt_of_reads (Lib.laidMet.reads h (n := "internal/strconv.uint64pow10") (d := Rows.laid_internal_strconv_uint64pow10) (by simp [Rows.greedyRow]))⟩
end Go.Proofs.YtcbiidoebpkifaaGreatDoor
