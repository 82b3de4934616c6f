/- L26 H1 H2 T13b H3 PatternsA, one behind the other. -/
import Derived.Test.YtgmjjhmnchefbaaGreatDoorM44
import Derived.Test.YtgmjjhmnchefbaaGreatDoorM42
import Derived.Test.YtgmjjhmnchefbaaGreatDoorM07
import Derived.Lib.LaidU8
import Derived.Test.YtgmjjhmnchefbaaGreatDoorRows
import Derived.ProofKit
import Derived.MakeChecks
import Derived.OpenShut
import Derived.SliceStrings
import Derived.Deep.SlicePairs
import Derived.Carry
import Derived.Test.YtgmjjhmnchefbaaGreatDoorCards
import Derived.Test.YtgmjjhmnchefbaaGreatDoorTie
import Derived.LaidMore
import Derived.Stop.Joined
set_option linter.unusedVariables false
set_option linter.unusedSimpArgs false
/- retaglaw.Patterns: of every text both readers say alike whether it is a pattern, and the place. -/
namespace Go.Proofs.YtgmjjhmnchefbaaGreatDoor.G
open Go.RowKit

set_option maxHeartbeats 1000000 in
theorem num_any (x : Int) (w : World) : Calls Tryz.prog 7 #[.int .i64 x] w fun e w' => e = .returned (.int .i64 x) ∧ w' = w := by
  go_enter Tryz.func7, Tryz.ntmps7
  go_wp2_with fail
  go_ret
  exact ⟨rfl, rfl⟩
set_option maxHeartbeats 4000000 in
set_option maxRecDepth 100000 in
theorem patterns_any (t : ByteArray) (x : EV) (w : World) (hev : w.cell? ⟨0, 0, none⟩ = some (.iface x.1 x.2)) (hg : Lib.Utf8Tabs 2 3 w) :
    Calls Tryz.prog 3 #[.string t] w fun e w' => e = .returned (.bool true) ∧ Ex [] w w' := by
  cases hP : placeM t with
  | some k =>
    have KM := hide (RMatch_refused t ⟨#[]⟩ x k w hev hP)
    have HP := hide hP
    clear hev hg hP
    go_enter Tryz.func3, Tryz.ntmps3
    go_wp2_with fail
    refine KM.out.mono ?_
    rintro e w1 ⟨rfl, hx1⟩
    have X1 := hide hx1
    clear hx1
    go_wp2_with fail
    refine (Read_any t w1).mono ?_
    rintro e w2 ⟨hp2, hx2⟩
    unfold ReadPost at hp2
    rw [HP.out] at hp2
    obtain rfl := hp2
    have X2 := hide (X1.out.trans hx2)
    clear hx2
    go_wp2_with fail
    refine (num_any 4 w2).mono ?_
    rintro e w3 ⟨rfl, rfl⟩
    go_wp2_with fail
    go_ret
    exact ⟨rfl, X2.out⟩
  | none =>
    have KM := hide (RMatch_tb t ⟨#[]⟩ x w hev (place_good hP) hg (by decide))
    have HP := hide hP
    clear hev hg hP
    go_enter Tryz.func3, Tryz.ntmps3
    go_wp2_with fail
    refine KM.out.mono ?_
    rintro e w1 ⟨hp1, hx1⟩
    have X1 := hide hx1
    have hR : ∃ v b, e = .returned (.tuple #[v, .bool b, .int .i64 0, .int .i64 0]) := by
      revert hp1
      unfold RMPost
      cases matchM (patC t) ⟨#[]⟩ with
      | none => exact fun h => ⟨_, _, h⟩
      | some sl => rintro ⟨v, h, _⟩; exact ⟨_, _, h⟩
    obtain ⟨v, b, rfl⟩ := hR
    clear hx1 hp1
    go_wp2_with fail
    refine (Read_any t w1).mono ?_
    rintro e w2 ⟨hp2, hx2⟩
    unfold ReadPost at hp2
    rw [HP.out] at hp2
    obtain ⟨pb, rfl⟩ := hp2
    have X2 := hide (X1.out.trans hx2)
    clear hx2
    go_wp2_with fail
    refine (num_any 0 w2).mono ?_
    rintro e w3 ⟨rfl, rfl⟩
    go_wp2_with fail
    go_ret
    exact ⟨rfl, X2.out⟩
end Go.Proofs.YtgmjjhmnchefbaaGreatDoor.G

/- What a row's list gives: the table of the actions, the value by which the reader gives up. -/
namespace Go.Proofs.YtgmjjhmnchefbaaGreatDoor
open Go.RowKit

theorem iface_of {H : Type} {enc : TypeId × Value → H} {P : Program} {w : World} {base : Nat} {sp : Nat → Bool} {held : Bool} {fuel : Nat} {t : TypeId} {cs : List Value} {n : String} {d : DataW H} {p : List MemPlace} (ht : ∃ ms, P.underlying t = some (.interface ms))
    (h : DataW.trod enc P w base sp held fuel t cs = some (.iface n d, p)) : ∃ u v, cs = [.iface u v] := by
  obtain ⟨ms, ht⟩ := ht
  cases fuel with
  | zero => simp [DataW.trod] at h
  | succ fuel =>
    unfold DataW.trod at h
    rw [ht] at h
    split at h <;> first | cases h | (rename_i heq; exact ⟨_, _, rfl⟩) | simp_all
end Go.Proofs.YtgmjjhmnchefbaaGreatDoor

/- From a row's list to the table of the actions and the value by which the reader gives up. -/
namespace Go.Proofs.YtgmjjhmnchefbaaGreatDoor
open Go.RowKit

theorem ev_of_reads {W : World} (h : Lib.VarReads Tryz.prog W "retag/regex.errForm" Rows.laid_retag_regex_errForm) : ∃ x : G.EV, W.cell? ⟨0, 0, none⟩ = some (.iface x.1 x.2) := by
  obtain ⟨g, t, cs, fuel, p, hg, hty, hvar, hd⟩ := h
  obtain rfl : g = 0 := (Option.some.inj ((show Tryz.prog.globalNamed "retag/regex.errForm" = some 0 by kernel_rfl).symm.trans hg)).symm
  obtain rfl : t = 130 := (Option.some.inj ((show (Tryz.prog.globals[0]?).map (·.type) = some 130 by kernel_rfl).symm.trans hty)).symm
  obtain ⟨u, v, hcs⟩ := iface_of ⟨_, Tryz.underlying130⟩ hd
  refine ⟨(u, v), ?_⟩
  rw [World.var?_cell hg hvar 0, ← Array.getElem?_toList, hcs]
  rfl
end Go.Proofs.YtgmjjhmnchefbaaGreatDoor

/- Slices that are handed in: they may begin anywhere in their block. -/
namespace Go.Proofs.YtgmjjhmnchefbaaGreatDoor.G
open Go.RowKit

def SSo (w : World) (p : Option Addr) (ss : List ByteArray) : Prop := ∀ (j : Nat) (s : ByteArray), ss[j]? = some s → ∃ b o, p = some ⟨b, o, none⟩ ∧ b < w.heap.size ∧ w.cell? ⟨b, o + j, none⟩ = some (.string s)
def SLo (w : World) (p : Option Addr) (ls : List Lab) : Prop := ∀ (j : Nat) (l : Lab), ls[j]? = some l → ∃ b o, p = some ⟨b, o, none⟩ ∧ b < w.heap.size ∧ w.cell? ⟨b, o + j * 2, none⟩ = some (.string l.1) ∧ w.cell? ⟨b, o + j * 2 + 1, none⟩ = some (.string l.2)
theorem SSo.ex {w w' : World} {p : Option Addr} {ss : List ByteArray} {o : List Nat} (h : SSo w p ss) (hx : Ex o w w') (hn : ∀ y ∈ o, w.heap.size ≤ y) : SSo w' p ss := fun j s hs => by
  obtain ⟨b, off, h1, h2, h3⟩ := h j s hs
  exact ⟨b, off, h1, Nat.lt_of_lt_of_le h2 hx.size, (hx.cell.1 b _ h2 (fun hb => by have := hn b hb; omega)).trans h3⟩
theorem SLo.ex {w w' : World} {p : Option Addr} {ls : List Lab} (h : SLo w p ls) (hx : Ex [] w w') : SLo w' p ls := fun j l hl => by
  obtain ⟨b, off, h1, h2, h3, h4⟩ := h j l hl
  exact ⟨b, off, h1, Nat.lt_of_lt_of_le h2 hx.size, (hx.cell0.1 b _ h2).trans h3, (hx.cell0.1 b _ h2).trans h4⟩
end Go.Proofs.YtgmjjhmnchefbaaGreatDoor.G

/- A rule and labels among the arguments: opened. -/
namespace Go.Proofs.YtgmjjhmnchefbaaGreatDoor
open Go.ChangeShapes Go.WideShapes Go.ChangeAt Go.ChangeMaps Go.RowKit

set_option maxRecDepth 100000 in
theorem first_eq : Rows.laid_unicode_utf8_first = Lib.firstData := by kernel_rfl
set_option maxRecDepth 100000 in
theorem accept_eq : (Rows.laid_unicode_utf8_acceptRanges : DataW Unit) = Lib.acceptData := by kernel_rfl
set_option maxRecDepth 100000 in
theorem gl_of_reads {W : World} (h1 : Lib.VarReads Tryz.prog W "unicode/utf8.first" Rows.laid_unicode_utf8_first) (h2 : Lib.VarReads Tryz.prog W "unicode/utf8.acceptRanges" Rows.laid_unicode_utf8_acceptRanges) : Lib.Utf8Tabs 2 3 W := by
  rw [accept_eq] at h2
  rw [first_eq] at h1
  exact utf8Tabs_of_reads Tryz.lays260 ⟨by kernel_rfl, by kernel_rfl, by kernel_rfl, by kernel_rfl, by kernel_rfl, by kernel_rfl, by kernel_rfl⟩ h1 h2

end Go.Proofs.YtgmjjhmnchefbaaGreatDoor

/- A start at which retaglaw.Patterns may be called. -/
namespace Go.Proofs.YtgmjjhmnchefbaaGreatDoor
open Go.ChangeShapes Go.WideShapes Go.ChangeAt Go.ChangeMaps Go.RowKit

theorem own : ownKnob Tryz.prog.godebug = none := by kernel_rfl

set_option maxRecDepth 100000 in
theorem start_fits (os : Os) (H : Type) (enc : TypeId × Value → H) : ∃ w0 : World, w0.os = os ∧ (w0.forCall (fun _ _ => 0) ⟨#[], #[.string ⟨#[]⟩], []⟩).Shaped Tryz.prog ∧
    Input.okWideB Tryz.prog (w0.forCall (fun _ _ => 0) ⟨#[], #[.string ⟨#[]⟩], []⟩) 3 ⟨#[], #[.string ⟨#[]⟩], []⟩ = true ∧
    Rows.patternsSpec.preB enc Tryz.prog Tryz.f3 [] false (w0.forCall (fun _ _ => 0) ⟨#[], #[.string ⟨#[]⟩], []⟩).memory #[.string ⟨#[]⟩] 8 = true ∧
    Rows.patternsSpec.sizedB enc Tryz.prog Tryz.f3 false (w0.forCall (fun _ _ => 0) ⟨#[], #[.string ⟨#[]⟩], []⟩).memory #[.string ⟨#[]⟩] 8 = true ∧
    laidMetH Tryz.prog Rows.patternsRow.laid (w0.forCall (fun _ _ => 0) ⟨#[], #[.string ⟨#[]⟩], []⟩).memory := by
  refine ⟨{ World.doorLaid Tryz.prog 400 os with heap := (World.doorLaid Tryz.prog 400 os).heap.modify 2 fun
      | .cells _ t frozen => .cells ⟨Go.Pinned.utf8FirstZ.map fun (z : Nat) => .int .u8 (z : Int)⟩ t frozen
      | o => o }, rfl, World.shaped_of_RefB (by kernel_rfl) (by kernel_rfl), by kernel_rfl, by kernel_rfl, by kernel_rfl, ?_⟩
  exact laidMetH_of_parts3 (fuel := 8) (laidMet_of_run' 8 (by kernel_rfl) (by kernel_rfl)) (by kernel_rfl) (by kernel_rfl)


theorem patterns_list {W : World} (h : laidMetH Tryz.prog Rows.patternsRow.laid W) : ∃ x : G.EV, W.cell? ⟨0, 0, none⟩ = some (.iface x.1 x.2) ∧ Lib.Utf8Tabs 2 3 W := by
  rw [MakeChecks.laidMetH_plain _ _ _ (by kernel_rfl)] at h
  obtain ⟨x, hx⟩ := ev_of_reads (Lib.laidMet.reads h (n := "retag/regex.errForm") (d := Rows.laid_retag_regex_errForm) (by simp [Rows.patternsRow]))
  exact ⟨x, hx, gl_of_reads (Lib.laidMet.reads h (n := "unicode/utf8.first") (d := Rows.laid_unicode_utf8_first) (by simp [Rows.patternsRow])) (Lib.laidMet.reads h (n := "unicode/utf8.acceptRanges") (d := Rows.laid_unicode_utf8_acceptRanges) (by simp [Rows.patternsRow]))⟩
end Go.Proofs.YtgmjjhmnchefbaaGreatDoor
