/- G17 F12 F17, one behind the other. -/
import Derived.Test.YtmeffeigamaipabGreatDoorM33
import Derived.Test.YtmeffeigamaipabGreatDoorM43
import Derived.Test.YtmeffeigamaipabGreatDoorM20
import Derived.Test.YtmeffeigamaipabGreatDoorM21
set_option linter.unusedVariables false
set_option linter.unusedSimpArgs false
/- regex.Read at a text that is no pattern, and at one byte that stands for itself. -/
namespace Go.Proofs.YtmeffeigamaipabGreatDoor.G
open Go.RowKit

set_option maxHeartbeats 1000000 in
set_option maxRecDepth 100000 in
theorem gRead_bad {w : World} {t : ByteArray} {x : EV} {s : RS} (hev : w.cell? ⟨1, 0, none⟩ = some (.iface x.1 x.2)) (ht : t.size ≤ 60) (hnp : NP t) (hb : readM t = .bad s) :
    Calls Tryz.prog 56 #[.string t] w fun e w' => e = .returned (.tuple #[.pointer none, .int .i64 (s.k : Int), .bool false]) ∧ Ex [] w w' := by
  have HEV := hide hev
  have HNP := hide hnp
  have HB := hide hb
  have ht' : ¬ (t.size : Int) > 60 := by omega
  clear hev hnp hb
  go_enter Tryz.func56, Tryz.ntmps56
  go_wp2_with fail
  refine (gReadForm HEV.out ht HNP.out).mono ?_
  rintro e w1 ⟨r, mb, hr, hp⟩
  rw [HB.out] at hp
  obtain ⟨rfl, hg, hx⟩ := hp
  have hc1 := hg.rd.c1
  have hl1 := hg.lt
  have G1 := hide hg
  have X1 := hide hx
  clear hg hx
  go_wp2_with fail
  go_region
  go_wp2_with fail
  go_ret3
  exact ⟨rfl, (X1.out.alloc _).drew⟩
end Go.Proofs.YtmeffeigamaipabGreatDoor.G

/- Contracts of Load where the second rule is refused. -/
namespace Go.Proofs.YtmeffeigamaipabGreatDoor
open Go.RowKit

theorem Ex.ofRx {l : List Nat} {w w' : World} (h : Rx.Ex l w w') : Ex l w w' := ⟨h.os, h.tape, h.output, h.size, h.block⟩

theorem items_one : Rx.Q.Items ⟨#[120]⟩ 0 [120] := ⟨by decide, Or.inl ⟨by decide, by decide, rfl, rfl⟩⟩
theorem items_none : Rx.Q.Items ⟨#[]⟩ 0 [] := rfl
/-- The pattern of one letter is one. -/
theorem reads_x (w : World) : ReadsTo w ⟨#[120]⟩ true 0 := by
  intro w1 _
  refine (Rx.Q.Read_items ⟨#[120]⟩ false [120] w1 (Rx.Q.foldMark_no ⟨#[120]⟩ [120] (by decide) items_one) (by decide) (by decide)).mono ?_
  rintro x w2 ⟨q, rfl, _, hx⟩
  exact ⟨⟨_, rfl⟩, Ex.ofRx hx⟩
/-- The empty pattern is one. -/
theorem reads_none (w : World) : ReadsTo w ⟨#[]⟩ true 0 := by
  intro w1 _
  refine (Rx.Q.Read_items ⟨#[]⟩ false [] w1 (Rx.Q.foldMark_no ⟨#[]⟩ [] (by decide) items_none) (by decide) (by decide)).mono ?_
  rintro x w2 ⟨q, rfl, _, hx⟩
  exact ⟨⟨_, rfl⟩, Ex.ofRx hx⟩

set_option maxRecDepth 100000 in
theorem bad_stars : G.readM ⟨#[97, 42, 42]⟩ = .bad ⟨2, 0, false, 0, []⟩ := by kernel_rfl
theorem np_stars : G.NP ⟨#[97, 42, 42]⟩ := by
  intro k h
  obtain ⟨hk, hb⟩ := G.byteAt_some h
  have h3 : k < 3 := hk
  have : k = 0 ∨ k = 1 ∨ k = 2 := by omega
  clear hb h3 hk
  rcases this with rfl | rfl | rfl <;> exact absurd h (by decide)
/-- Two counts one behind the other are no pattern, from the third byte on. -/
theorem reads_stars (w : World) (x : G.EV) (hev : w.cell? ⟨1, 0, none⟩ = some (.iface x.1 x.2)) : ReadsTo w ⟨#[97, 42, 42]⟩ false 2 := by
  intro w1 hx1
  refine (G.gRead_bad (x := x) ((hx1.cell0.1 _ _ (G.lt_of_cell hev)).trans hev) (by decide) np_stars bad_stars).mono ?_
  rintro y w2 ⟨rfl, hx2⟩
  exact ⟨⟨none, rfl⟩, hx2⟩

/-- Make at a rule that is refused. -/
theorem make_ref (n : Nat) (u : Use) (hu : usesL[n]? = some u) (p : Option Addr) (c : Nat) (ss : List ByteArray) (se re ta rp : ByteArray) (mo : Int) (ok : Bool) (pl er pl' : Nat) (w : World)
    (hub : UB w) (hv : SS w (.slice p ss.length c) ss) (hn : ss.length ≤ 1000) (hz : ∀ s ∈ ss, s.size ≤ 281474976710656) (hse : se.size ≤ 281474976710656) (hta : ta.size ≤ 281474976710656) (hrp : rp.size ≤ 281474976710656) (hr : u.regex = true → ReadsTo w re ok pl)
    (hM : makeR n ss se re ta rp mo u ok pl = (er, pl')) (h0 : er ≠ 0) :
    Calls Tryz.prog 34 #[ruleV n (.slice p ss.length c) se re ta rp mo] w fun x w' => x = .returned (.tuple #[.agg #[.nilFunc], .int .i64 (er : Int), .int .i64 (pl' : Int)]) ∧ Ex [] w w' := by
  refine (make_act n u hu p c ss se re ta rp mo ok pl w (fun _ _ => True) hub hv hn hz hse hta hrp hr ?_ (fun _ _ _ => trivial)).mono ?_
  · intro h
    rw [hM] at h
    cases h
    exact absurd rfl h0
  · rintro x w' ⟨h1, _, h3⟩
    rw [hM] at h1
    exact ⟨h1 h0, h3⟩

/-- Make at the rule that keeps what one letter matches. -/
theorem make_keepx (w : World) (hub : UB w) :
    Calls Tryz.prog 34 #[ruleV 1 (.slice none 0 0) ⟨#[]⟩ ⟨#[120]⟩ ⟨#[]⟩ ⟨#[]⟩ 0] w fun x w' => (∃ f a b, x = .returned (.tuple #[.agg #[.func f a b], .int .i64 0, .int .i64 0])) ∧ Ex [] w w' := by
  refine (make_act 1 ⟨true, true, false, false, false⟩ rfl none 0 [] ⟨#[]⟩ ⟨#[120]⟩ ⟨#[]⟩ ⟨#[]⟩ 0 true 0 w (fun _ _ => True) hub (.inl ⟨rfl, rfl⟩) (by decide) (by simp) (by decide) (by decide) (by decide) (fun _ => reads_x w) ?_ (fun _ _ _ => trivial)).mono ?_
  · intro _ w1 sp sc pp hx hz hs hk
    refine (deed_keep sp 0 sc ⟨#[]⟩ pp ⟨#[]⟩ ⟨#[]⟩ 0 w1).mono ?_
    rintro x w2 ⟨rfl, hx2⟩
    exact ⟨⟨_, _, _, rfl, trivial⟩, hx2⟩
  · rintro x w' ⟨_, h2, h3⟩
    have h4 := h2 (by decide)
    obtain ⟨f, a, b, h5, _⟩ := h4
    exact ⟨⟨f, a, b, h5⟩, h3⟩

set_option maxHeartbeats 2000000 in
set_option maxRecDepth 100000 in
theorem load_second (e rb0 : Nat) (a2 : Int) (p2 : Option Addr) (n2 c2 : Nat) (se2 re2 ta2 rp2 : ByteArray) (mo2 : Int) (er pl : Nat) (w : World) (her : er ≠ 0) (her2 : er ≤ 9)
    (hr0 : BK w rb0 (.cells #[.int .i64 1, .slice none 0 0, .string ⟨#[]⟩, .string ⟨#[120]⟩, .string ⟨#[]⟩, .string ⟨#[]⟩, .int .u64 0, .int .i64 a2, .slice p2 n2 c2, .string se2, .string re2, .string ta2, .string rp2, .int .u64 mo2] 37 (0, 0))) (hub : UB w)
    (hmk : ∀ w1, Ex [] w w1 → Calls Tryz.prog 34 #[ruleV a2 (.slice p2 n2 c2) se2 re2 ta2 rp2 mo2] w1 fun x w2 => x = .returned (.tuple #[.agg #[.nilFunc], .int .i64 (er : Int), .int .i64 (pl : Int)]) ∧ Ex [] w1 w2) :
    Calls Tryz.prog 15 #[.pointer (some ⟨e, 0, none⟩), .slice (some ⟨rb0, 0, none⟩) 2 2] w fun x w' => x = .returned (.tuple #[.int .i64 (er : Int), .int .i64 1, .int .i64 (pl : Int)]) ∧ Ex [] w w' := by
  obtain ⟨i0, hi, hz0, hz1, hz2⟩ := info_parts infoRule
  have H0 := hide hr0
  obtain ⟨hcr, hfr⟩ := hr0.all
  have hrl := hr0.lt
  have HMK1 := hide (make_keepx (w.alloc (Obj.cells #[.int .i64 1, .slice none 0 0, .string ⟨#[]⟩, .string ⟨#[120]⟩, .string ⟨#[]⟩, .string ⟨#[]⟩, .int .u64 0] 37)) (hub.ex ((Ex.refl [] _).alloc _) (by simp)))
  have HMK2 := hide hmk
  unfold ruleV at HMK1 HMK2
  have her' : ¬ (er : Int) = 0 := by omega
  clear hr0 hub hmk
  go_enter Tryz.func15, Tryz.ntmps15
  go_wp2_with fail
  refine wp_loop_rounds 2 ?_
  rw [rounds_succ]
  go_wp2_with fail
  refine HMK1.out.mono ?_
  rintro x w1 ⟨⟨f, fa, fb, rfl⟩, hx1⟩
  have hx01 : Ex [] w w1 := ((Ex.refl _ _).alloc _).trans hx1
  have hst := store_func f fa fb (BK.new w1 (Obj.cells #[.nilFunc] 81))
  have HX01 := hide hx01
  clear hx1 hx01 hcr hfr
  go_wp2_with (at_builtin; refine wpList_append_lies _ rfl (.tmp 34) (.tmp 36) 67 rfl w1.heap.size 81 i0 (.agg #[.nilFunc]) 1 8 Tryz.underlying67 hi hz0 hz1 hz2 rfl (by decide) (.slice none 0 0) 0 [] rfl (World.ownsRow_nil _ _ _ _) ⟨w1.heap.size + 1, 0, none⟩ 1 1 [.func f fa fb] rfl rfl (by have h9 := cells_new (w1.alloc (Obj.cells #[.func f fa fb] 81)) #[.func f fa fb] 81; simp only [World.size_alloc] at h9; exact h9) (by simp [Value.oneCell']) (by decide) (by unfold maxLen; omega) (by omega) (by simp only [World.size_alloc]; omega) (w1.heap.size + 1 + 1) (by simp) ?_)
  intro gb cap w2 hown2 hgrow hcase hlt2
  have hx02 : Ex [] w w2 := HX01.out.trans (Ex.grown (((Ex.refl _ _).alloc _).alloc _) hgrow (by simp [Value.ownBlock]))
  obtain ⟨hcr, hfr⟩ := (H0.out.ex hx02 (by simp)).all
  have hrl2 := (H0.out.ex hx02 (by simp)).lt
  have HX02 := hide hx02
  clear hown2 hgrow hcase hx02 hst
  go_wp2_with fail
  rw [rounds_succ]
  go_wp2_with fail
  refine (HMK2.out _ (HX02.out.alloc _)).mono ?_
  rintro x w3 ⟨rfl, hx3⟩
  have hst := store_nilFunc (BK.new w3 (Obj.cells #[.nilFunc] 81))
  have HX3 := hide ((HX02.out.alloc (Obj.cells #[.int .i64 a2, .slice p2 n2 c2, .string se2, .string re2, .string ta2, .string rp2, .int .u64 mo2] 37)).trans hx3)
  clear hx3 hcr hfr
  go_wp2_with fail
  go_ret3
  exact ⟨rfl, HX3.out.alloc _⟩
end Go.Proofs.YtmeffeigamaipabGreatDoor

/- The nine rules that Refused hands in, each with what it is refused by. -/
namespace Go.Proofs.YtmeffeigamaipabGreatDoor
open Go.RowKit

theorem ReadsTo.at_ {w w1 : World} {re : ByteArray} {ok : Bool} {pl : Nat} (h : ReadsTo w re ok pl) (hx : Ex [] w w1) : ReadsTo w1 re ok pl := fun w2 hx2 => h w2 (hx.trans hx2)

/-- What a rule is refused by. -/
def Bad (w : World) (bb wb k : Nat) (a2 : Int) (p2 : Option Addr) (n2 c2 : Nat) (se2 re2 ta2 rp2 : ByteArray) (mo2 : Int) (er pl : Nat) : Prop :=
  w.rangeAt bb (k * 7) [.int .i64 a2, .slice p2 n2 c2, .string se2, .string re2, .string ta2, .string rp2, .int .u64 mo2] ∧ w.cell? ⟨wb, k, none⟩ = some (.int .i64 (er : Int)) ∧ er ≠ 0 ∧ er ≤ 9 ∧ pl = (if k = 3 then 2 else 0) ∧
    ∀ w1, Ex [] w w1 → Calls Tryz.prog 34 #[ruleV a2 (.slice p2 n2 c2) se2 re2 ta2 rp2 mo2] w1 fun x w2 => x = .returned (.tuple #[.agg #[.nilFunc], .int .i64 (er : Int), .int .i64 (pl : Int)]) ∧ Ex [] w1 w2

theorem range7 {w : World} {bb : Nat} {S : List Value} {t : TypeId} (hb : BK w bb (.cells S.toArray t (0, 0))) (o : Nat) (T : List Value) (hT : ∀ j v, T[j]? = some v → S[o + j]? = some v) : w.rangeAt bb o T := by
  intro j v hv
  rw [hb.all.1 (o + j)]
  simpa using hT j v hv

set_option maxHeartbeats 1000000 in
set_option maxRecDepth 100000 in
theorem bad_any (w : World) (bb wb ab k k1 : Nat) (L : ByteArray) (hL : L.size = 201) (x : G.EV) (hub : UB w) (hev : w.cell? ⟨1, 0, none⟩ = some (.iface x.1 x.2)) (hk : k < 9)
    (hbb : BK w bb (.cells #[.int .i64 11, .slice none 0 0, .string ⟨#[]⟩, .string ⟨#[]⟩, .string ⟨#[]⟩, .string ⟨#[]⟩, .int .u64 0, .int .i64 1, .slice none 0 0, .string L, .string ⟨#[]⟩, .string ⟨#[]⟩, .string ⟨#[]⟩, .int .u64 0, .int .i64 1, .slice (some ⟨ab, 0, none⟩) 1 1, .string ⟨#[]⟩, .string ⟨#[]⟩, .string ⟨#[]⟩, .string ⟨#[]⟩, .int .u64 0, .int .i64 2, .slice none 0 0, .string ⟨#[]⟩, .string ⟨#[97, 42, 42]⟩, .string ⟨#[]⟩, .string ⟨#[]⟩, .int .u64 0, .int .i64 0, .slice none 0 0, .string ⟨#[]⟩, .string ⟨#[]⟩, .string ⟨#[]⟩, .string ⟨#[]⟩, .int .u64 0, .int .i64 5, .slice none 0 0, .string ⟨#[]⟩, .string ⟨#[]⟩, .string ⟨#[97, 36]⟩, .string ⟨#[]⟩, .int .u64 0, .int .i64 7, .slice none 0 0, .string ⟨#[59]⟩, .string ⟨#[]⟩, .string ⟨#[]⟩, .string ⟨#[]⟩, .int .u64 0, .int .i64 5, .slice none 0 0, .string ⟨#[]⟩, .string ⟨#[]⟩, .string ⟨#[97]⟩, .string ⟨#[]⟩, .int .u64 0, .int .i64 (-1 - (k1 : Int)), .slice none 0 0, .string ⟨#[]⟩, .string ⟨#[]⟩, .string ⟨#[]⟩, .string ⟨#[]⟩, .int .u64 0] 62 (0, 0))) (hwb : BK w wb (.cells #[.int .i64 1, .int .i64 2, .int .i64 3, .int .i64 4, .int .i64 5, .int .i64 5, .int .i64 6, .int .i64 7, .int .i64 1] 63 (0, 0))) (hab : SS w (.slice (some ⟨ab, 0, none⟩) 1 1) [⟨#[97, 45, 98]⟩]) :
    ∃ a2 p2 n2 c2 se2 re2 ta2 rp2 mo2 er pl, Bad w bb wb k a2 p2 n2 c2 se2 re2 ta2 rp2 mo2 er pl := by
  have hbl : longB L = true := by simp [longB, hL]
  have hR : ∀ (o : Nat) (T : List Value), (∀ j v, T[j]? = some v → ([.int .i64 11, .slice none 0 0, .string ⟨#[]⟩, .string ⟨#[]⟩, .string ⟨#[]⟩, .string ⟨#[]⟩, .int .u64 0, .int .i64 1, .slice none 0 0, .string L, .string ⟨#[]⟩, .string ⟨#[]⟩, .string ⟨#[]⟩, .int .u64 0, .int .i64 1, .slice (some ⟨ab, 0, none⟩) 1 1, .string ⟨#[]⟩, .string ⟨#[]⟩, .string ⟨#[]⟩, .string ⟨#[]⟩, .int .u64 0, .int .i64 2, .slice none 0 0, .string ⟨#[]⟩, .string ⟨#[97, 42, 42]⟩, .string ⟨#[]⟩, .string ⟨#[]⟩, .int .u64 0, .int .i64 0, .slice none 0 0, .string ⟨#[]⟩, .string ⟨#[]⟩, .string ⟨#[]⟩, .string ⟨#[]⟩, .int .u64 0, .int .i64 5, .slice none 0 0, .string ⟨#[]⟩, .string ⟨#[]⟩, .string ⟨#[97, 36]⟩, .string ⟨#[]⟩, .int .u64 0, .int .i64 7, .slice none 0 0, .string ⟨#[59]⟩, .string ⟨#[]⟩, .string ⟨#[]⟩, .string ⟨#[]⟩, .int .u64 0, .int .i64 5, .slice none 0 0, .string ⟨#[]⟩, .string ⟨#[]⟩, .string ⟨#[97]⟩, .string ⟨#[]⟩, .int .u64 0, .int .i64 (-1 - (k1 : Int)), .slice none 0 0, .string ⟨#[]⟩, .string ⟨#[]⟩, .string ⟨#[]⟩, .string ⟨#[]⟩, .int .u64 0] : List Value)[o + j]? = some v) → w.rangeAt bb o T := fun o T hT => range7 hbb o T hT
  have hW : ∀ (i : Nat), w.cell? ⟨wb, i, none⟩ = ([.int .i64 1, .int .i64 2, .int .i64 3, .int .i64 4, .int .i64 5, .int .i64 5, .int .i64 6, .int .i64 7, .int .i64 1] : List Value)[i]? := fun i => by rw [hwb.all.1 i]; simp
  have h7 : ∀ (o : Nat) (v0 v1 v2 v3 v4 v5 v6 : Value), ([.int .i64 11, .slice none 0 0, .string ⟨#[]⟩, .string ⟨#[]⟩, .string ⟨#[]⟩, .string ⟨#[]⟩, .int .u64 0, .int .i64 1, .slice none 0 0, .string L, .string ⟨#[]⟩, .string ⟨#[]⟩, .string ⟨#[]⟩, .int .u64 0, .int .i64 1, .slice (some ⟨ab, 0, none⟩) 1 1, .string ⟨#[]⟩, .string ⟨#[]⟩, .string ⟨#[]⟩, .string ⟨#[]⟩, .int .u64 0, .int .i64 2, .slice none 0 0, .string ⟨#[]⟩, .string ⟨#[97, 42, 42]⟩, .string ⟨#[]⟩, .string ⟨#[]⟩, .int .u64 0, .int .i64 0, .slice none 0 0, .string ⟨#[]⟩, .string ⟨#[]⟩, .string ⟨#[]⟩, .string ⟨#[]⟩, .int .u64 0, .int .i64 5, .slice none 0 0, .string ⟨#[]⟩, .string ⟨#[]⟩, .string ⟨#[97, 36]⟩, .string ⟨#[]⟩, .int .u64 0, .int .i64 7, .slice none 0 0, .string ⟨#[59]⟩, .string ⟨#[]⟩, .string ⟨#[]⟩, .string ⟨#[]⟩, .int .u64 0, .int .i64 5, .slice none 0 0, .string ⟨#[]⟩, .string ⟨#[]⟩, .string ⟨#[97]⟩, .string ⟨#[]⟩, .int .u64 0, .int .i64 (-1 - (k1 : Int)), .slice none 0 0, .string ⟨#[]⟩, .string ⟨#[]⟩, .string ⟨#[]⟩, .string ⟨#[]⟩, .int .u64 0] : List Value)[o]? = some v0 → ([.int .i64 11, .slice none 0 0, .string ⟨#[]⟩, .string ⟨#[]⟩, .string ⟨#[]⟩, .string ⟨#[]⟩, .int .u64 0, .int .i64 1, .slice none 0 0, .string L, .string ⟨#[]⟩, .string ⟨#[]⟩, .string ⟨#[]⟩, .int .u64 0, .int .i64 1, .slice (some ⟨ab, 0, none⟩) 1 1, .string ⟨#[]⟩, .string ⟨#[]⟩, .string ⟨#[]⟩, .string ⟨#[]⟩, .int .u64 0, .int .i64 2, .slice none 0 0, .string ⟨#[]⟩, .string ⟨#[97, 42, 42]⟩, .string ⟨#[]⟩, .string ⟨#[]⟩, .int .u64 0, .int .i64 0, .slice none 0 0, .string ⟨#[]⟩, .string ⟨#[]⟩, .string ⟨#[]⟩, .string ⟨#[]⟩, .int .u64 0, .int .i64 5, .slice none 0 0, .string ⟨#[]⟩, .string ⟨#[]⟩, .string ⟨#[97, 36]⟩, .string ⟨#[]⟩, .int .u64 0, .int .i64 7, .slice none 0 0, .string ⟨#[59]⟩, .string ⟨#[]⟩, .string ⟨#[]⟩, .string ⟨#[]⟩, .int .u64 0, .int .i64 5, .slice none 0 0, .string ⟨#[]⟩, .string ⟨#[]⟩, .string ⟨#[97]⟩, .string ⟨#[]⟩, .int .u64 0, .int .i64 (-1 - (k1 : Int)), .slice none 0 0, .string ⟨#[]⟩, .string ⟨#[]⟩, .string ⟨#[]⟩, .string ⟨#[]⟩, .int .u64 0] : List Value)[o + 1]? = some v1 → ([.int .i64 11, .slice none 0 0, .string ⟨#[]⟩, .string ⟨#[]⟩, .string ⟨#[]⟩, .string ⟨#[]⟩, .int .u64 0, .int .i64 1, .slice none 0 0, .string L, .string ⟨#[]⟩, .string ⟨#[]⟩, .string ⟨#[]⟩, .int .u64 0, .int .i64 1, .slice (some ⟨ab, 0, none⟩) 1 1, .string ⟨#[]⟩, .string ⟨#[]⟩, .string ⟨#[]⟩, .string ⟨#[]⟩, .int .u64 0, .int .i64 2, .slice none 0 0, .string ⟨#[]⟩, .string ⟨#[97, 42, 42]⟩, .string ⟨#[]⟩, .string ⟨#[]⟩, .int .u64 0, .int .i64 0, .slice none 0 0, .string ⟨#[]⟩, .string ⟨#[]⟩, .string ⟨#[]⟩, .string ⟨#[]⟩, .int .u64 0, .int .i64 5, .slice none 0 0, .string ⟨#[]⟩, .string ⟨#[]⟩, .string ⟨#[97, 36]⟩, .string ⟨#[]⟩, .int .u64 0, .int .i64 7, .slice none 0 0, .string ⟨#[59]⟩, .string ⟨#[]⟩, .string ⟨#[]⟩, .string ⟨#[]⟩, .int .u64 0, .int .i64 5, .slice none 0 0, .string ⟨#[]⟩, .string ⟨#[]⟩, .string ⟨#[97]⟩, .string ⟨#[]⟩, .int .u64 0, .int .i64 (-1 - (k1 : Int)), .slice none 0 0, .string ⟨#[]⟩, .string ⟨#[]⟩, .string ⟨#[]⟩, .string ⟨#[]⟩, .int .u64 0] : List Value)[o + 2]? = some v2 → ([.int .i64 11, .slice none 0 0, .string ⟨#[]⟩, .string ⟨#[]⟩, .string ⟨#[]⟩, .string ⟨#[]⟩, .int .u64 0, .int .i64 1, .slice none 0 0, .string L, .string ⟨#[]⟩, .string ⟨#[]⟩, .string ⟨#[]⟩, .int .u64 0, .int .i64 1, .slice (some ⟨ab, 0, none⟩) 1 1, .string ⟨#[]⟩, .string ⟨#[]⟩, .string ⟨#[]⟩, .string ⟨#[]⟩, .int .u64 0, .int .i64 2, .slice none 0 0, .string ⟨#[]⟩, .string ⟨#[97, 42, 42]⟩, .string ⟨#[]⟩, .string ⟨#[]⟩, .int .u64 0, .int .i64 0, .slice none 0 0, .string ⟨#[]⟩, .string ⟨#[]⟩, .string ⟨#[]⟩, .string ⟨#[]⟩, .int .u64 0, .int .i64 5, .slice none 0 0, .string ⟨#[]⟩, .string ⟨#[]⟩, .string ⟨#[97, 36]⟩, .string ⟨#[]⟩, .int .u64 0, .int .i64 7, .slice none 0 0, .string ⟨#[59]⟩, .string ⟨#[]⟩, .string ⟨#[]⟩, .string ⟨#[]⟩, .int .u64 0, .int .i64 5, .slice none 0 0, .string ⟨#[]⟩, .string ⟨#[]⟩, .string ⟨#[97]⟩, .string ⟨#[]⟩, .int .u64 0, .int .i64 (-1 - (k1 : Int)), .slice none 0 0, .string ⟨#[]⟩, .string ⟨#[]⟩, .string ⟨#[]⟩, .string ⟨#[]⟩, .int .u64 0] : List Value)[o + 3]? = some v3 → ([.int .i64 11, .slice none 0 0, .string ⟨#[]⟩, .string ⟨#[]⟩, .string ⟨#[]⟩, .string ⟨#[]⟩, .int .u64 0, .int .i64 1, .slice none 0 0, .string L, .string ⟨#[]⟩, .string ⟨#[]⟩, .string ⟨#[]⟩, .int .u64 0, .int .i64 1, .slice (some ⟨ab, 0, none⟩) 1 1, .string ⟨#[]⟩, .string ⟨#[]⟩, .string ⟨#[]⟩, .string ⟨#[]⟩, .int .u64 0, .int .i64 2, .slice none 0 0, .string ⟨#[]⟩, .string ⟨#[97, 42, 42]⟩, .string ⟨#[]⟩, .string ⟨#[]⟩, .int .u64 0, .int .i64 0, .slice none 0 0, .string ⟨#[]⟩, .string ⟨#[]⟩, .string ⟨#[]⟩, .string ⟨#[]⟩, .int .u64 0, .int .i64 5, .slice none 0 0, .string ⟨#[]⟩, .string ⟨#[]⟩, .string ⟨#[97, 36]⟩, .string ⟨#[]⟩, .int .u64 0, .int .i64 7, .slice none 0 0, .string ⟨#[59]⟩, .string ⟨#[]⟩, .string ⟨#[]⟩, .string ⟨#[]⟩, .int .u64 0, .int .i64 5, .slice none 0 0, .string ⟨#[]⟩, .string ⟨#[]⟩, .string ⟨#[97]⟩, .string ⟨#[]⟩, .int .u64 0, .int .i64 (-1 - (k1 : Int)), .slice none 0 0, .string ⟨#[]⟩, .string ⟨#[]⟩, .string ⟨#[]⟩, .string ⟨#[]⟩, .int .u64 0] : List Value)[o + 4]? = some v4 → ([.int .i64 11, .slice none 0 0, .string ⟨#[]⟩, .string ⟨#[]⟩, .string ⟨#[]⟩, .string ⟨#[]⟩, .int .u64 0, .int .i64 1, .slice none 0 0, .string L, .string ⟨#[]⟩, .string ⟨#[]⟩, .string ⟨#[]⟩, .int .u64 0, .int .i64 1, .slice (some ⟨ab, 0, none⟩) 1 1, .string ⟨#[]⟩, .string ⟨#[]⟩, .string ⟨#[]⟩, .string ⟨#[]⟩, .int .u64 0, .int .i64 2, .slice none 0 0, .string ⟨#[]⟩, .string ⟨#[97, 42, 42]⟩, .string ⟨#[]⟩, .string ⟨#[]⟩, .int .u64 0, .int .i64 0, .slice none 0 0, .string ⟨#[]⟩, .string ⟨#[]⟩, .string ⟨#[]⟩, .string ⟨#[]⟩, .int .u64 0, .int .i64 5, .slice none 0 0, .string ⟨#[]⟩, .string ⟨#[]⟩, .string ⟨#[97, 36]⟩, .string ⟨#[]⟩, .int .u64 0, .int .i64 7, .slice none 0 0, .string ⟨#[59]⟩, .string ⟨#[]⟩, .string ⟨#[]⟩, .string ⟨#[]⟩, .int .u64 0, .int .i64 5, .slice none 0 0, .string ⟨#[]⟩, .string ⟨#[]⟩, .string ⟨#[97]⟩, .string ⟨#[]⟩, .int .u64 0, .int .i64 (-1 - (k1 : Int)), .slice none 0 0, .string ⟨#[]⟩, .string ⟨#[]⟩, .string ⟨#[]⟩, .string ⟨#[]⟩, .int .u64 0] : List Value)[o + 5]? = some v5 → ([.int .i64 11, .slice none 0 0, .string ⟨#[]⟩, .string ⟨#[]⟩, .string ⟨#[]⟩, .string ⟨#[]⟩, .int .u64 0, .int .i64 1, .slice none 0 0, .string L, .string ⟨#[]⟩, .string ⟨#[]⟩, .string ⟨#[]⟩, .int .u64 0, .int .i64 1, .slice (some ⟨ab, 0, none⟩) 1 1, .string ⟨#[]⟩, .string ⟨#[]⟩, .string ⟨#[]⟩, .string ⟨#[]⟩, .int .u64 0, .int .i64 2, .slice none 0 0, .string ⟨#[]⟩, .string ⟨#[97, 42, 42]⟩, .string ⟨#[]⟩, .string ⟨#[]⟩, .int .u64 0, .int .i64 0, .slice none 0 0, .string ⟨#[]⟩, .string ⟨#[]⟩, .string ⟨#[]⟩, .string ⟨#[]⟩, .int .u64 0, .int .i64 5, .slice none 0 0, .string ⟨#[]⟩, .string ⟨#[]⟩, .string ⟨#[97, 36]⟩, .string ⟨#[]⟩, .int .u64 0, .int .i64 7, .slice none 0 0, .string ⟨#[59]⟩, .string ⟨#[]⟩, .string ⟨#[]⟩, .string ⟨#[]⟩, .int .u64 0, .int .i64 5, .slice none 0 0, .string ⟨#[]⟩, .string ⟨#[]⟩, .string ⟨#[97]⟩, .string ⟨#[]⟩, .int .u64 0, .int .i64 (-1 - (k1 : Int)), .slice none 0 0, .string ⟨#[]⟩, .string ⟨#[]⟩, .string ⟨#[]⟩, .string ⟨#[]⟩, .int .u64 0] : List Value)[o + 6]? = some v6 → w.rangeAt bb o [v0, v1, v2, v3, v4, v5, v6] := by
    intro o v0 v1 v2 v3 v4 v5 v6 h0 h1 h2 h3 h4 h5 h6
    refine hR o _ (fun j v hv => ?_)
    have hj : j < 7 := (List.getElem?_eq_some_iff.1 hv).1
    have : j = 0 ∨ j = 1 ∨ j = 2 ∨ j = 3 ∨ j = 4 ∨ j = 5 ∨ j = 6 := by omega
    rcases this with rfl | rfl | rfl | rfl | rfl | rfl | rfl
    · cases hv; exact h0
    · cases hv; exact h1
    · cases hv; exact h2
    · cases hv; exact h3
    · cases hv; exact h4
    · cases hv; exact h5
    · cases hv; exact h6
  have hcs : k = 0 ∨ k = 1 ∨ k = 2 ∨ k = 3 ∨ k = 4 ∨ k = 5 ∨ k = 6 ∨ k = 7 ∨ k = 8 := by omega
  rcases hcs with rfl | rfl | rfl | rfl | rfl | rfl | rfl | rfl | rfl
  · refine ⟨11, none, 0, 0, ⟨#[]⟩, ⟨#[]⟩, ⟨#[]⟩, ⟨#[]⟩, 0, 1, 0, h7 _ _ _ _ _ _ _ _ rfl rfl rfl rfl rfl rfl rfl, hW _, by decide, by decide, rfl, fun w1 hx1 => ?_⟩
    exact make_noAction 11 (.slice none 0 0) ⟨#[]⟩ ⟨#[]⟩ ⟨#[]⟩ ⟨#[]⟩ 0 w1 (by decide)
  · refine ⟨1, none, 0, 0, L, ⟨#[]⟩, ⟨#[]⟩, ⟨#[]⟩, 0, 2, 0, h7 _ _ _ _ _ _ _ _ rfl rfl rfl rfl rfl rfl rfl, hW _, by decide, by decide, rfl, fun w1 hx1 => ?_⟩
    exact make_ref 1 ⟨true, true, false, false, false⟩ rfl none 0 [] L ⟨#[]⟩ ⟨#[]⟩ ⟨#[]⟩ 0 true 0 2 0 w1 (hub.ex hx1 (by simp)) (.inl ⟨rfl, rfl⟩) (by decide) (by decide) (by rw [hL]; decide) (by decide) (by decide) (fun _ => (reads_none w).at_ hx1) (by simp [makeR, bigB, hbl]) (by decide)
  · refine ⟨1, (some ⟨ab, 0, none⟩), 1, 1, ⟨#[]⟩, ⟨#[]⟩, ⟨#[]⟩, ⟨#[]⟩, 0, 3, 0, h7 _ _ _ _ _ _ _ _ rfl rfl rfl rfl rfl rfl rfl, hW _, by decide, by decide, rfl, fun w1 hx1 => ?_⟩
    exact make_ref 1 ⟨true, true, false, false, false⟩ rfl (some ⟨ab, 0, none⟩) 1 [⟨#[97, 45, 98]⟩] ⟨#[]⟩ ⟨#[]⟩ ⟨#[]⟩ ⟨#[]⟩ 0 true 0 3 0 w1 (hub.ex hx1 (by simp)) (hab.ex0 hx1) (by decide) (by decide) (by decide) (by decide) (by decide) (fun _ => (reads_none w).at_ hx1) (by decide) (by decide)
  · refine ⟨2, none, 0, 0, ⟨#[]⟩, ⟨#[97, 42, 42]⟩, ⟨#[]⟩, ⟨#[]⟩, 0, 4, 2, h7 _ _ _ _ _ _ _ _ rfl rfl rfl rfl rfl rfl rfl, hW _, by decide, by decide, rfl, fun w1 hx1 => ?_⟩
    exact make_ref 2 ⟨true, true, false, false, false⟩ rfl none 0 [] ⟨#[]⟩ ⟨#[97, 42, 42]⟩ ⟨#[]⟩ ⟨#[]⟩ 0 false 2 4 2 w1 (hub.ex hx1 (by simp)) (.inl ⟨rfl, rfl⟩) (by decide) (by decide) (by decide) (by decide) (by decide) (fun _ => (reads_stars w x hev).at_ hx1) (by decide) (by decide)
  · refine ⟨0, none, 0, 0, ⟨#[]⟩, ⟨#[]⟩, ⟨#[]⟩, ⟨#[]⟩, 0, 5, 0, h7 _ _ _ _ _ _ _ _ rfl rfl rfl rfl rfl rfl rfl, hW _, by decide, by decide, rfl, fun w1 hx1 => ?_⟩
    exact make_ref 0 ⟨true, true, true, true, false⟩ rfl none 0 [] ⟨#[]⟩ ⟨#[]⟩ ⟨#[]⟩ ⟨#[]⟩ 0 true 0 5 0 w1 (hub.ex hx1 (by simp)) (.inl ⟨rfl, rfl⟩) (by decide) (by decide) (by decide) (by decide) (by decide) (fun _ => (reads_none w).at_ hx1) (by decide) (by decide)
  · refine ⟨5, none, 0, 0, ⟨#[]⟩, ⟨#[]⟩, ⟨#[97, 36]⟩, ⟨#[]⟩, 0, 5, 0, h7 _ _ _ _ _ _ _ _ rfl rfl rfl rfl rfl rfl rfl, hW _, by decide, by decide, rfl, fun w1 hx1 => ?_⟩
    exact make_ref 5 ⟨true, false, true, false, true⟩ rfl none 0 [] ⟨#[]⟩ ⟨#[]⟩ ⟨#[97, 36]⟩ ⟨#[]⟩ 0 true 0 5 0 w1 (hub.ex hx1 (by simp)) (.inl ⟨rfl, rfl⟩) (by decide) (by decide) (by decide) (by decide) (by decide) (fun h => by cases h) (by decide) (by decide)
  · refine ⟨7, none, 0, 0, ⟨#[59]⟩, ⟨#[]⟩, ⟨#[]⟩, ⟨#[]⟩, 0, 6, 0, h7 _ _ _ _ _ _ _ _ rfl rfl rfl rfl rfl rfl rfl, hW _, by decide, by decide, rfl, fun w1 hx1 => ?_⟩
    exact make_ref 7 ⟨false, true, false, false, false⟩ rfl none 0 [] ⟨#[59]⟩ ⟨#[]⟩ ⟨#[]⟩ ⟨#[]⟩ 0 true 0 6 0 w1 (hub.ex hx1 (by simp)) (.inl ⟨rfl, rfl⟩) (by decide) (by decide) (by decide) (by decide) (by decide) (fun _ => (reads_none w).at_ hx1) (by decide) (by decide)
  · refine ⟨5, none, 0, 0, ⟨#[]⟩, ⟨#[]⟩, ⟨#[97]⟩, ⟨#[]⟩, 0, 7, 0, h7 _ _ _ _ _ _ _ _ rfl rfl rfl rfl rfl rfl rfl, hW _, by decide, by decide, rfl, fun w1 hx1 => ?_⟩
    exact make_ref 5 ⟨true, false, true, false, true⟩ rfl none 0 [] ⟨#[]⟩ ⟨#[]⟩ ⟨#[97]⟩ ⟨#[]⟩ 0 true 0 7 0 w1 (hub.ex hx1 (by simp)) (.inl ⟨rfl, rfl⟩) (by decide) (by decide) (by decide) (by decide) (by decide) (fun h => by cases h) (by decide) (by decide)
  · refine ⟨(-1 - (k1 : Int)), none, 0, 0, ⟨#[]⟩, ⟨#[]⟩, ⟨#[]⟩, ⟨#[]⟩, 0, 1, 0, h7 _ _ _ _ _ _ _ _ rfl rfl rfl rfl rfl rfl rfl, hW _, by decide, by decide, rfl, fun w1 hx1 => ?_⟩
    exact make_noAction (-1 - (k1 : Int)) (.slice none 0 0) ⟨#[]⟩ ⟨#[]⟩ ⟨#[]⟩ ⟨#[]⟩ 0 w1 (by omega)
end Go.Proofs.YtmeffeigamaipabGreatDoor
