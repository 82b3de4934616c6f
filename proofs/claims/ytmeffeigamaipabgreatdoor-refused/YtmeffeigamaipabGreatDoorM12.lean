/- E1 E2 E3 F13, one behind the other. -/
import Derived.Test.YtmeffeigamaipabGreatDoorM11
set_option linter.unusedVariables false
set_option linter.unusedSimpArgs false
/- Contracts of Open, Cached, Flush and Load, as far as the count of what is remembered asks. -/
namespace Go.Proofs.YtmeffeigamaipabGreatDoor
open Go.RowKit

/-- What a cache counts as. -/
def roomOf (c : Int) : Nat := (max 1 (min c 50)).toNat

set_option maxHeartbeats 1000000 in
set_option maxRecDepth 100000 in
theorem new_any (room : Nat) (w : World) (h1 : 1 ≤ room) (h50 : room ≤ 50) :
    Calls Tryz.prog 30 #[.int .i64 room] w fun x w' => x = .returned (.pointer (some ⟨w.heap.size + 1, 0, none⟩)) ∧
      w' = (w.alloc (.map #[] 0)).alloc (.cells #[.map (some w.heap.size), .slice none 0 0, .int .i64 room] 94) := by
  have hmm := @run_makeMap Tryz.prog
  go_enter Tryz.func30, Tryz.ntmps30
  go_wp2_with fail
  go_ret
  exact ⟨by simp, rfl⟩

set_option maxHeartbeats 1000000 in
set_option maxRecDepth 100000 in
theorem open_any (R : List Value → List Lab → Bool → Prop) (c : Int) (w : World) :
    Calls Tryz.prog 11 #[.int .i64 c] w fun x w' => ∃ e m mb, x = .returned (.pointer (some ⟨e, 0, none⟩)) ∧ EN R w' e m mb w'.heap.size (roomOf c) (.slice none 0 0) [] (.slice none 0 0) #[] 0 ∧ Ex [] w w' ∧ w.heap.size ≤ e ∧ w.heap.size ≤ m ∧ w.heap.size ≤ mb := by
  have h1 : 1 ≤ roomOf c := by unfold roomOf; omega
  have h50 : roomOf c ≤ 50 := by unfold roomOf; omega
  have hc : max 1 (min c 50) = (roomOf c : Int) := by unfold roomOf; omega
  obtain ⟨r, hr⟩ : ∃ r, roomOf c = r := ⟨_, rfl⟩
  rw [hr] at h1 h50 hc
  have HR := hide hr
  clear hr
  go_enter Tryz.func11, Tryz.ntmps11
  go_wp2_with fail
  refine (new_any r w h1 h50).mono ?_
  rintro x w1 ⟨rfl, hw1⟩
  have hx1 : Ex [] w w1 := by rw [hw1]; exact ((Ex.refl _ _).alloc _).alloc _
  have hmap : BK w1 w.heap.size (.map #[] 0) := by rw [hw1]; exact (BK.new _ _).alloc _
  have hmem : BK w1 (w.heap.size + 1) (.cells #[.map (some w.heap.size), .slice none 0 0, .int .i64 r] 94 (0, 0)) := by
    have h := BK.new (w.alloc (.map #[] 0)) (.cells #[.map (some w.heap.size), .slice none 0 0, .int .i64 r] 94)
    simp only [World.size_alloc] at h
    rw [hw1]; exact h
  have hz : w1.heap.size = w.heap.size + 2 := by rw [hw1]; simp
  have HX := hide hx1
  have HMP := hide hmap
  have HMM := hide hmem
  have HZ := hide hz
  clear hw1 hx1 hmap hmem hz hc
  go_wp2_with fail
  go_ret
  have hz := unhide HZ
  refine ⟨w1.heap.size, w.heap.size + 1, w.heap.size, rfl, ⟨BK.new _ _, ?_, by simp, by omega, by omega⟩, HX.out.alloc _, by omega, by omega, by omega⟩
  rw [unhide HR]
  exact ⟨HMM.out.alloc _, HMP.out.alloc _, World.ownsRow_nil _ _ _ _, by simp, fun e he => by simp at he, fun S hS => by simp at hS, by simp, by simp, h1, h50, by simp; omega, by simp; omega, by omega, by simp⟩

set_option maxHeartbeats 1000000 in
set_option maxRecDepth 100000 in
theorem cached_any (R : List Value → List Lab → Bool → Prop) (e m mb base room : Nat) (rv : Value) (ts : List (List Value)) (tv : Value) (es : Array MapEntry) (clk : Nat) (w : World) (he : EN R w e m mb base room rv ts tv es clk) :
    Calls Tryz.prog 29 #[.pointer (some ⟨e, 0, none⟩)] w fun x w' => x = .returned (.int .i64 ts.length) ∧ w' = w := by
  obtain ⟨hce, hfe⟩ := he.blk.all
  have hel := he.blk.lt
  have hcount : Calls Tryz.prog 38 #[.pointer (some ⟨m, 0, none⟩)] w fun x w' => x = .returned (.int .i64 ts.length) ∧ w' = w := by
    obtain ⟨hcm, hfm⟩ := he.mem.blk.all
    have hml := he.mem.blk.lt
    have hsz := he.mem.size
    have hmap := he.mem.map
    have hlen : ∀ ty, (Builtin.len_ #[91] ty #[.map (some mb)]).run Tryz.prog w = .ok (.int .i64 ts.length) w := fun ty => by
      unfold Builtin.len_
      simp [MapKept.run_getObj_map hmap, hsz, goInt]
    clear hce hfe hel he hsz hmap
    go_enter Tryz.func38, Tryz.ntmps38
    go_wp2_with fail
    go_ret
    exact ⟨rfl, rfl⟩
  have HC := hide hcount
  clear hcount he
  go_enter Tryz.func29, Tryz.ntmps29
  go_wp2_with fail
  refine HC.out.mono ?_
  rintro x w' ⟨rfl, rfl⟩
  go_wp2_with fail
  go_ret
  exact ⟨rfl, rfl⟩

/-- What is left of a memory that was emptied. -/
theorem MM.empty {R : List Value → List Lab → Bool → Prop} {w : World} {m mb base room : Nat} {ts : List (List Value)} {tv : Value} {es : Array MapEntry} {clk : Nat} (h : MM R w m mb base room ts tv es clk) :
    MM R ((putB w mb (.map #[] clk)).setCell ⟨m, 1, none⟩ (.slice none 0 0)) m mb base room [] (.slice none 0 0) #[] clk := by
  refine ⟨?_, (putB_bk h.map).set (by simpa using Ne.symm h.ne) _, World.ownsRow_nil _ _ _ _, by simp, fun e he => by simp at he, fun S hS => by simp at hS, by simp, by simp, h.room1, h.room50, h.mlt, h.mblt, h.ne, ?_⟩
  · have := (h.blk.putB (o := .map #[] clk) h.ne).self 1 (.slice none 0 0)
    simpa using this
  · simpa [putB_size] using h.le

set_option maxHeartbeats 1000000 in
set_option maxRecDepth 100000 in
theorem forget_any (R : List Value → List Lab → Bool → Prop) (m mb base room : Nat) (ts : List (List Value)) (tv : Value) (es : Array MapEntry) (clk : Nat) (w : World) (hm : MM R w m mb base room ts tv es clk) :
    Calls Tryz.prog 35 #[.pointer (some ⟨m, 0, none⟩)] w fun x w' => x = .returned (.tuple #[]) ∧ MM R w' m mb base room [] (.slice none 0 0) #[] clk ∧ Ex [m, mb] w w' := by
  have HM := hide hm
  obtain ⟨hcm, hfm⟩ := hm.blk.all
  have hml := hm.blk.lt
  have hcl := clear_map (w := w) 0 hm.map
  have hb1 := hm.blk.putB (o := .map #[] clk) hm.ne
  obtain ⟨w1, hw1⟩ : ∃ w1, w1 = putB w mb (.map #[] clk) := ⟨_, rfl⟩
  have HW1 := hide hw1
  rw [← hw1] at hcl hb1
  obtain ⟨hcm1, hfm1⟩ := hb1.all
  have hml1 := hb1.lt
  clear hm hw1 hb1
  go_enter Tryz.func35, Tryz.ntmps35
  go_wp2_with (at_builtin; refine wpList_clear_run _ rfl _ 91 rfl _ rfl hcl ?_)
  go_end0
  rw [unhide HW1]
  exact ⟨rfl, HM.out.empty, ((putB_ex w mb _).drop (fun x hx _ => by simp at hx; simp [hx])).setCell (.inl (by simp)) _⟩

set_option maxHeartbeats 1000000 in
set_option maxRecDepth 100000 in
theorem flush_any (R : List Value → List Lab → Bool → Prop) (e m mb base room : Nat) (rv : Value) (ts : List (List Value)) (tv : Value) (es : Array MapEntry) (clk : Nat) (w : World) (he : EN R w e m mb base room rv ts tv es clk) :
    Calls Tryz.prog 16 #[.pointer (some ⟨e, 0, none⟩)] w fun x w' => x = .returned (.tuple #[]) ∧ EN R w' e m mb base room rv [] (.slice none 0 0) #[] clk ∧ Ex [m, mb] w w' := by
  have HE := hide he
  obtain ⟨hce, hfe⟩ := he.blk.all
  have hel := he.blk.lt
  clear he
  go_enter Tryz.func16, Tryz.ntmps16
  go_wp2_with fail
  refine (forget_any R m mb base room ts tv es clk w HE.out.mem).mono ?_
  rintro x w1 ⟨rfl, hm1, hx1⟩
  have HM1 := hide hm1
  have HX1 := hide hx1
  clear hm1 hx1 hce hfe
  go_wp2_with fail
  go_end0
  exact ⟨rfl, ⟨HE.out.blk.ex HX1.out (by simp [HE.out.nem, HE.out.nemb]), HM1.out, HE.out.lt, HE.out.nem, HE.out.nemb⟩, HX1.out⟩

set_option maxHeartbeats 1000000 in
set_option maxRecDepth 100000 in
theorem load_none (R : List Value → List Lab → Bool → Prop) (e m mb base room : Nat) (rv : Value) (ts : List (List Value)) (tv : Value) (es : Array MapEntry) (clk : Nat) (w : World) (he : EN R w e m mb base room rv ts tv es clk) :
    Calls Tryz.prog 15 #[.pointer (some ⟨e, 0, none⟩), .slice none 0 0] w fun x w' => x = .returned (.tuple #[.int .i64 0, .int .i64 0, .int .i64 0]) ∧ EN R w' e m mb base room (.slice none 0 0) [] (.slice none 0 0) #[] clk ∧ Ex [e, m, mb] w w' := by
  have HE := hide he
  obtain ⟨hce, hfe⟩ := he.blk.all
  have hel := he.blk.lt
  clear he
  go_enter Tryz.func15, Tryz.ntmps15
  go_wp2_with fail
  refine wp_loop_rounds 1 ?_
  rw [rounds_succ]
  go_wp2_with fail
  have hb1 := HE.out.blk.self 0 (.slice none 0 0)
  have hm1 : MM R (w.setCell ⟨e, 0, none⟩ (.slice none 0 0)) m mb base room ts tv es clk := HE.out.mem.ex (o := [e]) ((Ex.refl _ _).setCell (.inl (by simp)) _) (by simp [HE.out.lt, HE.out.nem, HE.out.nemb])
  refine (forget_any R m mb base room ts tv es clk _ hm1).mono ?_
  rintro x w1 ⟨rfl, hm2, hx1⟩
  have hb2 := hb1.ex hx1 (by simp [HE.out.nem, HE.out.nemb])
  have HB2 := hide hb2
  have HM2 := hide hm2
  have HX1 := hide hx1
  clear hb1 hm1 hb2 hm2 hx1 hce hfe
  go_wp2_with fail
  go_ret3
  refine ⟨rfl, ⟨by simpa using HB2.out, HM2.out, HE.out.lt, HE.out.nem, HE.out.nemb⟩, ?_⟩
  exact (((Ex.refl _ _).setCell (.inl (by simp)) _) : Ex [e, m, mb] w _).trans (HX1.out.drop (fun x hx _ => by simp at hx ⊢; omega))
end Go.Proofs.YtmeffeigamaipabGreatDoor

/- Contracts of Load at a rule whose action is none; of the labels that a count asks for. -/
namespace Go.Proofs.YtmeffeigamaipabGreatDoor
open Go.RowKit

set_option maxHeartbeats 1000000 in
set_option maxRecDepth 100000 in
theorem isAction_no (a : Int) (w : World) (h : a < 0 ∨ 11 ≤ a) :
    Calls Tryz.prog 48 #[.int .i64 a] w fun x w' => x = .returned (.bool false) ∧ w' = w := by
  by_cases h0 : 0 ≤ a
  · have h11 : 11 ≤ a := by omega
    go_enter Tryz.func48, Tryz.ntmps48
    go_wp2_with fail
    go_ret
    exact ⟨by simp <;> omega, rfl⟩
  · go_enter Tryz.func48, Tryz.ntmps48
    go_wp2_with fail
    go_ret
    exact ⟨by simp <;> omega, rfl⟩

/-- Three results, the first kept in memory. -/
theorem results_cell_tmp2 {P : Program} {fn : Func} {tmps : Array Value} {w : World} {a k l : Tmp} {t : TypeId} {ad : Addr} {v : Value} (hf : fn.results = #[.cell a t, .tmp k, .tmp l]) (ha : tmps.getD a undef = .pointer (some ad)) (hl : (loadVar t ad).run P w = .ok v w) :
    (results fn tmps).run P w = .ok (.tuple #[v, tmps.getD k undef, tmps.getD l undef]) w := by
  have ha' : tmps[a]?.getD undef = .pointer (some ad) := by rw [← ha]; simp
  unfold results
  rw [hf]
  simp [ha', hl, asAddr]

/-- A rule as a value. -/
def ruleV (a : Int) (so : Value) (se re ta rp : ByteArray) (mo : Int) : Value := .agg #[.int .i64 a, so, .string se, .string re, .string ta, .string rp, .int .u64 mo]

theorem store_nilFunc {w : World} {b : Nat} {t : TypeId} (hb : BK w b (.cells #[.nilFunc] t (0, 0))) :
    (store ⟨b, 0, none⟩ Value.nilFunc).run Tryz.prog w = .ok () (w.setCell ⟨b, 0, none⟩ .nilFunc) := by
  obtain ⟨hc, hf⟩ := hb.all
  rw [run_store Tryz.prog w _ Value.nilFunc _ rfl]
  simp [hc, hf]

set_option maxHeartbeats 1000000 in
set_option maxRecDepth 100000 in
theorem make_noAction (a : Int) (so : Value) (se re ta rp : ByteArray) (mo : Int) (w : World) (h : a < 0 ∨ 11 ≤ a) :
    Calls Tryz.prog 34 #[ruleV a so se re ta rp mo] w fun x w' => x = .returned (.tuple #[.agg #[.nilFunc], .int .i64 1, .int .i64 0]) ∧ Ex [] w w' := by
  unfold ruleV
  obtain ⟨w1, hw1⟩ : ∃ w1, w1 = (w.alloc (Obj.cells #[.int .i64 a, so, .string se, .string re, .string ta, .string rp, .int .u64 mo] 37)).alloc (Obj.cells #[.nilFunc] 81) := ⟨_, rfl⟩
  have hb : BK w1 (w.heap.size + 1) (.cells #[.nilFunc] 81 (0, 0)) := by
    have h := BK.new (w.alloc (Obj.cells #[.int .i64 a, so, .string se, .string re, .string ta, .string rp, .int .u64 mo] 37)) (Obj.cells #[.nilFunc] 81)
    simp only [World.size_alloc] at h
    rw [hw1]; exact h
  have hst := store_nilFunc hb
  have hx1 : Ex [] w w1 := by rw [hw1]; exact ((Ex.refl _ _).alloc _).alloc _
  have HB := hide hb
  have HX := hide hx1
  have HW := hide hw1
  rw [hw1] at hst
  clear hb hx1 hw1
  go_enter Tryz.func34, Tryz.ntmps34
  go_wp2_with fail
  refine (isAction_no a _ h).mono ?_
  rintro x w2 ⟨rfl, rfl⟩
  go_wp2_with fail
  rw [← unhide HW]
  have hl3 := run_loadVar_mid (P := Tryz.prog) w1 (w.heap.size + 1) 0 81 [.nilFunc] _ (BK.rangeL (cs := [.nilFunc]) HB.out) Tryz.underlying81 rfl (by kernel_rfl)
  exact bodyPost_ret (results_cell_tmp2 rfl rfl hl3) rfl ⟨rfl, HX.out⟩

set_option maxHeartbeats 1000000 in
set_option maxRecDepth 100000 in
theorem load_noAction (e rb : Nat) (a : Int) (sp : Option Addr) (sn sc : Nat) (se re ta rp : ByteArray) (mo : Int) (w : World) (h : a < 0 ∨ 11 ≤ a)
    (hr : BK w rb (.cells #[.int .i64 a, .slice sp sn sc, .string se, .string re, .string ta, .string rp, .int .u64 mo] 37 (0, 0))) :
    Calls Tryz.prog 15 #[.pointer (some ⟨e, 0, none⟩), .slice (some ⟨rb, 0, none⟩) 1 1] w fun x w' => x = .returned (.tuple #[.int .i64 1, .int .i64 0, .int .i64 0]) ∧ Ex [] w w' := by
  obtain ⟨hc, hf⟩ := hr.all
  have hrl := hr.lt
  clear hr
  go_enter Tryz.func15, Tryz.ntmps15
  go_wp2_with fail
  refine wp_loop_rounds 1 ?_
  rw [rounds_succ]
  go_wp2_with fail
  have hmk := make_noAction a (.slice sp sn sc) se re ta rp mo (w.alloc (Obj.cells #[.int .i64 a, .slice sp sn sc, .string se, .string re, .string ta, .string rp, .int .u64 mo] 37)) h
  unfold ruleV at hmk
  refine hmk.mono ?_
  clear hmk
  rintro x w1 ⟨rfl, hx1⟩
  have HX1 := hide hx1
  have hst := store_nilFunc (BK.new w1 (Obj.cells #[.nilFunc] 81))
  clear hx1 hc hf
  go_wp2_with fail
  go_ret3
  exact ⟨rfl, (((Ex.refl _ _).alloc _).trans HX1.out).alloc _⟩
end Go.Proofs.YtmeffeigamaipabGreatDoor

/- Contracts of Relabel of an engine without rules, at the lists that Counts hands in. -/
namespace Go.Proofs.YtmeffeigamaipabGreatDoor
open Go.RowKit

def aN : ByteArray := ⟨#[97]⟩
theorem aN_name : nameB aN = true := by decide
theorem aN_cmp : cmpN aN aN = 0 := by decide
theorem aN_right {y : ByteArray} (hy : y.size ≤ 200) : wrongB (aN, y) = false := by
  simp only [wrongB, aN_name, Bool.not_true, Bool.false_or, decide_eq_false_iff_not]
  omega

def R0 : List Value → List Lab → Bool → Prop := fun _ _ _ => True

theorem steps_nil : Steps [] (fun _ => []) := ⟨rfl, fun j l h => by simp at h⟩

theorem sorted_nil (a : ByteArray) : SortedFor [] a := fun _ _ x _ _ h => by simp at h
theorem sorted_one (x : ByteArray) : SortedFor [(aN, x)] aN := fun a b p q _ ha hb h => by
  have h1 : a = 0 := by have := (List.getElem?_eq_some_iff.1 ha).1; simp at this; omega
  have h2 : b = 0 := by have := (List.getElem?_eq_some_iff.1 hb).1; simp at this; omega
  subst h1; subst h2
  rw [ha] at hb; cases hb; exact h
theorem pos_one (x : ByteArray) : posN [(aN, x)] aN = 0 := by
  simp [posN, List.takeWhile_cons, aN_cmp]
theorem there_one (x : ByteArray) : thereN [(aN, x)] aN = true := by
  simp [thereN, pos_one, aN_cmp]

theorem steps_one {y : ByteArray} (h0 : ¬ y.size = 0) (h1 : y.size ≤ 200) : Steps [(aN, y)] (fun j => if j = 0 then [] else [(aN, y)]) := by
  refine ⟨rfl, fun j l hl W q base hls => ?_⟩
  obtain rfl : j = 0 := by have := (List.getElem?_eq_some_iff.1 hl).1; simp at this; omega
  simp only [List.getElem?_cons_zero, Option.some.injEq] at hl
  subst hl
  exact set_new q base [] aN y W hls (by simp) (sorted_nil _) rfl h0 h1

theorem steps_two {x y : ByteArray} (hx0 : ¬ x.size = 0) (hx1 : x.size ≤ 200) (h0 : ¬ y.size = 0) (h1 : y.size ≤ 200) : Steps [(aN, x), (aN, y)] (fun j => if j = 0 then [] else if j = 1 then [(aN, x)] else [(aN, y)]) := by
  refine ⟨rfl, fun j l hl W q base hls => ?_⟩
  have hj : j < 2 := by have := (List.getElem?_eq_some_iff.1 hl).1; simpa using this
  obtain rfl | rfl : j = 0 ∨ j = 1 := by omega
  · simp only [List.getElem?_cons_zero, Option.some.injEq] at hl
    subst hl
    exact set_new q base [] aN x W hls (by simp) (sorted_nil _) rfl hx0 hx1
  · simp only [List.getElem?_cons_succ, List.getElem?_cons_zero, Option.some.injEq] at hl
    subst hl
    have := set_again q base [(aN, x)] aN y W hls (by simp) (sorted_one x) (by rw [pos_one]; rfl) (there_one x) h0 h1
    rw [pos_one] at this
    exact this

theorem works_bare {w : World} {e : Nat} {mp : Value} {ls : List Lab} (he : BK w e (.cells #[.slice none 0 0, mp] 69 (0, 0))) (hn : ls.length ≤ 20) : Works R0 w (serC ls) (.pointer (some ⟨e, 0, none⟩)) := fun W hW => by
  refine (rewrite_bare e mp ls W (he.ex hW (by simp)) hn).mono ?_
  rintro x w' ⟨v, rfl, ho, hx⟩
  exact ⟨v, ls, true, rfl, trivial, by omega, ho, hx⟩

/-- Relabel, and what is remembered then. -/
def Asks (e m mb base room : Nat) (ts : List (List Value)) (v : Value) (S : List Value) (w : World) : Prop :=
  Calls Tryz.prog 12 #[.pointer (some ⟨e, 0, none⟩), v] w fun x w' => (∃ v' b, x = .returned (.tuple #[v', .bool b, .int .i64 0])) ∧
    (∃ ts' tv' es' clk', After room ts S ts' ∧ EN R0 w' e m mb base room (.slice none 0 0) ts' tv' es' clk') ∧ EB base [m, mb] w w'

theorem asks_of {e m mb base room : Nat} {ts : List (List Value)} {tv : Value} {es : Array MapEntry} {clk : Nat} {v : Value} {ls : List Lab} {acc : Nat → List Lab} {w : World}
    (he : EN R0 w e m mb base room (.slice none 0 0) ts tv es clk) (hv : SL w v ls) (hn : ls.length ≤ 20) (hw : ls.any wrongB = false) (hst : Steps ls acc) (hacc : (acc ls.length).length ≤ 20) (hok : ∀ l ∈ acc ls.length, l.1.size ≤ maxLen ∧ l.2.size ≤ maxLen) :
    Asks e m mb base room ts v (serC (acc ls.length)) w := by
  refine (relabel_any R0 e m mb base room (.slice none 0 0) ts tv es clk (serC (acc ls.length)) v w he (serOk hacc hok) (read_any v ls acc w hv hn hw hst hacc) (works_bare he.blk hacc)).mono ?_
  rintro x w' ⟨v', ls', b, h1, _, _, _, h2, h3⟩
  exact ⟨⟨v', b, h1⟩, h2, h3⟩

theorem asks_nil {e m mb base room : Nat} {ts : List (List Value)} {tv : Value} {es : Array MapEntry} {clk : Nat} {w : World} (he : EN R0 w e m mb base room (.slice none 0 0) ts tv es clk) :
    Asks e m mb base room ts (.slice none 0 0) (serC []) w :=
  asks_of (ls := []) (acc := fun _ => []) he (.inl ⟨rfl, rfl⟩) (by simp) rfl steps_nil (by simp) (by simp)

theorem asks_one {e m mb base room : Nat} {ts : List (List Value)} {tv : Value} {es : Array MapEntry} {clk : Nat} {v : Value} {y : ByteArray} {w : World} (he : EN R0 w e m mb base room (.slice none 0 0) ts tv es clk) (hv : SL w v [(aN, y)]) (h0 : ¬ y.size = 0) (h1 : y.size ≤ 200) :
    Asks e m mb base room ts v (serC [(aN, y)]) w := by
  have := asks_of he hv (by simp) (by simp [aN_right h1]) (steps_one h0 h1) (by simp) (by
    intro l hl
    simp at hl
    subst hl
    exact ⟨(show aN.size ≤ maxLen by decide), by unfold maxLen; simp; omega⟩)
  simpa using this

theorem asks_two {e m mb base room : Nat} {ts : List (List Value)} {tv : Value} {es : Array MapEntry} {clk : Nat} {v : Value} {x y : ByteArray} {w : World} (he : EN R0 w e m mb base room (.slice none 0 0) ts tv es clk) (hv : SL w v [(aN, x), (aN, y)])
    (hx0 : ¬ x.size = 0) (hx1 : x.size ≤ 200) (h0 : ¬ y.size = 0) (h1 : y.size ≤ 200) :
    Asks e m mb base room ts v (serC [(aN, y)]) w := by
  have := asks_of he hv (by simp) (by simp [aN_right h1, aN_right hx1]) (steps_two hx0 hx1 h0 h1) (by simp) (by
    intro l hl
    simp at hl
    subst hl
    exact ⟨(show aN.size ≤ maxLen by decide), by unfold maxLen; simp; omega⟩)
  simpa using this
end Go.Proofs.YtmeffeigamaipabGreatDoor

/- Contracts: labels that are refused. -/
namespace Go.Proofs.YtmeffeigamaipabGreatDoor
open Go.RowKit

theorem serNil_size : (Tryz.prog.info? 72).map (·.size) = some (serC []).toArray.size := by kernel_rfl
theorem serNil_all : (serC []).toArray.all (·.oneCell') = true := all_oneCell_toArray (serC_plain [])

set_option maxHeartbeats 1000000 in
set_option maxRecDepth 100000 in
theorem read_many (p : Option Addr) (n c : Nat) (w : World) (h : 20 < n) :
    Calls Tryz.prog 31 #[.slice p n c] w fun x w' => x = .returned (.tuple #[.agg (serC []).toArray, .int .i64 8]) ∧ Ex [] w w' := by
  have h' : (n : Int) > 20 := by omega
  have HB := hide (BK.new w (.cells (serC []).toArray 72))
  have HI := hide serNil_size
  have HA := hide serNil_all
  go_enter Tryz.func31, Tryz.ntmps31
  go_wp2_with (refine wpList_store_row rfl 72 _ _ rfl w.heap.size (serC []).toArray rfl rfl 72 _ HB.out HI.out rfl HA.out ?_)
  generalize hw8 : World.setRow _ _ _ = w8
  have hb8 : BK w8 w.heap.size (.cells (serC []).toArray 72 (0, 0)) := by rw [← hw8]; exact setRow_heap _ _ _ _ _ _ HB.out
  have hl8 : (loadVar 72 ⟨w.heap.size, 0, none⟩).run Tryz.prog w8 = .ok (.agg (serC []).toArray) w8 := run_loadVar_mid w8 _ 0 _ (serC []) _ hb8.rangeL Tryz.underlying72 rfl (by have := HI.out; rw [List.size_toArray] at this; exact this)
  refine bodyPost_ret (results_cell_tmp rfl rfl hl8) rfl ⟨rfl, ?_⟩
  rw [← hw8]
  exact ((Ex.refl _ _).alloc _).setRow (.inr (Nat.le_refl _)) _

set_option maxHeartbeats 1000000 in
set_option maxRecDepth 100000 in
theorem read_wrong (v : Value) (ls : List Lab) (w : World) (hv : SL w v ls) (hn : ls.length ≤ 20) (hl : ∀ l ∈ ls, l.1.size ≤ maxLen) (hw : ls.any wrongB = true) :
    Calls Tryz.prog 31 #[v] w fun x w' => x = .returned (.tuple #[.agg (serC []).toArray, .int .i64 9]) ∧ Ex [] w w' := by
  have HV := hide hv
  obtain ⟨p, c, rfl⟩ := hv.slice
  have h' : (ls.length : Int) ≤ 20 := by omega
  have HI := hide serNil_size
  have HA := hide serNil_all
  have HL := hide hl
  have HW := hide hw
  clear hv hl hw
  go_enter Tryz.func31, Tryz.ntmps31
  go_wp2_with fail
  refine (containsWrong (.slice p ls.length c) ls _ (HV.out.ex ((Ex.refl [] w).alloc _) (by simp)) (by omega) HL.out).mono ?_
  rintro x w1 ⟨rfl, hx1⟩
  rw [HW.out]
  have hb1 := (BK.new w (.cells (serC []).toArray 72)).ex hx1 (by simp)
  have HB := hide hb1
  have HX1 := hide hx1
  clear hx1 hb1
  go_wp2_with (refine wpList_store_row rfl 72 _ _ rfl w.heap.size (serC []).toArray rfl rfl 72 _ HB.out HI.out rfl HA.out ?_)
  generalize hw8 : World.setRow _ _ _ = w8
  have hb8 : BK w8 w.heap.size (.cells (serC []).toArray 72 (0, 0)) := by rw [← hw8]; exact setRow_heap _ _ _ _ _ _ HB.out
  have hl8 : (loadVar 72 ⟨w.heap.size, 0, none⟩).run Tryz.prog w8 = .ok (.agg (serC []).toArray) w8 := run_loadVar_mid w8 _ 0 _ (serC []) _ hb8.rangeL Tryz.underlying72 rfl (by have := HI.out; rw [List.size_toArray] at this; exact this)
  refine bodyPost_ret (results_cell_tmp rfl rfl hl8) rfl ⟨rfl, ?_⟩
  rw [← hw8]
  exact (((Ex.refl _ _).alloc _).trans HX1.out).setRow (.inr (Nat.le_refl _)) _

set_option maxHeartbeats 1000000 in
set_option maxRecDepth 100000 in
theorem relabel_refused (e : Nat) (v : Value) (er : Nat) (w : World) (h0 : er ≠ 0) (h9 : er ≤ 9) (hr : Calls Tryz.prog 31 #[v] w fun x w' => x = .returned (.tuple #[.agg (serC []).toArray, .int .i64 (er : Int)]) ∧ Ex [] w w') :
    Calls Tryz.prog 12 #[.pointer (some ⟨e, 0, none⟩), v] w fun x w' => x = .returned (.tuple #[.slice none 0 0, .bool false, .int .i64 (er : Int)]) ∧ Ex [] w w' := by
  have HR := hide hr
  have HI := hide serNil_size
  have HA := hide serNil_all
  have h0' : ¬ (er : Int) = 0 := by omega
  obtain ⟨S, hS⟩ : ∃ S, S = (serC []).toArray := ⟨_, rfl⟩
  have HS := hide hS
  rw [← hS] at HR HI HA
  clear hr hS
  go_enter Tryz.func12, Tryz.ntmps12
  go_wp2_with fail
  refine HR.out.mono ?_
  rintro x w1 ⟨rfl, hx1⟩
  have HX1 := hide hx1
  have HB := hide (BK.new w1 (.cells (serC []).toArray 72))
  have HOLD : Hid ((serC []).toArray.size = S.size) := by show _ = _; rw [HS.out]
  clear hx1
  go_wp2_with (refine wpList_store_row rfl 72 _ _ rfl w1.heap.size S rfl rfl 72 _ HB.out HI.out HOLD.out HA.out ?_)
  go_ret3
  exact ⟨rfl, (HX1.out.alloc _).setRow (.inr (by have := HX1.out.size; omega)) _⟩
end Go.Proofs.YtmeffeigamaipabGreatDoor
