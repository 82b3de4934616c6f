import Derived.Test.YtfnanjbleifjkaaGreatDoorM17
import Derived.Recover
set_option linter.unusedVariables false
set_option linter.unusedSimpArgs false
set_option maxHeartbeats 2000000
set_option maxRecDepth 100000
namespace Go.Proofs.YtfnanjbleifjkaaGreatDoor.G
open Go.RowKit
theorem qy (n : Nat) : (kP n).length = 2 * n := by
 unfold kP
 induction n with
 |zero => rfl
 |succ n ih =>
  rw [List.range_succ, List.flatMap_append, List.length_append, ih]
  simp
  omega
theorem jX (n : Nat) (s : List (Nat × Nat)) : left n s <= 2 * n := by
 rw [<- qy]
 exact List.countP_le_length
def bE (code : List Ins) (h : Nat × Nat) : List (Nat × Int) := (bh code (2 * code.length + 1) ([], []) h 0).2
theorem iN (code : List Ins) (hcode : code.length <= 100000) (hok : cP code) (cg cc : Nat) (h : Nat × Nat) (w : World) (hcg : cg < w.heap.size) (hcap : code.length <= cc) (hr : w.rangeAt cg 0 (bO code)) (h1 : h.1 < code.length) (h2 : h.2 < 2) :
  Calls Tryz.prog 48 #[.slice (some ⟨cg, 0, none⟩) code.length cc, cx h] w fun e w' => ∃ p c, e = .returned (.slice p (bE code h).length c) /\ w'.ownsRow w.heap.size 204 2 (.slice p (bE code h).length c) (bE code h).length (ee (bE code h)) /\ Ex [] w w' := by
 have hmm := @run_makeMap Tryz.prog
 have HR := aa hr
 clear hr
 obtain ⟨k, mo⟩ := h
 obtain ⟨n, hn⟩ := exq (code.length)
 rw [<- hn] at hcap h1 hcode ⊢
 have HNN := aa hn
 clear hn
 unfold cx
 dsimp only
 go_enter Tryz.func48, Tryz.ntmps48
 go_wp2_with fail
 obtain ⟨w1, hw1⟩ := exq (((w.alloc (Obj.cells #[.int .i64 k, .int .i64 mo] 112)).alloc (Obj.map #[] 0)).alloc (Obj.cells #[.slice (some ⟨cg, 0, none⟩) n cc, .map (some (w.heap.size + 1)), .slice none 0 0] 196))
 rw [<- hw1]
 have hx1 : Ex [] w w1 := by rw [hw1]; exact (((Ex.refl _ _).alloc _).alloc _).alloc _
 have hz1 : w1.heap.size = w.heap.size + 3 := by rw [hw1]; simp
 have hq1 : BK w1 (w.heap.size + 1 + 1) (.cells #[.slice (some ⟨cg, 0, none⟩) n cc, .map (some (w.heap.size + 1)), .slice none 0 0] 196 (0, 0)) := by
  rw [hw1]
  have := BK.new ((w.alloc (Obj.cells #[.int .i64 k, .int .i64 mo] 112)).alloc (Obj.map #[] 0)) (Obj.cells #[.slice (some ⟨cg, 0, none⟩) n cc, .map (some (w.heap.size + 1)), .slice none 0 0] 196)
  simpa using this
 have hm1 : BK w1 (w.heap.size + 1) (.map #[] 0) := by
  rw [hw1]
  have := (BK.new (w.alloc (Obj.cells #[.int .i64 k, .int .i64 mo] 112)) (Obj.map #[] 0)).alloc (Obj.cells #[.slice (some ⟨cg, 0, none⟩) n cc, .map (some (w.heap.size + 1)), .slice none 0 0] 196)
  simpa using this
 have hg1 : WG w1 (w.heap.size + 1 + 1) (w.heap.size + 1) cg cc (w.heap.size + 3) code ([], []) :=
  ⟨by omega, by omega, by omega, by omega, by omega, by omega, by omega, by rw [<- HNN.O]; exact hcap, by have := jX code.length []; rw [<- HNN.O] at this ⊢; simp only [List.length_nil]; omega, bo HR.O (hx1.block cg hcg (by simp)), ⟨#[], 0, hm1, rfl, by simp, by simp⟩, ⟨.slice none 0 0, by rw [<- HNN.O]; exact hq1, ⟨rfl, .inl ⟨rfl, rfl⟩⟩⟩⟩
 have KEY := aa (mU code (by rw [<- HNN.O]; exact hcode) hok (2 * code.length + 1) w1 _ _ cg cc _ ([], []) (k, mo) 0 hg1 (by have := jX code.length []; simp only; omega) (by rw [<- HNN.O]; exact h1) h2)
 have HX1 := aa hx1
 clear hw1 hx1 hq1 hm1 hg1 hmm
 refine (show Calls _ _ _ _ _ from KEY.O).mono ?_
 rintro e w2 ⟨rfl, hg2, hv2⟩
 obtain ⟨v2, hq2, ho2⟩ := hg2.ways
 obtain ⟨p2, c2, rfl⟩ := aw ho2
 obtain ⟨hcq, hfq⟩ := hq2.all
 have HO2 := aa ho2
 have HX2 := aa (show Ex [] w w2 from ⟨hv2.os.trans HX1.O.os, hv2.tape.trans HX1.O.tape, hv2.output.trans HX1.O.output, Nat.le_trans HX1.O.size hv2.size, fun x hx _ => (hv2.block x (by omega) (by omega) (by omega) (.inl (by omega))).trans (HX1.O.block x hx (by simp))⟩)
 clear hg2 hv2 hq2 ho2
 go_wp2_with fail
 go_ret
 exact ⟨p2, c2, by simp [bE], dt HO2.O (by omega), HX2.O⟩
end Go.Proofs.YtfnanjbleifjkaaGreatDoor.G
namespace Go.Proofs.YtfnanjbleifjkaaGreatDoor.Rx
open Go.RowKit
theorem info78 : (Tryz.prog.info? 109).map (fun i => (i.zero, i.size, i.bytes)) = some (some (.slice none 0 0), 1, 24) := by kernel_rfl
end Go.Proofs.YtfnanjbleifjkaaGreatDoor.Rx
namespace Go.Proofs.YtfnanjbleifjkaaGreatDoor.G
variable {w w' : World} {B j lo mb r : Nat} {code : List Ins} {t : ByteArray} {x : EV}
open Go.RowKit
def eF (code : List Ins) : Prop := ∀ k i, code[k]? = some i -> i.op = 0 -> k + 1 < code.length
structure BHG (w : World) (B lo : Nat) (code : List Ins) (j : Nat) : Prop where
 lt : B < lo
 ex : ∃ ca : Array Value, BK w B (.cells ca 109 (0, 0)) /\ ca.size = code.length /\ ∀ i x, i < j -> code[i]? = some x -> x.op = 0 -> ∃ v, ca[i]? = some v /\ w.ownsRow lo 204 2 v (bE code (i + 1, 1)).length (ee (bE code (i + 1, 1)))
theorem BHG.ex' (h : BHG w B lo code j) (hx : Ex [] w w') : BHG w' B lo code j := by
 obtain ⟨ca, h1, h2, h3⟩ := h.ex
 refine ⟨h.lt, ca, h1.ex hx (by simp), h2, fun i x hi hc h0 => ?_⟩
 obtain ⟨v, hv, ho⟩ := h3 i x hi hc h0
 exact ⟨v, hv, aE ho hx (by simp)⟩
theorem BHG.next {v : Value} (h : BHG w B lo code j) (hj : j < code.length) (ho : w.ownsRow lo 204 2 v (bE code (j + 1, 1)).length (ee (bE code (j + 1, 1)))) : BHG (w.setCell ⟨B, j, none⟩ v) B lo code (j + 1) := by
 obtain ⟨ca, h1, h2, h3⟩ := h.ex
 refine ⟨h.lt, ca.setIfInBounds j v, BK.self h1 j v, by simpa using h2, fun i x hi hc h0 => ?_⟩
 by_cases hij : i = j
 ·subst hij
  exact ⟨v, by simp [Array.getElem?_setIfInBounds, h2, hj], dg ho h.lt _⟩
 ·obtain ⟨u, hu, hou⟩ := h3 i x (by omega) hc h0
  exact ⟨u, by rw [Array.getElem?_setIfInBounds_ne (by omega)]; exact hu, dg hou h.lt _⟩
theorem BHG.skip {x : Ins} (h : BHG w B lo code j) (hc : code[j]? = some x) (h0 : ¬ x.op = 0) : BHG w B lo code (j + 1) := by
 obtain ⟨ca, h1, h2, h3⟩ := h.ex
 refine ⟨h.lt, ca, h1, h2, fun i y hi hy hy0 => ?_⟩
 by_cases hij : i = j
 ·subst hij
  rw [hc] at hy
  cases hy
  exact absurd hy0 h0
 ·exact h3 i y (by omega) hy hy0
theorem lz (code : List Ins) (hcode : code.length <= 100000) (hok : cP code) (htk : eF code) (cg cc : Nat) (w : World) (hcg : cg < w.heap.size) (hcap : code.length <= cc) (hr : w.rangeAt cg 0 (bO code)) :
  Calls Tryz.prog 49 #[.slice (some ⟨cg, 0, none⟩) code.length cc] w fun e w' => e = .returned (.slice (some ⟨w.heap.size, 0, none⟩) code.length code.length) /\ BHG w' w.heap.size (w.heap.size + 1) code code.length /\ Ex [] w w' := by
 obtain ⟨i0, hi, hz0, hz1, hz2⟩ := info_parts Rx.info78
 have HR := aa hr
 clear hr
 obtain ⟨n, hn⟩ := exq (code.length)
 have HNN := aa hn
 rw [<- hn] at hcap hcode ⊢
 clear hn
 go_enter Tryz.func49, Tryz.ntmps49
 go_wp2_with (at_make; refine wpList_make_full _ rfl _ _ 113 rfl w.heap.size 109 i0 (.slice none 0 0) 1 Tryz.underlying113 hi hz0 hz1 .i64 .i64 _ _ n rfl rfl (by simp) (by simp) (by rw [hz2]; omega) (by unfold maxLen; omega) (Nat.le_refl _) ?_)
 intro w1 hown1 hg1
 have hx1 : Ex [] w w1 := (Ex.refl _ _).grown hg1 (by simp)
 have hbh : BHG w1 w.heap.size (w.heap.size + 1) code 0 := by
  rcases hown1.2 with ⟨hv, _⟩ | ⟨g', cap', cur, hv, hb', hgg, h1, h2, h3, h4⟩
  ·cases hv
  ·cases hv
   exact ⟨by omega, cur, hgg, by rw [<- HNN.O]; omega, fun i x hi => by omega⟩
 have hl1 : w.heap.size < w1.heap.size := by obtain ⟨ca, hb, _⟩ := hbh.ex; exact hb.lt
 have HX1 := aa hx1
 have HBH := aa hbh
 clear hx1 hbh hown1 hg1
 go_wp2_with fail
 go_loopg [11] n (fun gk i wr => ∃ j : Nat, j + gk = n /\ i = .int .i64 j /\ BHG wr w.heap.size (w.heap.size + 1) code j /\ Ex [] w wr /\ w.heap.size < wr.heap.size)
 case atStart => exact ⟨0, by omega, rfl, HBH.O, HX1.O, hl1⟩
 case round =>
  obtain ⟨j, hj, rfl, hbh, hx, hlr⟩ := hrel
  have HX := aa hx
  have HB := aa hbh
  cases gk with
  |zero =>
   obtain rfl : j = n := by omega
   clear hx hj hbh
   go_wp2_with fail
   go_ret
   exact ⟨rfl, by have := HB.O; exact this, HX.O⟩
  |succ g =>
   have hj' : ((j : Int) < (n : Int)) := by omega
   have hjn : j < code.length := by rw [<- HNN.O]; omega
   obtain ⟨i, hi'⟩ : ∃ i, code[j]? = some i := ⟨code[j], by simp [hjn]⟩
   have hcg' : cg < wr.heap.size := by omega
   have hrr := bo HR.O (hx.block cg hcg (by simp))
   have hcc : ∀ o, o < 7 -> wr.cell? ⟨cg, j * 7 + o, none⟩ = i.cells[o]? := by
    intro o ho
    have h1 := dE code j o i hi' ho
    obtain ⟨v, hv⟩ : ∃ v, i.cells[o]? = some v := ⟨_, List.getElem?_eq_getElem (by simpa [Ins.cells] using ho)⟩
    rw [hv] at h1 ⊢
    have := hrr _ _ h1
    simpa using this
   have HRR := aa hrr
   have HI := aa hi'
   obtain ⟨op, a, c, hh, t0, t1, us⟩ := i
   have k0 := hcc 0 (by omega); have k1 := hcc 1 (by omega); have k2 := hcc 2 (by omega); have k3 := hcc 3 (by omega); have k4 := hcc 4 (by omega)
   have k5 := hcc 5 (by omega); have k6 := hcc 6 (by omega)
   simp only [Ins.cells, List.getElem?_cons_zero, List.getElem?_cons_succ, Nat.add_zero] at k0 k1 k2 k3 k4 k5 k6
   clear hcc hx hbh hi' hrr
   by_cases h0 : op = 0
   ·subst h0
    have hnx : j + 1 < code.length := htk j _ HI.O rfl
    have KEY := aa (fun (w' : World) (hx : Ex [] wr w') => iN code (by rw [<- HNN.O]; exact hcode) hok cg cc (j + 1, 1) w' (Nat.lt_of_lt_of_le hcg' hx.size) (by rw [<- HNN.O]; exact hcap) (bo HRR.O (hx.block cg hcg' (by simp))) hnx (by simp only; omega))
    rw [<- HNN.O] at KEY
    have E := aa (show Value.agg #[.int .i64 ((j : Int) + 1), .int .i64 1] = cx (j + 1, 1) by simp [cx])
    go_wp2_with fail
    rw [E.O]
    refine (KEY.O _ ((Ex.refl _ _).alloc _)).mono ?_
    rintro e w2 ⟨p2, c2, rfl, ho2, hx2⟩
    have hx3 : Ex [] wr w2 := ((Ex.refl _ _).alloc _).trans hx2
    have hB2 := HB.O.ex' hx3
    obtain ⟨ca, hbk, hcs, _⟩ := hB2.ex
    obtain ⟨hcB, hfB⟩ := hbk.all
    have kj : w2.cell? ⟨w.heap.size, j, none⟩ = some (ca[j]'(by omega)) := by rw [hcB, Array.getElem?_eq_getElem (by omega)]
    have kf := hfB j
    have HO2 := aa (dt ho2 (show w.heap.size + 1 <= _ by simp; omega))
    have HX3 := aa hx3
    have HB2 := aa hB2
    obtain ⟨nw, hnw⟩ := exq ((bE code (j + 1, 1)).length)
    rw [<- hnw]
    have HNW := aa hnw
    clear k0 k1 k2 k3 k4 k5 k6 hcB hfB hx2 hx3 hB2 ho2 hbk hnw
    go_wp2_with fail
    go_roundg g
    case measure => omega
    case rel =>
     refine ⟨j + 1, by omega, by simp, ?_, ?_, ?_⟩
     ·have := HB2.O.next hjn HO2.O
      rw [HNW.O]
      exact this
     ·exact (HX.O.trans HX3.O).setCell (Or.inr (by simp)) _
     ·have := HX3.O.size; simp; omega
   ·have h0b : (op == 0) = false := by simpa using h0
    go_wp2_with fail
    go_roundg g
    case measure => omega
    case rel =>
     exact ⟨j + 1, by omega, by simp, (HB.O.ex' ((Ex.refl [] _).alloc _)).skip HI.O h0, HX.O.alloc _, by simp; omega⟩
theorem wO (t : ByteArray) (a b c : UInt8) : Lib.hasPrefix t.data.toList [a, b, c] = decide (aj t 0 = some a /\ aj t 1 = some b /\ aj t 2 = some c) := by
 obtain ⟨⟨l⟩⟩ := t
 unfold Lib.hasPrefix aj
 rw [Bool.eq_iff_iff, decide_eq_true_iff]
 cases l with
 |nil => simp
 |cons x l =>
  cases l with
  |nil => simp
  |cons y l =>
   cases l with
   |nil => simp
   |cons z l =>
    simp only [List.isPrefixOf_cons_cons, List.isPrefixOf_nil_left, Bool.and_true, Bool.and_eq_true, beq_iff_eq, List.getElem?_toArray, List.getElem?_cons_zero, List.getElem?_cons_succ, Option.some.injEq]
    constructor
    ·rintro ⟨h1, h2, h3⟩; exact ⟨h1.symm, h2.symm, h3.symm⟩
    ·rintro ⟨h1, h2, h3⟩; exact ⟨h1.symm, h2.symm, h3.symm⟩
theorem RG.at3 {s : RS} (h : RG w r mb t x s) (h3 : 3 <= t.size) : RG (w.setCell ⟨r, 1, none⟩ (.int .i64 3)) r mb t x { s with k := 3 } :=
 h.own (s' := { s with k := 3 }) rfl _ rfl h3 (by
  have h1 := h.rd
  unfold RD at h1 ⊢
  simp [World.setCell, Array.getElem?_modify, h1])
theorem RG.fold {s : RS} (h : RG w r mb t x s) : RG (w.setCell ⟨r, 3, none⟩ (.bool true)) r mb t x { s with f := true } :=
 h.own (s' := { s with f := true }) rfl _ rfl h.hk (by
  have h1 := h.rd
  unfold RD at h1 ⊢
  simp [World.setCell, Array.getElem?_modify, h1])
theorem ym (h : RG w r mb t x ew) :
  Calls Tryz.prog 84 #[.pointer (some ⟨r, 0, none⟩)] w fun e w' => az [r] r mb t x w (fun _ v _ => v = .tuple #[]) (dA t) e w' := by
 have hpre := wO t 40 63 105
 have h0 := h.rd.c0
 have hlt := h.lt
 have hf1 := h.fz 1
 have hc1 := h.rd.c1
 have H := aa h
 clear h
 by_cases hp : aj t 0 = some 40 /\ aj t 1 = some 63 /\ aj t 2 = some 105
 ·rw [decide_eq_true hp] at hpre
  have h3 : 3 <= t.size := (cG hp.2.2).1
  have HF : Hid (dA t = (ax t { ew with k := 3 } 41).bind fun _ s => .ok () { s with f := true }) := by show dA t = _; unfold dA; rw [if_pos hp]
  clear hp
  go_enter Tryz.func84, Tryz.ntmps84
  go_wp2_with (go_at_call 101; refine (Tryz.strings_HasPrefix _ _ _).mono ?_; rintro e w' ⟨rfl, rfl⟩)
  refine (gD (H.O.at3 h3) 41 41 rfl).mono ?_
  rintro e w1 hp
  rcases hp.split with ⟨_, s1, v, hm, rfl, rfl, hg1, hx1⟩ | ⟨s9, hm, rfl, hg, hx⟩
  rotate_left
  ·exact ab rfl (az.mkBad (by rw [HF.O, hm]; rfl) hg (((Ex.refl _ _).setCell (Or.inl (by simp)) _).trans hx))
  have HM : Hid (dA t = .ok () { s1 with f := true }) := by show dA t = _; rw [HF.O, hm]; rfl
  have hf3 := hg1.fz 3
  have hc3 := hg1.rd.c3
  have hl1 := hg1.lt
  have G1 := aa hg1
  have X1 := aa hx1
  clear hp hm hg1 hx1 h0 hf1 hc1
  go_wp2_with fail
  go_end0
  exact az.mkOk HM.O rfl G1.O.fold ((((Ex.refl _ _).setCell (Or.inl (by simp)) _).trans X1.O).setCell (Or.inl (by simp)) _)
 ·rw [decide_eq_false hp] at hpre
  have HF : Hid (dA t = .ok () ew) := by show dA t = _; unfold dA; rw [if_neg hp]
  clear hp
  go_enter Tryz.func84, Tryz.ntmps84
  go_wp2_with (go_at_call 101; refine (Tryz.strings_HasPrefix _ _ _).mono ?_; rintro e w' ⟨rfl, rfl⟩)
  go_end0
  exact az.mkOk HF.O rfl H.O (Ex.refl _ _)
theorem qW (p q : Addr) (w : World) :
  CallsD Tryz.prog 83 #[.pointer (some p), .pointer (some q)] .returning w fun e u' w' => e = .returned (.tuple #[]) /\ u' = .returning /\ w' = w := by
 refine callsD_of_wpS Tryz.func83 rfl fun c₀ cs hu => ?_
 apply wpS_seq
 apply wpS_region
 simp [wpOpsS, go_sem, recoverD, hu, Tryz.ntmps83, Exit.thenS]
 refine wpS_cond (t := false) (by simp [Act.eval, Array.replicate]) ?_
 simp only [Bool.false_eq_true, if_false]
 refine wpS_of_wp (wp_skip ?_)
 cases c₀
 simp_all [bodyPostS, results, Tryz.results83]
theorem gB {wb ob : Nat} {u : TypeId} {pv : Value} {older : List PanicEntry} {cs : Array Value} {b : Value} (hA : BK w wb (.cells cs 101 (0, 0))) (hs : cs.size = 9) (hB : BK w ob (.cells #[b] 4 (0, 0))) (hne : wb ≠ ob) :
  CallsD Tryz.prog 83 #[.pointer (some ⟨wb, 0, none⟩), .pointer (some ⟨ob, 0, none⟩)] (.panicking ({ v := .iface u pv, recovered := false } :: older)) w fun e u' w' =>
   e = .returned (.tuple #[]) /\ u' = .panicking ({ v := .iface u pv, recovered := true } :: older) /\ BK w' wb (.cells #[.int .i64 0, .slice none 0 0, .int .u64 0, .int .u64 0, .bool false, .int .i64 0, .int .i64 0, .int .i64 0, .bool false] 101 (0, 0)) /\ BK w' ob (.cells #[.bool false] 4 (0, 0)) /\ Ex [wb, ob] w w' := by
 have HSZ : (Tryz.prog.info? 101).map (·.size) = some (#[.int .i64 0, .slice none 0 0, .int .u64 0, .int .u64 0, .bool false, .int .i64 0, .int .i64 0, .int .i64 0, .bool false] : Array Value).size := bv
 have HAL : (#[.int .i64 0, .slice none 0 0, .int .u64 0, .int .u64 0, .bool false, .int .i64 0, .int .i64 0, .int .i64 0, .bool false] : Array Value).all (·.oneCell') = true := by simp [Value.oneCell']
 refine callsD_of_wpS Tryz.func83 rfl fun c₀ cs hu => ?_
 apply wpS_seq
 apply wpS_region
 simp [wpOpsS, go_sem, recoverD, hu, Tryz.ntmps83, Exit.thenS]
 refine wpS_cond (t := true) (by simp [Act.eval, Array.replicate]) ?_
 simp only [if_true]
 refine wpS_of_wp ?_
 have HA := aa hA
 have HB := aa hB
 have hB2 : BK (w.setRow wb #[.int .i64 0, .slice none 0 0, .int .u64 0, .int .u64 0, .bool false, .int .i64 0, .int .i64 0, .int .i64 0, .bool false]) ob (.cells #[b] 4 (0, 0)) := by unfold BK; rw [setRow_other _ _ _ _ (Ne.symm hne)]; exact hB
 have hA2 : BK (w.setRow wb #[.int .i64 0, .slice none 0 0, .int .u64 0, .int .u64 0, .bool false, .int .i64 0, .int .i64 0, .int .i64 0, .bool false]) wb (.cells #[.int .i64 0, .slice none 0 0, .int .u64 0, .int .u64 0, .bool false, .int .i64 0, .int .i64 0, .int .i64 0, .bool false] 101 (0, 0)) := setRow_heap _ _ _ _ _ _ hA
 have hx2 : Ex [wb, ob] w (w.setRow wb #[.int .i64 0, .slice none 0 0, .int .u64 0, .int .u64 0, .bool false, .int .i64 0, .int .i64 0, .int .i64 0, .bool false]) := (Ex.refl _ _).setRow (Or.inl (by simp)) _
 obtain ⟨hcB, hfB⟩ := hB2.all
 have hBl := hB2.lt
 have HB2 := aa hB2
 have HA2 := aa hA2
 have HX2 := aa hx2
 clear hA hB hB2 hA2 hx2
 go_wp2_with (refine wpList_store_row rfl 101 _ _ rfl wb #[.int .i64 0, .slice none 0 0, .int .u64 0, .int .u64 0, .bool false, .int .i64 0, .int .i64 0, .int .i64 0, .bool false] rfl rfl 101 _ HA.O HSZ (by exact hs) HAL ?_)
 have hA3 := HA2.O.set (p := ⟨ob, 0, none⟩) hne (.bool false)
 have hB3 := HB2.O.self 0 (.bool false)
 have hx3 := HX2.O.setCell (p := ⟨ob, 0, none⟩) (Or.inl (by simp)) (.bool false)
 simp only [List.setIfInBounds_toArray, List.set_cons_zero] at hB3
 simp [bodyPostS, results, Tryz.results83]
 exact ⟨hA3, hB3, hx3⟩
def RFP (t : ByteArray) (x : EV) (w : World) (r mb : Nat) (m : Res Pt) (e : Ending) (w' : World) : Prop := match m with
 |.ok p s' => (∃ u : PV, e = .returned (.tuple #[.pointer (some ⟨r, 0, none⟩), u.val, .bool true]) /\ PR w' (Btw w.heap.size w'.heap.size) p u) /\ RG w' r mb t x s' /\ Ex [] w w'
 |.bad s' => e = .returned (.tuple #[.pointer (some ⟨r, 0, none⟩), .agg #[.int .i64 0, .slice none 0 0, .int .u64 0, .int .u64 0, .bool false, .int .i64 0, .int .i64 0, .int .i64 0, .bool false], .bool false]) /\ RG w' r mb t x s' /\ Ex [] w w'
theorem RFP.mkBad {m : Res Pt} {s' : RS} (hm : m = .bad s') (hg : RG w' r mb t x s') (hx : Ex [] w w') : RFP t x w r mb m (.returned (.tuple #[.pointer (some ⟨r, 0, none⟩), .agg #[.int .i64 0, .slice none 0 0, .int .u64 0, .int .u64 0, .bool false, .int .i64 0, .int .i64 0, .int .i64 0, .bool false], .bool false])) w' := by
 subst hm; exact ⟨rfl, hg, hx⟩
theorem RFP.mkOk {m : Res Pt} {p : Pt} {s' : RS} {u : PV} (hm : m = .ok p s') (hp : PR w' (Btw w.heap.size w'.heap.size) p u) (hg : RG w' r mb t x s') (hx : Ex [] w w') : RFP t x w r mb m (.returned (.tuple #[.pointer (some ⟨r, 0, none⟩), u.val, .bool true])) w' := by
 subst hm; exact ⟨⟨u, rfl, hp⟩, hg, hx⟩
theorem wa (hev : w.cell? ⟨0, 0, none⟩ = some (.iface x.1 x.2)) (ht : t.size <= 60) :
  RG ((((w.alloc (Obj.cells #[.int .i64 0, .slice none 0 0, .int .u64 0, .int .u64 0, .bool false, .int .i64 0, .int .i64 0, .int .i64 0, .bool false] 101)).alloc (Obj.cells #[.bool false] 4)).alloc (Obj.map #[] 0)).alloc (Obj.cells #[.string t, .int .i64 0, .int .i64 0, .bool false, .int .i64 0, .map (some (w.heap.size + 1 + 1))] 105)) (w.heap.size + 1 + 1 + 1) (w.heap.size + 1 + 1) t x ew := by
 have hlt := dK hev
 refine ⟨?_, ?_, ?_, by omega, by omega, by omega, Nat.zero_le _, ht, fun _ hx => by simp [ew] at hx⟩
 ·have := heap_alloc_new (((w.alloc (Obj.cells #[.int .i64 0, .slice none 0 0, .int .u64 0, .int .u64 0, .bool false, .int .i64 0, .int .i64 0, .int .i64 0, .bool false] 101)).alloc (Obj.cells #[.bool false] 4)).alloc (Obj.map #[] 0)) (Obj.cells #[.string t, .int .i64 0, .int .i64 0, .bool false, .int .i64 0, .map (some (w.heap.size + 1 + 1))] 105)
  simpa [RD, ew] using this
 ·have := BK.alloc (BK.new ((w.alloc (Obj.cells #[.int .i64 0, .slice none 0 0, .int .u64 0, .int .u64 0, .bool false, .int .i64 0, .int .i64 0, .int .i64 0, .bool false] 101)).alloc (Obj.cells #[.bool false] 4)) (Obj.map #[] 0)) (Obj.cells #[.string t, .int .i64 0, .int .i64 0, .bool false, .int .i64 0, .map (some (w.heap.size + 1 + 1))] 105)
  simp only [World.size_alloc] at this
  exact this
 ·have hx : Ex [] w ((((w.alloc (Obj.cells #[.int .i64 0, .slice none 0 0, .int .u64 0, .int .u64 0, .bool false, .int .i64 0, .int .i64 0, .int .i64 0, .bool false] 101)).alloc (Obj.cells #[.bool false] 4)).alloc (Obj.map #[] 0)).alloc (Obj.cells #[.string t, .int .i64 0, .int .i64 0, .bool false, .int .i64 0, .map (some (w.heap.size + 1 + 1))] 105)) := ((((Ex.refl _ _).alloc _).alloc _).alloc _).alloc _
  exact (hx.cell0.1 _ _ hlt).trans hev
theorem jp (hev : w.cell? ⟨0, 0, none⟩ = some (.iface x.1 x.2)) (ht : t.size <= 60) (hnp : NP t) :
  Calls Tryz.prog 45 #[.string t] w fun e w' => ∃ r mb, w.heap.size <= min r mb /\ RFP t x w r mb (bg t) e w' := by
 have hmf : ∀ (fn : Fn) (first cap : Array Value) (w : World), (Instr.makeFunc fn first cap).run Tryz.prog w = .ok (.func fn first cap) w := fun _ _ _ _ => rfl
 have hmm := @run_makeMap Tryz.prog
 have helt := dK hev
 have HNP := aa hnp
 have HRG := aa (wa hev ht)
 clear hev hnp
 go_enter_defers Tryz.func45, Tryz.ntmps45
 go_wp2_with fail
 refine (ym HRG.O).mono ?_
 rintro e w1 hp
 rcases hp.split with ⟨_, s1, v, hm, rfl, rfl, hg1, hx1⟩ | ⟨s1, hm, rfl, hg1, hx1⟩
 all_goals
  have hA1 : BK w1 w.heap.size (.cells #[.int .i64 0, .slice none 0 0, .int .u64 0, .int .u64 0, .bool false, .int .i64 0, .int .i64 0, .int .i64 0, .bool false] 101 (0, 0)) := ((((BK.new _ _).alloc _).alloc _).alloc _).ex hx1 (by simp; omega)
  have hB1 : BK w1 (w.heap.size + 1) (.cells #[.bool false] 4 (0, 0)) := (((by simpa using BK.new (w.alloc (Obj.cells #[.int .i64 0, .slice none 0 0, .int .u64 0, .int .u64 0, .bool false, .int .i64 0, .int .i64 0, .int .i64 0, .bool false] 101)) (.cells #[.bool false] 4) : BK _ _ _).alloc _).alloc _).ex hx1 (by simp)
  have hX1 : Ex [w.heap.size + 1 + 1 + 1] w w1 := ((((((Ex.refl _ _).alloc _).alloc _).alloc _).alloc _)).trans hx1
  have hz1 : w.heap.size + 1 + 1 + 1 < w1.heap.size := by have := hx1.size; simp at this; omega
 rotate_left
 ·have MM : bg t = .bad s1 := by unfold bg; rw [hm]; rfl
  refine leaves_cons (f := 83) (args := #[.pointer (some ⟨w.heap.size, 0, none⟩), .pointer (some ⟨w.heap.size + 1, 0, none⟩)]) (by simp) (by simp [go_sem]) ?_
  refine (gB hA1 rfl hB1 (by omega)).mono ?_
  rintro e u' w9 ⟨rfl, rfl, hA9, hB9, hx9⟩
  obtain ⟨hcA, hfA⟩ := hA9.all
  obtain ⟨hcB, hfB⟩ := hB9.all
  refine ⟨.tuple #[.pointer (some ⟨w.heap.size + 1 + 1 + 1, 0, none⟩), .agg #[.int .i64 0, .slice none 0 0, .int .u64 0, .int .u64 0, .bool false, .int .i64 0, .int .i64 0, .int .i64 0, .bool false], .bool false], ?_, w.heap.size + 1 + 1 + 1, w.heap.size + 1 + 1, by omega, RFP.mkBad MM (hg1.ex hx9 (by simp only [List.mem_cons, List.not_mem_nil, or_false]; omega) (by simp only [List.mem_cons, List.not_mem_nil, or_false]; omega) (by simp only [List.mem_cons, List.not_mem_nil, or_false]; omega)) ?_⟩
  ·simp [results, Tryz.results45, go_sem, hcA, hcB]
  ·refine Ex.drop (l := [w.heap.size + 1 + 1 + 1, w.heap.size + 1 + 1, w.heap.size, w.heap.size + 1]) ?_ (by simp; omega)
   exact (hX1.drop (by simp)).trans (hx9.drop (by simp))
 have M1 := aa hm
 have G1 := aa hg1
 have A1 := aa hA1
 have B1 := aa hB1
 have X1 := aa hX1
 have hs1 : s1.g <= 5 /\ s1.d = 0 := by
  unfold dA at hm
  split at hm
  ·obtain ⟨_, s2, h1, h2⟩ := Res.bind_eq_ok hm
   obtain ⟨_, rfl⟩ := cM h1
   cases h2; exact ⟨Nat.zero_le _, rfl⟩
  ·cases hm; exact ⟨Nat.zero_le _, rfl⟩
 clear hp hm hg1 hx1 hA1 hB1 hX1 HRG
 go_wp2_with fail
 refine ((sw HNP.O 7 0 (by omega) (by omega)) w1 s1 G1.O hs1.1 hs1.2).mono ?_
 rintro e w2 hp
 rcases hp.split with ⟨q, s2, v, hm, rfl, hRP, hg1, hx1⟩ | ⟨s2, hm, rfl, hg1, hx1⟩
 all_goals
  have hA1 := A1.O.ex hx1 (by simp; omega)
  have hB1 := B1.O.ex hx1 (by simp)
  have hX1 : Ex [w.heap.size + 1 + 1 + 1, w.heap.size + 1 + 1] w w2 := (X1.O.drop (by simp)).trans hx1
  have hz2 : w1.heap.size <= w2.heap.size := hx1.size
 rotate_left
 ·have MM : bg t = .bad s2 := by unfold bg; rw [M1.O, Res.bind_ok, hm]; rfl
  refine leaves_cons (f := 83) (args := #[.pointer (some ⟨w.heap.size, 0, none⟩), .pointer (some ⟨w.heap.size + 1, 0, none⟩)]) (by simp) (by simp [go_sem]) ?_
  refine (gB hA1 rfl hB1 (by omega)).mono ?_
  rintro e u' w9 ⟨rfl, rfl, hA9, hB9, hx9⟩
  obtain ⟨hcA, hfA⟩ := hA9.all
  obtain ⟨hcB, hfB⟩ := hB9.all
  refine ⟨.tuple #[.pointer (some ⟨w.heap.size + 1 + 1 + 1, 0, none⟩), .agg #[.int .i64 0, .slice none 0 0, .int .u64 0, .int .u64 0, .bool false, .int .i64 0, .int .i64 0, .int .i64 0, .bool false], .bool false], ?_, w.heap.size + 1 + 1 + 1, w.heap.size + 1 + 1, by omega, RFP.mkBad MM (hg1.ex hx9 (by simp only [List.mem_cons, List.not_mem_nil, or_false]; omega) (by simp only [List.mem_cons, List.not_mem_nil, or_false]; omega) (by simp only [List.mem_cons, List.not_mem_nil, or_false]; omega)) ?_⟩
  ·simp [results, Tryz.results45, go_sem, hcA, hcB]
  ·refine Ex.drop (l := [w.heap.size + 1 + 1 + 1, w.heap.size + 1 + 1, w.heap.size, w.heap.size + 1]) ?_ (by simp; omega)
   exact (hX1.drop (by simp)).trans (hx9.drop (by simp))
 obtain ⟨u, rfl, hpr⟩ := hRP
 have M2 : Hid (bg t = if s2.k = t.size then .ok q s2 else .bad s2) := by show bg t = _; unfold bg; rw [M1.O, Res.bind_ok, hm]; rfl
 have HPR := aa hpr
 have G2 := aa hg1
 have A2 := aa hA1
 have B2 := aa hB1
 have X2 := aa hX1
 obtain ⟨kd, up, un, uc, ulo, uhi, uhg, ug, ul, um, uz⟩ := u
 have HAL : Hid ((#[.int .i64 kd, .slice up un uc, .int .u64 ulo, .int .u64 uhi, .bool uhg, .int .i64 ug, .int .i64 ul, .int .i64 um, .bool uz] : Array Value).all (·.oneCell') = true) := by show Array.all _ _ = true; simp [Value.oneCell']
 have HSZ : Hid ((Tryz.prog.info? 101).map (·.size) = some (#[.int .i64 kd, .slice up un uc, .int .u64 ulo, .int .u64 uhi, .bool uhg, .int .i64 ug, .int .i64 ul, .int .i64 um, .bool uz] : Array Value).size) := bv
 clear hp hm hg1 hx1 hA1 hB1 hX1 hpr G1 A1 B1 X1 M1
 unfold PV.val
 go_wp2_with (refine wpList_store_row rfl 101 _ _ rfl w.heap.size #[.int .i64 kd, .slice up un uc, .int .u64 ulo, .int .u64 uhi, .bool uhg, .int .i64 ug, .int .i64 ul, .int .i64 um, .bool uz] rfl rfl 101 _ A2.O HSZ.O rfl HAL.O ?_)
 have hX3 : Ex [w.heap.size] w2 (w2.setRow w.heap.size #[.int .i64 kd, .slice up un uc, .int .u64 ulo, .int .u64 uhi, .bool uhg, .int .i64 ug, .int .i64 ul, .int .i64 um, .bool uz]) := (Ex.refl _ _).setRow (Or.inl (by simp)) _
 have G3 := aa (G2.O.ex hX3 (by simp only [List.mem_cons, List.not_mem_nil, or_false]; omega) (by simp only [List.mem_cons, List.not_mem_nil, or_false]; omega) (by simp only [List.mem_cons, List.not_mem_nil, or_false]; omega))
 have A3 := aa (setRow_heap w2 w.heap.size #[.int .i64 0, .slice none 0 0, .int .u64 0, .int .u64 0, .bool false, .int .i64 0, .int .i64 0, .int .i64 0, .bool false] #[.int .i64 kd, .slice up un uc, .int .u64 ulo, .int .u64 uhi, .bool uhg, .int .i64 ug, .int .i64 ul, .int .i64 um, .bool uz] 101 (0, 0) A2.O)
 have B3 := aa (B2.O.ex hX3 (by simp))
 have X3 := aa hX3
 clear hX3
 refine (qT G3.O).mono ?_
 rintro e w4 ⟨rfl, n4, hw4⟩
 have X4 : Hid (Ex [w.heap.size] w2 w4) := by rw [hw4]; exact X3.O.drewN _
 have G4 : Hid (RG w4 (w.heap.size + 1 + 1 + 1) (w.heap.size + 1 + 1) t x s2) := by rw [hw4]; exact G3.O.drewN _
 have A4 : Hid (BK w4 w.heap.size (.cells #[.int .i64 kd, .slice up un uc, .int .u64 ulo, .int .u64 uhi, .bool uhg, .int .i64 ug, .int .i64 ul, .int .i64 um, .bool uz] 101 (0, 0))) := by rw [hw4]; exact BK.drewN A3.O _
 have B4 : Hid (BK w4 (w.heap.size + 1) (.cells #[.bool false] 4 (0, 0))) := by rw [hw4]; exact BK.drewN B3.O _
 clear hw4 X3 G3 A3 B3
 by_cases hend : s2.k = t.size
 rotate_left
 ·rw [decide_eq_false hend]
  have MM : bg t = .bad s2 := by rw [M2.O, if_neg hend]
  have hev4 := G4.O.ev
  have hA1 := A4.O
  have hB1 := B4.O
  have hg1 := G4.O
  have hX1 : Ex [w.heap.size + 1 + 1 + 1, w.heap.size + 1 + 1, w.heap.size] w w4 := (X2.O.drop (by simp)).trans (X4.O.drop (by simp))
  have HMM := aa MM
  have HA1 := aa hA1
  have HB1 := aa hB1
  have HG1 := aa hg1
  have HX1 := aa hX1
  clear MM hA1 hB1 hg1 hX1
  go_wp2_with fail
  have MM := HMM.O
  have hA1 := HA1.O
  have hB1 := HB1.O
  have hg1 := HG1.O
  have hX1 := HX1.O
  refine leaves_cons (f := 83) (args := #[.pointer (some ⟨w.heap.size, 0, none⟩), .pointer (some ⟨w.heap.size + 1, 0, none⟩)]) (by simp) (by simp [go_sem]) ?_
  refine (gB hA1 rfl hB1 (by omega)).mono ?_
  rintro e u' w9 ⟨rfl, rfl, hA9, hB9, hx9⟩
  obtain ⟨hcA, hfA⟩ := hA9.all
  obtain ⟨hcB, hfB⟩ := hB9.all
  refine ⟨.tuple #[.pointer (some ⟨w.heap.size + 1 + 1 + 1, 0, none⟩), .agg #[.int .i64 0, .slice none 0 0, .int .u64 0, .int .u64 0, .bool false, .int .i64 0, .int .i64 0, .int .i64 0, .bool false], .bool false], ?_, w.heap.size + 1 + 1 + 1, w.heap.size + 1 + 1, by omega, RFP.mkBad MM (hg1.ex hx9 (by simp only [List.mem_cons, List.not_mem_nil, or_false]; omega) (by simp only [List.mem_cons, List.not_mem_nil, or_false]; omega) (by simp only [List.mem_cons, List.not_mem_nil, or_false]; omega)) ?_⟩
  ·simp [results, Tryz.results45, go_sem, hcA, hcB]
  ·refine Ex.drop (l := [w.heap.size + 1 + 1 + 1, w.heap.size + 1 + 1, w.heap.size, w.heap.size + 1]) ?_ (by simp; omega)
   exact (hX1.drop (by simp)).trans (hx9.drop (by simp))
 rw [decide_eq_true hend]
 have MM : Hid (bg t = .ok q s2) := by show bg t = _; rw [M2.O, if_pos hend]
 have hPR4 := PR.ex (lo' := w.heap.size + 1 + 1) (hi' := w4.heap.size) HPR.O X4.O (by simp; omega) (by omega) X4.O.size
 have HPR4 := aa hPR4
 have hz4 : w2.heap.size <= w4.heap.size := X4.O.size
 obtain ⟨hcA, hfA⟩ := A4.O.all
 obtain ⟨hcB, hfB⟩ := B4.O.all
 have hlA := A4.O.lt
 have hlB := B4.O.lt
 clear hend hPR4 HPR M2 G2 A2 B2
 go_wp2_with fail
 go_region
 go_wp2_with fail
 refine leaves_cons (f := 83) (args := #[.pointer (some ⟨w.heap.size, 0, none⟩), .pointer (some ⟨w.heap.size + 1, 0, none⟩)]) (by simp) (by simp [go_sem]) ?_
 refine (qW ⟨w.heap.size, 0, none⟩ ⟨w.heap.size + 1, 0, none⟩ _).mono ?_
 rintro e u' w5 ⟨rfl, rfl, hw5⟩
 have hA5 : BK w5 w.heap.size (.cells #[.int .i64 kd, .slice up un uc, .int .u64 ulo, .int .u64 uhi, .bool uhg, .int .i64 ug, .int .i64 ul, .int .i64 um, .bool uz] 101) := by
  have h := vt (af A4) rfl (.int .i64 kd) (.slice up un uc) (.int .u64 ulo) (.int .u64 uhi) (.bool uhg) (.int .i64 ug) (.int .i64 ul) (.int .i64 um) (.bool uz)
  rw [hw5]; exact BK.drew (BK.set h (by simp) _)
 have hB5 : BK w5 (w.heap.size + 1) (.cells #[.bool true] 4) := by
  have h := BK.ex (af B4) (oI w4 w.heap.size (.int .i64 kd) (.slice up un uc) (.int .u64 ulo) (.int .u64 uhi) (.bool uhg) (.int .i64 ug) (.int .i64 ul) (.int .i64 um) (.bool uz)) (by simp)
  have h' := BK.self h 0 (.bool true)
  simp only [List.setIfInBounds_toArray, List.set_cons_zero] at h'
  rw [hw5]; exact BK.drew h'
 have hx5 : Ex [w.heap.size, w.heap.size + 1] w4 w5 := by
  rw [hw5]
  refine Ex.drew (Ex.setCell ?_ (Or.inl (by simp)) _)
  exact (oI w4 w.heap.size (.int .i64 kd) (.slice up un uc) (.int .u64 ulo) (.int .u64 uhi) (.bool uhg) (.int .i64 ug) (.int .i64 ul) (.int .i64 um) (.bool uz)).drop (by simp)
 clear hw5 hcA hfA hcB hfB
 obtain ⟨hcA, hfA⟩ := hA5.all
 obtain ⟨hcB, hfB⟩ := hB5.all
 refine ⟨.tuple #[.pointer (some ⟨w.heap.size + 1 + 1 + 1, 0, none⟩), .agg #[.int .i64 kd, .slice up un uc, .int .u64 ulo, .int .u64 uhi, .bool uhg, .int .i64 ug, .int .i64 ul, .int .i64 um, .bool uz], .bool true], ?_, w.heap.size + 1 + 1 + 1, w.heap.size + 1 + 1, by omega, RFP.mkOk (u := ⟨kd, up, un, uc, ulo, uhi, uhg, ug, ul, um, uz⟩) MM.O ?_ (G4.O.ex hx5 (by simp only [List.mem_cons, List.not_mem_nil, or_false]; omega) (by simp only [List.mem_cons, List.not_mem_nil, or_false]; omega) (by simp only [List.mem_cons, List.not_mem_nil, or_false]; omega)) ?_⟩
 ·simp [results, Tryz.results45, go_sem, hcA, hcB]
 ·exact PR.ex HPR4.O hx5 (by simp; omega) (by omega) hx5.size
 ·refine Ex.drop (l := [w.heap.size + 1 + 1 + 1, w.heap.size + 1 + 1, w.heap.size, w.heap.size + 1]) ?_ (by simp; omega)
  exact ((X2.O.drop (by simp)).trans (X4.O.drop (by simp))).trans (hx5.drop (by simp))
end Go.Proofs.YtfnanjbleifjkaaGreatDoor.G
namespace Go.Proofs.YtfnanjbleifjkaaGreatDoor.Rx.Q
variable {w : World} {k r : Nat} {t : ByteArray}
open Go.RowKit
structure dk where
 d : Nat
 f : Bool
 g : Nat
 m : Value
def RD (w : World) (r : Nat) (t : ByteArray) (k : Nat) (mv : dk) : Prop :=
 w.heap[r]? = some (.cells #[.string t, .int .i64 k, .int .i64 mv.d, .bool mv.f, .int .i64 mv.g, mv.m] 105 (0, 0))
theorem RD.c0 {mv : dk} (h : RD w r t k mv) : w.cell? ⟨r, 0, none⟩ = some (.string t) := by
 rw [cell_of_row w r 0 _ 105 (0, 0) h]; rfl
theorem RD.c1 {mv : dk} (h : RD w r t k mv) : w.cell? ⟨r, 1, none⟩ = some (.int .i64 k) := by
 rw [cell_of_row w r 1 _ 105 (0, 0) h]; rfl
theorem RD.c3 {mv : dk} (h : RD w r t k mv) : w.cell? ⟨r, 3, none⟩ = some (.bool mv.f) := by
 rw [cell_of_row w r 3 _ 105 (0, 0) h]; rfl
theorem RD.drew {mv : dk} (h : RD w r t k mv) (n : Nat) : RD (w.drewN n) r t k mv := h
theorem RD.lt {mv : dk} (h : RD w r t k mv) : r < w.heap.size := (Array.getElem?_eq_some_iff.1 h).1
theorem RD.ex {l : List Nat} {w' : World} {mv : dk} (h : RD w r t k mv) (hx : Ex l w w') (hn : r ∉ l) : RD w' r t k mv := by
 unfold RD; rw [hx.block r h.lt hn]; exact h
theorem RD.step {mv : dk} (h : RD w r t k mv) : RD (w.setCell ⟨r, 1, none⟩ (.int .i64 ((k + 1 : Nat) : Int))) r t (k + 1) mv := by
 unfold RD at h ⊢
 simp [World.setCell, Array.getElem?_modify, h]
theorem RD.f1 {mv : dk} (h : RD w r t k mv) : w.frozen? ⟨r, 1, none⟩ = false := by
 unfold RD at h; simp [World.frozen?, h]
theorem RD.bk {mv : dk} (h : RD w r t k mv) : BK w r (.cells #[.string t, .int .i64 k, .int .i64 mv.d, .bool mv.f, .int .i64 mv.g, mv.m] 105 (0, 0)) := h
end Go.Proofs.YtfnanjbleifjkaaGreatDoor.Rx.Q
namespace Go.Proofs.YtfnanjbleifjkaaGreatDoor.Rx
open Go.RowKit
section
variable {P : Program} {ops : Array Oper} {Q : Exit -> Act -> World -> Prop} {md : Region.Mode} {S : Nat -> World -> Prop} {T : World -> Prop}
end
end Go.Proofs.YtfnanjbleifjkaaGreatDoor.Rx
