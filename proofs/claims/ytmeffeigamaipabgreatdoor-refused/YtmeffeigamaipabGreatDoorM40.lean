/- W6 W7, one behind the other. -/
import Derived.Test.YtmeffeigamaipabGreatDoorM39
import Derived.Deep.RegionLaw
import Derived.Deep.AppendLies
set_option linter.unusedVariables false
set_option linter.unusedSimpArgs false
/- Contracts of the builder of programs, at what the reader made of dots. -/
namespace Go.Proofs.YtmeffeigamaipabGreatDoor.Rx
open Go.RowKit

/-- Below a block number nothing has turned, but for the blocks listed. -/
structure EB (B : Nat) (own : List Nat) (w w' : World) : Prop where
  os : w'.os = w.os
  tape : w'.tape = w.tape
  output : w'.output = w.output
  size : w.heap.size ≤ w'.heap.size
  block : ∀ k, k < B → k ∉ own → w'.heap[k]? = w.heap[k]?

theorem EB.refl (B : Nat) (l : List Nat) (w : World) : EB B l w w := ⟨rfl, rfl, rfl, Nat.le_refl _, fun _ _ _ => rfl⟩
theorem EB.drewN {B : Nat} {l : List Nat} {a w : World} (h : EB B l a w) (n : Nat) : EB B l a (w.drewN n) := ⟨h.os, h.tape, h.output, h.size, h.block⟩
theorem EB.drew {B : Nat} {l : List Nat} {a w : World} (h : EB B l a w) : EB B l a w.drew := ⟨h.os, h.tape, h.output, h.size, h.block⟩
theorem EB.trans {B : Nat} {l : List Nat} {a b c : World} (h : EB B l a b) (k : EB B l b c) : EB B l a c :=
  ⟨k.os.trans h.os, k.tape.trans h.tape, k.output.trans h.output, Nat.le_trans h.size k.size, fun i hi hn => (k.block i hi hn).trans (h.block i hi hn)⟩
theorem EB.mono {B B' : Nat} {l l' : List Nat} {a b : World} (h : EB B l a b) (hB : B' ≤ B) (hl : ∀ x, x ∈ l → x < B' → x ∈ l') : EB B' l' a b :=
  ⟨h.os, h.tape, h.output, h.size, fun i hi hn => h.block i (by omega) (fun hm => hn (hl i hm hi))⟩
theorem EB.alloc {B : Nat} {l : List Nat} {a w : World} (h : EB B l a w) (hB : B ≤ w.heap.size) (o : Obj) : EB B l a (w.alloc o) :=
  h.trans ⟨rfl, rfl, rfl, by simp, fun k hk _ => Below.heap_alloc _ _ _ (by omega)⟩
theorem EB.setCell {B : Nat} {l : List Nat} {a w : World} (h : EB B l a w) {p : Addr} (hp : p.block ∈ l ∨ B ≤ p.block) (u : Value) : EB B l a (w.setCell p u) :=
  ⟨h.os, h.tape, h.output, by simpa [World.setCell] using h.size, fun k hk hn => by
    rw [Below.heap_setCell _ _ _ _ (by rintro rfl; rcases hp with hp | hp; · exact hn hp
                                       · omega)]; exact h.block k hk hn⟩
theorem EB.grown {B : Nat} {l : List Nat} {a w w' : World} {row : Option Nat} (h : EB B l a w) (hg : w.grownBy w' row) (hB : B ≤ w.heap.size) (hr : ∀ k, row = some k → k ∈ l ∨ B ≤ k) : EB B l a w' :=
  ⟨hg.os.trans h.os, hg.tape.trans h.tape, hg.output.trans h.output, Nat.le_trans h.size hg.size, fun k hk hn =>
    (hg.block k (by omega) (fun e => by rcases hr k e.symm with h | h; · exact hn h
                                        · omega)).trans (h.block k hk hn)⟩
theorem EB.ofEx {B : Nat} {l : List Nat} {a w : World} (h : Ex l a w) (hB : B ≤ a.heap.size) : EB B l a w := ⟨h.os, h.tape, h.output, h.size, fun k hk hn => h.block k (by omega) hn⟩
theorem EB.toEx {l : List Nat} {a w : World} (h : EB a.heap.size l a w) : Ex l a w := ⟨h.os, h.tape, h.output, h.size, h.block⟩
theorem BK.eb {B : Nat} {l : List Nat} {w w' : World} {b : Nat} {o : Obj} (h : BK w b o) (hx : EB B l w w') (hb : b < B) (hn : b ∉ l) : BK w' b o := by
  unfold BK; rw [hx.block b hb hn]; exact h

theorem info116 : (Tryz.prog.info? 194).map (fun i => (i.zero, i.size, i.bytes)) = some (some (.agg #[.int .i64 0, .int .u64 0, .int .u64 0, .bool false, .int .i64 0, .int .i64 0, .int .i64 0]), 7, 56) := by kernel_rfl

def insOf (op a c : Int) (h : Bool) : List Value := [.int .i64 op, .int .u64 a, .int .u64 c, .bool h, .int .i64 0, .int .i64 0, .int .i64 0]

set_option maxHeartbeats 1000000 in
set_option maxRecDepth 100000 in
theorem put_any (b base n : Nat) (v : Value) (xs : List Value) (op a c : Int) (h : Bool) (w : World)
    (hb : BK w b (.cells #[v] 189 (0, 0))) (hbb : b < base) (hbw : base ≤ w.heap.size) (hown : w.ownsRow base 194 7 v n xs) (hn : n ≤ 1000) :
    Calls Tryz.prog 117 #[.pointer (some ⟨b, 0, none⟩), .agg #[.int .i64 op, .int .u64 a, .int .u64 c, .bool h, .int .i64 0, .int .i64 0, .int .i64 0]] w fun e w' => e = .returned (.int .i64 n) ∧
      ∃ v', BK w' b (.cells #[v'] 189 (0, 0)) ∧ w'.ownsRow base 194 7 v' (n + 1) (xs ++ insOf op a c h) ∧ EB base [b] w w' := by
  obtain ⟨t0, hi, hz0, hz1, hz2⟩ := info_parts info116
  obtain ⟨p, cp, rfl⟩ := own_slice hown
  obtain ⟨hcb, hfb⟩ := hb.all
  have hbl := hb.lt
  have HO := hide hown
  have HB := hide hb
  clear hown hb
  go_enter Tryz.func117, Tryz.ntmps117
  go_wp2_with fail
  have HN : ∀ j u, (insOf op a c h)[j]? = some u → ((w.alloc (Obj.cells #[.int .i64 op, .int .u64 a, .int .u64 c, .bool h, .int .i64 0, .int .i64 0, .int .i64 0] 194)).alloc (Obj.cells #[.int .i64 op, .int .u64 a, .int .u64 c, .bool h, .int .i64 0, .int .i64 0, .int .i64 0] 194)).drew.cell? ((⟨w.heap.size + 1, 0, none⟩ : Addr).add j) = some u := by
    have h := BK.new (w.alloc (Obj.cells #[.int .i64 op, .int .u64 a, .int .u64 c, .bool h, .int .i64 0, .int .i64 0, .int .i64 0] 194)) (Obj.cells #[.int .i64 op, .int .u64 a, .int .u64 c, .bool h, .int .i64 0, .int .i64 0, .int .i64 0] 194)
    simp only [World.size_alloc] at h
    exact World.news_of_block (BK.drew h)
  have HNN := hide HN
  clear HN
  go_region_law (refine step_append_lies _ rfl (.tmp 9) (.tmp 11) 148 rfl base 194 t0 _ 7 56 Tryz.underlying148 hi hz0 hz1 hz2 rfl (by decide) (.slice p n cp) n xs (by simp [Act.eval, Act.put]) (World.ownsRow.drew ((HO.out.alloc _).alloc _)) ⟨w.heap.size + 1, 0, none⟩ 1 1 (insOf op a c h) (by simp [Act.eval, Act.put]) rfl HNN.out (by simp [insOf, Value.oneCell']) (by decide) (by unfold maxLen; omega) (by omega) (by simp; omega) _ rfl ?_; intro g cap w1 hown1 hgrow hat hlt; have hb1 := BK.grown ((HB.out.alloc _).alloc _).drew hgrow (fun e => by have := own_block HO.out _ e; omega); obtain ⟨hcb1, hfb1⟩ := hb1.all)
  all_goals
    have HB1 := hide hb1
    have HO1 := hide hown1
    have HG1 := hide hgrow
    clear hb1 hown1 hgrow hat
    go_wp2
    go_ret
    refine ⟨by simp, _, BK.self HB1.out 0 _, own_set HO1.out hbb _, ?_⟩
    refine EB.setCell ?_ (Or.inl (by simp)) _
    exact EB.grown ((((EB.refl _ _ _).alloc hbw _).alloc (by simp; omega) _).drew) HG1.out (by simp; omega) (fun k hk => Or.inr (own_block HO.out k hk))
end Go.Proofs.YtmeffeigamaipabGreatDoor.Rx

/- Contracts of the builder of programs, at what the reader made of dots: the program. -/
namespace Go.Proofs.YtmeffeigamaipabGreatDoor.Rx
open Go.RowKit

def takesL : Nat → List Value
  | 0 => []
  | n + 1 => takesL n ++ insOf 0 ones ones true

theorem own_eb {B : Nat} {l : List Nat} {w w' : World} {base : Nat} {e : TypeId} {size : Nat} {v : Value} {n : Nat} {xs : List Value} (h : w.ownsRow base e size v n xs) (hx : EB B l w w') (hl : ∀ k, v.ownBlock = some k → k < B ∧ k ∉ l) : w'.ownsRow base e size v n xs := by
  refine ⟨h.1, ?_⟩
  rcases h.2 with hn | ⟨g, cap, cur, rfl, hb, hgg, rest⟩
  · exact .inl hn
  · refine .inr ⟨g, cap, cur, rfl, hb, ?_, rest⟩
    rw [hx.block g (hl g rfl).1 (hl g rfl).2]
    exact hgg

/-- A builder whose program so far is xs. -/
structure BD (w : World) (b base n : Nat) (xs : List Value) : Prop where
  lt : b < base
  le : base ≤ w.heap.size
  ex : ∃ v, BK w b (.cells #[v] 189 (0, 0)) ∧ w.ownsRow base 194 7 v n xs

theorem BD.alloc {w : World} {b base n : Nat} {xs : List Value} (h : BD w b base n xs) (o : Obj) : BD (w.alloc o) b base n xs := by
  obtain ⟨v, hb, ho⟩ := h.ex
  exact ⟨h.lt, by have := h.le; simp; omega, v, hb.alloc o, ho.alloc o⟩

theorem put_bd {b base n : Nat} {xs : List Value} (op a c : Int) (h : Bool) {w : World} (hd : BD w b base n xs) (hn : n ≤ 1000) :
    Calls Tryz.prog 117 #[.pointer (some ⟨b, 0, none⟩), .agg #[.int .i64 op, .int .u64 a, .int .u64 c, .bool h, .int .i64 0, .int .i64 0, .int .i64 0]] w fun e w' => e = .returned (.int .i64 n) ∧
      BD w' b base (n + 1) (xs ++ insOf op a c h) ∧ EB base [b] w w' := by
  obtain ⟨v, hb, ho⟩ := hd.ex
  refine (put_any b base n v xs op a c h w hb hd.lt hd.le ho hn).mono ?_
  rintro e w' ⟨rfl, v', hb', ho', hx⟩
  exact ⟨rfl, ⟨hd.lt, Nat.le_trans hd.le hx.size, v', hb', ho'⟩, hx⟩

set_option maxHeartbeats 1000000 in
set_option maxRecDepth 100000 in
theorem add_single {b base n : Nat} {xs : List Value} {w : World} (hd : BD w b base n xs) (hn : n ≤ 1000) :
    Calls Tryz.prog 116 #[.pointer (some ⟨b, 0, none⟩), dotPart] w fun e w' => e = .returned (.tuple #[]) ∧ BD w' b base (n + 1) (xs ++ insOf 0 ones ones true) ∧ EB base [b] w w' := by
  have HD := hide hd
  have hle := hd.le
  clear hd
  unfold dotPart
  go_enter Tryz.func116, Tryz.ntmps116
  go_wp2_with fail
  refine (put_bd 0 ones ones true (HD.out.alloc _) hn).mono ?_
  rintro e w1 ⟨rfl, hd1, hx1⟩
  have HD1 := hide hd1
  have HX1 := hide hx1
  clear hd1 hx1
  go_wp2_with fail
  go_end0
  exact ⟨rfl, HD1.out, ((EB.refl _ _ _).alloc hle _).trans HX1.out⟩

set_option maxHeartbeats 1000000 in
set_option maxRecDepth 100000 in
theorem add_seq {b base : Nat} {w : World} (pv : Value) (m pb : Nat) (hd : BD w b base 0 []) (hm : m ≤ 60) (hown : w.ownsRow pb 143 9 pv m (dots m)) (hpl : ∀ k, pv.ownBlock = some k → k < base ∧ k ∉ [b]) :
    Calls Tryz.prog 116 #[.pointer (some ⟨b, 0, none⟩), partOf 1 pv] w fun e w' => e = .returned (.tuple #[]) ∧ BD w' b base m (takesL m) ∧ EB base [b] w w' := by
  have HD := hide hd
  have HO := hide hown
  have HPL := hide hpl
  have hle := hd.le
  obtain ⟨p, c, rfl⟩ := own_slice hown
  clear hd hown hpl
  unfold partOf
  go_enter Tryz.func116, Tryz.ntmps116
  go_wp2_with fail
  go_loopg [20] m (fun gk i wr => ∃ j : Nat, j + gk = m ∧ i = .int .i64 j ∧ BD wr b base j (takesL j) ∧ EB base [b] w wr)
  case atStart => exact ⟨0, by omega, rfl, HD.out.alloc _, (EB.refl _ _ _).alloc hle _⟩
  case round =>
    obtain ⟨j, hj, rfl, hd, hx⟩ := hrel
    have HX := hide hx
    have HDr := hide hd
    cases gk with
    | zero =>
      obtain rfl : j = m := by omega
      clear hx hj hd
      go_wp2_with fail
      go_end0
      exact ⟨rfl, HDr.out, HX.out⟩
    | succ g =>
      have hj' : ((j : Int) < (m : Int)) := by omega
      obtain ⟨g1, c1, hv, hg1, hnc, hcell⟩ := own_dot (own_eb HO.out hx HPL.out) (show j < m by omega)
      simp only [Value.slice.injEq, true_and] at hv
      obtain ⟨rfl, rfl⟩ := hv
      clear hx hd
      have k0 := hcell 0 (by omega); have k1 := hcell 1 (by omega); have k2 := hcell 2 (by omega); have k3 := hcell 3 (by omega); have k4 := hcell 4 (by omega)
      have k5 := hcell 5 (by omega); have k6 := hcell 6 (by omega); have k7 := hcell 7 (by omega); have k8 := hcell 8 (by omega)
      simp only [dotCells, List.getElem?_cons_zero, List.getElem?_cons_succ, Nat.add_zero] at k0 k1 k2 k3 k4 k5 k6 k7 k8
      clear hcell
      go_wp2_with fail
      refine (add_single (HDr.out.alloc _) (by omega)).mono ?_
      rintro e w1 ⟨rfl, hd1, hx1⟩
      have HX1 := hide hx1
      have HD1 := hide hd1
      have hle1 := HDr.out.le
      clear hx1 hd1 k0 k1 k2 k3 k4 k5 k6 k7 k8
      go_wp2_with fail
      go_roundg g
      case measure => omega
      case rel => exact ⟨j + 1, by omega, by simp, HD1.out, (HX.out.alloc hle1 _).trans HX1.out⟩

set_option maxHeartbeats 1000000 in
set_option maxRecDepth 100000 in
theorem addChoice_one {b base : Nat} {w : World} (pv : Value) (m pb g : Nat) (hd : BD w b base 0 []) (hm : m ≤ 60) (hown : w.ownsRow pb 143 9 pv m (dots m)) (hpl : ∀ k, pv.ownBlock = some k → k < base ∧ k ∉ [b])
    (hg : BK w g (.cells #[.int .i64 1, pv, .int .u64 0, .int .u64 0, .bool false, .int .i64 0, .int .i64 0, .int .i64 0, .bool false] 143 (0, 0))) :
    Calls Tryz.prog 135 #[.pointer (some ⟨b, 0, none⟩), .slice (some ⟨g, 0, none⟩) 1 1] w fun e w' => e = .returned (.tuple #[]) ∧ BD w' b base m (takesL m) ∧ EB base [b] w w' := by
  have HD := hide hd
  have HO := hide hown
  have HPL := hide hpl
  obtain ⟨p, c, rfl⟩ := own_slice hown
  obtain ⟨hcG, hfG⟩ := hg.all
  clear hd hown hpl hg
  go_enter Tryz.func135, Tryz.ntmps135
  go_wp2_with fail
  refine wp_loop_rounds 1 ?_
  rw [rounds_succ]
  go_wp2_with fail
  refine (add_seq _ m pb HD.out hm HO.out HPL.out).mono ?_
  rintro e w1 ⟨rfl, hd1, hx1⟩
  have HX1 := hide hx1
  have HD1 := hide hd1
  clear hx1 hd1 hcG hfG
  go_wp2_with fail
  refine wp_loop_rounds 1 ?_
  rw [rounds_succ]
  go_wp2_with fail
  go_end0
  exact ⟨rfl, HD1.out, HX1.out⟩

set_option maxHeartbeats 1000000 in
set_option maxRecDepth 100000 in
theorem add_choice {b base : Nat} {w : World} (pv : Value) (m pb g : Nat) (hd : BD w b base 0 []) (hm : m ≤ 60) (hown : w.ownsRow pb 143 9 pv m (dots m)) (hpl : ∀ k, pv.ownBlock = some k → k < base ∧ k ∉ [b])
    (hg : BK w g (.cells #[.int .i64 1, pv, .int .u64 0, .int .u64 0, .bool false, .int .i64 0, .int .i64 0, .int .i64 0, .bool false] 143 (0, 0))) :
    Calls Tryz.prog 116 #[.pointer (some ⟨b, 0, none⟩), partOf 2 (.slice (some ⟨g, 0, none⟩) 1 1)] w fun e w' => e = .returned (.tuple #[]) ∧ BD w' b base m (takesL m) ∧ EB base [b] w w' := by
  have HD := hide hd
  have HO := hide hown
  have HPL := hide hpl
  have HG := hide hg
  have hle := hd.le
  clear hd hown hpl hg
  unfold partOf
  go_enter Tryz.func116, Tryz.ntmps116
  go_wp2_with fail
  refine (addChoice_one pv m pb g (HD.out.alloc _) hm (HO.out.alloc _) HPL.out (HG.out.alloc _)).mono ?_
  rintro e w1 ⟨rfl, hd1, hx1⟩
  have HX1 := hide hx1
  have HD1 := hide hd1
  clear hx1 hd1
  go_wp2_with fail
  go_end0
  exact ⟨rfl, HD1.out, ((EB.refl _ _ _).alloc hle _).trans HX1.out⟩

def progL (m : Nat) : List Value := takesL m ++ insOf 6 0 0 false

set_option maxHeartbeats 1000000 in
set_option maxRecDepth 100000 in
theorem programOf_dot {w : World} (pv : Value) (m pb g : Nat) (hm : m ≤ 60) (hown : w.ownsRow pb 143 9 pv m (dots m))
    (hg : BK w g (.cells #[.int .i64 1, pv, .int .u64 0, .int .u64 0, .bool false, .int .i64 0, .int .i64 0, .int .i64 0, .bool false] 143 (0, 0))) :
    Calls Tryz.prog 82 #[partOf 2 (.slice (some ⟨g, 0, none⟩) 1 1)] w fun e w' => ∃ v, e = .returned v ∧ w'.ownsRow w.heap.size 194 7 v (m + 1) (progL m) ∧ Ex [] w w' := by
  have HO := hide hown
  have HG := hide hg
  have hol := hown.lt
  clear hown hg
  unfold partOf
  go_enter Tryz.func82, Tryz.ntmps82
  go_wp2_with fail
  have hd0 : BD ((w.alloc (Obj.cells #[.int .i64 2, .slice (some ⟨g, 0, none⟩) 1 1, .int .u64 0, .int .u64 0, .bool false, .int .i64 0, .int .i64 0, .int .i64 0, .bool false] 143)).alloc (Obj.cells #[.slice none 0 0] 189)) (w.heap.size + 1) (w.heap.size + 2) 0 [] :=
    ⟨by omega, by simp, _, by simpa using BK.new (w.alloc (Obj.cells #[.int .i64 2, .slice (some ⟨g, 0, none⟩) 1 1, .int .u64 0, .int .u64 0, .bool false, .int .i64 0, .int .i64 0, .int .i64 0, .bool false] 143)) (Obj.cells #[.slice none 0 0] 189), World.ownsRow_nil _ _ _ _⟩
  refine (add_choice pv m pb g hd0 hm ((HO.out.alloc _).alloc _) (fun k hk => ⟨by have := (hol k hk).2; omega, by have := (hol k hk).2; simp; omega⟩) ((HG.out.alloc _).alloc _)).mono ?_
  rintro e w1 ⟨rfl, hd1, hx1⟩
  have HX1 := hide hx1
  have HD1 := hide hd1
  clear hx1 hd1 hd0 hol
  go_wp2_with fail
  refine (put_bd 6 0 0 false HD1.out (by omega)).mono ?_
  rintro e w2 ⟨rfl, hd2, hx2⟩
  have HX2 := hide hx2
  obtain ⟨v2, hb2, ho2⟩ := hd2.ex
  obtain ⟨hcb, hfb⟩ := hb2.all
  have HO2 := hide ho2
  clear hx2 hd2 ho2 hb2
  go_wp2_with fail
  go_ret
  refine ⟨v2, by simp, own_base HO2.out (by omega), ?_⟩
  exact EB.toEx (((((EB.refl w.heap.size [] w).alloc (Nat.le_refl _) _).alloc (by simp) _).trans (HX1.out.mono (by omega) (by simp))).trans (HX2.out.mono (by omega) (by simp)))
end Go.Proofs.YtmeffeigamaipabGreatDoor.Rx
