import Derived.Test.YtfnanjbleifjkaaGreatDoorM16
set_option linter.unusedVariables false
set_option linter.unusedSimpArgs false
set_option maxHeartbeats 4000000
set_option maxRecDepth 100000
namespace Go.Proofs.YtfnanjbleifjkaaGreatDoor.G
variable {w w1 w2 : World} {base cc cg clk k mb n q : Nat} {code : List Ins}
open Go.RowKit
theorem fk : Maps.Keyed Tryz.prog 112 :=
 Maps.Keyed.of_law (deep_law_laid vR (m := 4) (by omega) (of_decide_eq_true (by kernel_rfl)) (by kernel_rfl) (by rw [Tryz.underlying112]))
def cx (s : Nat × Nat) : Value := .agg #[.int .i64 (s.1 : Int), .int .i64 (s.2 : Int)]
theorem uS {s t : Nat × Nat} (h : cx s = cx t) : s = t := by
 unfold cx at h
 simp only [Value.agg.injEq, Array.mk.injEq, List.cons.injEq, Value.int.injEq, true_and, and_true] at h
 exact Prod.ext (by have := h.1; omega) (by have := h.2; omega)
theorem qd : Tryz.prog.cellsOf 112 = 2 := by kernel_rfl
theorem xj (n : Nat) (hn : n <= 1000000) : (Lit.int .i64 n).wf = true := by
 simp only [Lit.wf, decide_eq_true_eq, Bool.and_eq_true]
 constructor <;> first | omega | (show _ <= (9223372036854775807 : Int); omega) | (show (-9223372036854775808 : Int) <= _; omega)
theorem gT (s : Nat × Nat) (h1 : s.1 <= 1000000) (h2 : s.2 <= 1000000) : ∃ l, keyOf Tryz.prog 112 (cx s) = some l := by
 obtain ⟨m, hm⟩ : ∃ m, Tryz.prog.types.size + 1 = m + 4 := ⟨Tryz.prog.types.size - 3, by have : Tryz.prog.types.size ≥ 3 := of_decide_eq_true (by kernel_rfl); omega⟩
 have hform : (cx s).formed Tryz.prog 112 = true := by simp [cx, Value.formed, Tryz.underlying112, qd]
 have hkt : Tryz.prog.keyType 112 = true := by kernel_rfl
 have hint : ∀ n : Nat, n <= 1000000 -> Tryz.prog.keyLits (m + 3) 3 [.int .i64 n] = some [.int .i64 n] := fun n hn => by
  unfold Program.keyLits
  have := xj n hn
  simp [Tryz.underlying3, this]
 unfold keyOf
 simp only [Tryz.underlying112, hkt, hform, Bool.and_self, if_true]
 have hall : Tryz.prog.keyLits (m + 4) 112 [.int .i64 (s.1 : Int), .int .i64 (s.2 : Int)] = some [.int .i64 s.1, .int .i64 s.2] := by
  unfold Program.keyLits
  simp [Tryz.underlying112, qd, xG, hint s.1 h1, hint s.2 h2, List.range, List.range.loop, List.mapM_cons]
 refine ⟨.string (keyBytes [.int .i64 s.1, .int .i64 s.2]), ?_⟩
 rw [hm, show (cx s).cells.toList = [.int .i64 (s.1 : Int), .int .i64 (s.2 : Int)] from rfl, hall]
 rfl
def fV (es : Array MapEntry) (seen : List (Nat × Nat)) : Prop := es.toList.map (·.key) = seen.map cx /\ (∀ s, s ∈ seen -> s.1 <= 1000000 /\ s.2 <= 1000000) /\ ∀ e ∈ es.toList, e.val = .agg #[]
theorem fV.keyed {es : Array MapEntry} {seen : List (Nat × Nat)} (h : fV es seen) : ∀ e ∈ es.toList, ∃ l, keyOf Tryz.prog 112 e.key = some l := fun e he => by
 have h1 : e.key ∈ seen.map cx := by rw [<- h.1]; exact List.mem_map_of_mem he
 obtain ⟨s, hs, hk⟩ := List.mem_map.1 h1
 rw [<- hk]
 exact gT s (h.2.1 s hs).1 (h.2.1 s hs).2
theorem fV.has {es : Array MapEntry} {seen : List (Nat × Nat)} (h : fV es seen) (s : Nat × Nat) : (∃ e ∈ es.toList, e.key = cx s) ↔ s ∈ seen := by
 constructor
 ·rintro ⟨e, he, hk⟩
  have h1 : e.key ∈ seen.map cx := by rw [<- h.1]; exact List.mem_map_of_mem he
  obtain ⟨t, ht, hk'⟩ := List.mem_map.1 h1
  rw [hk] at hk'
  exact uS hk' ▸ ht
 ·intro hs
  have h1 : cx s ∈ es.toList.map (·.key) := by rw [h.1]; exact List.mem_map_of_mem hs
  obtain ⟨e, he, hk⟩ := List.mem_map.1 h1
  exact ⟨e, he, hk⟩
theorem fV.push {es : Array MapEntry} {seen : List (Nat × Nat)} (h : fV es seen) (s : Nat × Nat) (h1 : s.1 <= 1000000) (h2 : s.2 <= 1000000) (clk : Nat) : fV (es.push { key := cx s, val := .agg #[], born := clk }) (seen ++ [s]) := by
 refine ⟨by simp [h.1], fun t ht => ?_, fun e he => ?_⟩
 ·rcases List.mem_append.1 ht with ht | ht
  ·exact h.2.1 t ht
  ·simp at ht; subst ht; exact ⟨h1, h2⟩
 ·simp only [Array.toList_push, List.mem_append, List.mem_singleton] at he
  rcases he with he | rfl
  ·exact h.2.2 e he
  ·rfl
theorem vh (w : World) : (zeroValue 267).run Tryz.prog w = .ok (.agg #[]) w := by kernel_rfl
theorem my {es : Array MapEntry} {seen : List (Nat × Nat)} {s : Nat × Nat} (hm : w.heap[mb]? = some (.map es clk)) (hk : fV es seen) (h1 : s.1 <= 1000000) (h2 : s.2 <= 1000000) (hno : s ∉ seen) :
  (Instr.lookup 194 (.map (some mb)) (cx s) true).run Tryz.prog w = .ok (.tuple #[.agg #[], .bool false]) w := by
 obtain ⟨l, hl⟩ := gT s h1 h2
 have hg := MapKept.run_getObj_map (P := Tryz.prog) hm
 have hc := fk.check w es.isEmpty hl
 have hf : (Instr.findKey 112 (cx s) es.toList).run Tryz.prog w = .ok none w := by
  rcases fk.find w hl es.toList hk.keyed with ⟨h, _⟩ | ⟨j, e, _, hj, he⟩
  ·exact h
  ·exact absurd ((hk.has s).1 ⟨e, List.mem_of_getElem? hj, he⟩) hno
 unfold Instr.lookup
 simp [run_underlying Tryz.underlying194, hg, hc, hf, vh]
theorem pR {es : Array MapEntry} {seen : List (Nat × Nat)} {s : Nat × Nat} (hm : w.heap[mb]? = some (.map es clk)) (hk : fV es seen) (h1 : s.1 <= 1000000) (h2 : s.2 <= 1000000) (hyes : s ∈ seen) :
  (Instr.lookup 194 (.map (some mb)) (cx s) true).run Tryz.prog w = .ok (.tuple #[.agg #[], .bool true]) w := by
 obtain ⟨l, hl⟩ := gT s h1 h2
 have hg := MapKept.run_getObj_map (P := Tryz.prog) hm
 have hc := fk.check w es.isEmpty hl
 rcases fk.find w hl es.toList hk.keyed with ⟨_, h⟩ | ⟨j, e, hf, hj, he⟩
 ·obtain ⟨e, hm, he⟩ := (hk.has s).2 hyes
  exact absurd he (h e hm)
 ·have hv := hk.2.2 e (List.mem_of_getElem? hj)
  unfold Instr.lookup
  simp [hv, run_underlying Tryz.underlying194, hg, hc, hf]
theorem tM {es : Array MapEntry} {seen : List (Nat × Nat)} {s : Nat × Nat} (v : Value) (hm : w.heap[mb]? = some (.map es clk)) (hk : fV es seen) (h1 : s.1 <= 1000000) (h2 : s.2 <= 1000000) (hno : s ∉ seen) :
  (Instr.mapUpdate 194 (.map (some mb)) (cx s) v).run Tryz.prog w = .ok () (kG w mb (.map (es.push { key := cx s, val := v, born := clk }) (clk + 1))) := by
 obtain ⟨l, hl⟩ := gT s h1 h2
 have hg := MapKept.run_getObj_map (P := Tryz.prog) hm
 have hc := fk.check w false hl
 have hf : (Instr.findKey 112 (cx s) es.toList).run Tryz.prog w = .ok none w := by
  rcases fk.find w hl es.toList hk.keyed with ⟨h, _⟩ | ⟨j, e, _, hj, he⟩
  ·exact h
  ·exact absurd ((hk.has s).1 ⟨e, List.mem_of_getElem? hj, he⟩) hno
 unfold Instr.mapUpdate
 simp [run_underlying Tryz.underlying194, hg, hc, hf, MapKept.run_setObj_map _ hm, kG]
abbrev WS := List (Nat × Nat) × List (Nat × Int)
def orM (s k : Int) : Int := bits .or IntKind.u64 s (IntKind.u64.wrap (2 ^ k.toNat))
def bh (code : List Ins) : Nat -> WS -> Nat × Nat -> Int -> WS
 | 0, s, _, _ => s
 |f + 1, s, h, b =>
  if h ∈ s.1 then s else
  match code[h.1]? with
  |none => s
  |some i =>
   let s1 : WS := (s.1 ++ [h], s.2)
   if i.op = 0 \/ i.op = 6 then (s1.1, s1.2 ++ [(h.1, b)])
   else if i.op = 1 then bh code f (bh code f s1 (i.t0.toNat, h.2) b) (i.t1.toNat, h.2) b
   else if i.op = 2 then bh code f s1 (i.t0.toNat, h.2) b
   else if i.op = 3 then bh code f s1 (h.1 + 1, h.2) (orM b i.sl)
   else if i.op = 4 then bh code f s1 (h.1 + 1, 0) b
   else if i.op = 5 then if h.2 = 1 then bh code f s1 (h.1 + 1, 1) b else s1
   else s1
theorem eE (code : List Ins) : ∀ (f : Nat) (s : WS) (h : Nat × Nat) (b : Int), ∀ x, x ∈ s.1 -> x ∈ (bh code f s h b).1
 | 0, s, h, b, x, hx => hx
 |f + 1, s, h, b, x, hx => by
  have hx1 : x ∈ s.1 ++ [h] := List.mem_append_left _ hx
  unfold bh
  split
  ·exact hx
  ·split
   ·exact hx
   ·dsimp only
    repeat' split
    all_goals first
     |exact hx1
     |exact eE code f _ _ _ x hx1
     |exact eE code f _ _ _ x (eE code f _ _ _ x hx1)
def cP (code : List Ins) : Prop := ∀ k i, code[k]? = some i ->
 (i.op = 0 \/ i.op = 6 \/ (i.op = 1 /\ (∃ a : Nat, (a : Int) = i.t0 /\ a < code.length) /\ ∃ a : Nat, (a : Int) = i.t1 /\ a < code.length) \/ (i.op = 2 /\ ∃ a : Nat, (a : Int) = i.t0 /\ a < code.length) \/ (i.op = 3 /\ k + 1 < code.length /\ ∃ a : Nat, (a : Int) = i.sl /\ a < 64) \/ (i.op = 4 /\ k + 1 < code.length) \/ (i.op = 5 /\ k + 1 < code.length))
def kP (n : Nat) : List (Nat × Nat) := (List.range n).flatMap fun k => [(k, 0), (k, 1)]
theorem qz {h : Nat × Nat} (h1 : h.1 < n) (h2 : h.2 < 2) : h ∈ kP n := by
 obtain ⟨a, b⟩ := h
 simp only [kP, List.mem_flatMap, List.mem_range]
 refine ⟨a, h1, ?_⟩
 simp only at h2
 have : b = 0 \/ b = 1 := by omega
 rcases this with rfl | rfl <;> simp
def left (n : Nat) (seen : List (Nat × Nat)) : Nat := (kP n).countP fun s => decide (s ∉ seen)
theorem iG {α : Type} (p q : α -> Bool) : ∀ (l : List α), (∀ x ∈ l, p x = true -> q x = true) -> (∃ x ∈ l, q x = true /\ p x = false) -> l.countP p < l.countP q
 | [], _, h => by obtain ⟨x, hx, _⟩ := h; cases hx
 |a :: l, h, hex => by
  obtain ⟨x, hx, hq, hp⟩ := hex
  have hmono : l.countP p <= l.countP q := List.countP_mono_left (fun y hy => h y (List.mem_cons_of_mem _ hy))
  rcases List.mem_cons.1 hx with rfl | hx
  ·rw [List.countP_cons, List.countP_cons, hq, hp]
   simp
   omega
  ·have ih := iG p q l (fun y hy => h y (List.mem_cons_of_mem _ hy)) ⟨x, hx, hq, hp⟩
   rw [List.countP_cons, List.countP_cons]
   have ha := h a (List.mem_cons_self ..)
   by_cases hpa : p a = true
   ·rw [hpa, ha hpa]; omega
   ·simp only [Bool.not_eq_true] at hpa
    simp only [hpa, Bool.false_eq_true, if_false]
    by_cases hqa : q a = true
    ·simp only [hqa, if_true]; omega
    ·simp only [hqa, if_false]; omega
theorem mF {s t : List (Nat × Nat)} (h : ∀ x, x ∈ s -> x ∈ t) : left n t <= left n s :=
 List.countP_mono_left (fun x _ hx => by simp only [decide_eq_true_eq] at hx ⊢; exact fun hs => hx (h x hs))
theorem nS {s : List (Nat × Nat)} {h : Nat × Nat} (hn : h ∉ s) (h1 : h.1 < n) (h2 : h.2 < 2) : left n (s ++ [h]) < left n s :=
 iG _ _ _ (fun x _ hx => by simp only [decide_eq_true_eq] at hx ⊢; exact fun hs => hx (List.mem_append_left _ hs)) ⟨h, qz h1 h2, by simpa using hn, by simp⟩
def YB (w : World) (k : Nat) : Prop := ∃ cur fr, w.heap[k]? = some (.cells cur 204 fr)
structure VF (base q mb : Nat) (w w' : World) : Prop where
 os : w'.os = w.os
 tape : w'.tape = w.tape
 output : w'.output = w.output
 size : w.heap.size <= w'.heap.size
 block : ∀ k, k < w.heap.size -> k ≠ q -> k ≠ mb -> (k < base \/ ¬ YB w k) -> w'.heap[k]? = w.heap[k]?
theorem VF.trans (h : VF base q mb w w1) (k : VF base q mb w1 w2) : VF base q mb w w2 :=
 ⟨k.os.trans h.os, k.tape.trans h.tape, k.output.trans h.output, Nat.le_trans h.size k.size, fun i hi hn hm hc => by
  have h1 := h.block i hi hn hm hc
  exact (k.block i (Nat.lt_of_lt_of_le hi h.size) hn hm (hc.imp id (fun hb hI => hb (by obtain ⟨c, f, he⟩ := hI; exact ⟨c, f, h1 ▸ he⟩)))).trans h1⟩
theorem VF.ofEx {l : List Nat} (h : Ex l w w1) (hl : ∀ x, x ∈ l -> x = q \/ x = mb) : VF base q mb w w1 := ⟨h.os, h.tape, h.output, h.size, fun k hk h1 h2 _ => h.block k hk (fun hm => by rcases hl k hm with e | e <;> omega)⟩
theorem VF.alloc (h : VF base q mb w w1) (o : Obj) : VF base q mb w (w1.alloc o) := h.trans (VF.ofEx (l := []) ((Ex.refl _ _).alloc o) (by simp))
theorem VF.drewN (h : VF base q mb w w1) (n : Nat) : VF base q mb w (w1.drewN n) := ⟨h.os, h.tape, h.output, h.size, h.block⟩
theorem VF.grown {row : Option Nat} (h : VF base q mb w w1) (hg : w1.grownBy w2 row) (hr : ∀ k, row = some k -> base <= k /\ YB w1 k) : VF base q mb w w2 :=
 h.trans ⟨hg.os, hg.tape, hg.output, hg.size, fun k hk hn hm hc => hg.block k hk (fun e => by
  obtain ⟨h1, h2⟩ := hr k e.symm
  rcases hc with hc | hc
  ·omega
  ·exact hc h2)⟩
theorem VF.setCell (h : VF base q mb w w1) {p : Addr} (hp : p.block = q) (u : Value) : VF base q mb w (w1.setCell p u) :=
 h.trans ⟨rfl, rfl, rfl, by simp [World.setCell], fun k hk hn hm hc => Below.heap_setCell _ _ _ _ (by omega)⟩
theorem BK.vf {w' : World} {cs : Array Value} {e : TypeId} {fr : Nat × Nat} (h : BK w k (.cells cs e fr)) (hx : VF base q mb w w') (hn : k ≠ q) (hm : k ≠ mb) (he : e ≠ 204) : BK w' k (.cells cs e fr) := by
 unfold BK at h ⊢
 rw [hx.block k (BK.lt h) hn hm (.inr (fun ⟨c, f, hI⟩ => he (by rw [h] at hI; cases hI; rfl)))]
 exact h
def ee (l : List (Nat × Int)) : List Value := l.flatMap fun y => [.int .i64 (y.1 : Int), .int .u64 y.2]
theorem qj (l : List (Nat × Int)) (y : Nat × Int) : ee (l ++ [y]) = ee l ++ [.int .i64 (y.1 : Int), .int .u64 y.2] := by simp [ee]
structure WG (w : World) (q mb cg cc base : Nat) (code : List Ins) (s : WS) : Prop where
 lq : q < base
 lm : mb < base
 lc : cg < base
 le : base <= w.heap.size
 qm : q ≠ mb
 cq : cg ≠ q
 cm : cg ≠ mb
 cap : code.length <= cc
 room : s.2.length + left code.length s.1 <= 200000
 prog : w.rangeAt cg 0 (bO code)
 seen : ∃ es clk, BK w mb (.map es clk) /\ fV es s.1
 ways : ∃ v, BK w q (.cells #[.slice (some ⟨cg, 0, none⟩) code.length cc, .map (some mb), v] 196 (0, 0)) /\ w.ownsRow base 204 2 v s.2.length (ee s.2)
theorem WG.ex {w' : World} {s : WS} (h : WG w q mb cg cc base code s) (hx : Ex [] w w') : WG w' q mb cg cc base code s := by
 obtain ⟨es, clk, hm, hs⟩ := h.seen
 obtain ⟨v, hq, ho⟩ := h.ways
 exact ⟨h.lq, h.lm, h.lc, Nat.le_trans h.le hx.size, h.qm, h.cq, h.cm, h.cap, h.room, bo h.prog (hx.block cg (Nat.lt_of_lt_of_le h.lc h.le) (by simp)), ⟨es, clk, hm.ex hx (by simp), hs⟩, ⟨v, hq.ex hx (by simp), aE ho hx (by simp)⟩⟩
def vH (code : List Ins) (f : Nat) : Prop := ∀ (w : World) (q mb cg cc base : Nat) (s : WS) (h : Nat × Nat) (b : Int), WG w q mb cg cc base code s -> left code.length s.1 < f -> h.1 < code.length -> h.2 < 2 ->
 Calls Tryz.prog 90 #[.pointer (some ⟨q, 0, none⟩), cx h, .int .u64 b] w fun e w' => e = .returned (.tuple #[]) /\ WG w' q mb cg cc base code (bh code f s h b) /\ VF base q mb w w'
theorem sS (code : List Ins) (hcode : code.length <= 100000) (w : World) (q mb cg cc base : Nat) (s : WS) (h : Nat × Nat) (b : Int) (hg : WG w q mb cg cc base code s) (h1 : h.1 < code.length) (h2 : h.2 < 2) (hs : h ∈ s.1) :
  Calls Tryz.prog 90 #[.pointer (some ⟨q, 0, none⟩), cx h, .int .u64 b] w fun e w' => e = .returned (.tuple #[]) /\ Ex [] w w' := by
 obtain ⟨es, clk, hm, hse⟩ := hg.seen
 obtain ⟨v, hq, ho⟩ := hg.ways
 obtain ⟨hcq0, hfq0⟩ := hq.all
 have hql := hq.lt
 have hml := hm.lt
 obtain ⟨k, mo⟩ := h
 have hlk1 := pR (s := (k, mo)) (w := (w.alloc (Obj.cells #[.int .i64 k, .int .i64 mo] 112)).drew) (hm.alloc _).drew hse (by simp only at h1; omega) (by simp only at h2; omega) hs
 have hlk2 := pR (s := (k, mo)) (w := ((w.alloc (Obj.cells #[.int .i64 k, .int .i64 mo] 112)).alloc (Obj.cells #[] 267)).drew) ((hm.alloc _).alloc _).drew hse (by simp only at h1; omega) (by simp only at h2; omega) hs
 unfold cx at hlk1 hlk2 ⊢
 dsimp only at hlk1 hlk2 ⊢
 clear hq hm hg ho hse hs
 go_enter Tryz.func90, Tryz.ntmps90
 go_wp2_with fail
 go_region
 all_goals
  go_wp2_with fail
  try simp only [Exit.inBlock, Exit.then]
  refine bodyPost_ret (results_none rfl _ _ _) rfl ?_
  exact ⟨rfl, (((Ex.refl _ _).alloc _).alloc _).drew⟩
theorem WG.mark {s : WS} {es : Array MapEntry} {seen : List (Nat × Nat)} (h : WG w q mb cg cc base code s) (hx : Ex [mb] w w2) (hm : BK w2 mb (.map es clk)) (hs : fV es seen) (hr : s.2.length + left code.length seen <= 200000) : WG w2 q mb cg cc base code (seen, s.2) := by
 obtain ⟨v, hq, ho⟩ := h.ways
 exact ⟨h.lq, h.lm, h.lc, Nat.le_trans h.le hx.size, h.qm, h.cq, h.cm, h.cap, hr, bo h.prog (hx.block cg (Nat.lt_of_lt_of_le h.lc h.le) (by simpa using h.cm)), ⟨es, clk, hm, hs⟩, ⟨v, hq.ex hx (by simpa using h.qm), aE ho hx (by simpa using h.lm)⟩⟩
theorem WG.ins {s : WS} {i : Ins} (h : WG w q mb cg cc base code s) (hk : code[k]? = some i) : ∀ o, o < 7 -> w.cell? ⟨cg, k * 7 + o, none⟩ = i.cells[o]? := by
 intro o ho
 have h1 := dE code k o i hk ho
 obtain ⟨v, hv⟩ : ∃ v, i.cells[o]? = some v := ⟨_, List.getElem?_eq_getElem (by simpa [Ins.cells] using ho)⟩
 rw [hv] at h1 ⊢
 have := h.prog _ _ h1
 simpa using this
theorem WG.more {w3 w4 : World} {s : WS} {v v' : Value} {b : Int} (h : WG w3 q mb cg cc base code s) (hr : s.2.length + 1 + left code.length s.1 <= 200000) (ho : w3.ownsRow base 204 2 v s.2.length (ee s.2)) (hq : BK w4 q (.cells #[.slice (some ⟨cg, 0, none⟩) code.length cc, .map (some mb), v] 196 (0, 0)))
  (hgrow : w3.grownBy w4 v.ownBlock) (ho4 : w4.ownsRow base 204 2 v' (s.2.length + 1) (ee s.2 ++ [.int .i64 (k : Int), .int .u64 b])) : WG (w4.setCell ⟨q, 2, none⟩ v') q mb cg cc base code (s.1, s.2 ++ [(k, b)]) := by
 have hle := h.le
 have hlq := h.lq
 have hlm := h.lm
 have hlc := h.lc
 have hqm := h.qm
 have hcq := h.cq
 have hcm := h.cm
 have hrow : ∀ x, x < base -> some x ≠ v.ownBlock := fun x hx e => by have := aG ho x e.symm; omega
 obtain ⟨es, clk, hm, hs⟩ := h.seen
 refine ⟨hlq, hlm, hlc, by have := hgrow.size; simp [World.setCell]; omega, hqm, hcq, hcm, h.cap, by simp only [List.length_append, List.length_singleton]; omega, ?_, ⟨es, clk, ?_, hs⟩, ⟨v', ?_, ?_⟩⟩
 ·refine bo h.prog ?_
  rw [Below.heap_setCell _ _ _ _ (by simpa using hcq)]
  exact hgrow.block cg (by omega) (hrow cg hlc)
 ·refine BK.set ?_ (by simpa using hqm.symm) _
  exact BK.grown hm hgrow (fun e => hrow mb hlm e.symm)
 ·exact BK.self hq 2 v'
 ·have := dg ho4 (a := ⟨q, 2, none⟩) hlq v'
  simp only [List.length_append, List.length_singleton, qj]
  exact this
theorem tU {v : Value} {xs : List Value} (h : w.ownsRow base 204 2 v n xs) : ∀ k, v.ownBlock = some k -> base <= k /\ YB w k := by
 intro k hk
 rcases h.2 with ⟨rfl, _⟩ | ⟨g, cap, cur, rfl, hb, hgg, _⟩
 ·simp [Value.ownBlock] at hk
 ·simp [Value.ownBlock] at hk
  subst hk
  exact ⟨hb, cur, _, hgg⟩
theorem rI : (Tryz.prog.info? 204).map (fun i => (i.zero, i.size, i.bytes)) = some (some (.agg #[.int .i64 0, .int .u64 0]), 2, 16) := by kernel_rfl
theorem tH (code : List Ins) (hcode : code.length <= 100000) (hok : cP code) (f : Nat) (ih : vH code f) (w : World) (q mb cg cc base : Nat) (s : WS) (h : Nat × Nat) (b : Int) (hg : WG w q mb cg cc base code s) (hl : left code.length s.1 < f + 1) (h1 : h.1 < code.length) (h2 : h.2 < 2) (hs : h ∉ s.1) :
  Calls Tryz.prog 90 #[.pointer (some ⟨q, 0, none⟩), cx h, .int .u64 b] w fun e w' => e = .returned (.tuple #[]) /\ WG w' q mb cg cc base code (bh code (f + 1) s h b) /\ VF base q mb w w' := by
 obtain ⟨es, clk, hm, hse⟩ := hg.seen
 obtain ⟨v, hq, ho⟩ := hg.ways
 obtain ⟨hcq0, hfq0⟩ := hq.all
 have hql := hq.lt
 have hml := hm.lt
 have hll := nS hs h1 h2
 have hlf : left code.length (s.1 ++ [h]) < f := by omega
 have hroom : s.2.length + 1 + left code.length (s.1 ++ [h]) <= 200000 := by have := hg.room; omega
 obtain ⟨k, mo⟩ := h
 simp only at h1 h2
 have hlk1 := my (s := (k, mo)) (w := (w.alloc (Obj.cells #[.int .i64 k, .int .i64 mo] 112)).drew) (hm.alloc _).drew hse (by simp only; omega) (by simp only; omega) hs
 have hlk2 := my (s := (k, mo)) (w := ((w.alloc (Obj.cells #[.int .i64 k, .int .i64 mo] 112)).alloc (Obj.cells #[] 267)).drew) ((hm.alloc _).alloc _).drew hse (by simp only; omega) (by simp only; omega) hs
 have HM := aa hm
 have HG := aa hg
 have HSE := aa hse
 have HIH := aa ih
 have HOK := aa hok
 have HS := aa hs
 have HLF := aa hlf
 have HROOM := aa hroom
 have hqm := hg.qm
 have hmb1 : mb < w.heap.size := hml
 obtain ⟨i, hi⟩ : ∃ i, code[k]? = some i := ⟨code[k], by simp [h1]⟩
 have HI := aa hi
 have HV := aa (show bh code (f + 1) s (k, mo) b = (if i.op = 0 \/ i.op = 6 then (s.1 ++ [(k, mo)], s.2 ++ [(k, b)])
   else if i.op = 1 then bh code f (bh code f (s.1 ++ [(k, mo)], s.2) (i.t0.toNat, mo) b) (i.t1.toNat, mo) b
   else if i.op = 2 then bh code f (s.1 ++ [(k, mo)], s.2) (i.t0.toNat, mo) b
   else if i.op = 3 then bh code f (s.1 ++ [(k, mo)], s.2) (k + 1, mo) (orM b i.sl)
   else if i.op = 4 then bh code f (s.1 ++ [(k, mo)], s.2) (k + 1, 0) b
   else if i.op = 5 then if mo = 1 then bh code f (s.1 ++ [(k, mo)], s.2) (k + 1, 1) b else (s.1 ++ [(k, mo)], s.2)
   else (s.1 ++ [(k, mo)], s.2)) by rw [bh, if_neg hs]; simp only [hi])
 unfold cx at hlk1 hlk2 ⊢
 dsimp only at hlk1 hlk2 ⊢
 clear hq hm hg ho hse hs hi ih hok hl hll hlf hroom
 go_enter Tryz.func90, Tryz.ntmps90
 go_wp2_with fail
 go_region
 all_goals
  generalize hw1 : World.drew _ = w1
  have hx1 : Ex [] w w1 := by rw [<- hw1]; exact (((Ex.refl _ _).alloc _).alloc _).drew
  have hs1 : BK w1 w.heap.size (.cells #[.int .i64 k, .int .i64 mo] 112 (0, 0)) := by rw [<- hw1]; exact ((BK.new _ _).alloc _).drew
  have hz1 : w.heap.size < w1.heap.size := by rw [<- hw1]; simp [World.drew]; omega
  clear hw1 hlk1 hlk2 hcq0 hfq0
  have hg1 := HG.O.ex hx1
  have hm1 := HM.O.ex hx1 (by simp)
  have hup := tM (s := (k, mo)) (.agg #[]) hm1.drew HSE.O (by simp only; omega) (by simp only; omega) HS.O
  unfold cx at hup
  dsimp only at hup
  obtain ⟨v1, hq1, _⟩ := hg1.ways
  obtain ⟨hcq0, hfq0⟩ := hq1.all
  obtain ⟨hcs0, hfs0⟩ := hs1.all
  have HG1 := aa hg1
  have HM1 := aa hm1
  have HS1 := aa hs1
  have HX1 := aa hx1
  clear hg1 hm1 hs1 hx1 hq1
  go_wp2_with fail
  go_region
 all_goals
  generalize hw2 : kG _ _ _ = w2
  have hxp : Ex [mb] w1 w2 := by rw [<- hw2]; exact ((Ex.refl _ _).drew).trans (r5 _ _ _)
  have hmk : BK w2 mb (.map (es.push { key := cx (k, mo), val := .agg #[], born := clk }) (clk + 1)) := by rw [<- hw2]; exact rA HM1.O.drew
  clear hw2 hup hcq0 hfq0 hcs0 hfs0
  have hg2 := HG1.O.mark hxp hmk (HSE.O.push (k, mo) (by simp only; omega) (by simp only; omega) clk) (by have := HROOM.O; omega)
  have hs2 := HS1.O.ex hxp (by simp; omega)
  have hv2 : VF base q mb w w2 := (VF.ofEx HX1.O (by simp)).trans (VF.ofEx hxp (by simp))
  obtain ⟨hcs0, hfs0⟩ := hs2.all
  have HG2 := aa hg2
  have HV2 := aa hv2
  clear hg2 hs2 hv2 hxp hmk HG1 HM1 HS1 HX1 hql hml
  go_wp2_with fail
  go_quiet (fail)
  generalize hw3 : World.drewN w2 nq = w3
  have hg3 : WG w3 q mb cg cc base code (s.1 ++ [(k, mo)], s.2) := by rw [<- hw3]; exact HG2.O.ex ((Ex.refl _ _).drewN _)
  have hv3 : VF base q mb w w3 := by rw [<- hw3]; exact HV2.O.drewN _
  clear hw3 hcs0 hfs0 HG2 HV2 hz1
  obtain ⟨v3, hq3, ho3⟩ := hg3.ways
  dsimp only at ho3
  obtain ⟨p3, c3, rfl⟩ := aw ho3
  have hql := hq3.lt
  obtain ⟨hcq0, hfq0⟩ := hq3.all
  have hcc := hg3.ins HI.O
  obtain ⟨op, a, c, hh, t0, t1, us⟩ := i
  have k0 := hcc 0 (by omega); have k1 := hcc 1 (by omega); have k2 := hcc 2 (by omega); have k3 := hcc 3 (by omega); have k4 := hcc 4 (by omega)
  have k5 := hcc 5 (by omega); have k6 := hcc 6 (by omega)
  simp only [Ins.cells, List.getElem?_cons_zero, List.getElem?_cons_succ, Nat.add_zero] at k0 k1 k2 k3 k4 k5 k6
  have hk' : (k : Int) < (code.length : Int) := by omega
  have hcap := hg3.cap
  have hcgl : cg < w3.heap.size := Nat.lt_of_lt_of_le hg3.lc hg3.le
  have HG3 := aa hg3
  have HV3 := aa hv3
  have HQ3 := aa hq3
  have HO3 := aa ho3
  clear hcc hg3 hv3 hq3 ho3
  rcases HOK.O k _ HI.O with h0 | h0 | ⟨h0, ⟨a0, e0, l0⟩, a1, e1, l1⟩ | ⟨h0, a0, e0, l0⟩ | ⟨h0, l0, a0, e0, l64⟩ | ⟨h0, l0⟩ | ⟨h0, l0⟩
  ·simp only at h0
   subst h0
   obtain ⟨t0', hi', hzz0, hzz1, hzz2⟩ := info_parts rI
   have HN : Hid (∀ j u, [Value.int .i64 k, .int .u64 b][j]? = some u -> ((w3.alloc (Obj.cells #[.int .i64 0, .int .u64 a, .int .u64 c, .bool hh, .int .i64 t0, .int .i64 t1, .int .i64 us] 192)).alloc (Obj.cells #[.int .i64 k, .int .u64 b] 204)).cell? ((⟨w3.heap.size + 1, 0, none⟩ : Addr).add j) = some u) := by
    have h1 := bu (w3.alloc (Obj.cells #[.int .i64 0, .int .u64 a, .int .u64 c, .bool hh, .int .i64 t0, .int .i64 t1, .int .i64 us] 192)) #[.int .i64 k, .int .u64 b] 204
    simp only [World.size_alloc] at h1
    exact h1
   have hsz3 : base <= w3.heap.size := HG3.O.le
   obtain ⟨ny, hny⟩ := exq (s.2.length)
   have hny2 : ny <= 200000 := by have := HROOM.O; omega
   rw [<- hny] at HO3 HQ3 hcq0
   have HNY := aa hny
   clear hny
   go_wp2_with (at_builtin; refine wpList_append_lies _ rfl (.tmp 47) (.tmp 51) 109 rfl base 204 t0' _ 2 16 Tryz.underlying109 hi' hzz0 hzz1 hzz2 rfl (by decide) (.slice p3 ny c3) ny (ee s.2) rfl ((HO3.O.alloc _).alloc _) ⟨w3.heap.size + 1, 0, none⟩ 1 1 [.int .i64 k, .int .u64 b] rfl rfl HN.O (by simp [Value.oneCell']) (by decide) (by unfold maxLen; omega) (by omega) (by simp; omega) _ rfl ?_)
   intro g cap w4 hown hgrow _ hlt
   have hq4 := BK.grown ((HQ3.O.alloc _).alloc _) hgrow (fun e => by have h9 := aG HO3.O q e; have h8 := HG3.O.lq; omega)
   have HQ4 := aa hq4
   have HGW := aa hgrow
   have HO4 := aa hown
   clear hcq0 hfq0 k0 k1 k2 k3 k4 k5 k6
   obtain ⟨hcq0, hfq0⟩ := hq4.all
   clear hq4 hown hgrow
   go_wp2_with fail
   go_end0
   refine ⟨rfl, ?_, ?_⟩
   ·rw [HV.O, if_pos (by simp)]
    have h9 := WG.more (k := k) (b := b) (v := .slice p3 ny c3) ((HG3.O.ex ((Ex.refl _ _).alloc _)).ex ((Ex.refl _ _).alloc _)) (by have := HROOM.O; simp only; omega) (by have := (HO3.O.alloc (Obj.cells #[.int .i64 0, .int .u64 a, .int .u64 c, .bool hh, .int .i64 t0, .int .i64 t1, .int .i64 us] 192)).alloc (Obj.cells #[.int .i64 k, .int .u64 b] 204); rw [HNY.O] at this ⊢; exact this) HQ4.O HGW.O (by have := HO4.O; rw [HNY.O] at this; exact this)
    rw [HNY.O]
    exact h9
   ·refine VF.setCell (p := ⟨q, 2, none⟩) ?_ rfl _
    exact VF.grown ((HV3.O.alloc _).alloc _) HGW.O (tU ((HO3.O.alloc _).alloc _))
  ·simp only at h0
   subst h0
   obtain ⟨t0', hi', hzz0, hzz1, hzz2⟩ := info_parts rI
   have HN : Hid (∀ j u, [Value.int .i64 k, .int .u64 b][j]? = some u -> ((w3.alloc (Obj.cells #[.int .i64 6, .int .u64 a, .int .u64 c, .bool hh, .int .i64 t0, .int .i64 t1, .int .i64 us] 192)).alloc (Obj.cells #[.int .i64 k, .int .u64 b] 204)).cell? ((⟨w3.heap.size + 1, 0, none⟩ : Addr).add j) = some u) := by
    have h1 := bu (w3.alloc (Obj.cells #[.int .i64 6, .int .u64 a, .int .u64 c, .bool hh, .int .i64 t0, .int .i64 t1, .int .i64 us] 192)) #[.int .i64 k, .int .u64 b] 204
    simp only [World.size_alloc] at h1
    exact h1
   have hsz3 : base <= w3.heap.size := HG3.O.le
   obtain ⟨ny, hny⟩ := exq (s.2.length)
   have hny2 : ny <= 200000 := by have := HROOM.O; omega
   rw [<- hny] at HO3 HQ3 hcq0
   have HNY := aa hny
   clear hny
   go_wp2_with (at_builtin; refine wpList_append_lies _ rfl (.tmp 47) (.tmp 51) 109 rfl base 204 t0' _ 2 16 Tryz.underlying109 hi' hzz0 hzz1 hzz2 rfl (by decide) (.slice p3 ny c3) ny (ee s.2) rfl ((HO3.O.alloc _).alloc _) ⟨w3.heap.size + 1, 0, none⟩ 1 1 [.int .i64 k, .int .u64 b] rfl rfl HN.O (by simp [Value.oneCell']) (by decide) (by unfold maxLen; omega) (by omega) (by simp; omega) _ rfl ?_)
   intro g cap w4 hown hgrow _ hlt
   have hq4 := BK.grown ((HQ3.O.alloc _).alloc _) hgrow (fun e => by have h9 := aG HO3.O q e; have h8 := HG3.O.lq; omega)
   have HQ4 := aa hq4
   have HGW := aa hgrow
   have HO4 := aa hown
   clear hcq0 hfq0 k0 k1 k2 k3 k4 k5 k6
   obtain ⟨hcq0, hfq0⟩ := hq4.all
   clear hq4 hown hgrow
   go_wp2_with fail
   go_end0
   refine ⟨rfl, ?_, ?_⟩
   ·rw [HV.O, if_pos (by simp)]
    have h9 := WG.more (k := k) (b := b) (v := .slice p3 ny c3) ((HG3.O.ex ((Ex.refl _ _).alloc _)).ex ((Ex.refl _ _).alloc _)) (by have := HROOM.O; simp only; omega) (by have := (HO3.O.alloc (Obj.cells #[.int .i64 6, .int .u64 a, .int .u64 c, .bool hh, .int .i64 t0, .int .i64 t1, .int .i64 us] 192)).alloc (Obj.cells #[.int .i64 k, .int .u64 b] 204); rw [HNY.O] at this ⊢; exact this) HQ4.O HGW.O (by have := HO4.O; rw [HNY.O] at this; exact this)
    rw [HNY.O]
    exact h9
   ·refine VF.setCell (p := ⟨q, 2, none⟩) ?_ rfl _
    exact VF.grown ((HV3.O.alloc _).alloc _) HGW.O (tU ((HO3.O.alloc _).alloc _))
  ·simp only at h0 e0 e1
   subst h0 e0 e1
   have KEY := aa (fun (w' : World) (hg : WG w' q mb cg cc base code (s.1 ++ [(k, mo)], s.2)) => HIH.O w' q mb cg cc base (s.1 ++ [(k, mo)], s.2) (a0, mo) b hg HLF.O l0 h2)
   have KEY2 := aa (fun (w' : World) (hg : WG w' q mb cg cc base code (bh code f (s.1 ++ [(k, mo)], s.2) (a0, mo) b)) => HIH.O w' q mb cg cc base _ (a1, mo) b hg (Nat.lt_of_le_of_lt (mF (eE code f _ _ _)) HLF.O) l1 h2)
   have E := aa (show Value.agg #[.int .i64 (a0 : Int), .int .i64 (mo : Int)] = cx (a0, mo) by simp [cx])
   have E2 := aa (show Value.agg #[.int .i64 (a1 : Int), .int .i64 (mo : Int)] = cx (a1, mo) by simp [cx])
   have HINST := aa (BK.new w3 (Obj.cells #[.int .i64 1, .int .u64 a, .int .u64 c, .bool hh, .int .i64 a0, .int .i64 a1, .int .i64 us] 192))
   have hlq := HG3.O.lq
   have hlm := HG3.O.lm
   have hle3 := HG3.O.le
   go_wp2_with fail
   rw [E.O]
   refine (KEY.O _ (HG3.O.ex ((Ex.refl _ _).alloc _))).mono ?_
   rintro e w5 ⟨rfl, hg5, hv5⟩
   have hI5 := BK.vf HINST.O hv5 (by omega) (by omega) (by decide)
   obtain ⟨hcI, hfI⟩ := hI5.all
   have HG5 := aa hg5
   have HV5 := aa ((HV3.O.alloc _).trans hv5)
   clear hg5 hv5 k0 k1 k2 k3 k4 k5 k6 hcq0 hfq0 hI5
   go_wp2_with fail
   rw [E2.O]
   refine (KEY2.O _ HG5.O).mono ?_
   rintro e w6 ⟨rfl, hg6, hv6⟩
   have HG6 := aa hg6
   have HV6 := aa (HV5.O.trans hv6)
   clear hg6 hv6 hcI hfI
   go_wp2_with fail
   go_end0
   refine ⟨rfl, ?_, HV6.O⟩
   rw [HV.O]
   exact HG6.O
  ·simp only at h0 e0
   subst h0 e0
   have KEY := aa (fun (w' : World) (hg : WG w' q mb cg cc base code (s.1 ++ [(k, mo)], s.2)) => HIH.O w' q mb cg cc base (s.1 ++ [(k, mo)], s.2) (a0, mo) b hg HLF.O (by simp only; omega) (by simp only; omega))
   have E := aa (show Value.agg #[.int .i64 (a0 : Int), .int .i64 (mo : Int)] = cx (a0, mo) by simp [cx])
   go_wp2_with fail
   rw [E.O]
   refine (KEY.O _ (HG3.O.ex ((Ex.refl _ _).alloc _))).mono ?_
   rintro e w5 ⟨rfl, hg5, hv5⟩
   have HG5 := aa hg5
   have HV5 := aa ((HV3.O.alloc _).trans hv5)
   clear hg5 hv5 k0 k1 k2 k3 k4 k5 k6 hcq0 hfq0
   go_wp2_with fail
   go_end0
   refine ⟨rfl, ?_, HV5.O⟩
   rw [HV.O]
   exact HG5.O
  ·simp only at h0 e0
   subst h0 e0
   have KEY := aa (fun (w' : World) (hg : WG w' q mb cg cc base code (s.1 ++ [(k, mo)], s.2)) => HIH.O w' q mb cg cc base (s.1 ++ [(k, mo)], s.2) (k + 1, mo) (orM b (a0 : Int)) hg HLF.O (by simp only; omega) (by simp only; omega))
   have E := aa (show Value.agg #[.int .i64 ((k : Int) + 1), .int .i64 (mo : Int)] = cx (k + 1, mo) by simp [cx])
   have E2 := aa (show bits .or IntKind.u64 b (IntKind.u64.wrap (2 ^ a0)) = orM b (a0 : Int) by simp [orM])
   go_wp2_with fail
   rw [E.O, E2.O]
   refine (KEY.O _ (HG3.O.ex ((Ex.refl _ _).alloc _))).mono ?_
   rintro e w5 ⟨rfl, hg5, hv5⟩
   have HG5 := aa hg5
   have HV5 := aa ((HV3.O.alloc _).trans hv5)
   clear hg5 hv5 k0 k1 k2 k3 k4 k5 k6 hcq0 hfq0
   go_wp2_with fail
   go_end0
   refine ⟨rfl, ?_, HV5.O⟩
   rw [HV.O]
   exact HG5.O
  ·simp only at h0
   subst h0
   have KEY := aa (fun (w' : World) (hg : WG w' q mb cg cc base code (s.1 ++ [(k, mo)], s.2)) => HIH.O w' q mb cg cc base (s.1 ++ [(k, mo)], s.2) (k + 1, 0) b hg HLF.O (by simp only; omega) (by simp only; omega))
   have E := aa (show Value.agg #[.int .i64 ((k : Int) + 1), .int .i64 0] = cx (k + 1, 0) by simp [cx])
   go_wp2_with fail
   rw [E.O]
   refine (KEY.O _ (HG3.O.ex ((Ex.refl _ _).alloc _))).mono ?_
   rintro e w5 ⟨rfl, hg5, hv5⟩
   have HG5 := aa hg5
   have HV5 := aa ((HV3.O.alloc _).trans hv5)
   clear hg5 hv5 k0 k1 k2 k3 k4 k5 k6 hcq0 hfq0
   go_wp2_with fail
   go_end0
   refine ⟨rfl, ?_, HV5.O⟩
   rw [HV.O]
   exact HG5.O
  ·simp only at h0
   subst h0
   by_cases hmo : mo = 1
   ·subst hmo
    have KEY := aa (fun (w' : World) (hg : WG w' q mb cg cc base code (s.1 ++ [(k, 1)], s.2)) => HIH.O w' q mb cg cc base (s.1 ++ [(k, 1)], s.2) (k + 1, 1) b hg HLF.O (by simp only; omega) (by simp only; omega))
    have E := aa (show Value.agg #[.int .i64 ((k : Int) + 1), .int .i64 1] = cx (k + 1, 1) by simp [cx])
    go_wp2_with fail
    rw [E.O]
    refine (KEY.O _ (HG3.O.ex ((Ex.refl _ _).alloc _))).mono ?_
    rintro e w5 ⟨rfl, hg5, hv5⟩
    have HG5 := aa hg5
    have HV5 := aa ((HV3.O.alloc _).trans hv5)
    clear hg5 hv5 k0 k1 k2 k3 k4 k5 k6 hcq0 hfq0
    go_wp2_with fail
    go_end0
    refine ⟨rfl, ?_, HV5.O⟩
    rw [HV.O]
    exact HG5.O
   ·obtain rfl : mo = 0 := by omega
    go_wp2_with fail
    go_end0
    refine ⟨rfl, ?_, HV3.O.alloc _⟩
    rw [HV.O]
    exact HG3.O.ex ((Ex.refl _ _).alloc _)
theorem mU (code : List Ins) (hcode : code.length <= 100000) (hok : cP code) : ∀ f, vH code f
 | 0 => fun _ _ _ _ _ _ s h _ _ hl _ _ => by omega
 |f + 1 => fun w q mb cg cc base s h b hg hl h1 h2 => by
  by_cases hs : h ∈ s.1
  ·refine (sS code hcode w q mb cg cc base s h b hg h1 h2 hs).mono ?_
   rintro e w' ⟨rfl, hx⟩
   refine ⟨rfl, ?_, VF.ofEx hx (by simp)⟩
   rw [bh, if_pos hs]
   exact hg.ex hx
  ·exact tH code hcode hok f (mU code hcode hok f) w q mb cg cc base s h b hg hl h1 h2 hs
end Go.Proofs.YtfnanjbleifjkaaGreatDoor.G
