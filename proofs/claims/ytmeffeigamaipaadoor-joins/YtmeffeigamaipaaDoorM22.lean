/- V1 V2 V3, one behind the other. -/
import Derived.Test.YtmeffeigamaipaaDoorM21
import Derived.Test.YtmeffeigamaipaaDoorM02
set_option linter.unusedVariables false
set_option linter.unusedSimpArgs false
/- States of a walk as keys of a map. -/
namespace Go.Proofs.YtmeffeigamaipaaDoor.G
open Go.RowKit

theorem staKeyed : Maps.Keyed Tryd.prog 70 :=
  Maps.Keyed.of_law (deep_law_laid laidOut (m := 4) (by omega) (of_decide_eq_true (by kernel_rfl)) (by kernel_rfl) (by rw [Tryd.underlying70]))

def staV (s : Nat × Nat) : Value := .agg #[.int .i64 (s.1 : Int), .int .i64 (s.2 : Int)]
theorem staV_inj {s t : Nat × Nat} (h : staV s = staV t) : s = t := by
  unfold staV at h
  simp only [Value.agg.injEq, Array.mk.injEq, List.cons.injEq, Value.int.injEq, true_and, and_true] at h
  exact Prod.ext (by have := h.1; omega) (by have := h.2; omega)
theorem cellsSta : Tryd.prog.cellsOf 70 = 2 := by kernel_rfl
theorem int_wf (n : Nat) (hn : n ≤ 1000000) : (Lit.int .i64 n).wf = true := by
  simp only [Lit.wf, decide_eq_true_eq, Bool.and_eq_true]
  constructor <;> first | omega | (show _ ≤ (9223372036854775807 : Int); omega) | (show (-9223372036854775808 : Int) ≤ _; omega)
theorem keyOf_sta (s : Nat × Nat) (h1 : s.1 ≤ 1000000) (h2 : s.2 ≤ 1000000) : ∃ l, keyOf Tryd.prog 70 (staV s) = some l := by
  obtain ⟨m, hm⟩ : ∃ m, Tryd.prog.types.size + 1 = m + 4 := ⟨Tryd.prog.types.size - 3, by have : Tryd.prog.types.size ≥ 3 := of_decide_eq_true (by kernel_rfl); omega⟩
  have hform : (staV s).formed Tryd.prog 70 = true := by simp [staV, Value.formed, Tryd.underlying70, cellsSta]
  have hkt : Tryd.prog.keyType 70 = true := by kernel_rfl
  have hint : ∀ n : Nat, n ≤ 1000000 → Tryd.prog.keyLits (m + 3) 3 [.int .i64 n] = some [.int .i64 n] := fun n hn => by
    unfold Program.keyLits
    have := int_wf n hn
    simp [Tryd.underlying3, this]
  unfold keyOf
  simp only [Tryd.underlying70, hkt, hform, Bool.and_self, if_true]
  have hall : Tryd.prog.keyLits (m + 4) 70 [.int .i64 (s.1 : Int), .int .i64 (s.2 : Int)] = some [.int .i64 s.1, .int .i64 s.2] := by
    unfold Program.keyLits
    simp [Tryd.underlying70, cellsSta, cells3, hint s.1 h1, hint s.2 h2, List.range, List.range.loop, List.mapM_cons]
  refine ⟨.string (keyBytes [.int .i64 s.1, .int .i64 s.2]), ?_⟩
  rw [hm, show (staV s).cells.toList = [.int .i64 (s.1 : Int), .int .i64 (s.2 : Int)] from rfl, hall]
  rfl

def SeenM (es : Array MapEntry) (seen : List (Nat × Nat)) : Prop := es.toList.map (·.key) = seen.map staV ∧ (∀ s, s ∈ seen → s.1 ≤ 1000000 ∧ s.2 ≤ 1000000) ∧ ∀ e ∈ es.toList, e.val = .agg #[]
theorem SeenM.keyed {es : Array MapEntry} {seen : List (Nat × Nat)} (h : SeenM es seen) : ∀ e ∈ es.toList, ∃ l, keyOf Tryd.prog 70 e.key = some l := fun e he => by
  have h1 : e.key ∈ seen.map staV := by rw [← h.1]; exact List.mem_map_of_mem he
  obtain ⟨s, hs, hk⟩ := List.mem_map.1 h1
  rw [← hk]
  exact keyOf_sta s (h.2.1 s hs).1 (h.2.1 s hs).2
theorem SeenM.has {es : Array MapEntry} {seen : List (Nat × Nat)} (h : SeenM es seen) (s : Nat × Nat) : (∃ e ∈ es.toList, e.key = staV s) ↔ s ∈ seen := by
  constructor
  · rintro ⟨e, he, hk⟩
    have h1 : e.key ∈ seen.map staV := by rw [← h.1]; exact List.mem_map_of_mem he
    obtain ⟨t, ht, hk'⟩ := List.mem_map.1 h1
    rw [hk] at hk'
    exact staV_inj hk' ▸ ht
  · intro hs
    have h1 : staV s ∈ es.toList.map (·.key) := by rw [h.1]; exact List.mem_map_of_mem hs
    obtain ⟨e, he, hk⟩ := List.mem_map.1 h1
    exact ⟨e, he, hk⟩
theorem SeenM.push {es : Array MapEntry} {seen : List (Nat × Nat)} (h : SeenM es seen) (s : Nat × Nat) (h1 : s.1 ≤ 1000000) (h2 : s.2 ≤ 1000000) (clk : Nat) : SeenM (es.push { key := staV s, val := .agg #[], born := clk }) (seen ++ [s]) := by
  refine ⟨by simp [h.1], fun t ht => ?_, fun e he => ?_⟩
  · rcases List.mem_append.1 ht with ht | ht
    · exact h.2.1 t ht
    · simp at ht; subst ht; exact ⟨h1, h2⟩
  · simp only [Array.toList_push, List.mem_append, List.mem_singleton] at he
    rcases he with he | rfl
    · exact h.2.2 e he
    · rfl

theorem zeroUnit (w : World) : (zeroValue 118).run Tryd.prog w = .ok (.agg #[]) w := by kernel_rfl

theorem seen_miss {w : World} {mb : Nat} {es : Array MapEntry} {clk : Nat} {seen : List (Nat × Nat)} {s : Nat × Nat} (hm : w.heap[mb]? = some (.map es clk)) (hk : SeenM es seen) (h1 : s.1 ≤ 1000000) (h2 : s.2 ≤ 1000000) (hno : s ∉ seen) :
    (Instr.lookup 100 (.map (some mb)) (staV s) true).run Tryd.prog w = .ok (.tuple #[.agg #[], .bool false]) w := by
  obtain ⟨l, hl⟩ := keyOf_sta s h1 h2
  have hg := MapKept.run_getObj_map (P := Tryd.prog) hm
  have hc := staKeyed.check w es.isEmpty hl
  have hf : (Instr.findKey 70 (staV s) es.toList).run Tryd.prog w = .ok none w := by
    rcases staKeyed.find w hl es.toList hk.keyed with ⟨h, _⟩ | ⟨j, e, _, hj, he⟩
    · exact h
    · exact absurd ((hk.has s).1 ⟨e, List.mem_of_getElem? hj, he⟩) hno
  unfold Instr.lookup
  simp [run_underlying Tryd.underlying100, hg, hc, hf, zeroUnit]

theorem seen_hit {w : World} {mb : Nat} {es : Array MapEntry} {clk : Nat} {seen : List (Nat × Nat)} {s : Nat × Nat} (hm : w.heap[mb]? = some (.map es clk)) (hk : SeenM es seen) (h1 : s.1 ≤ 1000000) (h2 : s.2 ≤ 1000000) (hyes : s ∈ seen) :
    (Instr.lookup 100 (.map (some mb)) (staV s) true).run Tryd.prog w = .ok (.tuple #[.agg #[], .bool true]) w := by
  obtain ⟨l, hl⟩ := keyOf_sta s h1 h2
  have hg := MapKept.run_getObj_map (P := Tryd.prog) hm
  have hc := staKeyed.check w es.isEmpty hl
  rcases staKeyed.find w hl es.toList hk.keyed with ⟨_, h⟩ | ⟨j, e, hf, hj, he⟩
  · obtain ⟨e, hm, he⟩ := (hk.has s).2 hyes
    exact absurd he (h e hm)
  · have hv := hk.2.2 e (List.mem_of_getElem? hj)
    unfold Instr.lookup
    simp [hv, run_underlying Tryd.underlying100, hg, hc, hf]

theorem seen_put {w : World} {mb : Nat} {es : Array MapEntry} {clk : Nat} {seen : List (Nat × Nat)} {s : Nat × Nat} (v : Value) (hm : w.heap[mb]? = some (.map es clk)) (hk : SeenM es seen) (h1 : s.1 ≤ 1000000) (h2 : s.2 ≤ 1000000) (hno : s ∉ seen) :
    (Instr.mapUpdate 100 (.map (some mb)) (staV s) v).run Tryd.prog w = .ok () (putB w mb (.map (es.push { key := staV s, val := v, born := clk }) (clk + 1))) := by
  obtain ⟨l, hl⟩ := keyOf_sta s h1 h2
  have hg := MapKept.run_getObj_map (P := Tryd.prog) hm
  have hc := staKeyed.check w false hl
  have hf : (Instr.findKey 70 (staV s) es.toList).run Tryd.prog w = .ok none w := by
    rcases staKeyed.find w hl es.toList hk.keyed with ⟨h, _⟩ | ⟨j, e, _, hj, he⟩
    · exact h
    · exact absurd ((hk.has s).1 ⟨e, List.mem_of_getElem? hj, he⟩) hno
  unfold Instr.mapUpdate
  simp [run_underlying Tryd.underlying100, hg, hc, hf, MapKept.run_setObj_map _ hm, putB]
end Go.Proofs.YtmeffeigamaipaaDoor.G

/- The ways from a state on that step over no rune: the mirror, and its frame. -/
namespace Go.Proofs.YtmeffeigamaipaaDoor.G
open Go.RowKit

abbrev WS := List (Nat × Nat) × List (Nat × Int)
def orM (s k : Int) : Int := bits .or IntKind.u64 s (IntKind.u64.wrap (2 ^ k.toNat))

def visitM (code : List Ins) : Nat → WS → Nat × Nat → Int → WS
  | 0, s, _, _ => s
  | f + 1, s, h, b =>
    if h ∈ s.1 then s else
    match code[h.1]? with
    | none => s
    | some i =>
      let s1 : WS := (s.1 ++ [h], s.2)
      if i.op = 0 ∨ i.op = 6 then (s1.1, s1.2 ++ [(h.1, b)])
      else if i.op = 1 then visitM code f (visitM code f s1 (i.t0.toNat, h.2) b) (i.t1.toNat, h.2) b
      else if i.op = 2 then visitM code f s1 (i.t0.toNat, h.2) b
      else if i.op = 3 then visitM code f s1 (h.1 + 1, h.2) (orM b i.sl)
      else if i.op = 4 then visitM code f s1 (h.1 + 1, 0) b
      else if i.op = 5 then if h.2 = 1 then visitM code f s1 (h.1 + 1, 1) b else s1
      else s1

theorem visit_seen (code : List Ins) : ∀ (f : Nat) (s : WS) (h : Nat × Nat) (b : Int), ∀ x, x ∈ s.1 → x ∈ (visitM code f s h b).1
  | 0, s, h, b, x, hx => hx
  | f + 1, s, h, b, x, hx => by
    have hx1 : x ∈ s.1 ++ [h] := List.mem_append_left _ hx
    unfold visitM
    split
    · exact hx
    · split
      · exact hx
      · dsimp only
        repeat' split
        all_goals first
          | exact hx1
          | exact visit_seen code f _ _ _ x hx1
          | exact visit_seen code f _ _ _ x (visit_seen code f _ _ _ x hx1)

def CodeOK (code : List Ins) : Prop := ∀ k i, code[k]? = some i →
  (i.op = 0 ∨ i.op = 6 ∨ (i.op = 1 ∧ (∃ a : Nat, (a : Int) = i.t0 ∧ a < code.length) ∧ ∃ a : Nat, (a : Int) = i.t1 ∧ a < code.length) ∨ (i.op = 2 ∧ ∃ a : Nat, (a : Int) = i.t0 ∧ a < code.length) ∨ (i.op = 3 ∧ k + 1 < code.length ∧ ∃ a : Nat, (a : Int) = i.sl ∧ a < 64) ∨ (i.op = 4 ∧ k + 1 < code.length) ∨ (i.op = 5 ∧ k + 1 < code.length))

def states (n : Nat) : List (Nat × Nat) := (List.range n).flatMap fun k => [(k, 0), (k, 1)]
theorem mem_states {n : Nat} {h : Nat × Nat} (h1 : h.1 < n) (h2 : h.2 < 2) : h ∈ states n := by
  obtain ⟨a, b⟩ := h
  simp only [states, List.mem_flatMap, List.mem_range]
  refine ⟨a, h1, ?_⟩
  simp only at h2
  have : b = 0 ∨ b = 1 := by omega
  rcases this with rfl | rfl <;> simp
def left (n : Nat) (seen : List (Nat × Nat)) : Nat := (states n).countP fun s => decide (s ∉ seen)
theorem countP_lt_of {α : Type} (p q : α → Bool) : ∀ (l : List α), (∀ x ∈ l, p x = true → q x = true) → (∃ x ∈ l, q x = true ∧ p x = false) → l.countP p < l.countP q
  | [], _, h => by obtain ⟨x, hx, _⟩ := h; cases hx
  | a :: l, h, hex => by
    obtain ⟨x, hx, hq, hp⟩ := hex
    have hmono : l.countP p ≤ l.countP q := List.countP_mono_left (fun y hy => h y (List.mem_cons_of_mem _ hy))
    rcases List.mem_cons.1 hx with rfl | hx
    · rw [List.countP_cons, List.countP_cons, hq, hp]
      simp
      omega
    · have ih := countP_lt_of p q l (fun y hy => h y (List.mem_cons_of_mem _ hy)) ⟨x, hx, hq, hp⟩
      rw [List.countP_cons, List.countP_cons]
      have ha := h a (List.mem_cons_self ..)
      by_cases hpa : p a = true
      · rw [hpa, ha hpa]; omega
      · simp only [Bool.not_eq_true] at hpa
        simp only [hpa, Bool.false_eq_true, if_false]
        by_cases hqa : q a = true
        · simp only [hqa, if_true]; omega
        · simp only [hqa, if_false]; omega
theorem left_mono {n : Nat} {s t : List (Nat × Nat)} (h : ∀ x, x ∈ s → x ∈ t) : left n t ≤ left n s :=
  List.countP_mono_left (fun x _ hx => by simp only [decide_eq_true_eq] at hx ⊢; exact fun hs => hx (h x hs))
theorem left_lt {n : Nat} {s : List (Nat × Nat)} {h : Nat × Nat} (hn : h ∉ s) (h1 : h.1 < n) (h2 : h.2 < 2) : left n (s ++ [h]) < left n s :=
  countP_lt_of _ _ _ (fun x _ hx => by simp only [decide_eq_true_eq] at hx ⊢; exact fun hs => hx (List.mem_append_left _ hs)) ⟨h, mem_states h1 h2, by simpa using hn, by simp⟩

def YB (w : World) (k : Nat) : Prop := ∃ cur fr, w.heap[k]? = some (.cells cur 110 fr)
structure VF (base q mb : Nat) (w w' : World) : Prop where
  os : w'.os = w.os
  tape : w'.tape = w.tape
  output : w'.output = w.output
  size : w.heap.size ≤ w'.heap.size
  block : ∀ k, k < w.heap.size → k ≠ q → k ≠ mb → (k < base ∨ ¬ YB w k) → w'.heap[k]? = w.heap[k]?
theorem VF.trans {base q mb : Nat} {w w1 w2 : World} (h : VF base q mb w w1) (k : VF base q mb w1 w2) : VF base q mb w w2 :=
  ⟨k.os.trans h.os, k.tape.trans h.tape, k.output.trans h.output, Nat.le_trans h.size k.size, fun i hi hn hm hc => by
    have h1 := h.block i hi hn hm hc
    exact (k.block i (Nat.lt_of_lt_of_le hi h.size) hn hm (hc.imp id (fun hb hI => hb (by obtain ⟨c, f, he⟩ := hI; exact ⟨c, f, h1 ▸ he⟩)))).trans h1⟩
theorem VF.ofEx {base q mb : Nat} {w w1 : World} {l : List Nat} (h : Ex l w w1) (hl : ∀ x, x ∈ l → x = q ∨ x = mb) : VF base q mb w w1 := ⟨h.os, h.tape, h.output, h.size, fun k hk h1 h2 _ => h.block k hk (fun hm => by rcases hl k hm with e | e <;> omega)⟩
theorem VF.alloc {base q mb : Nat} {w w1 : World} (h : VF base q mb w w1) (o : Obj) : VF base q mb w (w1.alloc o) := h.trans (VF.ofEx (l := []) ((Ex.refl _ _).alloc o) (by simp))
theorem VF.drewN {base q mb : Nat} {w w1 : World} (h : VF base q mb w w1) (n : Nat) : VF base q mb w (w1.drewN n) := ⟨h.os, h.tape, h.output, h.size, h.block⟩
theorem VF.grown {base q mb : Nat} {w w1 w2 : World} {row : Option Nat} (h : VF base q mb w w1) (hg : w1.grownBy w2 row) (hr : ∀ k, row = some k → base ≤ k ∧ YB w1 k) : VF base q mb w w2 :=
  h.trans ⟨hg.os, hg.tape, hg.output, hg.size, fun k hk hn hm hc => hg.block k hk (fun e => by
    obtain ⟨h1, h2⟩ := hr k e.symm
    rcases hc with hc | hc
    · omega
    · exact hc h2)⟩
theorem VF.setCell {base q mb : Nat} {w w1 : World} (h : VF base q mb w w1) {p : Addr} (hp : p.block = q) (u : Value) : VF base q mb w (w1.setCell p u) :=
  h.trans ⟨rfl, rfl, rfl, by simp [World.setCell], fun k hk hn hm hc => Below.heap_setCell _ _ _ _ (by omega)⟩
theorem BK.vf {base q mb : Nat} {w w' : World} {k : Nat} {cs : Array Value} {e : TypeId} {fr : Nat × Nat} (h : BK w k (.cells cs e fr)) (hx : VF base q mb w w') (hn : k ≠ q) (hm : k ≠ mb) (he : e ≠ 110) : BK w' k (.cells cs e fr) := by
  unfold BK at h ⊢
  rw [hx.block k (BK.lt h) hn hm (.inr (fun ⟨c, f, hI⟩ => he (by rw [h] at hI; cases hI; rfl)))]
  exact h

def waysL (l : List (Nat × Int)) : List Value := l.flatMap fun y => [.int .i64 (y.1 : Int), .int .u64 y.2]
theorem waysL_snoc (l : List (Nat × Int)) (y : Nat × Int) : waysL (l ++ [y]) = waysL l ++ [.int .i64 (y.1 : Int), .int .u64 y.2] := by simp [waysL]

structure WG (w : World) (q mb cg cc base : Nat) (code : List Ins) (s : WS) : Prop where
  lq : q < base
  lm : mb < base
  lc : cg < base
  le : base ≤ w.heap.size
  qm : q ≠ mb
  cq : cg ≠ q
  cm : cg ≠ mb
  cap : code.length ≤ cc
  room : s.2.length + left code.length s.1 ≤ 200000
  prog : w.rangeAt cg 0 (codeL code)
  seen : ∃ es clk, BK w mb (.map es clk) ∧ SeenM es s.1
  ways : ∃ v, BK w q (.cells #[.slice (some ⟨cg, 0, none⟩) code.length cc, .map (some mb), v] 102 (0, 0)) ∧ w.ownsRow base 110 2 v s.2.length (waysL s.2)
end Go.Proofs.YtmeffeigamaipaaDoor.G

/- The walk: visit. -/
namespace Go.Proofs.YtmeffeigamaipaaDoor.G
open Go.RowKit

theorem WG.ex {w w' : World} {q mb cg cc base : Nat} {code : List Ins} {s : WS} (h : WG w q mb cg cc base code s) (hx : Ex [] w w') : WG w' q mb cg cc base code s := by
  obtain ⟨es, clk, hm, hs⟩ := h.seen
  obtain ⟨v, hq, ho⟩ := h.ways
  exact ⟨h.lq, h.lm, h.lc, Nat.le_trans h.le hx.size, h.qm, h.cq, h.cm, h.cap, h.room, range_same h.prog (hx.block cg (Nat.lt_of_lt_of_le h.lc h.le) (by simp)), ⟨es, clk, hm.ex hx (by simp), hs⟩, ⟨v, hq.ex hx (by simp), own_ex ho hx (by simp)⟩⟩

def VisitC (code : List Ins) (f : Nat) : Prop := ∀ (w : World) (q mb cg cc base : Nat) (s : WS) (h : Nat × Nat) (b : Int), WG w q mb cg cc base code s → left code.length s.1 < f → h.1 < code.length → h.2 < 2 →
  Calls Tryd.prog 36 #[.pointer (some ⟨q, 0, none⟩), staV h, .int .u64 b] w fun e w' => e = .returned (.tuple #[]) ∧ WG w' q mb cg cc base code (visitM code f s h b) ∧ VF base q mb w w'

set_option maxHeartbeats 2000000 in
set_option maxRecDepth 100000 in
theorem visit_old (code : List Ins) (hcode : code.length ≤ 100000) (w : World) (q mb cg cc base : Nat) (s : WS) (h : Nat × Nat) (b : Int) (hg : WG w q mb cg cc base code s) (h1 : h.1 < code.length) (h2 : h.2 < 2) (hs : h ∈ s.1) :
    Calls Tryd.prog 36 #[.pointer (some ⟨q, 0, none⟩), staV h, .int .u64 b] w fun e w' => e = .returned (.tuple #[]) ∧ Ex [] w w' := by
  obtain ⟨es, clk, hm, hse⟩ := hg.seen
  obtain ⟨v, hq, ho⟩ := hg.ways
  obtain ⟨hcq0, hfq0⟩ := hq.all
  have hql := hq.lt
  have hml := hm.lt
  obtain ⟨k, mo⟩ := h
  have hlk1 := seen_hit (s := (k, mo)) (w := (w.alloc (Obj.cells #[.int .i64 k, .int .i64 mo] 70)).drew) (hm.alloc _).drew hse (by simp only at h1; omega) (by simp only at h2; omega) hs
  have hlk2 := seen_hit (s := (k, mo)) (w := ((w.alloc (Obj.cells #[.int .i64 k, .int .i64 mo] 70)).alloc (Obj.cells #[] 118)).drew) ((hm.alloc _).alloc _).drew hse (by simp only at h1; omega) (by simp only at h2; omega) hs
  unfold staV at hlk1 hlk2 ⊢
  dsimp only at hlk1 hlk2 ⊢
  clear hq hm hg ho hse hs
  go_enter Tryd.func36, Tryd.ntmps36
  go_wp2_with fail
  go_region
  all_goals
    go_wp2_with fail
    try simp only [Exit.inBlock, Exit.then]
    refine bodyPost_ret (results_none rfl _ _ _) rfl ?_
    exact ⟨rfl, (((Ex.refl _ _).alloc _).alloc _).drew⟩
end Go.Proofs.YtmeffeigamaipaaDoor.G
