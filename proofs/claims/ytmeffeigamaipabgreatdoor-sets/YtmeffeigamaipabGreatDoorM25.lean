/- K10 V1 V2 V3, one behind the other. -/
import Derived.Test.YtmeffeigamaipabGreatDoorM24
import Derived.Test.YtmeffeigamaipabGreatDoorM06
set_option linter.unusedVariables false
set_option linter.unusedSimpArgs false
/- The program of a whole pattern. -/
namespace Go.Proofs.YtmeffeigamaipabGreatDoor.G
open Go.RowKit

def progM (q : Pt) : List Ins := addM q [] ++ [bare 6]
theorem progM_len (q : Pt) : (progM q).length = isz q + 1 := by simp [progM, addM_len]

theorem own_lower {w : World} {b b' : Nat} {e : TypeId} {size : Nat} {v : Value} {n : Nat} {xs : List Value} (h : w.ownsRow b e size v n xs) (hb : b' ≤ b) : w.ownsRow b' e size v n xs := by
  refine ⟨h.1, ?_⟩
  rcases h.2 with hn | ⟨g, cap, cur, rfl, hg, rest⟩
  · exact .inl hn
  · exact .inr ⟨g, cap, cur, rfl, by omega, rest⟩

set_option maxHeartbeats 1000000 in
set_option maxRecDepth 100000 in
theorem programOf_any (q : Pt) (v : PV) (B : Nat → Prop) (w : World) (hq : PR w B q v) (hB : ∀ g, B g → g < w.heap.size) (hw : WOK q) (hn : isz q ≤ 98000) :
    Calls Tryz.prog 82 #[v.val] w fun e w' => ∃ p c, e = .returned (.slice p (progM q).length c) ∧ w'.ownsRow w.heap.size 194 7 (.slice p (progM q).length c) (progM q).length (codeL (progM q)) ∧ Ex [] w w' := by
  have HQ := hide hq
  have HB := hide hB
  have HW := hide hw
  clear hq hB hw
  obtain ⟨kd', p', n', c', lo', hi', hg', gr', l', m', z'⟩ := v
  unfold PV.val
  dsimp only
  go_enter Tryz.func82, Tryz.ntmps82
  go_wp2_with fail
  have hd0 : BG ((w.alloc (Obj.cells #[.int .i64 kd', .slice p' n' c', .int .u64 lo', .int .u64 hi', .bool hg', .int .i64 gr', .int .i64 l', .int .i64 m', .bool z'] 143)).alloc (Obj.cells #[.slice none 0 0] 189)) (w.heap.size + 1) (w.heap.size + 2) [] :=
    ⟨by omega, by simp, _, by simpa using BK.new (w.alloc (Obj.cells #[.int .i64 kd', .slice p' n' c', .int .u64 lo', .int .u64 hi', .bool hg', .int .i64 gr', .int .i64 l', .int .i64 m', .bool z'] 143)) (Obj.cells #[.slice none 0 0] 189), World.ownsRow_nil _ _ _ _⟩
  have hx0 : Ex [] w ((w.alloc (Obj.cells #[.int .i64 kd', .slice p' n' c', .int .u64 lo', .int .u64 hi', .bool hg', .int .i64 gr', .int .i64 l', .int .i64 m', .bool z'] 143)).alloc (Obj.cells #[.slice none 0 0] 189)) := ((Ex.refl _ _).alloc _).alloc _
  refine (add_all q ⟨kd', p', n', c', lo', hi', hg', gr', l', m', z'⟩ _ (w.heap.size + 1) (w.heap.size + 2) [] hd0 (HQ.out.frame (fun g hg => ⟨by have := HB.out g hg; omega, by have := HB.out g hg; omega⟩) hx0.size (fun g hg hlt => hx0.block g hlt (by simp)) _ _) HW.out (by simp; omega)).mono ?_
  rintro e w1 ⟨rfl, hd1, hx1⟩
  have HX1 := hide ((EB.ofEx hx0 (Nat.le_refl _)).trans ((hx1.toEB hd0.le).mono (B' := w.heap.size) (l' := []) (by omega) (by simp)))
  have HD1 := hide hd1
  clear hx1 hd1 hd0 hx0
  go_wp2_with fail
  refine (put_bare 6 HD1.out (by rw [addM_len]; simp; omega)).mono ?_
  rintro e w2 ⟨rfl, hd2, hx2⟩
  have HX2 := hide (HX1.out.trans ((hx2.toEB HD1.out.le).mono (B' := w.heap.size) (l' := []) (by omega) (by simp)))
  obtain ⟨v2, hb2, ho2⟩ := hd2.ex
  obtain ⟨p2, c2, rfl⟩ := own_slice ho2
  obtain ⟨hcb, hfb⟩ := hb2.all
  have HO2 := hide ho2
  clear hx2 hd2 ho2 hb2
  go_wp2_with fail
  go_ret
  exact ⟨p2, c2, by simp [progM], own_lower HO2.out (by omega), HX2.out.toEx⟩
end Go.Proofs.YtmeffeigamaipabGreatDoor.G

/- States of a walk as keys of a map. -/
namespace Go.Proofs.YtmeffeigamaipabGreatDoor.G
open Go.RowKit

theorem staKeyed : Maps.Keyed Tryz.prog 153 :=
  Maps.Keyed.of_law (deep_law_laid laidOut (m := 4) (by omega) (of_decide_eq_true (by kernel_rfl)) (by kernel_rfl) (by rw [Tryz.underlying153]))

def staV (s : Nat × Nat) : Value := .agg #[.int .i64 (s.1 : Int), .int .i64 (s.2 : Int)]
theorem staV_inj {s t : Nat × Nat} (h : staV s = staV t) : s = t := by
  unfold staV at h
  simp only [Value.agg.injEq, Array.mk.injEq, List.cons.injEq, Value.int.injEq, true_and, and_true] at h
  exact Prod.ext (by have := h.1; omega) (by have := h.2; omega)
theorem cellsSta : Tryz.prog.cellsOf 153 = 2 := by kernel_rfl
theorem int_wf (n : Nat) (hn : n ≤ 1000000) : (Lit.int .i64 n).wf = true := by
  simp only [Lit.wf, decide_eq_true_eq, Bool.and_eq_true]
  constructor <;> first | omega | (show _ ≤ (9223372036854775807 : Int); omega) | (show (-9223372036854775808 : Int) ≤ _; omega)
theorem keyOf_sta (s : Nat × Nat) (h1 : s.1 ≤ 1000000) (h2 : s.2 ≤ 1000000) : ∃ l, keyOf Tryz.prog 153 (staV s) = some l := by
  obtain ⟨m, hm⟩ : ∃ m, Tryz.prog.types.size + 1 = m + 4 := ⟨Tryz.prog.types.size - 3, by have : Tryz.prog.types.size ≥ 3 := of_decide_eq_true (by kernel_rfl); omega⟩
  have hform : (staV s).formed Tryz.prog 153 = true := by simp [staV, Value.formed, Tryz.underlying153, cellsSta]
  have hkt : Tryz.prog.keyType 153 = true := by kernel_rfl
  have hint : ∀ n : Nat, n ≤ 1000000 → Tryz.prog.keyLits (m + 3) 3 [.int .i64 n] = some [.int .i64 n] := fun n hn => by
    unfold Program.keyLits
    have := int_wf n hn
    simp [Tryz.underlying3, this]
  unfold keyOf
  simp only [Tryz.underlying153, hkt, hform, Bool.and_self, if_true]
  have hall : Tryz.prog.keyLits (m + 4) 153 [.int .i64 (s.1 : Int), .int .i64 (s.2 : Int)] = some [.int .i64 s.1, .int .i64 s.2] := by
    unfold Program.keyLits
    simp [Tryz.underlying153, cellsSta, cells3, hint s.1 h1, hint s.2 h2, List.range, List.range.loop, List.mapM_cons]
  refine ⟨.string (keyBytes [.int .i64 s.1, .int .i64 s.2]), ?_⟩
  rw [hm, show (staV s).cells.toList = [.int .i64 (s.1 : Int), .int .i64 (s.2 : Int)] from rfl, hall]
  rfl

def SeenM (es : Array MapEntry) (seen : List (Nat × Nat)) : Prop := es.toList.map (·.key) = seen.map staV ∧ (∀ s, s ∈ seen → s.1 ≤ 1000000 ∧ s.2 ≤ 1000000) ∧ ∀ e ∈ es.toList, e.val = .agg #[]
theorem SeenM.keyed {es : Array MapEntry} {seen : List (Nat × Nat)} (h : SeenM es seen) : ∀ e ∈ es.toList, ∃ l, keyOf Tryz.prog 153 e.key = some l := fun e he => by
  have h1 : e.key ∈ seen.map staV := by rw [← h.1]; exact List.mem_map_of_mem he
  obtain ⟨s, hs, hk⟩ := List.mem_map.1 h1
  rw [← hk]
  exact keyOf_sta s (h.2.1 s hs).1 (h.2.1 s hs).2
theorem SeenM.has {es : Array MapEntry} {seen : List (Nat × Nat)} (h : SeenM es seen) (s : Nat × Nat) : (∃ e ∈ es.toList, e.key = staV s) ↔ s ∈ seen := by
  constructor
  · rintro ⟨e, he, hk⟩
    have h1 : e.key ∈ seen.map staV := by rw [← h.1]; exact List.mem_map_of_mem he
    obtain ⟨t, ht, hk'⟩ := List.mem_map.1 h1
    rw [hk] at hk'
    exact staV_inj hk' ▸ ht
  · intro hs
    have h1 : staV s ∈ es.toList.map (·.key) := by rw [h.1]; exact List.mem_map_of_mem hs
    obtain ⟨e, he, hk⟩ := List.mem_map.1 h1
    exact ⟨e, he, hk⟩
theorem SeenM.push {es : Array MapEntry} {seen : List (Nat × Nat)} (h : SeenM es seen) (s : Nat × Nat) (h1 : s.1 ≤ 1000000) (h2 : s.2 ≤ 1000000) (clk : Nat) : SeenM (es.push { key := staV s, val := .agg #[], born := clk }) (seen ++ [s]) := by
  refine ⟨by simp [h.1], fun t ht => ?_, fun e he => ?_⟩
  · rcases List.mem_append.1 ht with ht | ht
    · exact h.2.1 t ht
    · simp at ht; subst ht; exact ⟨h1, h2⟩
  · simp only [Array.toList_push, List.mem_append, List.mem_singleton] at he
    rcases he with he | rfl
    · exact h.2.2 e he
    · rfl

theorem zeroUnit (w : World) : (zeroValue 224).run Tryz.prog w = .ok (.agg #[]) w := by kernel_rfl

theorem seen_miss {w : World} {mb : Nat} {es : Array MapEntry} {clk : Nat} {seen : List (Nat × Nat)} {s : Nat × Nat} (hm : w.heap[mb]? = some (.map es clk)) (hk : SeenM es seen) (h1 : s.1 ≤ 1000000) (h2 : s.2 ≤ 1000000) (hno : s ∉ seen) :
    (Instr.lookup 196 (.map (some mb)) (staV s) true).run Tryz.prog w = .ok (.tuple #[.agg #[], .bool false]) w := by
  obtain ⟨l, hl⟩ := keyOf_sta s h1 h2
  have hg := MapKept.run_getObj_map (P := Tryz.prog) hm
  have hc := staKeyed.check w es.isEmpty hl
  have hf : (Instr.findKey 153 (staV s) es.toList).run Tryz.prog w = .ok none w := by
    rcases staKeyed.find w hl es.toList hk.keyed with ⟨h, _⟩ | ⟨j, e, _, hj, he⟩
    · exact h
    · exact absurd ((hk.has s).1 ⟨e, List.mem_of_getElem? hj, he⟩) hno
  unfold Instr.lookup
  simp [run_underlying Tryz.underlying196, hg, hc, hf, zeroUnit]

theorem seen_hit {w : World} {mb : Nat} {es : Array MapEntry} {clk : Nat} {seen : List (Nat × Nat)} {s : Nat × Nat} (hm : w.heap[mb]? = some (.map es clk)) (hk : SeenM es seen) (h1 : s.1 ≤ 1000000) (h2 : s.2 ≤ 1000000) (hyes : s ∈ seen) :
    (Instr.lookup 196 (.map (some mb)) (staV s) true).run Tryz.prog w = .ok (.tuple #[.agg #[], .bool true]) w := by
  obtain ⟨l, hl⟩ := keyOf_sta s h1 h2
  have hg := MapKept.run_getObj_map (P := Tryz.prog) hm
  have hc := staKeyed.check w es.isEmpty hl
  rcases staKeyed.find w hl es.toList hk.keyed with ⟨_, h⟩ | ⟨j, e, hf, hj, he⟩
  · obtain ⟨e, hm, he⟩ := (hk.has s).2 hyes
    exact absurd he (h e hm)
  · have hv := hk.2.2 e (List.mem_of_getElem? hj)
    unfold Instr.lookup
    simp [hv, run_underlying Tryz.underlying196, hg, hc, hf]

theorem seen_put {w : World} {mb : Nat} {es : Array MapEntry} {clk : Nat} {seen : List (Nat × Nat)} {s : Nat × Nat} (v : Value) (hm : w.heap[mb]? = some (.map es clk)) (hk : SeenM es seen) (h1 : s.1 ≤ 1000000) (h2 : s.2 ≤ 1000000) (hno : s ∉ seen) :
    (Instr.mapUpdate 196 (.map (some mb)) (staV s) v).run Tryz.prog w = .ok () (putB w mb (.map (es.push { key := staV s, val := v, born := clk }) (clk + 1))) := by
  obtain ⟨l, hl⟩ := keyOf_sta s h1 h2
  have hg := MapKept.run_getObj_map (P := Tryz.prog) hm
  have hc := staKeyed.check w false hl
  have hf : (Instr.findKey 153 (staV s) es.toList).run Tryz.prog w = .ok none w := by
    rcases staKeyed.find w hl es.toList hk.keyed with ⟨h, _⟩ | ⟨j, e, _, hj, he⟩
    · exact h
    · exact absurd ((hk.has s).1 ⟨e, List.mem_of_getElem? hj, he⟩) hno
  unfold Instr.mapUpdate
  simp [run_underlying Tryz.underlying196, hg, hc, hf, MapKept.run_setObj_map _ hm, putB]
end Go.Proofs.YtmeffeigamaipabGreatDoor.G

/- The ways from a state on that step over no rune: the mirror, and its frame. -/
namespace Go.Proofs.YtmeffeigamaipabGreatDoor.G
open Go.RowKit

abbrev WS := List (Nat × Nat) × List (Nat × Int)
def orM (s k : Int) : Int := bits .or IntKind.u64 s (IntKind.u64.wrap (2 ^ k.toNat))

def visitM (code : List Ins) : Nat → WS → Nat × Nat → Int → WS
  | 0, s, _, _ => s
  | f + 1, s, h, b =>
    if h ∈ s.1 then s else
    match code[h.1]? with
    | none => s
    | some i =>
      let s1 : WS := (s.1 ++ [h], s.2)
      if i.op = 0 ∨ i.op = 6 then (s1.1, s1.2 ++ [(h.1, b)])
      else if i.op = 1 then visitM code f (visitM code f s1 (i.t0.toNat, h.2) b) (i.t1.toNat, h.2) b
      else if i.op = 2 then visitM code f s1 (i.t0.toNat, h.2) b
      else if i.op = 3 then visitM code f s1 (h.1 + 1, h.2) (orM b i.sl)
      else if i.op = 4 then visitM code f s1 (h.1 + 1, 0) b
      else if i.op = 5 then if h.2 = 1 then visitM code f s1 (h.1 + 1, 1) b else s1
      else s1

theorem visit_seen (code : List Ins) : ∀ (f : Nat) (s : WS) (h : Nat × Nat) (b : Int), ∀ x, x ∈ s.1 → x ∈ (visitM code f s h b).1
  | 0, s, h, b, x, hx => hx
  | f + 1, s, h, b, x, hx => by
    have hx1 : x ∈ s.1 ++ [h] := List.mem_append_left _ hx
    unfold visitM
    split
    · exact hx
    · split
      · exact hx
      · dsimp only
        repeat' split
        all_goals first
          | exact hx1
          | exact visit_seen code f _ _ _ x hx1
          | exact visit_seen code f _ _ _ x (visit_seen code f _ _ _ x hx1)

def CodeOK (code : List Ins) : Prop := ∀ k i, code[k]? = some i →
  (i.op = 0 ∨ i.op = 6 ∨ (i.op = 1 ∧ (∃ a : Nat, (a : Int) = i.t0 ∧ a < code.length) ∧ ∃ a : Nat, (a : Int) = i.t1 ∧ a < code.length) ∨ (i.op = 2 ∧ ∃ a : Nat, (a : Int) = i.t0 ∧ a < code.length) ∨ (i.op = 3 ∧ k + 1 < code.length ∧ ∃ a : Nat, (a : Int) = i.sl ∧ a < 64) ∨ (i.op = 4 ∧ k + 1 < code.length) ∨ (i.op = 5 ∧ k + 1 < code.length))

def states (n : Nat) : List (Nat × Nat) := (List.range n).flatMap fun k => [(k, 0), (k, 1)]
theorem mem_states {n : Nat} {h : Nat × Nat} (h1 : h.1 < n) (h2 : h.2 < 2) : h ∈ states n := by
  obtain ⟨a, b⟩ := h
  simp only [states, List.mem_flatMap, List.mem_range]
  refine ⟨a, h1, ?_⟩
  simp only at h2
  have : b = 0 ∨ b = 1 := by omega
  rcases this with rfl | rfl <;> simp
def left (n : Nat) (seen : List (Nat × Nat)) : Nat := (states n).countP fun s => decide (s ∉ seen)
theorem countP_lt_of {α : Type} (p q : α → Bool) : ∀ (l : List α), (∀ x ∈ l, p x = true → q x = true) → (∃ x ∈ l, q x = true ∧ p x = false) → l.countP p < l.countP q
  | [], _, h => by obtain ⟨x, hx, _⟩ := h; cases hx
  | a :: l, h, hex => by
    obtain ⟨x, hx, hq, hp⟩ := hex
    have hmono : l.countP p ≤ l.countP q := List.countP_mono_left (fun y hy => h y (List.mem_cons_of_mem _ hy))
    rcases List.mem_cons.1 hx with rfl | hx
    · rw [List.countP_cons, List.countP_cons, hq, hp]
      simp
      omega
    · have ih := countP_lt_of p q l (fun y hy => h y (List.mem_cons_of_mem _ hy)) ⟨x, hx, hq, hp⟩
      rw [List.countP_cons, List.countP_cons]
      have ha := h a (List.mem_cons_self ..)
      by_cases hpa : p a = true
      · rw [hpa, ha hpa]; omega
      · simp only [Bool.not_eq_true] at hpa
        simp only [hpa, Bool.false_eq_true, if_false]
        by_cases hqa : q a = true
        · simp only [hqa, if_true]; omega
        · simp only [hqa, if_false]; omega
theorem left_mono {n : Nat} {s t : List (Nat × Nat)} (h : ∀ x, x ∈ s → x ∈ t) : left n t ≤ left n s :=
  List.countP_mono_left (fun x _ hx => by simp only [decide_eq_true_eq] at hx ⊢; exact fun hs => hx (h x hs))
theorem left_lt {n : Nat} {s : List (Nat × Nat)} {h : Nat × Nat} (hn : h ∉ s) (h1 : h.1 < n) (h2 : h.2 < 2) : left n (s ++ [h]) < left n s :=
  countP_lt_of _ _ _ (fun x _ hx => by simp only [decide_eq_true_eq] at hx ⊢; exact fun hs => hx (List.mem_append_left _ hs)) ⟨h, mem_states h1 h2, by simpa using hn, by simp⟩

def YB (w : World) (k : Nat) : Prop := ∃ cur fr, w.heap[k]? = some (.cells cur 206 fr)
structure VF (base q mb : Nat) (w w' : World) : Prop where
  os : w'.os = w.os
  tape : w'.tape = w.tape
  output : w'.output = w.output
  size : w.heap.size ≤ w'.heap.size
  block : ∀ k, k < w.heap.size → k ≠ q → k ≠ mb → (k < base ∨ ¬ YB w k) → w'.heap[k]? = w.heap[k]?
theorem VF.refl (base q mb : Nat) (w : World) : VF base q mb w w := ⟨rfl, rfl, rfl, Nat.le_refl _, fun _ _ _ _ _ => rfl⟩
theorem VF.trans {base q mb : Nat} {w w1 w2 : World} (h : VF base q mb w w1) (k : VF base q mb w1 w2) : VF base q mb w w2 :=
  ⟨k.os.trans h.os, k.tape.trans h.tape, k.output.trans h.output, Nat.le_trans h.size k.size, fun i hi hn hm hc => by
    have h1 := h.block i hi hn hm hc
    exact (k.block i (Nat.lt_of_lt_of_le hi h.size) hn hm (hc.imp id (fun hb hI => hb (by obtain ⟨c, f, he⟩ := hI; exact ⟨c, f, h1 ▸ he⟩)))).trans h1⟩
theorem VF.ofEx {base q mb : Nat} {w w1 : World} {l : List Nat} (h : Ex l w w1) (hl : ∀ x, x ∈ l → x = q ∨ x = mb) : VF base q mb w w1 := ⟨h.os, h.tape, h.output, h.size, fun k hk h1 h2 _ => h.block k hk (fun hm => by rcases hl k hm with e | e <;> omega)⟩
theorem VF.alloc {base q mb : Nat} {w w1 : World} (h : VF base q mb w w1) (o : Obj) : VF base q mb w (w1.alloc o) := h.trans (VF.ofEx (l := []) ((Ex.refl _ _).alloc o) (by simp))
theorem VF.drewN {base q mb : Nat} {w w1 : World} (h : VF base q mb w w1) (n : Nat) : VF base q mb w (w1.drewN n) := ⟨h.os, h.tape, h.output, h.size, h.block⟩
theorem VF.drew {base q mb : Nat} {w w1 : World} (h : VF base q mb w w1) : VF base q mb w w1.drew := ⟨h.os, h.tape, h.output, h.size, h.block⟩
theorem VF.grown {base q mb : Nat} {w w1 w2 : World} {row : Option Nat} (h : VF base q mb w w1) (hg : w1.grownBy w2 row) (hr : ∀ k, row = some k → base ≤ k ∧ YB w1 k) : VF base q mb w w2 :=
  h.trans ⟨hg.os, hg.tape, hg.output, hg.size, fun k hk hn hm hc => hg.block k hk (fun e => by
    obtain ⟨h1, h2⟩ := hr k e.symm
    rcases hc with hc | hc
    · omega
    · exact hc h2)⟩
theorem VF.setCell {base q mb : Nat} {w w1 : World} (h : VF base q mb w w1) {p : Addr} (hp : p.block = q) (u : Value) : VF base q mb w (w1.setCell p u) :=
  h.trans ⟨rfl, rfl, rfl, by simp [World.setCell], fun k hk hn hm hc => Below.heap_setCell _ _ _ _ (by omega)⟩
theorem BK.vf {base q mb : Nat} {w w' : World} {k : Nat} {cs : Array Value} {e : TypeId} {fr : Nat × Nat} (h : BK w k (.cells cs e fr)) (hx : VF base q mb w w') (hn : k ≠ q) (hm : k ≠ mb) (he : e ≠ 206) : BK w' k (.cells cs e fr) := by
  unfold BK at h ⊢
  rw [hx.block k (BK.lt h) hn hm (.inr (fun ⟨c, f, hI⟩ => he (by rw [h] at hI; cases hI; rfl)))]
  exact h

def waysL (l : List (Nat × Int)) : List Value := l.flatMap fun y => [.int .i64 (y.1 : Int), .int .u64 y.2]
theorem waysL_snoc (l : List (Nat × Int)) (y : Nat × Int) : waysL (l ++ [y]) = waysL l ++ [.int .i64 (y.1 : Int), .int .u64 y.2] := by simp [waysL]

structure WG (w : World) (q mb cg cc base : Nat) (code : List Ins) (s : WS) : Prop where
  lq : q < base
  lm : mb < base
  lc : cg < base
  le : base ≤ w.heap.size
  qm : q ≠ mb
  cq : cg ≠ q
  cm : cg ≠ mb
  cap : code.length ≤ cc
  room : s.2.length + left code.length s.1 ≤ 200000
  prog : w.rangeAt cg 0 (codeL code)
  seen : ∃ es clk, BK w mb (.map es clk) ∧ SeenM es s.1
  ways : ∃ v, BK w q (.cells #[.slice (some ⟨cg, 0, none⟩) code.length cc, .map (some mb), v] 198 (0, 0)) ∧ w.ownsRow base 206 2 v s.2.length (waysL s.2)
end Go.Proofs.YtmeffeigamaipabGreatDoor.G

/- The walk: visit. -/
namespace Go.Proofs.YtmeffeigamaipabGreatDoor.G
open Go.RowKit

theorem WG.ex {w w' : World} {q mb cg cc base : Nat} {code : List Ins} {s : WS} (h : WG w q mb cg cc base code s) (hx : Ex [] w w') : WG w' q mb cg cc base code s := by
  obtain ⟨es, clk, hm, hs⟩ := h.seen
  obtain ⟨v, hq, ho⟩ := h.ways
  exact ⟨h.lq, h.lm, h.lc, Nat.le_trans h.le hx.size, h.qm, h.cq, h.cm, h.cap, h.room, range_same h.prog (hx.block cg (Nat.lt_of_lt_of_le h.lc h.le) (by simp)), ⟨es, clk, hm.ex hx (by simp), hs⟩, ⟨v, hq.ex hx (by simp), own_ex ho hx (by simp)⟩⟩

def VisitC (code : List Ins) (f : Nat) : Prop := ∀ (w : World) (q mb cg cc base : Nat) (s : WS) (h : Nat × Nat) (b : Int), WG w q mb cg cc base code s → left code.length s.1 < f → h.1 < code.length → h.2 < 2 →
  Calls Tryz.prog 118 #[.pointer (some ⟨q, 0, none⟩), staV h, .int .u64 b] w fun e w' => e = .returned (.tuple #[]) ∧ WG w' q mb cg cc base code (visitM code f s h b) ∧ VF base q mb w w'

set_option maxHeartbeats 2000000 in
set_option maxRecDepth 100000 in
theorem visit_old (code : List Ins) (hcode : code.length ≤ 100000) (w : World) (q mb cg cc base : Nat) (s : WS) (h : Nat × Nat) (b : Int) (hg : WG w q mb cg cc base code s) (h1 : h.1 < code.length) (h2 : h.2 < 2) (hs : h ∈ s.1) :
    Calls Tryz.prog 118 #[.pointer (some ⟨q, 0, none⟩), staV h, .int .u64 b] w fun e w' => e = .returned (.tuple #[]) ∧ Ex [] w w' := by
  obtain ⟨es, clk, hm, hse⟩ := hg.seen
  obtain ⟨v, hq, ho⟩ := hg.ways
  obtain ⟨hcq0, hfq0⟩ := hq.all
  have hql := hq.lt
  have hml := hm.lt
  obtain ⟨k, mo⟩ := h
  have hlk1 := seen_hit (s := (k, mo)) (w := (w.alloc (Obj.cells #[.int .i64 k, .int .i64 mo] 153)).drew) (hm.alloc _).drew hse (by simp only at h1; omega) (by simp only at h2; omega) hs
  have hlk2 := seen_hit (s := (k, mo)) (w := ((w.alloc (Obj.cells #[.int .i64 k, .int .i64 mo] 153)).alloc (Obj.cells #[] 224)).drew) ((hm.alloc _).alloc _).drew hse (by simp only at h1; omega) (by simp only at h2; omega) hs
  unfold staV at hlk1 hlk2 ⊢
  dsimp only at hlk1 hlk2 ⊢
  clear hq hm hg ho hse hs
  go_enter Tryz.func118, Tryz.ntmps118
  go_wp2_with fail
  go_region
  all_goals
    go_wp2_with fail
    try simp only [Exit.inBlock, Exit.then]
    refine bodyPost_ret (results_none rfl _ _ _) rfl ?_
    exact ⟨rfl, (((Ex.refl _ _).alloc _).alloc _).drew⟩
end Go.Proofs.YtmeffeigamaipabGreatDoor.G
