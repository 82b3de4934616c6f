/- R4 R5, one behind the other. -/
import Derived.Test.YtmeffeigamaipaaDoorM30
set_option linter.unusedVariables false
set_option linter.unusedSimpArgs false
/- A run: whether a thread accepts. -/
namespace Go.Proofs.YtmeffeigamaipaaDoor.G
open Go.RowKit

def acceptM (code : List Ins) : List Th → Option (List Int)
  | [] => none
  | t :: ts => if (code[t.pc]?).map (·.op) = some 6 then some t.sl else acceptM code ts
theorem thL_at (ts : List Th) (j o : Nat) (hj : j < ts.length) (hl : ∀ t ∈ ts, t.sl.length = 10) (ho : o < 11) : (thL ts)[j * 11 + o]? = (thC ts[j])[o]? := by
  induction ts generalizing j with
  | nil => simp at hj
  | cons t ts ih =>
    have h1 : thL (t :: ts) = thC t ++ thL ts := rfl
    have h2 : (thC t).length = 11 := by simp [thC, ints_len, hl t (List.mem_cons_self ..)]
    rw [h1]
    cases j with
    | zero => rw [List.getElem?_append_left (by omega)]; simp
    | succ j =>
      rw [List.getElem?_append_right (by omega), h2, show (j + 1) * 11 + o - 11 = j * 11 + o by omega]
      simpa using ih j (by simpa using hj) (fun x hx => hl x (List.mem_cons_of_mem _ hx))
theorem thL_len (ts : List Th) (hl : ∀ t ∈ ts, t.sl.length = 10) : (thL ts).length = ts.length * 11 := by
  induction ts with
  | nil => rfl
  | cons t ts ih =>
    have h1 : thL (t :: ts) = thC t ++ thL ts := rfl
    have h2 : (thC t).length = 11 := by simp [thC, ints_len, hl t (List.mem_cons_self ..)]
    rw [h1, List.length_append, h2, ih (fun x hx => hl x (List.mem_cons_of_mem _ hx)), List.length_cons]
    omega
def tenZ : Value := .agg #[.int .i64 0, .int .i64 0, .int .i64 0, .int .i64 0, .int .i64 0, .int .i64 0, .int .i64 0, .int .i64 0, .int .i64 0, .int .i64 0]

def accV : Option (List Int) → Value
  | some sl => .tuple #[.agg (ints sl).toArray, .bool true]
  | none => .tuple #[tenZ, .bool false]
theorem own_threads {w : World} {base : Nat} {p0 : Option Addr} {c0 : Nat} {ts : List Th} (h : w.ownsRow base 113 11 (.slice p0 ts.length c0) ts.length (thL ts)) (hpos : 0 < ts.length) :
    ∃ ng, p0 = some ⟨ng, 0, none⟩ ∧ base ≤ ng ∧ ng < w.heap.size ∧ ts.length ≤ c0 ∧ w.rangeAt ng 0 (thL ts) := by
  rcases h.2 with ⟨_, hn⟩ | ⟨g, cap, cur, hv, hb, hgg, hnc, hcm, hcs, htake⟩
  · omega
  · cases hv
    refine ⟨g, rfl, hb, BK.lt hgg, hnc, fun o v hv => ?_⟩
    rw [Nat.zero_add, (BK.all hgg).1, ← Array.getElem?_toList]
    rw [← htake, List.getElem?_take] at hv
    split at hv
    · exact hv
    · cases hv
theorem thread_cells {w : World} {ng : Nat} {ts : List Th} (h : w.rangeAt ng 0 (thL ts)) (hl : ∀ t ∈ ts, t.sl.length = 10) (j : Nat) (hj : j < ts.length) :
    ∃ y0 y1 y2 y3 y4 y5 y6 y7 y8 y9, ts[j].sl = [y0, y1, y2, y3, y4, y5, y6, y7, y8, y9] ∧ ∀ o, o < 11 → w.cell? ⟨ng, j * 11 + o, none⟩ = [Value.int .i64 ts[j].pc, .int .i64 y0, .int .i64 y1, .int .i64 y2, .int .i64 y3, .int .i64 y4, .int .i64 y5, .int .i64 y6, .int .i64 y7, .int .i64 y8, .int .i64 y9][o]? := by
  obtain ⟨y0, y1, y2, y3, y4, y5, y6, y7, y8, y9, hy⟩ := ten (hl _ (List.getElem_mem hj))
  refine ⟨y0, y1, y2, y3, y4, y5, y6, y7, y8, y9, hy, fun o ho => ?_⟩
  have h1 := thL_at ts j o hj hl ho
  have h2 : thC ts[j] = [Value.int .i64 ts[j].pc, .int .i64 y0, .int .i64 y1, .int .i64 y2, .int .i64 y3, .int .i64 y4, .int .i64 y5, .int .i64 y6, .int .i64 y7, .int .i64 y8, .int .i64 y9] := by rw [thC, hy]; rfl
  rw [h2] at h1
  rw [← h1]
  have h3 : j * 11 + o < (thL ts).length := by rw [thL_len ts hl]; omega
  rw [List.getElem?_eq_getElem h3]
  have h4 := h (j * 11 + o) _ (List.getElem?_eq_getElem h3)
  simpa using h4

set_option maxHeartbeats 4000000 in
set_option maxRecDepth 100000 in
theorem accepted_any (code : List Ins) (u q cg cc base : Nat) (p0 : Option Addr) (c0 : Nat) (v1 v2 v3 v4 v5 v6 : Value) (ts : List Th) (w : World)
    (hu : BK w u (.cells #[.pointer (some ⟨q, 0, none⟩), .slice p0 ts.length c0, v1, v2] 108 (0, 0))) (hq : BK w q (.cells #[.slice (some ⟨cg, 0, none⟩) code.length cc, v3, v4, v5, v6] 74 (0, 0)))
    (hcg : cg < w.heap.size) (hcap : code.length ≤ cc) (hr : w.rangeAt cg 0 (codeL code)) (hnow : w.ownsRow base 113 11 (.slice p0 ts.length c0) ts.length (thL ts)) (hts : ts.length ≤ 100000)
    (hl : ∀ t ∈ ts, t.sl.length = 10) (hpc : ∀ t ∈ ts, t.pc < code.length) :
    Calls Tryd.prog 27 #[.pointer (some ⟨u, 0, none⟩)] w fun e w' => e = .returned (accV (acceptM code ts)) ∧ Ex [] w w' := by
  have HU := hide hu
  have HQ := hide hq
  have HR := hide hr
  have HN := hide hnow
  have HL := hide hl
  have HPC := hide hpc
  have hul := hu.lt
  have hql := hq.lt
  obtain ⟨hcu, hfu⟩ := hu.all
  obtain ⟨n, hn⟩ : ∃ n, n = ts.length := ⟨_, rfl⟩
  obtain ⟨cn, hcn⟩ : ∃ cn, cn = code.length := ⟨_, rfl⟩
  have HNN := hide hn
  have HCN := hide hcn
  rw [← hn] at hcu hts HU
  rw [← hcn] at hcap HQ
  obtain ⟨res, hres⟩ : ∃ res, res = acceptM code ts := ⟨_, rfl⟩
  rw [← hres]
  have HRES := hide hres
  clear hu hq hr hnow hl hpc hn hcn hres
  go_enter Tryd.func27, Tryd.ntmps27
  go_wp2_with fail
  go_loopg [11] n (fun gk i wr => ∃ j : Nat, j + gk = n ∧ i = .int .i64 j ∧ acceptM code (ts.drop j) = res ∧ BK wr w.heap.size (.cells #[.int .i64 0, .int .i64 0, .int .i64 0, .int .i64 0, .int .i64 0, .int .i64 0, .int .i64 0, .int .i64 0, .int .i64 0, .int .i64 0] 79 (0, 0)) ∧ Ex [] w wr)
  case atStart => exact ⟨0, by omega, rfl, by rw [List.drop_zero]; exact HRES.out.symm, BK.new _ _, (Ex.refl _ _).alloc _⟩
  case round =>
    obtain ⟨j, hj, rfl, hacc, hz, hx⟩ := hrel
    have HX := hide hx
    have HZ := hide hz
    have HACC := hide hacc
    obtain ⟨hcz, hfz⟩ := hz.all
    have hzl := hz.lt
    cases gk with
    | zero =>
      obtain rfl : j = n := by omega
      have hr0 : res = none := by rw [← hacc, HNN.out, List.drop_length]; rfl
      subst hr0
      clear hx hz hacc hj
      go_wp2_with fail
      refine bodyPost_ret (v := .tuple #[tenZ, .bool false]) (by simp [results, Tryd.results27, go_sem, tenZ, hcz]) rfl ⟨rfl, ?_⟩
      repeat (refine Ex.setCell ?_ (Or.inr (by simp)) _)
      exact HX.out
    | succ g =>
      have hj' : j < ts.length := by rw [← HNN.out]; omega
      have hjn : (j : Int) < (n : Int) := by omega
      obtain ⟨ng, rfl, hngb, hngl, hngc, hrg⟩ := own_threads HN.out (by omega)
      obtain ⟨y0, y1, y2, y3, y4, y5, y6, y7, y8, y9, hy, hcl⟩ := thread_cells hrg HL.out j hj'
      have hpc := HPC.out _ (List.getElem_mem hj')
      obtain ⟨k, hk⟩ : ∃ k, k = (ts[j]'hj').pc := ⟨_, rfl⟩
      rw [← hk] at hcl hpc
      obtain ⟨ci, hci⟩ : ∃ ci, code[k]? = some ci := ⟨_, List.getElem?_eq_getElem hpc⟩
      have hc0 : w.cell? ⟨cg, k * 7, none⟩ = some (.int .i64 ci.op) := by
        have h1 := codeL_at code k 0 ci hci (by omega)
        have h2 := HR.out (k * 7) (.int .i64 ci.op) (by rw [Nat.add_zero] at h1; rw [h1]; rfl)
        simpa using h2
      obtain ⟨cell0, hcell0⟩ : ∃ x, x = hc0 := ⟨_, rfl⟩
      have hstep : acceptM code (ts.drop j) = if ci.op = 6 then some (ts[j]'hj').sl else acceptM code (ts.drop (j + 1)) := by
        rw [List.drop_eq_getElem_cons hj', acceptM, ← hk, hci]
        simp
      have HST := hide hstep
      have HY := hide hy
      have hkn : (k : Int) < (cn : Int) := by rw [HCN.out]; omega
      have c0r : wr.cell? ⟨cg, k * 7, none⟩ = some (.int .i64 ci.op) := (hx.cell0.1 cg (k * 7) hcg).trans hc0
      have hcr : ∀ o, o < 11 → wr.cell? ⟨ng, j * 11 + o, none⟩ = [Value.int .i64 k, .int .i64 y0, .int .i64 y1, .int .i64 y2, .int .i64 y3, .int .i64 y4, .int .i64 y5, .int .i64 y6, .int .i64 y7, .int .i64 y8, .int .i64 y9][o]? := fun o ho => (hx.cell0.1 ng _ hngl).trans (hcl o ho)
      have j0 : wr.cell? ⟨ng, j * 11, none⟩ = some (.int .i64 (k : Int)) := hcr 0 (by omega)
      have j1 : wr.cell? ⟨ng, j * 11 + 1, none⟩ = some (.int .i64 y0) := hcr 1 (by omega)
      have j2 : wr.cell? ⟨ng, j * 11 + 2, none⟩ = some (.int .i64 y1) := hcr 2 (by omega)
      have j3 : wr.cell? ⟨ng, j * 11 + 3, none⟩ = some (.int .i64 y2) := hcr 3 (by omega)
      have j4 : wr.cell? ⟨ng, j * 11 + 4, none⟩ = some (.int .i64 y3) := hcr 4 (by omega)
      have j5 : wr.cell? ⟨ng, j * 11 + 5, none⟩ = some (.int .i64 y4) := hcr 5 (by omega)
      have j6 : wr.cell? ⟨ng, j * 11 + 6, none⟩ = some (.int .i64 y5) := hcr 6 (by omega)
      have j7 : wr.cell? ⟨ng, j * 11 + 7, none⟩ = some (.int .i64 y6) := hcr 7 (by omega)
      have j8 : wr.cell? ⟨ng, j * 11 + 8, none⟩ = some (.int .i64 y7) := hcr 8 (by omega)
      have j9 : wr.cell? ⟨ng, j * 11 + 9, none⟩ = some (.int .i64 y8) := hcr 9 (by omega)
      have j10 : wr.cell? ⟨ng, j * 11 + 10, none⟩ = some (.int .i64 y9) := hcr 10 (by omega)
      have hur := HU.out.ex hx (by simp)
      have hqr := HQ.out.ex hx (by simp)
      obtain ⟨hcu', hfu'⟩ := hur.all
      obtain ⟨hcq', hfq'⟩ := hqr.all
      have hul' := hur.lt
      have hql' := hqr.lt
      have hcg' : cg < wr.heap.size := Nat.lt_of_lt_of_le hcg hx.size
      have hng' : ng < wr.heap.size := Nat.lt_of_lt_of_le hngl hx.size
      obtain ⟨op, hop⟩ : ∃ op, op = ci.op := ⟨_, rfl⟩
      rw [← hop] at c0r
      have HOP := hide hop
      have HKK := hide hk
      clear hx hz hacc hrg hcl hpc hci hc0 hcell0 cell0 hstep hy hcr hur hqr hop hk hcu hfu
      cases h6 : (op == 6) with
      | true =>
        go_wp2_with fail
        go_quiet (fail)
        go_wp2_with fail
        have hb6 := (((((((((((HZ.out.alloc (Obj.cells #[.int .i64 k, .int .i64 y0, .int .i64 y1, .int .i64 y2, .int .i64 y3, .int .i64 y4, .int .i64 y5, .int .i64 y6, .int .i64 y7, .int .i64 y8, .int .i64 y9] 113)).drewN nq).self 0 (.int .i64 y0)).self 1 (.int .i64 y1)).self 2 (.int .i64 y2)).self 3 (.int .i64 y3)).self 4 (.int .i64 y4)).self 5 (.int .i64 y5)).self 6 (.int .i64 y6)).self 7 (.int .i64 y7)).self 8 (.int .i64 y8)).self 9 (.int .i64 y9)
        simp only [List.setIfInBounds_toArray, List.set_cons_zero, List.set_cons_succ] at hb6
        have hl6 := run_loadVar_mid (P := Tryd.prog) _ w.heap.size 0 79 [.int .i64 y0, .int .i64 y1, .int .i64 y2, .int .i64 y3, .int .i64 y4, .int .i64 y5, .int .i64 y6, .int .i64 y7, .int .i64 y8, .int .i64 y9] _ hb6.rangeL Tryd.underlying79 rfl (by kernel_rfl)
        refine bodyPost_ret (results_cell_tmp rfl rfl hl6) rfl ⟨?_, ?_⟩
        · have h1 := HACC.out
          rw [HST.out, if_pos (by rw [← HOP.out]; simpa using h6), HY.out] at h1
          rw [← h1]; rfl
        · repeat (refine Ex.setCell ?_ (Or.inr (by simp)) _)
          exact (((HX.out).alloc _).drewN _)
      | false =>
        go_wp2_with fail
        go_quiet (fail)
        go_wp2_with fail
        go_roundg g
        case measure => omega
        case rel =>
          refine ⟨j + 1, by omega, by simp, ?_, ?_, ?_⟩
          · have h1 := HACC.out
            rw [HST.out, if_neg (by rw [← HOP.out]; simpa using h6)] at h1
            exact h1
          · exact (HZ.out.alloc _).drewN _
          · exact (HX.out.alloc _).drewN _
end Go.Proofs.YtmeffeigamaipaaDoor.G

/- A run at any program: the mirror of a step, and what a pattern and a run look like in memory. -/
namespace Go.Proofs.YtmeffeigamaipaaDoor.G
open Go.RowKit

theorem visit_ways (code : List Ins) (hok : CodeOK code) : ∀ (f : Nat) (s : WS) (h : Nat × Nat) (b : Int), h.1 < code.length → h.2 < 2 → (∀ y ∈ s.2, y.1 < code.length) →
    (∀ y ∈ (visitM code f s h b).2, y.1 < code.length) ∧ (visitM code f s h b).2.length + left code.length (visitM code f s h b).1 ≤ s.2.length + left code.length s.1
  | 0, s, h, b, _, _, hs => ⟨hs, Nat.le_refl _⟩
  | f + 1, s, h, b, h1, h2, hs => by
    unfold visitM
    by_cases hm : h ∈ s.1
    · rw [if_pos hm]; exact ⟨hs, Nat.le_refl _⟩
    rw [if_neg hm]
    obtain ⟨i, hi⟩ : ∃ i, code[h.1]? = some i := ⟨_, List.getElem?_eq_getElem h1⟩
    have hl := left_lt hm h1 h2
    rw [hi]
    dsimp only
    have ih := visit_ways code hok f
    rcases hok _ _ hi with h0 | h0 | ⟨h0, ⟨a, ha, hal⟩, c, hc, hcl⟩ | ⟨h0, a, ha, hal⟩ | ⟨h0, ha, _⟩ | ⟨h0, ha⟩ | ⟨h0, ha⟩
    · simp only [h0, true_or, if_true]
      refine ⟨fun y hy => ?_, by simp; omega⟩
      rcases List.mem_append.1 hy with hy | hy
      · exact hs y hy
      · simp at hy; subst hy; exact h1
    · simp only [h0, or_true, if_true]
      refine ⟨fun y hy => ?_, by simp; omega⟩
      rcases List.mem_append.1 hy with hy | hy
      · exact hs y hy
      · simp at hy; subst hy; exact h1
    · rw [if_neg (by omega), if_pos h0]
      have k1 := ih (s.1 ++ [h], s.2) (i.t0.toNat, h.2) b (by simp; omega) h2 hs
      have k2 := ih _ (i.t1.toNat, h.2) b (by simp; omega) h2 k1.1
      exact ⟨k2.1, by have e1 := k1.2; have e2 := k2.2; simp only at e1 e2; omega⟩
    · rw [if_neg (by omega), if_neg (by omega), if_pos h0]
      have k1 := ih (s.1 ++ [h], s.2) (i.t0.toNat, h.2) b (by simp; omega) h2 hs
      exact ⟨k1.1, by have e1 := k1.2; simp only at e1; omega⟩
    · rw [if_neg (by omega), if_neg (by omega), if_neg (by omega), if_pos h0]
      have k1 := ih (s.1 ++ [h], s.2) (h.1 + 1, h.2) (orM b i.sl) (by simpa using ha) h2 hs
      exact ⟨k1.1, by have e1 := k1.2; simp only at e1; omega⟩
    · rw [if_neg (by omega), if_neg (by omega), if_neg (by omega), if_neg (by omega), if_pos h0]
      have k1 := ih (s.1 ++ [h], s.2) (h.1 + 1, 0) b (by simpa using ha) (by simp) hs
      exact ⟨k1.1, by have e1 := k1.2; simp only at e1; omega⟩
    · rw [if_neg (by omega), if_neg (by omega), if_neg (by omega), if_neg (by omega), if_neg (by omega), if_pos h0]
      split
      · have k1 := ih (s.1 ++ [h], s.2) (h.1 + 1, 1) b (by simpa using ha) (by simp) hs
        exact ⟨k1.1, by have e1 := k1.2; simp only at e1; omega⟩
      · exact ⟨hs, by simp only; omega⟩
theorem ways_ok (code : List Ins) (hok : CodeOK code) (h : Nat × Nat) (h1 : h.1 < code.length) (h2 : h.2 < 2) : (∀ y ∈ waysM code h, y.1 < code.length) ∧ (waysM code h).length ≤ 2 * code.length := by
  have k := visit_ways code hok (2 * code.length + 1) ([], []) h 0 h1 h2 (by simp)
  have k2 := k.2
  have k3 := left_le code.length []
  refine ⟨k.1, ?_⟩
  show (visitM code (2 * code.length + 1) ([], []) h 0).2.length ≤ _
  simp only [List.length_nil] at k2
  omega

def wys (l : List (Nat × Int)) : List Way := l.map fun y => ⟨y.1, y.2⟩
theorem wys_len (l : List (Nat × Int)) : (wys l).length = l.length := by simp [wys]
theorem wys_L (l : List (Nat × Int)) : wayL (wys l) = waysL l := by simp [wys, wayL, waysL, List.flatMap_map]
theorem wys_to {l : List (Nat × Int)} {n : Nat} (h : ∀ y ∈ l, y.1 < n) : ∀ x ∈ wys l, x.to < n := fun x hx => by
  simp only [wys, List.mem_map] at hx
  obtain ⟨y, hy, rfl⟩ := hx
  exact h y hy

def WA (w : World) (top : Nat) (p : Option Addr) (l : List (Nat × Int)) : Prop := l ≠ [] → ∃ gw, p = some ⟨gw, 0, none⟩ ∧ gw < top ∧ ∀ j, j < l.length * 2 → w.cell? ⟨gw, j, none⟩ = (waysL l)[j]?
theorem WA.eb {w w' : World} {top : Nat} {p : Option Addr} {l : List (Nat × Int)} (h : WA w top p l) (hx : EB top [] w w') : WA w' top p l := fun hl => by
  obtain ⟨gw, h1, h2, h3⟩ := h hl
  exact ⟨gw, h1, h2, fun j hj => (hx.cell h2).trans (h3 j hj)⟩
theorem WA.up {w : World} {top top' : Nat} {p : Option Addr} {l : List (Nat × Int)} (h : WA w top p l) (ht : top ≤ top') : WA w top' p l := fun hl => by
  obtain ⟨gw, h1, h2, h3⟩ := h hl
  exact ⟨gw, h1, Nat.lt_of_lt_of_le h2 ht, h3⟩
theorem own_WA {w : World} {base : Nat} {v : Value} {l : List (Nat × Int)} (h : w.ownsRow base 110 2 v l.length (waysL l)) : ∃ p c, v = .slice p l.length c ∧ WA w w.heap.size p l ∧ l.length ≤ c := by
  obtain ⟨p, c, rfl⟩ := own_slice h
  refine ⟨p, c, rfl, fun hl => ?_, ?_⟩
  · obtain ⟨g, c', hv, _, hlt, _, hc, _⟩ := own_cells h (List.length_pos_iff.2 hl)
    cases hv
    exact ⟨g, rfl, hlt, hc⟩
  · rcases h.2 with ⟨hv, hn⟩ | ⟨g, cap, cur, hv, hb, hgg, hnc, hcm, hcs, htake⟩
    · injection hv with _ h2 h3; omega
    · injection hv with _ h2 h3; omega

structure PX (w : World) (q top : Nat) (code : List Ins) (ng : Nat) (cg cc : Nat) (sp : Option Addr) (sc B mb : Nat) (nm : List (ByteArray × Nat)) : Prop where
  blk : BK w q (.cells #[.slice (some ⟨cg, 0, none⟩) code.length cc, .slice sp (waysM code (0, 0)).length sc, .slice (some ⟨B, 0, none⟩) code.length code.length, .int .i64 (ng : Int), .map (some mb)] 74 (0, 0))
  cls : w.rangeAt cg 0 (codeL code)
  cap : code.length ≤ cc
  start : WA w top sp (waysM code (0, 0))
  beh : ∀ i x, code[i]? = some x → x.op = 0 → ∃ p c, w.cell? ⟨B, i, none⟩ = some (.slice p (waysM code (i + 1, 1)).length c) ∧ WA w top p (waysM code (i + 1, 1))
  names : BK w mb (.map (nmE nm) nm.length)
  qt : q < top
  cgt : cg < top
  Bt : B < top
  mt : mb < top

theorem range_eb {w w' : World} {top b o : Nat} {xs : List Value} (h : w.rangeAt b o xs) (hx : EB top [] w w') (hb : b < top) : w'.rangeAt b o xs := fun j v hv => (hx.cell hb).trans (h j v hv)
theorem PX.eb {w w' : World} {q top : Nat} {code : List Ins} {ng cg cc : Nat} {sp : Option Addr} {sc B mb : Nat} {nm : List (ByteArray × Nat)} (h : PX w q top code ng cg cc sp sc B mb nm) (hx : EB top [] w w') : PX w' q top code ng cg cc sp sc B mb nm where
  blk := h.blk.eb hx h.qt (by simp)
  cls := range_eb h.cls hx h.cgt
  cap := h.cap
  start := h.start.eb hx
  beh := fun i x hi h0 => by
    obtain ⟨p, c, h1, h2⟩ := h.beh i x hi h0
    exact ⟨p, c, (hx.cell h.Bt).trans h1, h2.eb hx⟩
  names := h.names.eb hx h.mt (by simp)
  qt := h.qt
  cgt := h.cgt
  Bt := h.Bt
  mt := h.mt
theorem PX.up {w : World} {q top top' : Nat} {code : List Ins} {ng cg cc : Nat} {sp : Option Addr} {sc B mb : Nat} {nm : List (ByteArray × Nat)} (h : PX w q top code ng cg cc sp sc B mb nm) (ht : top ≤ top') : PX w q top' code ng cg cc sp sc B mb nm where
  blk := h.blk
  cls := h.cls
  cap := h.cap
  start := h.start.up ht
  beh := fun i x hi h0 => by
    obtain ⟨p, c, h1, h2⟩ := h.beh i x hi h0
    exact ⟨p, c, h1, h2.up ht⟩
  names := h.names
  qt := Nat.lt_of_lt_of_le h.qt ht
  cgt := Nat.lt_of_lt_of_le h.cgt ht
  Bt := Nat.lt_of_lt_of_le h.Bt ht
  mt := Nat.lt_of_lt_of_le h.mt ht
theorem PG.px {w : World} {q base : Nat} {code : List Ins} {ng : Nat} {nm : List (ByteArray × Nat)} (h : PG w q base code ng nm) (hpos : 0 < code.length) : ∃ cg cc sp sc B mb, PX w q w.heap.size code ng cg cc sp sc B mb nm := by
  obtain ⟨cp, cc, sp, sc, B, mb, hq, hoc, hos, hbh, hbB, hnm, hmb⟩ := h.ex
  obtain ⟨cg, rfl, hcap, _, hcl, hrg⟩ := own_prog hoc hpos
  obtain ⟨sp', sc', hv, hwa, _⟩ := own_WA hos
  cases hv
  obtain ⟨ca, hb, hs, hall⟩ := hbh.ex
  refine ⟨cg, cc, sp, sc, B, mb, hq, hrg, hcap, hwa, fun i x hi h0 => ?_, hnm, hq.lt, hcl, hb.lt, hnm.lt⟩
  have hi' : i < code.length := by
    have := List.getElem?_eq_some_iff.1 hi
    exact this.1
  obtain ⟨v, h1, h2⟩ := hall i x hi' hi h0
  obtain ⟨p, c, rfl, h3, _⟩ := own_WA h2
  exact ⟨p, c, by rw [hb.all.1]; exact h1, h3⟩
theorem PG.ex' {w w' : World} {q base : Nat} {code : List Ins} {ng : Nat} {nm : List (ByteArray × Nat)} (h : PG w q base code ng nm) (hx : Ex [] w w') : PG w' q base code ng nm := by
  obtain ⟨cp, cc, sp, sc, B, mb, hq, hoc, hos, hbh, hbB, hnm, hmb⟩ := h.ex
  exact ⟨Nat.le_trans h.le hx.size, h.ql, cp, cc, sp, sc, B, mb, hq.ex hx (by simp), own_ex hoc hx (by simp), own_ex hos hx (by simp), hbh.ex' hx, hbB, hnm.ex hx (by simp), hmb⟩

def Ins.cls (i : Ins) : Rx.Q.Cls := ⟨i.lo, i.hi, i.hg⟩
def Ins.takes (i : Ins) (r : Int) : Bool := i.op == 0 && Rx.Q.hasC i.cls r
def stepL (code : List Ins) (r pl : Int) : List Th → List Th × List Int → List Th × List Int
  | [], s => s
  | t :: ts, s => match code[t.pc]? with
    | some i => if i.takes r then stepL code r pl ts (followM t.sl pl (wys (waysM code (t.pc + 1, 1))) s) else stepL code r pl ts s
    | none => stepL code r pl ts s
def TOK (n : Nat) (ts : List Th) : Prop := ∀ t ∈ ts, t.sl.length = 10 ∧ t.pc < n
theorem markM_len (b pl : Int) (sl : List Int) : (markM b pl sl).length = sl.length := markN_len b pl 10 sl
theorem followM_ok (sl : List Int) (hsl : sl.length = 10) (pl : Int) (n : Nat) : ∀ (ws : List Way) (s : List Th × List Int), (∀ x ∈ ws, x.to < n) → s.2.length = n → TOK n s.1 → s.1.length ≤ s.2.count pl →
    (followM sl pl ws s).2.length = n ∧ TOK n (followM sl pl ws s).1 ∧ (followM sl pl ws s).1.length ≤ (followM sl pl ws s).2.count pl
  | [], s, _, h1, h2, h3 => ⟨h1, h2, h3⟩
  | x :: ws, s, hw, h1, h2, h3 => by
    have hx := hw x (List.mem_cons_self ..)
    have hws : ∀ y ∈ ws, y.to < n := fun y hy => hw y (List.mem_cons_of_mem _ hy)
    unfold followM
    by_cases hc : s.2[x.to]? = some pl
    · rw [if_pos hc]
      exact followM_ok sl hsl pl n ws s hws h1 h2 h3
    · rw [if_neg hc]
      refine followM_ok sl hsl pl n ws _ hws (by simpa using h1) (fun t ht => ?_) ?_
      · rcases List.mem_append.1 ht with ht | ht
        · exact h2 t ht
        · simp at ht; subst ht; exact ⟨by rw [markM_len]; exact hsl, hx⟩
      · have hlt : x.to < s.2.length := by omega
        have hne : ¬ (s.2[x.to]'hlt = pl) := fun e => hc (by rw [List.getElem?_eq_getElem hlt, e])
        simp only [List.length_append, List.length_cons, List.length_nil]
        rw [List.count_set hlt]
        simp [hne]
        omega
theorem stepL_ok (code : List Ins) (hok : CodeOK code) (htk : TakeOK code) (r pl : Int) : ∀ (ts : List Th) (s : List Th × List Int), TOK code.length ts → s.2.length = code.length → TOK code.length s.1 → s.1.length ≤ s.2.count pl →
    (stepL code r pl ts s).2.length = code.length ∧ TOK code.length (stepL code r pl ts s).1 ∧ (stepL code r pl ts s).1.length ≤ (stepL code r pl ts s).2.count pl
  | [], s, _, h1, h2, h3 => ⟨h1, h2, h3⟩
  | t :: ts, s, ht, h1, h2, h3 => by
    have ht0 := ht t (List.mem_cons_self ..)
    have hts : TOK code.length ts := fun y hy => ht y (List.mem_cons_of_mem _ hy)
    unfold stepL
    split
    · next i hi =>
      split
      · next hta =>
        have h0 : i.op = 0 := by
          simp only [Ins.takes, Bool.and_eq_true, beq_iff_eq] at hta
          exact hta.1
        have hk := ways_ok code hok (t.pc + 1, 1) (htk _ _ hi h0) (by simp)
        have h4 := followM_ok t.sl ht0.1 pl code.length (wys (waysM code (t.pc + 1, 1))) s (wys_to hk.1) h1 h2 h3
        exact stepL_ok code hok htk r pl ts _ hts h4.1 h4.2.1 h4.2.2
      · exact stepL_ok code hok htk r pl ts s hts h1 h2 h3
    · exact stepL_ok code hok htk r pl ts s hts h1 h2 h3

structure RunG (w : World) (u gr base q n : Nat) (nowV nextV : Value) (ts : List Th) (rc : List Int) : Prop where
  blk : BK w u (.cells #[.pointer (some ⟨q, 0, none⟩), nowV, nextV, .slice (some ⟨gr, 0, none⟩) n n] 108 (0, 0))
  now : w.ownsRow base 113 11 nowV ts.length (thL ts)
  next : ∃ k xs, w.ownsRow base 113 11 nextV k xs
  apart : ∀ b, nowV.ownBlock = some b → nextV.ownBlock ≠ some b
  rcb : BK w gr (.cells (ints rc).toArray 3 (0, 0))
  rcl : rc.length = n
  tok : TOK n ts
  tlen : ts.length ≤ n
  ul : u < base
  gl : gr < base
  ug : u ≠ gr
  le : base ≤ w.heap.size
theorem RunG.ex {w w' : World} {u gr base q n : Nat} {nowV nextV : Value} {ts : List Th} {rc : List Int} (h : RunG w u gr base q n nowV nextV ts rc) (hx : Ex [] w w') : RunG w' u gr base q n nowV nextV ts rc := by
  obtain ⟨k, xs, hn⟩ := h.next
  exact ⟨h.blk.ex hx (by simp), own_ex h.now hx (by simp), ⟨k, xs, own_ex hn hx (by simp)⟩, h.apart, h.rcb.ex hx (by simp), h.rcl, h.tok, h.tlen, h.ul, h.gl, h.ug, Nat.le_trans h.le hx.size⟩

theorem own_zero' {w : World} {base : Nat} {e : TypeId} {size n : Nat} {v : Value} {xs : List Value} (h : w.ownsRow base e size v n xs) :
    ∃ p c, v = .slice p n c ∧ w.ownsRow base e size (.slice p 0 c) 0 [] ∧ (Value.slice p 0 c).ownBlock = v.ownBlock ∧ (p = none → n = 0 ∧ c = 0) := by
  rcases h.2 with ⟨rfl, rfl⟩ | ⟨g, cap, cur, rfl, hb, hgg, hnc, hcm, hcs, htake⟩
  · exact ⟨none, 0, rfl, World.ownsRow_nil _ _ _ _, rfl, fun _ => ⟨rfl, rfl⟩⟩
  · exact ⟨some ⟨g, 0, none⟩, cap, rfl, ⟨by simp, .inr ⟨g, cap, cur, rfl, hb, hgg, by omega, hcm, hcs, by simp⟩⟩, rfl, fun h => by cases h⟩
end Go.Proofs.YtmeffeigamaipaaDoor.G
