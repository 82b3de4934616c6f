/- R5 R6, one behind the other. -/
import Derived.Test.YtgmjjhmnchefbaaGreatDoorM23
import Derived.Deep.RegionHeld3
set_option linter.unusedVariables false
set_option linter.unusedSimpArgs false
/- A run at any program: the mirror of a step, and what a pattern and a run look like in memory. -/
namespace Go.Proofs.YtgmjjhmnchefbaaGreatDoor.G
open Go.RowKit

theorem visit_ways (code : List Ins) (hok : CodeOK code) : ∀ (f : Nat) (s : WS) (h : Nat × Nat) (b : Int), h.1 < code.length → h.2 < 2 → (∀ y ∈ s.2, y.1 < code.length) →
    (∀ y ∈ (visitM code f s h b).2, y.1 < code.length) ∧ (visitM code f s h b).2.length + left code.length (visitM code f s h b).1 ≤ s.2.length + left code.length s.1
  | 0, s, h, b, _, _, hs => ⟨hs, Nat.le_refl _⟩
  | f + 1, s, h, b, h1, h2, hs => by
    unfold visitM
    by_cases hm : h ∈ s.1
    · rw [if_pos hm]; exact ⟨hs, Nat.le_refl _⟩
    rw [if_neg hm]
    obtain ⟨i, hi⟩ : ∃ i, code[h.1]? = some i := ⟨_, List.getElem?_eq_getElem h1⟩
    have hl := left_lt hm h1 h2
    rw [hi]
    dsimp only
    have ih := visit_ways code hok f
    rcases hok _ _ hi with h0 | h0 | ⟨h0, ⟨a, ha, hal⟩, c, hc, hcl⟩ | ⟨h0, a, ha, hal⟩ | ⟨h0, ha, _⟩ | ⟨h0, ha⟩ | ⟨h0, ha⟩
    · simp only [h0, true_or, if_true]
      refine ⟨fun y hy => ?_, by simp; omega⟩
      rcases List.mem_append.1 hy with hy | hy
      · exact hs y hy
      · simp at hy; subst hy; exact h1
    · simp only [h0, or_true, if_true]
      refine ⟨fun y hy => ?_, by simp; omega⟩
      rcases List.mem_append.1 hy with hy | hy
      · exact hs y hy
      · simp at hy; subst hy; exact h1
    · rw [if_neg (by omega), if_pos h0]
      have k1 := ih (s.1 ++ [h], s.2) (i.t0.toNat, h.2) b (by simp; omega) h2 hs
      have k2 := ih _ (i.t1.toNat, h.2) b (by simp; omega) h2 k1.1
      exact ⟨k2.1, by have e1 := k1.2; have e2 := k2.2; simp only at e1 e2; omega⟩
    · rw [if_neg (by omega), if_neg (by omega), if_pos h0]
      have k1 := ih (s.1 ++ [h], s.2) (i.t0.toNat, h.2) b (by simp; omega) h2 hs
      exact ⟨k1.1, by have e1 := k1.2; simp only at e1; omega⟩
    · rw [if_neg (by omega), if_neg (by omega), if_neg (by omega), if_pos h0]
      have k1 := ih (s.1 ++ [h], s.2) (h.1 + 1, h.2) (orM b i.sl) (by simpa using ha) h2 hs
      exact ⟨k1.1, by have e1 := k1.2; simp only at e1; omega⟩
    · rw [if_neg (by omega), if_neg (by omega), if_neg (by omega), if_neg (by omega), if_pos h0]
      have k1 := ih (s.1 ++ [h], s.2) (h.1 + 1, 0) b (by simpa using ha) (by simp) hs
      exact ⟨k1.1, by have e1 := k1.2; simp only at e1; omega⟩
    · rw [if_neg (by omega), if_neg (by omega), if_neg (by omega), if_neg (by omega), if_neg (by omega), if_pos h0]
      split
      · have k1 := ih (s.1 ++ [h], s.2) (h.1 + 1, 1) b (by simpa using ha) (by simp) hs
        exact ⟨k1.1, by have e1 := k1.2; simp only at e1; omega⟩
      · exact ⟨hs, by simp only; omega⟩
theorem ways_ok (code : List Ins) (hok : CodeOK code) (h : Nat × Nat) (h1 : h.1 < code.length) (h2 : h.2 < 2) : (∀ y ∈ waysM code h, y.1 < code.length) ∧ (waysM code h).length ≤ 2 * code.length := by
  have k := visit_ways code hok (2 * code.length + 1) ([], []) h 0 h1 h2 (by simp)
  have k2 := k.2
  have k3 := left_le code.length []
  refine ⟨k.1, ?_⟩
  show (visitM code (2 * code.length + 1) ([], []) h 0).2.length ≤ _
  simp only [List.length_nil] at k2
  omega

def wys (l : List (Nat × Int)) : List Way := l.map fun y => ⟨y.1, y.2⟩
theorem wys_len (l : List (Nat × Int)) : (wys l).length = l.length := by simp [wys]
theorem wys_L (l : List (Nat × Int)) : wayL (wys l) = waysL l := by simp [wys, wayL, waysL, List.flatMap_map]
theorem wys_to {l : List (Nat × Int)} {n : Nat} (h : ∀ y ∈ l, y.1 < n) : ∀ x ∈ wys l, x.to < n := fun x hx => by
  simp only [wys, List.mem_map] at hx
  obtain ⟨y, hy, rfl⟩ := hx
  exact h y hy

def WA (w : World) (top : Nat) (p : Option Addr) (l : List (Nat × Int)) : Prop := l ≠ [] → ∃ gw, p = some ⟨gw, 0, none⟩ ∧ gw < top ∧ ∀ j, j < l.length * 2 → w.cell? ⟨gw, j, none⟩ = (waysL l)[j]?
theorem WA.eb {w w' : World} {top : Nat} {p : Option Addr} {l : List (Nat × Int)} (h : WA w top p l) (hx : EB top [] w w') : WA w' top p l := fun hl => by
  obtain ⟨gw, h1, h2, h3⟩ := h hl
  exact ⟨gw, h1, h2, fun j hj => (hx.cell h2).trans (h3 j hj)⟩
theorem WA.up {w : World} {top top' : Nat} {p : Option Addr} {l : List (Nat × Int)} (h : WA w top p l) (ht : top ≤ top') : WA w top' p l := fun hl => by
  obtain ⟨gw, h1, h2, h3⟩ := h hl
  exact ⟨gw, h1, Nat.lt_of_lt_of_le h2 ht, h3⟩
theorem own_WA {w : World} {base : Nat} {v : Value} {l : List (Nat × Int)} (h : w.ownsRow base 150 2 v l.length (waysL l)) : ∃ p c, v = .slice p l.length c ∧ WA w w.heap.size p l ∧ l.length ≤ c := by
  obtain ⟨p, c, rfl⟩ := own_slice h
  refine ⟨p, c, rfl, fun hl => ?_, ?_⟩
  · obtain ⟨g, c', hv, _, hlt, _, hc, _⟩ := own_cells h (List.length_pos_iff.2 hl)
    cases hv
    exact ⟨g, rfl, hlt, hc⟩
  · rcases h.2 with ⟨hv, hn⟩ | ⟨g, cap, cur, hv, hb, hgg, hnc, hcm, hcs, htake⟩
    · injection hv with _ h2 h3; omega
    · injection hv with _ h2 h3; omega

structure PX (w : World) (q top : Nat) (code : List Ins) (ng : Nat) (cg cc : Nat) (sp : Option Addr) (sc B mb : Nat) (nm : List (ByteArray × Nat)) : Prop where
  blk : BK w q (.cells #[.slice (some ⟨cg, 0, none⟩) code.length cc, .slice sp (waysM code (0, 0)).length sc, .slice (some ⟨B, 0, none⟩) code.length code.length, .int .i64 (ng : Int), .map (some mb)] 90 (0, 0))
  cls : w.rangeAt cg 0 (codeL code)
  cap : code.length ≤ cc
  start : WA w top sp (waysM code (0, 0))
  beh : ∀ i x, code[i]? = some x → x.op = 0 → ∃ p c, w.cell? ⟨B, i, none⟩ = some (.slice p (waysM code (i + 1, 1)).length c) ∧ WA w top p (waysM code (i + 1, 1))
  names : BK w mb (.map (nmE nm) nm.length)
  qt : q < top
  cgt : cg < top
  Bt : B < top
  mt : mb < top

theorem range_eb {w w' : World} {top b o : Nat} {xs : List Value} (h : w.rangeAt b o xs) (hx : EB top [] w w') (hb : b < top) : w'.rangeAt b o xs := fun j v hv => (hx.cell hb).trans (h j v hv)
theorem PX.eb {w w' : World} {q top : Nat} {code : List Ins} {ng cg cc : Nat} {sp : Option Addr} {sc B mb : Nat} {nm : List (ByteArray × Nat)} (h : PX w q top code ng cg cc sp sc B mb nm) (hx : EB top [] w w') : PX w' q top code ng cg cc sp sc B mb nm where
  blk := h.blk.eb hx h.qt (by simp)
  cls := range_eb h.cls hx h.cgt
  cap := h.cap
  start := h.start.eb hx
  beh := fun i x hi h0 => by
    obtain ⟨p, c, h1, h2⟩ := h.beh i x hi h0
    exact ⟨p, c, (hx.cell h.Bt).trans h1, h2.eb hx⟩
  names := h.names.eb hx h.mt (by simp)
  qt := h.qt
  cgt := h.cgt
  Bt := h.Bt
  mt := h.mt
theorem PX.up {w : World} {q top top' : Nat} {code : List Ins} {ng cg cc : Nat} {sp : Option Addr} {sc B mb : Nat} {nm : List (ByteArray × Nat)} (h : PX w q top code ng cg cc sp sc B mb nm) (ht : top ≤ top') : PX w q top' code ng cg cc sp sc B mb nm where
  blk := h.blk
  cls := h.cls
  cap := h.cap
  start := h.start.up ht
  beh := fun i x hi h0 => by
    obtain ⟨p, c, h1, h2⟩ := h.beh i x hi h0
    exact ⟨p, c, h1, h2.up ht⟩
  names := h.names
  qt := Nat.lt_of_lt_of_le h.qt ht
  cgt := Nat.lt_of_lt_of_le h.cgt ht
  Bt := Nat.lt_of_lt_of_le h.Bt ht
  mt := Nat.lt_of_lt_of_le h.mt ht
theorem PG.px {w : World} {q base : Nat} {code : List Ins} {ng : Nat} {nm : List (ByteArray × Nat)} (h : PG w q base code ng nm) (hpos : 0 < code.length) : ∃ cg cc sp sc B mb, PX w q w.heap.size code ng cg cc sp sc B mb nm := by
  obtain ⟨cp, cc, sp, sc, B, mb, hq, hoc, hos, hbh, hbB, hnm, hmb⟩ := h.ex
  obtain ⟨cg, rfl, hcap, _, hcl, hrg⟩ := own_prog hoc hpos
  obtain ⟨sp', sc', hv, hwa, _⟩ := own_WA hos
  cases hv
  obtain ⟨ca, hb, hs, hall⟩ := hbh.ex
  refine ⟨cg, cc, sp, sc, B, mb, hq, hrg, hcap, hwa, fun i x hi h0 => ?_, hnm, hq.lt, hcl, hb.lt, hnm.lt⟩
  have hi' : i < code.length := by
    have := List.getElem?_eq_some_iff.1 hi
    exact this.1
  obtain ⟨v, h1, h2⟩ := hall i x hi' hi h0
  obtain ⟨p, c, rfl, h3, _⟩ := own_WA h2
  exact ⟨p, c, by rw [hb.all.1]; exact h1, h3⟩
theorem PG.ex' {w w' : World} {q base : Nat} {code : List Ins} {ng : Nat} {nm : List (ByteArray × Nat)} (h : PG w q base code ng nm) (hx : Ex [] w w') : PG w' q base code ng nm := by
  obtain ⟨cp, cc, sp, sc, B, mb, hq, hoc, hos, hbh, hbB, hnm, hmb⟩ := h.ex
  exact ⟨Nat.le_trans h.le hx.size, h.ql, cp, cc, sp, sc, B, mb, hq.ex hx (by simp), own_ex hoc hx (by simp), own_ex hos hx (by simp), hbh.ex' hx, hbB, hnm.ex hx (by simp), hmb⟩

def Ins.cls (i : Ins) : Rx.Q.Cls := ⟨i.lo, i.hi, i.hg⟩
def Ins.takes (i : Ins) (r : Int) : Bool := i.op == 0 && Rx.Q.hasC i.cls r
def stepL (code : List Ins) (r pl : Int) : List Th → List Th × List Int → List Th × List Int
  | [], s => s
  | t :: ts, s => match code[t.pc]? with
    | some i => if i.takes r then stepL code r pl ts (followM t.sl pl (wys (waysM code (t.pc + 1, 1))) s) else stepL code r pl ts s
    | none => stepL code r pl ts s
def TOK (n : Nat) (ts : List Th) : Prop := ∀ t ∈ ts, t.sl.length = 10 ∧ t.pc < n
theorem markM_len (b pl : Int) (sl : List Int) : (markM b pl sl).length = sl.length := markN_len b pl 10 sl
theorem followM_ok (sl : List Int) (hsl : sl.length = 10) (pl : Int) (n : Nat) : ∀ (ws : List Way) (s : List Th × List Int), (∀ x ∈ ws, x.to < n) → s.2.length = n → TOK n s.1 → s.1.length ≤ s.2.count pl →
    (followM sl pl ws s).2.length = n ∧ TOK n (followM sl pl ws s).1 ∧ (followM sl pl ws s).1.length ≤ (followM sl pl ws s).2.count pl
  | [], s, _, h1, h2, h3 => ⟨h1, h2, h3⟩
  | x :: ws, s, hw, h1, h2, h3 => by
    have hx := hw x (List.mem_cons_self ..)
    have hws : ∀ y ∈ ws, y.to < n := fun y hy => hw y (List.mem_cons_of_mem _ hy)
    unfold followM
    by_cases hc : s.2[x.to]? = some pl
    · rw [if_pos hc]
      exact followM_ok sl hsl pl n ws s hws h1 h2 h3
    · rw [if_neg hc]
      refine followM_ok sl hsl pl n ws _ hws (by simpa using h1) (fun t ht => ?_) ?_
      · rcases List.mem_append.1 ht with ht | ht
        · exact h2 t ht
        · simp at ht; subst ht; exact ⟨by rw [markM_len]; exact hsl, hx⟩
      · have hlt : x.to < s.2.length := by omega
        have hne : ¬ (s.2[x.to]'hlt = pl) := fun e => hc (by rw [List.getElem?_eq_getElem hlt, e])
        simp only [List.length_append, List.length_cons, List.length_nil]
        rw [List.count_set hlt]
        simp [hne]
        omega
theorem stepL_ok (code : List Ins) (hok : CodeOK code) (htk : TakeOK code) (r pl : Int) : ∀ (ts : List Th) (s : List Th × List Int), TOK code.length ts → s.2.length = code.length → TOK code.length s.1 → s.1.length ≤ s.2.count pl →
    (stepL code r pl ts s).2.length = code.length ∧ TOK code.length (stepL code r pl ts s).1 ∧ (stepL code r pl ts s).1.length ≤ (stepL code r pl ts s).2.count pl
  | [], s, _, h1, h2, h3 => ⟨h1, h2, h3⟩
  | t :: ts, s, ht, h1, h2, h3 => by
    have ht0 := ht t (List.mem_cons_self ..)
    have hts : TOK code.length ts := fun y hy => ht y (List.mem_cons_of_mem _ hy)
    unfold stepL
    split
    · next i hi =>
      split
      · next hta =>
        have h0 : i.op = 0 := by
          simp only [Ins.takes, Bool.and_eq_true, beq_iff_eq] at hta
          exact hta.1
        have hk := ways_ok code hok (t.pc + 1, 1) (htk _ _ hi h0) (by simp)
        have h4 := followM_ok t.sl ht0.1 pl code.length (wys (waysM code (t.pc + 1, 1))) s (wys_to hk.1) h1 h2 h3
        exact stepL_ok code hok htk r pl ts _ hts h4.1 h4.2.1 h4.2.2
      · exact stepL_ok code hok htk r pl ts s hts h1 h2 h3
    · exact stepL_ok code hok htk r pl ts s hts h1 h2 h3

structure RunG (w : World) (u gr base q n : Nat) (nowV nextV : Value) (ts : List Th) (rc : List Int) : Prop where
  blk : BK w u (.cells #[.pointer (some ⟨q, 0, none⟩), nowV, nextV, .slice (some ⟨gr, 0, none⟩) n n] 148 (0, 0))
  now : w.ownsRow base 153 11 nowV ts.length (thL ts)
  next : ∃ k xs, w.ownsRow base 153 11 nextV k xs
  apart : ∀ b, nowV.ownBlock = some b → nextV.ownBlock ≠ some b
  rcb : BK w gr (.cells (ints rc).toArray 3 (0, 0))
  rcl : rc.length = n
  tok : TOK n ts
  tlen : ts.length ≤ n
  ul : u < base
  gl : gr < base
  ug : u ≠ gr
  le : base ≤ w.heap.size
theorem RunG.ex {w w' : World} {u gr base q n : Nat} {nowV nextV : Value} {ts : List Th} {rc : List Int} (h : RunG w u gr base q n nowV nextV ts rc) (hx : Ex [] w w') : RunG w' u gr base q n nowV nextV ts rc := by
  obtain ⟨k, xs, hn⟩ := h.next
  exact ⟨h.blk.ex hx (by simp), own_ex h.now hx (by simp), ⟨k, xs, own_ex hn hx (by simp)⟩, h.apart, h.rcb.ex hx (by simp), h.rcl, h.tok, h.tlen, h.ul, h.gl, h.ug, Nat.le_trans h.le hx.size⟩

theorem own_zero' {w : World} {base : Nat} {e : TypeId} {size n : Nat} {v : Value} {xs : List Value} (h : w.ownsRow base e size v n xs) :
    ∃ p c, v = .slice p n c ∧ w.ownsRow base e size (.slice p 0 c) 0 [] ∧ (Value.slice p 0 c).ownBlock = v.ownBlock ∧ (p = none → n = 0 ∧ c = 0) := by
  rcases h.2 with ⟨rfl, rfl⟩ | ⟨g, cap, cur, rfl, hb, hgg, hnc, hcm, hcs, htake⟩
  · exact ⟨none, 0, rfl, World.ownsRow_nil _ _ _ _, rfl, fun _ => ⟨rfl, rfl⟩⟩
  · exact ⟨some ⟨g, 0, none⟩, cap, rfl, ⟨by simp, .inr ⟨g, cap, cur, rfl, hb, hgg, by omega, hcm, hcs, by simp⟩⟩, rfl, fun h => by cases h⟩
end Go.Proofs.YtgmjjhmnchefbaaGreatDoor.G

/- A run's step, at any program. -/
namespace Go.Proofs.YtgmjjhmnchefbaaGreatDoor.G
open Go.RowKit

theorem ofRx {l : List Nat} {w w' : World} (h : Rx.Ex l w w') : Ex l w w' := ⟨h.os, h.tape, h.output, h.size, h.block⟩
theorem thr_range' {w : World} {b : Nat} {x : Value} {y0 y1 y2 y3 y4 y5 y6 y7 y8 y9 : Int} {sl : List Int} (hy : sl = [y0, y1, y2, y3, y4, y5, y6, y7, y8, y9]) (h : BK w b (.cells #[x, .int .i64 y0, .int .i64 y1, .int .i64 y2, .int .i64 y3, .int .i64 y4, .int .i64 y5, .int .i64 y6, .int .i64 y7, .int .i64 y8, .int .i64 y9] 153 (0, 0))) : w.rangeAt b 1 (ints sl) := by
  subst hy
  intro j v hv
  rw [h.all.1]
  match j, hv with
  | 0, hv => exact hv
  | 1, hv => exact hv
  | 2, hv => exact hv
  | 3, hv => exact hv
  | 4, hv => exact hv
  | 5, hv => exact hv
  | 6, hv => exact hv
  | 7, hv => exact hv
  | 8, hv => exact hv
  | 9, hv => exact hv
  | n + 10, hv => simp [ints] at hv

set_option maxHeartbeats 8000000 in
set_option maxRecDepth 100000 in
theorem step_any (code : List Ins) (hok : CodeOK code) (htk : TakeOK code) (hcl : code.length ≤ 100000) (u gr base q top ng cg cc sc B mb : Nat) (sp : Option Addr) (nm : List (ByteArray × Nat)) (r pl : Int) (nowV nextV : Value) (w : World) (ts : List Th) (rc : List Int)
    (hp : PX w q top code ng cg cc sp sc B mb nm) (hr : RunG w u gr base q code.length nowV nextV ts rc) (hr0 : 0 ≤ r) (htu : top ≤ u) (htg : top ≤ gr) :
    Calls Tryz.prog 30 #[.pointer (some ⟨u, 0, none⟩), .int .i32 r, .int .i64 pl] w fun e w' => e = .returned (.bool (decide (0 < (stepL code r pl ts ([], rc)).1.length))) ∧ (∃ nowV' nextV', RunG w' u gr base q code.length nowV' nextV' (stepL code r pl ts ([], rc)).1 (stepL code r pl ts ([], rc)).2) ∧ EB top [] w w' := by
  obtain ⟨nn, nx, hno⟩ := hr.next
  obtain ⟨np, nc, rfl, hnz, hnb, hnn⟩ := own_zero' hno
  obtain ⟨p0, c0, rfl⟩ := own_slice hr.now
  obtain ⟨n, hn⟩ : ∃ n, n = ts.length := ⟨_, rfl⟩
  obtain ⟨cn, hcn⟩ : ∃ cn, cn = code.length := ⟨_, rfl⟩
  obtain ⟨res, hres⟩ : ∃ res, res = stepL code r pl ts ([], rc) := ⟨_, rfl⟩
  have hrok := stepL_ok code hok htk r pl ts ([], rc) hr.tok hr.rcl (fun _ h => by simp at h) (by simp)
  rw [← hres] at hrok ⊢
  rw [← hcn] at hr hrok ⊢
  have hur := hr.blk
  have hnow := hr.now
  rw [← hn] at hur hnow
  obtain ⟨hcu, hfu⟩ := hur.all
  have HP := hide hp
  have HR := hide hr
  have HUR := hide hur
  have HNOW := hide hnow
  have HNZ := hide hnz
  have HNB := hide hnb
  have HNO := hide hno
  have HRES := hide hres
  have HNN := hide hn
  have HCN := hide hcn
  have HROK := hide hrok
  have HOK := hide hok
  have HTK := hide htk
  have hul := hr.ul
  have hgl := hr.gl
  have hug := hr.ug
  have hle := hr.le
  have hnc : n ≤ 100000 := by rw [hn]; have := hr.tlen; omega
  have hcl' : cn ≤ 100000 := by omega
  clear hp hr hnz hnb hno hur hnow hres hn hcn hrok hok htk hcl
  have hcap : (0 : Int) ≤ (nc : Int) := by omega
  go_enter Tryz.func30, Tryz.ntmps30
  go_wp2_with fail
  generalize hw1 : World.setCell _ (⟨u, 1, none⟩ : Addr) _ = w1
  have hx1 : Ex [u] w w1 := by rw [← hw1]; exact (Ex.refl _ _).setCell (Or.inl (by simp)) _
  have hu1 : BK w1 u (.cells #[.pointer (some ⟨q, 0, none⟩), .slice np 0 nc, .slice np nn nc, .slice (some ⟨gr, 0, none⟩) cn cn] 148 (0, 0)) := by
    have h1 := BK.self HUR.out 1 (.slice np 0 nc)
    simp only [List.setIfInBounds_toArray, List.set_cons_zero, List.set_cons_succ] at h1
    rw [← hw1]; exact h1
  have HX1 := hide hx1
  have HU1 := hide hu1
  clear hw1 hx1 hu1 hcu hfu
  go_loopg [25] n (fun gk i25 wr => ∃ (j : Nat) (nowV' : Value) (ts' : List Th) (rc' : List Int), j + gk = n ∧ i25 = .int .i64 j ∧ stepL code r pl (ts.drop j) (ts', rc') = res ∧ TOK cn ts' ∧ ts'.length ≤ rc'.count pl ∧ rc'.length = cn ∧
    BK wr u (.cells #[.pointer (some ⟨q, 0, none⟩), nowV', .slice np nn nc, .slice (some ⟨gr, 0, none⟩) cn cn] 148 (0, 0)) ∧ wr.ownsRow base 153 11 nowV' ts'.length (thL ts') ∧ BK wr gr (.cells (ints rc').toArray 3 (0, 0)) ∧
    wr.ownsRow base 153 11 (.slice p0 n c0) n (thL ts) ∧ (∀ b, nowV'.ownBlock = some b → (Value.slice p0 n c0).ownBlock ≠ some b) ∧ EB top [] w wr)
  case atStart =>
    refine ⟨0, _, [], rc, by omega, rfl, HRES.out.symm, fun _ h => by simp at h, by simp, HR.out.rcl, HU1.out, ?_, ?_, ?_, fun b h1 h2 => ?_, ?_⟩
    · exact own_ex HNZ.out HX1.out (by simpa using hul)
    · exact HR.out.rcb.ex HX1.out (by simpa using fun h => hug h.symm)
    · exact own_ex HNOW.out HX1.out (by simpa using hul)
    · rw [HNB.out] at h1
      exact HR.out.apart b (by rw [← HNN.out]; exact h2) h1
    · exact (EB.ofEx HX1.out (by omega)).mono (Nat.le_refl _) (fun x hx hlt => by simp at hx; omega)
  case round =>
    obtain ⟨j, nowV', ts', rc', hj, rfl, hst, htok, hcnt, hrl, hur, hown, hgr, hold, hap, heb⟩ := hrel
    have HST := hide hst
    have HTOK := hide htok
    have HCNT := hide hcnt
    have HRL := hide hrl
    have HUR' := hide hur
    have HOWN := hide hown
    have HGR := hide hgr
    have HOLD := hide hold
    have HAP := hide hap
    have HEB := hide heb
    have hzr : w.heap.size ≤ wr.heap.size := heb.size
    have hul' := hur.lt
    obtain ⟨hcu, hfu⟩ := hur.all
    have hlen' : ts'.length ≤ cn := by have h1 := List.count_le_length (a := pl) (l := rc'); omega
    cases gk with
    | zero =>
      obtain rfl : j = n := by omega
      obtain ⟨p', c', rfl⟩ := own_slice hown
      have hrs : res = (ts', rc') := by rw [← hst, HNN.out, List.drop_length]; rfl
      obtain ⟨m', hm'⟩ : ∃ m', m' = ts'.length := ⟨_, rfl⟩
      have HM := hide hm'
      rw [← hm'] at hcu
      have HRS := hide hrs
      clear hst htok hcnt hrl hur hown hgr hold hap heb hj hm' hrs
      go_wp2_with fail
      go_ret
      have hb5 := BK.self HUR'.out 2 (.slice p0 j c0)
      simp only [List.setIfInBounds_toArray, List.set_cons_zero, List.set_cons_succ] at hb5
      rw [HRS.out]
      refine ⟨by rw [← HM.out]; simp, ⟨_, _, ⟨hb5, own_set HOWN.out hul _, ⟨_, _, own_set HOLD.out hul _⟩, HAP.out, HGR.out.set (by simpa using fun h => hug h.symm) _, HRL.out, HTOK.out, hlen', hul, hgl, hug, by simp; omega⟩⟩, ?_⟩
      exact HEB.out.setCell (Or.inr (by simpa using htu)) _
    | succ g =>
      have hj' : j < ts.length := by rw [← HNN.out]; omega
      have hjn : (j : Int) < (n : Int) := by omega
      have hold' := hold
      rw [HNN.out] at hold'
      obtain ⟨ngb, hp0, hngb, hngl, hngc, hrg⟩ := own_threads hold' (by omega)
      have htok0 := HR.out.tok
      obtain ⟨y0, y1, y2, y3, y4, y5, y6, y7, y8, y9, hy, hcl⟩ := thread_cells hrg (fun t ht => (htok0 t ht).1) j hj'
      have hpc := (htok0 _ (List.getElem_mem hj')).2
      obtain ⟨k, hk⟩ : ∃ k, k = (ts[j]'hj').pc := ⟨_, rfl⟩
      obtain ⟨sl, hsl⟩ : ∃ sl, sl = (ts[j]'hj').sl := ⟨_, rfl⟩
      have hsl10 : sl.length = 10 := by rw [hsl]; exact (htok0 _ (List.getElem_mem hj')).1
      rw [← hsl] at hy
      rw [← hk] at hcl hpc
      obtain ⟨ci, hci⟩ : ∃ ci, code[k]? = some ci := ⟨_, List.getElem?_eq_getElem (by rw [← HCN.out]; exact hpc)⟩
      have hstep : stepL code r pl (ts.drop j) (ts', rc') = if ci.takes r then stepL code r pl (ts.drop (j + 1)) (followM sl pl (wys (waysM code (k + 1, 1))) (ts', rc')) else stepL code r pl (ts.drop (j + 1)) (ts', rc') := by
        rw [List.drop_eq_getElem_cons hj', stepL, ← hk, hci, ← hsl]
      have HSTP := hide hstep
      have hpr := HP.out.eb heb
      have hcode : ∀ o, o < 7 → wr.cell? ⟨cg, k * 7 + o, none⟩ = ci.cells[o]? := fun o ho => by
        have h1 := codeL_at code k o ci hci ho
        have h3 : k * 7 + o < (codeL code).length := by rw [codeL_len]; have := HCN.out; omega
        rw [← h1, List.getElem?_eq_getElem h3]
        simpa using hpr.cls (k * 7 + o) _ (List.getElem?_eq_getElem h3)
      have hbeh := hpr.beh k ci hci
      have hwk : ci.op = 0 → (∀ y ∈ waysM code (k + 1, 1), y.1 < cn) ∧ (waysM code (k + 1, 1)).length ≤ 2 * cn := fun h0 => by
        have := ways_ok code HOK.out (k + 1, 1) (HTK.out _ _ hci h0) (by simp)
        rw [← HCN.out] at this
        exact this
      obtain ⟨op, lo, hi, hg, t0, t1, sl0⟩ := ci
      simp only [Ins.cells] at hcode
      have c0 : wr.cell? ⟨cg, k * 7, none⟩ = some (.int .i64 op) := hcode 0 (by omega)
      have c1 : wr.cell? ⟨cg, k * 7 + 1, none⟩ = some (.int .u64 lo) := hcode 1 (by omega)
      have c2 : wr.cell? ⟨cg, k * 7 + 2, none⟩ = some (.int .u64 hi) := hcode 2 (by omega)
      have c3 : wr.cell? ⟨cg, k * 7 + 3, none⟩ = some (.bool hg) := hcode 3 (by omega)
      have c4 : wr.cell? ⟨cg, k * 7 + 4, none⟩ = some (.int .i64 t0) := hcode 4 (by omega)
      have c5 : wr.cell? ⟨cg, k * 7 + 5, none⟩ = some (.int .i64 t1) := hcode 5 (by omega)
      have c6 : wr.cell? ⟨cg, k * 7 + 6, none⟩ = some (.int .i64 sl0) := hcode 6 (by omega)
      have j0 : wr.cell? ⟨ngb, j * 11, none⟩ = some (.int .i64 (k : Int)) := hcl 0 (by omega)
      have j1 : wr.cell? ⟨ngb, j * 11 + 1, none⟩ = some (.int .i64 y0) := hcl 1 (by omega)
      have j2 : wr.cell? ⟨ngb, j * 11 + 2, none⟩ = some (.int .i64 y1) := hcl 2 (by omega)
      have j3 : wr.cell? ⟨ngb, j * 11 + 3, none⟩ = some (.int .i64 y2) := hcl 3 (by omega)
      have j4 : wr.cell? ⟨ngb, j * 11 + 4, none⟩ = some (.int .i64 y3) := hcl 4 (by omega)
      have j5 : wr.cell? ⟨ngb, j * 11 + 5, none⟩ = some (.int .i64 y4) := hcl 5 (by omega)
      have j6 : wr.cell? ⟨ngb, j * 11 + 6, none⟩ = some (.int .i64 y5) := hcl 6 (by omega)
      have j7 : wr.cell? ⟨ngb, j * 11 + 7, none⟩ = some (.int .i64 y6) := hcl 7 (by omega)
      have j8 : wr.cell? ⟨ngb, j * 11 + 8, none⟩ = some (.int .i64 y7) := hcl 8 (by omega)
      have j9 : wr.cell? ⟨ngb, j * 11 + 9, none⟩ = some (.int .i64 y8) := hcl 9 (by omega)
      have j10 : wr.cell? ⟨ngb, j * 11 + 10, none⟩ = some (.int .i64 y9) := hcl 10 (by omega)
      have hkn : (k : Int) < (cn : Int) := by omega
      have hpb := hpr.blk
      rw [← HCN.out] at hpb
      have q0 : wr.cell? ⟨q, 0, none⟩ = some (.slice (some ⟨cg, 0, none⟩) cn cc) := hpb.all.1 0
      have q2 : wr.cell? ⟨q, 2, none⟩ = some (.slice (some ⟨B, 0, none⟩) cn cn) := hpb.all.1 2
      have hql := hpb.lt
      have hqt := HP.out.qt
      have hcgt := HP.out.cgt
      have hBt := HP.out.Bt
      have hcg1 : cg < wr.heap.size := by omega
      have hB1 : B < wr.heap.size := by omega
      have hcap' : cn ≤ cc := by rw [HCN.out]; exact HP.out.cap
      have HY := hide hy
      have HSL := hide hsl
      have HPR := hide hpr
      have HBEH := hide hbeh
      have HWK := hide hwk
      have hKH := fun w => Rx.Q.has_any ⟨lo, hi, hg⟩ r w hr0
      have htake : ({ op := op, lo := lo, hi := hi, hg := hg, t0 := t0, t1 := t1, sl := sl0 } : Ins).takes r = (op == 0 && Rx.Q.hasC ⟨lo, hi, hg⟩ r) := rfl
      rw [htake] at HSTP
      obtain ⟨hv, hhv⟩ : ∃ hv, hv = Rx.Q.hasC ⟨lo, hi, hg⟩ r := ⟨_, rfl⟩
      rw [← hhv] at hKH HSTP
      have KH := hide hKH
      subst hp0
      clear hst htok hcnt hrl hur hown hgr hold hold' hap heb hrg hcl hpc hci hstep hcode hy hsl hpr hbeh hwk hKH hhv htake hpb hk htok0
      go_wp2_with fail
      go_region
      generalize hw2 : World.drew _ = w2
      have hx2 : Ex [] wr w2 := by rw [← hw2]; exact (((Ex.refl _ _).alloc _).alloc _).drew
      have ht2 : BK w2 wr.heap.size (.cells #[.int .i64 k, .int .i64 y0, .int .i64 y1, .int .i64 y2, .int .i64 y3, .int .i64 y4, .int .i64 y5, .int .i64 y6, .int .i64 y7, .int .i64 y8, .int .i64 y9] 153 (0, 0)) := by
        rw [← hw2]; exact ((BK.new _ _).alloc _).drew
      have hi2 : BK w2 (wr.heap.size + 1) (.cells #[.int .i64 op, .int .u64 lo, .int .u64 hi, .bool hg, .int .i64 t0, .int .i64 t1, .int .i64 sl0] 138 (0, 0)) := by
        have h1 := BK.new (wr.alloc (Obj.cells #[.int .i64 k, .int .i64 y0, .int .i64 y1, .int .i64 y2, .int .i64 y3, .int .i64 y4, .int .i64 y5, .int .i64 y6, .int .i64 y7, .int .i64 y8, .int .i64 y9] 153)) (Obj.cells #[.int .i64 op, .int .u64 lo, .int .u64 hi, .bool hg, .int .i64 t0, .int .i64 t1, .int .i64 sl0] 138)
        simp only [World.size_alloc] at h1
        rw [← hw2]; exact h1.drew
      have HT2 := hide ht2
      have HX2 := hide hx2
      clear hw2 hcu hfu q0 q2 j0 j1 j2 j3 j4 j5 j6 j7 j8 j9 j10 c0 c1 c2 c3 c4 c5 c6
      obtain ⟨hci, hfi⟩ := hi2.all
      have hil := hi2.lt
      clear hi2 ht2 hx2
      cases hop : (op == 0) with
      | false =>
        go_wp2_with fail
        go_roundg g
        case measure => omega
        case rel =>
          refine ⟨j + 1, nowV', ts', rc', by omega, by simp, ?_, HTOK.out, HCNT.out, HRL.out, HUR'.out.ex HX2.out (by simp), own_ex HOWN.out HX2.out (by simp), HGR.out.ex HX2.out (by simp), own_ex HOLD.out HX2.out (by simp), HAP.out, ?_⟩
          · have h1 := HST.out
            rw [HSTP.out, hop] at h1
            simpa using h1
          · exact HEB.out.trans (EB.ofEx HX2.out (by omega))
      | true =>
        go_wp2_with fail
        refine (KH.out _).mono ?_
        rintro e w3 ⟨rfl, hx3r⟩
        have hx3 := ofRx hx3r
        clear hx3r
        have hx13 : Ex [] wr w3 := HX2.out.trans hx3
        have hz13 := hx13.size
        have ht3 := HT2.out.ex hx3 (by simp)
        have hi3 : wr.heap.size + 1 < w3.heap.size := Nat.lt_of_lt_of_le hil hx3.size
        have hu3 := HUR'.out.ex hx13 (by simp)
        have HX13 := hide hx13
        have HT3 := hide ht3
        have HU3 := hide hu3
        clear hx3 hx13 ht3 hci hfi hil
        cases hv with
        | false =>
          go_wp2_with fail
          go_roundg g
          case measure => omega
          case rel =>
            refine ⟨j + 1, nowV', ts', rc', by omega, by simp, ?_, HTOK.out, HCNT.out, HRL.out, HU3.out, own_ex HOWN.out HX13.out (by simp), HGR.out.ex HX13.out (by simp), own_ex HOLD.out HX13.out (by simp), HAP.out, ?_⟩
            · have h1 := HST.out
              rw [HSTP.out, hop] at h1
              simpa using h1
            · exact HEB.out.trans (EB.ofEx HX13.out (by omega))
        | true =>
          have h00 : op = 0 := by simpa using hop
          obtain ⟨pb, cb, hb0, hwa⟩ := HBEH.out h00
          obtain ⟨hwt, hwl⟩ := HWK.out h00
          obtain ⟨l, hl⟩ : ∃ l, l = waysM code (k + 1, 1) := ⟨_, rfl⟩
          rw [← hl] at hb0 hwa hwt hwl HSTP
          have hwa3 := hwa.eb (EB.ofEx HX13.out (show top ≤ wr.heap.size by omega))
          obtain ⟨gw, hgw, hpa, hwc⟩ : ∃ gw, gw < top ∧ (wys l ≠ [] → pb = some ⟨gw, 0, none⟩) ∧ ∀ j, j < (wys l).length * 2 → w3.cell? ⟨gw, j, none⟩ = (wayL (wys l))[j]? := by
            by_cases hnil : l = []
            · subst hnil
              exact ⟨q, hqt, fun h => absurd rfl h, fun j hj => by simp [wys] at hj⟩
            · obtain ⟨gw, h1, h2, h3⟩ := hwa3 hnil
              exact ⟨gw, h2, fun _ => h1, fun j hj => by rw [wys_L]; exact h3 j (by rwa [wys_len] at hj)⟩
          have s0 : w3.cell? ⟨u, 0, none⟩ = some (.pointer (some ⟨q, 0, none⟩)) := hu3.all.1 0
          have hp3 := HPR.out.eb (EB.ofEx HX13.out (show top ≤ wr.heap.size by omega))
          have hpb3 := hp3.blk
          rw [← HCN.out] at hpb3
          have s1 : w3.cell? ⟨q, 2, none⟩ = some (.slice (some ⟨B, 0, none⟩) cn cn) := hpb3.all.1 2
          have s2 : w3.cell? ⟨wr.heap.size, 0, none⟩ = some (.int .i64 k) := HT3.out.all.1 0
          have s3 : w3.rangeAt wr.heap.size 1 (ints sl) := thr_range' HY.out HT3.out
          have b0 : w3.cell? ⟨B, k, none⟩ = some (.slice pb l.length cb) := (HX13.out.cell0.1 B k hB1).trans hb0
          have hn3 := own_ex HOWN.out HX13.out (by simp)
          have hgr3 := HGR.out.ex HX13.out (by simp)
          have hul3 := hu3.lt
          have htl3 := HT3.out.lt
          have key := follow_any u gr gw cb cn base pb pl (.pointer (some ⟨q, 0, none⟩)) nowV' (.slice np nn nc) w3.drew rc' ts' (wys l) sl hsl10 hn3.drew HU3.out.drew hgr3.drew HRL.out hcl' (by rw [wys_len]; omega) (wys_to hwt) hul hgl hug (by show base ≤ w3.heap.size; omega) hpa hwc (by omega) (by omega) (by omega)
          rw [wys_len] at key
          have KEY := hide key
          have HL := hide hl
          have HWT := hide hwt
          have h90 := Tryz.underlying95
          have hs90 := size90' sl hsl10
          have HN3 := hide hn3
          have hnl : ∀ x, x ≠ u → x ≠ gr → (x < base ∨ wr.heap.size ≤ x) → x ∉ (u :: gr :: nowV'.ownBlock.toList) := fun x h2 h3 h4 hmem => by
            simp only [List.mem_cons, Option.mem_toList] at hmem
            rcases hmem with h | h | h
            · exact h2 h
            · exact h3 h
            · have e1 := own_block HOWN.out x h
              have e2 := (HOWN.out.lt x h).2
              omega
          have HNL := hide hnl
          obtain ⟨ln, hln⟩ : ∃ ln, ln = l.length := ⟨_, rfl⟩
          rw [← hln] at b0 KEY
          clear key hl hwt hwl hwa hwa3 hpa hwc hp3 hpb3 hn3 hgr3 hu3 hb0 hnl hln h00
          go_wp2_with fail
          go_region_held3 (fun w' => w'.cell? ⟨u, 0, none⟩ = some (.pointer (some ⟨q, 0, none⟩)) ∧ w'.cell? ⟨q, 2, none⟩ = some (.slice (some ⟨B, 0, none⟩) cn cn) ∧ w'.cell? ⟨wr.heap.size, 0, none⟩ = some (.int .i64 k) ∧ w'.cell? ⟨B, k, none⟩ = some (.slice pb ln cb) ∧ w'.rangeAt wr.heap.size 1 (ints sl))
            (first | exact ⟨q0, q1, q2, q3, q4⟩ | exact ⟨s0, s1, s2, b0, s3⟩)
            (first
              | (go_at_call 27; refine KEY.out.mono ?_; rintro e w4 ⟨rfl, nowV4, hu4, ho4, hg4, hx4, hor4⟩; have q0 : w4.cell? ⟨u, 0, none⟩ = some (.pointer (some ⟨q, 0, none⟩)) := hu4.all.1 0; have q1 := (hx4.cell.1 q 2 (show q < w3.heap.size by omega) (HNL.out q (by omega) (by omega) (Or.inl (by omega)))).trans s1; have ht4 := HT3.out.drew.ex hx4 (HNL.out _ (by omega) (by omega) (Or.inr (Nat.le_refl _))); have q2 : w4.cell? ⟨wr.heap.size, 0, none⟩ = some (.int .i64 k) := ht4.all.1 0; have q3 := (hx4.cell.1 B k (show B < w3.heap.size by omega) (HNL.out B (by omega) (by omega) (Or.inl (by omega)))).trans b0; have q4 := thr_range' HY.out ht4))
          have HU4 := hide hu4
          have HO4 := hide ho4
          have HG4 := hide hg4
          have HX4 := hide hx4
          have hz4 : w3.heap.size ≤ w4.heap.size := hx4.size
          clear hu4 ho4 hg4 hx4 q0 q1 q2 q3 q4 ht4 s0 s1 s2 s3 b0
          go_wp2_with fail
          go_roundg g
          case measure => omega
          case rel =>
            have hfo := followM_ok sl hsl10 pl cn (wys l) (ts', rc') (wys_to HWT.out) HRL.out HTOK.out HCNT.out
            refine ⟨j + 1, nowV4, (followM sl pl (wys l) (ts', rc')).1, (followM sl pl (wys l) (ts', rc')).2, by omega, by simp, ?_, hfo.2.1, hfo.2.2, hfo.1, HU4.out, HO4.out, HG4.out, ?_, fun b h1 h2 => ?_, ?_⟩
            · have h1 := HST.out
              rw [HSTP.out, hop] at h1
              simpa using h1
            · have hold3 := own_ex HOLD.out HX13.out (by simp)
              refine own_exn (World.ownsRow.drew hold3) HX4.out (fun b hb hmem => ?_)
              simp only [List.mem_cons, Option.mem_toList] at hmem
              have e0 := own_block HOLD.out b hb
              rcases hmem with h | h | h
              · omega
              · omega
              · exact HAP.out b h hb
            · rcases hor4 with h | ⟨g4, h, hg4⟩
              · exact HAP.out b (by rw [← h]; exact h1) h2
              · rw [h1] at h
                cases h
                have e1 := (HOLD.out.lt b h2).2
                have : w3.heap.size ≤ b := hg4
                omega
            · have e2 : EB top [] w3 w4 := ((EB.refl top [] w3).drew).trans ((EB.ofEx HX4.out (show top ≤ w3.heap.size by omega)).mono (Nat.le_refl _) (fun x hx hlt => by
                simp only [List.mem_cons, Option.mem_toList] at hx
                rcases hx with h | h | h
                · omega
                · omega
                · have := own_block HOWN.out x h; omega))
              exact (HEB.out.trans (EB.ofEx HX13.out (by omega))).trans e2
end Go.Proofs.YtgmjjhmnchefbaaGreatDoor.G
