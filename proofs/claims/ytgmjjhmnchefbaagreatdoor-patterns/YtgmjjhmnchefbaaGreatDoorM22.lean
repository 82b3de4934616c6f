/- V8 V9 R1 R2, one behind the other. -/
import Derived.Test.YtgmjjhmnchefbaaGreatDoorM21
set_option linter.unusedVariables false
set_option linter.unusedSimpArgs false
/- The conditions under which a text is read, as a program tells them. -/
namespace Go.Proofs.YtgmjjhmnchefbaaGreatDoor.G
open Go.RowKit

def insOKB (n k : Nat) (i : Ins) : Bool :=
  i.op == 0 || i.op == 6 || (i.op == 1 && decide (0 ≤ i.t0) && decide (i.t0 < n) && decide (0 ≤ i.t1) && decide (i.t1 < n)) || (i.op == 2 && decide (0 ≤ i.t0) && decide (i.t0 < n)) ||
  (i.op == 3 && decide (k + 1 < n) && decide (0 ≤ i.sl) && decide (i.sl < 64)) || (i.op == 4 && decide (k + 1 < n)) || (i.op == 5 && decide (k + 1 < n))
def codeOKB (code : List Ins) : Bool := (List.range code.length).all fun k => match code[k]? with
  | none => true
  | some i => insOKB code.length k i && (i.op != 0 || decide (k + 1 < code.length))
theorem codeOK_of {code : List Ins} (h : codeOKB code = true) : CodeOK code ∧ TakeOK code := by
  have key : ∀ k i, code[k]? = some i → insOKB code.length k i = true ∧ (i.op = 0 → k + 1 < code.length) := by
    intro k i hi
    have hk : k < code.length := (List.getElem?_eq_some_iff.1 hi).1
    have h1 := List.all_eq_true.1 h k (List.mem_range.2 hk)
    rw [hi] at h1
    simp only [Bool.and_eq_true, Bool.or_eq_true, bne_iff_ne, decide_eq_true_eq] at h1
    exact ⟨h1.1, fun h0 => h1.2.resolve_left (fun hn => hn h0)⟩
  refine ⟨fun k i hi => ?_, fun k i hi h0 => (key k i hi).2 h0⟩
  have h1 := (key k i hi).1
  simp only [insOKB, Bool.or_eq_true, Bool.and_eq_true, beq_iff_eq, decide_eq_true_eq] at h1
  rcases h1 with (((((h1 | h1) | h1) | h1) | h1) | h1) | h1
  · exact .inl h1
  · exact .inr (.inl h1)
  · exact .inr (.inr (.inl ⟨h1.1.1.1.1, ⟨i.t0.toNat, by omega, by omega⟩, i.t1.toNat, by omega, by omega⟩))
  · exact .inr (.inr (.inr (.inl ⟨h1.1.1, i.t0.toNat, by omega, by omega⟩)))
  · exact .inr (.inr (.inr (.inr (.inl ⟨h1.1.1.1, h1.1.1.2, i.sl.toNat, by omega, by omega⟩))))
  · exact .inr (.inr (.inr (.inr (.inr (.inl h1)))))
  · exact .inr (.inr (.inr (.inr (.inr (.inr h1)))))

mutual
def wokB : Pt → Bool
  | .single _ => true
  | .seq l => wokLB l && decide (wtL l < 1000000000000000000) && decide (l.length < 1000000000000000000)
  | .alt l => wokLB l && decide (wtL l < 1000000000000000000) && decide (l.length < 1000000000000000000) && decide (1 ≤ l.length)
  | .wrap q k => wokB q && decide (wt q < 1000000000000000000) && decide (k < 1000000)
  | .count q le mo _ => wokB q && decide (wt q < 1000000000000000000) && decide ((le : Int) < 1000000000000000000) && decide (-1 ≤ mo) && decide (mo < 1000000000000000000) && decide (wt q * (if mo = -1 then le + 1 else mo.toNat) < 1000000000000000000)
def wokLB : List Pt → Bool
  | [] => true
  | q :: l => wokB q && wokLB l
end
mutual
theorem wok_of : ∀ q : Pt, wokB q = true → WOK q
  | .single _, _ => trivial
  | .seq l, h => by
    simp only [wokB, Bool.and_eq_true, decide_eq_true_eq] at h
    exact ⟨wokL_of l h.1.1, h.1.2, h.2⟩
  | .alt l, h => by
    simp only [wokB, Bool.and_eq_true, decide_eq_true_eq] at h
    exact ⟨wokL_of l h.1.1.1, h.1.1.2, h.1.2, h.2⟩
  | .wrap q k, h => by
    simp only [wokB, Bool.and_eq_true, decide_eq_true_eq] at h
    exact ⟨wok_of q h.1.1, h.1.2, h.2⟩
  | .count q le mo z, h => by
    simp only [wokB, Bool.and_eq_true, decide_eq_true_eq] at h
    exact ⟨wok_of q h.1.1.1.1.1, h.1.1.1.1.2, h.1.1.1.2, h.1.1.2, h.1.2, h.2⟩
theorem wokL_of : ∀ l : List Pt, wokLB l = true → WOKL l
  | [], _ => trivial
  | q :: l, h => by
    simp only [wokLB, Bool.and_eq_true] at h
    exact ⟨wok_of q h.1, wokL_of l h.2⟩
end

def goodB (t : ByteArray) : Bool := match readM t with
  | .ok p _ => wokB p && decide (wt p ≤ 120) && decide (isz p ≤ 98000) && codeOKB (progM p)
  | .bad _ => false
theorem gRead_ok {w : World} {t : ByteArray} {x : EV} (hev : w.cell? ⟨0, 0, none⟩ = some (.iface x.1 x.2)) (ht : t.size ≤ 60) (hnp : NP t) (hg : goodB t = true) :
    ∃ p s, readM t = .ok p s ∧ Calls Tryz.prog 10 #[.string t] w fun e w' => ∃ q, e = .returned (.tuple #[.pointer (some ⟨q, 0, none⟩), .int .i64 0, .bool true]) ∧ PG w' q w.heap.size (progM p) s.g s.nm ∧ Ex [] w w' := by
  unfold goodB at hg
  cases hr : readM t with
  | bad s => rw [hr] at hg; simp at hg
  | ok p s =>
    rw [hr] at hg
    simp only [Bool.and_eq_true, decide_eq_true_eq] at hg
    obtain ⟨h1, h2⟩ := codeOK_of hg.2
    exact ⟨p, s, rfl, gRead_good hev ht hnp hr (wok_of p hg.1.1.1) hg.1.1.2 hg.1.2 h1 h2⟩
end Go.Proofs.YtgmjjhmnchefbaaGreatDoor.G

/- The twelve fixed patterns are good. -/
namespace Go.Proofs.YtgmjjhmnchefbaaGreatDoor.G
open Go.RowKit

end Go.Proofs.YtgmjjhmnchefbaaGreatDoor.G

/- A run: its beginning, at every program. -/
namespace Go.Proofs.YtgmjjhmnchefbaaGreatDoor.G
open Go.RowKit

def plL (l : List Int) : List Value := l.map fun (z : Int) => Value.int .i64 z
def RLG (w : World) (g n j : Nat) : Prop := ∃ cs : Array Value, BK w g (.cells cs 3 (0, 0)) ∧ cs.size = n ∧ ∀ i, i < j → i < n → cs[i]? = some (.int .i64 (-1))
theorem RLG.next {w : World} {g n j : Nat} (h : RLG w g n j) (hj : j < n) : RLG (w.setCell ⟨g, j, none⟩ (.int .i64 (-1))) g n (j + 1) := by
  obtain ⟨cs, h1, h2, h3⟩ := h
  refine ⟨_, BK.self h1 j _, by simpa using h2, fun i hi hn => ?_⟩
  by_cases e : i = j
  · subst e
    simp [Array.getElem?_setIfInBounds, h2, hj]
  · rw [Array.getElem?_setIfInBounds_ne (by omega)]
    exact h3 i (by omega) hn
theorem RLG.all {w : World} {g n : Nat} (h : RLG w g n n) : BK w g (.cells (plL (List.replicate n (-1))).toArray 3 (0, 0)) := by
  obtain ⟨cs, h1, h2, h3⟩ := h
  have : cs = (plL (List.replicate n (-1))).toArray := by
    apply Array.ext_getElem?
    intro i
    by_cases hi : i < n
    · rw [h3 i hi hi]
      simp [plL, hi]
    · rw [Array.getElem?_eq_none (by omega), Array.getElem?_eq_none (by simp [plL]; omega)]
  rw [← this]
  exact h1

set_option maxHeartbeats 2000000 in
set_option maxRecDepth 100000 in
theorem newRun_any (q base : Nat) (code : List Ins) (ng : Nat) (nm : List (ByteArray × Nat)) (w : World) (hp : PG w q base code ng nm) (hn : code.length ≤ 100000) :
    Calls Tryz.prog 26 #[.pointer (some ⟨q, 0, none⟩)] w fun e w' => ∃ u gr, e = .returned (.pointer (some ⟨u, 0, none⟩)) ∧ w.heap.size ≤ gr ∧ gr < u ∧ u < w'.heap.size ∧
      BK w' u (.cells #[.pointer (some ⟨q, 0, none⟩), .slice none 0 0, .slice none 0 0, .slice (some ⟨gr, 0, none⟩) code.length code.length] 148 (0, 0)) ∧ BK w' gr (.cells (plL (List.replicate code.length (-1))).toArray 3 (0, 0)) ∧ Ex [] w w' := by
  obtain ⟨i0, hi, hz0, hz1, hz2⟩ := info_parts infoInt
  obtain ⟨cp, cc, sp, sc, B, mb, hq, hoc, hos, hbh, hbB, hnm⟩ := hp.ex
  obtain ⟨hcq, hfq⟩ := hq.all
  have hql := hq.lt
  obtain ⟨n, hnn⟩ : ∃ n, n = code.length := ⟨_, rfl⟩
  obtain ⟨m, hmm⟩ : ∃ m, m = (waysM code (0, 0)).length := ⟨_, rfl⟩
  rw [← hnn, ← hmm] at hcq
  rw [← hnn] at hn ⊢
  clear hoc hos hbh hnm hq hp hnn hmm
  go_enter Tryz.func26, Tryz.ntmps26
  go_wp2_with (at_make; refine wpList_make_full _ rfl _ _ 145 rfl w.heap.size 3 i0 (.int .i64 0) 1 Tryz.underlying145 hi hz0 hz1 .i64 .i64 _ _ n rfl rfl (by simp) (by simp) (by rw [hz2]; omega) (by unfold maxLen; omega) (Nat.le_refl _) ?_)
  intro w1 hown1 hg1
  have hx1 : Ex [] w w1 := (Ex.refl _ _).grown hg1 (by simp)
  have hrl : RLG w1 w.heap.size n 0 := by
    rcases hown1.2 with ⟨hv, _⟩ | ⟨g', cap', cur, hv, hb', hgg, h1, h2, h3, h4⟩
    · cases hv
    · cases hv
      exact ⟨cur, hgg, by omega, fun i hi => by omega⟩
  have hl1 : w.heap.size < w1.heap.size := by obtain ⟨cs, hb, _⟩ := hrl; exact hb.lt
  have HX1 := hide hx1
  have HRL := hide hrl
  clear hx1 hrl hown1 hg1 hcq hfq
  go_wp2_with fail
  go_loopg [19] n (fun gk i wr => ∃ j : Nat, j + gk = n ∧ i = .int .i64 j ∧ RLG wr w.heap.size n j ∧ BK wr w1.heap.size (.cells #[.pointer (some ⟨q, 0, none⟩), .slice none 0 0, .slice none 0 0, .slice (some ⟨w.heap.size, 0, none⟩) n n] 148 (0, 0)) ∧ Ex [] w wr)
  case atStart =>
    refine ⟨0, by omega, rfl, ?_, BK.new _ _, HX1.out.alloc _⟩
    obtain ⟨cs, h1, h2, h3⟩ := HRL.out
    exact ⟨cs, h1.alloc _, h2, h3⟩
  case round =>
    obtain ⟨j, hj, rfl, hrl, hbu, hx⟩ := hrel
    have HX := hide hx
    have HR := hide hrl
    have HU := hide hbu
    obtain ⟨hcu, hfu⟩ := hbu.all
    cases gk with
    | zero =>
      obtain rfl : j = n := by omega
      clear hx hj hrl hbu
      go_wp2_with fail
      go_ret
      exact ⟨w1.heap.size, w.heap.size, rfl, Nat.le_refl _, hl1, HU.out.lt, HU.out, HR.out.all, HX.out⟩
    | succ g =>
      have hj' : ((j : Int) < (n : Int)) := by omega
      obtain ⟨cs, hbk, hcs, _⟩ := hrl
      obtain ⟨hcB, hfB⟩ := hbk.all
      have kj : wr.cell? ⟨w.heap.size, j, none⟩ = some (cs[j]'(by omega)) := by rw [hcB, Array.getElem?_eq_getElem (by omega)]
      have kf := hfB j
      clear hx hcB hfB hbk hbu
      go_wp2_with fail
      go_roundg g
      case measure => omega
      case rel => exact ⟨j + 1, by omega, by simp, HR.out.next (by omega), HU.out.set (by simp; omega) _, HX.out.setCell (Or.inr (by simp)) _⟩
end Go.Proofs.YtgmjjhmnchefbaaGreatDoor.G

/- Contracts of a run, whatever the pattern: places that are marked. -/
namespace Go.Proofs.YtgmjjhmnchefbaaGreatDoor.G
open Go.RowKit

def ints (sl : List Int) : List Value := sl.map (Value.int .i64)
theorem ints_len (sl : List Int) : (ints sl).length = sl.length := by simp [ints]
theorem ints_at (sl : List Int) (i : Nat) : (ints sl)[i]? = (sl[i]?).map (Value.int .i64) := by simp [ints]
theorem ints_set (sl : List Int) (i : Nat) (x : Int) : (ints sl).set i (.int .i64 x) = ints (sl.set i x) := by simp [ints]

def bitAt (b : Int) (i : Nat) : Bool := bits BinOp.and IntKind.u64 (b / 2 ^ i) 1 == 1
def markN (b pl : Int) : Nat → List Int → List Int
  | 0, sl => sl
  | n + 1, sl => if bitAt b n then (markN b pl n sl).set n pl else markN b pl n sl
theorem markN_len (b pl : Int) (n : Nat) (sl : List Int) : (markN b pl n sl).length = sl.length := by
  induction n with
  | zero => rfl
  | succ n ih => simp only [markN]; split <;> simp [ih]
def markM (b pl : Int) (sl : List Int) : List Int := markN b pl 10 sl

theorem ten {sl : List Int} (h : sl.length = 10) : ∃ y0 y1 y2 y3 y4 y5 y6 y7 y8 y9, sl = [y0, y1, y2, y3, y4, y5, y6, y7, y8, y9] := by
  match sl, h with
  | [y0, y1, y2, y3, y4, y5, y6, y7, y8, y9], _ => exact ⟨y0, y1, y2, y3, y4, y5, y6, y7, y8, y9, rfl⟩
theorem ints_ten (y0 y1 y2 y3 y4 y5 y6 y7 y8 y9 : Int) : (ints [y0, y1, y2, y3, y4, y5, y6, y7, y8, y9]).toArray = #[.int .i64 y0, .int .i64 y1, .int .i64 y2, .int .i64 y3, .int .i64 y4, .int .i64 y5, .int .i64 y6, .int .i64 y7, .int .i64 y8, .int .i64 y9] := rfl
theorem size90' (sl : List Int) (h : sl.length = 10) : (Tryz.prog.info? 95).map (·.size) = some (ints sl).length := by
  rw [ints_len, h]; kernel_rfl

set_option maxHeartbeats 2000000 in
set_option maxRecDepth 100000 in
theorem marked_any (b pl : Int) (sl : List Int) (hl : sl.length = 10) (w : World) :
    Calls Tryz.prog 51 #[.agg (ints sl).toArray, .int .u64 b, .int .i64 pl] w fun e w' => e = .returned (.agg (ints (markM b pl sl)).toArray) ∧ Ex [] w w' := by
  have h90 := Tryz.underlying95
  go_enter Tryz.func51, Tryz.ntmps51
  go_wp2_with fail
  go_loopg [8] 10 (fun gk i8 wr => ∃ i : Nat, i + gk = 10 ∧ i8 = .int .i64 i ∧ BK wr w.heap.size (.cells (ints (markN b pl i sl)).toArray 95 (0, 0)) ∧ BK wr (w.heap.size + 1) (.cells #[.int .i64 0, .int .i64 0, .int .i64 0, .int .i64 0, .int .i64 0, .int .i64 0, .int .i64 0, .int .i64 0, .int .i64 0, .int .i64 0] 95 (0, 0)) ∧ Ex [] w wr)
  case atStart =>
    refine ⟨0, by omega, rfl, (BK.new _ _).alloc _, ?_, ((Ex.refl _ _).alloc _).alloc _⟩
    have := BK.new (w.alloc (Obj.cells (ints sl).toArray 95)) (Obj.cells #[.int .i64 0, .int .i64 0, .int .i64 0, .int .i64 0, .int .i64 0, .int .i64 0, .int .i64 0, .int .i64 0, .int .i64 0, .int .i64 0] 95)
    simpa using this
  case round =>
    obtain ⟨i, hgi, rfl, hb0, hb1, hx⟩ := hrel
    have HX := hide hx
    have HB0 := hide hb0
    have HB1 := hide hb1
    have hl0 := hb0.lt
    have hl1 := hb1.lt
    clear hx
    cases gk with
    | zero =>
      obtain rfl : i = 10 := by omega
      have hml : (markN b pl 10 sl).length = 10 := by rw [markN_len, hl]
      obtain ⟨y0, y1, y2, y3, y4, y5, y6, y7, y8, y9, hy⟩ := ten hml
      rw [hy, ints_ten] at hb0
      have HY := hide hy
      obtain ⟨hc0, hf0⟩ := hb0.all
      obtain ⟨hc1, hf1⟩ := hb1.all
      clear hb0 hb1 hml hy
      go_wp2_with fail
      refine bodyPost_ret (v := .agg #[.int .i64 y0, .int .i64 y1, .int .i64 y2, .int .i64 y3, .int .i64 y4, .int .i64 y5, .int .i64 y6, .int .i64 y7, .int .i64 y8, .int .i64 y9]) (by simp [results, Tryz.results51, go_sem, hc1]) rfl ⟨by rw [markM, HY.out, ints_ten], ?_⟩
      repeat (refine Ex.setCell ?_ (Or.inr (by simp)) _)
      exact HX.out
    | succ g =>
      have hi : i < 10 := by omega
      have hi' : (i : Int) < 10 := by omega
      have hlen : (markN b pl i sl).length = 10 := by rw [markN_len, hl]
      obtain ⟨hc0, hf0⟩ := hb0.all
      have hk := hc0 i
      have hkf := hf0 i
      rw [List.getElem?_toArray, ints_at, List.getElem?_eq_getElem (by omega)] at hk
      simp only [Option.map_some] at hk
      clear hb0 hb1 hc0 hf0
      cases hbit : bitAt b i with
      | true =>
        have hbt : (bits BinOp.and IntKind.u64 (b / 2 ^ i) 1 == 1) = true := hbit
        go_wp2_with fail
        go_roundg g
        case measure => omega
        case rel =>
          refine ⟨i + 1, by omega, by simp, ?_, HB1.out.set (by simp) _, HX.out.setCell (Or.inr (by simp)) _⟩
          simp only [markN, hbit, if_true]
          rw [← ints_set]
          exact BK.selfL HB0.out i _
      | false =>
        have hbt : (bits BinOp.and IntKind.u64 (b / 2 ^ i) 1 == 1) = false := hbit
        go_wp2_with fail
        go_roundg g
        case measure => omega
        case rel => exact ⟨i + 1, by omega, by simp, by simp only [markN, hbit]; exact HB0.out, HB1.out, HX.out⟩
end Go.Proofs.YtgmjjhmnchefbaaGreatDoor.G
