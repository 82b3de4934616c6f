/- V7 V8 V9 R1, one behind the other. -/
import Derived.Test.YtmeffeigamaipaaDoorM24
import Derived.Test.YtmeffeigamaipaaDoorM25
set_option linter.unusedVariables false
set_option linter.unusedSimpArgs false
/- regex.Read at a text that is a pattern and not too heavy. -/
namespace Go.Proofs.YtmeffeigamaipaaDoor.G
open Go.RowKit

structure PG (w : World) (q base : Nat) (code : List Ins) (ng : Nat) (nm : List (ByteArray × Nat)) : Prop where
  le : base ≤ w.heap.size
  ql : base ≤ q
  ex : ∃ cp cc sp sc B mb, BK w q (.cells #[.slice cp code.length cc, .slice sp (waysM code (0, 0)).length sc, .slice (some ⟨B, 0, none⟩) code.length code.length, .int .i64 (ng : Int), .map (some mb)] 74 (0, 0)) ∧
    w.ownsRow base 98 7 (.slice cp code.length cc) code.length (codeL code) ∧ w.ownsRow base 110 2 (.slice sp (waysM code (0, 0)).length sc) (waysM code (0, 0)).length (waysL (waysM code (0, 0))) ∧ BHG w B (B + 1) code code.length ∧ base ≤ B ∧ BK w mb (.map (nmE nm) nm.length) ∧ base ≤ mb

theorem own_prog {w : World} {base cc : Nat} {cp : Option Addr} {code : List Ins} (h : w.ownsRow base 98 7 (.slice cp code.length cc) code.length (codeL code)) (hl : 0 < code.length) : ∃ cg, cp = some ⟨cg, 0, none⟩ ∧ code.length ≤ cc ∧ base ≤ cg ∧ cg < w.heap.size ∧ w.rangeAt cg 0 (codeL code) := by
  rcases h.2 with ⟨_, hn⟩ | ⟨g, cap, cur, hv, hb, hgg, hnc, hcm, hcs, htake⟩
  · omega
  · cases hv
    refine ⟨g, rfl, hnc, hb, BK.lt hgg, fun o v hv => ?_⟩
    rw [Nat.zero_add, (BK.all hgg).1, ← Array.getElem?_toList]
    rw [← htake, List.getElem?_take] at hv
    split at hv
    · exact hv
    · cases hv

set_option maxHeartbeats 2000000 in
set_option maxRecDepth 100000 in
theorem gRead_good {w : World} {t : ByteArray} {x : EV} {s : RS} {p : Pt} (hev : w.cell? ⟨0, 0, none⟩ = some (.iface x.1 x.2)) (ht : t.size ≤ 60) (hnp : NP t) (hb : readM t = .ok p s) (hw : WOK p) (hwt : wt p ≤ 120) (hsz : isz p ≤ 98000) (hok : CodeOK (progM p)) (htk : TakeOK (progM p)) :
    Calls Tryd.prog 14 #[.string t] w fun e w' => ∃ q, e = .returned (.tuple #[.pointer (some ⟨q, 0, none⟩), .int .i64 0, .bool true]) ∧ PG w' q w.heap.size (progM p) s.g s.nm ∧ Ex [] w w' := by
  have HEV := hide hev
  have HNP := hide hnp
  have HB := hide hb
  have ht' : ¬ (t.size : Int) > 60 := by omega
  clear hev hnp hb
  go_enter Tryd.func14, Tryd.ntmps14
  go_wp2_with fail
  refine (gReadForm HEV.out ht HNP.out).mono ?_
  rintro e w1 ⟨r, mb, hr, hp⟩
  rw [HB.out] at hp
  obtain ⟨⟨u, rfl, hpr⟩, hg, hx⟩ := hp
  have HPR := hide hpr
  have HG := hide hg
  have HX := hide hx
  have hz1 := hx.size
  have hrlt := hg.lt
  clear hpr hg hx
  obtain ⟨kd', p', n', c', lo', hi', hg', gr', l', m', z'⟩ := u
  have HWT := hide (fun (w' : World) (hx : Ex [] w1 w') => weight_any (Btw w.heap.size w1.heap.size) p ⟨kd', p', n', c', lo', hi', hg', gr', l', m', z'⟩ w' (HPR.out.frame (fun _ h => h) hx.size (fun b _ hlt => hx.block b hlt (by simp)) _ _) hw)
  have HPO := hide (fun (w' : World) (hx : Ex [] w1 w') => programOf_any p ⟨kd', p', n', c', lo', hi', hg', gr', l', m', z'⟩ (Btw w.heap.size w1.heap.size) w' (HPR.out.frame (fun _ h => h) hx.size (fun b _ hlt => hx.block b hlt (by simp)) _ _) (fun g hg => Nat.lt_of_lt_of_le hg.2 hx.size) hw hsz)
  unfold PV.val at HWT HPO ⊢
  dsimp only at HWT HPO ⊢
  go_wp2_with fail
  refine (HWT.out _ ((Ex.refl _ _).alloc _)).mono ?_
  rintro e w2 ⟨rfl, hx2⟩
  have hx12 : Ex [] w1 w2 := ((Ex.refl _ _).alloc _).trans hx2
  have hA := BK.ex (BK.new w1 (Obj.cells #[.int .i64 kd', .slice p' n' c', .int .u64 lo', .int .u64 hi', .bool hg', .int .i64 gr', .int .i64 l', .int .i64 m', .bool z'] 59)) hx2 (by simp)
  obtain ⟨hcA, hfA⟩ := hA.all
  have HX12 := hide hx12
  have hz2 := hx12.size
  have hwt' : ¬ ((wt p : Int) > 120) := by omega
  clear hx2 hx12 hA
  go_wp2_with fail
  refine (HPO.out _ HX12.out).mono ?_
  rintro e w3 ⟨cp, cc, rfl, ho3, hx3⟩
  have hz3 := hx3.size
  have HX13 := hide (HX12.out.trans hx3)
  have HO3 := hide (own_lower ho3 (show w.heap.size ≤ _ by omega))
  have hr3 := (HG.out.rd.ex HX13.out (by simp)).bk
  obtain ⟨hcR, hfR⟩ := hr3.all
  have k4 := hcR 4
  have k5 := hcR 5
  simp at k4 k5
  have hrl3 := hr3.lt
  have HR3 := hide hr3
  obtain ⟨cg, rfl, hcap, hcgb, hcgl, hrg⟩ := own_prog HO3.out (by rw [progM_len]; omega)
  have HRG := hide hrg
  obtain ⟨code, hcd⟩ : ∃ code, code = progM p := ⟨_, rfl⟩
  have hcn : code.length ≤ 100000 := by rw [hcd, progM_len]; omega
  have hcp : 0 < code.length := by rw [hcd, progM_len]; omega
  rw [← hcd] at HO3 hcap HRG hok htk
  rw [← hcd]
  have KF := hide (fun (w' : World) (hx : Ex [] w3 w') => waysFrom_any code hcn hok cg cc (0, 0) w' (Nat.lt_of_lt_of_le hcgl hx.size) hcap (range_same HRG.out (hx.block cg hcgl (by simp))) hcp (by simp))
  have KB := hide (fun (w' : World) (hx : Ex [] w3 w') => waysBehind_any code hcn hok htk cg cc w' (Nat.lt_of_lt_of_le hcgl hx.size) hcap (range_same HRG.out (hx.block cg hcgl (by simp))))
  have HCD := hide hcd
  clear hcA hfA ho3 hx3 hcR hfR hr3 hrg hcd
  unfold staV at KF
  dsimp only at KF
  go_wp2_with fail
  go_region_held3 (fun w' => w'.cell? ⟨r, 4, none⟩ = some (.int .i64 (s.g : Int)) ∧ w'.cell? ⟨r, 5, none⟩ = some (.map (some mb))) (simp [*, go_sem])
    (first
      | (go_at_call 20; refine (show Calls _ _ _ _ _ from KF.out _ ((Ex.refl [] w3).drewN 1)).mono ?_; rintro e w4 ⟨ps, cps, rfl, ho4, hx4⟩; have e4 := hx4.cell0.1 r 4 hrl3; have e5 := hx4.cell0.1 r 5 hrl3)
      | (go_at_call 21; refine (KB.out _ (((Ex.refl [] w3).drewN 1).trans hx4)).mono ?_; rintro e w5 ⟨rfl, hb5, hx5⟩; have f4 := hx5.cell0.1 r 4 (Nat.lt_of_lt_of_le hrl3 hx4.size); have f5 := hx5.cell0.1 r 5 (Nat.lt_of_lt_of_le hrl3 hx4.size); have hr5 : r < w5.heap.size := Nat.lt_of_lt_of_le (Nat.lt_of_lt_of_le hrl3 hx4.size) hx5.size))
  have HX4 := hide hx4
  have HX5 := hide hx5
  have HO4 := hide ho4
  have HB5 := hide hb5
  have hz4 : w3.heap.size ≤ w4.heap.size := hx4.size
  have hz5 := hx5.size
  clear hx4 hx5 ho4 hb5 k4 k5
  go_wp2_with fail
  go_ret3
  have hx35 : Ex [] w3 w5 := ((Ex.refl [] w3).drewN 1).trans (HX4.out.trans HX5.out)
  rw [← HCD.out]
  refine ⟨w5.heap.size, rfl, ⟨by simp; omega, by omega, some ⟨cg, 0, none⟩, cc, ps, cps, w4.heap.size, mb, BK.new _ _, ?_, ?_, ?_, by omega, ?_, by omega⟩, ?_⟩
  · exact (own_ex HO3.out hx35 (by simp)).alloc _
  · have h1 := own_lower HO4.out (show w.heap.size ≤ _ from (by show w.heap.size ≤ w3.heap.size; omega))
    exact (own_ex h1 HX5.out (by simp)).alloc _
  · exact HB5.out.ex' ((Ex.refl [] _).alloc _)
  · exact ((HG.out.mp.ex HX13.out (by simp)).ex hx35 (by simp)).alloc _
  · exact (HX.out.trans (HX13.out.trans hx35)).alloc _
end Go.Proofs.YtmeffeigamaipaaDoor.G

/- The conditions under which a text is read, as a program tells them. -/
namespace Go.Proofs.YtmeffeigamaipaaDoor.G
open Go.RowKit

def insOKB (n k : Nat) (i : Ins) : Bool :=
  i.op == 0 || i.op == 6 || (i.op == 1 && decide (0 ≤ i.t0) && decide (i.t0 < n) && decide (0 ≤ i.t1) && decide (i.t1 < n)) || (i.op == 2 && decide (0 ≤ i.t0) && decide (i.t0 < n)) ||
  (i.op == 3 && decide (k + 1 < n) && decide (0 ≤ i.sl) && decide (i.sl < 64)) || (i.op == 4 && decide (k + 1 < n)) || (i.op == 5 && decide (k + 1 < n))
def codeOKB (code : List Ins) : Bool := (List.range code.length).all fun k => match code[k]? with
  | none => true
  | some i => insOKB code.length k i && (i.op != 0 || decide (k + 1 < code.length))
theorem codeOK_of {code : List Ins} (h : codeOKB code = true) : CodeOK code ∧ TakeOK code := by
  have key : ∀ k i, code[k]? = some i → insOKB code.length k i = true ∧ (i.op = 0 → k + 1 < code.length) := by
    intro k i hi
    have hk : k < code.length := (List.getElem?_eq_some_iff.1 hi).1
    have h1 := List.all_eq_true.1 h k (List.mem_range.2 hk)
    rw [hi] at h1
    simp only [Bool.and_eq_true, Bool.or_eq_true, bne_iff_ne, decide_eq_true_eq] at h1
    exact ⟨h1.1, fun h0 => h1.2.resolve_left (fun hn => hn h0)⟩
  refine ⟨fun k i hi => ?_, fun k i hi h0 => (key k i hi).2 h0⟩
  have h1 := (key k i hi).1
  simp only [insOKB, Bool.or_eq_true, Bool.and_eq_true, beq_iff_eq, decide_eq_true_eq] at h1
  rcases h1 with (((((h1 | h1) | h1) | h1) | h1) | h1) | h1
  · exact .inl h1
  · exact .inr (.inl h1)
  · exact .inr (.inr (.inl ⟨h1.1.1.1.1, ⟨i.t0.toNat, by omega, by omega⟩, i.t1.toNat, by omega, by omega⟩))
  · exact .inr (.inr (.inr (.inl ⟨h1.1.1, i.t0.toNat, by omega, by omega⟩)))
  · exact .inr (.inr (.inr (.inr (.inl ⟨h1.1.1.1, h1.1.1.2, i.sl.toNat, by omega, by omega⟩))))
  · exact .inr (.inr (.inr (.inr (.inr (.inl h1)))))
  · exact .inr (.inr (.inr (.inr (.inr (.inr h1)))))

mutual
def wokB : Pt → Bool
  | .single _ => true
  | .seq l => wokLB l && decide (wtL l < 1000000000000000000) && decide (l.length < 1000000000000000000)
  | .alt l => wokLB l && decide (wtL l < 1000000000000000000) && decide (l.length < 1000000000000000000) && decide (1 ≤ l.length)
  | .wrap q k => wokB q && decide (wt q < 1000000000000000000) && decide (k < 1000000)
  | .count q le mo _ => wokB q && decide (wt q < 1000000000000000000) && decide ((le : Int) < 1000000000000000000) && decide (-1 ≤ mo) && decide (mo < 1000000000000000000) && decide (wt q * (if mo = -1 then le + 1 else mo.toNat) < 1000000000000000000)
def wokLB : List Pt → Bool
  | [] => true
  | q :: l => wokB q && wokLB l
end
mutual
theorem wok_of : ∀ q : Pt, wokB q = true → WOK q
  | .single _, _ => trivial
  | .seq l, h => by
    simp only [wokB, Bool.and_eq_true, decide_eq_true_eq] at h
    exact ⟨wokL_of l h.1.1, h.1.2, h.2⟩
  | .alt l, h => by
    simp only [wokB, Bool.and_eq_true, decide_eq_true_eq] at h
    exact ⟨wokL_of l h.1.1.1, h.1.1.2, h.1.2, h.2⟩
  | .wrap q k, h => by
    simp only [wokB, Bool.and_eq_true, decide_eq_true_eq] at h
    exact ⟨wok_of q h.1.1, h.1.2, h.2⟩
  | .count q le mo z, h => by
    simp only [wokB, Bool.and_eq_true, decide_eq_true_eq] at h
    exact ⟨wok_of q h.1.1.1.1.1, h.1.1.1.1.2, h.1.1.1.2, h.1.1.2, h.1.2, h.2⟩
theorem wokL_of : ∀ l : List Pt, wokLB l = true → WOKL l
  | [], _ => trivial
  | q :: l, h => by
    simp only [wokLB, Bool.and_eq_true] at h
    exact ⟨wok_of q h.1, wokL_of l h.2⟩
end

def goodB (t : ByteArray) : Bool := match readM t with
  | .ok p _ => wokB p && decide (wt p ≤ 120) && decide (isz p ≤ 98000) && codeOKB (progM p)
  | .bad _ => false
theorem gRead_ok {w : World} {t : ByteArray} {x : EV} (hev : w.cell? ⟨0, 0, none⟩ = some (.iface x.1 x.2)) (ht : t.size ≤ 60) (hnp : NP t) (hg : goodB t = true) :
    ∃ p s, readM t = .ok p s ∧ Calls Tryd.prog 14 #[.string t] w fun e w' => ∃ q, e = .returned (.tuple #[.pointer (some ⟨q, 0, none⟩), .int .i64 0, .bool true]) ∧ PG w' q w.heap.size (progM p) s.g s.nm ∧ Ex [] w w' := by
  unfold goodB at hg
  cases hr : readM t with
  | bad s => rw [hr] at hg; simp at hg
  | ok p s =>
    rw [hr] at hg
    simp only [Bool.and_eq_true, decide_eq_true_eq] at hg
    obtain ⟨h1, h2⟩ := codeOK_of hg.2
    exact ⟨p, s, rfl, gRead_good hev ht hnp hr (wok_of p hg.1.1.1) hg.1.1.2 hg.1.2 h1 h2⟩
end Go.Proofs.YtmeffeigamaipaaDoor.G

/- The twelve fixed patterns are good. -/
namespace Go.Proofs.YtmeffeigamaipaaDoor.G
open Go.RowKit

end Go.Proofs.YtmeffeigamaipaaDoor.G

/- A run: its beginning, at every program. -/
namespace Go.Proofs.YtmeffeigamaipaaDoor.G
open Go.RowKit

def plL (l : List Int) : List Value := l.map fun (z : Int) => Value.int .i64 z
def RLG (w : World) (g n j : Nat) : Prop := ∃ cs : Array Value, BK w g (.cells cs 3 (0, 0)) ∧ cs.size = n ∧ ∀ i, i < j → i < n → cs[i]? = some (.int .i64 (-1))
theorem RLG.next {w : World} {g n j : Nat} (h : RLG w g n j) (hj : j < n) : RLG (w.setCell ⟨g, j, none⟩ (.int .i64 (-1))) g n (j + 1) := by
  obtain ⟨cs, h1, h2, h3⟩ := h
  refine ⟨_, BK.self h1 j _, by simpa using h2, fun i hi hn => ?_⟩
  by_cases e : i = j
  · subst e
    simp [Array.getElem?_setIfInBounds, h2, hj]
  · rw [Array.getElem?_setIfInBounds_ne (by omega)]
    exact h3 i (by omega) hn
theorem RLG.all {w : World} {g n : Nat} (h : RLG w g n n) : BK w g (.cells (plL (List.replicate n (-1))).toArray 3 (0, 0)) := by
  obtain ⟨cs, h1, h2, h3⟩ := h
  have : cs = (plL (List.replicate n (-1))).toArray := by
    apply Array.ext_getElem?
    intro i
    by_cases hi : i < n
    · rw [h3 i hi hi]
      simp [plL, hi]
    · rw [Array.getElem?_eq_none (by omega), Array.getElem?_eq_none (by simp [plL]; omega)]
  rw [← this]
  exact h1

set_option maxHeartbeats 2000000 in
set_option maxRecDepth 100000 in
theorem newRun_any (q base : Nat) (code : List Ins) (ng : Nat) (nm : List (ByteArray × Nat)) (w : World) (hp : PG w q base code ng nm) (hn : code.length ≤ 100000) :
    Calls Tryd.prog 22 #[.pointer (some ⟨q, 0, none⟩)] w fun e w' => ∃ u gr, e = .returned (.pointer (some ⟨u, 0, none⟩)) ∧ w.heap.size ≤ gr ∧ gr < u ∧ u < w'.heap.size ∧
      BK w' u (.cells #[.pointer (some ⟨q, 0, none⟩), .slice none 0 0, .slice none 0 0, .slice (some ⟨gr, 0, none⟩) code.length code.length] 108 (0, 0)) ∧ BK w' gr (.cells (plL (List.replicate code.length (-1))).toArray 3 (0, 0)) ∧ Ex [] w w' := by
  obtain ⟨i0, hi, hz0, hz1, hz2⟩ := info_parts infoInt
  obtain ⟨cp, cc, sp, sc, B, mb, hq, hoc, hos, hbh, hbB, hnm⟩ := hp.ex
  obtain ⟨hcq, hfq⟩ := hq.all
  have hql := hq.lt
  obtain ⟨n, hnn⟩ : ∃ n, n = code.length := ⟨_, rfl⟩
  obtain ⟨m, hmm⟩ : ∃ m, m = (waysM code (0, 0)).length := ⟨_, rfl⟩
  rw [← hnn, ← hmm] at hcq
  rw [← hnn] at hn ⊢
  clear hoc hos hbh hnm hq hp hnn hmm
  go_enter Tryd.func22, Tryd.ntmps22
  go_wp2_with (at_make; refine wpList_make_full _ rfl _ _ 105 rfl w.heap.size 3 i0 (.int .i64 0) 1 Tryd.underlying105 hi hz0 hz1 .i64 .i64 _ _ n rfl rfl (by simp) (by simp) (by rw [hz2]; omega) (by unfold maxLen; omega) (Nat.le_refl _) ?_)
  intro w1 hown1 hg1
  have hx1 : Ex [] w w1 := (Ex.refl _ _).grown hg1 (by simp)
  have hrl : RLG w1 w.heap.size n 0 := by
    rcases hown1.2 with ⟨hv, _⟩ | ⟨g', cap', cur, hv, hb', hgg, h1, h2, h3, h4⟩
    · cases hv
    · cases hv
      exact ⟨cur, hgg, by omega, fun i hi => by omega⟩
  have hl1 : w.heap.size < w1.heap.size := by obtain ⟨cs, hb, _⟩ := hrl; exact hb.lt
  have HX1 := hide hx1
  have HRL := hide hrl
  clear hx1 hrl hown1 hg1 hcq hfq
  go_wp2_with fail
  go_loopg [19] n (fun gk i wr => ∃ j : Nat, j + gk = n ∧ i = .int .i64 j ∧ RLG wr w.heap.size n j ∧ BK wr w1.heap.size (.cells #[.pointer (some ⟨q, 0, none⟩), .slice none 0 0, .slice none 0 0, .slice (some ⟨w.heap.size, 0, none⟩) n n] 108 (0, 0)) ∧ Ex [] w wr)
  case atStart =>
    refine ⟨0, by omega, rfl, ?_, BK.new _ _, HX1.out.alloc _⟩
    obtain ⟨cs, h1, h2, h3⟩ := HRL.out
    exact ⟨cs, h1.alloc _, h2, h3⟩
  case round =>
    obtain ⟨j, hj, rfl, hrl, hbu, hx⟩ := hrel
    have HX := hide hx
    have HR := hide hrl
    have HU := hide hbu
    obtain ⟨hcu, hfu⟩ := hbu.all
    cases gk with
    | zero =>
      obtain rfl : j = n := by omega
      clear hx hj hrl hbu
      go_wp2_with fail
      go_ret
      exact ⟨w1.heap.size, w.heap.size, rfl, Nat.le_refl _, hl1, HU.out.lt, HU.out, HR.out.all, HX.out⟩
    | succ g =>
      have hj' : ((j : Int) < (n : Int)) := by omega
      obtain ⟨cs, hbk, hcs, _⟩ := hrl
      obtain ⟨hcB, hfB⟩ := hbk.all
      have kj : wr.cell? ⟨w.heap.size, j, none⟩ = some (cs[j]'(by omega)) := by rw [hcB, Array.getElem?_eq_getElem (by omega)]
      have kf := hfB j
      clear hx hcB hfB hbk hbu
      go_wp2_with fail
      go_roundg g
      case measure => omega
      case rel => exact ⟨j + 1, by omega, by simp, HR.out.next (by omega), HU.out.set (by simp; omega) _, HX.out.setCell (Or.inr (by simp)) _⟩
end Go.Proofs.YtmeffeigamaipaaDoor.G
