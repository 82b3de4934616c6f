/- V7 V8 V9 R1 R2 R3 R4 R5 R6 R7 R8a R8, one behind the other. -/
import Derived.Test.YtgmjjhmnchefbaaGreatDoorM17
import Derived.Test.YtgmjjhmnchefbaaGreatDoorM18
import Derived.Deep.RegionHeld3
import Derived.Handy
import Derived.Laws.OwnMore
import Derived.Deep.RegionLaw
import Derived.Test.YtgmjjhmnchefbaaGreatDoorShelf
set_option linter.unusedVariables false
set_option linter.unusedSimpArgs false
/- regex.Read at a text that is a pattern and not too heavy. -/
namespace Go.Proofs.YtgmjjhmnchefbaaGreatDoor.G
open Go.RowKit

structure PG (w : World) (q base : Nat) (code : List Ins) (ng : Nat) (nm : List (ByteArray × Nat)) : Prop where
  le : base ≤ w.heap.size
  ql : base ≤ q
  ex : ∃ cp cc sp sc B mb, BK w q (.cells #[.slice cp code.length cc, .slice sp (waysM code (0, 0)).length sc, .slice (some ⟨B, 0, none⟩) code.length code.length, .int .i64 (ng : Int), .map (some mb)] 90 (0, 0)) ∧
    w.ownsRow base 138 7 (.slice cp code.length cc) code.length (codeL code) ∧ w.ownsRow base 150 2 (.slice sp (waysM code (0, 0)).length sc) (waysM code (0, 0)).length (waysL (waysM code (0, 0))) ∧ BHG w B (B + 1) code code.length ∧ base ≤ B ∧ BK w mb (.map (nmE nm) nm.length) ∧ base ≤ mb

theorem own_prog {w : World} {base cc : Nat} {cp : Option Addr} {code : List Ins} (h : w.ownsRow base 138 7 (.slice cp code.length cc) code.length (codeL code)) (hl : 0 < code.length) : ∃ cg, cp = some ⟨cg, 0, none⟩ ∧ code.length ≤ cc ∧ base ≤ cg ∧ cg < w.heap.size ∧ w.rangeAt cg 0 (codeL code) := by
  rcases h.2 with ⟨_, hn⟩ | ⟨g, cap, cur, hv, hb, hgg, hnc, hcm, hcs, htake⟩
  · omega
  · cases hv
    refine ⟨g, rfl, hnc, hb, BK.lt hgg, fun o v hv => ?_⟩
    rw [Nat.zero_add, (BK.all hgg).1, ← Array.getElem?_toList]
    rw [← htake, List.getElem?_take] at hv
    split at hv
    · exact hv
    · cases hv

set_option maxHeartbeats 2000000 in
set_option maxRecDepth 100000 in
theorem gRead_good {w : World} {t : ByteArray} {x : EV} {s : RS} {p : Pt} (hev : w.cell? ⟨0, 0, none⟩ = some (.iface x.1 x.2)) (ht : t.size ≤ 60) (hnp : NP t) (hb : readM t = .ok p s) (hw : WOK p) (hwt : wt p ≤ 120) (hsz : isz p ≤ 98000) (hok : CodeOK (progM p)) (htk : TakeOK (progM p)) :
    Calls Tryz.prog 10 #[.string t] w fun e w' => ∃ q, e = .returned (.tuple #[.pointer (some ⟨q, 0, none⟩), .int .i64 0, .bool true]) ∧ PG w' q w.heap.size (progM p) s.g s.nm ∧ Ex [] w w' := by
  have HEV := hide hev
  have HNP := hide hnp
  have HB := hide hb
  have ht' : ¬ (t.size : Int) > 60 := by omega
  clear hev hnp hb
  go_enter Tryz.func10, Tryz.ntmps10
  go_wp2_with fail
  refine (gReadForm HEV.out ht HNP.out).mono ?_
  rintro e w1 ⟨r, mb, hr, hp⟩
  rw [HB.out] at hp
  obtain ⟨⟨u, rfl, hpr⟩, hg, hx⟩ := hp
  have HPR := hide hpr
  have HG := hide hg
  have HX := hide hx
  have hz1 := hx.size
  have hrlt := hg.lt
  clear hpr hg hx
  obtain ⟨kd', p', n', c', lo', hi', hg', gr', l', m', z'⟩ := u
  have HWT := hide (fun (w' : World) (hx : Ex [] w1 w') => weight_any (Btw w.heap.size w1.heap.size) p ⟨kd', p', n', c', lo', hi', hg', gr', l', m', z'⟩ w' (HPR.out.frame (fun _ h => h) hx.size (fun b _ hlt => hx.block b hlt (by simp)) _ _) hw)
  have HPO := hide (fun (w' : World) (hx : Ex [] w1 w') => programOf_any p ⟨kd', p', n', c', lo', hi', hg', gr', l', m', z'⟩ (Btw w.heap.size w1.heap.size) w' (HPR.out.frame (fun _ h => h) hx.size (fun b _ hlt => hx.block b hlt (by simp)) _ _) (fun g hg => Nat.lt_of_lt_of_le hg.2 hx.size) hw hsz)
  unfold PV.val at HWT HPO ⊢
  dsimp only at HWT HPO ⊢
  go_wp2_with fail
  refine (HWT.out _ ((Ex.refl _ _).alloc _)).mono ?_
  rintro e w2 ⟨rfl, hx2⟩
  have hx12 : Ex [] w1 w2 := ((Ex.refl _ _).alloc _).trans hx2
  have hA := BK.ex (BK.new w1 (Obj.cells #[.int .i64 kd', .slice p' n' c', .int .u64 lo', .int .u64 hi', .bool hg', .int .i64 gr', .int .i64 l', .int .i64 m', .bool z'] 76)) hx2 (by simp)
  obtain ⟨hcA, hfA⟩ := hA.all
  have HX12 := hide hx12
  have hz2 := hx12.size
  have hwt' : ¬ ((wt p : Int) > 120) := by omega
  clear hx2 hx12 hA
  go_wp2_with fail
  refine (HPO.out _ HX12.out).mono ?_
  rintro e w3 ⟨cp, cc, rfl, ho3, hx3⟩
  have hz3 := hx3.size
  have HX13 := hide (HX12.out.trans hx3)
  have HO3 := hide (own_lower ho3 (show w.heap.size ≤ _ by omega))
  have hr3 := (HG.out.rd.ex HX13.out (by simp)).bk
  obtain ⟨hcR, hfR⟩ := hr3.all
  have k4 := hcR 4
  have k5 := hcR 5
  simp at k4 k5
  have hrl3 := hr3.lt
  have HR3 := hide hr3
  obtain ⟨cg, rfl, hcap, hcgb, hcgl, hrg⟩ := own_prog HO3.out (by rw [progM_len]; omega)
  have HRG := hide hrg
  obtain ⟨code, hcd⟩ : ∃ code, code = progM p := ⟨_, rfl⟩
  have hcn : code.length ≤ 100000 := by rw [hcd, progM_len]; omega
  have hcp : 0 < code.length := by rw [hcd, progM_len]; omega
  rw [← hcd] at HO3 hcap HRG hok htk
  rw [← hcd]
  have KF := hide (fun (w' : World) (hx : Ex [] w3 w') => waysFrom_any code hcn hok cg cc (0, 0) w' (Nat.lt_of_lt_of_le hcgl hx.size) hcap (range_same HRG.out (hx.block cg hcgl (by simp))) hcp (by simp))
  have KB := hide (fun (w' : World) (hx : Ex [] w3 w') => waysBehind_any code hcn hok htk cg cc w' (Nat.lt_of_lt_of_le hcgl hx.size) hcap (range_same HRG.out (hx.block cg hcgl (by simp))))
  have HCD := hide hcd
  clear hcA hfA ho3 hx3 hcR hfR hr3 hrg hcd
  unfold staV at KF
  dsimp only at KF
  go_wp2_with fail
  go_region_held3 (fun w' => w'.cell? ⟨r, 4, none⟩ = some (.int .i64 (s.g : Int)) ∧ w'.cell? ⟨r, 5, none⟩ = some (.map (some mb))) (simp [*, go_sem])
    (first
      | (go_at_call 24; refine (show Calls _ _ _ _ _ from KF.out _ ((Ex.refl [] w3).drewN 1)).mono ?_; rintro e w4 ⟨ps, cps, rfl, ho4, hx4⟩; have e4 := hx4.cell0.1 r 4 hrl3; have e5 := hx4.cell0.1 r 5 hrl3)
      | (go_at_call 25; refine (KB.out _ (((Ex.refl [] w3).drewN 1).trans hx4)).mono ?_; rintro e w5 ⟨rfl, hb5, hx5⟩; have f4 := hx5.cell0.1 r 4 (Nat.lt_of_lt_of_le hrl3 hx4.size); have f5 := hx5.cell0.1 r 5 (Nat.lt_of_lt_of_le hrl3 hx4.size); have hr5 : r < w5.heap.size := Nat.lt_of_lt_of_le (Nat.lt_of_lt_of_le hrl3 hx4.size) hx5.size))
  have HX4 := hide hx4
  have HX5 := hide hx5
  have HO4 := hide ho4
  have HB5 := hide hb5
  have hz4 : w3.heap.size ≤ w4.heap.size := hx4.size
  have hz5 := hx5.size
  clear hx4 hx5 ho4 hb5 k4 k5
  go_wp2_with fail
  go_ret3
  have hx35 : Ex [] w3 w5 := ((Ex.refl [] w3).drewN 1).trans (HX4.out.trans HX5.out)
  rw [← HCD.out]
  refine ⟨w5.heap.size, rfl, ⟨by simp; omega, by omega, some ⟨cg, 0, none⟩, cc, ps, cps, w4.heap.size, mb, BK.new _ _, ?_, ?_, ?_, by omega, ?_, by omega⟩, ?_⟩
  · exact (own_ex HO3.out hx35 (by simp)).alloc _
  · have h1 := own_lower HO4.out (show w.heap.size ≤ _ from (by show w.heap.size ≤ w3.heap.size; omega))
    exact (own_ex h1 HX5.out (by simp)).alloc _
  · exact HB5.out.ex' ((Ex.refl [] _).alloc _)
  · exact ((HG.out.mp.ex HX13.out (by simp)).ex hx35 (by simp)).alloc _
  · exact (HX.out.trans (HX13.out.trans hx35)).alloc _
end Go.Proofs.YtgmjjhmnchefbaaGreatDoor.G

/- The conditions under which a text is read, as a program tells them. -/
namespace Go.Proofs.YtgmjjhmnchefbaaGreatDoor.G
open Go.RowKit

def insOKB (n k : Nat) (i : Ins) : Bool :=
  i.op == 0 || i.op == 6 || (i.op == 1 && decide (0 ≤ i.t0) && decide (i.t0 < n) && decide (0 ≤ i.t1) && decide (i.t1 < n)) || (i.op == 2 && decide (0 ≤ i.t0) && decide (i.t0 < n)) ||
  (i.op == 3 && decide (k + 1 < n) && decide (0 ≤ i.sl) && decide (i.sl < 64)) || (i.op == 4 && decide (k + 1 < n)) || (i.op == 5 && decide (k + 1 < n))
def codeOKB (code : List Ins) : Bool := (List.range code.length).all fun k => match code[k]? with
  | none => true
  | some i => insOKB code.length k i && (i.op != 0 || decide (k + 1 < code.length))
theorem codeOK_of {code : List Ins} (h : codeOKB code = true) : CodeOK code ∧ TakeOK code := by
  have key : ∀ k i, code[k]? = some i → insOKB code.length k i = true ∧ (i.op = 0 → k + 1 < code.length) := by
    intro k i hi
    have hk : k < code.length := (List.getElem?_eq_some_iff.1 hi).1
    have h1 := List.all_eq_true.1 h k (List.mem_range.2 hk)
    rw [hi] at h1
    simp only [Bool.and_eq_true, Bool.or_eq_true, bne_iff_ne, decide_eq_true_eq] at h1
    exact ⟨h1.1, fun h0 => h1.2.resolve_left (fun hn => hn h0)⟩
  refine ⟨fun k i hi => ?_, fun k i hi h0 => (key k i hi).2 h0⟩
  have h1 := (key k i hi).1
  simp only [insOKB, Bool.or_eq_true, Bool.and_eq_true, beq_iff_eq, decide_eq_true_eq] at h1
  rcases h1 with (((((h1 | h1) | h1) | h1) | h1) | h1) | h1
  · exact .inl h1
  · exact .inr (.inl h1)
  · exact .inr (.inr (.inl ⟨h1.1.1.1.1, ⟨i.t0.toNat, by omega, by omega⟩, i.t1.toNat, by omega, by omega⟩))
  · exact .inr (.inr (.inr (.inl ⟨h1.1.1, i.t0.toNat, by omega, by omega⟩)))
  · exact .inr (.inr (.inr (.inr (.inl ⟨h1.1.1.1, h1.1.1.2, i.sl.toNat, by omega, by omega⟩))))
  · exact .inr (.inr (.inr (.inr (.inr (.inl h1)))))
  · exact .inr (.inr (.inr (.inr (.inr (.inr h1)))))

mutual
def wokB : Pt → Bool
  | .single _ => true
  | .seq l => wokLB l && decide (wtL l < 1000000000000000000) && decide (l.length < 1000000000000000000)
  | .alt l => wokLB l && decide (wtL l < 1000000000000000000) && decide (l.length < 1000000000000000000) && decide (1 ≤ l.length)
  | .wrap q k => wokB q && decide (wt q < 1000000000000000000) && decide (k < 1000000)
  | .count q le mo _ => wokB q && decide (wt q < 1000000000000000000) && decide ((le : Int) < 1000000000000000000) && decide (-1 ≤ mo) && decide (mo < 1000000000000000000) && decide (wt q * (if mo = -1 then le + 1 else mo.toNat) < 1000000000000000000)
def wokLB : List Pt → Bool
  | [] => true
  | q :: l => wokB q && wokLB l
end
mutual
theorem wok_of : ∀ q : Pt, wokB q = true → WOK q
  | .single _, _ => trivial
  | .seq l, h => by
    simp only [wokB, Bool.and_eq_true, decide_eq_true_eq] at h
    exact ⟨wokL_of l h.1.1, h.1.2, h.2⟩
  | .alt l, h => by
    simp only [wokB, Bool.and_eq_true, decide_eq_true_eq] at h
    exact ⟨wokL_of l h.1.1.1, h.1.1.2, h.1.2, h.2⟩
  | .wrap q k, h => by
    simp only [wokB, Bool.and_eq_true, decide_eq_true_eq] at h
    exact ⟨wok_of q h.1.1, h.1.2, h.2⟩
  | .count q le mo z, h => by
    simp only [wokB, Bool.and_eq_true, decide_eq_true_eq] at h
    exact ⟨wok_of q h.1.1.1.1.1, h.1.1.1.1.2, h.1.1.1.2, h.1.1.2, h.1.2, h.2⟩
theorem wokL_of : ∀ l : List Pt, wokLB l = true → WOKL l
  | [], _ => trivial
  | q :: l, h => by
    simp only [wokLB, Bool.and_eq_true] at h
    exact ⟨wok_of q h.1, wokL_of l h.2⟩
end

def goodB (t : ByteArray) : Bool := match readM t with
  | .ok p _ => wokB p && decide (wt p ≤ 120) && decide (isz p ≤ 98000) && codeOKB (progM p)
  | .bad _ => false
theorem gRead_ok {w : World} {t : ByteArray} {x : EV} (hev : w.cell? ⟨0, 0, none⟩ = some (.iface x.1 x.2)) (ht : t.size ≤ 60) (hnp : NP t) (hg : goodB t = true) :
    ∃ p s, readM t = .ok p s ∧ Calls Tryz.prog 10 #[.string t] w fun e w' => ∃ q, e = .returned (.tuple #[.pointer (some ⟨q, 0, none⟩), .int .i64 0, .bool true]) ∧ PG w' q w.heap.size (progM p) s.g s.nm ∧ Ex [] w w' := by
  unfold goodB at hg
  cases hr : readM t with
  | bad s => rw [hr] at hg; simp at hg
  | ok p s =>
    rw [hr] at hg
    simp only [Bool.and_eq_true, decide_eq_true_eq] at hg
    obtain ⟨h1, h2⟩ := codeOK_of hg.2
    exact ⟨p, s, rfl, gRead_good hev ht hnp hr (wok_of p hg.1.1.1) hg.1.1.2 hg.1.2 h1 h2⟩
end Go.Proofs.YtgmjjhmnchefbaaGreatDoor.G

/- The twelve fixed patterns are good. -/
namespace Go.Proofs.YtgmjjhmnchefbaaGreatDoor.G
open Go.RowKit

end Go.Proofs.YtgmjjhmnchefbaaGreatDoor.G

/- A run: its beginning, at every program. -/
namespace Go.Proofs.YtgmjjhmnchefbaaGreatDoor.G
open Go.RowKit

end Go.Proofs.YtgmjjhmnchefbaaGreatDoor.G

/- Contracts of a run, whatever the pattern: places that are marked. -/
namespace Go.Proofs.YtgmjjhmnchefbaaGreatDoor.G
open Go.RowKit

def bitAt (b : Int) (i : Nat) : Bool := bits BinOp.and IntKind.u64 (b / 2 ^ i) 1 == 1
def markN (b pl : Int) : Nat → List Int → List Int
  | 0, sl => sl
  | n + 1, sl => if bitAt b n then (markN b pl n sl).set n pl else markN b pl n sl
def markM (b pl : Int) (sl : List Int) : List Int := markN b pl 10 sl

end Go.Proofs.YtgmjjhmnchefbaaGreatDoor.G

/- The contract of follow, whatever the ways. -/
namespace Go.Proofs.YtgmjjhmnchefbaaGreatDoor.G
open Go.RowKit

structure Way where
  to : Nat
  bits : Int
structure Th where
  pc : Nat
  sl : List Int
def followM (sl : List Int) (pl : Int) : List Way → List Th × List Int → List Th × List Int
  | [], s => s
  | x :: ws, s => if s.2[x.to]? = some pl then followM sl pl ws s else followM sl pl ws (s.1 ++ [⟨x.to, markM x.bits pl sl⟩], s.2.set x.to pl)

end Go.Proofs.YtgmjjhmnchefbaaGreatDoor.G

/- A run: whether a thread accepts. -/
namespace Go.Proofs.YtgmjjhmnchefbaaGreatDoor.G
open Go.RowKit

def acceptM (code : List Ins) : List Th → Option (List Int)
  | [] => none
  | t :: ts => if (code[t.pc]?).map (·.op) = some 6 then some t.sl else acceptM code ts
end Go.Proofs.YtgmjjhmnchefbaaGreatDoor.G

/- A run at any program: the mirror of a step, and what a pattern and a run look like in memory. -/
namespace Go.Proofs.YtgmjjhmnchefbaaGreatDoor.G
open Go.RowKit

def wys (l : List (Nat × Int)) : List Way := l.map fun y => ⟨y.1, y.2⟩
def Ins.cls (i : Ins) : Rx.Q.Cls := ⟨i.lo, i.hi, i.hg⟩
def Ins.takes (i : Ins) (r : Int) : Bool := i.op == 0 && Rx.Q.hasC i.cls r
def stepL (code : List Ins) (r pl : Int) : List Th → List Th × List Int → List Th × List Int
  | [], s => s
  | t :: ts, s => match code[t.pc]? with
    | some i => if i.takes r then stepL code r pl ts (followM t.sl pl (wys (waysM code (t.pc + 1, 1))) s) else stepL code r pl ts s
    | none => stepL code r pl ts s
end Go.Proofs.YtgmjjhmnchefbaaGreatDoor.G

/- A run's step, at any program. -/
namespace Go.Proofs.YtgmjjhmnchefbaaGreatDoor.G
open Go.RowKit

end Go.Proofs.YtgmjjhmnchefbaaGreatDoor.G

/- A run: places that are unset, and the spans of a match. -/
namespace Go.Proofs.YtgmjjhmnchefbaaGreatDoor.G
open Go.RowKit

def unsetS : List Int := [-1, -1, -1, -1, -1, -1, -1, -1, -1, -1]
end Go.Proofs.YtgmjjhmnchefbaaGreatDoor.G

/- Runes of a string; the mirror of a match. -/
namespace Go.Proofs.YtgmjjhmnchefbaaGreatDoor.G
open Go.Lib

def rsz (s : ByteArray) (a : Nat) : Nat := (Lib.decodeGo (s.extract a s.size)).2
def rune (s : ByteArray) (a : Nat) : Nat := (Lib.decodeGo (s.extract a s.size)).1
def runM (code : List Ins) (s : ByteArray) : Nat → Nat → List Th × List Int → Option (List Int)
  | 0, _, st => acceptM code st.1
  | f + 1, a, st => if a < s.size then
      if (stepL code (rune s a) ((a + rsz s a : Nat) : Int) st.1 ([], st.2)).1.length = 0 then none else runM code s f (a + rsz s a) (stepL code (rune s a) ((a + rsz s a : Nat) : Int) st.1 ([], st.2))
    else acceptM code st.1
def matchM (code : List Ins) (s : ByteArray) : Option (List Int) := runM code s s.size 0 (followM unsetS 0 (wys (waysM code (0, 0))) ([], List.replicate code.length (-1)))
end Go.Proofs.YtgmjjhmnchefbaaGreatDoor.G

/- Pattern.Match, at any program and any string. -/
namespace Go.Proofs.YtgmjjhmnchefbaaGreatDoor.G
open Go.RowKit

end Go.Proofs.YtgmjjhmnchefbaaGreatDoor.G
