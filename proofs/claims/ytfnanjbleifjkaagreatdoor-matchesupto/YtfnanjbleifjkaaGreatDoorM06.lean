import Derived.Test.YtfnanjbleifjkaaGreatDoorM05
set_option linter.unusedVariables false
set_option linter.unusedSimpArgs false
set_option maxHeartbeats 400000
namespace Go.Proofs.YtfnanjbleifjkaaGreatDoor.G
variable {w w' : World} {k l mb r : Nat} {t : ByteArray} {s s' : RS} {p : Addr} {b : UInt8}
open Go.RowKit
def nmE (l : List (ByteArray × Nat)) : Array MapEntry := (l.zipIdx.map fun x => { key := .string x.1.1, val := .int .i64 x.1.2, born := x.2 }).toArray
abbrev EV := TypeId × Value
structure RG (w : World) (r mb : Nat) (t : ByteArray) (x : EV) (s : RS) : Prop where
 rd : RD w r t s.k ⟨s.d, s.f, s.g, .map (some mb)⟩
 mp : BK w mb (.map (nmE s.nm) s.nm.length)
 ev : w.cell? ⟨0, 0, none⟩ = some (.iface x.1 x.2)
 rm : r ≠ mb
 re : r ≠ 0
 me : mb ≠ 0
 hk : s.k <= t.size
 ht : t.size <= 60
 nk : ∀ x ∈ s.nm, x.1.size <= 60
theorem dK {b o : Nat} {v : Value} (h : w.cell? ⟨b, o, none⟩ = some v) : b < w.heap.size := by
 by_cases hb : b < w.heap.size
 ·exact hb
 ·have h2 : w.heap[b]? = none := Array.getElem?_eq_none (by omega)
  simp [World.cell?, h2] at h
theorem RG.ex {l : List Nat} {x : EV} (h : RG w r mb t x s) (hx : Ex l w w') (h1 : r ∉ l) (h2 : mb ∉ l) (h3 : 0 ∉ l) : RG w' r mb t x s :=
 ⟨h.rd.ex hx h1, h.mp.ex hx h2, (hx.cell.1 _ _ (dK h.ev) h3).trans h.ev, h.rm, h.re, h.me, h.hk, h.ht, h.nk⟩
theorem RG.ex0 {x : EV} (h : RG w r mb t x s) (hx : Ex [] w w') : RG w' r mb t x s := h.ex hx (by simp) (by simp) (by simp)
theorem RG.alloc {x : EV} (h : RG w r mb t x s) (o : Obj) : RG (w.alloc o) r mb t x s := h.ex0 ((Ex.refl _ _).alloc _)
theorem RG.drewN {x : EV} (h : RG w r mb t x s) (n : Nat) : RG (w.drewN n) r mb t x s := h.ex0 ((Ex.refl _ _).drewN _)
theorem RG.drew {x : EV} (h : RG w r mb t x s) : RG w.drew r mb t x s := h.ex0 ((Ex.refl _ _).drew)
theorem RG.lt {x : EV} (h : RG w r mb t x s) : r < w.heap.size := h.rd.lt
theorem RG.mlt {x : EV} (h : RG w r mb t x s) : mb < w.heap.size := h.mp.lt
theorem RG.elt {x : EV} (h : RG w r mb t x s) : 0 < w.heap.size := dK h.ev
theorem RG.set {x : EV} (h : RG w r mb t x s) (h1 : p.block ≠ r) (h2 : p.block ≠ mb) (h3 : p.block ≠ 0) (u : Value) : RG (w.setCell p u) r mb t x s :=
 h.ex (l := [p.block]) ((Ex.refl _ _).setCell (Or.inl (by simp)) u) (by simpa using h1.symm) (by simpa using h2.symm) (by simpa using h3.symm)
theorem RG.setN {x : EV} {B : Nat} (h : RG w r mb t x s) (h1 : r < B) (h2 : mb < B) (h3 : 0 < B) (hp : B <= p.block) (u : Value) : RG (w.setCell p u) r mb t x s :=
 h.set (by omega) (by omega) (by omega) u
theorem RG.own {x : EV} (h : RG w r mb t x s) (hp : p.block = r) (u : Value) (hn : s'.nm = s.nm) (hk : s'.k <= t.size) (hrd : RD (w.setCell p u) r t s'.k ⟨s'.d, s'.f, s'.g, .map (some mb)⟩) : RG (w.setCell p u) r mb t x s' := by
 have hx : Ex [r] w (w.setCell p u) := (Ex.refl _ _).setCell (Or.inl (by simp [hp])) u
 refine ⟨hrd, ?_, (hx.cell.1 _ _ h.elt (by simpa using h.re.symm)).trans h.ev, h.rm, h.re, h.me, hk, h.ht, by rw [hn]; exact h.nk⟩
 rw [hn]; exact h.mp.ex hx (by simpa using h.rm.symm)
theorem RG.up {x : EV} (h : RG w r mb t x s) (hk : s.k < t.size) : RG (w.setCell ⟨r, 1, none⟩ (.int .i64 ((s.k + 1 : Nat) : Int))) r mb t x s.up :=
 h.own rfl _ rfl hk h.rd.step
def az {α : Type} (own : List Nat) (r mb : Nat) (t : ByteArray) (x : EV) (w : World) (R : World -> Value -> α -> Prop) (m : Res α) (e : Ending) (w' : World) : Prop :=
 match m with
 |.ok a s' => (∃ v, e = .returned v /\ R w' v a) /\ RG w' r mb t x s' /\ Ex own w w'
 |.bad s' => e = .panicked [{ v := .iface x.1 x.2, recovered := false }] /\ RG w' r mb t x s' /\ Ex own w w'
theorem gL (h : k < t.size) : aj t k = some (t[k]'h) := Array.getElem?_eq_getElem h
theorem fC (h : ¬ k < t.size) : aj t k = none := Array.getElem?_eq_none (by simp only [ByteArray.size] at h; omega)
theorem cG (h : aj t k = some b) : ∃ hk : k < t.size, (t[k]'hk) = b := by
 by_cases hk : k < t.size
 ·rw [gL hk] at h; exact ⟨hk, Option.some.inj h⟩
 ·rw [fC hk] at h; cases h
theorem wo (h : ac t s b = true) : s.k < t.size := by
 unfold ac at h
 by_cases hk : s.k < t.size
 ·exact hk
 ·rw [fC hk] at h; simp at h
theorem gG (a b : UInt8) : ((a.toNat : Int) == (b.toNat : Int)) = (a == b) := by
 by_cases h : a = b
 ·subst h; simp
 ·have h2 : (a.toNat : Int) ≠ (b.toNat : Int) := by
   intro h3; apply h; apply UInt8.toNat_inj.1; omega
  rw [beq_eq_false_iff_ne.2 h2, beq_eq_false_iff_ne.2 h]
theorem qT {x : EV} (h : RG w r mb t x s) :
  Calls Tryz.prog 86 #[.pointer (some ⟨r, 0, none⟩)] w fun e w' => e = .returned (.bool (decide (s.k = t.size))) /\ ∃ n, w' = w.drewN n := by
 by_cases hk : s.k = t.size
 ·rw [decide_eq_true hk]; exact mE r t s.k _ w h.rd hk
 ·rw [decide_eq_false hk]; exact iL r t s.k _ w h.rd (by have := h.hk; omega)
theorem vd {x : EV} (h : RG w r mb t x s) (bi : Int) (b : UInt8) (hb : (b.toNat : Int) = bi) :
  Calls Tryz.prog 177 #[.pointer (some ⟨r, 0, none⟩), .int .u8 bi] w fun e w' => e = .returned (.bool (ac t s b)) /\ ∃ n, w' = w.drewN n := by
 subst hb
 by_cases hk : s.k < t.size
 ·have hs : ac t s b = ((t[s.k]'hk) == b) := by simp [ac, gL hk]
  cases hq : ac t s b with
  |true => exact qi r t s.k _ w _ h.rd hk h.ht (by rw [gG, <- hs, hq])
  |false => exact sC r t s.k _ w _ h.rd hk h.ht (by rw [gG, <- hs, hq])
 ·have hs : ac t s b = false := by simp [ac, fC hk]
  rw [hs]
  exact oW r t s.k _ w _ h.rd (by have := h.hk; omega)
theorem cV {x : EV} (h : RG w r mb t x s) (bi : Int) (b : UInt8) (hb : (b.toNat : Int) = bi) :
  Calls Tryz.prog 137 #[.pointer (some ⟨r, 0, none⟩), .int .u8 bi] w fun e w' => e = .returned (.bool (ac t s b)) /\ RG w' r mb t x (s.took t b) /\ Ex [r] w w' := by
 subst hb
 by_cases hk : s.k < t.size
 ·have hs : ac t s b = ((t[s.k]'hk) == b) := by simp [ac, gL hk]
  cases hq : ac t s b with
  |true =>
   refine (tG r t s.k _ w _ h.rd hk h.ht (by rw [gG, <- hs, hq])).mono ?_
   rintro e w' ⟨rfl, hrd, hx⟩
   refine ⟨rfl, ?_, hx⟩
   unfold RS.took; rw [if_pos hq]
   exact ⟨hrd, h.mp.ex hx (by simpa using h.rm.symm), (hx.cell.1 _ _ h.elt (by simpa using h.re.symm)).trans h.ev, h.rm, h.re, h.me, hk, h.ht, h.nk⟩
  |false =>
   refine (vN r t s.k _ w _ h.rd hk h.ht (by rw [gG, <- hs, hq])).mono ?_
   rintro e w' ⟨rfl, n, rfl⟩
   refine ⟨rfl, ?_, (Ex.refl _ _).drewN _⟩
   unfold RS.took; rw [if_neg (by simp [hq])]; exact h.drewN _
 ·have hs : ac t s b = false := by simp [ac, fC hk]
  rw [hs]
  refine (sF r t s.k _ w _ h.rd (by have := h.hk; omega)).mono ?_
  rintro e w' ⟨rfl, n, rfl⟩
  refine ⟨rfl, ?_, (Ex.refl _ _).drewN _⟩
  unfold RS.took; rw [if_neg (by simp [hs])]; exact h.drewN _
theorem az.mkOk {α : Type} {own : List Nat} {x : EV} {R : World -> Value -> α -> Prop} {m : Res α} {a : α} {v : Value} (hm : m = .ok a s') (hR : R w' v a) (hg : RG w' r mb t x s') (hx : Ex own w w') : az own r mb t x w R m (.returned v) w' := by
 subst hm; exact ⟨⟨v, rfl, hR⟩, hg, hx⟩
theorem az.mkBad {α : Type} {own : List Nat} {x : EV} {R : World -> Value -> α -> Prop} {m : Res α} (hm : m = .bad s') (hg : RG w' r mb t x s') (hx : Ex own w w') : az own r mb t x w R m (.panicked [{ v := .iface x.1 x.2, recovered := false }]) w' := by
 subst hm; exact ⟨rfl, hg, hx⟩
theorem az.split {α : Type} {own : List Nat} {x : EV} {R : World -> Value -> α -> Prop} {m : Res α} {e : Ending} (h : az own r mb t x w R m e w') :
  (∃ a s' v, m = .ok a s' /\ e = .returned v /\ R w' v a /\ RG w' r mb t x s' /\ Ex own w w') \/ (∃ s', m = .bad s' /\ e = .panicked [{ v := .iface x.1 x.2, recovered := false }] /\ RG w' r mb t x s' /\ Ex own w w') := by
 cases m with
 |ok a s' => obtain ⟨⟨v, h1, h2⟩, h3, h4⟩ := h; exact .inl ⟨a, s', v, rfl, h1, h2, h3, h4⟩
 |bad s' => obtain ⟨h1, h3, h4⟩ := h; exact .inr ⟨s', rfl, h1, h3, h4⟩
theorem ab {P : Program} {fn : Func} {R : Ending -> World -> Prop} {a : Act} {ch : List PanicEntry} (hd : a.defers = []) (h : R (.panicked ch) w) : bodyPost P fn R (.panic ch) a w := ⟨hd, h⟩
theorem lY (h : ac t s b = true) : ax t s b = .ok () s.up := by unfold ax; rw [if_pos h]
theorem ua (h : ac t s b = false) : ax t s b = .bad s := by unfold ax; rw [if_neg (by simp [h])]
theorem bV (h : ac t s b = true) : s.took t b = s.up := by unfold RS.took; rw [if_pos h]
theorem cJ (h : ac t s b = false) : s.took t b = s := by unfold RS.took; rw [if_neg (by simp [h])]
theorem gD {x : EV} (h : RG w r mb t x s) (bi : Int) (b : UInt8) (hb : (b.toNat : Int) = bi) :
  Calls Tryz.prog 135 #[.pointer (some ⟨r, 0, none⟩), .int .u8 bi] w fun e w' => az [r] r mb t x w (fun _ v _ => v = .tuple #[]) (ax t s b) e w' := by
 have H := aa h
 clear h
 go_enter Tryz.func135, Tryz.ntmps135
 go_wp2_with fail
 refine (cV H.O bi b hb).mono ?_
 rintro e w' ⟨rfl, h1, h2⟩
 cases hq : ac t s b with
 |true =>
  rw [bV hq] at h1
  have HM := aa (lY hq)
  have H1 := aa h1
  have H2 := aa h2
  clear h1 h2 hq
  go_wp2_with fail
  go_end0
  exact az.mkOk HM.O rfl H1.O H2.O
 |false =>
  rw [cJ hq] at h1
  have HM := aa (ua hq)
  have hev := h1.ev
  have H1 := aa h1
  have H2 := aa h2
  clear h1 h2 hq
  go_wp2_with fail
  exact ab rfl (az.mkBad HM.O H1.O H2.O)
theorem eN (h : aj t s.k = some b) : pJ t s = .ok b s := by simp [pJ, h]
theorem fJ (h : aj t s.k = none) : pJ t s = .bad s := by simp [pJ, h]
theorem uu {x : EV} (h : RG w r mb t x s) :
  Calls Tryz.prog 236 #[.pointer (some ⟨r, 0, none⟩)] w fun e w' => (∃ n, w' = w.drewN n) /\ az [] r mb t x w (fun _ v b => v = .int .u8 b.toNat) (pJ t s) e w' := by
 by_cases hk : s.k < t.size
 ·refine (vG r t s.k _ w h.rd hk h.ht).mono ?_
  rintro e w' ⟨rfl, n, rfl⟩
  exact ⟨⟨n, rfl⟩, az.mkOk (eN (gL hk)) rfl (h.drewN _) ((Ex.refl _ _).drewN _)⟩
 ·have HM := aa (fJ (fC hk))
  have hev := h.ev
  have hkk : s.k = t.size := by have := h.hk; omega
  have H := aa h
  have HK := aa hkk
  clear h hk hkk
  go_enter Tryz.func236, Tryz.ntmps236
  go_wp2_with fail
  refine (qT H.O).mono ?_
  rintro e w' ⟨rfl, n, rfl⟩
  rw [decide_eq_true HK.O]
  go_wp2_with fail
  exact ab rfl ⟨⟨n, rfl⟩, az.mkBad HM.O (H.O.drewN _) ((Ex.refl _ _).drewN _)⟩
theorem pq (h : aj t s.k = none) : dh t l s = .bad s := by simp [dh, h]
theorem rf (h : aj t s.k = some b) (hb : b.toNat < 48 + l \/ 57 < b.toNat) : dh t l s = .bad s := by simp [dh, h]; omega
theorem tD (h : aj t s.k = some b) (hb : ¬ (b.toNat < 48 + l \/ 57 < b.toNat)) : dh t l s = .ok (b.toNat - 48) s.up := by simp [dh, h]; omega
theorem uw {x : EV} (h : RG w r mb t x s) (l : Nat) (hl : l <= 9) :
  Calls Tryz.prog 268 #[.pointer (some ⟨r, 0, none⟩), .int .i64 l] w fun e w' => az [r] r mb t x w (fun _ v (n : Nat) => v = .int .i64 (n : Int) /\ n <= 9) (dh t l s) e w' := by
 have H := aa h
 have hlt := h.lt
 have ht := h.ht
 clear h
 go_enter Tryz.func268, Tryz.ntmps268
 go_wp2_with fail
 refine (uu H.O).mono ?_
 rintro e w1 ⟨⟨n, rfl⟩, hp⟩
 rcases hp.split with ⟨b, s', v, hm, rfl, hv, hg, hx⟩ | ⟨s', hm, rfl, hg, hx⟩
 ·subst hv
  cases hba : aj t s.k with
  |none => rw [fJ hba] at hm; cases hm
  |some b' =>
   rw [eN hba] at hm
   cases hm
   have hks := (cG hba).1
   have hc1 := hg.rd.c1
   have hf1 := hg.rd.f1
   have hev := hg.ev
   have hb256 := b.toNat_lt
   have HG := aa hg
   by_cases hb : b.toNat < 48 + l \/ 57 < b.toNat
   ·have HM := aa (rf (l := l) hba hb)
    clear hg hp hx hba
    by_cases h1 : b.toNat < 48 + l
    ·have e1 : ((b.toNat : Int) - 48 < (l : Int)) := by omega
     clear hb h1
     go_wp2_with fail
     exact ab rfl (az.mkBad HM.O HG.O ((Ex.refl _ _).drewN _))
    ·have e1 : ¬ ((b.toNat : Int) - 48 < (l : Int)) := by omega
     have e2 : ((b.toNat : Int) - 48 > 9) := by omega
     clear hb h1
     go_wp2_with fail
     exact ab rfl (az.mkBad HM.O HG.O ((Ex.refl _ _).drewN _))
   ·have HM := aa (tD (l := l) hba hb)
    have e1 : ¬ ((b.toNat : Int) - 48 < (l : Int)) := by omega
    have e2 : ¬ ((b.toNat : Int) - 48 > 9) := by omega
    have e3 : ((b.toNat : Int) - 48) = ((b.toNat - 48 : Nat) : Int) := by omega
    have HE3 := aa e3
    have hs9 : b.toNat - 48 <= 9 := by omega
    clear hb e3 hg hp hx hba
    go_wp2_with fail
    go_ret
    refine az.mkOk HM.O ⟨congrArg (Value.int .i64) HE3.O, hs9⟩ ?_ (((Ex.refl _ _).drewN _).setCell (Or.inl (by simp)) _)
    have := HG.O.up hks
    simpa using this
 ·cases hba : aj t s.k with
  |some b => rw [eN hba] at hm; cases hm
  |none =>
   rw [fJ hba] at hm
   cases hm
   exact ab rfl (az.mkBad (pq hba) hg (hx.drop (by simp)))
theorem vU {x : EV} (h : RG w r mb t x s) :
  Calls Tryz.prog 244 #[.pointer (some ⟨r, 0, none⟩)] w fun e w' => az [r] r mb t x w (fun _ v (n : Nat × Int) => v = .tuple #[.int .i64 (n.1 : Int), .int .i64 n.2] /\ n.1 <= 9 /\ -1 <= n.2 /\ n.2 <= 9) (bl t s) e w' := by
 have H := aa h
 have hlt := h.lt
 have ht := h.ht
 clear h
 go_enter Tryz.func244, Tryz.ntmps244
 go_wp2_with fail
 refine (uw H.O 0 (by omega)).mono ?_
 rintro e w1 hp
 rcases hp.split with ⟨a, s1, v, hm, rfl, ⟨rfl, ha⟩, hg1, hx1⟩ | ⟨s', hm, rfl, hg, hx⟩
 rotate_left
 ·exact ab rfl (az.mkBad (by simp only [bl, hm, Res.bind_bad]) hg hx)
 have M1 := aa hm
 have G1 := aa hg1
 have X1 := aa hx1
 clear hp hm hg1 hx1
 go_wp2_with fail
 refine (cV G1.O 125 125 rfl).mono ?_
 rintro e w2 ⟨rfl, hg2, hx2⟩
 cases hq : ac t s1 125 with
 |true =>
  rw [bV hq] at hg2
  have Q2 := aa hq
  have G2 := aa hg2
  have X2 := aa hx2
  clear hg2 hx2 hq
  go_wp2_with fail
  go_ret2
  exact az.mkOk (by simp only [bl, af M1, Res.bind_ok, af Q2, if_true]; rfl) ⟨rfl, ha, by simp <;> omega, by simp <;> omega⟩ G2.O (X1.O.trans X2.O)
 |false =>
  rw [cJ hq] at hg2
  have Q2 := aa hq
  have G2 := aa hg2
  have X2 := aa hx2
  clear hg2 hx2 hq
  go_wp2_with fail
  refine (gD G2.O 44 44 rfl).mono ?_
  rintro e w3 hp
  rcases hp.split with ⟨_, s3, v, hm, rfl, rfl, hg3, hx3⟩ | ⟨s', hm, rfl, hg, hx⟩
  rotate_left
  ·exact ab rfl (az.mkBad (by simp only [bl, af M1, Res.bind_ok, af Q2, Bool.false_eq_true, if_false, hm, Res.bind_bad]) hg ((X1.O.trans X2.O).trans hx))
  have M3 := aa hm
  have G3 := aa hg3
  have X3 := aa ((X1.O.trans X2.O).trans hx3)
  clear hp hm hg3 hx3 G1 X1 G2 X2
  go_wp2_with fail
  refine (cV G3.O 125 125 rfl).mono ?_
  rintro e w4 ⟨rfl, hg4, hx4⟩
  cases hq : ac t s3 125 with
  |true =>
   rw [bV hq] at hg4
   have Q4 := aa hq
   have G4 := aa hg4
   have X4 := aa hx4
   clear hg4 hx4 hq
   go_wp2_with fail
   go_ret2
   exact az.mkOk (by simp only [bl, af M1, Res.bind_ok, af Q2, Bool.false_eq_true, if_false, af M3, af Q4, if_true]; rfl) ⟨rfl, ha, by simp, by simp⟩ G4.O (X3.O.trans X4.O)
  |false =>
   rw [cJ hq] at hg4
   have Q4 := aa hq
   have G4 := aa hg4
   have X4 := aa (X3.O.trans hx4)
   clear hg4 hx4 hq G3 X3
   go_wp2_with fail
   refine (uw G4.O a ha).mono ?_
   rintro e w5 hp
   rcases hp.split with ⟨b, s5, v, hm, rfl, ⟨rfl, hb⟩, hg5, hx5⟩ | ⟨s', hm, rfl, hg, hx⟩
   rotate_left
   ·exact ab rfl (az.mkBad (by simp only [bl, af M1, Res.bind_ok, af Q2, Bool.false_eq_true, if_false, af M3, af Q4, hm, Res.bind_bad]) hg (X4.O.trans hx))
   have M5 := aa hm
   have G5 := aa hg5
   have X5 := aa (X4.O.trans hx5)
   clear hp hm hg5 hx5 G4 X4
   go_wp2_with fail
   refine (gD G5.O 125 125 rfl).mono ?_
   rintro e w6 hp
   rcases hp.split with ⟨_, s6, v, hm, rfl, rfl, hg6, hx6⟩ | ⟨s', hm, rfl, hg, hx⟩
   rotate_left
   ·exact ab rfl (az.mkBad (by simp only [bl, af M1, Res.bind_ok, af Q2, Bool.false_eq_true, if_false, af M3, af Q4, af M5, hm, Res.bind_bad]) hg (X5.O.trans hx))
   have M6 := aa hm
   have G6 := aa hg6
   have X6 := aa (X5.O.trans hx6)
   clear hp hm hg6 hx6 G5 X5
   go_wp2_with fail
   go_ret2
   exact az.mkOk (by simp only [bl, af M1, Res.bind_ok, af Q2, Bool.false_eq_true, if_false, af M3, af Q4, af M5, af M6]; rfl) ⟨rfl, ha, by simp <;> omega, by simp <;> omega⟩ G6.O X6.O
def xo : Option (Nat × Int) -> Value
 |none => .tuple #[.int .i64 0, .int .i64 0, .bool false]
 |some n => .tuple #[.int .i64 (n.1 : Int), .int .i64 n.2, .bool true]
def rB : Option (Nat × Int) -> Prop
 |none => True
 |some n => n.1 <= 9 /\ -1 <= n.2 /\ n.2 <= 9
theorem xP {x : EV} (h : RG w r mb t x s) :
  Calls Tryz.prog 216 #[.pointer (some ⟨r, 0, none⟩)] w fun e w' => az [r] r mb t x w (fun _ v n => v = xo n /\ rB n) (cF t s) e w' := by
 have H := aa h
 have hlt := h.lt
 have ht := h.ht
 clear h
 go_enter Tryz.func216, Tryz.ntmps216
 go_wp2_with fail
 refine (cV H.O 42 42 rfl).mono ?_
 rintro e w1 ⟨rfl, hg1, hx1⟩
 cases hq : ac t s 42 with
 |true =>
  rw [bV hq] at hg1
  have Q1 := aa hq
  have G1 := aa hg1
  have X1 := aa (hx1)
  clear hg1 hx1 hq
  go_wp2_with fail
  go_ret3
  exact az.mkOk (a := some (0, -1)) (by simp only [cF, af Q1, Bool.false_eq_true, if_false, if_true]) ⟨rfl, by simp [rB]⟩ G1.O X1.O
 |false =>
 rw [cJ hq] at hg1
 have Q1 := aa hq
 have G1 := aa hg1
 have X1 := aa (hx1)
 clear hg1 hx1 hq
 go_wp2_with fail
 refine (cV G1.O 43 43 rfl).mono ?_
 rintro e w2 ⟨rfl, hg2, hx2⟩
 cases hq : ac t s 43 with
 |true =>
  rw [bV hq] at hg2
  have Q2 := aa hq
  have G2 := aa hg2
  have X2 := aa (X1.O.trans hx2)
  clear hg2 hx2 hq
  go_wp2_with fail
  go_ret3
  exact az.mkOk (a := some (1, -1)) (by simp only [cF, af Q1, af Q2, Bool.false_eq_true, if_false, if_true]) ⟨rfl, by simp [rB]⟩ G2.O X2.O
 |false =>
 rw [cJ hq] at hg2
 have Q2 := aa hq
 have G2 := aa hg2
 have X2 := aa (X1.O.trans hx2)
 clear hg2 hx2 hq
 go_wp2_with fail
 refine (cV G2.O 63 63 rfl).mono ?_
 rintro e w3 ⟨rfl, hg3, hx3⟩
 cases hq : ac t s 63 with
 |true =>
  rw [bV hq] at hg3
  have Q3 := aa hq
  have G3 := aa hg3
  have X3 := aa (X2.O.trans hx3)
  clear hg3 hx3 hq
  go_wp2_with fail
  go_ret3
  exact az.mkOk (a := some (0, 1)) (by simp only [cF, af Q1, af Q2, af Q3, Bool.false_eq_true, if_false, if_true]) ⟨rfl, by simp [rB]⟩ G3.O X3.O
 |false =>
 rw [cJ hq] at hg3
 have Q3 := aa hq
 have G3 := aa hg3
 have X3 := aa (X2.O.trans hx3)
 clear hg3 hx3 hq
 go_wp2_with fail
 refine (cV G3.O 123 123 rfl).mono ?_
 rintro e w4 ⟨rfl, hg4, hx4⟩
 cases hq : ac t s 123 with
 |false =>
  rw [cJ hq] at hg4
  have Q4 := aa hq
  have G4 := aa hg4
  have X4 := aa (X3.O.trans hx4)
  clear hg4 hx4 hq
  go_wp2_with fail
  go_ret3
  exact az.mkOk (a := none) (by simp only [cF, af Q1, af Q2, af Q3, af Q4, Bool.false_eq_true, if_false]) ⟨rfl, trivial⟩ G4.O X4.O
 |true =>
 rw [bV hq] at hg4
 have Q4 := aa hq
 have G4 := aa hg4
 have X4 := aa (X3.O.trans hx4)
 clear hg4 hx4 hq G3 X3
 go_wp2_with fail
 refine (vU G4.O).mono ?_
 rintro e w5 hp
 rcases hp.split with ⟨b, s5, v, hm, rfl, ⟨rfl, hb⟩, hg5, hx5⟩ | ⟨s', hm, rfl, hg, hx⟩
 rotate_left
 ·exact ab rfl (az.mkBad (by simp only [cF, af Q1, af Q2, af Q3, af Q4, Bool.false_eq_true, if_false, if_true, hm, Res.bind_bad]) hg (X4.O.trans hx))
 have M5 := aa hm
 have G5 := aa hg5
 have X5 := aa (X4.O.trans hx5)
 clear hp hm hg5 hx5 G4 X4
 go_wp2_with fail
 go_ret3
 exact az.mkOk (a := some b) (by simp only [cF, af Q1, af Q2, af Q3, af Q4, Bool.false_eq_true, if_false, if_true, af M5, Res.bind_ok]) ⟨rfl, hb⟩ G5.O X5.O
end Go.Proofs.YtfnanjbleifjkaaGreatDoor.G
