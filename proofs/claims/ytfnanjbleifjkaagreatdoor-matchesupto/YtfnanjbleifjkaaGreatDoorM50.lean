import Derived.Test.YtfnanjbleifjkaaGreatDoorM49
import Derived.ArgAppend
import Derived.Lib.LaidU8
import Derived.Test.YtfnanjbleifjkaaGreatDoorRows
import Derived.ProofKit
import Derived.MakeChecks
import Derived.OpenShut
import Derived.SliceStrings
import Derived.Deep.SlicePairs
set_option linter.unusedVariables false
set_option linter.unusedSimpArgs false
set_option maxHeartbeats 16000000
set_option maxRecDepth 100000
namespace Go.Proofs.YtfnanjbleifjkaaGreatDoor.G
variable {w : World} {t : ByteArray}
open Go.RowKit
theorem XT.ex {w' : World} {r y : Nat} {X : Xp} (h : XT w r y X) (hx : Ex [] w w') : XT w' r y X := h.mono (fun y E hy => hy.typed (fun g cs ty fz hg _ => hx.block g (BK.lt (show BK w g _ from hg)) (by simp)))
theorem nQ (s : ByteArray) (hz : s.size <= 1048576) (ht : t.size <= 60) {b : Nat} {q : Pt} {st : RS} {root : Nat} {av nv : Value} (hr : bg t = .ok q st) (hb : BK w b (.cells #[av, .int .i64 ((root : Nat) : Int), .int .i64 (st.g : Int), nv] 133 (0, 0))) (hX : XT w b root (den q)) :
  Calls Tryz.prog 24 #[.pointer (some ⟨b, 0, none⟩), .string s] w fun e w' => e = .returned (.bool (ev (lR (ck s s.size 0)) 0 [.ex (den q)]).isSome) /\ Ex [] w w' := by
 have KS := aa (eL s hz ht hr hb hX)
 clear hr hb hX ht
 go_enter Tryz.func24, Tryz.ntmps24
 go_wp2_with fail
 refine KS.O.mono ?_
 rintro e w2 ⟨v, sp, rfl, _, _, hx⟩
 have HX := aa hx
 clear hx KS
 obtain ⟨R, hR⟩ := exq ((ev (lR (ck s s.size 0)) 0 [.ex (den q)]).isSome)
 rw [<- hR]
 have HRR := aa hR
 clear hR
 go_wp2_with fail
 go_ret
 first | exact ⟨congrArg (fun z => Ending.returned (Value.bool z)) HRR.O, HX.O⟩ | exact ⟨HRR.O, HX.O⟩
theorem qv (s : ByteArray) (hz : s.size <= 1048576) (ht : t.size <= 60) {b : Nat} {q : Pt} {st : RS} {root : Nat} {av nv : Value} (hr : bg t = .ok q st) (hb : BK w b (.cells #[av, .int .i64 ((root : Nat) : Int), .int .i64 (st.g : Int), nv] 133 (0, 0))) (hX : XT w b root (den q)) {ms : Mk} (hm : ev (lR (ck s s.size 0)) 0 [.ex (den q)] = some ms) :
  Calls Tryz.prog 25 #[.pointer (some ⟨b, 0, none⟩), .string s] w fun e w' => (∃ v, e = .returned v /\ w'.ownsRow w.heap.size 31 2 v (st.g + 1) (bz (cu (s.size : Int) (app cA ms) st.g))) /\ Ex [] w w' := by
 have KS := aa (eL s hz ht hr hb hX)
 have HMS := aa hm
 clear hr hb hX ht hm
 go_enter Tryz.func25, Tryz.ntmps25
 go_wp2_with fail
 refine KS.O.mono ?_
 rintro e w2 ⟨v, sp, rfl, ho, hsp, hx⟩
 have hsp := hsp ms HMS.O
 subst hsp
 have HX := aa hx
 have HO := aa ho
 clear hx ho KS
 obtain ⟨R, hR⟩ := exq ((ev (lR (ck s s.size 0)) 0 [.ex (den q)]).isSome)
 rw [<- hR]
 clear hR
 go_wp2_with fail
 refine bodyPost_ret (v := v) (by simp [results, Tryz.results25, go_sem]) rfl ⟨⟨v, rfl, HO.O⟩, HX.O⟩
def iw (w : World) (t s : ByteArray) (e : Ending) (w' : World) : Prop := match bF t with
 |some k => e = .returned (.tuple #[.slice none 0 0, .bool false, .int .i64 4, .int .i64 (k : Int)])
 |none => jv w s (iD t) (dC (gV t) s) e w'
theorem vp (h : bF t = none) : ∃ q st, bg t = .ok q st /\ t.size <= 60 := by
 unfold bF at h
 by_cases h60 : 60 < t.size
 ·rw [if_pos h60] at h; cases h
 ·rw [if_neg h60] at h
  cases hr : bg t with
  |bad s => rw [hr] at h; cases h
  |ok q st => exact ⟨q, st, rfl, by omega⟩
theorem iz (t s : ByteArray) (hz : s.size <= 1048576) (w : World) : Calls Tryz.prog 9 #[.string t, .string s] w fun e w' => iw w t s e w' /\ Ex [] w w' := by
 have KR := aa (vB t w)
 cases hp : bF t with
 |some k =>
  have HP := aa hp
  clear hp
  go_enter Tryz.func9, Tryz.ntmps9
  go_wp2_with fail
  refine KR.O.mono ?_
  rintro e w1 ⟨h1, hx1, _⟩
  unfold bp at h1
  rw [HP.O] at h1
  dsimp only at h1
  subst h1
  have HX := aa hx1
  clear hx1 KR
  go_wp2_with fail
  refine bodyPost_ret (v := .tuple #[.slice none 0 0, .bool false, .int .i64 4, .int .i64 (k : Int)]) (by simp [results, Tryz.results9, go_sem]) rfl ⟨?_, HX.O⟩
  unfold iw
  rw [HP.O]
 |none =>
  obtain ⟨q, st, hr, ht⟩ := vp hp
  have hpok : POK q := (ji ht hr).2.1
  have hmd := tb q hpok s
  have hmc : dC (gV t) s = (ev (lR (ck s s.size 0)) 0 [.ex (den q)]).map (app cA) := by unfold gV; rw [hr]; exact hmd
  have hpn : iD t = st.g := by unfold iD; rw [hr]
  have HP := aa hp
  have HRD := aa hr
  have HMC := aa hmc
  have HPN := aa hpn
  clear hp hr hpok hmd hmc hpn
  obtain ⟨R, hR⟩ := exq (ev (lR (ck s s.size 0)) 0 [.ex (den q)])
  rw [<- hR] at HMC
  have HR := aa hR
  clear hR
  go_enter Tryz.func9, Tryz.ntmps9
  go_wp2_with fail
  refine KR.O.mono ?_
  rintro e w1 ⟨h1, hx1, hrx⟩
  unfold bp at h1
  rw [HP.O] at h1
  dsimp only at h1
  obtain ⟨b, rfl⟩ := h1
  obtain ⟨q', st', root, av, nv, ns, base, hr', _, hbk, _, _, _, hXT⟩ := hrx b _ _ rfl
  rw [HRD.O] at hr'
  cases hr'
  have KM := aa (nQ s hz ht HRD.O hbk hXT)
  rw [<- HR.O] at KM
  have HBK := aa hbk
  have HXT := aa hXT
  have HX1 := aa hx1
  clear hx1 hrx hbk hXT KR
  go_wp2_with fail
  refine KM.O.mono ?_
  rintro e w2 ⟨rfl, hx2⟩
  have HX2 := aa hx2
  have hz1 := HX1.O.size
  have hz2 := hx2.size
  clear hx2 KM
  cases R with
  |none =>
   go_wp2_with fail
   refine bodyPost_ret (v := .tuple #[.slice none 0 0, .bool false, .int .i64 0, .int .i64 0]) (by simp [results, Tryz.results9, go_sem]) rfl ⟨?_, HX1.O.trans HX2.O⟩
   unfold iw
   rw [HP.O, HMC.O]
   rfl
  |some ms =>
   have KS := aa (qv s hz ht HRD.O (HBK.O.ex HX2.O (by simp)) (HXT.O.ex HX2.O) HR.O.symm)
   go_wp2_with fail
   refine KS.O.mono ?_
   rintro e w3 ⟨⟨v, rfl, ho⟩, hx3⟩
   have HX3 := aa hx3
   have HO := aa ho
   clear hx3 ho KS
   go_wp2_with fail
   refine bodyPost_ret (v := .tuple #[v, .bool true, .int .i64 0, .int .i64 0]) (by simp [results, Tryz.results9, go_sem]) rfl ⟨?_, (HX1.O.trans HX2.O).trans HX3.O⟩
   unfold iw
   rw [HP.O, HMC.O, HPN.O]
   exact ⟨v, rfl, dt HO.O (by omega)⟩
theorem eY {base : Nat} {g n cap : Nat} {l : List (Int × Int)} (h : w.ownsRow base 31 2 (.slice (some ⟨g, 0, none⟩) n cap) n (bz l)) {j : Nat} {y : Int × Int} (hy : l[j]? = some y) (hj : j < n) : w.cell? ⟨g, j * 2, none⟩ = some (.int .i64 y.1) /\ w.cell? ⟨g, j * 2 + 1, none⟩ = some (.int .i64 y.2) := by
 refine ⟨?_, ?_⟩
 ·rw [h.cellAt (j * 2) (by omega)]
  exact dG fi l j y 0 hy (by decide)
 ·rw [h.cellAt (j * 2 + 1) (by omega)]
  exact dG fi l j y 1 hy (by decide)
theorem dQ {base base' : Nat} {l : List (Int × Int)} {n : Nat} {va vb : Value} (hl : l.length = n) (hn : n <= 100) (ha : w.ownsRow base 31 2 va n (bz l)) (hb : w.ownsRow base' 31 2 vb n (bz l)) :
  Calls Tryz.prog 10 #[va, vb] w fun e w' => e = .returned (.bool true) /\ Ex [] w w' := by
 obtain ⟨pa, ca, rfl⟩ := aw ha
 obtain ⟨pb, cb, rfl⟩ := aw hb
 have HA := aa ha
 have HB := aa hb
 have HL := aa hl
 clear ha hb hl
 go_enter Tryz.func10, Tryz.ntmps10
 go_wp2_with fail
 go_loopg [5] n (fun gk i wr => ∃ j : Nat, j + gk = n /\ i = .int .i64 (j : Int) /\ Ex [] w wr)
 case atStart => exact ⟨0, by omega, rfl, Ex.refl _ _⟩
 case round =>
  obtain ⟨j, hj, rfl, hx⟩ := hrel
  have HX := aa hx
  cases gk with
  |zero =>
   have hjl : ¬ (j : Int) < (n : Int) := by omega
   clear hx
   go_wp2_with fail
   go_ret
   first | exact ⟨rfl, HX.O⟩ | exact HX.O
  |succ gk =>
   have hjl : (j : Int) < (n : Int) := by omega
   have hjn : j < n := by omega
   obtain ⟨y, hy⟩ : ∃ y, l[j]? = some y := ⟨_, List.getElem?_eq_getElem (by have := HL.O; omega)⟩
   have ha2 := aE HA.O hx (by simp)
   have hb2 := aE HB.O hx (by simp)
   obtain ⟨ga, ca', e1, _⟩ := bW ha2 (by omega)
   obtain ⟨gb, cb', e2, _⟩ := bW hb2 (by omega)
   cases e1
   cases e2
   obtain ⟨a0, a1⟩ := eY ha2 hy hjn
   obtain ⟨b0, b1⟩ := eY hb2 hy hjn
   have hga := (ha2.lt ga rfl).2
   have hgb := (hb2.lt gb rfl).2
   obtain ⟨y0, y1⟩ := y
   dsimp only at a0 a1 b0 b1
   clear hx ha2 hb2 hy
   go_wp2_with fail
   go_quiet (fail)
   go_wp2_with fail
   go_roundg gk
   case measure => omega
   case rel => exact ⟨j + 1, by omega, by simp, HX.O.drewN _⟩
def MO (w : World) (l : List (Int × Int)) (x : Bool) (ec pt : Int) (e : Ending) (w' : World) : Prop := ∃ v, e = .returned (.tuple #[v, .bool x, .int .i64 ec, .int .i64 pt]) /\ w'.ownsRow w.heap.size 31 2 v l.length (bz l) /\ Ex [] w w'
theorem rj (t s : ByteArray) (hz : s.size <= 1048576) : ∃ (l : List (Int × Int)) (x : Bool) (ec pt : Int), l.length <= 6 /\ (∀ (w : World) (x' : EV), w.cell? ⟨0, 0, none⟩ = some (.iface x'.1 x'.2) -> Lib.Utf8Tabs 2 3 w -> Calls Tryz.prog 8 #[.string t, .string s] w (MO w l x ec pt)) /\ ∀ (w : World), Calls Tryz.prog 9 #[.string t, .string s] w (MO w l x ec pt) := by
 cases hp : bF t with
 |some k =>
  refine ⟨[], false, 4, (k : Int), by decide, fun w x' hev hg => (kA t s x' k w hev hp).mono ?_, fun w => (iz t s hz w).mono ?_⟩
  ·rintro e w' ⟨rfl, hx⟩
   exact ⟨_, rfl, World.ownsRow_nil _ _ _ _, hx⟩
  ·rintro e w' ⟨h, hx⟩
   unfold iw at h
   rw [hp] at h
   dsimp only at h
   subst h
   exact ⟨_, rfl, World.ownsRow_nil _ _ _ _, hx⟩
 |none =>
  have hgp := qP hp
  have h5 : iD t <= 5 := by
   simp only [iR, Bool.and_eq_true, decide_eq_true_eq] at hgp
   exact hgp.1.2
  cases hm : dC (gV t) s with
  |none =>
   refine ⟨[], false, 0, 0, by decide, fun w x' hev hg => (mP t s x' w hev hgp hg (by omega)).mono ?_, fun w => (iz t s hz w).mono ?_⟩
   ·rintro e w' ⟨h, hx⟩
    rw [hm] at h
    unfold jv at h
    dsimp only at h
    subst h
    exact ⟨_, rfl, World.ownsRow_nil _ _ _ _, hx⟩
   ·rintro e w' ⟨h, hx⟩
    unfold iw at h
    rw [hp, hm] at h
    unfold jv at h
    dsimp only at h
    subst h
    exact ⟨_, rfl, World.ownsRow_nil _ _ _ _, hx⟩
  |some sl =>
   have hl : (cu (s.size : Int) sl (iD t)).length = iD t + 1 := by simp [cu]
   refine ⟨cu (s.size : Int) sl (iD t), true, 0, 0, by rw [hl]; omega, fun w x' hev hg => (mP t s x' w hev hgp hg (by omega)).mono ?_, fun w => (iz t s hz w).mono ?_⟩
   ·rintro e w' ⟨h, hx⟩
    rw [hm] at h
    unfold jv at h
    dsimp only at h
    obtain ⟨v, rfl, ho⟩ := h
    exact ⟨v, rfl, by rw [hl]; exact ho, hx⟩
   ·rintro e w' ⟨h, hx⟩
    unfold iw at h
    rw [hp, hm] at h
    unfold jv at h
    dsimp only at h
    obtain ⟨v, rfl, ho⟩ := h
    exact ⟨v, rfl, by rw [hl]; exact ho, hx⟩
theorem wm (x : Int) (w : World) : Calls Tryz.prog 11 #[.int .i64 x] w fun e w' => e = .returned (.int .i64 x) /\ w' = w := by
 go_enter Tryz.func11, Tryz.ntmps11
 go_wp2_with fail
 go_ret
 exact ⟨rfl, rfl⟩
theorem vO (xs : List Value) (k : Nat) (a b : Value) (h : k + 1 < xs.length) : ((xs.set k a).set (k + 1) b).take (k + 2) = xs.take k ++ [a, b] := by
 apply List.ext_getElem?
 intro i
 rw [List.getElem?_take]
 by_cases h1 : i < k
 ·rw [if_pos (by omega), List.getElem?_set_ne (by omega), List.getElem?_set_ne (by omega), List.getElem?_append_left (by rw [List.length_take]; omega), List.getElem?_take, if_pos h1]
 ·by_cases h2 : i < k + 2
  ·rw [if_pos h2, List.getElem?_append_right (by rw [List.length_take]; omega), List.length_take, show min k xs.length = k by omega]
   have h3 : i = k \/ i = k + 1 := by omega
   rcases h3 with rfl | rfl
   ·rw [List.getElem?_set_ne (by omega), List.getElem?_set_self (by omega), Nat.sub_self]; rfl
   ·rw [List.getElem?_set_self (by rw [List.length_set]; omega), show k + 1 - k = 1 by omega]; rfl
  ·rw [if_neg h2, List.getElem?_append_right (by rw [List.length_take]; omega), List.length_take, List.getElem?_eq_none (by simp; omega)]
theorem matchesLaw_any (t s : ByteArray) (hz : s.size <= 1048576) (x' : EV) (w : World) (hev : w.cell? ⟨0, 0, none⟩ = some (.iface x'.1 x'.2)) (hg : Lib.Utf8Tabs 2 3 w) :
  Calls Tryz.prog 3 #[.string t, .string s] w fun e w' => e = .returned (.bool true) /\ Ex [] w w' := by
 obtain ⟨l, x, ec, pt, hl6, hmp, hmd⟩ := rj t s hz
 have herr : 0 < w.heap.size := dK hev
 have KM := aa (hmp w x' hev hg)
 have HMP := aa hmp
 have HMD := aa hmd
 have HTB := aa hg
 have HEV := aa hev
 obtain ⟨n, hn⟩ := exq (l.length)
 have hn6 : n <= 6 := by omega
 have HNL := aa hn
 obtain ⟨tS, hti, hzz0, hzz1, hzz2⟩ := info_parts mJ
 clear hmp hmd hg hev hn hl6
 go_enter Tryz.func3, Tryz.ntmps3
 go_wp2_with fail
 refine KM.O.mono ?_
 rintro e w1 ⟨va, rfl, ha1, hx1⟩
 rw [<- HNL.O] at ha1
 obtain ⟨pa, ca, rfl⟩ := aw ha1
 have HA1 := aa ha1
 have X1 := aa hx1
 have KD := aa (HMD.O w1)
 clear ha1 hx1 KM
 go_wp2_with fail
 refine KD.O.mono ?_
 rintro e w2 ⟨vb, rfl, hb2, hx2⟩
 rw [<- HNL.O] at hb2
 obtain ⟨pb, cb, rfl⟩ := aw hb2
 have ha2 := aE HA1.O hx2 (by simp)
 have KS := aa (dQ HNL.O.symm (by omega) ha2 hb2)
 have HA2 := aa ha2
 have HB2 := aa hb2
 have X2 := aa (X1.O.trans hx2)
 have HAN : Hid (∀ g, (Value.slice pa n ca).ownBlock = some g -> g < w1.heap.size) := fun g h => (HA1.O.lt g h).2
 have hz1 := hx2.size
 clear ha2 hb2 hx2 KD
 go_wp2_with fail
 refine KS.O.mono ?_
 rintro e w3 ⟨rfl, hx3⟩
 have HA3 := aa (aE HA2.O hx3 (by simp))
 have HB3 := aa (aE HB2.O hx3 (by simp))
 have X3 := aa (X2.O.trans hx3)
 have hz3 := hx3.size
 have hz0 := X1.O.size
 clear hx3 KS HA1 HA2 HB2 X1 X2
 have hxx : (x != x) = false := by simp
 have hecc : (ec != ec) = false := by simp
 have hptt : (pt != pt) = false := by simp
 have KN := aa (fun w => wm ec w)
 go_wp2_with fail
 refine (KN.O _).mono ?_
 rintro e w9 ⟨rfl, rfl⟩
 go_upto_region 7 with fail
 generalize hw4 : World.alloc _ _ = w4
 have hm4 : BK w4 w9.heap.size (.cells #[.int .i64 (-9), .int .i64 (-9)] 31 (0, 0)) := by rw [<- hw4]; exact BK.new _ _
 have hx4 : Ex [] w9 w4 := by rw [<- hw4]; exact (Ex.refl _ _).alloc _
 obtain ⟨bm, hbm⟩ := exq (w9.heap.size)
 rw [<- hbm] at hm4 ⊢
 have HM4 := aa hm4
 have HA4 := aa (aE HA3.O hx4 (by simp))
 have HB4 := aa (aE HB3.O hx4 (by simp))
 have X4 := aa (X3.O.trans hx4)
 have hbmw : w1.heap.size <= bm := by omega
 clear hw4 hm4 hx4 hbm HA3 HB3 X3 hz1 hz3 KN hxx hecc hptt
 go_wp2_with fail
 go_loopg [15] n (fun gk v15 wr => ∃ (j : Nat) (L : List (Int × Int)), j + gk = n /\ v15 = .int .i64 (j : Int) /\ L.length = n /\ (∀ i, i < j -> L[i]? = some ((-9 : Int), (-9 : Int))) /\ wr.ownsRow w.heap.size 31 2 (.slice pa n ca) n (bz L) /\ wr.ownsRow w1.heap.size 31 2 (.slice pb n cb) n (bz l) /\ BK wr bm (.cells #[.int .i64 (-9), .int .i64 (-9)] 31 (0, 0)) /\ Ex [] w wr)
 case atStart => exact ⟨0, l, by omega, rfl, HNL.O.symm, fun i hi => by omega, HA4.O, HB4.O, HM4.O, X4.O⟩
 case round =>
  obtain ⟨j, L, hj, rfl, hLn, hLm, ha5, hb5, hm5, hx5⟩ := hrel
  have m0 : wr.cell? ⟨bm, 0, none⟩ = some (.int .i64 (-9)) := hm5.all.1 0
  have m1 : wr.cell? ⟨bm, 1, none⟩ = some (.int .i64 (-9)) := hm5.all.1 1
  have hml := hm5.lt
  have HA5 := aa ha5
  have HB5 := aa hb5
  have HM5 := aa hm5
  have X5 := aa hx5
  have HLN := aa hLn
  have HLM := aa hLm
  have hwr := hx5.size
  cases gk with
  |succ gk =>
   have hjl : (j : Int) < (n : Int) := by omega
   obtain ⟨ga, ca', e1, _⟩ := bW ha5 (by omega)
   cases e1
   obtain ⟨y, hy⟩ : ∃ y, L[j]? = some y := ⟨_, List.getElem?_eq_getElem (by omega)⟩
   obtain ⟨a0, a1⟩ := eY ha5 hy (by omega)
   have hga := (ha5.lt ga rfl).2
   have hgw := (ha5.lt ga rfl).1
   have fz0 := ha5.frozenAt (j * 2)
   have fz1 := ha5.frozenAt (j * 2 + 1)
   have hg1 := HAN.O ga rfl
   clear ha5 hb5 hm5 hx5 hLn hLm hy
   go_wp2_with fail
   go_roundg gk
   case measure => omega
   case rel =>
    refine ⟨j + 1, L.set j (-9, -9), by omega, by simp, by rw [List.length_set]; exact HLN.O, fun i hi => ?_, ?_, ?_, ?_, ?_⟩
    ·by_cases e : j = i
     ·subst e; rw [List.getElem?_set_self (by have := HLN.O; omega)]
     ·rw [List.getElem?_set_ne e]; exact HLM.O i (by omega)
    ·rw [mi L j (-9) (-9) (by have := HLN.O; omega)]
     exact dZ (dZ HA5.O _ _) _ _
    ·exact aF HB5.O (fun g hg => (Below.heap_setCell _ _ _ _ (fun e => by have h9 := (HB5.O.lt g hg).1; have e : g = ga := e; omega)).trans (Below.heap_setCell _ _ _ _ (fun e => by have h9 := (HB5.O.lt g hg).1; have e : g = ga := e; omega)))
    ·exact (HM5.O.set (fun e => by have e : bm = ga := e; omega) _).set (fun e => by have e : bm = ga := e; omega) _
    ·exact (X5.O.setCell (.inr hgw) _).setCell (.inr hgw) _
  |zero =>
   have hjl : ¬ (j : Int) < (n : Int) := by omega
   obtain rfl : n = j := by omega
   have HLK : Hid (∀ i, i < n -> L[i]? = some ((-9 : Int), (-9 : Int))) := hLm
   have HMK : Hid (∀ i, i < n + 1 -> (L ++ [((-9 : Int), (-9 : Int))])[i]? = some ((-9 : Int), (-9 : Int))) := fun i hi => by
    by_cases e : i < n
    ·rw [List.getElem?_append_left (by omega)]; exact hLm i e
    ·rw [List.getElem?_append_right (by omega), show i - L.length = 0 by omega]; rfl
   clear hLm hLn
   rcases HA5.O.2 with ⟨hnil, hn0⟩ | ⟨ga, cap, cur, hv, hgw, hgg, hnc, hcm, hcs, htk⟩
   ·have e9 : pa = none := by injection hnil
    subst e9
    clear ha5 hb5 hm5 hx5 hnil hn0
    go_wp2_with (at_builtin; refine wpList_append_lies _ rfl (.tmp 70) (.tmp 72) 22 rfl w.heap.size 31 tS _ 2 16 Tryz.underlying22 hti hzz0 hzz1 hzz2 rfl (by decide) (.slice none n ca) n (bz L) rfl (HA5.O.alloc _) ⟨wr.heap.size, 0, none⟩ 1 1 [.int .i64 (-9), .int .i64 (-9)] rfl rfl (bu _ _ _) (by simp [Value.oneCell']) (by decide) (by unfold maxLen; omega) (by omega) (by simp; omega) (wr.heap.size + 1) (by simp) ?_)
    intro go co w6 ho6 hgrow hat hlt
    rw [<- dL L (-9, -9)] at ho6
    have ha6 := cC (HA5.O.alloc (.cells #[.int .i64 (-9), .int .i64 (-9)] 31)) hgrow (fun g h => by cases h)
    have hb6 := cC (HB5.O.alloc (.cells #[.int .i64 (-9), .int .i64 (-9)] 31)) hgrow (fun g h => by intro e; cases e)
    have hm6 := BK.grown (BK.alloc HM5.O (.cells #[.int .i64 (-9), .int .i64 (-9)] 31)) hgrow (by intro e; cases e)
    have hx6 : Ex [] w w6 := Ex.grown (X5.O.alloc _) hgrow (fun y hy => by cases hy)
    clear hgrow hat hlt m0 m1 hml
    have HO6 := aa ho6
    have HA6 := aa ha6
    have HB6 := aa hb6
    have HM6 := aa hm6
    have X6 := aa hx6
    have KM2 := aa (HMP.O w6 x' ((X6.O.cell0.1 _ _ herr).trans HEV.O) (jT HTB.O X6.O))
    clear ho6 ha6 hb6 hm6 hx6
    go_wp2_with fail
    refine KM2.O.mono ?_
    rintro e w7 ⟨vc, rfl, hc7, hx7⟩
    have hb7 := aE HB6.O hx7 (by simp)
    rw [<- HNL.O] at hc7
    obtain ⟨pc7, cc7, rfl⟩ := aw hc7
    have KS2 := aa (dQ HNL.O.symm (by omega) hc7 hb7)
    have X7 := aa hx7
    clear hx7 hc7 hb7 KM2
    go_wp2_with fail
    refine KS2.O.mono ?_
    rintro e w8 ⟨rfl, hx8⟩
    have X8 := aa (X7.O.trans hx8)
    clear hx8 KS2
    go_wp2_with fail
    go_loopg [13, 21] (n + 1) (fun gk v13 v21 wr => ∃ j : Nat, j + gk = n + 1 /\ v13 = .bool true /\ v21 = .int .i64 (j : Int) /\ Ex [] w6 wr)
    case atStart => exact ⟨0, by omega, rfl, rfl, X8.O⟩
    case round =>
     obtain ⟨j, hj, rfl, rfl, hx⟩ := hrel
     have HX := aa hx
     cases gk with
     |zero =>
      have hjl : ¬ (j : Int) < (n : Int) + 1 := by omega
      clear hx
      go_wp2_with fail
      go_ret
      first | exact ⟨rfl, X6.O.trans HX.O⟩ | exact X6.O.trans HX.O
     |succ gk =>
      have hjl : (j : Int) < (n : Int) + 1 := by omega
      have ho9 := aE HO6.O hx (by simp)
      have hm9 := HM6.O.ex hx (by simp)
      have m0 : wr.cell? ⟨bm, 0, none⟩ = some (.int .i64 (-9)) := hm9.all.1 0
      have m1 : wr.cell? ⟨bm, 1, none⟩ = some (.int .i64 (-9)) := hm9.all.1 1
      have hml := hm9.lt
      obtain ⟨o0, o1⟩ := eY ho9 (HMK.O j (by omega)) (by omega)
      dsimp only at o0 o1
      have hgo := (ho9.lt go rfl).2
      by_cases hjn : j < n
      ·have hq : decide ((n : Int) <= (j : Int)) = false := decide_eq_false (by omega)
       have hqn : decide (n <= j) = false := decide_eq_false (by omega)
       have hji : (j : Int) < (n : Int) := by omega
       have ha9 := aE HA6.O hx (by simp)
       obtain ⟨ga9, ca9, e1, _⟩ := bW ha9 (by omega)
       cases e1
      ·have hq : decide ((n : Int) <= (j : Int)) = true := decide_eq_true (by omega)
       have hqn : decide (n <= j) = true := decide_eq_true (by omega)
       clear hx ho9 hm9
       go_wp2_with fail
       go_quiet (fail)
       go_wp2_with fail
       go_roundg gk
       case measure => omega
       case rel => exact ⟨j + 1, by omega, rfl, by simp, HX.O.drewN _⟩
   ·cases hv
    obtain ⟨hcells, hfzs⟩ := BK.all (show BK wr ga (.cells cur 31 (0, 0)) from hgg)
    have hg1 := HAN.O ga rfl
    have hcell : Hid (∀ (q : Nat) u, (bz L)[q]? = some u -> (wr.alloc (.cells #[.int .i64 (-9), .int .i64 (-9)] 31)).cell? ⟨ga, 0 + q, none⟩ = some u) := fun q u hq => by
     have hql := (List.getElem?_eq_some_iff.1 hq).1
     have h9 := (HA5.O.alloc (.cells #[.int .i64 (-9), .int .i64 (-9)] 31)).cellAt q (by rw [HA5.O.1] at hql; exact hql)
     rw [Nat.zero_add]
     exact h9.trans hq
    have hspare : Hid (n + 1 <= ca -> ∀ q, q < 2 -> ((wr.alloc (.cells #[.int .i64 (-9), .int .i64 (-9)] 31)).cell? ⟨ga, 0 + n * 2 + q, none⟩).isSome = true /\ (wr.alloc (.cells #[.int .i64 (-9), .int .i64 (-9)] 31)).frozen? ⟨ga, 0 + n * 2 + q, none⟩ = false) := fun hr q hq => by
     have hbk := BK.all (BK.alloc (show BK wr ga (.cells cur 31 (0, 0)) from hgg) (.cells #[.int .i64 (-9), .int .i64 (-9)] 31))
     refine ⟨?_, hbk.2 _⟩
     rw [hbk.1, Array.getElem?_eq_getElem (by rw [hcs]; omega)]
     rfl
    have HGG : Hid (BK wr ga (.cells cur 31 (0, 0))) := hgg
    have HCS := aa hcs
    have HTK := aa htk
    have HLEN := aa HA5.O.1
    clear ha5 hb5 hm5 hx5 hgg hcs htk hcells hfzs
    go_wp2_with (at_builtin; refine wpList_append_arg _ rfl (.tmp 70) (.tmp 72) 22 rfl 31 tS _ 2 16 Tryz.underlying22 hti hzz0 hzz1 hzz2 rfl (by decide) ga 0 n ca (bz L) rfl HLEN.O hcell.O ⟨wr.heap.size, 0, none⟩ 1 1 [.int .i64 (-9), .int .i64 (-9)] rfl rfl (bu _ _ _) (by simp [Value.oneCell']) hspare.O (by unfold maxLen; omega) (by omega) ?_ ?_)
    ·intro hroom
     generalize hw6 : World.setCells _ _ _ _ = w6
     replace hw6 : ((wr.alloc (.cells #[.int .i64 (-9), .int .i64 (-9)] 31)).setCell ⟨ga, n * 2, none⟩ (.int .i64 (-9))).setCell ⟨ga, n * 2 + 1, none⟩ (.int .i64 (-9)) = w6 := by first | (rw [<- hw6]; rfl) | (rw [<- hw6, Nat.zero_add]; rfl)
     have hbk6 := ((BK.alloc HGG.O (.cells #[.int .i64 (-9), .int .i64 (-9)] 31)).self (n * 2) (.int .i64 (-9))).self (n * 2 + 1) (.int .i64 (-9))
     have hown := HA5.O.alloc (.cells #[.int .i64 (-9), .int .i64 (-9)] 31)
     have ha6 := dZ (dZ hown (n * 2) (.int .i64 (-9))) (n * 2 + 1) (.int .i64 (-9))
     rw [List.set_eq_of_length_le (by rw [List.length_set, HLEN.O]; omega), List.set_eq_of_length_le (by rw [HLEN.O]; exact Nat.le_refl _)] at ha6
     have hb6 := aF (HB5.O.alloc (.cells #[.int .i64 (-9), .int .i64 (-9)] 31)) (w' := ((wr.alloc (.cells #[.int .i64 (-9), .int .i64 (-9)] 31)).setCell ⟨ga, n * 2, none⟩ (.int .i64 (-9))).setCell ⟨ga, n * 2 + 1, none⟩ (.int .i64 (-9))) (fun g hg => (Below.heap_setCell _ _ _ _ (fun e => by have h9 := (HB5.O.lt g hg).1; have e : g = ga := e; omega)).trans (Below.heap_setCell _ _ _ _ (fun e => by have h9 := (HB5.O.lt g hg).1; have e : g = ga := e; omega)))
     have hm6 := ((BK.alloc HM5.O (.cells #[.int .i64 (-9), .int .i64 (-9)] 31)).set (p := ⟨ga, n * 2, none⟩) (fun e => by have e : bm = ga := e; omega) (.int .i64 (-9))).set (p := ⟨ga, n * 2 + 1, none⟩) (fun e => by have e : bm = ga := e; omega) (.int .i64 (-9))
     have hx6 := ((X5.O.alloc (.cells #[.int .i64 (-9), .int .i64 (-9)] 31)).setCell (p := ⟨ga, n * 2, none⟩) (.inr hgw) (.int .i64 (-9))).setCell (p := ⟨ga, n * 2 + 1, none⟩) (.inr hgw) (.int .i64 (-9))
     rw [hw6] at hbk6 ha6 hb6 hm6 hx6
     have ho6 : w6.ownsRow w.heap.size 31 2 (.slice (some ⟨ga, 0, none⟩) (n + 1) ca) (n + 1) (bz (L ++ [((-9 : Int), (-9 : Int))])) := by
      refine ⟨by rw [dL, List.length_append, HLEN.O]; simp; omega, .inr ⟨ga, ca, _, rfl, hgw, hbk6, hroom, hcm, by simp [HCS.O], ?_⟩⟩
      rw [dL, Array.toList_setIfInBounds, Array.toList_setIfInBounds, show (n + 1) * 2 = n * 2 + 2 by omega, vO _ _ _ _ (by rw [Array.length_toList, HCS.O]; omega), HTK.O]
     obtain ⟨go, hgo⟩ := exq (ga)
     rw [<- hgo] at ho6 ⊢
     clear hgo hw6 hbk6 hown m0 m1 hml hcell hspare
     have HO6 := aa ho6
     have HA6 := aa ha6
     have HB6 := aa hb6
     have HM6 := aa hm6
     have X6 := aa hx6
     have KM2 := aa (HMP.O w6 x' ((X6.O.cell0.1 _ _ herr).trans HEV.O) (jT HTB.O X6.O))
     clear ho6 ha6 hb6 hm6 hx6
     go_wp2_with fail
     refine KM2.O.mono ?_
     rintro e w7 ⟨vc, rfl, hc7, hx7⟩
     have hb7 := aE HB6.O hx7 (by simp)
     rw [<- HNL.O] at hc7
     obtain ⟨pc7, cc7, rfl⟩ := aw hc7
     have KS2 := aa (dQ HNL.O.symm (by omega) hc7 hb7)
     have X7 := aa hx7
     clear hx7 hc7 hb7 KM2
     go_wp2_with fail
     refine KS2.O.mono ?_
     rintro e w8 ⟨rfl, hx8⟩
     have X8 := aa (X7.O.trans hx8)
     clear hx8 KS2
     go_wp2_with fail
     go_loopg [13, 21] (n + 1) (fun gk v13 v21 wr => ∃ j : Nat, j + gk = n + 1 /\ v13 = .bool true /\ v21 = .int .i64 (j : Int) /\ Ex [] w6 wr)
     case atStart => exact ⟨0, by omega, rfl, rfl, X8.O⟩
     case round =>
      obtain ⟨j, hj, rfl, rfl, hx⟩ := hrel
      have HX := aa hx
      cases gk with
      |zero =>
       have hjl : ¬ (j : Int) < (n : Int) + 1 := by omega
       clear hx
       go_wp2_with fail
       go_ret
       first | exact ⟨rfl, X6.O.trans HX.O⟩ | exact X6.O.trans HX.O
      |succ gk =>
       have hjl : (j : Int) < (n : Int) + 1 := by omega
       have ho9 := aE HO6.O hx (by simp)
       have hm9 := HM6.O.ex hx (by simp)
       have m0 : wr.cell? ⟨bm, 0, none⟩ = some (.int .i64 (-9)) := hm9.all.1 0
       have m1 : wr.cell? ⟨bm, 1, none⟩ = some (.int .i64 (-9)) := hm9.all.1 1
       have hml := hm9.lt
       obtain ⟨o0, o1⟩ := eY ho9 (HMK.O j (by omega)) (by omega)
       dsimp only at o0 o1
       have hgo := (ho9.lt go rfl).2
       by_cases hjn : j < n
       ·have hq : decide ((n : Int) <= (j : Int)) = false := decide_eq_false (by omega)
        have hqn : decide (n <= j) = false := decide_eq_false (by omega)
        have hji : (j : Int) < (n : Int) := by omega
        have ha9 := aE HA6.O hx (by simp)
        obtain ⟨ga9, ca9, e1, _⟩ := bW ha9 (by omega)
        cases e1
        obtain ⟨a0, a1⟩ := eY ha9 (HLK.O j (by omega)) (by omega)
        dsimp only at a0 a1
        have hga := (ha9.lt ga rfl).2
        clear hx ho9 hm9 ha9
        go_wp2_with fail
        go_quiet (fail)
        go_wp2_with fail
        go_roundg gk
        case measure => omega
        case rel => exact ⟨j + 1, by omega, rfl, by simp, HX.O.drewN _⟩
       ·have hq : decide ((n : Int) <= (j : Int)) = true := decide_eq_true (by omega)
        have hqn : decide (n <= j) = true := decide_eq_true (by omega)
        clear hx ho9 hm9
        go_wp2_with fail
        go_quiet (fail)
        go_wp2_with fail
        go_roundg gk
        case measure => omega
        case rel => exact ⟨j + 1, by omega, rfl, by simp, HX.O.drewN _⟩
    ·intro hgrw v' w6 ho6 hgrow
     obtain ⟨go, co, rfl, _⟩ := bW ho6 (by omega)
     rw [<- dL L (-9, -9)] at ho6
     have ha6 := cC (HA5.O.alloc (.cells #[.int .i64 (-9), .int .i64 (-9)] 31)) hgrow (fun g h => by intro e; cases e)
     have hb6 := cC (HB5.O.alloc (.cells #[.int .i64 (-9), .int .i64 (-9)] 31)) hgrow (fun g h => by intro e; cases e)
     have hm6 := BK.grown (BK.alloc HM5.O (.cells #[.int .i64 (-9), .int .i64 (-9)] 31)) hgrow (by intro e; cases e)
     have hx6 : Ex [] w w6 := Ex.grown (X5.O.alloc _) hgrow (fun y hy => by cases hy)
     clear hgrow m0 m1 hml hcell hspare
     have HO6 := aa ho6
     have HA6 := aa ha6
     have HB6 := aa hb6
     have HM6 := aa hm6
     have X6 := aa hx6
     have KM2 := aa (HMP.O w6 x' ((X6.O.cell0.1 _ _ herr).trans HEV.O) (jT HTB.O X6.O))
     clear ho6 ha6 hb6 hm6 hx6
     go_wp2_with fail
     refine KM2.O.mono ?_
     rintro e w7 ⟨vc, rfl, hc7, hx7⟩
     have hb7 := aE HB6.O hx7 (by simp)
     rw [<- HNL.O] at hc7
     obtain ⟨pc7, cc7, rfl⟩ := aw hc7
     have KS2 := aa (dQ HNL.O.symm (by omega) hc7 hb7)
     have X7 := aa hx7
     clear hx7 hc7 hb7 KM2
     go_wp2_with fail
     refine KS2.O.mono ?_
     rintro e w8 ⟨rfl, hx8⟩
     have X8 := aa (X7.O.trans hx8)
     clear hx8 KS2
     go_wp2_with fail
     go_loopg [13, 21] (n + 1) (fun gk v13 v21 wr => ∃ j : Nat, j + gk = n + 1 /\ v13 = .bool true /\ v21 = .int .i64 (j : Int) /\ Ex [] w6 wr)
     case atStart => exact ⟨0, by omega, rfl, rfl, X8.O⟩
     case round =>
      obtain ⟨j, hj, rfl, rfl, hx⟩ := hrel
      have HX := aa hx
      cases gk with
      |zero =>
       have hjl : ¬ (j : Int) < (n : Int) + 1 := by omega
       clear hx
       go_wp2_with fail
       go_ret
       first | exact ⟨rfl, X6.O.trans HX.O⟩ | exact X6.O.trans HX.O
      |succ gk =>
       have hjl : (j : Int) < (n : Int) + 1 := by omega
       have ho9 := aE HO6.O hx (by simp)
       have hm9 := HM6.O.ex hx (by simp)
       have m0 : wr.cell? ⟨bm, 0, none⟩ = some (.int .i64 (-9)) := hm9.all.1 0
       have m1 : wr.cell? ⟨bm, 1, none⟩ = some (.int .i64 (-9)) := hm9.all.1 1
       have hml := hm9.lt
       obtain ⟨o0, o1⟩ := eY ho9 (HMK.O j (by omega)) (by omega)
       dsimp only at o0 o1
       have hgo := (ho9.lt go rfl).2
       by_cases hjn : j < n
       ·have hq : decide ((n : Int) <= (j : Int)) = false := decide_eq_false (by omega)
        have hqn : decide (n <= j) = false := decide_eq_false (by omega)
        have hji : (j : Int) < (n : Int) := by omega
        have ha9 := aE HA6.O hx (by simp)
        obtain ⟨ga9, ca9, e1, _⟩ := bW ha9 (by omega)
        cases e1
        obtain ⟨a0, a1⟩ := eY ha9 (HLK.O j (by omega)) (by omega)
        dsimp only at a0 a1
        have hga := (ha9.lt ga rfl).2
        clear hx ho9 hm9 ha9
        go_wp2_with fail
        go_quiet (fail)
        go_wp2_with fail
        go_roundg gk
        case measure => omega
        case rel => exact ⟨j + 1, by omega, rfl, by simp, HX.O.drewN _⟩
       ·have hq : decide ((n : Int) <= (j : Int)) = true := decide_eq_true (by omega)
        have hqn : decide (n <= j) = true := decide_eq_true (by omega)
        clear hx ho9 hm9
        go_wp2_with fail
        go_quiet (fail)
        go_wp2_with fail
        go_roundg gk
        case measure => omega
        case rel => exact ⟨j + 1, by omega, rfl, by simp, HX.O.drewN _⟩
end Go.Proofs.YtfnanjbleifjkaaGreatDoor.G
namespace Go.Proofs.YtfnanjbleifjkaaGreatDoor
open Go.RowKit
theorem uV {H : Type} {enc : TypeId × Value -> H} {P : Program} {w : World} {base : Nat} {sp : Nat -> Bool} {held : Bool} {fuel : Nat} {t : TypeId} {cs : List Value} {n : String} {d : DataW H} {p : List MemPlace} (ht : ∃ ms, P.underlying t = some (.interface ms))
  (h : DataW.trod enc P w base sp held fuel t cs = some (.iface n d, p)) : ∃ u v, cs = [.iface u v] := by
 obtain ⟨ms, ht⟩ := ht
 cases fuel with
 |zero => simp [DataW.trod] at h
 |succ fuel =>
  unfold DataW.trod at h
  rw [ht] at h
  split at h <;> first | cases h | (rename_i heq; exact ⟨_, _, rfl⟩) | simp_all
theorem pC {W : World} (h : Lib.VarReads Tryz.prog W "retag/regex.errForm" Rows.laid_retag_regex_errForm) : ∃ x : G.EV, W.cell? ⟨0, 0, none⟩ = some (.iface x.1 x.2) := by
 obtain ⟨g, t, cs, fuel, p, hg, hty, hvar, hd⟩ := h
 obtain rfl : g = 0 := (Option.some.inj ((show Tryz.prog.globalNamed "retag/regex.errForm" = some 0 by kernel_rfl).symm.trans hg)).symm
 obtain rfl : t = 144 := (Option.some.inj ((show (Tryz.prog.globals[0]?).map (·.type) = some 144 by kernel_rfl).symm.trans hty)).symm
 obtain ⟨u, v, hcs⟩ := uV ⟨_, Tryz.underlying144⟩ hd
 refine ⟨(u, v), ?_⟩
 rw [World.var?_cell hg hvar 0, <- Array.getElem?_toList, hcs]
 rfl
end Go.Proofs.YtfnanjbleifjkaaGreatDoor
namespace Go.Proofs.YtfnanjbleifjkaaGreatDoor.G
open Go.RowKit
end Go.Proofs.YtfnanjbleifjkaaGreatDoor.G
namespace Go.Proofs.YtfnanjbleifjkaaGreatDoor
open Go.ChangeShapes Go.WideShapes Go.ChangeAt Go.ChangeMaps Go.RowKit
theorem uX : Rows.laid_unicode_utf8_first = Lib.firstData := by kernel_rfl
theorem tm : (Rows.laid_unicode_utf8_acceptRanges : DataW Unit) = Lib.acceptData := by kernel_rfl
theorem o8 {W : World} (h1 : Lib.VarReads Tryz.prog W "unicode/utf8.first" Rows.laid_unicode_utf8_first) (h2 : Lib.VarReads Tryz.prog W "unicode/utf8.acceptRanges" Rows.laid_unicode_utf8_acceptRanges) : Lib.Utf8Tabs 2 3 W := by
 rw [tm] at h2
 rw [uX] at h1
 exact utf8Tabs_of_reads Tryz.lays260 ⟨by kernel_rfl, by kernel_rfl, by kernel_rfl, by kernel_rfl, by kernel_rfl, by kernel_rfl, by kernel_rfl⟩ h1 h2
end Go.Proofs.YtfnanjbleifjkaaGreatDoor
