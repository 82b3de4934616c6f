import Derived.Test.YtfnanjbleifjkaaGreatDoorM14
set_option linter.unusedVariables false
set_option linter.unusedSimpArgs false
set_option maxHeartbeats 1000000
set_option maxRecDepth 100000
namespace Go.Proofs.YtfnanjbleifjkaaGreatDoor.G
variable {w w' : World} {b base : Nat} {l : List Ins}
open Go.RowKit
theorem BG.parts (h : BG w b base l) (hl : 0 < l.length) : ∃ g c, BK w b (.cells #[.slice (some ⟨g, 0, none⟩) l.length c] 187 (0, 0)) /\ w.ownsRow base 192 7 (.slice (some ⟨g, 0, none⟩) l.length c) l.length (bO l) /\ l.length <= c /\ base <= g /\ g < w.heap.size /\ (∀ o, w.frozen? ⟨g, o, none⟩ = false) /\ ∀ o v, (bO l)[o]? = some v -> w.cell? ⟨g, o, none⟩ = some v := by
 obtain ⟨v, hb, ho⟩ := h.ex
 rcases ho.2 with ⟨_, hn⟩ | ⟨g, cap, cur, rfl, hg, hgg, hnc, hcm, hcs, htake⟩
 ·omega
 ·refine ⟨g, cap, hb, ho, hnc, hg, BK.lt hgg, (BK.all hgg).2, fun o v hv => ?_⟩
  rw [(BK.all hgg).1, <- Array.getElem?_toList]
  rw [<- htake, List.getElem?_take] at hv
  split at hv
  ·exact hv
  ·cases hv
theorem BG.way {g c k : Nat} (hb : BK w b (.cells #[.slice (some ⟨g, 0, none⟩) l.length c] 187 (0, 0))) (ho : w.ownsRow base 192 7 (.slice (some ⟨g, 0, none⟩) l.length c) l.length (bO l)) (h1 : b < base) (h2 : base <= w.heap.size) (hg : base <= g) (s : Bool) (n : Nat) (hk : k < l.length) :
  BG (w.setCell ⟨g, k * 7 + (4 + s.toNat), none⟩ (.int .i64 n)) b base (eO l k s n) := by
 refine ⟨h1, by simpa [World.setCell] using h2, _, BK.set hb (show b ≠ g by omega) _, ?_⟩
 have := xc ho s n hk
 rw [em]
 exact this
theorem jq (z : Bool) {k : Nat} (hd : BG w b base l) (hk : k < l.length) (hn : l.length <= 100000) :
  Calls Tryz.prog 180 #[.pointer (some ⟨b, 0, none⟩), .int .i64 k, .bool z] w fun e w' => e = .returned (.tuple #[]) /\ BG w' b base (eO l k (!z) l.length) /\ BF base b w w' := by
 obtain ⟨g, c, hb, ho, hnc, hg, hgl, hfz, hcell⟩ := hd.parts (by omega)
 have hbb := hd.lt
 have hbw := hd.le
 obtain ⟨i, hi⟩ : ∃ i, l[k]? = some i := ⟨l[k], by simp [hk]⟩
 have hc4 := hcell (k * 7 + 4) _ (by rw [dE l k 4 i hi (by omega)]; rfl)
 have hc5 := hcell (k * 7 + 5) _ (by rw [dE l k 5 i hi (by omega)]; rfl)
 have hf4 := hfz (k * 7 + 4)
 have hf5 := hfz (k * 7 + 5)
 have hbl := hb.lt
 have hb0 : w.cell? ⟨b, 0, none⟩ = some (.slice (some ⟨g, 0, none⟩) l.length c) := hb.all.1 0
 have HB := aa hb
 have HO := aa ho
 have hk' : (k : Int) < (l.length : Int) := by omega
 obtain ⟨n, hnl⟩ := exq (l.length)
 have HNL := aa hnl
 have HI := aa hi
 rw [<- hnl] at hk hk' hb0 hnc hn ⊢
 clear hb ho hd hcell hfz hnl hi
 cases z
 ·go_enter Tryz.func180, Tryz.ntmps180
  go_region_with (first
   |(go_at_call 217; refine (fP false _).mono ?_; rintro e w4 ⟨rfl, rfl⟩))
  all_goals
   go_end0
   refine ⟨rfl, ?_, ?_⟩
   ·have h := BG.way (w := w.drew) HB.O.drew HO.O.drew hbb hbw hg true n (k := k) (by rw [<- HNL.O]; exact hk)
    exact h
   ·refine BF.setCell (p := ⟨g, k * 7 + 5, none⟩) ((BF.refl _ _ _).drew) (.inr (.inr ⟨hg, (ip (World.ownsRow.drew HO.O) g rfl).2⟩)) _
 ·go_enter Tryz.func180, Tryz.ntmps180
  go_region_with (first
   |(go_at_call 217; refine (fP true _).mono ?_; rintro e w4 ⟨rfl, rfl⟩))
  all_goals
   go_end0
   refine ⟨rfl, ?_, ?_⟩
   ·have h := BG.way (w := w.drew) HB.O.drew HO.O.drew hbb hbw hg false n (k := k) (by rw [<- HNL.O]; exact hk)
    exact h
   ·refine BF.setCell (p := ⟨g, k * 7 + 4, none⟩) ((BF.refl _ _ _).drew) (.inr (.inr ⟨hg, (ip (World.ownsRow.drew HO.O) g rfl).2⟩)) _
def bare (op : Int) : Ins := ⟨op, 0, 0, false, 0, 0, 0⟩
theorem fZ (op : Int) (hd : BG w b base l) (hn : l.length <= 100000) :
  Calls Tryz.prog 89 #[.pointer (some ⟨b, 0, none⟩), .agg #[.int .i64 op, .int .u64 0, .int .u64 0, .bool false, .int .i64 0, .int .i64 0, .int .i64 0]] w fun e w' => e = .returned (.int .i64 l.length) /\ BG w' b base (l ++ [bare op]) /\ BF base b w w' := iI (bare op) hd hn
def df (z : Bool) (l : List Ins) : List Ins := eO (l ++ [bare 1]) l.length z (l.length + 1)
theorem bn (z : Bool) (l : List Ins) : (df z l).length = l.length + 1 := by simp [df, em]
theorem kx (z : Bool) (hd : BG w b base l) (hn : l.length <= 99999) :
  Calls Tryz.prog 179 #[.pointer (some ⟨b, 0, none⟩), .bool z] w fun e w' => e = .returned (.int .i64 l.length) /\ BG w' b base (df z l) /\ BF base b w w' := by
 have HD := aa hd
 have HP := aa (fun w (hd : BG w b base l) => fZ 1 hd (by omega))
 have hbb := hd.lt
 clear hd
 cases z
 ·go_enter Tryz.func179, Tryz.ntmps179
  go_wp2_with fail
  refine (HP.O _ HD.O).mono ?_
  rintro e w1 ⟨rfl, hd1, hx1⟩
  have HX1 := aa hx1
  obtain ⟨g, c, hb, ho, hnc, hg, hgl, hfz, hcell⟩ := hd1.parts (by simp)
  have hbw := hd1.le
  have hi : (l ++ [bare 1])[l.length]? = some (bare 1) := by simp
  have hc4 := hcell (l.length * 7 + 4) _ (by rw [dE (l ++ [bare 1]) l.length 4 (bare 1) hi (by omega)]; rfl)
  have hf4 := hfz (l.length * 7 + 4)
  have hbl := hb.lt
  have hb0 : w1.cell? ⟨b, 0, none⟩ = some (.slice (some ⟨g, 0, none⟩) (l.length + 1) c) := by have := hb.all.1 0; simpa using this
  have HB := aa hb
  have HO := aa ho
  have hnc' : l.length + 1 <= c := by simpa using hnc
  obtain ⟨n, hnl⟩ := exq (l.length)
  have HNL := aa hnl
  rw [<- hnl] at hb0 hnc' hc4 hf4 hn ⊢
  clear hb ho hd1 hcell hfz hnl hi hx1 hnc
  go_wp2_with fail
  go_region_with (first
   |(go_at_call 217; refine (fP false _).mono ?_; rintro e w4 ⟨rfl, rfl⟩))
  all_goals
   go_wp2_with fail
   go_ret
   refine ⟨by rw [<- HNL.O]; rfl, ?_, ?_⟩
   ·have h := BG.way (w := w1.drew) HB.O.drew HO.O.drew hbb hbw hg false (n + 1) (k := n) (by simp [HNL.O])
    unfold df
    rw [<- HNL.O]
    exact h
   ·exact HX1.O.trans (BF.setCell (p := ⟨g, n * 7 + 4, none⟩) ((BF.refl _ _ _).drew) (.inr (.inr ⟨hg, (ip (World.ownsRow.drew HO.O) g rfl).2⟩)) _)
 ·go_enter Tryz.func179, Tryz.ntmps179
  go_wp2_with fail
  refine (HP.O _ HD.O).mono ?_
  rintro e w1 ⟨rfl, hd1, hx1⟩
  have HX1 := aa hx1
  obtain ⟨g, c, hb, ho, hnc, hg, hgl, hfz, hcell⟩ := hd1.parts (by simp)
  have hbw := hd1.le
  have hi : (l ++ [bare 1])[l.length]? = some (bare 1) := by simp
  have hc4 := hcell (l.length * 7 + 5) _ (by rw [dE (l ++ [bare 1]) l.length 5 (bare 1) hi (by omega)]; rfl)
  have hf4 := hfz (l.length * 7 + 5)
  have hbl := hb.lt
  have hb0 : w1.cell? ⟨b, 0, none⟩ = some (.slice (some ⟨g, 0, none⟩) (l.length + 1) c) := by have := hb.all.1 0; simpa using this
  have HB := aa hb
  have HO := aa ho
  have hnc' : l.length + 1 <= c := by simpa using hnc
  obtain ⟨n, hnl⟩ := exq (l.length)
  have HNL := aa hnl
  rw [<- hnl] at hb0 hnc' hc4 hf4 hn ⊢
  clear hb ho hd1 hcell hfz hnl hi hx1 hnc
  go_wp2_with fail
  go_region_with (first
   |(go_at_call 217; refine (fP true _).mono ?_; rintro e w4 ⟨rfl, rfl⟩))
  all_goals
   go_wp2_with fail
   go_ret
   refine ⟨by rw [<- HNL.O]; rfl, ?_, ?_⟩
   ·have h := BG.way (w := w1.drew) HB.O.drew HO.O.drew hbb hbw hg true (n + 1) (k := n) (by simp [HNL.O])
    unfold df
    rw [<- HNL.O]
    exact h
   ·exact HX1.O.trans (BF.setCell (p := ⟨g, n * 7 + 5, none⟩) ((BF.refl _ _ _).drew) (.inr (.inr ⟨hg, (ip (World.ownsRow.drew HO.O) g rfl).2⟩)) _)
def db (z : Bool) (k : Nat) (l : List Ins) : List Ins := eO l k (!z) l.length
theorem fE (z : Bool) (k : Nat) (l : List Ins) : (db z k l).length = l.length := em _ _ _ _
def hH (k : Nat) (l : List Ins) : List Ins := eO l k false l.length
def fI {α : Type} (f : α -> α) : Nat -> α -> α
 | 0, x => x
 |n + 1, x => fI f n (f x)
def dc (f : List Ins -> List Ins) (z : Bool) : Nat -> List Nat -> List Ins -> List Nat × List Ins
 | 0, ks, l => (ks, l)
 |n + 1, ks, l => dc f z n (ks ++ [l.length]) (f (df z l))
def eD (k : Nat) : Ins := ⟨2, 0, 0, false, (k : Int), 0, 0⟩
def pI (f : List Ins -> List Ins) (z : Bool) (l : List Ins) : List Ins :=
 db z l.length (f (df z l ++ [bare 4]) ++ [bare 5] ++ [eD l.length])
def ic (k : Nat) : Ins := ⟨3, 0, 0, false, 0, 0, (k : Int)⟩
def more (le : Nat) (mo : Int) : Nat := (mo - le).toNat
mutual
def be : Pt -> List Ins -> List Ins
 |.single c, l => l ++ [⟨0, c.lo, c.hi, c.hg, 0, 0, 0⟩]
 |.seq ps, l => dV ps l
 |.alt ps, l => let r := dz ps [] l; r.1.foldl (fun l k => hH k l) r.2
 |.wrap p g, l => if g = 0 then be p l else be p (l ++ [ic (2 * (g - 1))]) ++ [ic (2 * (g - 1) + 1)]
 |.count p le mo z, l =>
  if mo = -1 then pI (be p) z (fI (be p) le l)
  else let r := dc (be p) z (more le mo) [] (fI (be p) le l); r.1.foldl (fun l k => db z k l) r.2
def dV : List Pt -> List Ins -> List Ins
 | [], l => l
 |p :: ps, l => dV ps (be p l)
def dz : List Pt -> List Nat -> List Ins -> List Nat × List Ins
 | [], js, l => (js, l)
 | [p], js, l => (js, be p l)
 |p :: q :: ps, js, l => let l1 := be p (df false l); dz (q :: ps) (js ++ [l1.length]) (db false l.length (l1 ++ [bare 2]))
end
mutual
def isz : Pt -> Nat
 |.single _ => 1
 |.seq ps => b5 ps
 |.alt ps => b5 ps + 2 * (ps.length - 1)
 |.wrap p g => if g = 0 then isz p else isz p + 2
 |.count p le mo _ => if mo = -1 then isz p * le + (isz p + 4) else isz p * le + (isz p + 1) * more le mo
def b5 : List Pt -> Nat
 | [] => 0
 |p :: ps => isz p + b5 ps
end
theorem gC (f : List Ins -> List Ins) (s : Nat) (hf : ∀ l, (f l).length = l.length + s) : ∀ n l, (fI f n l).length = l.length + s * n
 | 0, l => by simp [fI]
 |n + 1, l => by rw [fI, gC f s hf n, hf, Nat.mul_succ]; omega
theorem jB (f : List Ins -> List Ins) (z : Bool) (s : Nat) (hf : ∀ l, (f l).length = l.length + s) : ∀ n ks l, (dc f z n ks l).2.length = l.length + (s + 1) * n /\ (dc f z n ks l).1.length = ks.length + n
 | 0, ks, l => by simp [dc]
 |n + 1, ks, l => by
  have h := jB f z s hf n (ks ++ [l.length]) (f (df z l))
  rw [dc, h.1, h.2, hf, bn, Nat.mul_succ]
  simp
  omega
theorem dF (z : Bool) : ∀ (ks : List Nat) (l : List Ins), (ks.foldl (fun l k => db z k l) l).length = l.length
 | [], l => rfl
 |k :: ks, l => by rw [List.foldl_cons, dF z ks, fE]
theorem fa : ∀ (ks : List Nat) (l : List Ins), (ks.foldl (fun l k => hH k l) l).length = l.length
 | [], l => rfl
 |k :: ks, l => by rw [List.foldl_cons, fa ks]; exact em _ _ _ _
mutual
theorem aM : ∀ (p : Pt) (l : List Ins), (be p l).length = l.length + isz p
 |.single c, l => by simp [be, isz]
 |.seq ps, l => by rw [be, isz]; exact jx ps l
 |.alt ps, l => by
  rw [be, isz]
  simp only [fa]
  exact mH ps [] l
 |.wrap p g, l => by
  rw [be, isz]
  split
  ·exact aM p l
  ·rw [List.length_append, aM p]
   simp
   omega
 |.count p le mo z, l => by
  rw [be, isz]
  split
  ·rw [pI, fE]
   simp only [List.length_append, aM p, bn, gC _ _ (aM p)]
   simp
   omega
  ·simp only [dF]
   rw [(jB _ z _ (aM p) _ _ _).1, gC _ _ (aM p)]
   omega
theorem jx : ∀ (ps : List Pt) (l : List Ins), (dV ps l).length = l.length + b5 ps
 | [], l => by simp [dV, b5]
 |p :: ps, l => by rw [dV, jx ps, aM p, b5]; omega
theorem mH : ∀ (ps : List Pt) (js : List Nat) (l : List Ins), (dz ps js l).2.length = l.length + (b5 ps + 2 * (ps.length - 1))
 | [], js, l => by simp [dz, b5]
 | [p], js, l => by simp [dz, b5, aM p]
 |p :: q :: ps, js, l => by
  rw [dz]
  simp only [mH (q :: ps), fE, List.length_append, aM p, bn, b5]
  simp
  omega
end
def Pb (base b g : Nat) : Prop := g < base /\ g ≠ b
theorem PR.bf {q : Pt} {v : PV} (h : PR w (Pb base b) q v) (hx : BF base b w w') : PR w' (Pb base b) q v :=
 h.frame (fun _ h => h) hx.size (fun k hk hlt => hx.block k hlt hk.2 (.inl hk.1)) q v
theorem Row.bf {v : PV} {l : List Pt} (h : Row w (Pb base b) v l) (hx : BF base b w w') : Row w' (Pb base b) v l := by
 refine ⟨h.1, h.2.imp id ?_⟩
 rintro ⟨g, hp, hc, hg, hl, hr⟩
 exact ⟨g, hp, hc, hg, Nat.lt_of_lt_of_le hl hx.size, PRL.frame (fun _ h => h) hx.size (fun k hk hlt => hx.block k hlt hk.2 (.inl hk.1)) g hg hl l 0 hr⟩
def gU (q : Pt) : Prop := ∀ (v : PV) (w : World) (b base : Nat) (l : List Ins), BG w b base l -> PR w (Pb base b) q v -> WOK q -> l.length + isz q <= 99000 ->
 Calls Tryz.prog 88 #[.pointer (some ⟨b, 0, none⟩), v.val] w fun e w' => e = .returned (.tuple #[]) /\ BG w' b base (be q l) /\ BF base b w w'
theorem pk (c : Cls) : gU (.single c) := by
 intro v w b base l hd hp hw hn
 have h : v = _ := hp
 subst h
 have HD := aa hd
 have HPUT := aa (fun w (hd : BG w b base l) => iI ⟨0, c.lo, c.hi, c.hg, 0, 0, 0⟩ hd (by simp only [isz] at hn; omega))
 obtain ⟨lo, hi, hg⟩ := c
 clear hd hp hw
 unfold PV.val
 dsimp only
 go_enter Tryz.func88, Tryz.ntmps88
 go_wp2_with fail
 refine (HPUT.O _ (HD.O.alloc _)).mono ?_
 rintro e w1 ⟨rfl, hd1, hx1⟩
 have HD1 := aa hd1
 have HX1 := aa hx1
 clear hd1 hx1
 go_wp2_with fail
 go_end0
 exact ⟨rfl, HD1.O, ((BF.refl _ _ _).alloc _).trans HX1.O⟩
theorem qo (ps : List Pt) (j : Nat) (l : List Ins) (hj : j < ps.length) : dV (ps.take (j + 1)) l = be ps[j] (dV (ps.take j) l) := by
 induction ps generalizing j l with
 |nil => simp at hj
 |cons p ps ih =>
  cases j with
  |zero => simp [dV]
  |succ j =>
   simp only [List.take_succ_cons, dV, List.getElem_cons_succ]
   exact ih j (be p l) (by simpa using hj)
theorem jl (ps : List Pt) (j : Nat) (hj : j < ps.length) : b5 (ps.take j) + isz ps[j] <= b5 ps := by
 induction ps generalizing j with
 |nil => simp at hj
 |cons p ps ih =>
  cases j with
  |zero => simp [b5]
  |succ j =>
   have := ih j (by simpa using hj)
   simp only [List.take_succ_cons, b5, List.getElem_cons_succ]
   omega
theorem vj (ps : List Pt) (ih : ∀ p, p ∈ ps -> gU p) : gU (.seq ps) := by
 intro v w b base l hd hp hw hn
 obtain ⟨hrow, hkd⟩ := hp.row
 obtain ⟨p, n, c, rfl, hnl, hr⟩ := hp
 subst hnl
 have HD := aa hd
 have HR := aa (show Row w (Pb base b) _ ps from hrow)
 have HIH := aa ih
 have HW := aa hw.1
 have hlen := hw.2.2
 have HN := aa (show l.length + b5 ps <= 99000 by simpa only [isz] using hn)
 clear hd hrow hkd ih hw hr hn
 unfold PV.val
 dsimp only
 go_enter Tryz.func88, Tryz.ntmps88
 go_wp2_with fail
 go_loopg [20] ps.length (fun gk i wr => ∃ j : Nat, j + gk = ps.length /\ i = .int .i64 j /\ BG wr b base (dV (ps.take j) l) /\ BF base b w wr)
 case atStart => exact ⟨0, by omega, rfl, by simpa [dV] using HD.O.alloc _, (BF.refl _ _ _).alloc _⟩
 case round =>
  obtain ⟨j, hj, rfl, hd, hx⟩ := hrel
  have HX := aa hx
  have HDr := aa hd
  cases gk with
  |zero =>
   obtain rfl : j = ps.length := by omega
   clear hx hj hd
   go_wp2_with fail
   go_end0
   refine ⟨rfl, ?_, HX.O⟩
   have h1 := HDr.O
   rw [List.take_length] at h1
   rw [be]
   exact h1
  |succ g =>
   have hj' : ((j : Int) < (ps.length : Int)) := by omega
   obtain ⟨g1, u, hv, hnc, hB, hlt, hrange, hq⟩ := (HR.O.bf hx).at j (show j < ps.length by omega)
   simp only at hv
   subst hv
   have HQ := aa hq
   clear hx hd hq hB
   obtain ⟨kd', p', n', c', lo', hi', hg', gr', l', m', z'⟩ := u
   have k0 := hrange 0 _ rfl; have k1 := hrange 1 _ rfl; have k2 := hrange 2 _ rfl; have k3 := hrange 3 _ rfl; have k4 := hrange 4 _ rfl
   have k5 := hrange 5 _ rfl; have k6 := hrange 6 _ rfl; have k7 := hrange 7 _ rfl; have k8 := hrange 8 _ rfl
   simp only [Nat.add_zero] at k0
   clear hrange
   simp only at hnc
   go_wp2_with fail
   refine (HIH.O ps[j] (List.getElem_mem _) ⟨kd', p', n', c', lo', hi', hg', gr', l', m', z'⟩ _ b base _ (HDr.O.alloc _) (HQ.O.bf ((BF.refl _ _ _).alloc _)) (jh HW.O _ (List.getElem_mem _)) (by
    have h1 := jl ps j (by omega)
    have h2 := HN.O
    rw [jx]
    omega)).mono ?_
   rintro e w1 ⟨rfl, hd1, hx1⟩
   have HX1 := aa hx1
   have HD1 := aa hd1
   clear hx1 hd1 k0 k1 k2 k3 k4 k5 k6 k7 k8
   go_wp2_with fail
   go_roundg g
   case measure => omega
   case rel => exact ⟨j + 1, by omega, by simp, by rw [qo ps j l (by omega)]; exact HD1.O, (HX.O.alloc _).trans HX1.O⟩
theorem o7 (q : Pt) (k g : Nat) (u : PV) (w : World) (b base : Nat) (l : List Ins) (ih : gU q) (hk : k < 1000000) (hd : BG w b base l) (hB : Pb base b g) (hgl : g < w.heap.size) (hr : w.rangeAt g 0 u.cells) (hq : PR w (Pb base b) q u) (hw : WOK q) (hn : l.length + isz (.wrap q k) <= 99000) :
  Calls Tryz.prog 139 #[.pointer (some ⟨b, 0, none⟩), PV.val ⟨3, some ⟨g, 0, none⟩, 1, 1, 0, 0, false, (k : Int), 0, 0, false⟩] w fun e w' => e = .returned (.tuple #[]) /\ BG w' b base (be (.wrap q k) l) /\ BF base b w w' := by
 have HD := aa hd
 have HR := aa hr
 have HQ := aa hq
 have HIH := aa ih
 have HW := aa hw
 have HN := aa hn
 have hcl : ∀ w' : World, BF base b w w' -> w'.rangeAt g 0 u.cells := fun w' hx => bo hr (hx.block g hgl hB.2 (.inl hB.1))
 have HCL := aa hcl
 clear hd hr hq ih hw hn hcl
 obtain ⟨kd', p', n', c', lo', hi', hg', gr', l', m', z'⟩ := u
 unfold PV.val
 dsimp only
 by_cases h0 : k = 0
 ·subst h0
  have hr0 := HCL.O (w.alloc (Obj.cells #[.int .i64 3, .slice (some ⟨g, 0, none⟩) 1 1, .int .u64 0, .int .u64 0, .bool false, .int .i64 0, .int .i64 0, .int .i64 0, .bool false] 101)) ((BF.refl _ _ _).alloc _)
  have k0 := hr0 0 _ rfl; have k1 := hr0 1 _ rfl; have k2 := hr0 2 _ rfl; have k3 := hr0 3 _ rfl; have k4 := hr0 4 _ rfl
  have k5 := hr0 5 _ rfl; have k6 := hr0 6 _ rfl; have k7 := hr0 7 _ rfl; have k8 := hr0 8 _ rfl
  simp only [Nat.zero_add] at k0 k1 k2 k3 k4 k5 k6 k7 k8
  clear hr0
  go_enter Tryz.func139, Tryz.ntmps139
  go_wp2_with fail
  refine (HIH.O ⟨kd', p', n', c', lo', hi', hg', gr', l', m', z'⟩ _ b base l (HD.O.alloc _) (HQ.O.bf ((BF.refl _ _ _).alloc _)) HW.O (by have h := HN.O; simp only [isz, if_pos] at h; exact h)).mono ?_
  rintro e w1 ⟨rfl, hd1, hx1⟩
  have HX1 := aa hx1
  have HD1 := aa hd1
  clear hx1 hd1 k0 k1 k2 k3 k4 k5 k6 k7 k8
  go_wp2_with fail
  try simp only [Exit.inBlock, Exit.then]
  refine bodyPost_ret (results_none rfl _ _ _) rfl ?_
  exact ⟨rfl, by rw [be, if_pos rfl]; exact HD1.O, ((BF.refl _ _ _).alloc _).trans HX1.O⟩
 ·have hk0 : ¬ ((k : Int) = 0) := by omega
  have hN : l.length + isz q + 2 <= 99000 := by have h := HN.O; simp only [isz, if_neg h0] at h; omega
  obtain ⟨s, hs⟩ := exq (2 * (k - 1))
  have HS := aa hs
  have HPUT := aa (fun w (hd : BG w b base l) => iI (ic s) hd (by omega))
  have E1 := aa (show (2 * ((k : Int) - 1)) = (s : Int) by omega)
  have E2 := aa (show ((s : Int) + 1) = ((s + 1 : Nat) : Int) by omega)
  have hs1 : s < 2000000 := by omega
  clear hs
  go_enter Tryz.func139, Tryz.ntmps139
  go_wp2_with fail
  rw [E1.O]
  refine (HPUT.O _ (HD.O.alloc _)).mono ?_
  rintro e w1 ⟨rfl, hd1, hx1⟩
  have hA : BK w1 w.heap.size (.cells #[.int .i64 3, .slice (some ⟨g, 0, none⟩) 1 1, .int .u64 0, .int .u64 0, .bool false, .int .i64 k, .int .i64 0, .int .i64 0, .bool false] 101) := BK.bf (BK.new _ _) hx1 (by have := HD.O.lt; have := HD.O.le; omega) (by decide)
  obtain ⟨hcA, hfA⟩ := hA.all
  have HX1 := aa (((BF.refl base b w).alloc _).trans hx1)
  have HD1 := aa hd1
  have hr1 := HCL.O w1 HX1.O
  have k0 := hr1 0 _ rfl; have k1 := hr1 1 _ rfl; have k2 := hr1 2 _ rfl; have k3 := hr1 3 _ rfl; have k4 := hr1 4 _ rfl
  have k5 := hr1 5 _ rfl; have k6 := hr1 6 _ rfl; have k7 := hr1 7 _ rfl; have k8 := hr1 8 _ rfl
  simp only [Nat.zero_add] at k0 k1 k2 k3 k4 k5 k6 k7 k8
  clear hr1 hx1 hd1 hA
  go_wp2_with fail
  refine (HIH.O ⟨kd', p', n', c', lo', hi', hg', gr', l', m', z'⟩ _ b base _ HD1.O (HQ.O.bf HX1.O) HW.O (by simp; omega)).mono ?_
  rintro e w2 ⟨rfl, hd2, hx2⟩
  have HX2 := aa hx2
  have HD2 := aa hd2
  have HPUT2 := aa (iI (ic (s + 1)) hd2 (by rw [aM]; simp; omega))
  clear hx2 hd2 k0 k1 k2 k3 k4 k5 k6 k7 k8 hcA hfA
  go_wp2_with fail
  rw [E2.O]
  refine (show Calls _ _ _ _ _ from HPUT2.O).mono ?_
  rintro e w3 ⟨rfl, hd3, hx3⟩
  have HX3 := aa hx3
  have HD3 := aa hd3
  clear hx3 hd3
  go_wp2_with fail
  go_end0
  exact ⟨rfl, by rw [be, if_neg h0, <- HS.O]; exact HD3.O, (HX1.O.trans HX2.O).trans HX3.O⟩
theorem sU (q : Pt) (k : Nat) (ih : gU q) : gU (.wrap q k) := by
 intro v w b base l hd hp hw hn
 obtain ⟨g, rfl, hB, hgl, u, hr, hq⟩ := hp
 have KEY := aa (o7 q k g u _ b base l ih hw.2.2 (hd.alloc (Obj.cells #[.int .i64 3, .slice (some ⟨g, 0, none⟩) 1 1, .int .u64 0, .int .u64 0, .bool false, .int .i64 k, .int .i64 0, .int .i64 0, .bool false] 101)) hB (by simp; omega) (bo hr (((Ex.refl [] w).alloc _).block g hgl (by simp))) (hq.bf ((BF.refl _ _ _).alloc _)) hw.1 hn)
 clear hd hr hq hw hn ih
 unfold PV.val at KEY ⊢
 dsimp only at KEY ⊢
 go_enter Tryz.func88, Tryz.ntmps88
 go_wp2_with fail
 refine KEY.O.mono ?_
 rintro e w1 ⟨rfl, hd1, hx1⟩
 have HX1 := aa hx1
 have HD1 := aa hd1
 clear hx1 hd1
 go_wp2_with fail
 go_end0
 exact ⟨rfl, HD1.O, ((BF.refl _ _ _).alloc _).trans HX1.O⟩
theorem mB {α : Type} (f : α -> α) : ∀ (n : Nat) (x : α), fI f (n + 1) x = f (fI f n x)
 | 0, x => rfl
 |n + 1, x => by rw [fI, mB f n (f x)]; rfl
theorem pu (q : Pt) (z : Bool) (u : PV) (w : World) (b base : Nat) (l : List Ins) (ih : gU q) (hd : BG w b base l) (hq : PR w (Pb base b) q u) (hw : WOK q) (hn : l.length + isz q + 4 <= 99000) :
  Calls Tryz.prog 181 #[.pointer (some ⟨b, 0, none⟩), u.val, .bool z] w fun e w' => e = .returned (.tuple #[]) /\ BG w' b base (pI (be q) z l) /\ BF base b w w' := by
 have HD := aa hd
 have HQ := aa hq
 have HIH := aa ih
 have HW := aa hw
 have hbw : b < w.heap.size := Nat.lt_of_lt_of_le hd.lt hd.le
 have HFK := aa (fun w (hd : BG w b base l) => kx z hd (by omega))
 clear hd hq ih hw
 obtain ⟨kd', p', n', c', lo', hi', hg', gr', l', m', z'⟩ := u
 unfold PV.val
 dsimp only
 go_enter Tryz.func181, Tryz.ntmps181
 go_wp2_with fail
 refine (HFK.O _ (HD.O.alloc _)).mono ?_
 rintro e w1 ⟨rfl, hd1, hx1⟩
 have hA1 : BK w1 w.heap.size (.cells #[.int .i64 kd', .slice p' n' c', .int .u64 lo', .int .u64 hi', .bool hg', .int .i64 gr', .int .i64 l', .int .i64 m', .bool z'] 101) := BK.bf (BK.new _ _) hx1 (by omega) (by decide)
 have HA1 := aa hA1
 have HX1 := aa (((BF.refl base b w).alloc _).trans hx1)
 have HP2 := aa (fZ 4 hd1 (by rw [bn]; omega))
 clear hd1 hx1 hA1
 go_wp2_with fail
 refine HP2.O.mono ?_
 rintro e w2 ⟨rfl, hd2, hx2⟩
 have hA2 := BK.bf HA1.O hx2 (by omega) (by decide)
 have HA2 := aa hA2
 have HX2 := aa (HX1.O.trans hx2)
 have HP3 := aa (HIH.O ⟨kd', p', n', c', lo', hi', hg', gr', l', m', z'⟩ w2 b base _ hd2 (HQ.O.bf HX2.O) HW.O (by simp [bn]; omega))
 obtain ⟨hcA, hfA⟩ := hA2.all
 clear hd2 hx2 hA2
 go_wp2_with fail
 refine (show Calls _ _ _ _ _ from HP3.O).mono ?_
 rintro e w3 ⟨rfl, hd3, hx3⟩
 have HX3 := aa (HX2.O.trans hx3)
 have HP4 := aa (fZ 5 hd3 (by rw [aM]; simp [bn]; omega))
 clear hd3 hx3 hcA hfA
 go_wp2_with fail
 refine HP4.O.mono ?_
 rintro e w4 ⟨rfl, hd4, hx4⟩
 have HX4 := aa (HX3.O.trans hx4)
 have HP5 := aa (iI (eD l.length) hd4 (by simp [aM, bn]; omega))
 clear hd4 hx4
 go_wp2_with fail
 refine (show Calls _ _ _ _ _ from HP5.O).mono ?_
 rintro e w5 ⟨rfl, hd5, hx5⟩
 have HX5 := aa (HX4.O.trans hx5)
 have HP6 := aa (jq z (k := l.length) hd5 (by simp [aM, bn]; omega) (by simp [aM, bn]; omega))
 clear hd5 hx5
 go_wp2_with fail
 refine (show Calls _ _ _ _ _ from HP6.O).mono ?_
 rintro e w6 ⟨rfl, hd6, hx6⟩
 have HX6 := aa (HX5.O.trans hx6)
 have HD6 := aa hd6
 clear hd6 hx6
 go_wp2_with fail
 go_end0
 exact ⟨rfl, HD6.O, HX6.O⟩
def jQ (ks : List Nat) : List Value := ks.map fun (k : Nat) => Value.int .i64 (k : Int)
theorem b7 {hs n : Nat} {v : Value} {xs : List Value} (h : w.ownsRow hs 3 1 v n xs) (hx : BF base b w w') (hb : b < hs) : w'.ownsRow hs 3 1 v n xs := by
 refine ⟨h.1, ?_⟩
 rcases h.2 with hn | ⟨g, cap, cur, rfl, hg, hgg, rest⟩
 ·exact .inl hn
 ·exact .inr ⟨g, cap, cur, rfl, hg, BK.bf (e := 3) hgg hx (by omega) (by decide), rest⟩
theorem BG.grownNum {hs n : Nat} {v : Value} {xs : List Value} (hd : BG w b base l) (h : w.ownsRow hs 3 1 v n xs) (hg : w.grownBy w' v.ownBlock) (hb : b < hs) : BG w' b base l := by
 obtain ⟨u, hbk, ho⟩ := hd.ex
 have hint : ∀ k, v.ownBlock = some k -> hs <= k /\ ∃ cur, w.heap[k]? = some (.cells cur 3 (0, 0)) := by
  intro k hk
  rcases h.2 with ⟨rfl, _⟩ | ⟨g, cap, cur, rfl, hb', hgg, _⟩
  ·simp [Value.ownBlock] at hk
  ·simp [Value.ownBlock] at hk
   subst hk
   exact ⟨hb', cur, hgg⟩
 refine ⟨hd.lt, Nat.le_trans hd.le hg.size, u, BK.grown hbk hg (fun e => by have := (hint b e).1; omega), ho.1, ?_⟩
 rcases ho.2 with hn | ⟨g, cap, cur, rfl, hb', hgg, rest⟩
 ·exact .inl hn
 ·refine .inr ⟨g, cap, cur, rfl, hb', BK.grown hgg hg (fun e => ?_), rest⟩
  obtain ⟨_, cur', h1⟩ := hint g e
  rw [hgg] at h1
  cases h1
end Go.Proofs.YtfnanjbleifjkaaGreatDoor.G
