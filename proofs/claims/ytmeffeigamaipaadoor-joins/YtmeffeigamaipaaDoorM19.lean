/- K3 K4 K5 K6, one behind the other. -/
import Derived.Test.YtmeffeigamaipaaDoorM18
set_option linter.unusedVariables false
set_option linter.unusedSimpArgs false
/- A builder's splits: the walks. -/
namespace Go.Proofs.YtmeffeigamaipaaDoor.G
open Go.RowKit

theorem BG.parts {w : World} {b base : Nat} {l : List Ins} (h : BG w b base l) (hl : 0 < l.length) : ∃ g c, BK w b (.cells #[.slice (some ⟨g, 0, none⟩) l.length c] 93 (0, 0)) ∧ w.ownsRow base 98 7 (.slice (some ⟨g, 0, none⟩) l.length c) l.length (codeL l) ∧ l.length ≤ c ∧ base ≤ g ∧ g < w.heap.size ∧ (∀ o, w.frozen? ⟨g, o, none⟩ = false) ∧ ∀ o v, (codeL l)[o]? = some v → w.cell? ⟨g, o, none⟩ = some v := by
  obtain ⟨v, hb, ho⟩ := h.ex
  rcases ho.2 with ⟨_, hn⟩ | ⟨g, cap, cur, rfl, hg, hgg, hnc, hcm, hcs, htake⟩
  · omega
  · refine ⟨g, cap, hb, ho, hnc, hg, BK.lt hgg, (BK.all hgg).2, fun o v hv => ?_⟩
    rw [(BK.all hgg).1, ← Array.getElem?_toList]
    rw [← htake, List.getElem?_take] at hv
    split at hv
    · exact hv
    · cases hv

theorem BG.way {w : World} {b base g c k : Nat} {l : List Ins} (hb : BK w b (.cells #[.slice (some ⟨g, 0, none⟩) l.length c] 93 (0, 0))) (ho : w.ownsRow base 98 7 (.slice (some ⟨g, 0, none⟩) l.length c) l.length (codeL l)) (h1 : b < base) (h2 : base ≤ w.heap.size) (hg : base ≤ g) (s : Bool) (n : Nat) (hk : k < l.length) :
    BG (w.setCell ⟨g, k * 7 + (4 + s.toNat), none⟩ (.int .i64 n)) b base (wayAt l k s n) := by
  refine ⟨h1, by simpa [World.setCell] using h2, _, BK.set hb (show b ≠ g by omega) _, ?_⟩
  have := own_way ho s n hk
  rw [wayAt_len]
  exact this

set_option maxHeartbeats 1000000 in
set_option maxRecDepth 100000 in
theorem leave_any (z : Bool) {b base k : Nat} {l : List Ins} {w : World} (hd : BG w b base l) (hk : k < l.length) (hn : l.length ≤ 100000) :
    Calls Tryd.prog 51 #[.pointer (some ⟨b, 0, none⟩), .int .i64 k, .bool z] w fun e w' => e = .returned (.tuple #[]) ∧ BG w' b base (wayAt l k (!z) l.length) ∧ BF base b w w' := by
  obtain ⟨g, c, hb, ho, hnc, hg, hgl, hfz, hcell⟩ := hd.parts (by omega)
  have hbb := hd.lt
  have hbw := hd.le
  obtain ⟨i, hi⟩ : ∃ i, l[k]? = some i := ⟨l[k], by simp [hk]⟩
  have hc4 := hcell (k * 7 + 4) _ (by rw [codeL_at l k 4 i hi (by omega)]; rfl)
  have hc5 := hcell (k * 7 + 5) _ (by rw [codeL_at l k 5 i hi (by omega)]; rfl)
  have hf4 := hfz (k * 7 + 4)
  have hf5 := hfz (k * 7 + 5)
  have hbl := hb.lt
  have hb0 : w.cell? ⟨b, 0, none⟩ = some (.slice (some ⟨g, 0, none⟩) l.length c) := hb.all.1 0
  have HB := hide hb
  have HO := hide ho
  have hk' : (k : Int) < (l.length : Int) := by omega
  obtain ⟨n, hnl⟩ : ∃ n, n = l.length := ⟨_, rfl⟩
  have HNL := hide hnl
  have HI := hide hi
  rw [← hnl] at hk hk' hb0 hnc hn ⊢
  clear hb ho hd hcell hfz hnl hi
  cases z
  · go_enter Tryd.func51, Tryd.ntmps51
    go_region_with (first
      | (go_at_call 55; refine (enters_any false _).mono ?_; rintro e w4 ⟨rfl, rfl⟩))
    all_goals
      go_end0
      refine ⟨rfl, ?_, ?_⟩
      · have h := BG.way (w := w.drew) HB.out.drew HO.out.drew hbb hbw hg true n (k := k) (by rw [← HNL.out]; exact hk)
        exact h
      · refine BF.setCell (p := ⟨g, k * 7 + 5, none⟩) ((BF.refl _ _ _).drew) (.inr (.inr ⟨hg, (own_IB (World.ownsRow.drew HO.out) g rfl).2⟩)) _
  · go_enter Tryd.func51, Tryd.ntmps51
    go_region_with (first
      | (go_at_call 55; refine (enters_any true _).mono ?_; rintro e w4 ⟨rfl, rfl⟩))
    all_goals
      go_end0
      refine ⟨rfl, ?_, ?_⟩
      · have h := BG.way (w := w.drew) HB.out.drew HO.out.drew hbb hbw hg false n (k := k) (by rw [← HNL.out]; exact hk)
        exact h
      · refine BF.setCell (p := ⟨g, k * 7 + 4, none⟩) ((BF.refl _ _ _).drew) (.inr (.inr ⟨hg, (own_IB (World.ownsRow.drew HO.out) g rfl).2⟩)) _
end Go.Proofs.YtmeffeigamaipaaDoor.G

/- A builder's splits: fork. -/
namespace Go.Proofs.YtmeffeigamaipaaDoor.G
open Go.RowKit

def bare (op : Int) : Ins := ⟨op, 0, 0, false, 0, 0, 0⟩
theorem put_bare (op : Int) {b base : Nat} {l : List Ins} {w : World} (hd : BG w b base l) (hn : l.length ≤ 100000) :
    Calls Tryd.prog 35 #[.pointer (some ⟨b, 0, none⟩), .agg #[.int .i64 op, .int .u64 0, .int .u64 0, .bool false, .int .i64 0, .int .i64 0, .int .i64 0]] w fun e w' => e = .returned (.int .i64 l.length) ∧ BG w' b base (l ++ [bare op]) ∧ BF base b w w' := put_gen (bare op) hd hn
def forkM (z : Bool) (l : List Ins) : List Ins := wayAt (l ++ [bare 1]) l.length z (l.length + 1)
theorem forkM_len (z : Bool) (l : List Ins) : (forkM z l).length = l.length + 1 := by simp [forkM, wayAt_len]

set_option maxHeartbeats 1000000 in
set_option maxRecDepth 100000 in
theorem fork_any (z : Bool) {b base : Nat} {l : List Ins} {w : World} (hd : BG w b base l) (hn : l.length ≤ 99999) :
    Calls Tryd.prog 50 #[.pointer (some ⟨b, 0, none⟩), .bool z] w fun e w' => e = .returned (.int .i64 l.length) ∧ BG w' b base (forkM z l) ∧ BF base b w w' := by
  have HD := hide hd
  have HP := hide (fun w (hd : BG w b base l) => put_bare 1 hd (by omega))
  have hbb := hd.lt
  clear hd
  cases z
  · go_enter Tryd.func50, Tryd.ntmps50
    go_wp2_with fail
    refine (HP.out _ HD.out).mono ?_
    rintro e w1 ⟨rfl, hd1, hx1⟩
    have HX1 := hide hx1
    obtain ⟨g, c, hb, ho, hnc, hg, hgl, hfz, hcell⟩ := hd1.parts (by simp)
    have hbw := hd1.le
    have hi : (l ++ [bare 1])[l.length]? = some (bare 1) := by simp
    have hc4 := hcell (l.length * 7 + 4) _ (by rw [codeL_at (l ++ [bare 1]) l.length 4 (bare 1) hi (by omega)]; rfl)
    have hf4 := hfz (l.length * 7 + 4)
    have hbl := hb.lt
    have hb0 : w1.cell? ⟨b, 0, none⟩ = some (.slice (some ⟨g, 0, none⟩) (l.length + 1) c) := by have := hb.all.1 0; simpa using this
    have HB := hide hb
    have HO := hide ho
    have hnc' : l.length + 1 ≤ c := by simpa using hnc
    obtain ⟨n, hnl⟩ : ∃ n, n = l.length := ⟨_, rfl⟩
    have HNL := hide hnl
    rw [← hnl] at hb0 hnc' hc4 hf4 hn ⊢
    clear hb ho hd1 hcell hfz hnl hi hx1 hnc
    go_wp2_with fail
    go_region_with (first
      | (go_at_call 55; refine (enters_any false _).mono ?_; rintro e w4 ⟨rfl, rfl⟩))
    all_goals
      go_wp2_with fail
      go_ret
      refine ⟨by rw [← HNL.out]; rfl, ?_, ?_⟩
      · have h := BG.way (w := w1.drew) HB.out.drew HO.out.drew hbb hbw hg false (n + 1) (k := n) (by simp [HNL.out])
        unfold forkM
        rw [← HNL.out]
        exact h
      · exact HX1.out.trans (BF.setCell (p := ⟨g, n * 7 + 4, none⟩) ((BF.refl _ _ _).drew) (.inr (.inr ⟨hg, (own_IB (World.ownsRow.drew HO.out) g rfl).2⟩)) _)
  · go_enter Tryd.func50, Tryd.ntmps50
    go_wp2_with fail
    refine (HP.out _ HD.out).mono ?_
    rintro e w1 ⟨rfl, hd1, hx1⟩
    have HX1 := hide hx1
    obtain ⟨g, c, hb, ho, hnc, hg, hgl, hfz, hcell⟩ := hd1.parts (by simp)
    have hbw := hd1.le
    have hi : (l ++ [bare 1])[l.length]? = some (bare 1) := by simp
    have hc4 := hcell (l.length * 7 + 5) _ (by rw [codeL_at (l ++ [bare 1]) l.length 5 (bare 1) hi (by omega)]; rfl)
    have hf4 := hfz (l.length * 7 + 5)
    have hbl := hb.lt
    have hb0 : w1.cell? ⟨b, 0, none⟩ = some (.slice (some ⟨g, 0, none⟩) (l.length + 1) c) := by have := hb.all.1 0; simpa using this
    have HB := hide hb
    have HO := hide ho
    have hnc' : l.length + 1 ≤ c := by simpa using hnc
    obtain ⟨n, hnl⟩ : ∃ n, n = l.length := ⟨_, rfl⟩
    have HNL := hide hnl
    rw [← hnl] at hb0 hnc' hc4 hf4 hn ⊢
    clear hb ho hd1 hcell hfz hnl hi hx1 hnc
    go_wp2_with fail
    go_region_with (first
      | (go_at_call 55; refine (enters_any true _).mono ?_; rintro e w4 ⟨rfl, rfl⟩))
    all_goals
      go_wp2_with fail
      go_ret
      refine ⟨by rw [← HNL.out]; rfl, ?_, ?_⟩
      · have h := BG.way (w := w1.drew) HB.out.drew HO.out.drew hbb hbw hg true (n + 1) (k := n) (by simp [HNL.out])
        unfold forkM
        rw [← HNL.out]
        exact h
      · exact HX1.out.trans (BF.setCell (p := ⟨g, n * 7 + 5, none⟩) ((BF.refl _ _ _).drew) (.inr (.inr ⟨hg, (own_IB (World.ownsRow.drew HO.out) g rfl).2⟩)) _)
end Go.Proofs.YtmeffeigamaipaaDoor.G

/- The program of a part, and how long it is. -/
namespace Go.Proofs.YtmeffeigamaipaaDoor.G
open Go.RowKit

def leaveM (z : Bool) (k : Nat) (l : List Ins) : List Ins := wayAt l k (!z) l.length
theorem leaveM_len (z : Bool) (k : Nat) (l : List Ins) : (leaveM z k l).length = l.length := wayAt_len _ _ _ _
def landM (k : Nat) (l : List Ins) : List Ins := wayAt l k false l.length
def iter {α : Type} (f : α → α) : Nat → α → α
  | 0, x => x
  | n + 1, x => iter f n (f x)
def iterF (f : List Ins → List Ins) (z : Bool) : Nat → List Nat → List Ins → List Nat × List Ins
  | 0, ks, l => (ks, l)
  | n + 1, ks, l => iterF f z n (ks ++ [l.length]) (f (forkM z l))
def jumpTo (k : Nat) : Ins := ⟨2, 0, 0, false, (k : Int), 0, 0⟩
def loopM (f : List Ins → List Ins) (z : Bool) (l : List Ins) : List Ins :=
  leaveM z l.length (f (forkM z l ++ [bare 4]) ++ [bare 5] ++ [jumpTo l.length])
def noteI (k : Nat) : Ins := ⟨3, 0, 0, false, 0, 0, (k : Int)⟩
def more (le : Nat) (mo : Int) : Nat := (mo - le).toNat

mutual
def addM : Pt → List Ins → List Ins
  | .single c, l => l ++ [⟨0, c.lo, c.hi, c.hg, 0, 0, 0⟩]
  | .seq ps, l => addsM ps l
  | .alt ps, l => let r := altsM ps [] l; r.1.foldl (fun l k => landM k l) r.2
  | .wrap p g, l => if g = 0 then addM p l else addM p (l ++ [noteI (2 * (g - 1))]) ++ [noteI (2 * (g - 1) + 1)]
  | .count p le mo z, l =>
    if mo = -1 then loopM (addM p) z (iter (addM p) le l)
    else let r := iterF (addM p) z (more le mo) [] (iter (addM p) le l); r.1.foldl (fun l k => leaveM z k l) r.2
def addsM : List Pt → List Ins → List Ins
  | [], l => l
  | p :: ps, l => addsM ps (addM p l)
def altsM : List Pt → List Nat → List Ins → List Nat × List Ins
  | [], js, l => (js, l)
  | [p], js, l => (js, addM p l)
  | p :: q :: ps, js, l => let l1 := addM p (forkM false l); altsM (q :: ps) (js ++ [l1.length]) (leaveM false l.length (l1 ++ [bare 2]))
end

mutual
def isz : Pt → Nat
  | .single _ => 1
  | .seq ps => iszL ps
  | .alt ps => iszL ps + 2 * (ps.length - 1)
  | .wrap p g => if g = 0 then isz p else isz p + 2
  | .count p le mo _ => if mo = -1 then isz p * le + (isz p + 4) else isz p * le + (isz p + 1) * more le mo
def iszL : List Pt → Nat
  | [] => 0
  | p :: ps => isz p + iszL ps
end

theorem iter_len (f : List Ins → List Ins) (s : Nat) (hf : ∀ l, (f l).length = l.length + s) : ∀ n l, (iter f n l).length = l.length + s * n
  | 0, l => by simp [iter]
  | n + 1, l => by rw [iter, iter_len f s hf n, hf, Nat.mul_succ]; omega
theorem iterF_len (f : List Ins → List Ins) (z : Bool) (s : Nat) (hf : ∀ l, (f l).length = l.length + s) : ∀ n ks l, (iterF f z n ks l).2.length = l.length + (s + 1) * n ∧ (iterF f z n ks l).1.length = ks.length + n
  | 0, ks, l => by simp [iterF]
  | n + 1, ks, l => by
    have h := iterF_len f z s hf n (ks ++ [l.length]) (f (forkM z l))
    rw [iterF, h.1, h.2, hf, forkM_len, Nat.mul_succ]
    simp
    omega
theorem fold_leave_len (z : Bool) : ∀ (ks : List Nat) (l : List Ins), (ks.foldl (fun l k => leaveM z k l) l).length = l.length
  | [], l => rfl
  | k :: ks, l => by rw [List.foldl_cons, fold_leave_len z ks, leaveM_len]
theorem fold_land_len : ∀ (ks : List Nat) (l : List Ins), (ks.foldl (fun l k => landM k l) l).length = l.length
  | [], l => rfl
  | k :: ks, l => by rw [List.foldl_cons, fold_land_len ks]; exact wayAt_len _ _ _ _

mutual
theorem addM_len : ∀ (p : Pt) (l : List Ins), (addM p l).length = l.length + isz p
  | .single c, l => by simp [addM, isz]
  | .seq ps, l => by rw [addM, isz]; exact addsM_len ps l
  | .alt ps, l => by
    rw [addM, isz]
    simp only [fold_land_len]
    exact altsM_len ps [] l
  | .wrap p g, l => by
    rw [addM, isz]
    split
    · exact addM_len p l
    · rw [List.length_append, addM_len p]
      simp
      omega
  | .count p le mo z, l => by
    rw [addM, isz]
    split
    · rw [loopM, leaveM_len]
      simp only [List.length_append, addM_len p, forkM_len, iter_len _ _ (addM_len p)]
      simp
      omega
    · simp only [fold_leave_len]
      rw [(iterF_len _ z _ (addM_len p) _ _ _).1, iter_len _ _ (addM_len p)]
      omega
theorem addsM_len : ∀ (ps : List Pt) (l : List Ins), (addsM ps l).length = l.length + iszL ps
  | [], l => by simp [addsM, iszL]
  | p :: ps, l => by rw [addsM, addsM_len ps, addM_len p, iszL]; omega
theorem altsM_len : ∀ (ps : List Pt) (js : List Nat) (l : List Ins), (altsM ps js l).2.length = l.length + (iszL ps + 2 * (ps.length - 1))
  | [], js, l => by simp [altsM, iszL]
  | [p], js, l => by simp [altsM, iszL, addM_len p]
  | p :: q :: ps, js, l => by
    rw [altsM]
    simp only [altsM_len (q :: ps), leaveM_len, List.length_append, addM_len p, forkM_len, iszL]
    simp
    omega
end
end Go.Proofs.YtmeffeigamaipaaDoor.G

/- The builder at single runes, rows and parentheses. -/
namespace Go.Proofs.YtmeffeigamaipaaDoor.G
open Go.RowKit

def Pb (base b g : Nat) : Prop := g < base ∧ g ≠ b
theorem PR.bf {base b : Nat} {w w' : World} {q : Pt} {v : PV} (h : PR w (Pb base b) q v) (hx : BF base b w w') : PR w' (Pb base b) q v :=
  h.frame (fun _ h => h) hx.size (fun k hk hlt => hx.block k hlt hk.2 (.inl hk.1)) q v
theorem Row.bf {base b : Nat} {w w' : World} {v : PV} {l : List Pt} (h : Row w (Pb base b) v l) (hx : BF base b w w') : Row w' (Pb base b) v l := by
  refine ⟨h.1, h.2.imp id ?_⟩
  rintro ⟨g, hp, hc, hg, hl, hr⟩
  exact ⟨g, hp, hc, hg, Nat.lt_of_lt_of_le hl hx.size, PRL.frame (fun _ h => h) hx.size (fun k hk hlt => hx.block k hlt hk.2 (.inl hk.1)) g hg hl l 0 hr⟩

def AddC (q : Pt) : Prop := ∀ (v : PV) (w : World) (b base : Nat) (l : List Ins), BG w b base l → PR w (Pb base b) q v → WOK q → l.length + isz q ≤ 99000 →
  Calls Tryd.prog 34 #[.pointer (some ⟨b, 0, none⟩), v.val] w fun e w' => e = .returned (.tuple #[]) ∧ BG w' b base (addM q l) ∧ BF base b w w'

set_option maxHeartbeats 1000000 in
set_option maxRecDepth 100000 in
theorem addC_single (c : Cls) : AddC (.single c) := by
  intro v w b base l hd hp hw hn
  have h : v = _ := hp
  subst h
  have HD := hide hd
  have HPUT := hide (fun w (hd : BG w b base l) => put_gen ⟨0, c.lo, c.hi, c.hg, 0, 0, 0⟩ hd (by simp only [isz] at hn; omega))
  obtain ⟨lo, hi, hg⟩ := c
  clear hd hp hw
  unfold PV.val
  dsimp only
  go_enter Tryd.func34, Tryd.ntmps34
  go_wp2_with fail
  refine (HPUT.out _ (HD.out.alloc _)).mono ?_
  rintro e w1 ⟨rfl, hd1, hx1⟩
  have HD1 := hide hd1
  have HX1 := hide hx1
  clear hd1 hx1
  go_wp2_with fail
  go_end0
  exact ⟨rfl, HD1.out, ((BF.refl _ _ _).alloc _).trans HX1.out⟩

theorem addsM_take (ps : List Pt) (j : Nat) (l : List Ins) (hj : j < ps.length) : addsM (ps.take (j + 1)) l = addM ps[j] (addsM (ps.take j) l) := by
  induction ps generalizing j l with
  | nil => simp at hj
  | cons p ps ih =>
    cases j with
    | zero => simp [addsM]
    | succ j =>
      simp only [List.take_succ_cons, addsM, List.getElem_cons_succ]
      exact ih j (addM p l) (by simpa using hj)
theorem iszL_take (ps : List Pt) (j : Nat) (hj : j < ps.length) : iszL (ps.take j) + isz ps[j] ≤ iszL ps := by
  induction ps generalizing j with
  | nil => simp at hj
  | cons p ps ih =>
    cases j with
    | zero => simp [iszL]
    | succ j =>
      have := ih j (by simpa using hj)
      simp only [List.take_succ_cons, iszL, List.getElem_cons_succ]
      omega

set_option maxHeartbeats 1000000 in
set_option maxRecDepth 100000 in
theorem addC_seq (ps : List Pt) (ih : ∀ p, p ∈ ps → AddC p) : AddC (.seq ps) := by
  intro v w b base l hd hp hw hn
  obtain ⟨hrow, hkd⟩ := hp.row
  obtain ⟨p, n, c, rfl, hnl, hr⟩ := hp
  subst hnl
  have HD := hide hd
  have HR := hide (show Row w (Pb base b) _ ps from hrow)
  have HIH := hide ih
  have HW := hide hw.1
  have hlen := hw.2.2
  have HN := hide (show l.length + iszL ps ≤ 99000 by simpa only [isz] using hn)
  clear hd hrow hkd ih hw hr hn
  unfold PV.val
  dsimp only
  go_enter Tryd.func34, Tryd.ntmps34
  go_wp2_with fail
  go_loopg [20] ps.length (fun gk i wr => ∃ j : Nat, j + gk = ps.length ∧ i = .int .i64 j ∧ BG wr b base (addsM (ps.take j) l) ∧ BF base b w wr)
  case atStart => exact ⟨0, by omega, rfl, by simpa [addsM] using HD.out.alloc _, (BF.refl _ _ _).alloc _⟩
  case round =>
    obtain ⟨j, hj, rfl, hd, hx⟩ := hrel
    have HX := hide hx
    have HDr := hide hd
    cases gk with
    | zero =>
      obtain rfl : j = ps.length := by omega
      clear hx hj hd
      go_wp2_with fail
      go_end0
      refine ⟨rfl, ?_, HX.out⟩
      have h1 := HDr.out
      rw [List.take_length] at h1
      rw [addM]
      exact h1
    | succ g =>
      have hj' : ((j : Int) < (ps.length : Int)) := by omega
      obtain ⟨g1, u, hv, hnc, hB, hlt, hrange, hq⟩ := (HR.out.bf hx).at j (show j < ps.length by omega)
      simp only at hv
      subst hv
      have HQ := hide hq
      clear hx hd hq hB
      obtain ⟨kd', p', n', c', lo', hi', hg', gr', l', m', z'⟩ := u
      have k0 := hrange 0 _ rfl; have k1 := hrange 1 _ rfl; have k2 := hrange 2 _ rfl; have k3 := hrange 3 _ rfl; have k4 := hrange 4 _ rfl
      have k5 := hrange 5 _ rfl; have k6 := hrange 6 _ rfl; have k7 := hrange 7 _ rfl; have k8 := hrange 8 _ rfl
      simp only [Nat.add_zero] at k0
      clear hrange
      simp only at hnc
      go_wp2_with fail
      refine (HIH.out ps[j] (List.getElem_mem _) ⟨kd', p', n', c', lo', hi', hg', gr', l', m', z'⟩ _ b base _ (HDr.out.alloc _) (HQ.out.bf ((BF.refl _ _ _).alloc _)) (WOKL_mem HW.out _ (List.getElem_mem _)) (by
        have h1 := iszL_take ps j (by omega)
        have h2 := HN.out
        rw [addsM_len]
        omega)).mono ?_
      rintro e w1 ⟨rfl, hd1, hx1⟩
      have HX1 := hide hx1
      have HD1 := hide hd1
      clear hx1 hd1 k0 k1 k2 k3 k4 k5 k6 k7 k8
      go_wp2_with fail
      go_roundg g
      case measure => omega
      case rel => exact ⟨j + 1, by omega, by simp, by rw [addsM_take ps j l (by omega)]; exact HD1.out, (HX.out.alloc _).trans HX1.out⟩

set_option maxHeartbeats 1000000 in
set_option maxRecDepth 100000 in
theorem wrapped_any (q : Pt) (k g : Nat) (u : PV) (w : World) (b base : Nat) (l : List Ins) (ih : AddC q) (hk : k < 1000000) (hd : BG w b base l) (hB : Pb base b g) (hgl : g < w.heap.size) (hr : w.rangeAt g 0 u.cells) (hq : PR w (Pb base b) q u) (hw : WOK q) (hn : l.length + isz (.wrap q k) ≤ 99000) :
    Calls Tryd.prog 45 #[.pointer (some ⟨b, 0, none⟩), PV.val ⟨3, some ⟨g, 0, none⟩, 1, 1, 0, 0, false, (k : Int), 0, 0, false⟩] w fun e w' => e = .returned (.tuple #[]) ∧ BG w' b base (addM (.wrap q k) l) ∧ BF base b w w' := by
  have HD := hide hd
  have HR := hide hr
  have HQ := hide hq
  have HIH := hide ih
  have HW := hide hw
  have HN := hide hn
  have hcl : ∀ w' : World, BF base b w w' → w'.rangeAt g 0 u.cells := fun w' hx => range_same hr (hx.block g hgl hB.2 (.inl hB.1))
  have HCL := hide hcl
  clear hd hr hq ih hw hn hcl
  obtain ⟨kd', p', n', c', lo', hi', hg', gr', l', m', z'⟩ := u
  unfold PV.val
  dsimp only
  by_cases h0 : k = 0
  · subst h0
    have hr0 := HCL.out (w.alloc (Obj.cells #[.int .i64 3, .slice (some ⟨g, 0, none⟩) 1 1, .int .u64 0, .int .u64 0, .bool false, .int .i64 0, .int .i64 0, .int .i64 0, .bool false] 59)) ((BF.refl _ _ _).alloc _)
    have k0 := hr0 0 _ rfl; have k1 := hr0 1 _ rfl; have k2 := hr0 2 _ rfl; have k3 := hr0 3 _ rfl; have k4 := hr0 4 _ rfl
    have k5 := hr0 5 _ rfl; have k6 := hr0 6 _ rfl; have k7 := hr0 7 _ rfl; have k8 := hr0 8 _ rfl
    simp only [Nat.zero_add] at k0 k1 k2 k3 k4 k5 k6 k7 k8
    clear hr0
    go_enter Tryd.func45, Tryd.ntmps45
    go_wp2_with fail
    refine (HIH.out ⟨kd', p', n', c', lo', hi', hg', gr', l', m', z'⟩ _ b base l (HD.out.alloc _) (HQ.out.bf ((BF.refl _ _ _).alloc _)) HW.out (by have h := HN.out; simp only [isz, if_pos] at h; exact h)).mono ?_
    rintro e w1 ⟨rfl, hd1, hx1⟩
    have HX1 := hide hx1
    have HD1 := hide hd1
    clear hx1 hd1 k0 k1 k2 k3 k4 k5 k6 k7 k8
    go_wp2_with fail
    try simp only [Exit.inBlock, Exit.then]
    refine bodyPost_ret (results_none rfl _ _ _) rfl ?_
    exact ⟨rfl, by rw [addM, if_pos rfl]; exact HD1.out, ((BF.refl _ _ _).alloc _).trans HX1.out⟩
  · have hk0 : ¬ ((k : Int) = 0) := by omega
    have hN : l.length + isz q + 2 ≤ 99000 := by have h := HN.out; simp only [isz, if_neg h0] at h; omega
    obtain ⟨s, hs⟩ : ∃ s, s = 2 * (k - 1) := ⟨_, rfl⟩
    have HS := hide hs
    have HPUT := hide (fun w (hd : BG w b base l) => put_gen (noteI s) hd (by omega))
    have E1 := hide (show (2 * ((k : Int) - 1)) = (s : Int) by omega)
    have E2 := hide (show ((s : Int) + 1) = ((s + 1 : Nat) : Int) by omega)
    have hs1 : s < 2000000 := by omega
    clear hs
    go_enter Tryd.func45, Tryd.ntmps45
    go_wp2_with fail
    rw [E1.out]
    refine (HPUT.out _ (HD.out.alloc _)).mono ?_
    rintro e w1 ⟨rfl, hd1, hx1⟩
    have hA : BK w1 w.heap.size (.cells #[.int .i64 3, .slice (some ⟨g, 0, none⟩) 1 1, .int .u64 0, .int .u64 0, .bool false, .int .i64 k, .int .i64 0, .int .i64 0, .bool false] 59) := BK.bf (BK.new _ _) hx1 (by have := HD.out.lt; have := HD.out.le; omega) (by decide)
    obtain ⟨hcA, hfA⟩ := hA.all
    have HX1 := hide (((BF.refl base b w).alloc _).trans hx1)
    have HD1 := hide hd1
    have hr1 := HCL.out w1 HX1.out
    have k0 := hr1 0 _ rfl; have k1 := hr1 1 _ rfl; have k2 := hr1 2 _ rfl; have k3 := hr1 3 _ rfl; have k4 := hr1 4 _ rfl
    have k5 := hr1 5 _ rfl; have k6 := hr1 6 _ rfl; have k7 := hr1 7 _ rfl; have k8 := hr1 8 _ rfl
    simp only [Nat.zero_add] at k0 k1 k2 k3 k4 k5 k6 k7 k8
    clear hr1 hx1 hd1 hA
    go_wp2_with fail
    refine (HIH.out ⟨kd', p', n', c', lo', hi', hg', gr', l', m', z'⟩ _ b base _ HD1.out (HQ.out.bf HX1.out) HW.out (by simp; omega)).mono ?_
    rintro e w2 ⟨rfl, hd2, hx2⟩
    have HX2 := hide hx2
    have HD2 := hide hd2
    have HPUT2 := hide (put_gen (noteI (s + 1)) hd2 (by rw [addM_len]; simp; omega))
    clear hx2 hd2 k0 k1 k2 k3 k4 k5 k6 k7 k8 hcA hfA
    go_wp2_with fail
    rw [E2.out]
    refine (show Calls _ _ _ _ _ from HPUT2.out).mono ?_
    rintro e w3 ⟨rfl, hd3, hx3⟩
    have HX3 := hide hx3
    have HD3 := hide hd3
    clear hx3 hd3
    go_wp2_with fail
    go_end0
    exact ⟨rfl, by rw [addM, if_neg h0, ← HS.out]; exact HD3.out, (HX1.out.trans HX2.out).trans HX3.out⟩

set_option maxHeartbeats 1000000 in
set_option maxRecDepth 100000 in
theorem addC_wrap (q : Pt) (k : Nat) (ih : AddC q) : AddC (.wrap q k) := by
  intro v w b base l hd hp hw hn
  obtain ⟨g, rfl, hB, hgl, u, hr, hq⟩ := hp
  have KEY := hide (wrapped_any q k g u _ b base l ih hw.2.2 (hd.alloc (Obj.cells #[.int .i64 3, .slice (some ⟨g, 0, none⟩) 1 1, .int .u64 0, .int .u64 0, .bool false, .int .i64 k, .int .i64 0, .int .i64 0, .bool false] 59)) hB (by simp; omega) (range_same hr (((Ex.refl [] w).alloc _).block g hgl (by simp))) (hq.bf ((BF.refl _ _ _).alloc _)) hw.1 hn)
  clear hd hr hq hw hn ih
  unfold PV.val at KEY ⊢
  dsimp only at KEY ⊢
  go_enter Tryd.func34, Tryd.ntmps34
  go_wp2_with fail
  refine KEY.out.mono ?_
  rintro e w1 ⟨rfl, hd1, hx1⟩
  have HX1 := hide hx1
  have HD1 := hide hd1
  clear hx1 hd1
  go_wp2_with fail
  go_end0
  exact ⟨rfl, HD1.out, ((BF.refl _ _ _).alloc _).trans HX1.out⟩
end Go.Proofs.YtmeffeigamaipaaDoor.G
