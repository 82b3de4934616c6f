/- Pieces of a pattern in memory. -/
import Derived.Test.YtmeffeigamaipaaDoorM13
set_option linter.unusedVariables false
set_option linter.unusedSimpArgs false
namespace Go.Proofs.YtmeffeigamaipaaDoor.G
open Go.RowKit

structure PV where
  kd : Int
  p : Option Addr
  n : Nat
  c : Nat
  lo : Int
  hi : Int
  hg : Bool
  g : Int
  l : Int
  m : Int
  z : Bool
def PV.cells (v : PV) : List Value := [.int .i64 v.kd, .slice v.p v.n v.c, .int .u64 v.lo, .int .u64 v.hi, .bool v.hg, .int .i64 v.g, .int .i64 v.l, .int .i64 v.m, .bool v.z]
def PV.val (v : PV) : Value := .agg #[.int .i64 v.kd, .slice v.p v.n v.c, .int .u64 v.lo, .int .u64 v.hi, .bool v.hg, .int .i64 v.g, .int .i64 v.l, .int .i64 v.m, .bool v.z]

mutual
def PR (w : World) (B : Nat → Prop) : Pt → PV → Prop
  | .single c, v => v = ⟨0, none, 0, 0, c.lo, c.hi, c.hg, 0, 0, 0, false⟩
  | .seq l, v => ∃ p n c, v = ⟨1, p, n, c, 0, 0, false, 0, 0, 0, false⟩ ∧ n = l.length ∧ ((p = none ∧ n = 0 ∧ c = 0) ∨ ∃ g, p = some ⟨g, 0, none⟩ ∧ n ≤ c ∧ B g ∧ g < w.heap.size ∧ PRL w B g l 0)
  | .alt l, v => ∃ p n c, v = ⟨2, p, n, c, 0, 0, false, 0, 0, 0, false⟩ ∧ n = l.length ∧ ((p = none ∧ n = 0 ∧ c = 0) ∨ ∃ g, p = some ⟨g, 0, none⟩ ∧ n ≤ c ∧ B g ∧ g < w.heap.size ∧ PRL w B g l 0)
  | .wrap q k, v => ∃ g, v = ⟨3, some ⟨g, 0, none⟩, 1, 1, 0, 0, false, (k : Int), 0, 0, false⟩ ∧ B g ∧ g < w.heap.size ∧ ∃ u, w.rangeAt g 0 u.cells ∧ PR w B q u
  | .count q le mo la, v => ∃ g, v = ⟨4, some ⟨g, 0, none⟩, 1, 1, 0, 0, false, 0, (le : Int), mo, la⟩ ∧ B g ∧ g < w.heap.size ∧ ∃ u, w.rangeAt g 0 u.cells ∧ PR w B q u
def PRL (w : World) (B : Nat → Prop) (g : Nat) : List Pt → Nat → Prop
  | [], _ => True
  | q :: l, i => (∃ u, w.rangeAt g (i * 9) u.cells ∧ PR w B q u) ∧ PRL w B g l (i + 1)
end

theorem range_same {w w' : World} {g o : Nat} {cs : List Value} (h : w.rangeAt g o cs) (hb : w'.heap[g]? = w.heap[g]?) : w'.rangeAt g o cs := fun j v hv => (World.cell?_of_block hb).trans (h j v hv)

mutual
theorem PR.frame {w w' : World} {B B' : Nat → Prop} (hB : ∀ b, B b → B' b) (hs : w.heap.size ≤ w'.heap.size) (hb : ∀ b, B b → b < w.heap.size → w'.heap[b]? = w.heap[b]?) : ∀ (q : Pt) (v : PV), PR w B q v → PR w' B' q v
  | .single c, v, h => h
  | .seq l, v, h => by
    obtain ⟨p, n, c, rfl, hn, hr⟩ := h
    refine ⟨p, n, c, rfl, hn, ?_⟩
    rcases hr with hr | ⟨g, hp, hc, hg, hl, hr⟩
    · exact .inl hr
    · exact .inr ⟨g, hp, hc, hB _ hg, by omega, PRL.frame hB hs hb g hg hl l 0 hr⟩
  | .alt l, v, h => by
    obtain ⟨p, n, c, rfl, hn, hr⟩ := h
    refine ⟨p, n, c, rfl, hn, ?_⟩
    rcases hr with hr | ⟨g, hp, hc, hg, hl, hr⟩
    · exact .inl hr
    · exact .inr ⟨g, hp, hc, hB _ hg, by omega, PRL.frame hB hs hb g hg hl l 0 hr⟩
  | .wrap q k, v, h => by
    obtain ⟨g, rfl, hg, hl, u, hr, hq⟩ := h
    exact ⟨g, rfl, hB _ hg, by omega, u, range_same hr (hb g hg hl), PR.frame hB hs hb q u hq⟩
  | .count q le mo la, v, h => by
    obtain ⟨g, rfl, hg, hl, u, hr, hq⟩ := h
    exact ⟨g, rfl, hB _ hg, by omega, u, range_same hr (hb g hg hl), PR.frame hB hs hb q u hq⟩
theorem PRL.frame {w w' : World} {B B' : Nat → Prop} (hB : ∀ b, B b → B' b) (hs : w.heap.size ≤ w'.heap.size) (hb : ∀ b, B b → b < w.heap.size → w'.heap[b]? = w.heap[b]?) (g : Nat) (hg : B g) (hl : g < w.heap.size) : ∀ (l : List Pt) (i : Nat), PRL w B g l i → PRL w' B' g l i
  | [], _, _ => trivial
  | q :: l, i, h => by
    obtain ⟨⟨u, hr, hq⟩, ht⟩ := h
    exact ⟨⟨u, range_same hr (hb g hg hl), PR.frame hB hs hb q u hq⟩, PRL.frame hB hs hb g hg hl l (i + 1) ht⟩
end

def Btw (lo hi b : Nat) : Prop := lo ≤ b ∧ b < hi
theorem PR.ex {l : List Nat} {w w' : World} {lo hi lo' hi' : Nat} {q : Pt} {v : PV} (h : PR w (Btw lo hi) q v) (hx : Ex l w w') (hl : ∀ b, b ∈ l → b < lo) (h1 : lo' ≤ lo) (h2 : hi ≤ hi') : PR w' (Btw lo' hi') q v :=
  h.frame (fun b hb => ⟨by have := hb.1; omega, by have := hb.2; omega⟩) hx.size (fun b hb hlt => hx.block b hlt (fun hm => by have := hl b hm; have := hb.1; omega)) q v
def RP (lo : Nat) (w' : World) (v : Value) (q : Pt) : Prop := ∃ u : PV, v = u.val ∧ PR w' (Btw lo w'.heap.size) q u

theorem depth_set {w : World} {r mb : Nat} {t : ByteArray} {x : EV} {s : RS} (h : RG w r mb t x s) (d : Nat) (di : Int) (hdi : di = (d : Int)) : RG (w.setCell ⟨r, 2, none⟩ (.int .i64 di)) r mb t x { s with d := d } := by
  subst hdi
  exact h.own (s' := { s with d := d }) rfl _ rfl h.hk (by
    have h1 := h.rd
    unfold RD at h1 ⊢
    simp [World.setCell, Array.getElem?_modify, h1])
theorem RG.c2 {w : World} {r mb : Nat} {t : ByteArray} {x : EV} {s : RS} (h : RG w r mb t x s) : w.cell? ⟨r, 2, none⟩ = some (.int .i64 s.d) := by
  rw [cell_of_row w r 2 _ 63 (0, 0) h.rd]; rfl
theorem mustM_ok {t : ByteArray} {s s' : RS} {b : UInt8} {u : Unit} (h : mustM t s b = .ok u s') : seesM t s b = true ∧ s' = s.up := by
  unfold mustM at h
  split at h
  · rename_i h9; cases h; exact ⟨h9, rfl⟩
  · cases h

theorem newS (w : World) (p : Addr) (u : Value) (o : Obj) : BK ((w.setCell p u).alloc o) w.heap.size o := by
  have h := BK.new (w.setCell p u) o
  rw [show (w.setCell p u).heap.size = w.heap.size by simp [World.setCell]] at h
  exact h
def EC (t : ByteArray) (r mb : Nat) (x : EV) (d : Nat) (E : RS → Res Pt) : Prop := ∀ (w : World) (s : RS), RG w r mb t x s → s.g ≤ 5 → s.d = d →
  Calls Tryd.prog 31 #[.pointer (some ⟨r, 0, none⟩)] w fun e w' => Post [r, mb] r mb t x w (RP w.heap.size) (E s) e w'
theorem openingM_ok {t : ByteArray} {s s' : RS} {n : Nat} (h : openingM t s = .ok n s') (hg : s.g ≤ 5) : s.k ≤ s'.k ∧ s'.d = s.d ∧ s'.f = s.f ∧ s'.g ≤ 5 ∧ n ≤ 5 := by
  unfold openingM at h
  split at h
  · rename_i h1
    cases h
    exact ⟨Nat.le_refl _, rfl, rfl, by simp; omega, by omega⟩
  · obtain ⟨_, s1, h1, h2⟩ := Res.bind_eq_ok h
    obtain ⟨_, rfl⟩ := mustM_ok h1
    split at h2
    · cases h2; exact ⟨by show s.k ≤ s.k + 1 + 1; omega, rfl, rfl, hg, by omega⟩
    · split at h2
      · cases h2
      · rename_i h5
        obtain ⟨_, s2, h3, h4⟩ := Res.bind_eq_ok h2
        obtain ⟨_, rfl⟩ := mustM_ok h3
        obtain ⟨_, s3, h5', h6⟩ := Res.bind_eq_ok h4
        obtain ⟨_, rfl⟩ := mustM_ok h5'
        obtain ⟨nm, s4, h7, h8⟩ := Res.bind_eq_ok h6
        obtain ⟨_, s5, h9, h10⟩ := Res.bind_eq_ok h8
        obtain ⟨_, rfl⟩ := mustM_ok h9
        have hgn : s.up.up.up.k ≤ s4.k ∧ s4.d = s.d ∧ s4.f = s.f ∧ s4.g = s.g := by
          unfold groupNameM at h7
          obtain ⟨_, s6, ha, hb⟩ := Res.bind_eq_ok h7
          have hl : ∀ (n : Nat) (a b : RS), gnLoop t s.up.up.up.k n a = .ok () b → a.k ≤ b.k ∧ a.like b := by
            intro n
            induction n with
            | zero => intro a b hh; cases hh; exact ⟨Nat.le_refl _, RS.like_refl _⟩
            | succ n ih =>
              intro a b hh
              unfold gnLoop at hh
              cases hby : byteAt t a.k with
              | none => rw [hby] at hh; cases hh
              | some y =>
                rw [hby] at hh
                simp only at hh
                split at hh
                · split at hh
                  · cases hh
                  · obtain ⟨h1, h2⟩ := ih _ _ hh
                    exact ⟨by have : a.k + 1 ≤ b.k := h1; omega, (RS.like_up a).trans h2⟩
                · cases hh; exact ⟨Nat.le_refl _, RS.like_refl _⟩
          obtain ⟨h1, h2⟩ := hl 8 _ _ ha
          split at hb
          · cases hb
          · cases hb
            exact ⟨h1, h2.1, h2.2.1, h2.2.2.1⟩
        cases h10
        have hk : s.k + 1 + 1 + 1 ≤ s4.k := hgn.1
        have h5'' : ¬ s.g = 5 := h5
        refine ⟨by show s.k ≤ s4.k + 1; omega, hgn.2.1, hgn.2.2.1, ?_, ?_⟩
        · show s4.g + 1 ≤ 5; rw [hgn.2.2.2]; omega
        · show s4.g + 1 ≤ 5; rw [hgn.2.2.2]; omega

set_option maxHeartbeats 2000000 in
set_option maxRecDepth 100000 in
theorem gParen {w : World} {r mb : Nat} {t : ByteArray} {x : EV} {s : RS} {E : RS → Res Pt} (h : RG w r mb t x s) (hnp : NP t) (hg5 : s.g ≤ 5) (hd6 : s.d ≤ 6) (hE : s.d < 6 → EC t r mb x (s.d + 1) E) (hEi : ∀ a q b, E a = .ok q b → a.g ≤ 5 → b.d = a.d) :
    Calls Tryd.prog 57 #[.pointer (some ⟨r, 0, none⟩)] w fun e w' => Post [r, mb] r mb t x w (RP w.heap.size) (parenM t E s) e w' := by
  have hlt := h.lt
  have hmlt := h.mlt
  have helt := h.elt
  have ht := h.ht
  have hne : w.heap.size ≠ r := by omega
  have hrm := h.rm
  have h2 := h.c2
  have hev := h.ev
  have H := hide h
  have HNP := hide hnp
  have HE := hide hE
  have HEI := hide hEi
  clear h hnp hE hEi
  by_cases h6 : s.d = 6
  · have e6 : ((s.d : Int) == 6) = true := by simp; omega
    have HM : Hid (parenM t E s = .bad s) := by show parenM t E s = _; unfold parenM; rw [if_pos h6]
    go_enter Tryd.func57, Tryd.ntmps57
    go_wp2_with fail
    exact body_panic rfl (Post.mkBad HM.out (H.out.alloc _) ((Ex.refl _ _).alloc _))
  have e6 : ((s.d : Int) == 6) = false := by rw [beq_eq_false_iff_ne]; omega
  go_enter Tryd.func57, Tryd.ntmps57
  go_wp2_with fail
  refine (gMust (H.out.alloc _) 40 40 rfl).mono ?_
  rintro e w1 hp
  rcases hp.split with ⟨_, s1, v, hm, rfl, rfl, hg1, hx1⟩ | ⟨s', hm, rfl, hg, hx⟩
  rotate_left
  · exact body_panic rfl (Post.mkBad (by unfold parenM; rw [if_neg h6, hm]; rfl) hg (((Ex.refl _ _).alloc _).trans (hx.drop (by simp))))
  have hs1 : s1 = s.up := (mustM_ok hm).2
  subst hs1
  have M1 := hide hm
  have h12 : w1.cell? ⟨r, 2, none⟩ = some (.int .i64 s.d) := hg1.c2
  have hf12 := hg1.fz 2
  have hl1 := hg1.lt
  have hdd : ((s.d : Int) + 1) = ((s.d + 1 : Nat) : Int) := by omega
  have G1 := hide (depth_set hg1 (s.d + 1) ((s.d : Int) + 1) hdd)
  have X1 : Hid (Ex [r, mb] (w.alloc (Obj.cells #[.int .i64 0, .slice none 0 0, .int .u64 0, .int .u64 0, .bool false, .int .i64 0, .int .i64 0, .int .i64 0, .bool false] 59)) (w1.setCell ⟨r, 2, none⟩ (.int .i64 ((s.d : Int) + 1)))) := (hx1.drop (by simp)).setCell (Or.inl (by simp)) _
  clear hp hm hg1 hx1 h2 hev hdd
  go_wp2_with fail
  refine (gOpening (s := { s.up with d := s.d + 1 }) (by exact G1.out) HNP.out hg5).mono ?_
  rintro e w2 hp
  rcases hp.split with ⟨gn, s2, v, hm, rfl, rfl, hg2, hx2⟩ | ⟨s', hm, rfl, hg, hx⟩
  rotate_left
  · exact body_panic rfl (Post.mkBad (by unfold parenM; rw [if_neg h6, M1.out, Res.bind_ok]; show (openingM t { s.up with d := s.d + 1 }).bind _ = _; rw [hm]; rfl) hg (((Ex.refl _ _).alloc _).trans (X1.out.trans hx)))
  have hok := openingM_ok hm hg5
  have hgn5 := hok.2.2.2.2
  have M2 : Hid (parenM t E s = (E s2).bind fun p s3 => (mustM t s3 41).bind fun _ s4 => .ok (.wrap p gn) { s4 with d := s4.d - 1 }) := by
    show parenM t E s = _
    unfold parenM; rw [if_neg h6, M1.out, Res.bind_ok]
    show (openingM t { s.up with d := s.d + 1 }).bind _ = _
    rw [hm]; rfl
  have hs2d : s2.d = s.d + 1 := hok.2.1
  have hs2g : s2.g ≤ 5 := hok.2.2.2.1
  have HS2D := hide hs2d
  have G2 := hide hg2
  have X2 := hide (X1.out.trans hx2)
  have hsz2 : w.heap.size < w2.heap.size := by have := X2.out.size; simp at this; omega
  clear hp hm hg2 hx2 hok hs2d M1 G1 X1 h12 hf12
  go_wp2_with fail
  refine ((HE.out (by omega)) w2 s2 G2.out hs2g HS2D.out).mono ?_
  rintro e w3 hp
  rcases hp.split with ⟨q, s3, v, hm, rfl, hRP, hg3, hx3⟩ | ⟨s', hm, rfl, hg, hx⟩
  rotate_left
  · exact body_panic rfl (Post.mkBad (by rw [M2.out, hm]; rfl) hg (((Ex.refl _ _).alloc _).trans (X2.out.trans hx)))
  obtain ⟨u, rfl, hpr⟩ := hRP
  have hs3d : s3.d = s.d + 1 := (HEI.out _ _ _ hm hs2g).trans HS2D.out
  have M3 : Hid (parenM t E s = (mustM t s3 41).bind fun _ s4 => .ok (.wrap q gn) { s4 with d := s4.d - 1 }) := by show parenM t E s = _; rw [M2.out, hm]; rfl
  have HS3D := hide hs3d
  have G3 := hide hg3
  have X3 := hide (X2.out.trans hx3)
  have hle3 : w2.heap.size ≤ w3.heap.size := hx3.size
  obtain ⟨kd, up, un, uc, ulo, uhi, uhg, ug, ul, um, uz⟩ := u
  obtain ⟨S, hS⟩ : ∃ S : List Value, S = [.int .i64 kd, .slice up un uc, .int .u64 ulo, .int .u64 uhi, .bool uhg, .int .i64 ug, .int .i64 ul, .int .i64 um, .bool uz] := ⟨_, rfl⟩
  have HS := hide hS
  have HPR := hide hpr
  clear hp hm hg3 hx3 hpr M2 G2 X2 hs3d hS
  unfold PV.val
  go_wp2_with fail
  refine (gMust (G3.out.alloc _) 41 41 rfl).mono ?_
  rintro e w4 hp
  rcases hp.split with ⟨_, s4, v, hm, rfl, rfl, hg4, hx4⟩ | ⟨s', hm, rfl, hg, hx⟩
  rotate_left
  · exact body_panic rfl (Post.mkBad (by rw [M3.out, hm]; rfl) hg (((Ex.refl _ _).alloc _).trans ((X3.out.alloc _).trans (hx.drop (by simp)))))
  have hs4 : s4 = s3.up := (mustM_ok hm).2
  subst hs4
  have HM : Hid (parenM t E s = .ok (.wrap q gn) { s3.up with d := s.d }) := by
    show parenM t E s = _
    rw [M3.out, hm]
    show Res.ok (Pt.wrap q gn) { s3.up with d := s3.up.d - 1 } = _
    rw [show s3.up.d - 1 = s.d by show s3.d - 1 = s.d; rw [HS3D.out]; omega]
  have B4 := hide ((BK.new w3 (Obj.cells #[.int .i64 kd, .slice up un uc, .int .u64 ulo, .int .u64 uhi, .bool uhg, .int .i64 ug, .int .i64 ul, .int .i64 um, .bool uz] 59)).ex hx4 (by simp; omega))
  have X4 := hide ((X3.out.alloc (Obj.cells #[.int .i64 kd, .slice up un uc, .int .u64 ulo, .int .u64 uhi, .bool uhg, .int .i64 ug, .int .i64 ul, .int .i64 um, .bool uz] 59)).trans (hx4.drop (by simp)))
  have BR := hide ((BK.new w (Obj.cells #[.int .i64 0, .slice none 0 0, .int .u64 0, .int .u64 0, .bool false, .int .i64 0, .int .i64 0, .int .i64 0, .bool false] 59)).ex X4.out (by simp; omega))
  have hle4 : w3.heap.size + 1 ≤ w4.heap.size := by have := hx4.size; simpa using this
  have hc42 := hg4.c2
  rw [show s3.up.d = s.d + 1 from HS3D.out] at hc42
  have hf42 := hg4.fz 2
  have hl4 := hg4.lt
  have G4 := hide hg4
  have hr3 : r ≠ w3.heap.size := by omega
  have hdd : (((s.d + 1 : Nat) : Int) - 1) = (s.d : Int) := by omega
  have hPR4 := PR.ex (lo' := w2.heap.size) (hi' := w4.heap.size) (PR.ex (lo' := w2.heap.size) (hi' := w3.heap.size) HPR.out ((Ex.refl [] w3).alloc (Obj.cells #[.int .i64 kd, .slice up un uc, .int .u64 ulo, .int .u64 uhi, .bool uhg, .int .i64 ug, .int .i64 ul, .int .i64 um, .bool uz] 59)) (by simp) (Nat.le_refl _) (Nat.le_refl _)) hx4 (by simp; omega) (Nat.le_refl _) (by omega)
  have HPR4 := hide hPR4
  clear hp hm hg4 hx4 M3 G3 X3 hPR4 HPR
  have HAL : Hid ((#[.int .i64 3, .slice (some ⟨w4.heap.size, 0, none⟩) 1 1, .int .u64 0, .int .u64 0, .bool false, .int .i64 (gn : Int), .int .i64 0, .int .i64 0, .bool false] : Array Value).all (·.oneCell') = true) := by show Array.all _ _ = true; simp [Value.oneCell']
  have HSZ : Hid ((Tryd.prog.info? 59).map (·.size) = some (#[.int .i64 3, .slice (some ⟨w4.heap.size, 0, none⟩) 1 1, .int .u64 0, .int .u64 0, .bool false, .int .i64 (gn : Int), .int .i64 0, .int .i64 0, .bool false] : Array Value).size) := partSize
  have RNG : Hid ((w4.setCell ⟨r, 2, none⟩ (.int .i64 (s.d : Int))).rangeAt w3.heap.size 0 [.int .i64 kd, .slice up un uc, .int .u64 ulo, .int .u64 uhi, .bool uhg, .int .i64 ug, .int .i64 ul, .int .i64 um, .bool uz]) := (B4.out.set (p := ⟨r, 2, none⟩) (Ne.symm hr3) _).rangeL
  go_wp2_with (first
    | (refine wpList_load_mid rfl 59 _ rfl w3.heap.size 0 rfl [.int .i64 kd, .slice up un uc, .int .u64 ulo, .int .u64 uhi, .bool uhg, .int .i64 ug, .int .i64 ul, .int .i64 um, .bool uz] _ RNG.out Tryd.underlying59 rfl partSize ?_)
    | (refine wpList_store_row rfl 59 _ _ rfl w.heap.size #[.int .i64 3, .slice (some ⟨w4.heap.size, 0, none⟩) 1 1, .int .u64 0, .int .u64 0, .bool false, .int .i64 (gn : Int), .int .i64 0, .int .i64 0, .bool false] rfl rfl 59 _ (BK.alloc (BK.set BR.out hne _) _) HSZ.out rfl HAL.out ?_))
  refine bodyPost_ret (results_cell1 rfl rfl (loadPart (S := [.int .i64 3, .slice (some ⟨w4.heap.size, 0, none⟩) 1 1, .int .u64 0, .int .u64 0, .bool false, .int .i64 (gn : Int), .int .i64 0, .int .i64 0, .bool false]) (setRow_heap _ _ _ _ _ _ (BK.alloc (BK.set BR.out hne _) _)) rfl)) rfl (Post.mkOk HM.out ?_ ?_ ?_)
  · generalize hW : World.setRow _ _ _ = W
    have hWx : Ex [r, w.heap.size] w4 W := by rw [← hW]; exact (((Ex.refl _ _).setCell (Or.inl (by simp)) _).alloc _).setRow (Or.inl (by simp)) _
    have hWs : W.heap.size = w4.heap.size + 1 := by rw [← hW]; simp [World.setCell]
    have hWb : BK W w4.heap.size (.cells #[.int .i64 kd, .slice up un uc, .int .u64 ulo, .int .u64 uhi, .bool uhg, .int .i64 ug, .int .i64 ul, .int .i64 um, .bool uz] 59 (0, 0)) := by
      rw [← hW]
      unfold BK
      rw [setRow_other _ _ _ _ (by omega)]
      exact newS w4 _ _ _
    refine ⟨⟨3, some ⟨w4.heap.size, 0, none⟩, 1, 1, 0, 0, false, (gn : Int), 0, 0, false⟩, rfl, w4.heap.size, rfl, ⟨by omega, by omega⟩, by omega, ⟨kd, up, un, uc, ulo, uhi, uhg, ug, ul, um, uz⟩, hWb.rangeL, ?_⟩
    exact PR.ex HPR4.out hWx (by simp; omega) (by omega) (by omega)
  · exact RG.row ((depth_set G4.out s.d (s.d : Int) rfl).alloc _) hlt hmlt helt (Nat.le_refl _) _
  · exact Ex.row (((((Ex.refl _ _).alloc _).trans X4.out).setCell (Or.inl (by simp)) _).alloc _) (Nat.le_refl _) _
end Go.Proofs.YtmeffeigamaipaaDoor.G
