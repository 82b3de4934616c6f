/- The pattern reader: branches and expressions. -/
import Derived.Test.YtmeffeigamaipaaDoorM15
set_option linter.unusedVariables false
set_option linter.unusedSimpArgs false
namespace Go.Proofs.YtmeffeigamaipaaDoor.G
open Go.RowKit

def EI (E : RS → Res Pt) : Prop := ∀ a q b, E a = .ok q b → a.g ≤ 5 → a.k ≤ b.k ∧ b.d = a.d ∧ b.f = a.f ∧ b.g ≤ 5

theorem timesM_up {t : ByteArray} {l n : Nat} {s s' : RS} (h : timesM t l s = .ok n s') : s' = s.up := by
  unfold timesM at h
  cases hb : byteAt t s.k with
  | none => rw [hb] at h; cases h
  | some b =>
    rw [hb] at h
    simp only at h
    split at h
    · cases h
    · cases h; rfl
theorem bracesM_ok {t : ByteArray} {s s' : RS} {y : Nat × Int} (h : bracesM t s = .ok y s') : s.k ≤ s'.k ∧ s.like s' := by
  unfold bracesM at h
  obtain ⟨a, s1, h1, h2⟩ := Res.bind_eq_ok h
  have e1 := timesM_up h1
  subst e1
  split at h2
  · cases h2; exact ⟨by show s.k ≤ s.k + 1 + 1; omega, (RS.like_up s).trans (RS.like_up _)⟩
  · obtain ⟨_, s2, h3, h4⟩ := Res.bind_eq_ok h2
    obtain ⟨_, rfl⟩ := mustM_ok h3
    split at h4
    · cases h4; exact ⟨by show s.k ≤ s.k + 1 + 1 + 1; omega, ((RS.like_up s).trans (RS.like_up _)).trans (RS.like_up _)⟩
    · obtain ⟨b, s3, h5, h6⟩ := Res.bind_eq_ok h4
      have e3 := timesM_up h5
      subst e3
      obtain ⟨_, s4, h7, h8⟩ := Res.bind_eq_ok h6
      obtain ⟨_, rfl⟩ := mustM_ok h7
      cases h8
      exact ⟨by show s.k ≤ s.k + 1 + 1 + 1 + 1; omega, (((RS.like_up s).trans (RS.like_up _)).trans (RS.like_up _)).trans (RS.like_up _)⟩
theorem countM_ok {t : ByteArray} {s s' : RS} {y : Option (Nat × Int)} (h : countM t s = .ok y s') : s.k ≤ s'.k ∧ s.like s' := by
  unfold countM at h
  split at h
  · cases h; exact ⟨by show s.k ≤ s.k + 1; omega, RS.like_up s⟩
  split at h
  · cases h; exact ⟨by show s.k ≤ s.k + 1; omega, RS.like_up s⟩
  split at h
  · cases h; exact ⟨by show s.k ≤ s.k + 1; omega, RS.like_up s⟩
  split at h
  · obtain ⟨z, s1, h1, h2⟩ := Res.bind_eq_ok h
    cases h2
    obtain ⟨h3, h4⟩ := bracesM_ok h1
    exact ⟨by have : s.k + 1 ≤ s'.k := h3; omega, (RS.like_up s).trans h4⟩
  · cases h; exact ⟨Nat.le_refl _, RS.like_refl s⟩
theorem setM_ok {t : ByteArray} {s s' : RS} {c : Cls} (h : setM t s = .ok c s') : s.k < s'.k ∧ s.like s' := by
  unfold setM at h
  obtain ⟨_, s1, h1, h2⟩ := Res.bind_eq_ok h
  obtain ⟨_, rfl⟩ := mustM_ok h1
  obtain ⟨c1, s3, h3, h4⟩ := Res.bind_eq_ok h2
  obtain ⟨c2, s4, h5, h6⟩ := Res.bind_eq_ok h4
  cases h6
  obtain ⟨a1, a2⟩ := itemM_ok h3
  obtain ⟨b1, b2⟩ := itemsM_ok _ _ _ _ _ h5
  have hk := RS.took_le s.up t 94
  have hs : s.up.k = s.k + 1 := rfl
  exact ⟨by omega, (((RS.like_up s).trans (RS.took_like _ _ _)).trans a2).trans b2⟩
theorem parenM_ok {t : ByteArray} {E : RS → Res Pt} {s s' : RS} {q : Pt} (hE : EI E) (hg : s.g ≤ 5) (h : parenM t E s = .ok q s') : s.k < s'.k ∧ s'.d = s.d ∧ s'.f = s.f ∧ s'.g ≤ 5 := by
  unfold parenM at h
  split at h
  · cases h
  obtain ⟨_, s1, h1, h2⟩ := Res.bind_eq_ok h
  obtain ⟨_, rfl⟩ := mustM_ok h1
  obtain ⟨gn, s2, h3, h4⟩ := Res.bind_eq_ok h2
  obtain ⟨p, s3, h5, h6⟩ := Res.bind_eq_ok h4
  obtain ⟨_, s4, h7, h8⟩ := Res.bind_eq_ok h6
  obtain ⟨_, rfl⟩ := mustM_ok h7
  cases h8
  obtain ⟨a1, a2, a3, a4, _⟩ := openingM_ok h3 (by exact hg)
  obtain ⟨b1, b2, b3, b4⟩ := hE _ _ _ h5 a4
  have a1' : s.k + 1 ≤ s2.k := a1
  have a2' : s2.d = s.d + 1 := a2
  have a3' : s2.f = s.f := a3
  refine ⟨by show s.k < s3.k + 1; omega, ?_, ?_, b4⟩
  · show s3.d - 1 = s.d; omega
  · show s3.f = s.f; rw [b3, a3']
theorem atomM_ok {t : ByteArray} {E : RS → Res Pt} {s s' : RS} {q : Pt} (hE : EI E) (hg : s.g ≤ 5) (h : atomM t E s = .ok q s') : s.k < s'.k ∧ s'.d = s.d ∧ s'.f = s.f ∧ s'.g ≤ 5 := by
  unfold atomM at h
  cases hb : byteAt t s.k with
  | none => rw [hb] at h; cases h
  | some b =>
    rw [hb] at h
    simp only at h
    split at h
    · exact parenM_ok hE hg h
    split at h
    · obtain ⟨c, s1, h1, h2⟩ := Res.bind_eq_ok h
      cases h2
      obtain ⟨a1, a2⟩ := setM_ok h1
      exact ⟨a1, a2.1, a2.2.1, by rw [a2.2.2.1]; exact hg⟩
    split at h
    · cases h; exact ⟨by show s.k < s.k + 1; omega, rfl, rfl, hg⟩
    split at h
    · obtain ⟨y, s1, h1, h2⟩ := Res.bind_eq_ok h
      cases h2
      have e1 := escapeM_ok h1
      subst e1
      exact ⟨by show s.k < s.k + 1 + 1; omega, rfl, rfl, hg⟩
    · obtain ⟨y, s1, h1, h2⟩ := Res.bind_eq_ok h
      cases h2
      obtain ⟨_, rfl, _⟩ := plainM_ok h1
      exact ⟨by show s.k < s.k + 1; omega, rfl, rfl, hg⟩
theorem pieceM_ok {t : ByteArray} {E : RS → Res Pt} {s s' : RS} {q : Pt} (hE : EI E) (hg : s.g ≤ 5) (h : pieceM t E s = .ok q s') : s.k < s'.k ∧ s'.d = s.d ∧ s'.f = s.f ∧ s'.g ≤ 5 := by
  unfold pieceM at h
  obtain ⟨p, s1, h1, h2⟩ := Res.bind_eq_ok h
  obtain ⟨c, s2, h3, h4⟩ := Res.bind_eq_ok h2
  obtain ⟨a1, a2, a3, a4⟩ := atomM_ok hE hg h1
  obtain ⟨b1, b2⟩ := countM_ok h3
  cases c with
  | none => cases h4; exact ⟨by omega, by rw [b2.1, a2], by rw [b2.2.1, a3], by rw [b2.2.2.1]; exact a4⟩
  | some y =>
    cases h4
    have hk := RS.took_le s2 t 63
    have hl := RS.took_like s2 t 63
    exact ⟨by omega, by rw [hl.1, b2.1, a2], by rw [hl.2.1, b2.2.1, a3], by rw [hl.2.2.1, b2.2.2.1]; exact a4⟩
theorem branchM_ok {t : ByteArray} {E : RS → Res Pt} (hE : EI E) : ∀ (n : Nat) (acc l : List Pt) (s s' : RS), s.g ≤ 5 → branchM t E n acc s = .ok l s' → s.k ≤ s'.k ∧ s'.d = s.d ∧ s'.f = s.f ∧ s'.g ≤ 5
  | 0, _, _, _, _, _, h => by cases h
  | n + 1, acc, l, s, s', hg, h => by
    unfold branchM at h
    split at h
    · cases h; exact ⟨Nat.le_refl _, rfl, rfl, hg⟩
    · obtain ⟨p, s1, h1, h2⟩ := Res.bind_eq_ok h
      obtain ⟨a1, a2, a3, a4⟩ := pieceM_ok hE hg h1
      obtain ⟨b1, b2, b3, b4⟩ := branchM_ok hE n _ _ _ _ a4 h2
      exact ⟨by omega, by rw [b2, a2], by rw [b3, a3], b4⟩
theorem altM_ok {t : ByteArray} {E : RS → Res Pt} (hE : EI E) : ∀ (n : Nat) (acc l : List Pt) (s s' : RS), s.g ≤ 5 → altM t E n acc s = .ok l s' → s.k ≤ s'.k ∧ s'.d = s.d ∧ s'.f = s.f ∧ s'.g ≤ 5
  | 0, _, _, _, _, _, h => by cases h
  | n + 1, acc, l, s, s', hg, h => by
    unfold altM at h
    split at h
    · obtain ⟨p, s1, h1, h2⟩ := Res.bind_eq_ok h
      obtain ⟨a1, a2, a3, a4⟩ := branchM_ok hE _ _ _ _ _ (by exact hg) h1
      obtain ⟨b1, b2, b3, b4⟩ := altM_ok hE n _ _ _ _ a4 h2
      have : s.k + 1 ≤ s1.k := a1
      exact ⟨by omega, by rw [b2, a2]; rfl, by rw [b3, a3]; rfl, b4⟩
    · cases h; exact ⟨Nat.le_refl _, rfl, rfl, hg⟩
theorem exprM_ok {t : ByteArray} {E : RS → Res Pt} (hE : EI E) : EI (exprM t E) := by
  intro a q b h hg
  unfold exprM at h
  obtain ⟨p, s1, h1, h2⟩ := Res.bind_eq_ok h
  obtain ⟨l, s2, h3, h4⟩ := Res.bind_eq_ok h2
  cases h4
  obtain ⟨a1, a2, a3, a4⟩ := branchM_ok hE _ _ _ _ _ hg h1
  obtain ⟨b1, b2, b3, b4⟩ := altM_ok hE _ _ _ _ _ a4 h3
  exact ⟨by omega, by rw [b2, a2], by rw [b3, a3], b4⟩
theorem exprAt_ok (t : ByteArray) : ∀ n, EI (exprAt t n)
  | 0 => fun _ _ _ h => by cases h
  | n + 1 => exprM_ok (exprAt_ok t n)

def AllPR (w : World) (B : Nat → Prop) : List Pt → List PV → Prop
  | [], [] => True
  | q :: l, u :: us => PR w B q u ∧ AllPR w B l us
  | _, _ => False
theorem AllPR.frame {w w' : World} {B B' : Nat → Prop} (hB : ∀ b, B b → B' b) (hs : w.heap.size ≤ w'.heap.size) (hb : ∀ b, B b → b < w.heap.size → w'.heap[b]? = w.heap[b]?) : ∀ (l : List Pt) (us : List PV), AllPR w B l us → AllPR w' B' l us
  | [], [], _ => trivial
  | q :: l, u :: us, h => ⟨PR.frame hB hs hb q u h.1, AllPR.frame hB hs hb l us h.2⟩
  | [], _ :: _, h => h.elim
  | _ :: _, [], h => h.elim
theorem AllPR.snoc {w : World} {B : Nat → Prop} {q : Pt} {u : PV} (hq : PR w B q u) : ∀ (l : List Pt) (us : List PV), AllPR w B l us → AllPR w B (l ++ [q]) (us ++ [u])
  | [], [], _ => ⟨hq, trivial⟩
  | _ :: l, _ :: us, h => ⟨h.1, AllPR.snoc hq l us h.2⟩
  | [], _ :: _, h => h.elim
  | _ :: _, [], h => h.elim
theorem AllPR.prl {w : World} {B : Nat → Prop} {g : Nat} : ∀ (l : List Pt) (us : List PV) (i : Nat), AllPR w B l us → (∀ j v, (us.flatMap PV.cells)[j]? = some v → w.cell? ⟨g, i * 9 + j, none⟩ = some v) → PRL w B g l i
  | [], [], _, _, _ => trivial
  | q :: l, u :: us, i, h, hc => by
    refine ⟨⟨u, fun j v hv => ?_, h.1⟩, AllPR.prl l us (i + 1) h.2 (fun j v hv => ?_)⟩
    · refine hc j v ?_
      rw [List.flatMap_cons, List.getElem?_append_left]
      · exact hv
      · exact (List.getElem?_eq_some_iff.1 hv).1
    · have h9 := hc (9 + j) v (by
        rw [List.flatMap_cons, List.getElem?_append_right (by simp [PV.cells])]
        simpa [PV.cells] using hv)
      rw [show (i + 1) * 9 + j = i * 9 + (9 + j) by omega]
      exact h9
  | [], _ :: _, _, h, _ => h.elim
  | _ :: _, [], _, h, _ => h.elim

theorem infoPart : (Tryd.prog.info? 59).map (fun i => (i.zero, i.size, i.bytes)) = some (some (.agg #[.int .i64 0, .slice none 0 0, .int .u64 0, .int .u64 0, .bool false, .int .i64 0, .int .i64 0, .int .i64 0, .bool false]), 9, 88) := by kernel_rfl
def Bx (lo hi : Nat) (v : Value) (b : Nat) : Prop := lo ≤ b ∧ b < hi ∧ v.ownBlock ≠ some b

theorem rowPart {w W : World} {lo hi : Nat} {v : Value} {acc : List Pt} {us : List PV} (ho : w.ownsRow lo 59 9 v acc.length (us.flatMap PV.cells)) (ha : AllPR w (Bx lo hi v) acc us) (hx : ∀ b, lo ≤ b → b < w.heap.size → W.heap[b]? = w.heap[b]?) (hs : w.heap.size ≤ W.heap.size) (hhi : hi ≤ W.heap.size) {lo' : Nat} (hl : lo' ≤ lo) :
    ∃ p c, v = .slice p acc.length c ∧ ((p = none ∧ acc.length = 0 ∧ c = 0) ∨ ∃ g, p = some ⟨g, 0, none⟩ ∧ acc.length ≤ c ∧ Btw lo' W.heap.size g ∧ g < W.heap.size ∧ PRL W (Btw lo' W.heap.size) g acc 0) := by
  have ha' : AllPR W (Btw lo' W.heap.size) acc us := ha.frame (fun b hb => ⟨by have := hb.1; omega, by have := hb.2.1; omega⟩) hs (fun b hb hlt => hx b hb.1 hlt) acc us
  rcases ho.2 with ⟨rfl, h0⟩ | ⟨g, cap, cur, rfl, hb, hg, hnc, hcm, hcs, htk⟩
  · exact ⟨none, 0, by rw [h0], .inl ⟨rfl, h0, rfl⟩⟩
  · have hgl : g < w.heap.size := (Array.getElem?_eq_some_iff.1 hg).1
    refine ⟨_, cap, rfl, .inr ⟨g, rfl, hnc, ⟨by omega, by omega⟩, by omega, ha'.prl acc us 0 (fun j y hy => ?_)⟩⟩
    rw [World.cell?_of_block (hx g hb hgl), cell_of_row w g _ cur 59 (0, 0) hg]
    have hj : j < acc.length * 9 := by have := (List.getElem?_eq_some_iff.1 hy).1; rw [ho.1] at this; exact this
    rw [← htk, List.getElem?_take, if_pos hj] at hy
    simpa using hy

set_option maxHeartbeats 4000000 in
set_option maxRecDepth 100000 in
theorem gBranch {w : World} {r mb : Nat} {t : ByteArray} {x : EV} {s : RS} {E : RS → Res Pt} (h : RG w r mb t x s) (hnp : NP t) (hg5 : s.g ≤ 5) (hd6 : s.d ≤ 6) (hE : s.d < 6 → EC t r mb x (s.d + 1) E) (hEi : EI E) :
    Calls Tryd.prog 42 #[.pointer (some ⟨r, 0, none⟩)] w fun e w' => Post [r, mb] r mb t x w (fun w' v l => RP w.heap.size w' v (.seq l)) (branchM t E (t.size + 1) [] s) e w' := by
  obtain ⟨i0, hi, hz0, hz1, hz2⟩ := info_parts infoPart
  have hlt := h.lt
  have hmlt := h.mlt
  have helt := h.elt
  have ht := h.ht
  have hk := h.hk
  have hne : w.heap.size ≠ r := by omega
  have H := hide h
  have HEI := hide hEi
  have KP : Hid (∀ (w : World) (s' : RS), RG w r mb t x s' → s'.g ≤ 5 → s'.d = s.d → Calls Tryd.prog 49 #[.pointer (some ⟨r, 0, none⟩)] w fun e w' => Post [r, mb] r mb t x w (RP w.heap.size) (pieceM t E s') e w') :=
    fun w s' h hg hd => gPiece h hnp hg (by omega) (by rw [hd]; exact hE) (fun a q b h1 h2 => (hEi a q b h1 h2).2.1)
  obtain ⟨R, hR⟩ : ∃ R, branchM t E (t.size + 1) [] s = R := ⟨_, rfl⟩
  have HR := hide hR
  rw [hR]
  clear h hnp hE hEi hR
  go_enter Tryd.func42, Tryd.ntmps42
  go_wp2_with fail
  go_loopg [3] t.size (fun gk v3 wr => ∃ (acc : List Pt) (us : List PV) (s' : RS), branchM t E (gk + 1) acc s' = R ∧ t.size - s'.k ≤ gk ∧ acc.length ≤ s'.k ∧ RG wr r mb t x s' ∧ s'.g ≤ 5 ∧ s'.d = s.d ∧ wr.ownsRow (w.heap.size + 1) 59 9 v3 acc.length (us.flatMap PV.cells) ∧ AllPR wr (Bx (w.heap.size + 1) wr.heap.size v3) acc us ∧ Ex [r, mb] (w.alloc (Obj.cells #[.int .i64 0, .slice none 0 0, .int .u64 0, .int .u64 0, .bool false, .int .i64 0, .int .i64 0, .int .i64 0, .bool false] 59)) wr)
  case atStart => exact ⟨[], [], s, HR.out, by omega, Nat.zero_le _, H.out.alloc _, hg5, rfl, World.ownsRow_nil _ _ _ _, trivial, Ex.refl _ _⟩
  case round =>
    obtain ⟨acc, us, s', hRc, hfu, hal, hg, hsg, hsd, hown, hall, hx⟩ := hrel
    have HX := hide hx
    have HRC := hide hRc
    have HG := hide hg
    have HALL := hide hall
    have HO := hide hown
    have HSD := hide hsd
    have hsk := hg.hk
    have hzr : w.heap.size + 1 ≤ wr.heap.size := by have := hx.size; simpa using this
    obtain ⟨p3, c3, rfl⟩ := own_slice hown
    clear hx hRc hg hall hown hsd
    go_wp2_with fail
    refine (gEnded HG.out).mono ?_
    rintro e w1 ⟨rfl, n1, hw1⟩
    have G1 : Hid (RG w1 r mb t x s') := by rw [hw1]; exact HG.out.drewN _
    have X1 : Hid (Ex [] wr w1) := by rw [hw1]; exact (Ex.refl _ _).drewN _
    have hs1 : Hid (w1.heap.size = wr.heap.size) := by show w1.heap.size = wr.heap.size; rw [hw1]; rfl
    clear hw1
    by_cases hend : s'.k = t.size
    · rw [decide_eq_true hend]
      have MR : Hid (R = .ok acc s') := by show R = _; rw [← HRC.out]; unfold branchM; rw [if_pos (Or.inl hend)]
      clear hend
      have HXX := hide (HX.out.trans (X1.out.drop (by simp)))
      have BR := hide ((BK.new w (Obj.cells #[.int .i64 0, .slice none 0 0, .int .u64 0, .int .u64 0, .bool false, .int .i64 0, .int .i64 0, .int .i64 0, .bool false] 59)).ex HXX.out (by simp; omega))
      have HAL : Hid ((#[.int .i64 1, .slice p3 acc.length c3, .int .u64 0, .int .u64 0, .bool false, .int .i64 0, .int .i64 0, .int .i64 0, .bool false] : Array Value).all (·.oneCell') = true) := by show Array.all _ _ = true; simp [Value.oneCell']
      have HSZ : Hid ((Tryd.prog.info? 59).map (·.size) = some (#[.int .i64 1, .slice p3 acc.length c3, .int .u64 0, .int .u64 0, .bool false, .int .i64 0, .int .i64 0, .int .i64 0, .bool false] : Array Value).size) := partSize
      go_wp2_with (refine wpList_store_row rfl 59 _ _ rfl w.heap.size #[.int .i64 1, .slice p3 acc.length c3, .int .u64 0, .int .u64 0, .bool false, .int .i64 0, .int .i64 0, .int .i64 0, .bool false] rfl rfl 59 _ BR.out HSZ.out rfl HAL.out ?_)
      refine bodyPost_ret (results_cell1 rfl rfl (loadPart (S := [.int .i64 1, .slice p3 acc.length c3, .int .u64 0, .int .u64 0, .bool false, .int .i64 0, .int .i64 0, .int .i64 0, .bool false]) (setRow_heap _ _ _ _ _ _ BR.out) rfl)) rfl (Post.mkOk MR.out ?_ ?_ ?_)
      · generalize hW : World.setRow _ _ _ = W
        have hWx : Ex [w.heap.size] wr W := by rw [← hW]; exact (X1.out.drop (by simp)).setRow (Or.inl (by simp)) _
        obtain ⟨p, c, hv, hrow⟩ := rowPart (W := W) HO.out HALL.out (fun b hb hlt => hWx.block b hlt (by simp; omega)) hWx.size hWx.size (lo' := w.heap.size) (by omega)
        cases hv
        exact ⟨⟨1, p3, acc.length, c3, 0, 0, false, 0, 0, 0, false⟩, rfl, p3, acc.length, c3, rfl, rfl, hrow⟩
      · exact RG.row G1.out hlt hmlt helt (Nat.le_refl _) _
      · exact Ex.row (((Ex.refl _ _).alloc _).trans HXX.out) (Nat.le_refl _) _
    rw [decide_eq_false hend]
    go_wp2_with fail
    refine (gSees G1.out 124 124 rfl).mono ?_
    rintro e w2 ⟨rfl, n2, hw2⟩
    have G2 : Hid (RG w2 r mb t x s') := by rw [hw2]; exact G1.out.drewN _
    have X2 : Hid (Ex [] wr w2) := by rw [hw2]; exact X1.out.drewN _
    have hs2 : Hid (w2.heap.size = wr.heap.size) := by show w2.heap.size = wr.heap.size; rw [hw2]; exact hs1.out
    clear hw2 G1 X1
    cases hq : seesM t s' 124 with
    | true =>
      have MR : Hid (R = .ok acc s') := by show R = _; rw [← HRC.out]; unfold branchM; rw [if_pos (Or.inr (Or.inl hq))]
      clear hq hend
      have HXX := hide (HX.out.trans (X2.out.drop (by simp)))
      have BR := hide ((BK.new w (Obj.cells #[.int .i64 0, .slice none 0 0, .int .u64 0, .int .u64 0, .bool false, .int .i64 0, .int .i64 0, .int .i64 0, .bool false] 59)).ex HXX.out (by simp; omega))
      have HAL : Hid ((#[.int .i64 1, .slice p3 acc.length c3, .int .u64 0, .int .u64 0, .bool false, .int .i64 0, .int .i64 0, .int .i64 0, .bool false] : Array Value).all (·.oneCell') = true) := by show Array.all _ _ = true; simp [Value.oneCell']
      have HSZ : Hid ((Tryd.prog.info? 59).map (·.size) = some (#[.int .i64 1, .slice p3 acc.length c3, .int .u64 0, .int .u64 0, .bool false, .int .i64 0, .int .i64 0, .int .i64 0, .bool false] : Array Value).size) := partSize
      go_wp2_with (refine wpList_store_row rfl 59 _ _ rfl w.heap.size #[.int .i64 1, .slice p3 acc.length c3, .int .u64 0, .int .u64 0, .bool false, .int .i64 0, .int .i64 0, .int .i64 0, .bool false] rfl rfl 59 _ BR.out HSZ.out rfl HAL.out ?_)
      refine bodyPost_ret (results_cell1 rfl rfl (loadPart (S := [.int .i64 1, .slice p3 acc.length c3, .int .u64 0, .int .u64 0, .bool false, .int .i64 0, .int .i64 0, .int .i64 0, .bool false]) (setRow_heap _ _ _ _ _ _ BR.out) rfl)) rfl (Post.mkOk MR.out ?_ ?_ ?_)
      · generalize hW : World.setRow _ _ _ = W
        have hWx : Ex [w.heap.size] wr W := by rw [← hW]; exact (X2.out.drop (by simp)).setRow (Or.inl (by simp)) _
        obtain ⟨p, c, hv, hrow⟩ := rowPart (W := W) HO.out HALL.out (fun b hb hlt => hWx.block b hlt (by simp; omega)) hWx.size hWx.size (lo' := w.heap.size) (by omega)
        cases hv
        exact ⟨⟨1, p3, acc.length, c3, 0, 0, false, 0, 0, 0, false⟩, rfl, p3, acc.length, c3, rfl, rfl, hrow⟩
      · exact RG.row G2.out hlt hmlt helt (Nat.le_refl _) _
      · exact Ex.row (((Ex.refl _ _).alloc _).trans HXX.out) (Nat.le_refl _) _
    | false =>
    have Q1 := hide hq
    clear hq
    go_wp2_with fail
    refine (gSees G2.out 41 41 rfl).mono ?_
    rintro e w3 ⟨rfl, n3, hw3⟩
    have G3 : Hid (RG w3 r mb t x s') := by rw [hw3]; exact G2.out.drewN _
    have X3 : Hid (Ex [] wr w3) := by rw [hw3]; exact X2.out.drewN _
    have hs3 : Hid (w3.heap.size = wr.heap.size) := by show w3.heap.size = wr.heap.size; rw [hw3]; exact hs2.out
    clear hw3 G2 X2
    cases hq : seesM t s' 41 with
    | true =>
      have MR : Hid (R = .ok acc s') := by show R = _; rw [← HRC.out]; unfold branchM; rw [if_pos (Or.inr (Or.inr hq))]
      clear hq hend
      have HXX := hide (HX.out.trans (X3.out.drop (by simp)))
      have BR := hide ((BK.new w (Obj.cells #[.int .i64 0, .slice none 0 0, .int .u64 0, .int .u64 0, .bool false, .int .i64 0, .int .i64 0, .int .i64 0, .bool false] 59)).ex HXX.out (by simp; omega))
      have HAL : Hid ((#[.int .i64 1, .slice p3 acc.length c3, .int .u64 0, .int .u64 0, .bool false, .int .i64 0, .int .i64 0, .int .i64 0, .bool false] : Array Value).all (·.oneCell') = true) := by show Array.all _ _ = true; simp [Value.oneCell']
      have HSZ : Hid ((Tryd.prog.info? 59).map (·.size) = some (#[.int .i64 1, .slice p3 acc.length c3, .int .u64 0, .int .u64 0, .bool false, .int .i64 0, .int .i64 0, .int .i64 0, .bool false] : Array Value).size) := partSize
      go_wp2_with (refine wpList_store_row rfl 59 _ _ rfl w.heap.size #[.int .i64 1, .slice p3 acc.length c3, .int .u64 0, .int .u64 0, .bool false, .int .i64 0, .int .i64 0, .int .i64 0, .bool false] rfl rfl 59 _ BR.out HSZ.out rfl HAL.out ?_)
      refine bodyPost_ret (results_cell1 rfl rfl (loadPart (S := [.int .i64 1, .slice p3 acc.length c3, .int .u64 0, .int .u64 0, .bool false, .int .i64 0, .int .i64 0, .int .i64 0, .bool false]) (setRow_heap _ _ _ _ _ _ BR.out) rfl)) rfl (Post.mkOk MR.out ?_ ?_ ?_)
      · generalize hW : World.setRow _ _ _ = W
        have hWx : Ex [w.heap.size] wr W := by rw [← hW]; exact (X3.out.drop (by simp)).setRow (Or.inl (by simp)) _
        obtain ⟨p, c, hv, hrow⟩ := rowPart (W := W) HO.out HALL.out (fun b hb hlt => hWx.block b hlt (by simp; omega)) hWx.size hWx.size (lo' := w.heap.size) (by omega)
        cases hv
        exact ⟨⟨1, p3, acc.length, c3, 0, 0, false, 0, 0, 0, false⟩, rfl, p3, acc.length, c3, rfl, rfl, hrow⟩
      · exact RG.row G3.out hlt hmlt helt (Nat.le_refl _) _
      · exact Ex.row (((Ex.refl _ _).alloc _).trans HXX.out) (Nat.le_refl _) _
    | false =>
    have HRN : Hid (R = (pieceM t E s').bind fun p s'' => branchM t E gk (acc ++ [p]) s'') := by show R = _; rw [← HRC.out]; (conv => lhs; unfold branchM); rw [if_neg (by simp [hend, Q1.out, hq])]
    clear hq
    go_wp2_with fail
    refine (KP.out _ s' G3.out hsg HSD.out).mono ?_
    rintro e w4 hp
    rcases hp.split with ⟨q, s4, v, hm, rfl, hRP, hg4, hx4⟩ | ⟨s9, hm, rfl, hg, hx⟩
    rotate_left
    · exact body_panic rfl (Post.mkBad (by rw [HRN.out, hm]; rfl) hg (((Ex.refl _ _).alloc _).trans (HX.out.trans ((X3.out.drop (by simp)).trans hx))))
    obtain ⟨u, rfl, hpr⟩ := hRP
    obtain ⟨hk4, hd4, _, hg45⟩ := pieceM_ok HEI.out hsg hm
    have hkt := hg4.hk
    obtain ⟨g, rfl⟩ : ∃ g, gk = g + 1 := ⟨gk - 1, by omega⟩
    have HRB : Hid (branchM t E (g + 1) (acc ++ [q]) s4 = R) := by show _ = R; rw [HRN.out, hm]; rfl
    have HD4 := hide (hd4.trans HSD.out)
    have G4 := hide hg4
    have X4 : Hid (Ex [r, mb] wr w4) := (X3.out.drop (by simp)).trans hx4
    have hle4 : wr.heap.size ≤ w4.heap.size := X4.out.size
    have HPR := hide hpr
    have HU := hide u.all_one
    obtain ⟨xs, hxs⟩ : ∃ xs, us.flatMap PV.cells = xs := ⟨_, rfl⟩
    have HXS := hide hxs
    rw [hxs] at HO
    have hown4 := own_ex HO.out X4.out (by simp; omega)
    have hownB : ∀ k, (Value.slice p3 acc.length c3).ownBlock = some k → w.heap.size + 1 ≤ k ∧ k < wr.heap.size := fun k hk => HO.out.lt k hk
    have HOB := hide hownB
    obtain ⟨n, hn⟩ : ∃ n, acc.length = n := ⟨_, rfl⟩
    have HNN := hide hn
    rw [hn] at hown4 HO HOB hal ⊢
    have HALL2 := HALL
    rw [hn] at HALL2
    clear hp hm hg4 hx4 hd4 hpr hxs hownB hn HALL
    have HS1 := HPR
    obtain ⟨kd, up, un, uc, ulo, uhi, uhg, ug, ul, um, uz⟩ := u
    unfold PV.val
    unfold PV.cells at HU
    have H4 := hide hown4
    clear hown4
    go_wp2_with (at_builtin; refine wpList_append_lies _ rfl (.tmp 17) (.tmp 20) 53 rfl (w.heap.size + 1) 59 i0 (.agg #[.int .i64 0, .slice none 0 0, .int .u64 0, .int .u64 0, .bool false, .int .i64 0, .int .i64 0, .int .i64 0, .bool false]) 9 88 Tryd.underlying53 hi hz0 hz1 hz2 rfl (by decide) (.slice p3 n c3) n xs rfl (H4.out.alloc _) ⟨w4.heap.size, 0, none⟩ 1 1 [.int .i64 kd, .slice up un uc, .int .u64 ulo, .int .u64 uhi, .bool uhg, .int .i64 ug, .int .i64 ul, .int .i64 um, .bool uz] rfl rfl (cells_new _ _ _) HU.out (by decide) (by unfold maxLen; omega) (by omega) (by simp; omega) (w4.heap.size + 1) (by simp) ?_)
    intro gb cap w5 hown5 hgrow hcase hlt5
    have hob5 := own_block hown5
    have HO5 := hide hown5
    have HGR := hide hgrow
    have HCA := hide hcase
    clear hown5 hgrow hcase
    go_wp2
    go_roundg g
    case measure => omega
    case rel =>
      have hx5 : ∀ b, b < w4.heap.size → (Value.slice p3 n c3).ownBlock ≠ some b → w5.heap[b]? = w4.heap[b]? := fun b hb hn => by
        rw [HGR.out.block b (by simp; omega) (fun e => hn e.symm)]
        exact Below.heap_alloc _ _ _ hb
      have hsz5 : w4.heap.size + 1 ≤ w5.heap.size := by have := HGR.out.size; simpa using this
      have hgb : ∀ b, b < w4.heap.size → (Value.slice p3 n c3).ownBlock ≠ some b → gb ≠ b := fun b hb hn e => by
        rcases HCA.out with h1 | h1
        · exact hn (by rw [h1, e])
        · omega
      refine ⟨acc ++ [q], us ++ [⟨kd, up, un, uc, ulo, uhi, uhg, ug, ul, um, uz⟩], s4, HRB.out, by omega, by simp; have := HNN.out; omega, ?_, hg45, HD4.out, ?_, ?_, ?_⟩
      · have hxg : Ex ((Value.slice p3 n c3).ownBlock).toList w4 w5 := Ex.grown ((Ex.refl _ _).alloc _) HGR.out (fun k hk => Or.inl (by simp [hk]))
        refine RG.ex G4.out hxg (fun hm => ?_) (fun hm => ?_) (fun hm => ?_)
        all_goals
          have h9 := HOB.out _ (by simpa using hm)
          omega
      · have h9 := HO5.out
        rw [← HXS.out] at h9
        rw [List.length_append, HNN.out, List.flatMap_append]
        simpa [PV.cells] using h9
      · refine AllPR.snoc ?_ acc us ?_
        · refine PR.frame ?_ (by omega) ?_ q _ HPR.out
          · intro b hb
            have h1 := hb.1
            have h2 := hb.2
            rw [hs3.out] at h1
            have hnb : (Value.slice p3 n c3).ownBlock ≠ some b := fun e => by have := HOB.out b e; omega
            refine ⟨by omega, by omega, ?_⟩
            intro e
            exact hgb b h2 hnb (Option.some.inj e)
          · intro b hb hl
            have h1 := hb.1
            rw [hs3.out] at h1
            exact hx5 b hl (fun e => by have := HOB.out b e; omega)
        · refine AllPR.frame ?_ (by omega) ?_ acc us HALL2.out
          · intro b hb
            exact ⟨hb.1, by have := hb.2.1; omega, fun e => hgb b (by have := hb.2.1; omega) hb.2.2 (Option.some.inj e)⟩
          · intro b hb hl
            rw [hx5 b (by omega) hb.2.2]
            exact X4.out.block b hl (by have := hb.1; simp; omega)
      · exact Ex.grown ((HX.out.trans X4.out).alloc _) HGR.out (fun j hj => Or.inr (by have := HOB.out j hj; simp; omega))
end Go.Proofs.YtmeffeigamaipaaDoor.G
