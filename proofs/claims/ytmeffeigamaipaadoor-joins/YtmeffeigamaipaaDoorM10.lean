/- The pattern reader: single runes, sets. -/
import Derived.Test.YtmeffeigamaipaaDoorM09
import Derived.Test.YtmeffeigamaipaaDoorM01
set_option linter.unusedVariables false
set_option linter.unusedSimpArgs false
namespace Go.Proofs.YtmeffeigamaipaaDoor.G
open Go.RowKit

def partV (c : Cls) : Value := .agg #[.int .i64 0, .slice none 0 0, .int .u64 c.lo, .int .u64 c.hi, .bool c.hg, .int .i64 0, .int .i64 0, .int .i64 0, .bool false]

set_option maxHeartbeats 1000000 in
set_option maxRecDepth 100000 in
theorem singleOf_any (r : Nat) (t : ByteArray) (k : Nat) (mv : Rest) (c : Cls) (w : World) (hr : RD w r t k mv) :
    Calls Tryd.prog 61 #[.pointer (some ⟨r, 0, none⟩), clsV c] w fun e w' => e = .returned (partV (sing mv.f c)) ∧ Ex [] w w' := by
  have h3 := hr.c3
  have hlt := hr.lt
  have KB := hide (fun w => bothCases_any c w)
  clear hr
  unfold clsV sing
  obtain ⟨d, f, g, m⟩ := mv
  simp only at h3
  cases f with
  | false =>
    go_enter Tryd.func61, Tryd.ntmps61
    go_wp2_with fail
    refine bodyPost_ret (v := partV c) (by simp [results, Tryd.results61, go_sem, partV]) rfl ⟨by simp, ?_⟩
    repeat (first | exact Ex.refl _ _ | refine Ex.setCell ?_ (Or.inr (by simp)) _ | refine Ex.alloc ?_ _)
  | true =>
    obtain ⟨b, hb⟩ : ∃ b, bothC c = b := ⟨_, rfl⟩
    rw [hb] at KB ⊢
    go_enter Tryd.func61, Tryd.ntmps61
    go_wp2_with fail
    refine (KB.out _).mono ?_
    rintro e w1 ⟨rfl, hx1⟩
    have hB0 := BK.ex ((BK.new w (Obj.cells #[.int .u64 c.lo, .int .u64 c.hi, .bool c.hg] 57)).alloc (Obj.cells #[.int .i64 0, .slice none 0 0, .int .u64 0, .int .u64 0, .bool false, .int .i64 0, .int .i64 0, .int .i64 0, .bool false] 59)) hx1 (by simp)
    have hB1 := BK.ex (BK.new (w.alloc (Obj.cells #[.int .u64 c.lo, .int .u64 c.hi, .bool c.hg] 57)) (Obj.cells #[.int .i64 0, .slice none 0 0, .int .u64 0, .int .u64 0, .bool false, .int .i64 0, .int .i64 0, .int .i64 0, .bool false] 59)) hx1 (by simp)
    simp only [World.size_alloc] at hB1
    obtain ⟨hc0, hf0⟩ := hB0.all
    obtain ⟨hc1, hf1⟩ := hB1.all
    have hl0 := hB0.lt
    have hl1 := hB1.lt
    have HX1 := hide hx1
    clear hB0 hB1 hx1
    unfold clsV
    go_wp2_with fail
    refine bodyPost_ret (v := partV b) (by simp [results, Tryd.results61, go_sem, partV, hc1, hl1]) rfl ⟨by simp, ?_⟩
    repeat (refine Ex.setCell ?_ (Or.inr (by simp)) _)
    exact (((Ex.refl _ _).alloc _).alloc _).trans HX1.out


theorem nine {cs : Array Value} (h : cs.size = 9) : ∃ x0 x1 x2 x3 x4 x5 x6 x7 x8, cs = #[x0, x1, x2, x3, x4, x5, x6, x7, x8] := by
  obtain ⟨l⟩ := cs
  match l, h with
  | [x0, x1, x2, x3, x4, x5, x6, x7, x8], _ => exact ⟨x0, x1, x2, x3, x4, x5, x6, x7, x8, rfl⟩
theorem BK_fill9 {w : World} {b : Nat} {cs : Array Value} {e : TypeId} (h : BK w b (.cells cs e (0, 0))) (hs : cs.size = 9) (a0 a1 a2 a3 a4 a5 a6 a7 a8 : Value) :
    BK (((((((((w.setCell ⟨b, 0, none⟩ a0).setCell ⟨b, 1, none⟩ a1).setCell ⟨b, 2, none⟩ a2).setCell ⟨b, 3, none⟩ a3).setCell ⟨b, 4, none⟩ a4).setCell ⟨b, 5, none⟩ a5).setCell ⟨b, 6, none⟩ a6).setCell ⟨b, 7, none⟩ a7).setCell ⟨b, 8, none⟩ a8) b (.cells #[a0, a1, a2, a3, a4, a5, a6, a7, a8] e (0, 0)) := by
  obtain ⟨x0, x1, x2, x3, x4, x5, x6, x7, x8, rfl⟩ := nine hs
  have h0 := h.self 0 a0; simp only [List.setIfInBounds_toArray, List.set_cons_zero] at h0
  have h1 := h0.self 1 a1; simp only [List.setIfInBounds_toArray, List.set_cons_zero, List.set_cons_succ] at h1
  have h2 := h1.self 2 a2; simp only [List.setIfInBounds_toArray, List.set_cons_zero, List.set_cons_succ] at h2
  have h3 := h2.self 3 a3; simp only [List.setIfInBounds_toArray, List.set_cons_zero, List.set_cons_succ] at h3
  have h4 := h3.self 4 a4; simp only [List.setIfInBounds_toArray, List.set_cons_zero, List.set_cons_succ] at h4
  have h5 := h4.self 5 a5; simp only [List.setIfInBounds_toArray, List.set_cons_zero, List.set_cons_succ] at h5
  have h6 := h5.self 6 a6; simp only [List.setIfInBounds_toArray, List.set_cons_zero, List.set_cons_succ] at h6
  have h7 := h6.self 7 a7; simp only [List.setIfInBounds_toArray, List.set_cons_zero, List.set_cons_succ] at h7
  have h8 := h7.self 8 a8; simp only [List.setIfInBounds_toArray, List.set_cons_zero, List.set_cons_succ] at h8
  exact h8
theorem Ex_fill9 (w : World) (b : Nat) (a0 a1 a2 a3 a4 a5 a6 a7 a8 : Value) :
    Ex [b] w (((((((((w.setCell ⟨b, 0, none⟩ a0).setCell ⟨b, 1, none⟩ a1).setCell ⟨b, 2, none⟩ a2).setCell ⟨b, 3, none⟩ a3).setCell ⟨b, 4, none⟩ a4).setCell ⟨b, 5, none⟩ a5).setCell ⟨b, 6, none⟩ a6).setCell ⟨b, 7, none⟩ a7).setCell ⟨b, 8, none⟩ a8) := by
  repeat (refine Ex.setCell ?_ (Or.inl (by simp)) _)
  exact Ex.refl _ _

theorem escapeM_ok {t : ByteArray} {s s' : RS} {y : Cls × UInt8 × Bool} (h : escapeM t s = .ok y s') : s' = s.up := by
  unfold escapeM at h
  cases hb : byteAt t s.k with
  | none => rw [hb] at h; cases h
  | some b =>
    rw [hb] at h
    simp only at h
    by_cases hin : b ∈ escL
    · rw [if_pos hin] at h; cases h; rfl
    · rw [if_neg hin] at h
      cases ho : shortM b with
      | none => rw [ho] at h; cases h
      | some c => rw [ho] at h; cases h; rfl
def RS.like (s s' : RS) : Prop := s'.d = s.d ∧ s'.f = s.f ∧ s'.g = s.g ∧ s'.nm = s.nm
theorem RS.like_refl (s : RS) : s.like s := ⟨rfl, rfl, rfl, rfl⟩
theorem RS.like_up (s : RS) : s.like s.up := ⟨rfl, rfl, rfl, rfl⟩
theorem RS.like.trans {a b c : RS} (h : a.like b) (k : b.like c) : a.like c := ⟨k.1.trans h.1, k.2.1.trans h.2.1, k.2.2.1.trans h.2.2.1, k.2.2.2.trans h.2.2.2⟩
theorem RS.took_like (s : RS) (t : ByteArray) (b : UInt8) : s.like (s.took t b) := by
  unfold RS.took; split
  · exact RS.like_up s
  · exact RS.like_refl s
theorem RS.took_le (s : RS) (t : ByteArray) (b : UInt8) : s.k ≤ (s.took t b).k := by
  unfold RS.took; split
  · exact Nat.le_succ _
  · exact Nat.le_refl _
theorem Res.bind_eq_ok {α β : Type} {m : Res α} {f : α → RS → Res β} {b : β} {s' : RS} (h : m.bind f = .ok b s') : ∃ a s, m = .ok a s ∧ f a s = .ok b s' := by
  cases m with
  | ok a s => exact ⟨a, s, rfl, h⟩
  | bad s => cases h

theorem pairEndM_ok {t : ByteArray} {f b : UInt8} {s s' : RS} (h : pairEndM t f s = .ok b s') : s.k < s'.k ∧ s.like s' := by
  by_cases hc : f.toNat ≤ 125 ∧ seesM t s 92 = true
  · rw [pairEndM_esc hc.1 hc.2] at h
    cases hb : byteAt t s.up.k with
    | none => rw [hb] at h; cases h
    | some b' =>
      rw [hb] at h
      simp only at h
      split at h
      · cases h
      · split at h
        · cases h; exact ⟨by show s.k < s.k + 1 + 1; omega, (RS.like_up s).trans (RS.like_up _)⟩
        · cases h
  · rw [pairEndM_not (by
      by_cases h1 : f.toNat ≤ 125
      · right; cases h2 : seesM t s 92 with
        | false => rfl
        | true => exact absurd ⟨h1, h2⟩ hc
      · exact Or.inl h1)] at h
    cases hb : byteAt t s.k with
    | none => rw [hb] at h; cases h
    | some b' =>
      rw [hb] at h
      simp only at h
      split at h
      · cases h
      · obtain ⟨_, rfl, _⟩ := plainM_ok h
        exact ⟨by show s.k < s.k + 1; omega, RS.like_up s⟩
theorem itemTail_ok {t : ByteArray} {b : UInt8} {s s' : RS} {c : Cls} (h : itemTail t b s = .ok c s') : s.k ≤ s'.k ∧ s.like s' := by
  unfold itemTail at h
  split at h
  · obtain ⟨e, s1, h1, h2⟩ := Res.bind_eq_ok h
    cases h2
    obtain ⟨h3, h4⟩ := pairEndM_ok h1
    exact ⟨by have : s.k + 1 < s'.k := h3; omega, (RS.like_up s).trans h4⟩
  · cases h; exact ⟨Nat.le_refl _, RS.like_refl s⟩
theorem itemM_ok {t : ByteArray} {s s' : RS} {c : Cls} (h : itemM t s = .ok c s') : s.k < s'.k ∧ s.like s' := by
  unfold itemM at h
  split at h
  · obtain ⟨y, s1, h1, h2⟩ := Res.bind_eq_ok h
    have h3 := escapeM_ok h1
    subst h3
    split at h2
    · obtain ⟨h4, h5⟩ := itemTail_ok h2
      exact ⟨by have : s.k + 1 + 1 ≤ s'.k := h4; omega, ((RS.like_up s).trans (RS.like_up _)).trans h5⟩
    · cases h2; exact ⟨by show s.k < s.k + 1 + 1; omega, (RS.like_up s).trans (RS.like_up _)⟩
  · obtain ⟨b, s1, h1, h2⟩ := Res.bind_eq_ok h
    obtain ⟨_, rfl, _⟩ := plainM_ok h1
    obtain ⟨h4, h5⟩ := itemTail_ok h2
    exact ⟨by have : s.k + 1 ≤ s'.k := h4; omega, (RS.like_up s).trans h5⟩
theorem itemsM_ok {t : ByteArray} : ∀ (n : Nat) (c c' : Cls) (s s' : RS), itemsM t n c s = .ok c' s' → s.k < s'.k ∧ s.like s'
  | 0, c, c', s, s', h => by cases h
  | n + 1, c, c', s, s', h => by
    unfold itemsM at h
    split at h
    · cases h; exact ⟨by show s.k < s.k + 1; omega, RS.like_up s⟩
    · obtain ⟨d, s1, h1, h2⟩ := Res.bind_eq_ok h
      obtain ⟨h3, h4⟩ := itemM_ok h1
      obtain ⟨h5, h6⟩ := itemsM_ok n _ _ _ _ h2
      exact ⟨by omega, h4.trans h6⟩

theorem partSize : (Tryd.prog.info? 59).map (·.size) = some 9 := by kernel_rfl
theorem loadPart {W : World} {b : Nat} {S : List Value} (hb : BK W b (.cells S.toArray 59 (0, 0))) (hS : S.length = 9) : (loadVar 59 ⟨b, 0, none⟩).run Tryd.prog W = .ok (.agg S.toArray) W :=
  run_loadVar_mid W b 0 _ S _ hb.rangeL Tryd.underlying59 rfl (by rw [hS]; exact partSize)
theorem RG.row {w : World} {r mb : Nat} {t : ByteArray} {x : EV} {s : RS} {B : Nat} (h : RG w r mb t x s) {g : Nat} (h1 : r < B) (h2 : mb < B) (h3 : 0 < B) (hp : B ≤ g) (cs : Array Value) : RG (w.setRow g cs) r mb t x s :=
  h.ex (l := [g]) ((Ex.refl _ _).setRow (.inl (by simp)) _) (by simp; omega) (by simp; omega) (by simp; omega)
theorem Ex.row {l : List Nat} {a w : World} (h : Ex l a w) {g : Nat} (hp : a.heap.size ≤ g) (cs : Array Value) : Ex l a (w.setRow g cs) :=
  h.setRow (.inr hp) _

set_option maxHeartbeats 2000000 in
set_option maxRecDepth 100000 in
theorem gSet {w : World} {r mb : Nat} {t : ByteArray} {x : EV} {s : RS} (h : RG w r mb t x s) :
    Calls Tryd.prog 58 #[.pointer (some ⟨r, 0, none⟩)] w fun e w' => Post [r] r mb t x w (fun _ v c => v = partV c) (setM t s) e w' := by
  have hlt := h.lt
  have hmlt := h.mlt
  have helt := h.elt
  have ht := h.ht
  have hne : w.heap.size ≠ r := by omega
  have H := hide h
  clear h
  go_enter Tryd.func58, Tryd.ntmps58
  go_wp2_with fail
  refine (gMust (H.out.alloc _) 91 91 rfl).mono ?_
  rintro e w1 hp
  rcases hp.split with ⟨_, s1, v, hm, rfl, rfl, hg1, hx1⟩ | ⟨s', hm, rfl, hg, hx⟩
  rotate_left
  · exact body_panic rfl (Post.mkBad (by simp only [setM, hm, Res.bind_bad]) hg (((Ex.refl _ _).alloc _).trans hx))
  have M1 := hide hm
  have G1 := hide hg1
  have X1 := hide hx1
  clear hp hm hg1 hx1
  go_wp2_with fail
  refine (gTakes G1.out 94 94 rfl).mono ?_
  rintro e w2 ⟨rfl, hg2, hx2⟩
  have G2 := hide hg2
  have X2 := hide (X1.out.trans hx2)
  clear hg2 hx2
  obtain ⟨inv, hinv⟩ : ∃ inv, seesM t s1 94 = inv := ⟨_, rfl⟩
  have HI := hide hinv
  rw [hinv]
  clear hinv
  go_wp2_with fail
  refine (gItem G2.out).mono ?_
  rintro e w3 hp
  rcases hp.split with ⟨c3, s3, v, hm, rfl, rfl, hg3, hx3⟩ | ⟨s', hm, rfl, hg, hx⟩
  rotate_left
  · exact body_panic rfl (Post.mkBad (by simp only [setM, unhide M1, Res.bind_ok, hm, Res.bind_bad]) hg (((Ex.refl _ _).alloc _).trans (X2.out.trans hx)))
  have M3 := hide hm
  have G3 := hide hg3
  have X3 := hide (X2.out.trans hx3)
  have hsz3 : w.heap.size < w3.heap.size := by have := X3.out.size; simp at this; omega
  clear hp hm hg3 hx3
  obtain ⟨R, hR⟩ : ∃ R, itemsM t (t.size + 1) c3 s3 = R := ⟨_, rfl⟩
  have HR := hide hR
  clear hR
  obtain ⟨ib, hib⟩ : ∃ ib, w3.heap.size = ib := ⟨_, rfl⟩
  have hbi : BK (w3.alloc (Obj.cells #[.int .u64 c3.lo, .int .u64 c3.hi, .bool c3.hg] 57)) ib (.cells #[.int .u64 c3.lo, .int .u64 c3.hi, .bool c3.hg] 57 (0, 0)) := by rw [← hib]; exact BK.new _ _
  have BI := hide hbi
  have BP := hide ((BK.new w (Obj.cells #[.int .i64 0, .slice none 0 0, .int .u64 0, .int .u64 0, .bool false, .int .i64 0, .int .i64 0, .int .i64 0, .bool false] 59)).ex X3.out (by simp; omega))
  have hib2 : w.heap.size < ib := by omega
  have HIB := hide hib
  clear hbi
  unfold clsV
  go_wp2_with fail
  clear hib
  go_loopg [12] t.size (fun gk l12 wr => ∃ (c : Cls) (s' : RS), itemsM t (gk + 1) c s' = R ∧ t.size - s'.k ≤ gk ∧ RG wr r mb t x s' ∧ BK wr w.heap.size (.cells #[.int .i64 0, .slice none 0 0, .int .u64 0, .int .u64 0, .bool false, .int .i64 0, .int .i64 0, .int .i64 0, .bool false] 59 (0, 0)) ∧ BK wr ib (.cells #[.int .u64 c.lo, .int .u64 c.hi, .bool c.hg] 57 (0, 0)) ∧ Ex [r] (w.alloc (Obj.cells #[.int .i64 0, .slice none 0 0, .int .u64 0, .int .u64 0, .bool false, .int .i64 0, .int .i64 0, .int .i64 0, .bool false] 59)) wr)
  case atStart => exact ⟨c3, s3, HR.out, by omega, G3.out.alloc _, BP.out.alloc _, BI.out, X3.out.alloc _⟩
  case round =>
    obtain ⟨c, s', hRc, hfu, hg, hb0, hb1, hx⟩ := hrel
    have HX := hide hx
    have HB0 := hide hb0
    have HB1 := hide hb1
    have HRC := hide hRc
    have HG := hide hg
    have hl0 := hb0.lt
    have hl1 := hb1.lt
    obtain ⟨hc0, hf0⟩ := hb0.all
    obtain ⟨hc1, hf1⟩ := hb1.all
    clear hx hb0 hb1 hRc hg
    go_wp2_with fail
    refine (gTakes HG.out 93 93 rfl).mono ?_
    rintro e w4 ⟨rfl, hg4, hx4⟩
    have hb14 := HB1.out.ex hx4 (by simp; omega)
    have hb04 := HB0.out.ex hx4 (by simp; omega)
    have X4 := hide (HX.out.trans hx4)
    have hle4 := hx4.size
    clear hx4 hc0 hf0 hc1 hf1
    cases hq : seesM t s' 93 with
    | true =>
      rw [took_yes hq] at hg4
      have G4 := hide hg4
      have MR : Hid (itemsM t (t.size + 1) c3 s3 = .ok c s'.up) := by
        show itemsM t (t.size + 1) c3 s3 = _
        rw [HR.out, ← HRC.out]; unfold itemsM; rw [if_pos hq]
      have B14 := hide hb14
      have B04 := hide hb04
      obtain ⟨hc1, hf1⟩ := hb14.all
      have hl14 := hb14.lt
      have hl04 := hb04.lt
      clear hq hg4 hb14 hb04
      obtain ⟨cs, hcs⟩ : ∃ cs, sing s'.up.f c = cs := ⟨_, rfl⟩
      have KS := hide (fun w hr => singleOf_any r t s'.up.k ⟨s'.up.d, s'.up.f, s'.up.g, .map (some mb)⟩ c w hr)
      simp only at KS
      rw [hcs] at KS
      have HCS := hide hcs
      clear hcs
      go_wp2_with fail
      refine (KS.out _ G4.out.rd).mono ?_
      rintro e w5 ⟨rfl, hx5⟩
      have X5 := hide (X4.out.trans (hx5.drop (by simp)))
      have G5 := hide (G4.out.ex0 hx5)
      have hb05 := B04.out.ex hx5 (by simp)
      have hle5 := hx5.size
      have B05 := hide hb05
      clear hx5 hb05 hc1 hf1
      unfold partV
      cases inv with
      | false =>
        have HM : Hid (setM t s = .ok cs s'.up) := by
          show setM t s = _
          simp only [setM, unhide M1, Res.bind_ok, unhide M3, unhide MR, unhide HI, Bool.false_eq_true, if_false, unhide HCS]
        have HAL : Hid ((#[.int .i64 0, .slice none 0 0, .int .u64 cs.lo, .int .u64 cs.hi, .bool cs.hg, .int .i64 0, .int .i64 0, .int .i64 0, .bool false] : Array Value).all (·.oneCell') = true) := by show Array.all _ _ = true; simp [Value.oneCell']
        have HSZ : Hid ((Tryd.prog.info? 59).map (·.size) = some (#[.int .i64 0, .slice none 0 0, .int .u64 cs.lo, .int .u64 cs.hi, .bool cs.hg, .int .i64 0, .int .i64 0, .int .i64 0, .bool false] : Array Value).size) := partSize
        go_wp2_with (refine wpList_store_row rfl 59 _ _ rfl w.heap.size #[.int .i64 0, .slice none 0 0, .int .u64 cs.lo, .int .u64 cs.hi, .bool cs.hg, .int .i64 0, .int .i64 0, .int .i64 0, .bool false] rfl rfl 59 _ (B05.out.alloc _) HSZ.out rfl HAL.out ?_)
        refine bodyPost_ret (results_cell1 rfl rfl (loadPart (S := [.int .i64 0, .slice none 0 0, .int .u64 cs.lo, .int .u64 cs.hi, .bool cs.hg, .int .i64 0, .int .i64 0, .int .i64 0, .bool false]) (setRow_heap _ _ _ _ _ _ (B05.out.alloc _)) rfl)) rfl (Post.mkOk (R := fun _ v c => v = partV c) HM.out rfl ?_ ?_)
        · exact (G5.out.alloc _).row hlt hmlt helt (Nat.le_refl _) _
        · exact Ex.row ((((Ex.refl _ _).alloc _).trans X5.out).alloc _) (Nat.le_refl _) _
      | true =>
        obtain ⟨co, hco⟩ : ∃ co, othersC cs = co := ⟨_, rfl⟩
        have KO := hide (fun w => others_any cs w)
        rw [hco] at KO
        have HM : Hid (setM t s = .ok co s'.up) := by
          show setM t s = _
          simp only [setM, unhide M1, Res.bind_ok, unhide M3, unhide MR, unhide HI, if_true, unhide HCS, hco]
        clear hco
        go_wp2_with fail
        refine (KO.out _).mono ?_
        rintro e w6 ⟨rfl, hx6⟩
        have hbP := (BK.new w5 (Obj.cells #[.int .i64 0, .slice none 0 0, .int .u64 cs.lo, .int .u64 cs.hi, .bool cs.hg, .int .i64 0, .int .i64 0, .int .i64 0, .bool false] 59)).ex hx6 (by simp)
        have hb06 := (B05.out.alloc (Obj.cells #[.int .i64 0, .slice none 0 0, .int .u64 cs.lo, .int .u64 cs.hi, .bool cs.hg, .int .i64 0, .int .i64 0, .int .i64 0, .bool false] 59)).ex hx6 (by simp)
        have X6 := hide ((X5.out.alloc (Obj.cells #[.int .i64 0, .slice none 0 0, .int .u64 cs.lo, .int .u64 cs.hi, .bool cs.hg, .int .i64 0, .int .i64 0, .int .i64 0, .bool false] 59)).trans (hx6.drop (by simp)))
        have G6 := hide ((G5.out.alloc (Obj.cells #[.int .i64 0, .slice none 0 0, .int .u64 cs.lo, .int .u64 cs.hi, .bool cs.hg, .int .i64 0, .int .i64 0, .int .i64 0, .bool false] 59)).ex0 hx6)
        have B06 := hide hb06
        have BPP := hide hbP
        obtain ⟨hcp, hfp⟩ := hbP.all
        have hlp := hbP.lt
        have hl5 : w.heap.size < w5.heap.size := by omega
        clear hbP hb06 hx6
        have hne5 : w.heap.size ≠ w5.heap.size := by omega
        unfold clsV
        have HAL : Hid ((#[.int .i64 0, .slice none 0 0, .int .u64 co.lo, .int .u64 co.hi, .bool co.hg, .int .i64 0, .int .i64 0, .int .i64 0, .bool false] : Array Value).all (·.oneCell') = true) := by show Array.all _ _ = true; simp [Value.oneCell']
        have HSZ : Hid ((Tryd.prog.info? 59).map (·.size) = some (#[.int .i64 0, .slice none 0 0, .int .u64 co.lo, .int .u64 co.hi, .bool co.hg, .int .i64 0, .int .i64 0, .int .i64 0, .bool false] : Array Value).size) := partSize
        go_wp2_with (refine wpList_store_row rfl 59 _ _ rfl w.heap.size #[.int .i64 0, .slice none 0 0, .int .u64 co.lo, .int .u64 co.hi, .bool co.hg, .int .i64 0, .int .i64 0, .int .i64 0, .bool false] rfl rfl 59 _ (((B06.out.set (p := ⟨w5.heap.size, 2, none⟩) hne5 _).set (p := ⟨w5.heap.size, 3, none⟩) hne5 _).set (p := ⟨w5.heap.size, 4, none⟩) hne5 _) HSZ.out rfl HAL.out ?_)
        refine bodyPost_ret (results_cell1 rfl rfl (loadPart (S := [.int .i64 0, .slice none 0 0, .int .u64 co.lo, .int .u64 co.hi, .bool co.hg, .int .i64 0, .int .i64 0, .int .i64 0, .bool false]) (setRow_heap _ _ _ _ _ _ (((B06.out.set (p := ⟨w5.heap.size, 2, none⟩) hne5 _).set (p := ⟨w5.heap.size, 3, none⟩) hne5 _).set (p := ⟨w5.heap.size, 4, none⟩) hne5 _)) rfl)) rfl (Post.mkOk (R := fun _ v c => v = partV c) HM.out rfl ?_ ?_)
        · refine RG.row ?_ hlt hmlt helt (Nat.le_refl _) _
          iterate 3 (refine RG.setN (B := w.heap.size) ?_ hlt hmlt helt (by simp; omega) _)
          exact G6.out
        · refine Ex.row ?_ (Nat.le_refl _) _
          iterate 3 (refine Ex.setCell ?_ (Or.inr (by simp; omega)) _)
          exact ((Ex.refl _ _).alloc _).trans X6.out
    | false =>
      rw [took_no hq] at hg4
      have G4 := hide hg4
      have HQ := hide hq
      have B14 := hide hb14
      have B04 := hide hb04
      obtain ⟨hc1, hf1⟩ := hb14.all
      have hl14 := hb14.lt
      have hl04 := hb04.lt
      clear hq hg4 hb14 hb04
      go_wp2_with fail
      refine wp_region_J (by kernel_rfl) ?_
      refine wpAny_take (i := 1) (v := ?_) rfl (by kernel_rfl) (by kernel_rfl) (by kernel_rfl) (fun _ _ _ h => h) (Or.inl ⟨by rfl, ?_⟩) ?_
      rotate_left
      · intro w'
        go_simp
        try with_reducible rfl
      simp only [Act.put, List.setIfInBounds_toArray, List.set_cons_zero, List.set_cons_succ, List.getElem_toArray, List.getElem_cons_zero, List.getElem_cons_succ, List.replicate, Array.replicate, List.size_toArray, List.length_cons, List.length_nil]
      refine wpAny_of_J (S := (fun j w' => j < 4 → ∀ o, w'.cell? ⟨ib, o, none⟩ = #[Value.int .u64 c.lo, .int .u64 c.hi, .bool c.hg][o]?)) _ _ _ _ ?_
      refine wpAnyJ_take (i := 0) (T := (fun w' => ∀ o, w'.cell? ⟨ib, o, none⟩ = #[Value.int .u64 c.lo, .int .u64 c.hi, .bool c.hg][o]?)) (v := ?_) (fun j => decide (j < 4)) rfl (by kernel_rfl) (by kernel_rfl) (by kernel_rfl) (by kernel_rfl) (fun j w' hj h => h (by simpa using hj)) (fun w' h _ => h) (fun _ _ _ h => h) hc1 (Or.inl ⟨by rfl, ?_⟩) ?_
      rotate_left
      · intro w' hSw
        obtain hSw := hSw
        go_simp
        try with_reducible rfl
      simp only [Act.put, List.setIfInBounds_toArray, List.set_cons_zero, List.set_cons_succ, List.getElem_toArray, List.getElem_cons_zero, List.getElem_cons_succ, List.replicate, Array.replicate, List.size_toArray, List.length_cons, List.length_nil]
      refine wpAnyJ_one (i := 2) rfl rfl (by kernel_rfl) (fun K hK => ?_)
      go_simp
      refine (gItem G4.out.drew).mono ?_
      rintro e w5 hp
      rcases hp.split with ⟨c5, s5, v, hm, rfl, rfl, hg5, hx5⟩ | ⟨s9, hm, rfl, hg, hx⟩
      rotate_left
      · have MR : itemsM t (t.size + 1) c3 s3 = .bad s9 := by
          rw [HR.out, ← HRC.out]; unfold itemsM; rw [if_neg (by simp [HQ.out]), hm]; rfl
        exact body_panic rfl (Post.mkBad (by simp only [setM, unhide M1, Res.bind_ok, unhide M3, MR, Res.bind_bad]) hg ((((Ex.refl _ _).alloc _).trans X4.out.drew).trans hx))
      have hpr := (itemM_ok hm).1
      have hkt := hg5.hk
      obtain ⟨g, rfl⟩ : ∃ g, gk = g + 1 := ⟨gk - 1, by omega⟩
      have HRN : Hid (itemsM t (g + 1) (withC c c5) s5 = R) := by
        show itemsM t (g + 1) (withC c c5) s5 = R
        rw [← HRC.out]
        conv => rhs; unfold itemsM
        rw [if_neg (by simp [HQ.out]), hm]; rfl
      have hfu5 : t.size - s5.k ≤ g := by omega
      obtain ⟨W1, hW1⟩ : ∃ W1, withC c c5 = W1 := ⟨_, rfl⟩
      have KW := hide (fun w => with_any c c5 w)
      rw [hW1] at KW HRN
      have G5 := hide hg5
      have hy5 : Ex [r] w4 w5 := ((Ex.refl [r] w4).drew).trans hx5
      obtain ⟨q5, hf5⟩ := (B14.out.ex hy5 (by simp; omega)).all
      clear hp hm hg5 hx5 hW1 hpr hkt
      unfold clsV
      go_wp2_with fail
      refine hK.out _ _ (fun _ => q5) ?_
      clear hK K
      simp only [Act.put, List.setIfInBounds_toArray, List.set_cons_zero, List.set_cons_succ, List.getElem_toArray, List.getElem_cons_zero, List.getElem_cons_succ]
      refine wpAnyJ_one (i := 3) rfl rfl (by kernel_rfl) (fun K hK => ?_)
      go_simp
      refine (KW.out _).mono ?_
      rintro e w6 ⟨rfl, hx6⟩
      have hy6 : Ex [r] w4 w6 := hy5.trans (hx6.drop (by simp))
      obtain ⟨q6, hf6⟩ := (B14.out.ex hy6 (by simp; omega)).all
      have G6 := hide (G5.out.ex0 hx6)
      unfold clsV
      go_wp2_with fail
      refine hK.out _ _ (fun _ => q6) ?_
      clear hK K
      simp only [Act.put, List.setIfInBounds_toArray, List.set_cons_zero, List.set_cons_succ, List.getElem_toArray, List.getElem_cons_zero, List.getElem_cons_succ]
      refine wpAnyJ_one (i := 4) rfl rfl (by kernel_rfl) (fun K hK => ?_)
      go_simp
      refine hK.out _ _ (fun hj => by omega) ?_
      clear hK K
      refine wpAnyJ_done (by kernel_rfl) ?_ _
      have B16 := hide (B14.out.ex hy6 (by simp; omega))
      have B06 := hide (B04.out.ex hy6 (by simp; omega))
      have X6 := hide (X4.out.trans hy6)
      clear hx6 hy5 hy6 q5 q6 hf5 hf6
      go_wp2_with fail
      go_roundg g
      case measure => omega
      case rel =>
        refine ⟨W1, s5, HRN.out, hfu5, ?_, ?_, ?_, ?_⟩
        · iterate 3 (refine RG.setN (B := w.heap.size) ?_ hlt hmlt helt (by simp; omega) _)
          exact G6.out
        · iterate 3 (refine BK.set ?_ (by simp; omega) _)
          exact B06.out
        · exact fill3 B16.out rfl _ _ _
        · iterate 3 (refine Ex.setCell ?_ (Or.inr (by simp; omega)) _)
          exact X6.out
end Go.Proofs.YtmeffeigamaipaaDoor.G
