/- G14 G15, one behind the other. -/
import Derived.Test.YtmeffeigamaipabGreatDoorM31
import Derived.Recover
set_option linter.unusedVariables false
set_option linter.unusedSimpArgs false
/- The pattern reader: expressions, to whatever depth. -/
namespace Go.Proofs.YtmeffeigamaipabGreatDoor.G
open Go.RowKit

set_option maxHeartbeats 4000000 in
set_option maxRecDepth 100000 in
theorem gExpr {w : World} {r mb : Nat} {t : ByteArray} {x : EV} {s : RS} {E : RS → Res Pt} (h : RG w r mb t x s) (hnp : NP t) (hg5 : s.g ≤ 5) (hd6 : s.d ≤ 6) (hE : s.d < 6 → EC t r mb x (s.d + 1) E) (hEi : EI E) :
    Calls Tryz.prog 113 #[.pointer (some ⟨r, 0, none⟩)] w fun e w' => Post [r, mb] r mb t x w (RP w.heap.size) (exprM t E s) e w' := by
  obtain ⟨i0, hi, hz0, hz1, hz2⟩ := info_parts infoPart
  have hlt := h.lt
  have hmlt := h.mlt
  have helt := h.elt
  have ht := h.ht
  have hne : w.heap.size ≠ r := by omega
  have H := hide h
  have HEI := hide hEi
  have KB : Hid (∀ (w : World) (s' : RS), RG w r mb t x s' → s'.g ≤ 5 → s'.d = s.d → Calls Tryz.prog 133 #[.pointer (some ⟨r, 0, none⟩)] w fun e w' => Post [r, mb] r mb t x w (fun w' v l => RP w.heap.size w' v (.seq l)) (branchM t E (t.size + 1) [] s') e w') :=
    fun w s' h hg hd => gBranch h hnp hg (by omega) (by rw [hd]; exact hE) hEi
  clear h hnp hE hEi
  go_enter Tryz.func113, Tryz.ntmps113
  go_wp2_with fail
  refine (KB.out _ s (H.out.alloc _) hg5 rfl).mono ?_
  rintro e w1 hp
  rcases hp.split with ⟨l0, s1, v, hm, rfl, hRP, hg1, hx1⟩ | ⟨s9, hm, rfl, hg, hx⟩
  rotate_left
  · exact body_panic rfl (Post.mkBad (by unfold exprM; rw [hm]; rfl) hg (((Ex.refl _ _).alloc _).trans hx))
  obtain ⟨u, rfl, hpr⟩ := hRP
  obtain ⟨hk1, hd1, _, hg15⟩ := branchM_ok HEI.out _ _ _ _ _ hg5 hm
  obtain ⟨R, hR⟩ : ∃ R, altM t E (t.size + 1) [.seq l0] s1 = R := ⟨_, rfl⟩
  have HR := hide hR
  have HM1 : Hid (exprM t E s = R.bind fun b s2 => .ok (.alt b) s2) := by show exprM t E s = _; unfold exprM; rw [hm, Res.bind_ok, hR]
  have HD1 := hide hd1
  have G1 := hide hg1
  have X1 := hide hx1
  have hle1 : w.heap.size + 1 ≤ w1.heap.size := by have := hx1.size; simpa using this
  have HPR := hide hpr
  have hk1t := hg1.hk
  obtain ⟨kd, up, un, uc, ulo, uhi, uhg, ug, ul, um, uz⟩ := u
  clear hp hm hg1 hx1 hd1 hpr hR
  unfold PV.val
  go_wp2_with fail
  go_loopg [3] t.size (fun gk v3 wr => ∃ (acc : List Pt) (us : List PV) (s' : RS), altM t E (gk + 1) acc s' = R ∧ t.size - s'.k ≤ gk ∧ acc.length ≤ s'.k + 1 ∧ RG wr r mb t x s' ∧ s'.g ≤ 5 ∧ s'.d = s.d ∧ wr.ownsRow (w.heap.size + 1) 143 9 v3 acc.length (us.flatMap PV.cells) ∧ AllPR wr (Bx (w.heap.size + 1) wr.heap.size v3) acc us ∧ Ex [r, mb] (w.alloc (Obj.cells #[.int .i64 0, .slice none 0 0, .int .u64 0, .int .u64 0, .bool false, .int .i64 0, .int .i64 0, .int .i64 0, .bool false] 143)) wr)
  case atStart =>
    refine ⟨[.seq l0], [⟨kd, up, un, uc, ulo, uhi, uhg, ug, ul, um, uz⟩], s1, HR.out, by omega, by simp, G1.out.alloc _, hg15, HD1.out, ?_, ⟨?_, trivial⟩, X1.out.alloc _⟩
    · refine ⟨by simp [PV.cells], .inr ⟨w1.heap.size, 1, #[.int .i64 kd, .slice up un uc, .int .u64 ulo, .int .u64 uhi, .bool uhg, .int .i64 ug, .int .i64 ul, .int .i64 um, .bool uz], rfl, by omega, BK.new _ _, by simp, by unfold maxLen; omega, by simp, by simp [PV.cells]⟩⟩
    · refine PR.frame ?_ (by simp) ?_ _ _ HPR.out
      · intro b hb
        have h1 := hb.1
        have h2 := hb.2
        simp at h1
        exact ⟨h1, by simp; omega, fun e => by simp [Value.ownBlock] at e; omega⟩
      · intro b hb hl
        exact Below.heap_alloc _ _ _ hl
  case round =>
    obtain ⟨acc, us, s', hRc, hfu, hal, hg, hsg, hsd, hown, hall, hx⟩ := hrel
    have HX := hide hx
    have HRC := hide hRc
    have HG := hide hg
    have HALL := hide hall
    have HO := hide hown
    have HSD := hide hsd
    have hsk := hg.hk
    have hzr : w.heap.size + 1 ≤ wr.heap.size := by have := hx.size; simpa using this
    obtain ⟨p3, c3, rfl⟩ := own_slice hown
    clear hx hRc hg hall hown hsd
    go_wp2_with fail
    refine (gTakes HG.out 124 124 rfl).mono ?_
    rintro e w2 ⟨rfl, hg2, hx2⟩
    have X2 : Hid (Ex [r] wr w2) := hx2
    have hle2 := hx2.size
    cases hq : seesM t s' 124 with
    | false =>
      rw [took_no hq] at hg2
      have G2 := hide hg2
      have MR : Hid (exprM t E s = .ok (.alt acc) s') := by show exprM t E s = _; rw [HM1.out, ← HRC.out]; unfold altM; rw [if_neg (by simp [hq])]; rfl
      clear hq hg2 hx2
      have HXX := hide (HX.out.trans (X2.out.drop (by simp)))
      have BR := hide ((BK.new w (Obj.cells #[.int .i64 0, .slice none 0 0, .int .u64 0, .int .u64 0, .bool false, .int .i64 0, .int .i64 0, .int .i64 0, .bool false] 143)).ex HXX.out (by simp; omega))
      have HAL : Hid ((#[.int .i64 2, .slice p3 acc.length c3, .int .u64 0, .int .u64 0, .bool false, .int .i64 0, .int .i64 0, .int .i64 0, .bool false] : Array Value).all (·.oneCell') = true) := by show Array.all _ _ = true; simp [Value.oneCell']
      have HSZ : Hid ((Tryz.prog.info? 143).map (·.size) = some (#[.int .i64 2, .slice p3 acc.length c3, .int .u64 0, .int .u64 0, .bool false, .int .i64 0, .int .i64 0, .int .i64 0, .bool false] : Array Value).size) := partSize
      go_wp2_with (refine wpList_store_row rfl 143 _ _ rfl w.heap.size #[.int .i64 2, .slice p3 acc.length c3, .int .u64 0, .int .u64 0, .bool false, .int .i64 0, .int .i64 0, .int .i64 0, .bool false] rfl rfl 143 _ BR.out HSZ.out rfl HAL.out ?_)
      refine bodyPost_ret (results_cell1 rfl rfl (loadPart (S := [.int .i64 2, .slice p3 acc.length c3, .int .u64 0, .int .u64 0, .bool false, .int .i64 0, .int .i64 0, .int .i64 0, .bool false]) (setRow_heap _ _ _ _ _ _ BR.out) rfl)) rfl (Post.mkOk MR.out ?_ ?_ ?_)
      · generalize hW : World.setRow _ _ _ = W
        have hWx : Ex [r, w.heap.size] wr W := by rw [← hW]; exact (X2.out.drop (by simp)).setRow (Or.inl (by simp)) _
        obtain ⟨p, c, hv, hrow⟩ := rowPart (W := W) HO.out HALL.out (fun b hb hlt => hWx.block b hlt (by simp; omega)) hWx.size hWx.size (lo' := w.heap.size) (by omega)
        cases hv
        exact ⟨⟨2, p3, acc.length, c3, 0, 0, false, 0, 0, 0, false⟩, rfl, p3, acc.length, c3, rfl, rfl, hrow⟩
      · exact RG.row G2.out hlt hmlt helt (Nat.le_refl _) _
      · exact Ex.row (((Ex.refl _ _).alloc _).trans HXX.out) (Nat.le_refl _) _
    | true =>
    rw [took_yes hq] at hg2
    have hsl := sees_lt hq
    have G2 := hide hg2
    have HRN : Hid (R = (branchM t E (t.size + 1) [] s'.up).bind fun l s'' => altM t E gk (acc ++ [.seq l]) s'') := by
      show R = _
      rw [← HRC.out]
      conv => lhs; unfold altM
      rw [if_pos hq]
    clear hq hg2 hx2
    go_wp2_with fail
    refine (KB.out _ s'.up G2.out hsg HSD.out).mono ?_
    rintro e w4 hp
    rcases hp.split with ⟨lq, s4, v, hm, rfl, hRP, hg4, hx4⟩ | ⟨s9, hm, rfl, hg, hx⟩
    rotate_left
    · exact body_panic rfl (Post.mkBad (by rw [HM1.out, HRN.out, hm]; rfl) hg (((Ex.refl _ _).alloc _).trans (HX.out.trans ((X2.out.drop (by simp)).trans hx))))
    obtain ⟨u, rfl, hpr⟩ := hRP
    obtain ⟨hk4, hd4, _, hg45⟩ := branchM_ok HEI.out _ _ _ _ _ (by exact hsg) hm
    have hk4' : s'.k + 1 ≤ s4.k := hk4
    have hkt := hg4.hk
    obtain ⟨g, rfl⟩ : ∃ g, gk = g + 1 := ⟨gk - 1, by omega⟩
    have HRB : Hid (altM t E (g + 1) (acc ++ [.seq lq]) s4 = R) := by show _ = R; rw [HRN.out, hm]; rfl
    have HD4 : Hid (s4.d = s.d) := by show s4.d = s.d; rw [hd4]; exact HSD.out
    have G4 := hide hg4
    have X4 : Hid (Ex [r, mb] wr w4) := (X2.out.drop (by simp)).trans hx4
    have hle4 : wr.heap.size ≤ w4.heap.size := X4.out.size
    have HPR := hide hpr
    have HU := hide u.all_one
    obtain ⟨xs, hxs⟩ : ∃ xs, us.flatMap PV.cells = xs := ⟨_, rfl⟩
    have HXS := hide hxs
    rw [hxs] at HO
    have hown4 := own_ex HO.out X4.out (by simp; omega)
    have hownB : ∀ k, (Value.slice p3 acc.length c3).ownBlock = some k → w.heap.size + 1 ≤ k ∧ k < wr.heap.size := fun k hk => HO.out.lt k hk
    have HOB := hide hownB
    obtain ⟨n, hn⟩ : ∃ n, acc.length = n := ⟨_, rfl⟩
    have HNN := hide hn
    rw [hn] at hown4 HO HOB hal ⊢
    have HALL2 := HALL
    rw [hn] at HALL2
    clear hp hm hg4 hx4 hd4 hpr hxs hownB hn HALL
    obtain ⟨kd, up, un, uc, ulo, uhi, uhg, ug, ul, um, uz⟩ := u
    unfold PV.val
    unfold PV.cells at HU
    have H4 := hide hown4
    clear hown4
    go_wp2_with (at_builtin; refine wpList_append_lies _ rfl (.tmp 9) (.tmp 12) 138 rfl (w.heap.size + 1) 143 i0 (.agg #[.int .i64 0, .slice none 0 0, .int .u64 0, .int .u64 0, .bool false, .int .i64 0, .int .i64 0, .int .i64 0, .bool false]) 9 88 Tryz.underlying138 hi hz0 hz1 hz2 rfl (by decide) (.slice p3 n c3) n xs rfl (H4.out.alloc _) ⟨w4.heap.size, 0, none⟩ 1 1 [.int .i64 kd, .slice up un uc, .int .u64 ulo, .int .u64 uhi, .bool uhg, .int .i64 ug, .int .i64 ul, .int .i64 um, .bool uz] rfl rfl (cells_new _ _ _) HU.out (by decide) (by unfold maxLen; omega) (by omega) (by simp; omega) (w4.heap.size + 1) (by simp) ?_)
    intro gb cap w5 hown5 hgrow hcase hlt5
    have hob5 := own_block hown5
    have HO5 := hide hown5
    have HGR := hide hgrow
    have HCA := hide hcase
    clear hown5 hgrow hcase
    go_wp2
    go_roundg g
    case measure => omega
    case rel =>
      have hx5 : ∀ b, b < w4.heap.size → (Value.slice p3 n c3).ownBlock ≠ some b → w5.heap[b]? = w4.heap[b]? := fun b hb hn => by
        rw [HGR.out.block b (by simp; omega) (fun e => hn e.symm)]
        exact Below.heap_alloc _ _ _ hb
      have hsz5 : w4.heap.size + 1 ≤ w5.heap.size := by have := HGR.out.size; simpa using this
      have hgb : ∀ b, b < w4.heap.size → (Value.slice p3 n c3).ownBlock ≠ some b → gb ≠ b := fun b hb hn e => by
        rcases HCA.out with h1 | h1
        · exact hn (by rw [h1, e])
        · omega
      refine ⟨acc ++ [.seq lq], us ++ [⟨kd, up, un, uc, ulo, uhi, uhg, ug, ul, um, uz⟩], s4, HRB.out, by omega, by simp; have := HNN.out; omega, ?_, hg45, HD4.out, ?_, ?_, ?_⟩
      · have hxg : Ex ((Value.slice p3 n c3).ownBlock).toList w4 w5 := Ex.grown ((Ex.refl _ _).alloc _) HGR.out (fun k hk => Or.inl (by simp [hk]))
        refine RG.ex G4.out hxg (fun hm => ?_) (fun hm => ?_) (fun hm => ?_)
        all_goals
          have h9 := HOB.out _ (by simpa using hm)
          omega
      · have h9 := HO5.out
        rw [← HXS.out] at h9
        rw [List.length_append, HNN.out, List.flatMap_append]
        simpa [PV.cells] using h9
      · refine AllPR.snoc ?_ acc us ?_
        · refine PR.frame ?_ (by omega) ?_ _ _ HPR.out
          · intro b hb
            have h1 := hb.1
            have h2 := hb.2
            have hnb : (Value.slice p3 n c3).ownBlock ≠ some b := fun e => by have := HOB.out b e; omega
            refine ⟨by omega, by omega, ?_⟩
            intro e
            exact hgb b h2 hnb (Option.some.inj e)
          · intro b hb hl
            have h1 := hb.1
            exact hx5 b hl (fun e => by have := HOB.out b e; omega)
        · refine AllPR.frame ?_ (by omega) ?_ acc us HALL2.out
          · intro b hb
            exact ⟨hb.1, by have := hb.2.1; omega, fun e => hgb b (by have := hb.2.1; omega) hb.2.2 (Option.some.inj e)⟩
          · intro b hb hl
            rw [hx5 b (by omega) hb.2.2]
            exact X4.out.block b hl (by have := hb.1; simp; omega)
      · exact Ex.grown ((HX.out.trans X4.out).alloc _) HGR.out (fun j hj => Or.inr (by have := HOB.out j hj; simp; omega))

/-- An expression, whatever its depth. -/
theorem gExprAt {r mb : Nat} {t : ByteArray} {x : EV} (hnp : NP t) : ∀ (n d : Nat), d + n = 7 → 0 < n → EC t r mb x d (exprAt t n)
  | 0, _, _, h0 => absurd h0 (Nat.lt_irrefl _)
  | n + 1, d, hd, _ => by
    intro w s h hg hsd
    refine gExpr h hnp hg (by omega) (fun h6 => ?_) (exprAt_ok t n)
    rw [hsd]
    exact gExprAt hnp n (d + 1) (by omega) (by omega)
end Go.Proofs.YtmeffeigamaipabGreatDoor.G

/- The pattern reader's face: what it makes of a text, or where it gives up. -/
namespace Go.Proofs.YtmeffeigamaipabGreatDoor.G
open Go.RowKit

theorem prefix3 (t : ByteArray) (a b c : UInt8) : Lib.hasPrefix t.data.toList [a, b, c] = decide (byteAt t 0 = some a ∧ byteAt t 1 = some b ∧ byteAt t 2 = some c) := by
  obtain ⟨⟨l⟩⟩ := t
  unfold Lib.hasPrefix byteAt
  rw [Bool.eq_iff_iff, decide_eq_true_iff]
  cases l with
  | nil => simp
  | cons x l =>
    cases l with
    | nil => simp
    | cons y l =>
      cases l with
      | nil => simp
      | cons z l =>
        simp only [List.isPrefixOf_cons_cons, List.isPrefixOf_nil_left, Bool.and_true, Bool.and_eq_true, beq_iff_eq, List.getElem?_toArray, List.getElem?_cons_zero, List.getElem?_cons_succ, Option.some.injEq]
        constructor
        · rintro ⟨h1, h2, h3⟩; exact ⟨h1.symm, h2.symm, h3.symm⟩
        · rintro ⟨h1, h2, h3⟩; exact ⟨h1.symm, h2.symm, h3.symm⟩

theorem RG.at3 {w : World} {r mb : Nat} {t : ByteArray} {x : EV} {s : RS} (h : RG w r mb t x s) (h3 : 3 ≤ t.size) : RG (w.setCell ⟨r, 1, none⟩ (.int .i64 3)) r mb t x { s with k := 3 } :=
  h.own (s' := { s with k := 3 }) rfl _ rfl h3 (by
    have h1 := h.rd
    unfold RD at h1 ⊢
    simp [World.setCell, Array.getElem?_modify, h1])
theorem RG.fold {w : World} {r mb : Nat} {t : ByteArray} {x : EV} {s : RS} (h : RG w r mb t x s) : RG (w.setCell ⟨r, 3, none⟩ (.bool true)) r mb t x { s with f := true } :=
  h.own (s' := { s with f := true }) rfl _ rfl h.hk (by
    have h1 := h.rd
    unfold RD at h1 ⊢
    simp [World.setCell, Array.getElem?_modify, h1])

set_option maxHeartbeats 400000 in
theorem gFold {w : World} {r mb : Nat} {t : ByteArray} {x : EV} (h : RG w r mb t x startS) :
    Calls Tryz.prog 112 #[.pointer (some ⟨r, 0, none⟩)] w fun e w' => Post [r] r mb t x w (fun _ v _ => v = .tuple #[]) (foldM t) e w' := by
  have hpre := prefix3 t 40 63 105
  have h0 := h.rd.c0
  have hlt := h.lt
  have hf1 := h.fz 1
  have hc1 := h.rd.c1
  have H := hide h
  clear h
  by_cases hp : byteAt t 0 = some 40 ∧ byteAt t 1 = some 63 ∧ byteAt t 2 = some 105
  · rw [decide_eq_true hp] at hpre
    have h3 : 3 ≤ t.size := (byteAt_some hp.2.2).1
    have HF : Hid (foldM t = (mustM t { startS with k := 3 } 41).bind fun _ s => .ok () { s with f := true }) := by show foldM t = _; unfold foldM; rw [if_pos hp]
    clear hp
    go_enter Tryz.func112, Tryz.ntmps112
    go_wp2_with (go_at_call 131; refine (Tryz.strings_HasPrefix _ _ _).mono ?_; rintro e w' ⟨rfl, rfl⟩)
    refine (gMust (H.out.at3 h3) 41 41 rfl).mono ?_
    rintro e w1 hp
    rcases hp.split with ⟨_, s1, v, hm, rfl, rfl, hg1, hx1⟩ | ⟨s9, hm, rfl, hg, hx⟩
    rotate_left
    · exact body_panic rfl (Post.mkBad (by rw [HF.out, hm]; rfl) hg (((Ex.refl _ _).setCell (Or.inl (by simp)) _).trans hx))
    have HM : Hid (foldM t = .ok () { s1 with f := true }) := by show foldM t = _; rw [HF.out, hm]; rfl
    have hf3 := hg1.fz 3
    have hc3 := hg1.rd.c3
    have hl1 := hg1.lt
    have G1 := hide hg1
    have X1 := hide hx1
    clear hp hm hg1 hx1 h0 hf1 hc1
    go_wp2_with fail
    go_end0
    exact Post.mkOk HM.out rfl G1.out.fold ((((Ex.refl _ _).setCell (Or.inl (by simp)) _).trans X1.out).setCell (Or.inl (by simp)) _)
  · rw [decide_eq_false hp] at hpre
    have HF : Hid (foldM t = .ok () startS) := by show foldM t = _; unfold foldM; rw [if_neg hp]
    clear hp
    go_enter Tryz.func112, Tryz.ntmps112
    go_wp2_with (go_at_call 131; refine (Tryz.strings_HasPrefix _ _ _).mono ?_; rintro e w' ⟨rfl, rfl⟩)
    go_end0
    exact Post.mkOk HF.out rfl H.out (Ex.refl _ _)

theorem catch_idle (p q : Addr) (w : World) :
    CallsD Tryz.prog 111 #[.pointer (some p), .pointer (some q)] .returning w fun e u' w' => e = .returned (.tuple #[]) ∧ u' = .returning ∧ w' = w := by
  refine callsD_of_wpS Tryz.func111 rfl fun c₀ cs hu => ?_
  apply wpS_seq
  apply wpS_region
  simp [wpOpsS, go_sem, recoverD, hu, Tryz.ntmps111, Exit.thenS]
  refine wpS_cond (t := false) (by simp [Act.eval, Array.replicate]) ?_
  simp only [Bool.false_eq_true, if_false]
  refine wpS_of_wp (wp_skip ?_)
  cases c₀
  simp_all [bodyPostS, results, Tryz.results111]


set_option maxRecDepth 100000 in
theorem catch_panic {wb ob : Nat} {u : TypeId} {pv : Value} {older : List PanicEntry} {w : World} {cs : Array Value} {b : Value} (hA : BK w wb (.cells cs 143 (0, 0))) (hs : cs.size = 9) (hB : BK w ob (.cells #[b] 4 (0, 0))) (hne : wb ≠ ob) :
    CallsD Tryz.prog 111 #[.pointer (some ⟨wb, 0, none⟩), .pointer (some ⟨ob, 0, none⟩)] (.panicking ({ v := .iface u pv, recovered := false } :: older)) w fun e u' w' =>
      e = .returned (.tuple #[]) ∧ u' = .panicking ({ v := .iface u pv, recovered := true } :: older) ∧ BK w' wb (.cells #[.int .i64 0, .slice none 0 0, .int .u64 0, .int .u64 0, .bool false, .int .i64 0, .int .i64 0, .int .i64 0, .bool false] 143 (0, 0)) ∧ BK w' ob (.cells #[.bool false] 4 (0, 0)) ∧ Ex [wb, ob] w w' := by
  have HSZ : (Tryz.prog.info? 143).map (·.size) = some (#[.int .i64 0, .slice none 0 0, .int .u64 0, .int .u64 0, .bool false, .int .i64 0, .int .i64 0, .int .i64 0, .bool false] : Array Value).size := partSize
  have HAL : (#[.int .i64 0, .slice none 0 0, .int .u64 0, .int .u64 0, .bool false, .int .i64 0, .int .i64 0, .int .i64 0, .bool false] : Array Value).all (·.oneCell') = true := by simp [Value.oneCell']
  refine callsD_of_wpS Tryz.func111 rfl fun c₀ cs hu => ?_
  apply wpS_seq
  apply wpS_region
  simp [wpOpsS, go_sem, recoverD, hu, Tryz.ntmps111, Exit.thenS]
  refine wpS_cond (t := true) (by simp [Act.eval, Array.replicate]) ?_
  simp only [if_true]
  refine wpS_of_wp ?_
  have HA := hide hA
  have HB := hide hB
  have hB2 : BK (w.setRow wb #[.int .i64 0, .slice none 0 0, .int .u64 0, .int .u64 0, .bool false, .int .i64 0, .int .i64 0, .int .i64 0, .bool false]) ob (.cells #[b] 4 (0, 0)) := by unfold BK; rw [setRow_other _ _ _ _ (Ne.symm hne)]; exact hB
  have hA2 : BK (w.setRow wb #[.int .i64 0, .slice none 0 0, .int .u64 0, .int .u64 0, .bool false, .int .i64 0, .int .i64 0, .int .i64 0, .bool false]) wb (.cells #[.int .i64 0, .slice none 0 0, .int .u64 0, .int .u64 0, .bool false, .int .i64 0, .int .i64 0, .int .i64 0, .bool false] 143 (0, 0)) := setRow_heap _ _ _ _ _ _ hA
  have hx2 : Ex [wb, ob] w (w.setRow wb #[.int .i64 0, .slice none 0 0, .int .u64 0, .int .u64 0, .bool false, .int .i64 0, .int .i64 0, .int .i64 0, .bool false]) := (Ex.refl _ _).setRow (Or.inl (by simp)) _
  obtain ⟨hcB, hfB⟩ := hB2.all
  have hBl := hB2.lt
  have HB2 := hide hB2
  have HA2 := hide hA2
  have HX2 := hide hx2
  clear hA hB hB2 hA2 hx2
  go_wp2_with (refine wpList_store_row rfl 143 _ _ rfl wb #[.int .i64 0, .slice none 0 0, .int .u64 0, .int .u64 0, .bool false, .int .i64 0, .int .i64 0, .int .i64 0, .bool false] rfl rfl 143 _ HA.out HSZ (by exact hs) HAL ?_)
  have hA3 := HA2.out.set (p := ⟨ob, 0, none⟩) hne (.bool false)
  have hB3 := HB2.out.self 0 (.bool false)
  have hx3 := HX2.out.setCell (p := ⟨ob, 0, none⟩) (Or.inl (by simp)) (.bool false)
  simp only [List.setIfInBounds_toArray, List.set_cons_zero] at hB3
  simp [bodyPostS, results, Tryz.results111]
  exact ⟨hA3, hB3, hx3⟩
end Go.Proofs.YtmeffeigamaipabGreatDoor.G
