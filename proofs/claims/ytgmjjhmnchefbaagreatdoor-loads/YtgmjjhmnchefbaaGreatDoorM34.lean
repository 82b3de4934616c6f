/- L10 L15, one behind the other. -/
import Derived.Test.YtgmjjhmnchefbaaGreatDoorM33
import Derived.Test.YtgmjjhmnchefbaaGreatDoorM27
import Derived.Test.YtgmjjhmnchefbaaGreatDoorM29
set_option linter.unusedVariables false
set_option linter.unusedSimpArgs false
/- The document's own reader of patterns: what stands behind a backslash. -/
namespace Go.Proofs.YtgmjjhmnchefbaaGreatDoor.G
open Go.RowKit

def SetN (e : Ending) (v : Int → Prop) : Prop := ∃ cs m, cs.length = 129 ∧ e = .returned (.tuple #[.agg (sB cs).toArray, .int .i64 m]) ∧ v m
theorem Fr.setRow {w : World} {base b : Nat} {bs cs : List Bool} (h : SB w b bs) (hc : cs.length = 129) (hb : base ≤ b) : (∀ b' bs', b' ≠ b → SB w b' bs' → SB (w.setRow b (sB cs).toArray) b' bs') ∧ EB base [] w (w.setRow b (sB cs).toArray) ∧ SB (w.setRow b (sB cs).toArray) b cs := by
  refine ⟨fun b' bs' hne h' => ⟨by unfold BK; rw [setRow_other _ _ _ _ hne]; exact h'.1, h'.2⟩, ?_, h.store hc⟩
  have hx : Ex [b] w (w.setRow b (sB cs).toArray) := (Ex.refl _ _).setRow (.inl (by simp)) _
  exact ⟨hx.os, hx.tape, hx.output, hx.size, fun k hk _ => hx.block k (by have := h.1.lt; omega) (by simp; omega)⟩
theorem RA.setRow {w : World} {p r base : Nat} {t : ByteArray} {s : RS} {bad : Bool} {hv : Int} {n b : Nat} {bs : List Bool} (h : RA w p r base t s bad hv n) (hb : SB w b bs) (xs : Array Value) : RA (w.setRow b xs) p r base t s bad hv n := by
  obtain ⟨av, nv, ys, ns, h1, h2, h3, h4, h5⟩ := h.rn.ex
  have hk := h.rk
  unfold RK at hk
  have hblk : ∀ g, g ≠ b → (w.setRow b xs).heap[g]? = w.heap[g]? := fun g hg => setRow_other _ _ _ _ hg
  have e1 : p ≠ b := fun e => (sb_ne hb hk (by decide)) e.symm
  have e2 : r ≠ b := fun e => (sb_ne hb h1 (by decide)) e.symm
  refine ⟨?_, ⟨av, nv, ys, ns, ?_, own_blk h2 (fun g hg => hblk g (fun e => ?_)), own_blk h3 (fun g hg => hblk g (fun e => ?_)), h4, h5⟩, h.pb, h.rb, ?_⟩
  · unfold RK BK; rw [hblk p e1]; exact hk
  · unfold BK; rw [hblk r e2]; exact h1
  · subst e; exact row_ne h2 hb.1 (by decide) hg
  · subst e; exact row_ne h3 hb.1 (by decide) hg
  · have hx : Ex [b] w (w.setRow b xs) := (Ex.refl _ _).setRow (.inl (by simp)) _
    exact Nat.le_trans h.bw hx.size
def EscPost (w' : World) (p r base : Nat) (t : ByteArray) (hv : Int) (n : Nat) (e : Ending) : Res (Cls × UInt8 × Bool) → Prop
  | .ok x s' => SetN e (fun m => m = if x.2.2 then (x.2.1.toNat : Int) else -1) ∧ RA w' p r base t s' false hv n
  | .bad s' => SetN e (fun _ => True) ∧ RA w' p r base t s' true hv n
theorem ret_frame {w W : World} {p r base : Nat} {t : ByteArray} {s : RS} {bad : Bool} {hv : Int} {n b : Nat} {bs cs : List Bool} (hF : Fr w W base) (hR : SB W b bs) (hA : RA W p r base t s bad hv n) (hb : w.heap.size ≤ b) (hbw : base ≤ w.heap.size) (hc : cs.length = 129) :
    Fr w (W.setRow b (sB cs).toArray) base ∧ RA (W.setRow b (sB cs).toArray) p r base t s bad hv n := by
  have h1 := Fr.setRow (base := base) hR hc (by omega)
  exact ⟨⟨fun b' bs' h' => h1.1 b' bs' (by have := h'.1.lt; omega) (hF.ks b' bs' h'), hF.eb.trans h1.2.1⟩, hA.setRow hR _⟩
theorem esc_none {t : ByteArray} {s : RS} (h : ¬ s.k < t.size) : escapeM t s = .bad s := by
  unfold escapeM byteAt
  rw [Array.getElem?_eq_none (by show t.size ≤ s.k; omega)]
theorem byte_nx {t : ByteArray} {k : Nat} (h : k < t.size) : ∃ b : UInt8, byteAt t k = some b ∧ nextN t k = b.toNat := by
  refine ⟨t.data[k]'h, by unfold byteAt; exact Array.getElem?_eq_getElem h, ?_⟩
  unfold nextN byteAt
  rw [Array.getElem?_eq_getElem h]
theorem short_cls : (List.range 256).all (fun n => (shortM (UInt8.ofNat n)).isSome == isCls n && (!isCls n || !escL.contains (UInt8.ofNat n)) && ((isCls n || escL.contains (UInt8.ofNat n)) == (isCls n || (decide (n < 128) && (!plB (UInt8.ofNat n) || n == 45 || n == 34))))) = true := by kernel_rfl
theorem esc_cls {b : UInt8} : (shortM b).isSome = isCls b.toNat ∧ (isCls b.toNat = true → b ∉ escL) ∧ (isCls b.toNat = false → (b ∈ escL ↔ (b.toNat < 128 ∧ (plB b = false ∨ b.toNat = 45 ∨ b.toNat = 34)))) := by
  have h := List.all_eq_true.1 short_cls b.toNat (List.mem_range.2 b.toNat_lt)
  rw [UInt8.ofNat_toNat] at h
  simp only [Bool.and_eq_true, beq_iff_eq, Bool.or_eq_true, Bool.not_eq_true'] at h
  obtain ⟨⟨h1, h2⟩, h3⟩ := h
  refine ⟨h1, fun hc hm => ?_, fun hc => ?_⟩
  · rcases h2 with h2 | h2
    · rw [hc] at h2; cases h2
    · rw [List.contains_eq_mem, decide_eq_false_iff_not] at h2; exact h2 hm
  · rw [hc, Bool.false_or, Bool.false_or, Bool.eq_iff_iff] at h3
    simp only [List.contains_eq_mem, decide_eq_true_eq, Bool.and_eq_true, Bool.or_eq_true, Bool.not_eq_true', beq_iff_eq] at h3
    rw [h3]
    constructor
    · rintro ⟨a, (b' | b') | b'⟩
      · exact ⟨a, .inl b'⟩
      · exact ⟨a, .inr (.inl b')⟩
      · exact ⟨a, .inr (.inr b')⟩
    · rintro ⟨a, b' | b' | b'⟩
      · exact ⟨a, .inl (.inl b')⟩
      · exact ⟨a, .inl (.inr b')⟩
      · exact ⟨a, .inr b'⟩
set_option maxHeartbeats 8000000 in
set_option maxRecDepth 100000 in
theorem escape_any {w : World} {p r base : Nat} {t : ByteArray} {s : RS} {hv : Int} {n : Nat} (h : RA w p r base t s false hv n) (ht : t.size ≤ 60) :
    Calls Tryz.prog 104 #[.pointer (some ⟨p, 0, none⟩)] w fun e w' => Fr w w' base ∧ EscPost w' p r base t hv n e (escapeM t s) := by
  have H := hide h
  have hbw := h.bw
  clear h
  go_enter Tryz.func104, Tryz.ntmps104
  go_upto_region 1 with fail
  generalize hw2 : World.alloc _ _ = w2
  have hx2 : Ex [] w w2 := by rw [← hw2]; exact (Ex.refl _ _).alloc _
  have hr2 : SB w2 w.heap.size noB := by rw [← hw2]; exact ⟨BK.new _ _, rfl⟩
  have H2 := hide (H.out.ex hx2)
  have HR2 := hide hr2
  have F2 := hide (Fr.ex hx2 hbw)
  have KN := hide (next_any H2.out.rk)
  obtain ⟨c, hc⟩ : ∃ c, c = nextN t s.k := ⟨_, rfl⟩
  have HC := hide hc
  rw [← hc] at KN
  have hc256 : c < 256 := by rw [hc]; exact nextN_lt _ _
  clear hw2 hx2 hr2 hc
  go_wp2_with fail
  refine KN.out.mono ?_
  rintro e w3 ⟨rfl, q9, hq9⟩
  have H3 : Hid (RA w3 p r base t s false hv n) := by rw [hq9]; exact H2.out.drewN q9
  have F3 : Hid (Fr w w3 base) := F2.out.trans (by rw [hq9]; exact Fr.drewN _ _ q9)
  have HR3 : Hid (SB w3 w.heap.size noB) := by rw [hq9]; exact HR2.out
  have hz3 : w.heap.size < w3.heap.size := HR3.out.1.lt
  clear hq9 KN
  obtain ⟨k, d, f, g, nm⟩ := s
  obtain ⟨c0, c1, c2, f1, f2, hl⟩ := H3.out.facts
  dsimp only at c1
  by_cases hlt : k < t.size
  · have hd : decide (t.size ≤ k) = false := decide_eq_false (by omega)
    obtain ⟨b, hb, hbc⟩ := byte_nx hlt
    have hcb : c = b.toNat := HC.out.trans hbc
    have HB := hide hb
    have HCB := hide hcb
    have KC := hide (fun W => class_any c hc256 W)
    clear hb hbc hcb
    go_wp2_with fail
    go_quiet (fail)
    go_wp2_with fail
    refine (KC.out _).mono ?_
    rintro e w5 ⟨cs, hcs, rfl, hx5⟩
    have hx35 : Ex [] w3 w5 := ⟨hx5.os, hx5.tape, hx5.output, hx5.size, hx5.block⟩
    have hz5 := hx35.size
    obtain ⟨w7, hw7⟩ : ∃ w7, w7 = (w5.alloc (Obj.cells (sB noB).toArray 107)).setRow w5.heap.size (sB cs).toArray := ⟨_, rfl⟩
    have hn5 : SB (w5.alloc (Obj.cells (sB noB).toArray 107)) w5.heap.size noB := ⟨BK.new _ _, rfl⟩
    have hra5 := (H3.out.ex hx35).ex ((Ex.refl [] _).alloc (Obj.cells (sB noB).toArray 107))
    have hr5 := (HR3.out.ex hx35 (by simp)).ex ((Ex.refl [] _).alloc (Obj.cells (sB noB).toArray 107)) (by simp)
    have hf5 : Fr w (w5.alloc (Obj.cells (sB noB).toArray 107)) base := (F3.out.trans (Fr.ex hx35 (by omega))).trans (Fr.ex ((Ex.refl [] _).alloc _) (by omega))
    have hrf := ret_frame (cs := cs) hf5 hn5 hra5 (by omega) hbw hcs
    have hset := Fr.setRow (base := base) (cs := cs) hn5 hcs (by omega)
    have hr7 := hset.1 _ _ (by omega) hr5
    have hs7 := hset.2.2
    rw [← hw7] at hrf hr7 hs7
    have HN5 := hide hn5.1
    have Hw7 := hide hrf.2
    have Fw7 := hide hrf.1
    have HRw7 := hide hr7
    have HS7 := hide hs7
    have HW7 := hide hw7
    obtain ⟨V, hV⟩ : ∃ V, V = sB cs := ⟨_, rfl⟩
    have HIV : Hid ((Tryz.prog.info? 107).map (·.size) = some V.length) := by rw [hV]; exact infoSet hcs
    have HJV : Hid ((Tryz.prog.info? 107).map (·.size) = some V.toArray.size) := by rw [hV]; exact infoSetA hcs
    have HAV : Hid (V.toArray.all (·.oneCell') = true) := by rw [hV]; exact all_plain (sB_plain _)
    have HOV : Hid ((sB noB).toArray.size = V.toArray.size) := by show _ = _; rw [List.size_toArray, List.size_toArray, hV, sB_len, sB_len, hcs]; rfl
    have HVV := hide hV
    rw [← hV] at HW7 ⊢
    clear hx5 hx35 hw7 hn5 hra5 hr5 hf5 hrf hset hr7 hs7 hV c0 c1 c2 f1 f2 hl
    obtain ⟨i, hi⟩ : ∃ i, i = isCls c := ⟨_, rfl⟩
    rw [← hi]
    have HIC := hide hi
    clear hi
    go_upto_region 6 with (refine wpList_store_row rfl 107 _ _ rfl w5.heap.size V.toArray rfl rfl 107 _ HN5.out HJV.out HOV.out HAV.out ?_)
    rw [show (w5.alloc (Obj.cells Tryz.zeroCells107 107)).setRow w5.heap.size V.toArray = w7 from HW7.out.symm]
    clear HW7 HN5
    obtain ⟨c0, c1, c2, f1, f2, hl⟩ := Hw7.out.facts
    dsimp only at c1
    cases i with
    | true =>
      have hcls : isCls b.toNat = true := by rw [← HCB.out]; exact HIC.out.symm
      have HE : Hid (∃ C, escapeM t ⟨k, d, f, g, nm⟩ = .ok (C, 0, false) ⟨k + 1, d, f, g, nm⟩) := by
        have h1 := (esc_cls (b := b)).1
        have h2 := (esc_cls (b := b)).2.1 hcls
        rw [hcls] at h1
        obtain ⟨C, hC⟩ := Option.isSome_iff_exists.1 h1
        refine ⟨C, ?_⟩
        unfold escapeM
        dsimp only
        rw [HB.out]
        dsimp only
        rw [if_neg h2, hC]
        rfl
      go_upto_region 8 with fail
      generalize hw9 : World.setCell _ _ _ = w8
      have Hw8 : Hid (RA w8 p r base t ⟨k + 1, d, f, g, nm⟩ false hv n) := (Hw7.out.up2 w8 hw9 (by simp)).1
      have hfr8 := (Hw7.out.up2 w8 hw9 (by simp)).2
      have Fw8 := hide (Fw7.out.trans hfr8)
      have HRw8 := hide (hfr8.ks _ _ HRw7.out)
      have HS8 := hide (hfr8.ks _ _ HS7.out)
      have HRG : Hid (World.rangeAt w8 w5.heap.size 0 V) := by rw [HVV.out]; exact HS8.out.1.rangeL
      have KF := hide (folded_any cs hcs Hw8.out.rk)
      rw [← show V = sB cs from HVV.out] at KF
      have hlt8 := HS8.out.1.lt
      clear hw9 hfr8 c0 c1 c2 f1 f2 hl
      go_wp2_with (refine wpList_load_mid rfl 107 _ rfl w5.heap.size 0 rfl V _ HRG.out Tryz.underlying107 rfl HIV.out ?_)
      refine KF.out.mono ?_
      rintro e w9 ⟨ds, hds, rfl, hx9⟩
      have Hw9 := hide (Hw8.out.ex hx9)
      have Fw9 := hide (Fw8.out.trans (Fr.ex hx9 (by omega)))
      have HRw9 := hide (HRw8.out.ex hx9 (by simp))
      clear hx9
      obtain ⟨U, hU⟩ : ∃ V, V = sB ds := ⟨_, rfl⟩
      have HIU : Hid ((Tryz.prog.info? 107).map (·.size) = some U.length) := by rw [hU]; exact infoSet hds
      have HJU : Hid ((Tryz.prog.info? 107).map (·.size) = some U.toArray.size) := by rw [hU]; exact infoSetA hds
      have HAU : Hid (U.toArray.all (·.oneCell') = true) := by rw [hU]; exact all_plain (sB_plain _)
      have HOU : Hid ((sB noB).toArray.size = U.toArray.size) := by show _ = _; rw [List.size_toArray, List.size_toArray, hU, sB_len, sB_len, hds]; rfl
      have HVU := hide hU
      rw [← hU]
      clear hU
      obtain ⟨C, hEC⟩ := HE.out
      have hfin := ret_frame (cs := ds) Fw9.out HRw9.out Hw9.out (Nat.le_refl _) hbw hds
      have hl9 := (Fr.setRow (base := base) (cs := ds) HRw9.out hds hbw).2.2.load
      rw [← HVU.out] at hfin hl9
      have HFIN := hide hfin
      have HL9 := hide hl9
      clear hfin hl9
      go_wp2_with (refine wpList_store_row rfl 107 _ _ rfl (w.heap.size) U.toArray rfl rfl 107 _ HRw9.out.1 HJU.out HOU.out HAU.out ?_)
      refine bodyPost_ret (results_cell_tmp rfl rfl HL9.out) rfl ⟨HFIN.out.1, ?_⟩
      rw [show escapeM t ⟨k, d, f, g, nm⟩ = _ from hEC]
      exact ⟨⟨ds, _, hds, by rw [HVU.out]; rfl, by simp⟩, HFIN.out.2⟩
    | false =>
      have hcls : isCls b.toNat = false := by rw [← HCB.out]; exact HIC.out.symm
      have HE := hide ((esc_cls (b := b)).2.2 hcls)
      have hsh : shortM b = none := by
        have h1 := (esc_cls (b := b)).1
        rw [hcls] at h1
        exact Option.isNone_iff_eq_none.1 (by rw [← Option.not_isSome, h1]; rfl)
      have HSH := hide hsh
      have KP := hide (plain_any b w7)
      rw [← show c = b.toNat from HCB.out] at KP
      obtain ⟨pl, hpl⟩ : ∃ pl, pl = plB b := ⟨_, rfl⟩
      rw [← hpl] at KP
      have HPL := hide hpl
      clear hsh hpl
      go_wp2_with fail
      refine KP.out.mono ?_
      rintro e w9 ⟨rfl, rfl⟩
      by_cases hok : c < 128 ∧ (pl = false ∨ c = 45 ∨ c = 34)
      · have hmem : b ∈ escL := HE.out.2 (by rw [← HCB.out, ← HPL.out]; exact hok)
        have HM : Hid (escapeM t ⟨k, d, f, g, nm⟩ = .ok (oneC b.toNat, b, true) ⟨k + 1, d, f, g, nm⟩) := by
          show _ = _
          unfold escapeM
          dsimp only
          rw [HB.out]
          dsimp only
          rw [if_pos hmem]
          rfl
        have h128 : ¬ (128 : Int) ≤ (c : Int) := by omega
        have hd128 : decide ((128 : Int) ≤ (c : Int)) = false := decide_eq_false h128
        have K1 := hide (fun W => one_any c W hok.1)
        have hcases : (pl = false) ∨ (pl = true ∧ c = 45) ∨ (pl = true ∧ c ≠ 45 ∧ c = 34) := by
          cases pl
          · exact .inl rfl
          · by_cases h45 : c = 45
            · exact .inr (.inl ⟨rfl, h45⟩)
            · rcases hok.2 with h | h | h
              · cases h
              · exact absurd h h45
              · exact .inr (.inr ⟨rfl, h45, h⟩)
        have hok1 := hok.1
        clear hmem HE HSH hok
        rcases hcases with hp1 | ⟨hp1, hp2⟩ | ⟨hp1, hp2, hp3⟩
        case' inl => subst hp1
        case' inr.inl =>
          subst hp1
          have q45 : ((c : Int) != 45) = false := by rw [hp2]; rfl
          clear hp2
        case' inr.inr =>
          subst hp1
          have q45 : ((c : Int) != 45) = true := by rw [bne_iff_ne]; omega
          have q34 : ((c : Int) != 34) = false := by rw [hp3]; rfl
          clear hp2 hp3
        all_goals
          go_upto_region 14 with fail
          generalize hw9 : World.setCell _ _ _ = w8
          have Hw8 : Hid (RA w8 p r base t ⟨k + 1, d, f, g, nm⟩ false hv n) := (Hw7.out.up2 w8 hw9 (by simp)).1
          have hfr8 := (Hw7.out.up2 w8 hw9 (by simp)).2
          have Fw8 := hide (Fw7.out.trans hfr8)
          have HRw8 := hide (hfr8.ks _ _ HRw7.out)
          have hlt8 := HRw8.out.1.lt
          clear hw9 hfr8 c0 c1 c2 f1 f2 hl
          go_wp2_with fail
          refine (K1.out _).mono ?_
          rintro e w9 ⟨rfl, hx9⟩
          have Hw9 := hide (Hw8.out.ex hx9)
          have Fw9 := hide (Fw8.out.trans (Fr.ex hx9 (by omega)))
          have HRw9 := hide (HRw8.out.ex hx9 (by simp))
          clear hx9
          obtain ⟨U, hU⟩ : ∃ V, V = sB (oneB c) := ⟨_, rfl⟩
          have HIU : Hid ((Tryz.prog.info? 107).map (·.size) = some U.length) := by rw [hU]; exact infoSet (oneB_len c)
          have HJU : Hid ((Tryz.prog.info? 107).map (·.size) = some U.toArray.size) := by rw [hU]; exact infoSetA (oneB_len c)
          have HAU : Hid (U.toArray.all (·.oneCell') = true) := by rw [hU]; exact all_plain (sB_plain _)
          have HOU : Hid ((sB noB).toArray.size = U.toArray.size) := by show _ = _; rw [List.size_toArray, List.size_toArray, hU, sB_len, sB_len, (oneB_len c)]; rfl
          have HVU := hide hU
          rw [← hU]
          clear hU
          have hfin := ret_frame (cs := (oneB c)) Fw9.out HRw9.out Hw9.out (Nat.le_refl _) hbw (oneB_len c)
          have hl9 := (Fr.setRow (base := base) (cs := (oneB c)) HRw9.out (oneB_len c) hbw).2.2.load
          rw [← HVU.out] at hfin hl9
          have HFIN := hide hfin
          have HL9 := hide hl9
          clear hfin hl9
          go_wp2_with (refine wpList_store_row rfl 107 _ _ rfl (w.heap.size) U.toArray rfl rfl 107 _ HRw9.out.1 HJU.out HOU.out HAU.out ?_)
          refine bodyPost_ret (results_cell_tmp rfl rfl HL9.out) rfl ⟨HFIN.out.1, ?_⟩
          rw [show escapeM t ⟨k, d, f, g, nm⟩ = _ from HM.out]
          exact ⟨⟨(oneB c), _, (oneB_len c), by rw [HVU.out]; rfl, by rw [HCB.out]; simp⟩, HFIN.out.2⟩
      · have hmem : b ∉ escL := fun hm => hok (by rw [HCB.out, HPL.out]; exact HE.out.1 hm)
        have HM : Hid (escapeM t ⟨k, d, f, g, nm⟩ = .bad ⟨k, d, f, g, nm⟩) := by
          show _ = _
          unfold escapeM
          dsimp only
          rw [HB.out]
          dsimp only
          rw [if_neg hmem, HSH.out]
        have hcases : (pl = true ∧ c ≠ 45 ∧ c ≠ 34) ∨ (pl = false ∧ 128 ≤ c) ∨ (pl = true ∧ c = 45 ∧ 128 ≤ c) ∨ (pl = true ∧ c ≠ 45 ∧ c = 34 ∧ 128 ≤ c) := by
          cases pl
          · exact .inr (.inl ⟨rfl, by
              rcases Nat.lt_or_ge c 128 with h | h
              · exact absurd ⟨h, .inl rfl⟩ hok
              · exact h⟩)
          · by_cases h45 : c = 45
            · exact absurd ⟨by omega, .inr (.inl h45)⟩ hok
            · by_cases h34 : c = 34
              · exact absurd ⟨by omega, .inr (.inr h34)⟩ hok
              · exact .inl ⟨rfl, h45, h34⟩
        clear hmem HE HSH hok
        rcases hcases with ⟨hp1, hp2, hp3⟩ | ⟨hp1, hp2⟩ | ⟨_, h45, h128⟩ | ⟨_, _, h34, h128⟩
        case' inl =>
          subst hp1
          have q45 : ((c : Int) != 45) = true := by rw [bne_iff_ne]; omega
          have q34 : ((c : Int) != 34) = true := by rw [bne_iff_ne]; omega
        case' inr.inl =>
          subst hp1
          have h128 : (128 : Int) ≤ (c : Int) := by omega
        case inr.inr.inl => omega
        case inr.inr.inr => omega
        all_goals
          go_upto_region 12 with fail
          generalize hw9 : World.setCell _ _ _ = w8
          have Hw8 : Hid (RA w8 p r base t ⟨k, d, f, g, nm⟩ true hv n) := (Hw7.out.bads w8 hw9).1
          have hfr8 := (Hw7.out.bads w8 hw9).2
          have Fw8 := hide (Fw7.out.trans hfr8)
          have HRw8 := hide (hfr8.ks _ _ HRw7.out)
          have hlt8 := HRw8.out.1.lt
          clear hw9 hfr8 c0 c1 c2 f1 f2 hl
          obtain ⟨U, hU⟩ : ∃ V, V = sB noB := ⟨_, rfl⟩
          have HIU : Hid ((Tryz.prog.info? 107).map (·.size) = some U.length) := by rw [hU]; exact infoSet rfl
          have HJU : Hid ((Tryz.prog.info? 107).map (·.size) = some U.toArray.size) := by rw [hU]; exact infoSetA rfl
          have HAU : Hid (U.toArray.all (·.oneCell') = true) := by rw [hU]; exact all_plain (sB_plain _)
          have HOU : Hid ((sB noB).toArray.size = U.toArray.size) := by show _ = _; rw [hU]
          have HVU := hide hU
          subst hU
          have hfin := ret_frame (cs := noB) Fw8.out HRw8.out Hw8.out (Nat.le_refl _) hbw rfl
          have hl9 := (Fr.setRow (base := base) (cs := noB) HRw8.out rfl hbw).2.2.load
          have HFIN := hide hfin
          have HL9 := hide hl9
          clear hfin hl9
          go_wp2_with (refine wpList_store_row rfl 107 _ _ rfl (w.heap.size) (sB noB).toArray rfl rfl 107 _ HRw8.out.1 HJU.out HOU.out HAU.out ?_)
          refine bodyPost_ret (results_cell_tmp rfl rfl HL9.out) rfl ⟨HFIN.out.1, ?_⟩
          rw [show escapeM t ⟨k, d, f, g, nm⟩ = _ from HM.out]
          exact ⟨⟨noB, _, rfl, rfl, by simp⟩, HFIN.out.2⟩
  · have hd : decide (t.size ≤ k) = true := decide_eq_true (by omega)
    have HM : Hid (escapeM t ⟨k, d, f, g, nm⟩ = .bad ⟨k, d, f, g, nm⟩) := esc_none hlt
    go_wp2_with fail
    go_quiet (fail)
    go_upto_region 4 with fail
    generalize hw9 : World.setCell _ _ _ = w8
    have Hw8 : Hid (RA w8 p r base t ⟨k, d, f, g, nm⟩ true hv n) := ((H3.out.drewN _).bads w8 hw9).1
    have hfr8 := ((H3.out.drewN _).bads w8 hw9).2
    have Fw8 := hide ((F3.out.trans (Fr.drewN _ _ _)).trans hfr8)
    have HRw8 := hide (hfr8.ks _ _ HR3.out)
    have hlt8 := HRw8.out.1.lt
    clear hw9 hfr8 c0 c1 c2 f1 f2 hl
    obtain ⟨U, hU⟩ : ∃ V, V = sB noB := ⟨_, rfl⟩
    have HIU : Hid ((Tryz.prog.info? 107).map (·.size) = some U.length) := by rw [hU]; exact infoSet rfl
    have HJU : Hid ((Tryz.prog.info? 107).map (·.size) = some U.toArray.size) := by rw [hU]; exact infoSetA rfl
    have HAU : Hid (U.toArray.all (·.oneCell') = true) := by rw [hU]; exact all_plain (sB_plain _)
    have HOU : Hid ((sB noB).toArray.size = U.toArray.size) := by show _ = _; rw [hU]
    have HVU := hide hU
    subst hU
    have hfin := ret_frame (cs := noB) Fw8.out HRw8.out Hw8.out (Nat.le_refl _) hbw rfl
    have hl9 := (Fr.setRow (base := base) (cs := noB) HRw8.out rfl hbw).2.2.load
    have HFIN := hide hfin
    have HL9 := hide hl9
    clear hfin hl9
    go_wp2_with (refine wpList_store_row rfl 107 _ _ rfl (w.heap.size) (sB noB).toArray rfl rfl 107 _ HRw8.out.1 HJU.out HOU.out HAU.out ?_)
    refine bodyPost_ret (results_cell_tmp rfl rfl HL9.out) rfl ⟨HFIN.out.1, ?_⟩
    rw [show escapeM t ⟨k, d, f, g, nm⟩ = _ from HM.out]
    exact ⟨⟨noB, _, rfl, rfl, by simp⟩, HFIN.out.2⟩
end Go.Proofs.YtgmjjhmnchefbaaGreatDoor.G

/- The document's own reader of patterns: an expression with a set; what storing does to a reader. -/
namespace Go.Proofs.YtgmjjhmnchefbaaGreatDoor.G
open Go.RowKit

theorem fill_at : ∀ (S : List Value) (off k : Nat) (C : Array Value), off + k + S.length ≤ C.size → (S.zipIdx k).foldl (fun (cs : Array Value) (x : Value × Nat) => cs.setIfInBounds (off + x.2) x.1) C = (C.toList.take (off + k) ++ S ++ C.toList.drop (off + k + S.length)).toArray
  | [], off, k, C, h => by simp
  | v :: r, off, k, C, h => by
    have e := list_seg_step C.toList (off + k) v r (by simp at h ⊢; omega)
    rw [List.zipIdx_cons, List.foldl_cons, fill_at r off (k + 1) _ (by simp at h ⊢; omega)]
    congr 1
    simpa [Array.toList_setIfInBounds, Nat.add_assoc] using e
set_option maxRecDepth 100000 in
theorem built_expr (parts : List (Nat × Value)) : Tryz.prog.built 109 parts = Instr.fill (fun i => (#[(0, 1), (1, 1), (2, 1), (3, 1), (4, 1), (5, 129)] : Array (Nat × Nat))[i]?) zeroE.toArray parts := by kernel_rfl
set_option maxRecDepth 100000 in
theorem fill_two (v : Value) : Instr.fill (fun i => (#[(0, 1), (1, 1), (2, 1), (3, 1), (4, 1), (5, 129)] : Array (Nat × Nat))[i]?) zeroE.toArray [(0, .int .i64 2), (5, v)] = Instr.fill (fun i => (#[(0, 1), (1, 1), (2, 1), (3, 1), (4, 1), (5, 129)] : Array (Nat × Nat))[i]?) (exprL 2 0 0 0 false noB).toArray [(5, v)] := by kernel_rfl
set_option maxRecDepth 100000 in
theorem built_set (bs : List Bool) (hb : bs.length = 129) : Tryz.prog.built 109 [(0, .int .i64 2), (5, .agg (sB bs).toArray)] = some (exprL 2 0 0 0 false bs).toArray := by
  rw [built_expr, fill_two]
  have hl : (exprL 2 0 0 0 false noB).toArray.size = 134 := by rw [List.size_toArray]; simp [exprL, sB_len, noB]
  have hs : (sB bs).toArray.size = 129 := by rw [List.size_toArray, sB_len, hb]
  have h := fill_at (sB bs) 5 0 (exprL 2 0 0 0 false noB).toArray (by rw [hl, sB_len, hb]; decide)
  unfold Instr.fill
  simp only [Value.cells, hs, hl, List.getElem?_toArray, List.getElem?_cons_succ, List.getElem?_cons_zero]
  rw [if_neg (by decide)]
  unfold Instr.fill
  congr 1
  rw [← Array.foldl_toList, Array.toList_zipIdx]
  refine h.trans ?_
  congr 1
  rw [sB_len, hb]
  unfold exprL
  rw [List.take_append_of_le_length (by simp), List.take_of_length_le (by simp), List.drop_eq_nil_of_le (by simp [sB_len, noB]), List.append_nil]
theorem RA.exb {w w' : World} {p r base : Nat} {t : ByteArray} {s : RS} {bad : Bool} {hv : Int} {n b : Nat} {bs : List Bool} (h : RA w p r base t s bad hv n) (hb : SB w b bs) (hx : Ex [b] w w') : RA w' p r base t s bad hv n := by
  obtain ⟨av, nv, ys, ns, h1, h2, h3, h4, h5⟩ := h.rn.ex
  have hk := h.rk
  unfold RK at hk
  have e1 : p ≠ b := fun e => (sb_ne hb hk (by decide)) e.symm
  have e2 : r ≠ b := fun e => (sb_ne hb h1 (by decide)) e.symm
  refine ⟨hk.ex hx (by simpa using e1), ⟨av, nv, ys, ns, h1.ex hx (by simpa using e2), own_exn h2 hx (fun g hg => ?_), own_exn h3 hx (fun g hg => ?_), h4, h5⟩, h.pb, h.rb, Nat.le_trans h.bw hx.size⟩
  · simp only [List.mem_singleton]
    intro e
    subst e
    exact row_ne h2 hb.1 (by decide) hg
  · simp only [List.mem_singleton]
    intro e
    subst e
    exact row_ne h3 hb.1 (by decide) hg
theorem Fr.exb {w0 w w' : World} {base b : Nat} (hF : Fr w0 w base) (hx : Ex [b] w w') (h0 : w0.heap.size ≤ b) (hb0 : base ≤ w0.heap.size) : Fr w0 w' base := by
  refine ⟨fun b' bs' h' => ?_, hF.eb.trans ⟨hx.os, hx.tape, hx.output, hx.size, fun k hk _ => hx.block k (by have := hF.eb.size; omega) (by simp; omega)⟩⟩
  have h1 := hF.ks b' bs' h'
  have h2 := h'.1.lt
  exact h1.ex hx (by simp; omega)
theorem set_touch {w0 w w' : World} {p r base : Nat} {t : ByteArray} {s : RS} {bad : Bool} {hv : Int} {n b j : Nat} {bs : List Bool} {x : Bool} (hF : Fr w0 w base) (hb : SB w b bs) (h : RA w p r base t s bad hv n) (h0 : w0.heap.size ≤ b) (hb0 : base ≤ w0.heap.size) (hw : w.setCell ⟨b, j, none⟩ (.bool x) = w') :
    RA w' p r base t s bad hv n ∧ Fr w0 w' base ∧ SB w' b (bs.set j x) ∧ ∀ b' bs', b' ≠ b → SB w b' bs' → SB w' b' bs' := by
  have hx : Ex [b] w w' := by rw [← hw]; exact (Ex.refl _ _).setCell (.inl (by simp)) _
  exact ⟨h.exb hb hx, hF.exb hx h0 hb0, by rw [← hw]; exact hb.set j x, fun b' bs' hne h' => h'.ex hx (by simpa using hne)⟩
theorem set_store {w0 w w' : World} {p r base : Nat} {t : ByteArray} {s : RS} {bad : Bool} {hv : Int} {n b : Nat} {bs cs : List Bool} (hF : Fr w0 w base) (hb : SB w b bs) (h : RA w p r base t s bad hv n) (h0 : w0.heap.size ≤ b) (hb0 : base ≤ w0.heap.size) (hc : cs.length = 129) (hw : w' = w.setRow b (sB cs).toArray) :
    RA w' p r base t s bad hv n ∧ Fr w0 w' base ∧ SB w' b cs ∧ ∀ b' bs', b' ≠ b → SB w b' bs' → SB w' b' bs' := by
  have hx : Ex [b] w w' := by rw [hw]; exact (Ex.refl _ _).setRow (.inl (by simp)) _
  exact ⟨h.exb hb hx, hF.exb hx h0 hb0, by rw [hw]; exact hb.store hc, fun b' bs' hne h' => h'.ex hx (by simpa using hne)⟩
theorem set_new {w0 w w' : World} {p r base : Nat} {t : ByteArray} {s : RS} {bad : Bool} {hv : Int} {n : Nat} {cs : List Bool} (hF : Fr w0 w base) (h : RA w p r base t s bad hv n) (hc : cs.length = 129) (hw : w' = (w.alloc (Obj.cells (sB noB).toArray 107)).setRow w.heap.size (sB cs).toArray) (hb0 : base ≤ w0.heap.size) :
    RA w' p r base t s bad hv n ∧ Fr w0 w' base ∧ SB w' w.heap.size cs ∧ BK (w.alloc (Obj.cells (sB noB).toArray 107)) w.heap.size (Obj.cells (sB noB).toArray 107 (0, 0)) ∧ ∀ b' bs', SB w b' bs' → SB w' b' bs' := by
  have hx1 : Ex [] w (w.alloc (Obj.cells (sB noB).toArray 107)) := (Ex.refl _ _).alloc _
  have hn : SB (w.alloc (Obj.cells (sB noB).toArray 107)) w.heap.size noB := ⟨BK.new _ _, rfl⟩
  have hsz := hF.eb.size
  have h1 := set_store (hF.trans (Fr.ex hx1 h.bw)) hn (h.ex hx1) hsz hb0 hc hw
  exact ⟨h1.1, h1.2.1, h1.2.2.1, hn.1, fun b' bs' h' => h1.2.2.2 b' bs' (by have := h'.1.lt; omega) (h'.ex hx1 (by simp))⟩
end Go.Proofs.YtgmjjhmnchefbaaGreatDoor.G
