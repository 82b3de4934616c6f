/- The document's own reader of patterns: an end of a pair. -/
import Derived.Test.YtgmjjhmnchefbaaGreatDoorM34
set_option linter.unusedVariables false
set_option linter.unusedSimpArgs false
namespace Go.Proofs.YtgmjjhmnchefbaaGreatDoor.G
open Go.RowKit

def numO : Option Nat → Int
  | some c => (c : Int)
  | none => -1
def EndPost (w' : World) (p r base : Nat) (t : ByteArray) (hv : Int) (n : Nat) (e : Ending) : Res (Option Nat) → Prop
  | .ok o s' => SetN e (fun m => m = numO o) ∧ RA w' p r base t s' false hv n
  | .bad s' => SetN e (fun _ => True) ∧ RA w' p r base t s' true hv n
set_option maxRecDepth 100000 in
theorem zero_set : Tryz.zeroCells107 = (sB noB).toArray := by kernel_rfl
theorem zero_info : (Tryz.prog.info? 107).map (·.size) = some Tryz.zeroCells107.size := by rw [zero_set]; exact infoSetA rfl
theorem zero_size : (sB noB).toArray.size = Tryz.zeroCells107.size := by rw [zero_set]
theorem zero_all : Tryz.zeroCells107.all (·.oneCell') = true := by rw [zero_set]; exact all_plain (sB_plain _)
theorem escL_lt {b : UInt8} (h : b ∈ escL) : b.toNat < 128 := by
  revert h
  revert b
  unfold escL
  simp
theorem end_lt {t : ByteArray} {low : Int} {s s' : RS} {c : Nat} (h : endM t low s = .ok (some c) s') : c < 128 := by
  unfold endM at h
  split at h
  · cases h
  · split at h
    · cases h
    · next h128 =>
      split at h
      · split at h
        · cases h
        · split at h
          · cases h
          · next x s2 he =>
            cases hx : x.2.2 with
            | false =>
              rw [hx] at h
              simp only [Bool.false_eq_true, if_false] at h
              split at h <;> cases h
            | true =>
              rw [hx] at h
              simp only [if_true] at h
              split at h
              · cases h
              · cases h
                exact escL_lt ((escape_flag he).1 hx).2
      · split at h
        · cases h
        · cases h; omega
set_option maxHeartbeats 8000000 in
set_option maxRecDepth 100000 in
theorem end_any {w : World} {p r base : Nat} {t : ByteArray} {s : RS} {hv : Int} {n : Nat} (low : Int) (h : RA w p r base t s false hv n) (ht : t.size ≤ 60) :
    Calls Tryz.prog 160 #[.pointer (some ⟨p, 0, none⟩), .int .i64 low] w fun e w' => Fr w w' base ∧ EndPost w' p r base t hv n e (endM t low s) := by
  have H := hide h
  have hbw := h.bw
  clear h
  go_enter Tryz.func160, Tryz.ntmps160
  go_upto_region 1 with fail
  generalize hw2 : World.alloc _ _ = w2
  have hx2 : Ex [] w w2 := by rw [← hw2]; exact (Ex.refl _ _).alloc _
  have hr2 : SB w2 w.heap.size noB := by rw [← hw2]; exact ⟨BK.new _ _, rfl⟩
  have H2 := hide (H.out.ex hx2)
  have HR2 := hide hr2
  have F2 := hide (Fr.ex hx2 hbw)
  have KN := hide (next_any H2.out.rk)
  obtain ⟨c, hc⟩ : ∃ c, c = nextN t s.k := ⟨_, rfl⟩
  have HC := hide hc
  rw [← hc] at KN
  have hc256 : c < 256 := by rw [hc]; exact nextN_lt _ _
  clear hw2 hx2 hr2 hc
  go_wp2_with fail
  refine KN.out.mono ?_
  rintro e w3 ⟨rfl, q9, hq9⟩
  have Hw3 : Hid (RA w3 p r base t s false hv n) := by rw [hq9]; exact H2.out.drewN q9
  have Fw3 : Hid (Fr w w3 base) := F2.out.trans (by rw [hq9]; exact Fr.drewN _ _ q9)
  have HRw3 : Hid (SB w3 w.heap.size noB) := by rw [hq9]; exact HR2.out
  have hz3 : w.heap.size < w3.heap.size := HRw3.out.1.lt
  clear hq9 KN
  obtain ⟨k, d, f, g, nm⟩ := s
  obtain ⟨c0, c1, c2, f1, f2, hl⟩ := Hw3.out.facts
  dsimp only at c1
  by_cases hlt : k < t.size
  · have hd : decide (t.size ≤ k) = false := decide_eq_false (by omega)
    obtain ⟨b, hb, hbc⟩ := byte_nx hlt
    have hcb : c = b.toNat := HC.out.trans hbc
    have HB := hide hb
    have HCB := hide hcb
    have hEM : endM t low ⟨k, d, f, g, nm⟩ = if 128 ≤ c then .bad ⟨k, d, f, g, nm⟩
    else if b = 92 then
      if 125 < low then .bad ⟨k, d, f, g, nm⟩
      else match escapeM t ⟨k + 1, d, f, g, nm⟩ with
        | .bad s' => .bad s'
        | .ok x s' => if 0 ≤ low ∧ (if x.2.2 then (x.2.1.toNat : Int) else -1) < low then .bad ⟨k + 1, d, f, g, nm⟩ else .ok (if x.2.2 then some x.2.1.toNat else none) s'
    else if b = 91 ∨ b = 93 ∨ b = 94 ∨ b = 45 ∨ (c : Int) < low then .bad ⟨k, d, f, g, nm⟩
    else .ok (some c) ⟨k + 1, d, f, g, nm⟩ := by
      unfold endM
      dsimp only
      rw [hb, hcb]
      rfl
    have HEM := hide hEM
    have hbn : ∀ x : UInt8, b = x ↔ c = x.toNat := fun x => by rw [hcb, UInt8.toNat_inj]
    clear hb hbc hcb hEM
    by_cases h128 : 128 ≤ c
    · have HM : Hid (endM t low ⟨k, d, f, g, nm⟩ = .bad ⟨k, d, f, g, nm⟩) := by show _ = _; rw [HEM.out, if_pos h128]
      have hd128 : decide ((128 : Int) ≤ (c : Int)) = true := decide_eq_true (by omega)
      have hd128n : decide (128 ≤ c) = true := decide_eq_true h128
      have hi128 : (128 : Int) ≤ (c : Int) := by omega
      clear hbn
      go_wp2_with fail
      go_quiet (fail)
      go_upto_region 4 with fail
      generalize hw9 : World.setCell _ _ _ = w8
      have Hw8 : Hid (RA w8 p r base t ⟨k, d, f, g, nm⟩ true hv n) := (((Hw3.out.drewN _)).bads w8 hw9).1
      have hfr9 := (((Hw3.out.drewN _)).bads w8 hw9).2
      have Fw8 := hide ((Fw3.out.trans (Fr.drewN _ _ _)).trans hfr9)
      have HRw8 := hide (hfr9.ks _ _ HRw3.out)
      have hlt9 := HRw8.out.1.lt
      clear hw9 hfr9
      clear c0 c1 c2 f1 f2 hl
      have hfin := ret_frame (cs := noB) Fw8.out HRw8.out Hw8.out (Nat.le_refl _) hbw rfl
      have hl9 := (Fr.setRow (base := base) (cs := noB) HRw8.out rfl hbw).2.2.load
      rw [← zero_set] at hfin hl9
      have HFIN := hide hfin
      have HL9 := hide hl9
      clear hfin hl9
      go_wp2_with (refine wpList_store_row rfl 107 _ _ rfl w.heap.size Tryz.zeroCells107 rfl rfl 107 _ HRw8.out.1 zero_info zero_size zero_all ?_)
      refine bodyPost_ret (results_cell_tmp rfl rfl HL9.out) rfl ⟨HFIN.out.1, ?_⟩
      rw [show endM t low ⟨k, d, f, g, nm⟩ = _ from HM.out]
      exact ⟨⟨noB, _, rfl, by rw [zero_set]; rfl, trivial⟩, HFIN.out.2⟩
    · have hd128 : decide ((128 : Int) ≤ (c : Int)) = false := decide_eq_false (by omega)
      have hd128n : decide (128 ≤ c) = false := decide_eq_false h128
      have hi128 : ¬ (128 : Int) ≤ (c : Int) := by omega
      by_cases h92 : c = 92
      · have hb92 : b = 92 := (hbn 92).2 h92
        have q92 : ((c : Int) == 92) = true := by rw [h92]; rfl
        clear hbn
        by_cases hlow : 125 < low
        · have HM : Hid (endM t low ⟨k, d, f, g, nm⟩ = .bad ⟨k, d, f, g, nm⟩) := by show _ = _; rw [HEM.out, if_neg h128, if_pos hb92, if_pos hlow]
          clear h92
          go_wp2_with fail
          go_quiet (fail)
          go_upto_region 8 with fail
          generalize hw9 : World.setCell _ _ _ = w8
          have Hw8 : Hid (RA w8 p r base t ⟨k, d, f, g, nm⟩ true hv n) := (((Hw3.out.drewN _)).bads w8 hw9).1
          have hfr9 := (((Hw3.out.drewN _)).bads w8 hw9).2
          have Fw8 := hide ((Fw3.out.trans (Fr.drewN _ _ _)).trans hfr9)
          have HRw8 := hide (hfr9.ks _ _ HRw3.out)
          have hlt9 := HRw8.out.1.lt
          clear hw9 hfr9
          clear c0 c1 c2 f1 f2 hl
          have hfin := ret_frame (cs := noB) Fw8.out HRw8.out Hw8.out (Nat.le_refl _) hbw rfl
          have hl9 := (Fr.setRow (base := base) (cs := noB) HRw8.out rfl hbw).2.2.load
          rw [← zero_set] at hfin hl9
          have HFIN := hide hfin
          have HL9 := hide hl9
          clear hfin hl9
          go_wp2_with (refine wpList_store_row rfl 107 _ _ rfl w.heap.size Tryz.zeroCells107 rfl rfl 107 _ HRw8.out.1 zero_info zero_size zero_all ?_)
          refine bodyPost_ret (results_cell_tmp rfl rfl HL9.out) rfl ⟨HFIN.out.1, ?_⟩
          rw [show endM t low ⟨k, d, f, g, nm⟩ = _ from HM.out]
          exact ⟨⟨noB, _, rfl, by rw [zero_set]; rfl, trivial⟩, HFIN.out.2⟩
        · have HM : Hid (endM t low ⟨k, d, f, g, nm⟩ = match escapeM t ⟨k + 1, d, f, g, nm⟩ with
            | .bad s' => .bad s'
            | .ok x s' => if 0 ≤ low ∧ (if x.2.2 then (x.2.1.toNat : Int) else -1) < low then .bad ⟨k + 1, d, f, g, nm⟩ else .ok (if x.2.2 then some x.2.1.toNat else none) s') := by show _ = _; rw [HEM.out, if_neg h128, if_pos hb92, if_neg hlow]
          clear h92
          go_wp2_with fail
          go_quiet (fail)
          go_upto_region 10 with fail
          generalize hw9 : World.setCell _ _ _ = w4
          have Hw4 : Hid (RA w4 p r base t ⟨k + 1, d, f, g, nm⟩ false hv n) := ((Hw3.out.drewN _).up2 w4 hw9 (by simp)).1
          have hfr9 := ((Hw3.out.drewN _).up2 w4 hw9 (by simp)).2
          have Fw4 := hide ((Fw3.out.trans (Fr.drewN _ _ _)).trans hfr9)
          have HRw4 := hide (hfr9.ks _ _ HRw3.out)
          clear hw9 hfr9 c0 c1 c2 f1 f2 hl
          obtain ⟨c0, c1, c2, f1, f2, hl⟩ := Hw4.out.facts
          have c1 : w4.cell? ⟨p, 1, none⟩ = some (.int .i64 ((k : Int) + 1)) := by simpa using c1
          have KE := hide (escape_any Hw4.out ht)
          go_wp2_with fail
          refine KE.out.mono ?_
          rintro e w5 ⟨hf5, hp5⟩
          clear c0 c1 c2 f1 f2 hl KE
          have Fw5 := hide (Fw4.out.trans hf5)
          have HRw5 := hide (hf5.ks _ _ HRw4.out)
          have hz5 := Fw5.out.eb.size
          have hz5b := HRw5.out.1.lt
          have hEsc : ∃ bd sx cs m, escapeM t ⟨k + 1, d, f, g, nm⟩ = escapeM t ⟨k + 1, d, f, g, nm⟩ ∧ cs.length = 129 ∧ e = .returned (.tuple #[.agg (sB cs).toArray, .int .i64 m]) ∧ RA w5 p r base t sx bd hv n ∧ (bd = true → endM t low ⟨k, d, f, g, nm⟩ = Res.bad sx) ∧ (bd = false → sx = ⟨k + 2, d, f, g, nm⟩ ∧ endM t low ⟨k, d, f, g, nm⟩ = (if 0 ≤ low ∧ m < low then Res.bad ⟨k + 1, d, f, g, nm⟩ else Res.ok (if m = -1 then none else some m.toNat) sx) ∧ -1 ≤ m) := by
            have hm := HM.out
            revert hp5 hm
            cases hE : escapeM t ⟨k + 1, d, f, g, nm⟩ with
            | bad s' =>
              rintro ⟨⟨cs, m, hcs, he, _⟩, hra⟩ hm
              exact ⟨true, s', cs, m, rfl, hcs, he, hra, fun _ => hm, fun h => by cases h⟩
            | ok x s' =>
              rintro ⟨⟨cs, m, hcs, he, hv9⟩, hra⟩ hm
              have hs' := (escape_flag hE).2
              refine ⟨false, s', cs, m, rfl, hcs, he, hra, (fun h => by cases h), fun _ => ⟨hs', ?_, ?_⟩⟩
              · rw [hm, hv9]
                dsimp only
                cases x.2.2 with
                | true =>
                  simp only [if_true]
                  rw [if_neg (show ¬ (x.2.1.toNat : Int) = -1 by omega), Int.toNat_natCast]
                | false => simp only [Bool.false_eq_true, if_false, if_true]
              · rw [hv9]; split <;> omega
          obtain ⟨bd, sx, cs, m, _, hcs, rfl, hra5, hbad, hgood⟩ := hEsc
          obtain ⟨w7, hw7⟩ : ∃ w7, w7 = (w5.alloc (Obj.cells (sB noB).toArray 107)).setRow w5.heap.size (sB cs).toArray := ⟨_, rfl⟩
          obtain ⟨a1, a2, a3, a4, a5⟩ := set_new Fw5.out hra5 hcs hw7 hbw
          have Hw7 := hide a1
          have Fw7 := hide a2
          have HS7 := hide a3
          have HN5 := hide a4
          have HRw7 := hide (a5 _ _ HRw5.out)
          have HW7 := hide hw7
          have HBAD := hide hbad
          have HGOOD := hide hgood
          obtain ⟨V, hV⟩ : ∃ V, V = sB cs := ⟨_, rfl⟩
          have HIV : Hid ((Tryz.prog.info? 107).map (·.size) = some V.length) := by rw [hV]; exact infoSet hcs
          have HJV : Hid ((Tryz.prog.info? 107).map (·.size) = some V.toArray.size) := by rw [hV]; exact infoSetA hcs
          have HAV : Hid (V.toArray.all (·.oneCell') = true) := by rw [hV]; exact all_plain (sB_plain _)
          have HOV : Hid ((sB noB).toArray.size = V.toArray.size) := by show _ = _; rw [List.size_toArray, List.size_toArray, hV, sB_len, sB_len, hcs]; rfl
          have HVV := hide hV
          rw [← hV] at HW7 ⊢
          clear hw7 a1 a2 a3 a4 a5 hp5 hf5 hra5 hV hbad hgood HM
          go_upto_region 12 with (refine wpList_store_row rfl 107 _ _ rfl (w5.heap.size) V.toArray rfl rfl 107 _ HN5.out HJV.out HOV.out HAV.out ?_)
          rw [show (w5.alloc (Obj.cells Tryz.zeroCells107 107)).setRow w5.heap.size V.toArray = w7 from HW7.out.symm]
          clear HW7 HN5
          have hlt7 := HS7.out.1.lt
          have hz7 := Fw7.out.eb.size
          have HRG7 : Hid (World.rangeAt w7 w5.heap.size 0 V) := by rw [HVV.out]; exact HS7.out.1.rangeL
          obtain ⟨c0, c1, c2, f1, f2, hl⟩ := Hw7.out.facts
          have hTAIL : ∃ o : Res (Option Nat), endM t low ⟨k, d, f, g, nm⟩ = o := ⟨_, rfl⟩
          cases bd with
          | true =>
            have HM := hide (HBAD.out rfl)
            clear HBAD HGOOD hTAIL
            clear c0 c1 f1 f2
            have hfin := ret_frame (cs := cs) Fw7.out HRw7.out Hw7.out (Nat.le_refl _) hbw hcs
            have hl9 := (Fr.setRow (base := base) (cs := cs) HRw7.out hcs hbw).2.2.load
            rw [← HVV.out] at hfin hl9
            have HFIN := hide hfin
            have HL9 := hide hl9
            clear hfin hl9
            go_wp2_with (first | refine wpList_load_mid rfl 107 _ rfl (w5.heap.size) 0 rfl V _ HRG7.out Tryz.underlying107 rfl HIV.out ?_ | refine wpList_store_row rfl 107 _ _ rfl (w.heap.size) V.toArray rfl rfl 107 _ HRw7.out.1 HJV.out HOV.out HAV.out ?_)
            refine bodyPost_ret (results_cell_tmp rfl rfl HL9.out) rfl ⟨HFIN.out.1, ?_⟩
            rw [show endM t low ⟨k, d, f, g, nm⟩ = _ from HM.out]
            exact ⟨⟨cs, _, hcs, by rw [HVV.out]; rfl, trivial⟩, HFIN.out.2⟩
          | false =>
            obtain ⟨rfl, hm9, hm1⟩ := HGOOD.out rfl
            have HM := hide hm9
            clear HBAD HGOOD hTAIL hm9
            by_cases hlo : 0 ≤ low
            · by_cases hml : m < low
              · have HMB : Hid (endM t low ⟨k, d, f, g, nm⟩ = .bad ⟨k + 1, d, f, g, nm⟩) := by show _ = _; rw [HM.out, if_pos ⟨hlo, hml⟩]
                clear HM
                go_upto_region 14 with fail
                generalize hw9 : World.setCell _ _ _ = w8
                have hup := Hw7.out.ats w8 (k + 1) hw9 (by simp)
                have Hw8 := hide hup.1
                have Fw8 := hide (Fw7.out.trans hup.2)
                have HRw8 := hide (hup.2.ks _ _ HRw7.out)
                have HS8 := hide (hup.2.ks _ _ HS7.out)
                clear hw9 hup c0 c1 c2 f1 f2 hl
                obtain ⟨c0, c1, c2, f1, f2, hl⟩ := Hw8.out.facts
                go_upto_region 15 with fail
                generalize hw9 : World.setCell _ _ _ = w9
                have hup := Hw8.out.bads w9 hw9
                have Hw9 := hide hup.1
                have Fw9 := hide (Fw8.out.trans hup.2)
                have HRw9 := hide (hup.2.ks _ _ HRw8.out)
                have HS9 := hide (hup.2.ks _ _ HS8.out)
                have hlt9 := HS9.out.1.lt
                have hlt9b := HRw9.out.1.lt
                have HRG9 : Hid (World.rangeAt w9 w5.heap.size 0 V) := by rw [HVV.out]; exact HS9.out.1.rangeL
                clear hw9 hup c0 c1 c2 f1 f2 hl HRG7
                have hfin := ret_frame (cs := cs) Fw9.out HRw9.out Hw9.out (Nat.le_refl _) hbw hcs
                have hl9 := (Fr.setRow (base := base) (cs := cs) HRw9.out hcs hbw).2.2.load
                rw [← HVV.out] at hfin hl9
                have HFIN := hide hfin
                have HL9 := hide hl9
                clear hfin hl9
                go_wp2_with (first | refine wpList_load_mid rfl 107 _ rfl (w5.heap.size) 0 rfl V _ HRG9.out Tryz.underlying107 rfl HIV.out ?_ | refine wpList_store_row rfl 107 _ _ rfl (w.heap.size) V.toArray rfl rfl 107 _ HRw9.out.1 HJV.out HOV.out HAV.out ?_)
                refine bodyPost_ret (results_cell_tmp rfl rfl HL9.out) rfl ⟨HFIN.out.1, ?_⟩
                rw [show endM t low ⟨k, d, f, g, nm⟩ = _ from HMB.out]
                exact ⟨⟨cs, _, hcs, by rw [HVV.out]; rfl, trivial⟩, HFIN.out.2⟩
              · have HMB : Hid (endM t low ⟨k, d, f, g, nm⟩ = .ok (if m = -1 then none else some m.toNat) ⟨k + 2, d, f, g, nm⟩) := by show _ = _; rw [HM.out, if_neg (fun h => hml h.2)]
                clear HM
                have hfin := ret_frame (cs := cs) Fw7.out HRw7.out Hw7.out (Nat.le_refl _) hbw hcs
                have hl9 := (Fr.setRow (base := base) (cs := cs) HRw7.out hcs hbw).2.2.load
                rw [← HVV.out] at hfin hl9
                have HFIN := hide hfin
                have HL9 := hide hl9
                clear hfin hl9
                go_wp2_with (first | refine wpList_load_mid rfl 107 _ rfl (w5.heap.size) 0 rfl V _ HRG7.out Tryz.underlying107 rfl HIV.out ?_ | refine wpList_store_row rfl 107 _ _ rfl (w.heap.size) V.toArray rfl rfl 107 _ HRw7.out.1 HJV.out HOV.out HAV.out ?_)
                refine bodyPost_ret (results_cell_tmp rfl rfl HL9.out) rfl ⟨HFIN.out.1, ?_⟩
                rw [show endM t low ⟨k, d, f, g, nm⟩ = _ from HMB.out]
                exact ⟨⟨cs, _, hcs, by rw [HVV.out]; rfl, by split <;> simp [numO] <;> omega⟩, HFIN.out.2⟩
            · have HMB : Hid (endM t low ⟨k, d, f, g, nm⟩ = .ok (if m = -1 then none else some m.toNat) ⟨k + 2, d, f, g, nm⟩) := by show _ = _; rw [HM.out, if_neg (fun h => hlo h.1)]
              clear HM
              have hfin := ret_frame (cs := cs) Fw7.out HRw7.out Hw7.out (Nat.le_refl _) hbw hcs
              have hl9 := (Fr.setRow (base := base) (cs := cs) HRw7.out hcs hbw).2.2.load
              rw [← HVV.out] at hfin hl9
              have HFIN := hide hfin
              have HL9 := hide hl9
              clear hfin hl9
              go_wp2_with (first | refine wpList_load_mid rfl 107 _ rfl (w5.heap.size) 0 rfl V _ HRG7.out Tryz.underlying107 rfl HIV.out ?_ | refine wpList_store_row rfl 107 _ _ rfl (w.heap.size) V.toArray rfl rfl 107 _ HRw7.out.1 HJV.out HOV.out HAV.out ?_)
              refine bodyPost_ret (results_cell_tmp rfl rfl HL9.out) rfl ⟨HFIN.out.1, ?_⟩
              rw [show endM t low ⟨k, d, f, g, nm⟩ = _ from HMB.out]
              exact ⟨⟨cs, _, hcs, by rw [HVV.out]; rfl, by split <;> simp [numO] <;> omega⟩, HFIN.out.2⟩
      · have hb92 : b ≠ 92 := fun e => h92 ((hbn 92).1 e)
        have q92 : ((c : Int) == 92) = false := by rw [beq_eq_false_iff_ne]; omega
        have hbn2 : (b = 91 ∨ b = 93 ∨ b = 94 ∨ b = 45 ∨ (c : Int) < low) ↔ (c = 91 ∨ c = 93 ∨ c = 94 ∨ c = 45 ∨ (c : Int) < low) := by
          rw [hbn 91, hbn 93, hbn 94, hbn 45]
          rfl
        have hc128 : c < 128 := by omega
        by_cases hbad : c = 91 ∨ c = 93 ∨ c = 94 ∨ c = 45 ∨ (c : Int) < low
        · have HM : Hid (endM t low ⟨k, d, f, g, nm⟩ = .bad ⟨k, d, f, g, nm⟩) := by show _ = _; rw [HEM.out, if_neg h128, if_neg hb92, if_pos (hbn2.2 hbad)]
          have hcs : (c = 91) ∨ (c ≠ 91 ∧ c = 93) ∨ (c ≠ 91 ∧ c ≠ 93 ∧ c = 94) ∨ (c ≠ 91 ∧ c ≠ 93 ∧ c ≠ 94 ∧ c = 45) ∨ (c ≠ 91 ∧ c ≠ 93 ∧ c ≠ 94 ∧ c ≠ 45 ∧ (c : Int) < low) := by omega
          clear hbn hbn2 hbad HEM
          rcases hcs with a | ⟨a, b'⟩ | ⟨a, b', c'⟩ | ⟨a, b', c', d'⟩ | ⟨a, b', c', d', e'⟩
          case' inl =>
            have q91 : ((c : Int) == 91) = true := by rw [a]; rfl
            clear a
          case' inr.inl =>
            have q91 : ((c : Int) == 91) = false := by rw [beq_eq_false_iff_ne]; omega
            have q93 : ((c : Int) == 93) = true := by rw [b']; rfl
            clear a b'
          case' inr.inr.inl =>
            have q91 : ((c : Int) == 91) = false := by rw [beq_eq_false_iff_ne]; omega
            have q93 : ((c : Int) == 93) = false := by rw [beq_eq_false_iff_ne]; omega
            have q94 : ((c : Int) == 94) = true := by rw [c']; rfl
            clear a b' c'
          case' inr.inr.inr.inl =>
            have q91 : ((c : Int) == 91) = false := by rw [beq_eq_false_iff_ne]; omega
            have q93 : ((c : Int) == 93) = false := by rw [beq_eq_false_iff_ne]; omega
            have q94 : ((c : Int) == 94) = false := by rw [beq_eq_false_iff_ne]; omega
            have q45 : ((c : Int) == 45) = true := by rw [d']; rfl
            clear a b' c' d'
          case' inr.inr.inr.inr =>
            have q91 : ((c : Int) == 91) = false := by rw [beq_eq_false_iff_ne]; omega
            have q93 : ((c : Int) == 93) = false := by rw [beq_eq_false_iff_ne]; omega
            have q94 : ((c : Int) == 94) = false := by rw [beq_eq_false_iff_ne]; omega
            have q45 : ((c : Int) == 45) = false := by rw [beq_eq_false_iff_ne]; omega
            clear a b' c' d'
          all_goals
            go_wp2_with fail
            go_quiet (fail)
            go_upto_region 18 with fail
            generalize hw9 : World.setCell _ _ _ = w8
            have Hw8 : Hid (RA w8 p r base t ⟨k, d, f, g, nm⟩ true hv n) := (((Hw3.out.drewN _)).bads w8 hw9).1
            have hfr9 := (((Hw3.out.drewN _)).bads w8 hw9).2
            have Fw8 := hide ((Fw3.out.trans (Fr.drewN _ _ _)).trans hfr9)
            have HRw8 := hide (hfr9.ks _ _ HRw3.out)
            have hlt9 := HRw8.out.1.lt
            clear hw9 hfr9
            clear c0 c1 c2 f1 f2 hl
            have hfin := ret_frame (cs := noB) Fw8.out HRw8.out Hw8.out (Nat.le_refl _) hbw rfl
            have hl9 := (Fr.setRow (base := base) (cs := noB) HRw8.out rfl hbw).2.2.load
            rw [← zero_set] at hfin hl9
            have HFIN := hide hfin
            have HL9 := hide hl9
            clear hfin hl9
            go_wp2_with (refine wpList_store_row rfl 107 _ _ rfl w.heap.size Tryz.zeroCells107 rfl rfl 107 _ HRw8.out.1 zero_info zero_size zero_all ?_)
            refine bodyPost_ret (results_cell_tmp rfl rfl HL9.out) rfl ⟨HFIN.out.1, ?_⟩
            rw [show endM t low ⟨k, d, f, g, nm⟩ = _ from HM.out]
            exact ⟨⟨noB, _, rfl, by rw [zero_set]; rfl, trivial⟩, HFIN.out.2⟩
        · have HM : Hid (endM t low ⟨k, d, f, g, nm⟩ = .ok (some c) ⟨k + 1, d, f, g, nm⟩) := by show _ = _; rw [HEM.out, if_neg h128, if_neg hb92, if_neg (fun h => hbad (hbn2.1 h))]
          have q91 : ((c : Int) == 91) = false := by rw [beq_eq_false_iff_ne]; omega
          have q93 : ((c : Int) == 93) = false := by rw [beq_eq_false_iff_ne]; omega
          have q94 : ((c : Int) == 94) = false := by rw [beq_eq_false_iff_ne]; omega
          have q45 : ((c : Int) == 45) = false := by rw [beq_eq_false_iff_ne]; omega
          have hlw : ¬ (c : Int) < low := by omega
          have K1 := hide (fun W => one_any c W hc128)
          clear hbn hbn2 hbad HEM
          go_wp2_with fail
          go_quiet (fail)
          go_upto_region 20 with fail
          generalize hw9 : World.setCell _ _ _ = w8
          have hup := (Hw3.out.drewN _).up2 w8 hw9 (by simp)
          have Hw8 : Hid (RA w8 p r base t ⟨k + 1, d, f, g, nm⟩ false hv n) := hup.1
          have Fw8 := hide ((Fw3.out.trans (Fr.drewN _ _ _)).trans hup.2)
          have HRw8 := hide (hup.2.ks _ _ HRw3.out)
          have hlt8 := HRw8.out.1.lt
          clear hw9 hup c0 c1 c2 f1 f2 hl
          go_wp2_with fail
          refine (K1.out _).mono ?_
          rintro e w9 ⟨rfl, hx9⟩
          have Hw9 := hide (Hw8.out.ex hx9)
          have Fw9 := hide (Fw8.out.trans (Fr.ex hx9 (by omega)))
          have HRw9 := hide (HRw8.out.ex hx9 (by simp))
          clear hx9
          obtain ⟨U, hU⟩ : ∃ V, V = sB (oneB c) := ⟨_, rfl⟩
          have HIU : Hid ((Tryz.prog.info? 107).map (·.size) = some U.length) := by rw [hU]; exact infoSet (oneB_len c)
          have HJU : Hid ((Tryz.prog.info? 107).map (·.size) = some U.toArray.size) := by rw [hU]; exact infoSetA (oneB_len c)
          have HAU : Hid (U.toArray.all (·.oneCell') = true) := by rw [hU]; exact all_plain (sB_plain _)
          have HOU : Hid ((sB noB).toArray.size = U.toArray.size) := by show _ = _; rw [List.size_toArray, List.size_toArray, hU, sB_len, sB_len, (oneB_len c)]; rfl
          have HVU := hide hU
          rw [← hU]
          clear hU
          have hfin := ret_frame (cs := (oneB c)) Fw9.out HRw9.out Hw9.out (Nat.le_refl _) hbw (oneB_len c)
          have hl9 := (Fr.setRow (base := base) (cs := (oneB c)) HRw9.out (oneB_len c) hbw).2.2.load
          rw [← HVU.out] at hfin hl9
          have HFIN := hide hfin
          have HL9 := hide hl9
          clear hfin hl9
          go_wp2_with (refine wpList_store_row rfl 107 _ _ rfl (w.heap.size) U.toArray rfl rfl 107 _ HRw9.out.1 HJU.out HOU.out HAU.out ?_)
          refine bodyPost_ret (results_cell_tmp rfl rfl HL9.out) rfl ⟨HFIN.out.1, ?_⟩
          rw [show endM t low ⟨k, d, f, g, nm⟩ = _ from HM.out]
          exact ⟨⟨(oneB c), _, (oneB_len c), by rw [HVU.out]; rfl, rfl⟩, HFIN.out.2⟩
  · have hd : decide (t.size ≤ k) = true := decide_eq_true (by omega)
    have HM : Hid (endM t low ⟨k, d, f, g, nm⟩ = .bad ⟨k, d, f, g, nm⟩) := by
      show _ = _
      unfold endM byteAt
      rw [Array.getElem?_eq_none (by show t.size ≤ k; omega)]
    go_wp2_with fail
    go_quiet (fail)
    go_upto_region 4 with fail
    generalize hw9 : World.setCell _ _ _ = w8
    have Hw8 : Hid (RA w8 p r base t ⟨k, d, f, g, nm⟩ true hv n) := (((Hw3.out.drewN _)).bads w8 hw9).1
    have hfr9 := (((Hw3.out.drewN _)).bads w8 hw9).2
    have Fw8 := hide ((Fw3.out.trans (Fr.drewN _ _ _)).trans hfr9)
    have HRw8 := hide (hfr9.ks _ _ HRw3.out)
    have hlt9 := HRw8.out.1.lt
    clear hw9 hfr9
    clear c0 c1 c2 f1 f2 hl
    have hfin := ret_frame (cs := noB) Fw8.out HRw8.out Hw8.out (Nat.le_refl _) hbw rfl
    have hl9 := (Fr.setRow (base := base) (cs := noB) HRw8.out rfl hbw).2.2.load
    rw [← zero_set] at hfin hl9
    have HFIN := hide hfin
    have HL9 := hide hl9
    clear hfin hl9
    go_wp2_with (refine wpList_store_row rfl 107 _ _ rfl w.heap.size Tryz.zeroCells107 rfl rfl 107 _ HRw8.out.1 zero_info zero_size zero_all ?_)
    refine bodyPost_ret (results_cell_tmp rfl rfl HL9.out) rfl ⟨HFIN.out.1, ?_⟩
    rw [show endM t low ⟨k, d, f, g, nm⟩ = _ from HM.out]
    exact ⟨⟨noB, _, rfl, by rw [zero_set]; rfl, trivial⟩, HFIN.out.2⟩
end Go.Proofs.YtgmjjhmnchefbaaGreatDoor.G
