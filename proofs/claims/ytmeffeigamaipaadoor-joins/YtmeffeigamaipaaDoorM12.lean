/- The pattern reader: the name of a group. -/
import Derived.Test.YtmeffeigamaipaaDoorM11
set_option linter.unusedVariables false
set_option linter.unusedSimpArgs false
namespace Go.Proofs.YtmeffeigamaipaaDoor.G
open Go.RowKit

theorem ext_size (t : ByteArray) (a e : Nat) (ha : a ≤ e) (he : e ≤ t.size) : (t.extract a e).size = e - a := by
  rw [ByteArray.size_extract]; omega
theorem nilSize (s : ByteArray) : s.toList = [] ↔ s.size = 0 := by
  by_cases h : s.size = 0
  · obtain rfl : s = ⟨#[]⟩ := by apply ByteArray.ext; exact Array.eq_empty_of_size_eq_zero h
    simp; rfl
  · have h1 := nonempty_list h
    constructor
    · intro h2; rw [h2] at h1; cases h1
    · intro h2; exact absurd h2 h

set_option maxHeartbeats 8000000 in
set_option maxRecDepth 100000 in
theorem gGroupName {w : World} {r mb : Nat} {t : ByteArray} {x : EV} {s : RS} (h : RG w r mb t x s) :
    Calls Tryd.prog 73 #[.pointer (some ⟨r, 0, none⟩)] w fun e w' => Post [r] r mb t x w (fun _ v (n : ByteArray) => v = .string n) (groupNameM t s) e w' := by
  have hlt := h.lt
  have ht := h.ht
  have hk := h.hk
  have c1 := h.c1
  obtain ⟨k0, hk0⟩ : ∃ k0, k0 = s.k := ⟨_, rfl⟩
  obtain ⟨R, hR⟩ : ∃ R, R = gnLoop t k0 8 s := ⟨_, rfl⟩
  have HM : Hid (groupNameM t s = R.bind fun _ s1 => if s1.k = k0 ∨ takenM s1.nm (t.extract k0 s1.k) = true then .bad s1 else .ok (t.extract k0 s1.k) s1) := by
    show groupNameM t s = _
    rw [hR, hk0]; rfl
  have H := hide h
  have HR := hide hR
  rw [← hk0] at c1
  have HK0 := hide hk0
  clear h hR hk0
  go_enter Tryd.func73, Tryd.ntmps73
  go_wp2_with fail
  go_loopg [15] 8 (fun gk l15 wr => ∃ s' : RS, gnLoop t k0 gk s' = R ∧ s'.k + gk = k0 + 8 ∧ k0 ≤ s'.k ∧ RG wr r mb t x s' ∧ Ex [r] w wr)
  case atStart => exact ⟨s, HR.out.symm, by rw [HK0.out], by rw [HK0.out]; exact Nat.le_refl _, H.out, Ex.refl _ _⟩
  case round =>
    obtain ⟨s', hgn, hkk, hk0', hg, hx⟩ := hrel
    have HGN := hide hgn
    have HG := hide hg
    have HX := hide hx
    have c1' := hg.c1
    have c0' := hg.c0
    have f1' := hg.cf 1
    have hlt' := hg.lt
    have hk' := hg.hk
    have hev := hg.ev
    have helt := hg.elt
    obtain ⟨k, hkv⟩ : ∃ k, k = s'.k := ⟨_, rfl⟩
    rw [← hkv] at c1' hkk hk0' hk'
    have HKV := hide hkv
    clear c1 hgn hg hx hkv
    have k1 : (0 : Int) ≤ (k : Int) - (k0 : Int) := by omega
    cases gk with
    | zero =>
      have hR : R = .ok () s' := by rw [← HGN.out]; rfl
      have k2 : ¬ ((k : Int) - (k0 : Int) < 8) := by omega
      have k3 : (k0 : Int) ≤ (k : Int) := by omega
      have k4 : (k : Int) ≤ (t.size : Int) := by omega
      obtain ⟨nv, hnv⟩ : ∃ nv, t.extract k0 k = nv := ⟨_, rfl⟩
      have hnsz : nv.size = k - k0 := by rw [← hnv]; exact ext_size t k0 k hk0' hk'
      have HNV := hide hnv
      have HRR := hide hR
      have HNS := hide hnsz
      clear hR
      by_cases hsz : nv.size = 0
      · have hE : nv.toList = [] := (nilSize nv).2 hsz
        have hE2 : nv.toList.isEmpty = true := by rw [hE]; rfl
        have HF : Hid (groupNameM t s = .bad s') := by
          show groupNameM t s = _
          rw [HM.out, HRR.out]
          show (if s'.k = k0 ∨ takenM s'.nm (t.extract k0 s'.k) = true then Res.bad s' else Res.ok (t.extract k0 s'.k) s') = _
          rw [if_pos (Or.inl (by rw [← HKV.out]; omega))]
        clear hsz hnsz
        go_wp2_with fail
        go_quiet (fail)
        go_wp2_with fail
        exact body_panic rfl (Post.mkBad HF.out (by first | exact HG.out | exact HG.out.drewN _ | exact (HG.out.drewN _).drewN _ | exact ((HG.out.drewN _).drewN _).drewN _ | exact (((HG.out.drewN _).drewN _).drewN _).drewN _) (by first | exact HX.out | exact HX.out.drewN _ | exact (HX.out.drewN _).drewN _ | exact ((HX.out.drewN _).drewN _).drewN _ | exact (((HX.out.drewN _).drewN _).drewN _).drewN _))
      · have hE : ¬ nv.toList = [] := fun h => hsz ((nilSize nv).1 h)
        have hE2 : nv.toList.isEmpty = false := nonempty_list hsz
        have KT := hide (fun (w' : World) (h : RG w' r mb t x s') => gTaken h nv (by have := HNS.out; omega))
        cases htk : takenM s'.nm nv with
        | true =>
          have HF : Hid (groupNameM t s = .bad s') := by
            show groupNameM t s = _
            rw [HM.out, HRR.out]
            show (if s'.k = k0 ∨ takenM s'.nm (t.extract k0 s'.k) = true then Res.bad s' else Res.ok (t.extract k0 s'.k) s') = _
            rw [if_pos (Or.inr (by rw [← HKV.out, HNV.out]; exact htk))]
          rw [htk] at KT
          clear hsz hnsz htk
          go_wp2_with fail
          go_quiet (fail)
          go_wp2_with fail
          refine (KT.out _ (by first | exact HG.out | exact HG.out.drewN _ | exact (HG.out.drewN _).drewN _ | exact ((HG.out.drewN _).drewN _).drewN _ | exact (((HG.out.drewN _).drewN _).drewN _).drewN _)).mono ?_
          rintro e w9 ⟨rfl, rfl⟩
          go_wp2_with fail
          exact body_panic rfl (Post.mkBad HF.out (by first | exact HG.out | exact HG.out.drewN _ | exact (HG.out.drewN _).drewN _ | exact ((HG.out.drewN _).drewN _).drewN _ | exact (((HG.out.drewN _).drewN _).drewN _).drewN _) (by first | exact HX.out | exact HX.out.drewN _ | exact (HX.out.drewN _).drewN _ | exact ((HX.out.drewN _).drewN _).drewN _ | exact (((HX.out.drewN _).drewN _).drewN _).drewN _))
        | false =>
          have HF : Hid (groupNameM t s = .ok nv s') := by
            show groupNameM t s = _
            rw [HM.out, HRR.out]
            show (if s'.k = k0 ∨ takenM s'.nm (t.extract k0 s'.k) = true then Res.bad s' else Res.ok (t.extract k0 s'.k) s') = _
            rw [← HKV.out, HNV.out, if_neg (by rintro (h | h); · omega
                                               · rw [htk] at h; cases h)]
          rw [htk] at KT
          clear hsz hnsz htk
          go_wp2_with fail
          go_quiet (fail)
          go_wp2_with fail
          refine (KT.out _ (by first | exact HG.out | exact HG.out.drewN _ | exact (HG.out.drewN _).drewN _ | exact ((HG.out.drewN _).drewN _).drewN _ | exact (((HG.out.drewN _).drewN _).drewN _).drewN _)).mono ?_
          rintro e w9 ⟨rfl, rfl⟩
          go_wp2_with fail
          go_ret
          exact Post.mkOk HF.out rfl (by first | exact HG.out | exact HG.out.drewN _ | exact (HG.out.drewN _).drewN _ | exact ((HG.out.drewN _).drewN _).drewN _ | exact (((HG.out.drewN _).drewN _).drewN _).drewN _) (by first | exact HX.out | exact HX.out.drewN _ | exact (HX.out.drewN _).drewN _ | exact ((HX.out.drewN _).drewN _).drewN _ | exact (((HX.out.drewN _).drewN _).drewN _).drewN _)
    | succ g =>
      have k2 : ((k : Int) - (k0 : Int) < 8) := by omega
      cases hb : byteAt t s'.k with
      | none =>
        have hR : R = .bad s' := by rw [← HGN.out, gnLoop, hb]
        have HRR := hide hR
        have KL := hide (gLookN HG.out hb)
        clear hR hb
        go_wp2_with fail
        refine KL.out.mono ?_
        rintro e w2 ⟨rfl, n2, rfl⟩
        refine body_panic rfl (Post.mkBad (by rw [HM.out, HRR.out]; rfl) (HG.out.drewN _) (HX.out.drewN _))
      | some b =>
        have KL := hide (fun (w' : World) (h : RG w' r mb t x s') => gLookS h hb)
        have hstep : R = if 97 ≤ b.toNat ∧ b.toNat ≤ 122 then (if g = 0 ∧ takenM s'.nm (t.extract k0 (s'.k + 1)) = true then .bad s' else gnLoop t k0 g s'.up) else .ok () s' := by rw [← HGN.out, gnLoop, hb]
        have HST := hide hstep
        have hkt : k < t.size := by rw [HKV.out]; exact (byteAt_some hb).1
        clear hstep hb
        by_cases h97 : 97 ≤ b.toNat
        · have h97' : ((b.toNat : Int) ≥ 97) := by omega
          by_cases h122 : b.toNat ≤ 122
          · have h122' : ((b.toNat : Int) ≤ 122) := by omega
            have hst2 : R = if g = 0 ∧ takenM s'.nm (t.extract k0 (s'.k + 1)) = true then .bad s' else gnLoop t k0 g s'.up := by rw [HST.out, if_pos ⟨h97, h122⟩]
            have HS2 := hide hst2
            have kw : IntKind.i64.wrap ((k : Int) + 1) = (k : Int) + 1 := wrap_small _ (by omega) (by omega)
            clear hst2
            by_cases hg0 : g = 0
            · have hk8 : IntKind.i64.wrap ((k : Int) + 1 - (k0 : Int)) = 8 := by rw [show (k : Int) + 1 - (k0 : Int) = 8 by omega]; rfl
              have k3 : (k0 : Int) ≤ (k : Int) + 1 := by omega
              have k4 : (k : Int) + 1 ≤ (t.size : Int) := by omega
              obtain ⟨nv, hnv⟩ : ∃ nv, t.extract k0 (k + 1) = nv := ⟨_, rfl⟩
              have hnsz : nv.size = k + 1 - k0 := by rw [← hnv]; exact ext_size t k0 (k + 1) (by omega) (by omega)
              have HNV := hide hnv
              have HNS := hide hnsz
              have KT := hide (fun (w' : World) (h : RG w' r mb t x s') => gTaken h nv (by have := HNS.out; omega))
              cases htk : takenM s'.nm nv with
              | true =>
                have HF : Hid (groupNameM t s = .bad s') := by
                  show groupNameM t s = _
                  rw [HM.out, HS2.out, if_pos ⟨hg0, by rw [← HKV.out, HNV.out]; exact htk⟩]
                  rfl
                rw [htk] at KT
                clear htk hnsz
                go_wp2_with fail
                refine (KL.out wr HG.out).mono ?_
                rintro e w2 ⟨rfl, n2, rfl⟩
                go_wp2_with fail
                refine (KL.out _ (by first | exact HG.out | exact HG.out.drewN _ | exact (HG.out.drewN _).drewN _ | exact ((HG.out.drewN _).drewN _).drewN _ | exact (((HG.out.drewN _).drewN _).drewN _).drewN _)).mono ?_
                rintro e w3 ⟨rfl, n3, rfl⟩
                go_wp2_with fail
                go_quiet ((refine (KT.out _ (HG.out.drewN _)).mono ?_; rintro e w9 ⟨rfl, rfl⟩; exact ⟨rfl, _, rfl⟩))
                go_wp2_with fail
                exact body_panic rfl (Post.mkBad HF.out (by first | exact HG.out | exact HG.out.drewN _ | exact (HG.out.drewN _).drewN _ | exact ((HG.out.drewN _).drewN _).drewN _ | exact (((HG.out.drewN _).drewN _).drewN _).drewN _) (by first | exact HX.out | exact HX.out.drewN _ | exact (HX.out.drewN _).drewN _ | exact ((HX.out.drewN _).drewN _).drewN _ | exact (((HX.out.drewN _).drewN _).drewN _).drewN _))
              | false =>
                have hst3 : gnLoop t k0 g s'.up = R := by rw [HS2.out, if_neg (by rintro ⟨_, h⟩; rw [← HKV.out, HNV.out, htk] at h; cases h)]
                have HS3 := hide hst3
                rw [htk] at KT
                clear htk hnsz hst3
                go_wp2_with fail
                refine (KL.out wr HG.out).mono ?_
                rintro e w2 ⟨rfl, n2, rfl⟩
                go_wp2_with fail
                refine (KL.out _ (by first | exact HG.out | exact HG.out.drewN _ | exact (HG.out.drewN _).drewN _ | exact ((HG.out.drewN _).drewN _).drewN _ | exact (((HG.out.drewN _).drewN _).drewN _).drewN _)).mono ?_
                rintro e w3 ⟨rfl, n3, rfl⟩
                go_wp2_with fail
                go_quiet ((refine (KT.out _ (HG.out.drewN _)).mono ?_; rintro e w9 ⟨rfl, rfl⟩; exact ⟨rfl, _, rfl⟩))
                go_wp2_with fail
                go_roundg g
                case measure => omega
                case rel => exact ⟨s'.up, HS3.out, by simp only [RS.up]; rw [← HKV.out]; omega, by simp only [RS.up]; rw [← HKV.out]; omega, (by rw [← (show ((s'.k + 1 : Nat) : Int) = (k : Int) + 1 by rw [← HKV.out]; simp)]; exact RG.up (HG.out.drewN _) (by rw [← HKV.out]; exact hkt)), Ex.setCell (HX.out.drewN _) (Or.inl (by simp)) _⟩
            · have hk8 : (((k : Int) + 1 - (k0 : Int)) == 8) = false := by rw [beq_eq_false_iff_ne]; omega
              have hst3 : gnLoop t k0 g s'.up = R := by rw [HS2.out, if_neg (by simp [hg0])]
              have HS3 := hide hst3
              clear hst3
              go_wp2_with fail
              refine (KL.out wr HG.out).mono ?_
              rintro e w2 ⟨rfl, n2, rfl⟩
              go_wp2_with fail
              refine (KL.out _ (by first | exact HG.out | exact HG.out.drewN _ | exact (HG.out.drewN _).drewN _ | exact ((HG.out.drewN _).drewN _).drewN _ | exact (((HG.out.drewN _).drewN _).drewN _).drewN _)).mono ?_
              rintro e w3 ⟨rfl, n3, rfl⟩
              go_wp2_with fail
              go_quiet (fail)
              go_wp2_with fail
              go_roundg g
              case measure => omega
              case rel => exact ⟨s'.up, HS3.out, by simp only [RS.up]; rw [← HKV.out]; omega, by simp only [RS.up]; rw [← HKV.out]; omega, (by rw [← (show ((s'.k + 1 : Nat) : Int) = (k : Int) + 1 by rw [← HKV.out]; simp)]; exact RG.up (HG.out.drewN _) (by rw [← HKV.out]; exact hkt)), Ex.setCell (HX.out.drewN _) (Or.inl (by simp)) _⟩
          · have h122' : ¬ ((b.toNat : Int) ≤ 122) := by omega
            have hR : R = .ok () s' := by rw [HST.out, if_neg (by omega)]
            have k3 : (k0 : Int) ≤ (k : Int) := by omega
            have k4 : (k : Int) ≤ (t.size : Int) := by omega
            obtain ⟨nv, hnv⟩ : ∃ nv, t.extract k0 k = nv := ⟨_, rfl⟩
            have hnsz : nv.size = k - k0 := by rw [← hnv]; exact ext_size t k0 k hk0' hk'
            have HNV := hide hnv
            have HRR := hide hR
            have HNS := hide hnsz
            clear hR
            by_cases hsz : nv.size = 0
            · have hE : nv.toList = [] := (nilSize nv).2 hsz
              have hE2 : nv.toList.isEmpty = true := by rw [hE]; rfl
              have HF : Hid (groupNameM t s = .bad s') := by
                show groupNameM t s = _
                rw [HM.out, HRR.out]
                show (if s'.k = k0 ∨ takenM s'.nm (t.extract k0 s'.k) = true then Res.bad s' else Res.ok (t.extract k0 s'.k) s') = _
                rw [if_pos (Or.inl (by rw [← HKV.out]; omega))]
              clear hsz hnsz
              go_wp2_with fail
              refine (KL.out wr HG.out).mono ?_
              rintro e w2 ⟨rfl, n2, rfl⟩
              go_wp2_with fail
              refine (KL.out _ (by first | exact HG.out | exact HG.out.drewN _ | exact (HG.out.drewN _).drewN _ | exact ((HG.out.drewN _).drewN _).drewN _ | exact (((HG.out.drewN _).drewN _).drewN _).drewN _)).mono ?_
              rintro e w3 ⟨rfl, n3, rfl⟩
              go_wp2_with fail
              go_quiet (fail)
              go_wp2_with fail
              exact body_panic rfl (Post.mkBad HF.out (by first | exact HG.out | exact HG.out.drewN _ | exact (HG.out.drewN _).drewN _ | exact ((HG.out.drewN _).drewN _).drewN _ | exact (((HG.out.drewN _).drewN _).drewN _).drewN _) (by first | exact HX.out | exact HX.out.drewN _ | exact (HX.out.drewN _).drewN _ | exact ((HX.out.drewN _).drewN _).drewN _ | exact (((HX.out.drewN _).drewN _).drewN _).drewN _))
            · have hE : ¬ nv.toList = [] := fun h => hsz ((nilSize nv).1 h)
              have hE2 : nv.toList.isEmpty = false := nonempty_list hsz
              have KT := hide (fun (w' : World) (h : RG w' r mb t x s') => gTaken h nv (by have := HNS.out; omega))
              cases htk : takenM s'.nm nv with
              | true =>
                have HF : Hid (groupNameM t s = .bad s') := by
                  show groupNameM t s = _
                  rw [HM.out, HRR.out]
                  show (if s'.k = k0 ∨ takenM s'.nm (t.extract k0 s'.k) = true then Res.bad s' else Res.ok (t.extract k0 s'.k) s') = _
                  rw [if_pos (Or.inr (by rw [← HKV.out, HNV.out]; exact htk))]
                rw [htk] at KT
                clear hsz hnsz htk
                go_wp2_with fail
                refine (KL.out wr HG.out).mono ?_
                rintro e w2 ⟨rfl, n2, rfl⟩
                go_wp2_with fail
                refine (KL.out _ (by first | exact HG.out | exact HG.out.drewN _ | exact (HG.out.drewN _).drewN _ | exact ((HG.out.drewN _).drewN _).drewN _ | exact (((HG.out.drewN _).drewN _).drewN _).drewN _)).mono ?_
                rintro e w3 ⟨rfl, n3, rfl⟩
                go_wp2_with fail
                go_quiet (fail)
                go_wp2_with fail
                refine (KT.out _ (by first | exact HG.out | exact HG.out.drewN _ | exact (HG.out.drewN _).drewN _ | exact ((HG.out.drewN _).drewN _).drewN _ | exact (((HG.out.drewN _).drewN _).drewN _).drewN _)).mono ?_
                rintro e w9 ⟨rfl, rfl⟩
                go_wp2_with fail
                exact body_panic rfl (Post.mkBad HF.out (by first | exact HG.out | exact HG.out.drewN _ | exact (HG.out.drewN _).drewN _ | exact ((HG.out.drewN _).drewN _).drewN _ | exact (((HG.out.drewN _).drewN _).drewN _).drewN _) (by first | exact HX.out | exact HX.out.drewN _ | exact (HX.out.drewN _).drewN _ | exact ((HX.out.drewN _).drewN _).drewN _ | exact (((HX.out.drewN _).drewN _).drewN _).drewN _))
              | false =>
                have HF : Hid (groupNameM t s = .ok nv s') := by
                  show groupNameM t s = _
                  rw [HM.out, HRR.out]
                  show (if s'.k = k0 ∨ takenM s'.nm (t.extract k0 s'.k) = true then Res.bad s' else Res.ok (t.extract k0 s'.k) s') = _
                  rw [← HKV.out, HNV.out, if_neg (by rintro (h | h); · omega
                                                     · rw [htk] at h; cases h)]
                rw [htk] at KT
                clear hsz hnsz htk
                go_wp2_with fail
                refine (KL.out wr HG.out).mono ?_
                rintro e w2 ⟨rfl, n2, rfl⟩
                go_wp2_with fail
                refine (KL.out _ (by first | exact HG.out | exact HG.out.drewN _ | exact (HG.out.drewN _).drewN _ | exact ((HG.out.drewN _).drewN _).drewN _ | exact (((HG.out.drewN _).drewN _).drewN _).drewN _)).mono ?_
                rintro e w3 ⟨rfl, n3, rfl⟩
                go_wp2_with fail
                go_quiet (fail)
                go_wp2_with fail
                refine (KT.out _ (by first | exact HG.out | exact HG.out.drewN _ | exact (HG.out.drewN _).drewN _ | exact ((HG.out.drewN _).drewN _).drewN _ | exact (((HG.out.drewN _).drewN _).drewN _).drewN _)).mono ?_
                rintro e w9 ⟨rfl, rfl⟩
                go_wp2_with fail
                go_ret
                exact Post.mkOk HF.out rfl (by first | exact HG.out | exact HG.out.drewN _ | exact (HG.out.drewN _).drewN _ | exact ((HG.out.drewN _).drewN _).drewN _ | exact (((HG.out.drewN _).drewN _).drewN _).drewN _) (by first | exact HX.out | exact HX.out.drewN _ | exact (HX.out.drewN _).drewN _ | exact ((HX.out.drewN _).drewN _).drewN _ | exact (((HX.out.drewN _).drewN _).drewN _).drewN _)
        · have h97' : ¬ ((b.toNat : Int) ≥ 97) := by omega
          have hR : R = .ok () s' := by rw [HST.out, if_neg (by omega)]
          have k3 : (k0 : Int) ≤ (k : Int) := by omega
          have k4 : (k : Int) ≤ (t.size : Int) := by omega
          obtain ⟨nv, hnv⟩ : ∃ nv, t.extract k0 k = nv := ⟨_, rfl⟩
          have hnsz : nv.size = k - k0 := by rw [← hnv]; exact ext_size t k0 k hk0' hk'
          have HNV := hide hnv
          have HRR := hide hR
          have HNS := hide hnsz
          clear hR
          by_cases hsz : nv.size = 0
          · have hE : nv.toList = [] := (nilSize nv).2 hsz
            have hE2 : nv.toList.isEmpty = true := by rw [hE]; rfl
            have HF : Hid (groupNameM t s = .bad s') := by
              show groupNameM t s = _
              rw [HM.out, HRR.out]
              show (if s'.k = k0 ∨ takenM s'.nm (t.extract k0 s'.k) = true then Res.bad s' else Res.ok (t.extract k0 s'.k) s') = _
              rw [if_pos (Or.inl (by rw [← HKV.out]; omega))]
            clear hsz hnsz
            go_wp2_with fail
            refine (KL.out wr HG.out).mono ?_
            rintro e w2 ⟨rfl, n2, rfl⟩
            go_wp2_with fail
            go_quiet (fail)
            go_wp2_with fail
            exact body_panic rfl (Post.mkBad HF.out (by first | exact HG.out | exact HG.out.drewN _ | exact (HG.out.drewN _).drewN _ | exact ((HG.out.drewN _).drewN _).drewN _ | exact (((HG.out.drewN _).drewN _).drewN _).drewN _) (by first | exact HX.out | exact HX.out.drewN _ | exact (HX.out.drewN _).drewN _ | exact ((HX.out.drewN _).drewN _).drewN _ | exact (((HX.out.drewN _).drewN _).drewN _).drewN _))
          · have hE : ¬ nv.toList = [] := fun h => hsz ((nilSize nv).1 h)
            have hE2 : nv.toList.isEmpty = false := nonempty_list hsz
            have KT := hide (fun (w' : World) (h : RG w' r mb t x s') => gTaken h nv (by have := HNS.out; omega))
            cases htk : takenM s'.nm nv with
            | true =>
              have HF : Hid (groupNameM t s = .bad s') := by
                show groupNameM t s = _
                rw [HM.out, HRR.out]
                show (if s'.k = k0 ∨ takenM s'.nm (t.extract k0 s'.k) = true then Res.bad s' else Res.ok (t.extract k0 s'.k) s') = _
                rw [if_pos (Or.inr (by rw [← HKV.out, HNV.out]; exact htk))]
              rw [htk] at KT
              clear hsz hnsz htk
              go_wp2_with fail
              refine (KL.out wr HG.out).mono ?_
              rintro e w2 ⟨rfl, n2, rfl⟩
              go_wp2_with fail
              go_quiet (fail)
              go_wp2_with fail
              refine (KT.out _ (by first | exact HG.out | exact HG.out.drewN _ | exact (HG.out.drewN _).drewN _ | exact ((HG.out.drewN _).drewN _).drewN _ | exact (((HG.out.drewN _).drewN _).drewN _).drewN _)).mono ?_
              rintro e w9 ⟨rfl, rfl⟩
              go_wp2_with fail
              exact body_panic rfl (Post.mkBad HF.out (by first | exact HG.out | exact HG.out.drewN _ | exact (HG.out.drewN _).drewN _ | exact ((HG.out.drewN _).drewN _).drewN _ | exact (((HG.out.drewN _).drewN _).drewN _).drewN _) (by first | exact HX.out | exact HX.out.drewN _ | exact (HX.out.drewN _).drewN _ | exact ((HX.out.drewN _).drewN _).drewN _ | exact (((HX.out.drewN _).drewN _).drewN _).drewN _))
            | false =>
              have HF : Hid (groupNameM t s = .ok nv s') := by
                show groupNameM t s = _
                rw [HM.out, HRR.out]
                show (if s'.k = k0 ∨ takenM s'.nm (t.extract k0 s'.k) = true then Res.bad s' else Res.ok (t.extract k0 s'.k) s') = _
                rw [← HKV.out, HNV.out, if_neg (by rintro (h | h); · omega
                                                   · rw [htk] at h; cases h)]
              rw [htk] at KT
              clear hsz hnsz htk
              go_wp2_with fail
              refine (KL.out wr HG.out).mono ?_
              rintro e w2 ⟨rfl, n2, rfl⟩
              go_wp2_with fail
              go_quiet (fail)
              go_wp2_with fail
              refine (KT.out _ (by first | exact HG.out | exact HG.out.drewN _ | exact (HG.out.drewN _).drewN _ | exact ((HG.out.drewN _).drewN _).drewN _ | exact (((HG.out.drewN _).drewN _).drewN _).drewN _)).mono ?_
              rintro e w9 ⟨rfl, rfl⟩
              go_wp2_with fail
              go_ret
              exact Post.mkOk HF.out rfl (by first | exact HG.out | exact HG.out.drewN _ | exact (HG.out.drewN _).drewN _ | exact ((HG.out.drewN _).drewN _).drewN _ | exact (((HG.out.drewN _).drewN _).drewN _).drewN _) (by first | exact HX.out | exact HX.out.drewN _ | exact (HX.out.drewN _).drewN _ | exact ((HX.out.drewN _).drewN _).drewN _ | exact (((HX.out.drewN _).drewN _).drewN _).drewN _)
end Go.Proofs.YtmeffeigamaipaaDoor.G
