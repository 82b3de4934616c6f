/- N14 N15 L26 N16, one behind the other. -/
import Derived.Test.YtgmjjhmnchefbaaGreatDoorM45
import Derived.Test.YtgmjjhmnchefbaaGreatDoorM39
set_option linter.unusedVariables false
set_option linter.unusedSimpArgs false
/- The document's own Load: rules that are right. -/
namespace Go.Proofs.YtgmjjhmnchefbaaGreatDoor.G
open Go.RowKit

set_option maxRecDepth 100000 in
theorem infoRuleA : (Tryz.prog.info? 118).map (fun i => (i.zero, i.size, i.bytes)) = some (some (.agg #[.int .i64 0, .slice none 0 0, .string ⟨#[]⟩, .string ⟨#[]⟩, .string ⟨#[]⟩, .string ⟨#[]⟩, .int .u64 0]), 7, 104) := by kernel_rfl
set_option maxHeartbeats 8000000 in
set_option maxRecDepth 100000 in
theorem refLoad_ok (wb : Nat) (v : Value) (rs : List AR) (us : List UR) (w0 w : World) (hx0 : Ex [] w0 w) (hwb0 : w0.heap.size ≤ wb) (hb : BK w wb (.cells #[.slice none 0 0, .int .i64 1, .slice none 0 0] 116 (0, 0))) (hv : AL w0 v rs) (hlen : us.length = rs.length) (hsay : ∀ (i : Nat) r u, rs[i]? = some r → us[i]? = some u → SaysO w0 r u) (hfit : ∀ u ∈ us, u.fits2) (hfit3 : ∀ u ∈ us, u.fits3) (h0 : (loadR us).1 = 0) :
    Calls Tryz.prog 18 #[.pointer (some ⟨wb, 0, none⟩), v] w fun y w' => y = .returned (.tuple #[.int .i64 0, .int .i64 0, .int .i64 0]) ∧ Ex [wb] w w' := by
  obtain ⟨i0, hi, hz0, hz1, hz2⟩ := info_parts infoRuleA
  obtain ⟨hL, h12⟩ := loadR_zero h0
  have KC := hide (checkAll_any v rs us w (hv.ex0 hx0) hlen (fun i r u h1 h2 => (hsay i r u h1 h2).ex hx0) hfit)
  rw [hL] at KC
  have HV := hide hv
  have HLEN := hide hlen
  have HSAY := hide hsay
  have HFIT := hide hfit3
  have HX0 := hide hx0
  have HB := hide hb
  obtain ⟨p, c, rfl⟩ := hv.slice
  obtain ⟨n, hnn⟩ : ∃ n, n = rs.length := ⟨_, rfl⟩
  have HNN := hide hnn
  have hn12 : n ≤ 12 := by omega
  rw [← hnn] at KC ⊢
  have HISZ : Hid ((Tryz.prog.info? 118).map (·.size) = some 7) := by show _ = _; kernel_rfl
  have hwz := hx0.size
  clear hv hlen hsay hfit hfit3 hx0 hb hL h0 hnn
  go_enter Tryz.func18, Tryz.ntmps18
  go_wp2_with fail
  refine KC.out.mono ?_
  rintro y w1 ⟨rfl, hx1⟩
  have HX1 := hide hx1
  have hb1 := HB.out.ex hx1 (by simp)
  have HB1 := hide hb1
  have p0 : w1.cell? ⟨wb, 0, none⟩ = some (.slice none 0 0) := hb1.all.1 0
  have p0f := hb1.all.2 0
  have hwl := hb1.lt
  clear hx1 hb1 KC
  dsimp only
  go_upto_region 5 with fail
  generalize hW2 : World.setCell _ _ _ = W2
  have hb2 : BK W2 wb (.cells #[.slice none 0 0, .int .i64 1, .slice none 0 0] 116 (0, 0)) := by
    have h9 := HB1.out.self 0 (.slice none 0 0)
    rw [hW2] at h9
    exact h9
  have hx2 : Ex [wb] w W2 := by rw [← hW2]; exact (HX1.out.drop (by simp)).setCell (.inl (by simp)) _
  have HB2 := hide hb2
  have HX2 := hide hx2
  clear hW2 hb2 hx2 p0 p0f hwl
  go_wp2_with fail
  go_loopg [10] n (fun gk k10 wr => ∃ (k : Nat) (rv : Value) (cs : List Value), k + gk = n ∧ k10 = .int .i64 (k : Int) ∧ BK wr wb (.cells #[rv, .int .i64 1, .slice none 0 0] 116 (0, 0)) ∧ wr.ownsRow w.heap.size 118 7 rv k cs ∧ Ex [wb] w wr)
  case atStart => exact ⟨0, .slice none 0 0, [], by omega, rfl, HB2.out, World.ownsRow_nil _ _ _ _, HX2.out⟩
  case round =>
    obtain ⟨k, rv, cs, hk, rfl, hbw, how, hx⟩ := hrel
    have HBWr := hide hbw
    have HOWr := hide how
    have HX := hide hx
    have hwr := hx.size
    have hwl := hbw.lt
    have hwbw := HB.out.lt
    obtain ⟨pv, cv, rfl⟩ := own_slice how
    cases gk with
    | zero =>
      have hno : ¬ (k : Int) < (n : Int) := by omega
      have p2 : wr.cell? ⟨wb, 2, none⟩ = some (.slice none 0 0) := hbw.all.1 2
      have p2f := hbw.all.2 2
      clear hbw how hx
      go_wp2_with fail
      go_ret3
      exact ⟨rfl, HX.out.setCell (.inl (by simp)) _⟩
    | succ g =>
      have hkn : (k : Int) < (n : Int) := by omega
      have hkl : k < rs.length := by rw [← HNN.out]; omega
      obtain ⟨r, hr⟩ : ∃ r, rs[k]? = some r := ⟨_, List.getElem?_eq_getElem hkl⟩
      obtain ⟨u, hu⟩ : ∃ u, us[k]? = some u := ⟨_, List.getElem?_eq_getElem (by rw [HLEN.out]; exact hkl)⟩
      obtain ⟨rb, off, hprb, hrbl, hrc⟩ : ∃ rb off, p = some ⟨rb, off, none⟩ ∧ rb < w0.heap.size ∧ ∀ o, o < 7 → wr.cell? ⟨rb, off + k * 7 + o, none⟩ = r.cells[o]? := by
        obtain ⟨p', c', h1, h2⟩ := HV.out
        injection h1 with e1 e2 e3
        obtain ⟨b, off, h3, hb, hc⟩ := h2 k r hr
        exact ⟨b, off, e1.trans h3, hb, fun o ho => ((hx.cell1.1 b _ (by omega) (by omega)).trans (HX0.out.cell0.1 b _ hb)).trans (hc o ho)⟩
      subst hprb
      have hs := HSAY.out k r u hr hu
      have hf := HFIT.out u (List.mem_of_getElem? hu)
      obtain ⟨act, rp0, rn, rc, se, re, ta, rp, mo⟩ := r
      have hlenr : rn = u.ss.length := hs.len
      subst hlenr
      have hss : SSo w0 rp0 u.ss := hs.ss
      have hssr : SSo wr rp0 u.ss := fun j s h9 => by
        obtain ⟨b, o, h1, h2, h3⟩ := hss j s h9
        exact ⟨b, o, h1, by omega, ((hx.cell1.1 b _ (by omega) (by omega)).trans (HX0.out.cell0.1 b _ h2)).trans h3⟩
      unfold AR.cells at hrc
      dsimp only at hrc
      obtain ⟨sl, hsl⟩ : ∃ sl, sl = u.ss.length := ⟨_, rfl⟩
      have HSL := hide hsl
      have hslb : sl * 16 ≤ 140737488351232 := by rw [hsl]; exact hf.len
      have c0 : wr.cell? ⟨rb, off + k * 7, none⟩ = some (.int .i64 act) := hrc 0 (by omega)
      have c1 : wr.cell? ⟨rb, off + k * 7 + 1, none⟩ = some (.slice rp0 sl rc) := by rw [hsl]; exact hrc 1 (by omega)
      have c2 : wr.cell? ⟨rb, off + k * 7 + 2, none⟩ = some (.string se) := hrc 2 (by omega)
      have c3 : wr.cell? ⟨rb, off + k * 7 + 3, none⟩ = some (.string re) := hrc 3 (by omega)
      have c4 : wr.cell? ⟨rb, off + k * 7 + 4, none⟩ = some (.string ta) := hrc 4 (by omega)
      have c5 : wr.cell? ⟨rb, off + k * 7 + 5, none⟩ = some (.string rp) := hrc 5 (by omega)
      have c6 : wr.cell? ⟨rb, off + k * 7 + 6, none⟩ = some (.int .u64 mo) := hrc 6 (by omega)
      have hrbw : rb < wr.heap.size := by omega
      have HC1 := hide c1
      have hbz : BK (wr.alloc (Obj.cells #[.int .i64 0, .slice none 0 0, .string ⟨#[]⟩, .string ⟨#[]⟩, .string ⟨#[]⟩, .string ⟨#[]⟩, .int .u64 0] 118)) wr.heap.size (Obj.cells #[.int .i64 0, .slice none 0 0, .string ⟨#[]⟩, .string ⟨#[]⟩, .string ⟨#[]⟩, .string ⟨#[]⟩, .int .u64 0] 118 (0, 0)) := BK.new _ _
      have HBZ := hide hbz
      have HA2 : Hid ((#[.int .i64 act, .slice rp0 sl rc, .string se, .string re, .string ta, .string rp, .int .u64 mo] : Array Value).all (·.oneCell') = true) := by show Array.all _ _ = true; simp [Value.oneCell']
      have HSS := hide hssr
      clear hbw how hx hr hu hrc hs hf hss hssr hsl hbz
      go_upto_region 9 with (refine wpList_store_row rfl 118 _ _ rfl wr.heap.size #[.int .i64 act, .slice rp0 sl rc, .string se, .string re, .string ta, .string rp, .int .u64 mo] rfl rfl 118 _ HBZ.out HISZ.out rfl HA2.out ?_)
      generalize hW1 : World.setRow _ _ _ = W1
      have hb1 : BK W1 wr.heap.size (Obj.cells #[.int .i64 act, .slice rp0 sl rc, .string se, .string re, .string ta, .string rp, .int .u64 mo] 118 (0, 0)) := by rw [← hW1]; exact setRow_heap _ _ _ _ _ _ HBZ.out
      have hx1 : Ex [] wr W1 := by rw [← hW1]; exact ((Ex.refl [] _).alloc _).setRow (.inr (Nat.le_refl _)) _
      have hz1' := hx1.size
      obtain ⟨D, hD⟩ : ∃ D, D = wr.heap.size := ⟨_, rfl⟩
      rw [← hD] at hb1 ⊢
      obtain ⟨hcD, hfD⟩ := hb1.all
      have d1 : W1.cell? ⟨D, 1, none⟩ = some (.slice rp0 sl rc) := hcD 1
      have d1f := hfD 1
      have hDl := hb1.lt
      have e1 : W1.cell? ⟨rb, off + k * 7 + 1, none⟩ = some (.slice rp0 sl rc) := (hx1.cell0.1 rb _ hrbw).trans c1
      have hrb1 : rb < W1.heap.size := by omega
      obtain ⟨S, hS⟩ : ∃ S, S = W1.heap.size := ⟨_, rfl⟩
      have hmk := run_make_str W1 sl (by omega)
      rw [← hS] at hmk
      obtain ⟨W1b, hW1b⟩ : ∃ x, x = W1.alloc (.cells (List.replicate sl (Value.string ⟨#[]⟩)).toArray 9) := ⟨_, rfl⟩
      rw [← hW1b] at hmk
      have hx1b : Ex [] W1 W1b := by rw [hW1b]; exact (Ex.refl _ _).alloc _
      have hbS : BK W1b S (.cells (List.replicate sl (Value.string ⟨#[]⟩)).toArray 9 (0, 0)) := by rw [hW1b, hS]; exact BK.new _ _
      have hbDb := hb1.ex hx1b (by simp)
      have d1b : W1b.cell? ⟨D, 1, none⟩ = some (.slice rp0 sl rc) := hbDb.all.1 1
      have d1bf : W1b.frozen? ⟨D, 1, none⟩ = false := hbDb.all.2 1
      have hDlb := hbDb.lt
      have HBS := hide hbS
      have HBDb := hide hbDb
      have HX1b := hide (hx1.trans hx1b)
      have HDD := hide hD
      have HSS1 := hide hS
      clear hW1 hb1 hx1 hcD hfD c0 c1 c2 c3 c4 c5 c6 hW1b hx1b hbS hbDb hD hS HBZ
      go_upto_region 10 with fail
      generalize hW2 : World.setCell _ _ _ = W2
      have hne : D ≠ S := by have h1 := HDD.out; have h2 := HSS1.out; omega
      have hb2 : BK W2 D (Obj.cells #[.int .i64 act, .slice (some ⟨S, 0, none⟩) sl sl, .string se, .string re, .string ta, .string rp, .int .u64 mo] 118 (0, 0)) := by
        have h9 := HBDb.out.self 1 (.slice (some ⟨S, 0, none⟩) sl sl)
        rw [hW2] at h9
        simpa using h9
      have hbS2 : BK W2 S (.cells (List.replicate sl (Value.string ⟨#[]⟩)).toArray 9 (0, 0)) := by rw [← hW2]; exact HBS.out.set (by simpa using Ne.symm hne) _
      have hx2 : Ex [] wr W2 := by rw [← hW2]; exact HX1b.out.setCell (.inr (by rw [HDD.out]; exact Nat.le_refl _)) _
      have HX2 := hide hx2
      have q1 : W2.cell? ⟨D, 1, none⟩ = some (.slice (some ⟨S, 0, none⟩) sl sl) := hb2.all.1 1
      have q2 : W2.cell? ⟨rb, off + k * 7 + 1, none⟩ = some (.slice rp0 sl rc) := by
        rw [← hW2, World.cell?_setCell_other _ _ _ _ (fun e9 => by injection e9 with e9 _; have := HDD.out; omega)]
        exact (HX1b.out.cell0.1 rb _ hrbw).trans HC1.out
      have hDl2 := hb2.lt
      have hrb2 : rb < W2.heap.size := by have := hx2.size; omega
      obtain ⟨W3, hcp, hbS3, hx3⟩ := run_copy_strs W2.drew S 0 rc 0 rp0 u.ss (by rw [Nat.add_zero, ← HSL.out]; exact hbS2.drew) (HSS.out.ex (hx2.drew) (by simp)) 3
      rw [← HSL.out, Nat.add_zero] at hcp
      have HCP := hide hcp
      have HX3 := hide hx3
      have HB2 := hide hb2
      clear hcp hbS3 hx3 hb2 hbS2 hx2 hW2 d1 d1f e1 d1b d1bf hmk
      refine wp_region_J (by kernel_rfl) ?_
      refine wpAny_take (i := 0) (v := ?_) rfl (by kernel_rfl) (by kernel_rfl) (by kernel_rfl) (fun _ _ _ h => h) (Or.inl ⟨by rfl, ?_⟩) ?_
      rotate_left
      · intro w'
        go_simp
        try with_reducible rfl
      simp only [Act.put, List.setIfInBounds_toArray, List.set_cons_zero, List.set_cons_succ, List.getElem_toArray, List.getElem_cons_zero, List.getElem_cons_succ, List.replicate, Array.replicate, List.size_toArray, List.length_cons, List.length_nil]
      refine wpAny_take (i := 2) (v := ?_) rfl (by kernel_rfl) (by kernel_rfl) (by kernel_rfl) (fun _ _ _ h => h) (Or.inl ⟨by rfl, ?_⟩) ?_
      rotate_left
      · intro w'
        go_simp
        try with_reducible rfl
      simp only [Act.put, List.setIfInBounds_toArray, List.set_cons_zero, List.set_cons_succ, List.getElem_toArray, List.getElem_cons_zero, List.getElem_cons_succ, List.replicate, Array.replicate, List.size_toArray, List.length_cons, List.length_nil]
      refine wpAny_take (i := 3) (v := ?_) rfl (by kernel_rfl) (by kernel_rfl) (by kernel_rfl) (fun _ _ _ h => h) (Or.inl ⟨by rfl, ?_⟩) ?_
      rotate_left
      · intro w'
        go_simp
        try with_reducible rfl
      simp only [Act.put, List.setIfInBounds_toArray, List.set_cons_zero, List.set_cons_succ, List.getElem_toArray, List.getElem_cons_zero, List.getElem_cons_succ, List.replicate, Array.replicate, List.size_toArray, List.length_cons, List.length_nil]
      refine wpAny_take (i := 4) (v := ?_) rfl (by kernel_rfl) (by kernel_rfl) (by kernel_rfl) (fun _ _ _ h => h) (Or.inl ⟨by rfl, ?_⟩) ?_
      rotate_left
      · intro w'
        go_simp
        try with_reducible rfl
      simp only [Act.put, List.setIfInBounds_toArray, List.set_cons_zero, List.set_cons_succ, List.getElem_toArray, List.getElem_cons_zero, List.getElem_cons_succ, List.replicate, Array.replicate, List.size_toArray, List.length_cons, List.length_nil]
      refine wpAny_take (i := 5) (v := ?_) rfl (by kernel_rfl) (by kernel_rfl) (by kernel_rfl) (fun _ _ _ h => h) (Or.inl ⟨by rfl, ?_⟩) ?_
      rotate_left
      · intro w'
        go_simp
        try with_reducible rfl
      simp only [Act.put, List.setIfInBounds_toArray, List.set_cons_zero, List.set_cons_succ, List.getElem_toArray, List.getElem_cons_zero, List.getElem_cons_succ, List.replicate, Array.replicate, List.size_toArray, List.length_cons, List.length_nil]
      refine wpAny_of_J (S := (fun oi w' => oi < 7 → w'.cell? ⟨D, 1, none⟩ = some (.slice (some ⟨S, 0, none⟩) sl sl) ∧ w'.cell? ⟨rb, off + k * 7 + 1, none⟩ = some (.slice rp0 sl rc))) _ _ _ _ ?_
      refine wpAnyJ_take (i := 1) (T := (fun w' => w'.cell? ⟨D, 1, none⟩ = some (.slice (some ⟨S, 0, none⟩) sl sl) ∧ w'.cell? ⟨rb, off + k * 7 + 1, none⟩ = some (.slice rp0 sl rc))) (v := ?_) (fun oi => decide (oi < 7)) rfl (by kernel_rfl) (by kernel_rfl) (by kernel_rfl) (by kernel_rfl) (fun oi w' hj h => h (by simpa using hj)) (fun w' h _ => h) (fun _ _ _ h => h) ⟨q1, q2⟩ (Or.inl ⟨by rfl, ?_⟩) ?_
      rotate_left
      · intro w' hSw
        obtain ⟨f1, f2⟩ := hSw
        go_simp
        try with_reducible rfl
      simp only [Act.put, List.setIfInBounds_toArray, List.set_cons_zero, List.set_cons_succ, List.getElem_toArray, List.getElem_cons_zero, List.getElem_cons_succ, List.replicate, Array.replicate, List.size_toArray, List.length_cons, List.length_nil]
      refine wpAnyJ_take (i := 6) (T := (fun w' => w'.cell? ⟨D, 1, none⟩ = some (.slice (some ⟨S, 0, none⟩) sl sl) ∧ w'.cell? ⟨rb, off + k * 7 + 1, none⟩ = some (.slice rp0 sl rc))) (v := ?_) (fun oi => decide (oi < 7)) rfl (by kernel_rfl) (by kernel_rfl) (by kernel_rfl) (by kernel_rfl) (fun oi w' hj h => h (by simpa using hj)) (fun w' h _ => h) (fun _ _ _ h => h) ⟨q1, q2⟩ (Or.inl ⟨by rfl, ?_⟩) ?_
      rotate_left
      · intro w' hSw
        obtain ⟨f1, f2⟩ := hSw
        go_simp
        try with_reducible rfl
      simp only [Act.put, List.setIfInBounds_toArray, List.set_cons_zero, List.set_cons_succ, List.getElem_toArray, List.getElem_cons_zero, List.getElem_cons_succ, List.replicate, Array.replicate, List.size_toArray, List.length_cons, List.length_nil]
      refine wpAnyJ_one (i := 7) rfl rfl (by kernel_rfl) (fun K hK => ?_)
      have hcp := HCP.out
      go_simp
      refine hK.out _ _ (fun h => by omega) ?_
      clear hK K hcp
      refine wpAnyJ_done (by kernel_rfl) ?_ _
      clear q1 q2
      have hx23 : Ex [] wr W3 := ((HX2.out.drew).drop (l' := [S]) (by simp)).trans HX3.out |>.drop (fun x hx hlt => by simp at hx; have h1 := HSS1.out; have h2 := HDD.out; omega)
      have hbd3 : BK W3 D (Obj.cells #[.int .i64 act, .slice (some ⟨S, 0, none⟩) sl sl, .string se, .string re, .string ta, .string rp, .int .u64 mo] 118 (0, 0)) := HB2.out.drew.ex HX3.out (by simpa using hne)
      have hbw3 := HBWr.out.ex hx23 (by simp)
      have how3 := own_ex HOWr.out hx23 (by simp)
      obtain ⟨XC, hXC⟩ : ∃ XC : List Value, XC = [.int .i64 act, .slice (some ⟨S, 0, none⟩) sl sl, .string se, .string re, .string ta, .string rp, .int .u64 mo] := ⟨_, rfl⟩
      have hbd3' : BK W3 D (Obj.cells XC.toArray 118 (0, 0)) := by rw [hXC]; exact hbd3
      have HBD := hide hbd3'
      have HBW := hide hbw3
      have HOW := hide how3
      have HXL : Hid (XC.length = 7) := by show _ = _; rw [hXC]; rfl
      have HIX : Hid ((Tryz.prog.info? 118).map (·.size) = some XC.length) := by show _ = _; rw [hXC]; kernel_rfl
      have HXP : Hid (∀ u ∈ XC, u.oneCell' = true) := by show ∀ u ∈ XC, _; rw [hXC]; intro u hu; simp at hu; rcases hu with rfl | rfl | rfl | rfl | rfl | rfl | rfl <;> rfl
      have HNW : Hid ((Value.slice pv k cv).ownBlock ≠ some wb) := row_ne how3 hbw3 (by decide)
      have HND : Hid ((Value.slice pv k cv).ownBlock ≠ some D) := fun e9 => by have h9 := (HOWr.out.lt _ e9).2; have h8 := HDD.out; omega
      have r1 : W3.cell? ⟨wb, 0, none⟩ = some (.slice pv k cv) := hbw3.all.1 0
      have s1 : W3.rangeAt D 0 XC := hbd3'.rangeL
      have hwl3 := hbw3.lt
      have hDl3 := hbd3'.lt
      have hz3 := hx23.size
      have HX23 := hide hx23
      clear hx23 hbd3 hbd3' hbw3 how3 hXC
      go_upto_region 11 with fail
      refine wp_region_J (by kernel_rfl) ?_
      refine wpAny_take (i := 0) (v := ?_) rfl (by kernel_rfl) (by kernel_rfl) (by kernel_rfl) (fun _ _ _ h => h) (Or.inl ⟨by rfl, ?_⟩) ?_
      rotate_left
      · intro w'
        go_simp
        try with_reducible rfl
      simp only [Act.put, List.setIfInBounds_toArray, List.set_cons_zero, List.set_cons_succ, List.getElem_toArray, List.getElem_cons_zero, List.getElem_cons_succ, List.replicate, Array.replicate, List.size_toArray, List.length_cons, List.length_nil]
      refine wpAny_take (i := 1) (v := ?_) rfl (by kernel_rfl) (by kernel_rfl) (by kernel_rfl) (fun _ _ _ h => h) (Or.inl ⟨by rfl, ?_⟩) ?_
      rotate_left
      · intro w'
        go_simp
        try with_reducible rfl
      simp only [Act.put, List.setIfInBounds_toArray, List.set_cons_zero, List.set_cons_succ, List.getElem_toArray, List.getElem_cons_zero, List.getElem_cons_succ, List.replicate, Array.replicate, List.size_toArray, List.length_cons, List.length_nil]
      refine wpAny_take (i := 2) (v := ?_) rfl (by kernel_rfl) (by kernel_rfl) (by kernel_rfl) (fun _ _ _ h => h) (Or.inl ⟨by rfl, ?_⟩) ?_
      rotate_left
      · intro w'
        go_simp
        try with_reducible rfl
      simp only [Act.put, List.setIfInBounds_toArray, List.set_cons_zero, List.set_cons_succ, List.getElem_toArray, List.getElem_cons_zero, List.getElem_cons_succ, List.replicate, Array.replicate, List.size_toArray, List.length_cons, List.length_nil]
      refine wpAny_take (i := 3) (v := ?_) rfl (by kernel_rfl) (by kernel_rfl) (by kernel_rfl) (fun _ _ _ h => h) (Or.inl ⟨by rfl, ?_⟩) ?_
      rotate_left
      · intro w'
        go_simp
        try with_reducible rfl
      simp only [Act.put, List.setIfInBounds_toArray, List.set_cons_zero, List.set_cons_succ, List.getElem_toArray, List.getElem_cons_zero, List.getElem_cons_succ, List.replicate, Array.replicate, List.size_toArray, List.length_cons, List.length_nil]
      refine wpAny_of_J (S := (fun oi w' => oi < 10 → w'.cell? ⟨wb, 0, none⟩ = some (.slice pv k cv) ∧ w'.rangeAt D 0 XC)) _ _ _ _ ?_
      refine wpAnyJ_take (i := 4) (T := (fun w' => w'.cell? ⟨wb, 0, none⟩ = some (.slice pv k cv) ∧ w'.rangeAt D 0 XC)) (v := ?_) (fun oi => decide (oi < 10)) rfl (by kernel_rfl) (by kernel_rfl) (by kernel_rfl) (by kernel_rfl) (fun oi w' hj h => h (by simpa using hj)) (fun w' h _ => h) (fun _ _ _ h => h) ⟨r1, s1⟩ (Or.inl ⟨by rfl, ?_⟩) ?_
      rotate_left
      · intro w' hSw
        obtain ⟨f1, f2⟩ := hSw
        go_simp
        try with_reducible rfl
      simp only [Act.put, List.setIfInBounds_toArray, List.set_cons_zero, List.set_cons_succ, List.getElem_toArray, List.getElem_cons_zero, List.getElem_cons_succ, List.replicate, Array.replicate, List.size_toArray, List.length_cons, List.length_nil]
      refine wpAnyJ_take (i := 5) (T := (fun w' => w'.cell? ⟨wb, 0, none⟩ = some (.slice pv k cv) ∧ w'.rangeAt D 0 XC)) (v := _) (fun oi => decide (oi < 10)) rfl (by kernel_rfl) (by kernel_rfl) (by kernel_rfl) (by kernel_rfl) (fun oi w' hj h => h (by simpa using hj)) (fun w' h _ => h) (fun _ _ _ h => h) ⟨r1, s1⟩ (yieldsIf_load_mid (by rfl) _ _ rfl _ _ rfl XC _ (fun w' h => h.2) Tryz.underlying118 rfl HIX.out) ?_
      simp only [Act.put, List.setIfInBounds_toArray, List.set_cons_zero, List.set_cons_succ, List.getElem_toArray, List.getElem_cons_zero, List.getElem_cons_succ, List.replicate, Array.replicate, List.size_toArray, List.length_cons, List.length_nil]
      refine wpAnyJ_one (i := 6) rfl rfl (by kernel_rfl) (fun K hK => ?_)
      refine wp_buildSlice 31 118 1 _ rfl XC.toArray i0 _ Tryz.underlying31 hi hz0 (by rw [hz1]; decide) (by rw [hz1]; decide) (by rw [hz1]; simp only [List.map_toArray, List.map_cons, List.map_nil, Act.eval, List.getElem?_toArray, Array.getD_eq_getD_getElem?, List.getElem?_cons_succ, List.getElem?_cons_zero, Option.getD_some]; refine fill_one HXL.out ?_; rw [Array.size_map, Array.size_range]) ?_
      have r2 : (W3.drew.alloc (.cells XC.toArray 118)).cell? ⟨wb, 0, none⟩ = some (.slice pv k cv) := (HBW.out.drew.alloc _).all.1 0
      have s2 : (W3.drew.alloc (.cells XC.toArray 118)).rangeAt D 0 XC := (HBD.out.drew.alloc _).rangeL
      refine hK.out _ _ (fun _ => ⟨r2, s2⟩) ?_
      clear hK K
      simp only [Act.put, List.setIfInBounds_toArray, List.set_cons_zero, List.set_cons_succ, List.getElem_toArray, List.getElem_cons_zero, List.getElem_cons_succ, List.replicate, Array.replicate, List.size_toArray, List.length_cons, List.length_nil]
      refine wpAnyJ_one (i := 7) rfl rfl (by kernel_rfl) (fun K hK => ?_)
      refine wp_append_lies _ (.tmp 56) (.tmp 58) 31 rfl w.heap.size 118 i0 _ 7 104 Tryz.underlying31 hi hz0 hz1 hz2 rfl (by decide) (.slice pv k cv) k cs rfl ((World.ownsRow.drew HOW.out).alloc _) ⟨W3.heap.size, 0, none⟩ 1 1 XC rfl (by rw [HXL.out]) (cells_new _ _ _) HXP.out (by decide) (by unfold maxLen; omega) (by omega) (by simp; omega) _ rfl ?_
      intro g_ cap w5 hown5 hgrow5 hat5 hlt5
      have hbw5 := BK.grown (HBW.out.drew.alloc (.cells XC.toArray 118)) hgrow5 HNW.out
      have hbd5 := BK.grown (HBD.out.drew.alloc (.cells XC.toArray 118)) hgrow5 HND.out
      refine hK.out _ _ (fun _ => ⟨hbw5.all.1 0, hbd5.rangeL⟩) ?_
      clear hK K
      obtain ⟨hcw5, hfw5⟩ := hbw5.all
      have hwl5 := hbw5.lt
      simp only [Act.put, List.setIfInBounds_toArray, List.set_cons_zero, List.set_cons_succ, List.getElem_toArray, List.getElem_cons_zero, List.getElem_cons_succ, List.replicate, Array.replicate, List.size_toArray, List.length_cons, List.length_nil]
      refine wpAnyJ_one (i := 8) rfl rfl (by kernel_rfl) (fun K hK => ?_)
      go_simp
      refine hK.out _ _ (fun _ => ⟨hbw5.all.1 0, hbd5.rangeL⟩) ?_
      clear hK K
      simp only [Act.put, List.setIfInBounds_toArray, List.set_cons_zero, List.set_cons_succ, List.getElem_toArray, List.getElem_cons_zero, List.getElem_cons_succ, List.replicate, Array.replicate, List.size_toArray, List.length_cons, List.length_nil]
      refine wpAnyJ_one (i := 9) rfl rfl (by kernel_rfl) (fun K hK => ?_)
      go_simp
      refine hK.out _ _ (fun _ => ⟨hbw5.all.1 0, hbd5.rangeL⟩) ?_
      clear hK K
      simp only [Act.put, List.setIfInBounds_toArray, List.set_cons_zero, List.set_cons_succ, List.getElem_toArray, List.getElem_cons_zero, List.getElem_cons_succ, List.replicate, Array.replicate, List.size_toArray, List.length_cons, List.length_nil]
      refine wpAnyJ_one (i := 10) rfl rfl (by kernel_rfl) (fun K hK => ?_)
      go_simp
      refine hK.out _ _ (fun h => by omega) ?_
      clear hK K
      refine wpAnyJ_done (by kernel_rfl) ?_ _
      have hown6 : (w5.setCell ⟨wb, 0, none⟩ (.slice (some ⟨g_, 0, none⟩) (k + 1) cap)).ownsRow w.heap.size 118 7 (.slice (some ⟨g_, 0, none⟩) (k + 1) cap) (k + 1) (cs ++ XC) := own_blk hown5 (fun g2 hg2 => Below.heap_setCell _ _ _ _ (fun e9 => row_ne hown5 hbw5 (by decide) (by rw [hg2, e9])))
      have hbw6 := hbw5.self 0 (.slice (some ⟨g_, 0, none⟩) (k + 1) cap)
      simp only [List.setIfInBounds_toArray, List.set_cons_zero] at hbw6
      have hx5 : Ex [wb] w w5 := by
        have h9 : Ex [wb] w W3 := HX.out.trans (HX23.out.drop (by simp))
        exact Ex.grown (h9.drew.alloc _) hgrow5 (fun k9 hk9 => .inr ((HOWr.out.lt _ hk9).1))
      have HREL := hide (And.intro hbw6 (And.intro hown6 (hx5.setCell (p := ⟨wb, 0, none⟩) (.inl (by simp)) (.slice (some ⟨g_, 0, none⟩) (k + 1) cap))))
      clear hown6 hbw6 hx5 hown5 hgrow5 hat5 hlt5 hbw5 hbd5 hcw5 hfw5 hwl5 r1 s1 r2 s2
      go_wp2_with fail
      go_roundg g
      case measure => omega
      case rel => exact ⟨k + 1, _, _, by omega, by simp, HREL.out.1, HREL.out.2.1, HREL.out.2.2⟩
end Go.Proofs.YtgmjjhmnchefbaaGreatDoor.G

/- The list that was handed on, as Load takes it. -/
namespace Go.Proofs.YtgmjjhmnchefbaaGreatDoor.G
open Go.RowKit

theorem HRow.exl {w w' : World} {O k : Nat} {r : AR} {u : UR} {B : Nat} {l : List Nat} (h : HRow w O k r u B) (hx : Ex l w w') (hO : O < w.heap.size) (h1 : O ∉ l) (h2 : B ∉ l) : HRow w' O k r u B :=
  ⟨fun j v hv => (hx.cell.1 O _ hO h1).trans (h.row j v hv), h.txt.ex hx h2, h.ne⟩
def handR (r : AR) (u : UR) (b : Nat) : AR := ⟨r.act, some ⟨b, 0, none⟩, u.ss.length, u.ss.length + 8, r.se, r.re, r.ta, r.rp, r.mo⟩
def handL : List AR → List UR → List Nat → List AR
  | r :: rs, u :: us, b :: bs => handR r u b :: handL rs us bs
  | _, _, _ => []
theorem handL_len : ∀ (rs : List AR) (us : List UR) (bs : List Nat), us.length = rs.length → bs.length = rs.length → (handL rs us bs).length = rs.length
  | [], us, bs, h1, h2 => by
    cases us <;> cases bs <;> first | rfl | (cases h1; done) | (cases h2; done)
  | r :: rs, [], bs, h1, h2 => by cases h1
  | r :: rs, u :: us, [], h1, h2 => by cases h2
  | r :: rs, u :: us, b :: bs, h1, h2 => by
    show (handL rs us bs).length + 1 = rs.length + 1
    rw [handL_len rs us bs (by simpa using h1) (by simpa using h2)]
theorem handL_at : ∀ (rs : List AR) (us : List UR) (bs : List Nat) (i : Nat) (x : AR), (handL rs us bs)[i]? = some x → ∃ r u b, rs[i]? = some r ∧ us[i]? = some u ∧ bs[i]? = some b ∧ x = handR r u b
  | r :: rs, u :: us, b :: bs, 0, x, h => ⟨r, u, b, rfl, rfl, rfl, by
      have h9 : some (handR r u b) = some x := h
      exact (Option.some.inj h9).symm⟩
  | r :: rs, u :: us, b :: bs, i + 1, x, h => handL_at rs us bs i x h
  | [], us, bs, i, x, h => by cases us <;> cases bs <;> (simp [handL] at h)
  | r :: rs, [], bs, i, x, h => by cases bs <;> (simp [handL] at h)
  | r :: rs, u :: us, [], i, x, h => by simp [handL] at h
theorem hand_al {w : World} {O : Nat} {rs : List AR} {us : List UR} {Bs : List Nat} (hO : O < w.heap.size) (h : HL w O rs us Bs rs.length) (h1 : us.length = rs.length) (h2 : Bs.length = rs.length) : AL w (.slice (some ⟨O, 0, none⟩) rs.length (rs.length + 8)) (handL rs us Bs) := by
  refine ⟨some ⟨O, 0, none⟩, rs.length + 8, by rw [handL_len rs us Bs h1 h2], fun i x hx => ?_⟩
  obtain ⟨r, u, b, hr, hu, hb, rfl⟩ := handL_at rs us Bs i x hx
  have hrow := (h i r u b (List.getElem?_eq_some_iff.1 hr).1 hr hu hb).row
  refine ⟨O, 0, rfl, hO, fun o ho => ?_⟩
  have hl : (hcells r u b).length = 7 := rfl
  have h9 := hrow o _ (List.getElem?_eq_getElem (by rw [hl]; exact ho))
  rw [Nat.zero_add, h9, ← List.getElem?_eq_getElem]
  rfl
theorem hand_says {w : World} {O : Nat} {rs : List AR} {us : List UR} {Bs : List Nat} (h : HL w O rs us Bs rs.length) (hs : ∀ (i : Nat) r u, rs[i]? = some r → us[i]? = some u → SaysO w r u) : ∀ (i : Nat) x u, (handL rs us Bs)[i]? = some x → us[i]? = some u → Says w x u := fun i x u hx hu => by
  obtain ⟨r, u', b, hr, hu', hb, rfl⟩ := handL_at rs us Bs i x hx
  rw [hu] at hu'
  cases hu'
  have hr9 := h i r u b (List.getElem?_eq_some_iff.1 hr).1 hr hu hb
  have hs9 := hs i r u hr hu
  exact ⟨hs9.act, rfl, .inr ⟨b, u.ss.length + 8, rfl, hr9.txt.lt, (spare_at hr9.txt).1⟩, hs9.se, hs9.re, hs9.ta, hs9.rp, hs9.mo⟩
end Go.Proofs.YtgmjjhmnchefbaaGreatDoor.G

/- retaglaw.Patterns: of every text both readers say alike whether it is a pattern, and the place. -/
namespace Go.Proofs.YtgmjjhmnchefbaaGreatDoor.G
open Go.RowKit

set_option maxHeartbeats 1000000 in
theorem num_any (x : Int) (w : World) : Calls Tryz.prog 7 #[.int .i64 x] w fun e w' => e = .returned (.int .i64 x) ∧ w' = w := by
  go_enter Tryz.func7, Tryz.ntmps7
  go_wp2_with fail
  go_ret
  exact ⟨rfl, rfl⟩
end Go.Proofs.YtgmjjhmnchefbaaGreatDoor.G

/- One Load of a game: both answer alike, what was handed in stays. -/
namespace Go.Proofs.YtgmjjhmnchefbaaGreatDoor.G
open Go.RowKit

theorem bk_ne {w : World} {a b : Nat} {ca cb : Array Value} {ta tb : TypeId} (h1 : BK w a (.cells ca ta (0, 0))) (h2 : BK w b (.cells cb tb (0, 0))) (h : ta ≠ tb) : a ≠ b := fun e => by
  subst e
  unfold BK at h1 h2
  rw [h1] at h2
  injection h2 with h2
  injection h2 with _ h3 _
  exact h h3
theorem there_exl {w w' : World} {b o n : Nat} {l : List Nat} (h : w.there b o n) (hx : Ex l w w') (hb : b < w.heap.size) (hl : b ∉ l) : w'.there b o n := fun j hj => by
  rw [hx.cell.1 b _ hb hl, hx.cell.2 b _ hb hl]
  exact h j hj
def slAt (us : List UR) (k : Nat) : Nat := match us[k]? with | some u => u.ss.length | none => 0
def bAt (bs : List Nat) (k : Nat) : Nat := match bs[k]? with | some b => b | none => 0
set_option maxHeartbeats 4000000 in
set_option maxRecDepth 100000 in
theorem loads_any (R : List Value → List Lab → Bool → Prop) (gb e m mb wb base room : Nat) (v : Value) (rs : List AR) (us : List UR) {x : EV} (w0 w : World) (hx0 : Ex [] w0 w) (hg : GM R w gb e m mb wb base room) (g1 : w0.heap.size ≤ e) (g2 : w0.heap.size ≤ m) (g3 : w0.heap.size ≤ mb) (g4 : w0.heap.size ≤ wb) (hgm : gb ≠ mb) (hwm : wb ≠ mb) (hgmm : gb ≠ m) (hwmm : wb ≠ m) (hmb : mb < w.heap.size) (hml : m < w.heap.size)
    (hv : AL w0 v rs) (hlen : us.length = rs.length) (hsay : ∀ (i : Nat) r u, rs[i]? = some r → us[i]? = some u → SaysO w0 r u) (hf1 : ∀ u ∈ us, u.fits) (hf2 : ∀ u ∈ us, u.fits2) (hf3 : ∀ u ∈ us, u.fits3) (hn : rs.length * 104 ≤ 140737488351232) (hub : UB w0) (hev : w0.cell? ⟨0, 0, none⟩ = some (.iface x.1 x.2)) :
    Calls Tryz.prog 9 #[.pointer (some ⟨gb, 0, none⟩), v] w fun y w' => y = .returned (.bool true) ∧ Ex [] w0 w' := by
  have KH := hide (handedRules_any v rs us w (hv.ex0 hx0) hlen (fun i r u h1 h2 => (hsay i r u h1 h2).ex hx0) hf3 hn)
  have HG := hide hg
  have HX0 := hide hx0
  have HV := hide hv
  have HLEN := hide hlen
  have HSAY := hide hsay
  have HF1 := hide hf1
  have HF2 := hide hf2
  have HF3 := hide hf3
  have HUB := hide hub
  have HEV := hide hev
  have hel := hg.eng.blk.lt
  have hwbl := hg.wld.lt
  have hgl := hg.blk.lt
  have hne1 : gb ≠ e := bk_ne hg.blk hg.eng.blk (by decide)
  have hne2 : wb ≠ e := bk_ne hg.wld hg.eng.blk (by decide)
  have hne3 : gb ≠ wb := bk_ne hg.blk hg.wld (by decide)
  obtain ⟨p, c, rfl⟩ := hv.slice
  obtain ⟨n, hnn⟩ : ∃ n, n = rs.length := ⟨_, rfl⟩
  have HNN := hide hnn
  rw [← hnn] at KH hn ⊢
  clear hg hx0 hv hlen hsay hf1 hf2 hf3 hub hev hnn
  go_enter Tryz.func9, Tryz.ntmps9
  go_wp2_with fail
  refine KH.out.mono ?_
  rintro y w1 ⟨Bs, rfl, hBl, hBb, hHL, hsp, hth, hO1, hx1⟩
  obtain ⟨O, hO⟩ : ∃ O, O = w.heap.size := ⟨_, rfl⟩
  rw [← hO] at hBb hHL hsp hth hO1 ⊢
  have hx01 : Ex [] w0 w1 := HX0.out.trans hx1
  have hgb1 := HG.out.blk.ex hx1 (by simp)
  have p0 : w1.cell? ⟨gb, 0, none⟩ = some (.pointer (some ⟨e, 0, none⟩)) := hgb1.all.1 0
  have hgl1 := hgb1.lt
  have hHLr : HL w1 O rs us Bs rs.length := by rw [← HNN.out]; exact hHL
  have hBlr : Bs.length = rs.length := by rw [hBl, HNN.out]
  have KL := hide (load_any R e m mb base room (.slice none 0 0) [] (.slice none 0 0) #[] 0 _ (handL rs us Bs) us w1 ⟨HG.out.eng.blk.ex hx1 (by simp), HG.out.eng.mem.ex hx1 (by simp), HG.out.eng.lt, HG.out.eng.nem, HG.out.eng.nemb⟩ (hand_al hO1 hHLr HLEN.out hBlr) (by rw [handL_len rs us Bs HLEN.out hBlr]; exact HLEN.out) (hand_says hHLr (fun i r u h1 h2 => (HSAY.out i r u h1 h2).ex hx01)) HF1.out (HUB.out.ex hx01 (by simp)) ((hx01.cell0.1 _ _ (lt_of_cell HEV.out)).trans HEV.out))
  rw [← HNN.out] at KL
  have HHL := hide hHLr
  have HSP := hide hsp
  have HTH := hide hth
  have HBB := hide hBb
  have HBL := hide hBlr
  have HX1 := hide hx1
  have HX01 := hide hx01
  have HGB1 := hide hgb1
  have HOO := hide hO
  obtain ⟨C, hC⟩ : ∃ C, C = loadR us := ⟨_, rfl⟩
  have HC := hide hC
  rw [← hC] at KL
  have hz1 := hx1.size
  clear KH hBl hBb hHL hsp hth hx1 hx01 hgb1 hHLr hBlr hO hC
  go_wp2_with fail
  refine KL.out.mono ?_
  rintro y w2 ⟨rfl, hx2⟩
  have hgb2 := HGB1.out.ex hx2 (by simp; exact ⟨hne1, hgmm, hgm⟩)
  have q1 : w2.cell? ⟨gb, 1, none⟩ = some (.pointer (some ⟨wb, 0, none⟩)) := hgb2.all.1 1
  have hgl2 := hgb2.lt
  have hx02 : Ex [] w0 w2 := ((HX01.out.drop (l' := [e, m, mb]) (by simp)).trans hx2).drop (fun y hy hlt => by simp at hy; omega)
  have hwb2 : BK w2 wb _ := (HG.out.wld.ex HX1.out (by simp)).ex hx2 (by simp; exact ⟨hne2, hwmm, hwm⟩)
  have KR : Hid (Calls Tryz.prog 18 #[.pointer (some ⟨wb, 0, none⟩), .slice p n c] w2 fun y w' => y = .returned (.tuple #[.int .i64 (C.1 : Int), .int .i64 (C.2.1 : Int), .int .i64 (C.2.2 : Int)]) ∧ Ex [wb] w2 w') := by
    have hvv := HV.out
    rw [← HNN.out] at hvv
    rw [HC.out]
    by_cases h0 : (loadR us).1 = 0
    · rw [(loadR_zero h0).1]
      exact refLoad_ok wb _ rs us w0 w2 hx02 g4 hwb2 hvv HLEN.out HSAY.out HF2.out HF3.out h0
    · exact (refLoad_bad wb _ rs us w2 (hvv.ex0 hx02) HLEN.out (fun i r u h1 h2 => (HSAY.out i r u h1 h2).ex hx02) HF2.out h0).mono (fun _ _ h => ⟨h.1, h.2.drop (by simp)⟩)
  have HX2 := hide hx2
  have HX02 := hide hx02
  have hz2 := hx2.size
  clear hgb2 hwb2 hx2 hx02 p0
  go_wp2_with fail
  refine KR.out.mono ?_
  rintro y w3 ⟨rfl, hx3⟩
  have hz3 := hx3.size
  have hO9 := HOO.out
  have hx03 : Ex [] w0 w3 := ((HX02.out.drop (l' := [wb]) (by simp)).trans hx3).drop (fun y hy hlt => by simp at hy; omega)
  have hOm : O ∉ [e, m, mb] := by simp; omega
  have hHL3 : HL w3 O rs us Bs rs.length := fun k r u b hk h1 h2 h3 => by
    have hb9 := HBB.out b (List.mem_of_getElem? h3)
    exact ((HHL.out k r u b hk h1 h2 h3).exl HX2.out (by omega) hOm (by simp; omega)).exl hx3 (by omega) (by simp; omega) (by simp; omega)
  have hvv := HV.out
  rw [← HNN.out] at hvv
  have KS := hide (stillRules_any O Bs (.slice p n c) rs us w3 (by omega) hHL3 (fun k h1 h2 j v hv => (hx3.cell1.1 O _ (by omega) (by omega)).trans ((HX2.out.cell.1 O _ (by omega) hOm).trans (HSP.out k (by rw [HNN.out]; exact h1) (by rw [HNN.out]; exact h2) j v hv))) HBL.out (hvv.ex0 hx03) HLEN.out (fun i r u h1 h2 => (HSAY.out i r u h1 h2).ex hx03) (fun u hu => by have := (HF3.out u hu).len; omega) (by have := HNN.out; omega))
  rw [← HNN.out] at KS
  have HHL3 := hide hHL3
  have HTH3 := hide (there_exl (there_exl HTH.out HX2.out (by omega) hOm) hx3 (by omega) (by simp; omega))
  have HX03 := hide hx03
  have hO3 : O < w3.heap.size := by omega
  clear hx3 hx03 hHL3 hvv q1 KR KL hO9 hOm
  go_wp2_with fail
  refine KS.out.mono ?_
  rintro y w4 ⟨rfl, hx4⟩
  have hz4 := hx4.size
  have KB := hide (blotRules_any O O n (fun k => (slAt us k, bAt Bs k)) w4 (Nat.le_refl _) (by omega) (fun k hk => by
    have hkl : k < rs.length := by rw [← HNN.out]; exact hk
    obtain ⟨r, hr⟩ : ∃ r, rs[k]? = some r := ⟨_, List.getElem?_eq_getElem hkl⟩
    obtain ⟨u, hu⟩ : ∃ u, us[k]? = some u := ⟨_, List.getElem?_eq_getElem (by rw [HLEN.out]; exact hkl)⟩
    obtain ⟨b, hb⟩ : ∃ b, Bs[k]? = some b := ⟨_, List.getElem?_eq_getElem (by rw [HBL.out]; exact hkl)⟩
    have hrow := (HHL3.out k r u b hkl hr hu hb).ex hx4 hO3
    have hb9 := HBB.out b (List.mem_of_getElem? hb)
    have e1 : slAt us k = u.ss.length := by unfold slAt; rw [hu]
    have e2 : bAt Bs k = b := by unfold bAt; rw [hb]
    dsimp only
    rw [e1, e2]
    refine ⟨⟨hrow.row 1 _ rfl, fun j hj => ?_, hrow.ne, hrow.txt.lt⟩, by omega, by have := (HF3.out u (List.mem_of_getElem? hu)).len; omega⟩
    obtain ⟨s, hs⟩ : ∃ s, u.ss[j]? = some s := ⟨_, List.getElem?_eq_getElem hj⟩
    rw [Nat.zero_add, (spare_at hrow.txt).1 j s hs]
    exact ⟨rfl, hrow.txt.all.2 j⟩) (fun j hj => there_exl HTH3.out hx4 hO3 (by simp) j (by omega)) (by omega))
  have HX4 := hide hx4
  clear hx4 KS
  go_wp2_with fail
  refine KB.out.mono ?_
  rintro y w5 ⟨rfl, hx5⟩
  have hxe : Ex [] w0 w5 := EB.toEx ((EB.ofEx (HX03.out.trans HX4.out) (Nat.le_refl _)).trans (hx5.mono (by have := HX0.out.size; have := HOO.out; omega) (by simp)))
  have HXE := hide hxe
  clear hx5 hxe KB
  obtain ⟨C1, C2, C3⟩ := C
  dsimp only
  go_wp2_with fail
  refine (num_any _ w5).mono ?_
  rintro y w6 ⟨rfl, rfl⟩
  go_wp2_with fail
  go_ret
  exact ⟨by simp, HXE.out⟩
end Go.Proofs.YtgmjjhmnchefbaaGreatDoor.G
