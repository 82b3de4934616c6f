/- N10 N11 N12 N13, one behind the other. -/
import Derived.Test.YtgmjjhmnchefbaaGreatDoorM44
set_option linter.unusedVariables false
set_option linter.unusedSimpArgs false
/- What was handed in is as it was: lists of rules. -/
namespace Go.Proofs.YtgmjjhmnchefbaaGreatDoor.G
open Go.RowKit

set_option maxHeartbeats 8000000 in
set_option maxRecDepth 100000 in
theorem stillRules_any (O : Nat) (Bs : List Nat) (v : Value) (rs : List AR) (us : List UR) (w : World) (hO : O < w.heap.size) (hHL : HL w O rs us Bs rs.length) (hsp : ∀ k, rs.length ≤ k → k < rs.length + 8 → w.rangeAt O (k * 7) spareC) (hBl : Bs.length = rs.length) (hv : AL w v rs) (hlen : us.length = rs.length) (hsay : ∀ (i : Nat) r u, rs[i]? = some r → us[i]? = some u → SaysO w r u) (hfit : ∀ u ∈ us, u.ss.length ≤ 140737488351232) (hn : rs.length ≤ 140737488351232) :
    Calls Tryz.prog 19 #[.slice (some ⟨O, 0, none⟩) rs.length (rs.length + 8), v] w fun e w' => e = .returned (.bool true) ∧ Ex [] w w' := by
  have HHL := hide hHL
  have HSP := hide hsp
  have HBL := hide hBl
  have HV := hide hv
  have HLEN := hide hlen
  have HSAY := hide hsay
  have HFIT := hide hfit
  obtain ⟨p, c, rfl⟩ := hv.slice
  obtain ⟨n, hnn⟩ : ∃ n, n = rs.length := ⟨_, rfl⟩
  have HNN := hide hnn
  rw [← hnn] at hn HHL HSP ⊢
  have HISZ : Hid ((Tryz.prog.info? 118).map (·.size) = some 7) := by show _ = _; kernel_rfl
  clear hHL hsp hBl hv hlen hsay hfit hnn
  go_enter Tryz.func19, Tryz.ntmps19
  go_wp2_with fail
  go_loopg [7] (n + 8) (fun gk i wr => ∃ j : Nat, j + gk = n + 8 ∧ i = .int .i64 (j : Int) ∧ Ex [] w wr)
  case atStart => exact ⟨0, by omega, rfl, Ex.refl _ _⟩
  case round =>
    obtain ⟨j, hj, rfl, hx⟩ := hrel
    have HX := hide hx
    have hwz := hx.size
    cases gk with
    | zero =>
      have hno : ¬ (j : Int) < (n : Int) + 8 := by omega
      clear hx
      go_wp2_with fail
      go_ret
      exact ⟨rfl, HX.out⟩
    | succ g =>
      have hlt8 : (j : Int) < (n : Int) + 8 := by omega
      have hlt9 : j < n + 8 := by omega
      clear hx
      have hbz : BK (wr.alloc (Obj.cells #[.int .i64 0, .slice none 0 0, .string ⟨#[]⟩, .string ⟨#[]⟩, .string ⟨#[]⟩, .string ⟨#[]⟩, .int .u64 0] 118)) wr.heap.size (Obj.cells #[.int .i64 0, .slice none 0 0, .string ⟨#[]⟩, .string ⟨#[]⟩, .string ⟨#[]⟩, .string ⟨#[]⟩, .int .u64 0] 118 (0, 0)) := BK.new _ _
      have HBZ := hide hbz
      have HA1 : Hid ((#[.int .i64 (-5), .slice none 0 0, .string ⟨#[]⟩, .string ⟨#[33]⟩, .string ⟨#[]⟩, .string ⟨#[]⟩, .int .u64 0] : Array Value).all (·.oneCell') = true) := by show Array.all _ _ = true; simp [Value.oneCell']
      clear hbz
      go_upto_region 7 with (refine wpList_store_row rfl 118 _ _ rfl wr.heap.size #[.int .i64 (-5), .slice none 0 0, .string ⟨#[]⟩, .string ⟨#[33]⟩, .string ⟨#[]⟩, .string ⟨#[]⟩, .int .u64 0] rfl rfl 118 _ HBZ.out HISZ.out rfl HA1.out ?_)
      generalize hW1 : World.setRow _ _ _ = W1
      have hb1 : BK W1 wr.heap.size (Obj.cells #[.int .i64 (-5), .slice none 0 0, .string ⟨#[]⟩, .string ⟨#[33]⟩, .string ⟨#[]⟩, .string ⟨#[]⟩, .int .u64 0] 118 (0, 0)) := by rw [← hW1]; exact setRow_heap _ _ _ _ _ _ HBZ.out
      have hx1 : Ex [] wr W1 := by rw [← hW1]; exact (((Ex.refl [] _).alloc _)).setRow (.inr (Nat.le_refl _)) _
      have HB1 := hide hb1
      have HX1 := hide hx1
      have hz1 := hx1.size
      have hDlt := hb1.lt
      clear hW1 hb1 hx1 HBZ
      by_cases hjn : j < n
      · have hjni : (j : Int) < (n : Int) := by omega
        have hjl : j < rs.length := by rw [← HNN.out]; omega
        obtain ⟨r, hr⟩ : ∃ r, rs[j]? = some r := ⟨_, List.getElem?_eq_getElem hjl⟩
        obtain ⟨u, hu⟩ : ∃ u, us[j]? = some u := ⟨_, List.getElem?_eq_getElem (by rw [HLEN.out]; exact hjl)⟩
        obtain ⟨bB, hbB⟩ : ∃ b, Bs[j]? = some b := ⟨_, List.getElem?_eq_getElem (by rw [HBL.out]; exact hjl)⟩
        have hxw1 : Ex [] w W1 := HX.out.trans HX1.out
        obtain ⟨rb, off, hprb, hrbl, hrc⟩ : ∃ rb off, p = some ⟨rb, off, none⟩ ∧ rb < w.heap.size ∧ ∀ o, o < 7 → W1.cell? ⟨rb, off + j * 7 + o, none⟩ = r.cells[o]? := by
          obtain ⟨p', c', h1, h2⟩ := HV.out
          injection h1 with e1 e2 e3
          obtain ⟨b, off, h3, hb, hc⟩ := h2 j r hr
          exact ⟨b, off, e1.trans h3, hb, fun o ho => (hxw1.cell0.1 b _ hb).trans (hc o ho)⟩
        subst hprb
        have hs := HSAY.out j r u hr hu
        have hf := HFIT.out u (List.mem_of_getElem? hu)
        have hrow := HHL.out j r u bB hjn hr hu hbB
        obtain ⟨act, rp0, rn, rc, se, re, ta, rp, mo⟩ := r
        have hlenr : rn = u.ss.length := hs.len
        subst hlenr
        have hss : SSo w rp0 u.ss := hs.ss
        unfold AR.cells at hrc
        dsimp only at hrc
        obtain ⟨sl, hsl⟩ : ∃ sl, sl = u.ss.length := ⟨_, rfl⟩
        have HSL := hide hsl
        have c0 : W1.cell? ⟨rb, off + j * 7, none⟩ = some (.int .i64 act) := hrc 0 (by omega)
        have c1 : W1.cell? ⟨rb, off + j * 7 + 1, none⟩ = some (.slice rp0 sl rc) := by rw [hsl]; exact hrc 1 (by omega)
        have c2 : W1.cell? ⟨rb, off + j * 7 + 2, none⟩ = some (.string se) := hrc 2 (by omega)
        have c3 : W1.cell? ⟨rb, off + j * 7 + 3, none⟩ = some (.string re) := hrc 3 (by omega)
        have c4 : W1.cell? ⟨rb, off + j * 7 + 4, none⟩ = some (.string ta) := hrc 4 (by omega)
        have c5 : W1.cell? ⟨rb, off + j * 7 + 5, none⟩ = some (.string rp) := hrc 5 (by omega)
        have c6 : W1.cell? ⟨rb, off + j * 7 + 6, none⟩ = some (.int .u64 mo) := hrc 6 (by omega)
        have hrbw : rb < W1.heap.size := by omega
        have HA2 : Hid ((#[.int .i64 act, .slice rp0 sl rc, .string se, .string re, .string ta, .string rp, .int .u64 mo] : Array Value).all (·.oneCell') = true) := by show Array.all _ _ = true; simp [Value.oneCell']
        clear hrc hr hu hbB hs hsl
        go_upto_region 9 with (refine wpList_store_row rfl 118 _ _ rfl wr.heap.size #[.int .i64 act, .slice rp0 sl rc, .string se, .string re, .string ta, .string rp, .int .u64 mo] rfl rfl 118 _ HB1.out HISZ.out rfl HA2.out ?_)
        generalize hW2 : World.setRow _ _ _ = W2
        have hb2 : BK W2 wr.heap.size (Obj.cells #[.int .i64 act, .slice rp0 sl rc, .string se, .string re, .string ta, .string rp, .int .u64 mo] 118 (0, 0)) := by rw [← hW2]; exact setRow_heap _ _ _ _ _ _ HB1.out
        have hx2 : Ex [] wr W2 := by rw [← hW2]; exact HX1.out.setRow (.inr (Nat.le_refl _)) _
        have hxw2 : Ex [] w W2 := HX.out.trans hx2
        have HX2 := hide hxw2
        have hrow2 := hrow.ex hxw2 hO
        have HTX := hide hrow2.txt
        have r0 : W2.rangeAt O (j * 7) (hcells ⟨act, rp0, u.ss.length, rc, se, re, ta, rp, mo⟩ u bB) := hrow2.row
        have hOl : O < W2.heap.size := by have := hxw2.size; omega
        have hDl := hb2.lt
        have KT := hide (fun (W : World) (hW : ∃ k, W = W2.drewN k) => stillTexts_any bB rp0 rc u.ss W (by obtain ⟨k, rfl⟩ := hW; exact HTX.out) (by obtain ⟨k, rfl⟩ := hW; exact hss.ex (hxw2.drewN k) (by simp)) hf)
        rw [← show sl = u.ss.length from HSL.out] at KT
        unfold hcells at r0
        rw [← show sl = u.ss.length from HSL.out] at r0
        dsimp only at r0
        have q1 : W2.cell? ⟨O, j * 7 + 1, none⟩ = some (.slice (some ⟨bB, 0, none⟩) sl (sl + 8)) := r0 1 _ rfl
        have q2 : W2.cell? ⟨wr.heap.size, 1, none⟩ = some (.slice rp0 sl rc) := hb2.all.1 1
        obtain ⟨HC, hHC⟩ : ∃ HC : List Value, HC = [.int .i64 act, .slice (some ⟨bB, 0, none⟩) sl (sl + 8), .string se, .string re, .string ta, .string rp, .int .u64 mo] := ⟨_, rfl⟩
        obtain ⟨GC, hGC⟩ : ∃ GC : List Value, GC = [.int .i64 act, .slice rp0 sl rc, .string se, .string re, .string ta, .string rp, .int .u64 mo] := ⟨_, rfl⟩
        have s0 : W2.rangeAt wr.heap.size 0 GC := by rw [hGC]; exact BK.rangeL (cs := [.int .i64 act, .slice rp0 sl rc, .string se, .string re, .string ta, .string rp, .int .u64 mo]) hb2
        rw [← hHC] at r0
        have KA := hide (fun W => alike_same act (some ⟨bB, 0, none⟩) rp0 sl (sl + 8) sl rc se re ta rp mo W)
        have HKA : Hid (∀ W, Calls Tryz.prog 42 #[.agg HC.toArray, .agg GC.toArray] W fun e w' => e = .returned (.bool true) ∧ Ex [] W w') := fun W => by rw [hHC, hGC]; exact KA.out W
        have HIH : Hid ((Tryz.prog.info? 118).map (·.size) = some HC.length) := by show _ = _; rw [hHC]; kernel_rfl
        have HIG : Hid ((Tryz.prog.info? 118).map (·.size) = some GC.length) := by show _ = _; rw [hGC]; kernel_rfl
        clear KA
        have KA := HKA
        clear HKA hW2 hx2 hxw2 hrow hrow2 hss hf hHC hGC c0 c1 c2 c3 c4 c5 c6 hxw1
        go_wp2_with fail
        go_quiet ((refine (KT.out _ ⟨_, rfl⟩).mono ?_; rintro e w9 ⟨rfl, rfl⟩; exact ⟨rfl, _, rfl⟩))
        clear q1 q2
        go_upto_region 14 with fail
        generalize hW3 : World.drewN _ _ = W3
        have r0' : W3.rangeAt O (j * 7) HC := by rw [← hW3]; exact r0
        have s0' : W3.rangeAt wr.heap.size 0 GC := by rw [← hW3]; exact s0
        have hOl' : O < W3.heap.size := by rw [← hW3]; exact hOl
        have hDl' : wr.heap.size < W3.heap.size := by rw [← hW3]; exact hDl
        have HX3 : Hid (Ex [] w W3) := by rw [← hW3]; exact HX2.out.drewN _
        clear r0 s0 hOl hDl hW3
        have r0 := r0'
        have s0 := s0'
        have hOl := hOl'
        have hDl := hDl'
        clear r0' s0' hOl' hDl'
        refine wp_region_J (by kernel_rfl) ?_
        refine wpAny_take (i := 0) (v := ?_) rfl (by kernel_rfl) (by kernel_rfl) (by kernel_rfl) (fun _ _ _ h => h) (Or.inl ⟨by rfl, ?_⟩) ?_
        rotate_left
        · intro w'
          go_simp
          try with_reducible rfl
        simp only [Act.put, List.setIfInBounds_toArray, List.set_cons_zero, List.set_cons_succ, List.getElem_toArray, List.getElem_cons_zero, List.getElem_cons_succ, List.replicate, Array.replicate, List.size_toArray, List.length_cons, List.length_nil]
        refine wpAny_take (i := 1) (v := ?_) rfl (by kernel_rfl) (by kernel_rfl) (by kernel_rfl) (fun _ _ _ h => h) (Or.inl ⟨by rfl, ?_⟩) ?_
        rotate_left
        · intro w'
          go_simp
          try with_reducible rfl
        simp only [Act.put, List.setIfInBounds_toArray, List.set_cons_zero, List.set_cons_succ, List.getElem_toArray, List.getElem_cons_zero, List.getElem_cons_succ, List.replicate, Array.replicate, List.size_toArray, List.length_cons, List.length_nil]
        refine wpAny_take (i := 2) (v := ?_) rfl (by kernel_rfl) (by kernel_rfl) (by kernel_rfl) (fun _ _ _ h => h) (Or.inl ⟨by rfl, ?_⟩) ?_
        rotate_left
        · intro w'
          go_simp
          try with_reducible rfl
        simp only [Act.put, List.setIfInBounds_toArray, List.set_cons_zero, List.set_cons_succ, List.getElem_toArray, List.getElem_cons_zero, List.getElem_cons_succ, List.replicate, Array.replicate, List.size_toArray, List.length_cons, List.length_nil]
        refine wpAny_of_J (S := (fun oi w' => oi < 6 → w'.rangeAt O (j * 7) HC ∧ w'.rangeAt wr.heap.size 0 GC)) _ _ _ _ ?_
        refine wpAnyJ_take (i := 3) (T := (fun w' => w'.rangeAt O (j * 7) HC ∧ w'.rangeAt wr.heap.size 0 GC)) (v := _) (fun oi => decide (oi < 6)) rfl (by kernel_rfl) (by kernel_rfl) (by kernel_rfl) (by kernel_rfl) (fun oi w' hj h => h (by simpa using hj)) (fun w' h _ => h) (fun _ _ _ h => h) ⟨r0, s0⟩ (yieldsIf_load_mid (by rfl) _ _ rfl _ _ rfl HC _ (fun w' h => h.1) Tryz.underlying118 rfl HIH.out) ?_
        simp only [Act.put, List.setIfInBounds_toArray, List.set_cons_zero, List.set_cons_succ, List.getElem_toArray, List.getElem_cons_zero, List.getElem_cons_succ, List.replicate, Array.replicate, List.size_toArray, List.length_cons, List.length_nil]
        refine wpAnyJ_take (i := 4) (T := (fun w' => w'.rangeAt O (j * 7) HC ∧ w'.rangeAt wr.heap.size 0 GC)) (v := _) (fun oi => decide (oi < 6)) rfl (by kernel_rfl) (by kernel_rfl) (by kernel_rfl) (by kernel_rfl) (fun oi w' hj h => h (by simpa using hj)) (fun w' h _ => h) (fun _ _ _ h => h) ⟨r0, s0⟩ (yieldsIf_load_mid (by rfl) _ _ rfl _ _ rfl GC _ (fun w' h => h.2) Tryz.underlying118 rfl HIG.out) ?_
        simp only [Act.put, List.setIfInBounds_toArray, List.set_cons_zero, List.set_cons_succ, List.getElem_toArray, List.getElem_cons_zero, List.getElem_cons_succ, List.replicate, Array.replicate, List.size_toArray, List.length_cons, List.length_nil]
        refine wpAnyJ_one (i := 5) rfl rfl (by kernel_rfl) (fun K hK => ?_)
        go_simp
        refine (KA.out _).mono ?_
        rintro e w6 ⟨rfl, hx6⟩
        have HX6 := hide hx6
        have k1 := range_ex r0 hx6 hOl
        have k2 := range_ex s0 hx6 hDl
        clear hx6
        go_simp
        refine hK.out _ _ (fun _ => ⟨k1, k2⟩) ?_
        clear hK K
        simp only [Act.put, List.setIfInBounds_toArray, List.set_cons_zero, List.set_cons_succ, List.getElem_toArray, List.getElem_cons_zero, List.getElem_cons_succ, List.replicate, Array.replicate, List.size_toArray, List.length_cons, List.length_nil]
        refine wpAnyJ_one (i := 6) rfl rfl (by kernel_rfl) (fun K hK => ?_)
        go_simp
        refine hK.out _ _ (fun h => by omega) ?_
        clear hK K
        refine wpAnyJ_done (by kernel_rfl) ?_ _
        clear r0 s0 k1 k2
        go_wp2_with fail
        go_roundg g
        case measure => omega
        case rel => exact ⟨j + 1, by omega, by simp, HX3.out.drew.trans HX6.out⟩
      · have hjni : ¬ (j : Int) < (n : Int) := by omega
        have hxw1 : Ex [] w W1 := HX.out.trans HX1.out
        have hrow := HSP.out j (by omega) (by omega)
        have hOl : O < W1.heap.size := by have := hxw1.size; omega
        have r0 : W1.rangeAt O (j * 7) spareC := fun k v hv => (hxw1.cell0.1 O _ hO).trans (hrow k v hv)
        have q1 : W1.cell? ⟨O, j * 7 + 1, none⟩ = some (.slice none 0 0) := r0 1 _ rfl
        have hDl := hDlt
        obtain ⟨HC, hHC⟩ : ∃ HC : List Value, HC = spareC := ⟨_, rfl⟩
        have s0 : W1.rangeAt wr.heap.size 0 HC := by rw [hHC]; exact BK.rangeL (cs := spareC) HB1.out
        rw [← hHC] at r0
        obtain ⟨GC, hGC⟩ : ∃ GC : List Value, GC = HC := ⟨_, rfl⟩
        rw [← hGC] at s0
        have HX3 := hide hxw1
        have KA : Hid (∀ W, Calls Tryz.prog 42 #[.agg HC.toArray, .agg GC.toArray] W fun e w' => e = .returned (.bool true) ∧ Ex [] W w') := fun W => by rw [hGC, hHC]; exact alike_same (-5) none none 0 0 0 0 ⟨#[]⟩ ⟨#[33]⟩ ⟨#[]⟩ ⟨#[]⟩ 0 W
        have HIH : Hid ((Tryz.prog.info? 118).map (·.size) = some HC.length) := by show _ = _; rw [hHC]; kernel_rfl
        have HIG : Hid ((Tryz.prog.info? 118).map (·.size) = some GC.length) := by show _ = _; rw [hGC, hHC]; kernel_rfl
        clear hxw1 hrow hHC hGC
        go_upto_region 14 with fail
        clear q1
        refine wp_region_J (by kernel_rfl) ?_
        refine wpAny_take (i := 0) (v := ?_) rfl (by kernel_rfl) (by kernel_rfl) (by kernel_rfl) (fun _ _ _ h => h) (Or.inl ⟨by rfl, ?_⟩) ?_
        rotate_left
        · intro w'
          go_simp
          try with_reducible rfl
        simp only [Act.put, List.setIfInBounds_toArray, List.set_cons_zero, List.set_cons_succ, List.getElem_toArray, List.getElem_cons_zero, List.getElem_cons_succ, List.replicate, Array.replicate, List.size_toArray, List.length_cons, List.length_nil]
        refine wpAny_take (i := 1) (v := ?_) rfl (by kernel_rfl) (by kernel_rfl) (by kernel_rfl) (fun _ _ _ h => h) (Or.inl ⟨by rfl, ?_⟩) ?_
        rotate_left
        · intro w'
          go_simp
          try with_reducible rfl
        simp only [Act.put, List.setIfInBounds_toArray, List.set_cons_zero, List.set_cons_succ, List.getElem_toArray, List.getElem_cons_zero, List.getElem_cons_succ, List.replicate, Array.replicate, List.size_toArray, List.length_cons, List.length_nil]
        refine wpAny_take (i := 2) (v := ?_) rfl (by kernel_rfl) (by kernel_rfl) (by kernel_rfl) (fun _ _ _ h => h) (Or.inl ⟨by rfl, ?_⟩) ?_
        rotate_left
        · intro w'
          go_simp
          try with_reducible rfl
        simp only [Act.put, List.setIfInBounds_toArray, List.set_cons_zero, List.set_cons_succ, List.getElem_toArray, List.getElem_cons_zero, List.getElem_cons_succ, List.replicate, Array.replicate, List.size_toArray, List.length_cons, List.length_nil]
        refine wpAny_of_J (S := (fun oi w' => oi < 6 → w'.rangeAt O (j * 7) HC ∧ w'.rangeAt wr.heap.size 0 GC)) _ _ _ _ ?_
        refine wpAnyJ_take (i := 3) (T := (fun w' => w'.rangeAt O (j * 7) HC ∧ w'.rangeAt wr.heap.size 0 GC)) (v := _) (fun oi => decide (oi < 6)) rfl (by kernel_rfl) (by kernel_rfl) (by kernel_rfl) (by kernel_rfl) (fun oi w' hj h => h (by simpa using hj)) (fun w' h _ => h) (fun _ _ _ h => h) ⟨r0, s0⟩ (yieldsIf_load_mid (by rfl) _ _ rfl _ _ rfl HC _ (fun w' h => h.1) Tryz.underlying118 rfl HIH.out) ?_
        simp only [Act.put, List.setIfInBounds_toArray, List.set_cons_zero, List.set_cons_succ, List.getElem_toArray, List.getElem_cons_zero, List.getElem_cons_succ, List.replicate, Array.replicate, List.size_toArray, List.length_cons, List.length_nil]
        refine wpAnyJ_take (i := 4) (T := (fun w' => w'.rangeAt O (j * 7) HC ∧ w'.rangeAt wr.heap.size 0 GC)) (v := _) (fun oi => decide (oi < 6)) rfl (by kernel_rfl) (by kernel_rfl) (by kernel_rfl) (by kernel_rfl) (fun oi w' hj h => h (by simpa using hj)) (fun w' h _ => h) (fun _ _ _ h => h) ⟨r0, s0⟩ (yieldsIf_load_mid (by rfl) _ _ rfl _ _ rfl GC _ (fun w' h => h.2) Tryz.underlying118 rfl HIG.out) ?_
        simp only [Act.put, List.setIfInBounds_toArray, List.set_cons_zero, List.set_cons_succ, List.getElem_toArray, List.getElem_cons_zero, List.getElem_cons_succ, List.replicate, Array.replicate, List.size_toArray, List.length_cons, List.length_nil]
        refine wpAnyJ_one (i := 5) rfl rfl (by kernel_rfl) (fun K hK => ?_)
        go_simp
        refine (KA.out _).mono ?_
        rintro e w6 ⟨rfl, hx6⟩
        have HX6 := hide hx6
        have k1 := range_ex r0 hx6 hOl
        have k2 := range_ex s0 hx6 hDl
        clear hx6
        go_simp
        refine hK.out _ _ (fun _ => ⟨k1, k2⟩) ?_
        clear hK K
        simp only [Act.put, List.setIfInBounds_toArray, List.set_cons_zero, List.set_cons_succ, List.getElem_toArray, List.getElem_cons_zero, List.getElem_cons_succ, List.replicate, Array.replicate, List.size_toArray, List.length_cons, List.length_nil]
        refine wpAnyJ_one (i := 6) rfl rfl (by kernel_rfl) (fun K hK => ?_)
        go_simp
        refine hK.out _ _ (fun h => by omega) ?_
        clear hK K
        refine wpAnyJ_done (by kernel_rfl) ?_ _
        clear r0 s0 k1 k2
        go_wp2_with fail
        go_roundg g
        case measure => omega
        case rel => exact ⟨j + 1, by omega, by simp, HX3.out.drew.trans HX6.out⟩
end Go.Proofs.YtgmjjhmnchefbaaGreatDoor.G

/- What was handed in is written over. -/
namespace Go.Proofs.YtgmjjhmnchefbaaGreatDoor.G
open Go.RowKit

structure BRow (w : World) (O k sl b : Nat) : Prop where
  cell : w.cell? ⟨O, k * 7 + 1, none⟩ = some (.slice (some ⟨b, 0, none⟩) sl (sl + 8))
  txt : w.there b 0 sl
  ne : b ≠ O
  lt : b < w.heap.size
theorem EB.setCells {B : Nat} {a : World} {b : Nat} (hb : B ≤ b) : ∀ (vs : List Value) (o : Nat) (w : World), EB B [] a w → EB B [] a (w.setCells b o vs)
  | [], o, w, h => h
  | v :: r, o, w, h => EB.setCells hb r (o + 1) _ (h.setCell (.inr hb) v)
theorem BRow.other {w : World} {O k sl b : Nat} (h : BRow w O k sl b) {b' o : Nat} {vs : List Value} (hap : b' ≠ O ∨ k * 7 + 1 < o ∨ o + vs.length ≤ k * 7 + 1) : BRow (w.setCells b' o vs) O k sl b :=
  ⟨by rw [World.cell?_setCells_out b' vs o w _ (fun hb _ => by
      rcases hap with hap | hap
      · exact absurd hb.symm hap
      · exact hap)]; exact h.cell, World.there_setCells h.txt _ _ _, h.ne, by rw [size_setCells]; exact h.lt⟩
set_option maxHeartbeats 8000000 in
set_option maxRecDepth 100000 in
theorem blotRules_any (O base n : Nat) (f : Nat → Nat × Nat) (w : World) (hb : base ≤ O) (hO : O < w.heap.size) (hrow : ∀ k, k < n → BRow w O k (f k).1 (f k).2 ∧ base ≤ (f k).2 ∧ (f k).1 ≤ 140737488351232) (hth : w.there O 0 (n * 7)) (hn : n ≤ 140737488351232) :
    Calls Tryz.prog 20 #[.slice (some ⟨O, 0, none⟩) n (n + 8)] w fun e w' => e = .returned (.tuple #[]) ∧ EB base [] w w' := by
  have HROW := hide hrow
  have HTH := hide hth
  have HISZ : Hid ((Tryz.prog.info? 118).map (·.size) = some 7) := by show _ = _; kernel_rfl
  have HAL : Hid ((#[.int .i64 2, .slice none 0 0, .string ⟨#[]⟩, .string ⟨#[46, 42]⟩, .string ⟨#[]⟩, .string ⟨#[]⟩, .int .u64 0] : Array Value).all (·.oneCell') = true) := by show Array.all _ _ = true; simp [Value.oneCell']
  clear hrow hth
  go_enter Tryz.func20, Tryz.ntmps20
  go_wp2_with fail
  go_loopg [2] n (fun gk i2 wr => ∃ i : Nat, i + gk = n ∧ i2 = .int .i64 (i : Int) ∧ (∀ k, i ≤ k → k < n → BRow wr O k (f k).1 (f k).2) ∧ wr.there O 0 (n * 7) ∧ O < wr.heap.size ∧ EB base [] w wr)
  case atStart => exact ⟨0, by omega, rfl, fun k _ hk => (HROW.out k hk).1, HTH.out, hO, EB.refl _ _ _⟩
  case round =>
    obtain ⟨i, hi, rfl, hbr, hth, hOl, hx⟩ := hrel
    have HBR := hide hbr
    have HT := hide hth
    have HX := hide hx
    clear hbr hth hx
    cases gk with
    | zero =>
      have hno : ¬ (i : Int) < (n : Int) := by omega
      go_wp2_with fail
      go_end0
      exact ⟨rfl, HX.out⟩
    | succ g =>
      have hin : (i : Int) < (n : Int) := by omega
      have hinn : i < n := by omega
      obtain ⟨sl, hsl⟩ : ∃ x, x = (f i).1 := ⟨_, rfl⟩
      obtain ⟨b, hbb⟩ : ∃ x, x = (f i).2 := ⟨_, rfl⟩
      have hbase : base ≤ b := by rw [hbb]; exact (HROW.out i hinn).2.1
      have hslb : sl ≤ 140737488351232 := by rw [hsl]; exact (HROW.out i hinn).2.2
      have HSL := hide hsl
      have HBB := hide hbb
      clear hsl hbb
      obtain ⟨gi, hgi⟩ : ∃ x, x = g := ⟨_, rfl⟩
      go_wp2_with fail
      go_loopg [3] sl (fun gk k3 wr => ∃ k : Nat, k + gk = sl ∧ k3 = .int .i64 (k : Int) ∧ (∀ k, i ≤ k → k < n → BRow wr O k (f k).1 (f k).2) ∧ wr.there O 0 (n * 7) ∧ O < wr.heap.size ∧ EB base [] w wr)
      case atStart => exact ⟨0, by omega, rfl, HBR.out, HT.out, hOl, HX.out⟩
      case round =>
        obtain ⟨k, hk, rfl, hbr, hth, hOl2, hx⟩ := hrel
        have hbi := hbr i (Nat.le_refl _) hinn
        rw [← HSL.out, ← HBB.out] at hbi
        have q1 := hbi.cell
        have hbl := hbi.lt
        have hne := hbi.ne
        have HTX := hide hbi.txt
        have HBR2 := hide hbr
        have HT2 := hide hth
        have HX2 := hide hx
        clear hbi hbr hth hx
        cases gk with
        | succ g2 =>
          have hkl : (k : Int) < (sl : Int) := by omega
          have hkn : k < sl := by omega
          obtain ⟨hcs, hfz⟩ := HTX.out k hkn
          rw [Nat.zero_add] at hcs hfz
          obtain ⟨cv, hcv⟩ := Option.isSome_iff_exists.1 hcs
          obtain ⟨w4, hw4⟩ : ∃ w4, w4 = wr.setCells b k [.string ⟨#[98, 108, 111, 116]⟩] := ⟨_, rfl⟩
          have HREL : Hid ((∀ k, i ≤ k → k < n → BRow w4 O k (f k).1 (f k).2) ∧ w4.there O 0 (n * 7) ∧ O < w4.heap.size ∧ EB base [] w w4) := by
            rw [hw4]
            exact ⟨fun k' h1 h2 => (HBR2.out k' h1 h2).other (.inl hne), World.there_setCells HT2.out _ _ _, by rw [size_setCells]; exact hOl2, EB.setCells hbase _ _ _ HX2.out⟩
          have HW4 := hide hw4
          clear hcs hw4
          go_wp2_with fail
          rw [show wr.setCell ⟨b, k, none⟩ (.string ⟨#[98, 108, 111, 116]⟩) = w4 from HW4.out.symm]
          go_roundg g2
          case measure => omega
          case rel => exact ⟨k + 1, by omega, by simp, HREL.out.1, HREL.out.2.1, HREL.out.2.2.1, HREL.out.2.2.2⟩
        | zero =>
          have hkl : ¬ (k : Int) < (sl : Int) := by omega
          have HTP := hide (there_part HT2.out (o := i * 7) (m := 7) (by omega))
          obtain ⟨w4, hw4⟩ : ∃ w4, w4 = wr.setCells O (i * 7) [.int .i64 2, .slice none 0 0, .string ⟨#[]⟩, .string ⟨#[46, 42]⟩, .string ⟨#[]⟩, .string ⟨#[]⟩, .int .u64 0] := ⟨_, rfl⟩
          have HREL : Hid ((∀ k, i + 1 ≤ k → k < n → BRow w4 O k (f k).1 (f k).2) ∧ w4.there O 0 (n * 7) ∧ O < w4.heap.size ∧ EB base [] w w4) := by
            rw [hw4]
            exact ⟨fun k' h1 h2 => (HBR2.out k' (by omega) h2).other (.inr (.inr (by show i * 7 + 7 ≤ _; omega))), World.there_setCells HT2.out _ _ _, by rw [size_setCells]; exact hOl2, EB.setCells hb _ _ _ HX2.out⟩
          have HW4 := hide hw4
          clear hw4
          go_upto_region 2 with (refine wpList_store_mid rfl 118 _ _ rfl O (i * 7) #[.int .i64 2, .slice none 0 0, .string ⟨#[]⟩, .string ⟨#[46, 42]⟩, .string ⟨#[]⟩, .string ⟨#[]⟩, .int .u64 0] rfl rfl HTP.out HISZ.out HAL.out ?_)
          rw [← HW4.out]
          clear q1
          go_wp2_with fail
          go_roundg g
          case measure => omega
          case rel => exact ⟨i + 1, by omega, by simp, HREL.out.1, HREL.out.2.1, HREL.out.2.2.1, HREL.out.2.2.2⟩
end Go.Proofs.YtgmjjhmnchefbaaGreatDoor.G

/- A game that begins. -/
namespace Go.Proofs.YtgmjjhmnchefbaaGreatDoor.G
open Go.RowKit

set_option maxHeartbeats 1000000 in
set_option maxRecDepth 100000 in
theorem refBegin_one (w : World) : Calls Tryz.prog 15 #[.int .i64 1] w fun e w' => e = .returned (.pointer (some ⟨w.heap.size, 0, none⟩)) ∧ BK w' w.heap.size (.cells #[.slice none 0 0, .int .i64 1, .slice none 0 0] 116 (0, 0)) ∧ Ex [] w w' := by
  go_enter Tryz.func15, Tryz.ntmps15
  go_wp2_with fail
  go_ret
  exact ⟨rfl, BK.new _ _, (Ex.refl _ _).alloc _⟩
structure GM (R : List Value → List Lab → Bool → Prop) (w : World) (gb e m mb wb base room : Nat) : Prop where
  blk : BK w gb (.cells #[.pointer (some ⟨e, 0, none⟩), .pointer (some ⟨wb, 0, none⟩), .slice none 0 0, .slice none 0 0] 60 (0, 0))
  wld : BK w wb (.cells #[.slice none 0 0, .int .i64 1, .slice none 0 0] 116 (0, 0))
  eng : EN R w e m mb base room (.slice none 0 0) [] (.slice none 0 0) #[] 0
set_option maxHeartbeats 2000000 in
set_option maxRecDepth 100000 in
theorem begin_one (R : List Value → List Lab → Bool → Prop) (w : World) : Calls Tryz.prog 8 #[.int .i64 1] w fun x w' => ∃ gb e m mb wb base room, x = .returned (.pointer (some ⟨gb, 0, none⟩)) ∧ GM R w' gb e m mb wb base room ∧ w.heap.size ≤ e ∧ w.heap.size ≤ m ∧ w.heap.size ≤ mb ∧ w.heap.size ≤ wb ∧ w.heap.size ≤ gb ∧ Ex [] w w' := by
  have KO := hide (open_any R 1 w)
  go_enter Tryz.func8, Tryz.ntmps8
  go_wp2_with fail
  refine KO.out.mono ?_
  rintro x w1 ⟨e, m, mb, rfl, hen, hx1, h1, h2, h3⟩
  have HEN := hide hen
  have HX1 := hide hx1
  clear hen hx1 KO
  go_wp2_with fail
  refine (refBegin_one w1).mono ?_
  rintro x w2 ⟨rfl, hb2, hx2⟩
  have HB2 := hide hb2
  have HX2 := hide hx2
  have hz1 := HX1.out.size
  have hz2 := hx2.size
  clear hb2 hx2
  go_wp2_with fail
  go_ret
  have hx3 : Ex [] w2 (w2.alloc (Obj.cells #[.pointer (some ⟨e, 0, none⟩), .pointer (some ⟨w1.heap.size, 0, none⟩), .slice none 0 0, .slice none 0 0] 60)) := (Ex.refl _ _).alloc _
  have hx13 := HX2.out.trans hx3
  exact ⟨w2.heap.size, e, m, mb, w1.heap.size, _, _, rfl, ⟨BK.new _ _, HB2.out.ex hx3 (by simp), ⟨HEN.out.blk.ex hx13 (by simp), HEN.out.mem.ex hx13 (by simp), HEN.out.lt, HEN.out.nem, HEN.out.nemb⟩⟩, h1, h2, h3, by omega, by omega, HX1.out.trans hx13⟩
end Go.Proofs.YtgmjjhmnchefbaaGreatDoor.G

/- The document's own Load: rules that are not right. -/
namespace Go.Proofs.YtgmjjhmnchefbaaGreatDoor.G
open Go.RowKit

theorem checkR_zero : ∀ (us : List UR) (i : Nat), (checkR i us).1 = 0 → checkR i us = (0, 0, 0)
  | [], i, _ => rfl
  | u :: l, i, h => by
    unfold checkR at h ⊢
    by_cases h0 : u.err.1 ≠ 0
    · rw [if_pos h0] at h
      exact absurd h h0
    · rw [if_neg h0] at h ⊢
      exact checkR_zero l (i + 1) h
theorem loadR_zero {us : List UR} (h : (loadR us).1 = 0) : loadR us = (0, 0, 0) ∧ us.length ≤ 12 := by
  unfold loadR at h ⊢
  by_cases h12 : 12 < us.length
  · rw [if_pos h12] at h; cases h
  · rw [if_neg h12] at h ⊢
    exact ⟨checkR_zero us 0 h, by omega⟩
set_option maxHeartbeats 2000000 in
set_option maxRecDepth 100000 in
theorem refLoad_bad (wb : Nat) (v : Value) (rs : List AR) (us : List UR) (w : World) (hv : AL w v rs) (hlen : us.length = rs.length) (hsay : ∀ (i : Nat) r u, rs[i]? = some r → us[i]? = some u → SaysO w r u) (hfit : ∀ u ∈ us, u.fits2) (h0 : (loadR us).1 ≠ 0) :
    Calls Tryz.prog 18 #[.pointer (some ⟨wb, 0, none⟩), v] w fun y w' => y = .returned (.tuple #[.int .i64 ((loadR us).1 : Int), .int .i64 ((loadR us).2.1 : Int), .int .i64 ((loadR us).2.2 : Int)]) ∧ Ex [] w w' := by
  have KC := hide (checkAll_any v rs us w hv hlen hsay hfit)
  obtain ⟨p, c, rfl⟩ := hv.slice
  obtain ⟨C, hC⟩ : ∃ C, C = loadR us := ⟨_, rfl⟩
  rw [← hC] at KC h0 ⊢
  obtain ⟨C1, C2, C3⟩ := C
  dsimp only at KC h0 ⊢
  have h0i : ((C1 : Int) != 0) = true := by rw [bne_iff_ne]; omega
  clear hv hlen hsay hfit hC
  go_enter Tryz.func18, Tryz.ntmps18
  go_wp2_with fail
  refine KC.out.mono ?_
  rintro y w1 ⟨rfl, hx1⟩
  have HX := hide hx1
  clear hx1 KC
  go_wp2_with fail
  go_ret3
  exact ⟨rfl, HX.out⟩
end Go.Proofs.YtgmjjhmnchefbaaGreatDoor.G
