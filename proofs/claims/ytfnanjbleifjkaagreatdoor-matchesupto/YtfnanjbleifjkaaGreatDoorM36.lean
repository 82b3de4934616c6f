import Derived.Test.YtfnanjbleifjkaaGreatDoorM35
set_option linter.unusedVariables false
set_option linter.unusedSimpArgs false
set_option maxHeartbeats 8000000
set_option maxRecDepth 100000
namespace Go.Proofs.YtfnanjbleifjkaaGreatDoor.G
variable {c : SC} {d : SD} {w : World} {i : Nat}
open Go.RowKit
theorem NX.at (h : SG c d w) {K : List Ti} (hi : d.M[i]? = some K) : NX d.M d.T.length (i : Int) K := .inr ⟨i, rfl, by have h8 := (List.getElem?_eq_some_iff.1 hi).1; have h9 := h.lens.2; omega, hi⟩
theorem NX.sf {d' : SD} {w' : World} {r : Int} {K : List Ti} (h : NX d.M d.T.length r K) (f : SF c d d' w w') (g : SG c d' w') : NX d'.M d'.T.length r K := by
 rcases h with x | ⟨j, e1, e2, e3⟩
 ·exact .inl x
 ·rw [e1]; exact NX.at g (f.mor j _ e3)
theorem jo {o : Oper} {a : Act} {K : Act -> World -> Prop} {Q : Exit -> Act -> World -> Prop} (ho : o.op = .alloc 215) (h : K (a.put o.dst (.pointer (some ⟨w.heap.size, 0, none⟩))) (w.alloc (.cells ig.toArray 215))) : o.wp Tryz.prog a w K Q := by
 obtain ⟨ti, hti, hzz0, hzz1, hzz2⟩ := info_parts pV
 unfold Oper.wp execOp
 simp only [ho, Instr.alloc, newVar, zeroValue, typeInfo, hti, hzz0, Sem.run_bind, Sem.run_pure, Result.andThen_ok]
 exact h
theorem cN (k a b n : Int) (z : Bool) (bs : List Bool) (hb : bs.length = 129) : (aX k a b n z bs).length = 134 := by simp [aX, ah, hb]
theorem bR (k a b n : Int) (z : Bool) (bs : List Bool) : ∀ u ∈ aX k a b n z bs, u.oneCell' = true := fun u hu => by
 unfold aX at hu
 rcases List.mem_append.1 hu with hu | hu
 ·simp only [List.mem_cons, List.not_mem_nil, or_false] at hu
  rcases hu with rfl | rfl | rfl | rfl | rfl <;> rfl
 ·exact ay _ u hu
theorem mY (hk : SK c) {k : Nat} {t : Ti} {K' : List Ti} {y : Nat} {A : Yp} {z : Bool} {E : List Value} (h : SG c d w) (hm : d.M[k]? = some (t :: K')) (hy : t.code.2.1 = (y : Int)) (h1 : io (t :: K') = .rend y A z true :: K') (h2 : gJ (t :: K') = .ex A :: .rend y A z true :: K')
  (he : aJ c.w0 c.rb y E) (hE : E.length = 134) (hEP : ∀ u ∈ E, u.oneCell' = true) (hE1 : E[1]? = some (.int .i64 (A.idx : Int))) (hE4 : E[4]? = some (.bool z)) (W1 : eh c i (.ex A :: .rend y A z true :: K')) (W2 : eh c i K') :
  Calls Tryz.prog 188 #[.pointer (some ⟨c.S, 0, none⟩), .int .i64 (k : Int), .int .i64 (i : Int)] w (bY c d w (bN z (evK c i (.ex A :: .rend y A z true :: K')) (evK c i K'))) := by
 have G1 := aa h1
 have G2 := aa h2
 have V1 := aa W1
 have V2 := aa W2
 have E1 := aa hE1
 have E4 := aa hE4
 clear h1 h2 W1 W2 hE1 hE4
 obtain ⟨s, hs, hso⟩ := h.st hm
 obtain ⟨g, cap, hsv, hkl, hgl, hcell, hfz⟩ := h.at hs
 obtain ⟨t9, K9, e9, hc, hnx⟩ := hso.hd
 cases e9
 obtain ⟨base9, av, ro, gi, nv, na, xs, hr, hav, hyn, hxs⟩ := h.rows hk y E he
 obtain ⟨ga, ca, rfl, _⟩ := bW hav (by omega)
 have hsx : s.x = (y : Int) := by rw [<- hy, hc]
 have a0 : w.cell? ⟨g, k * 8, none⟩ = some (.int .i64 s.kind) := hcell 0 (by omega)
 have a1 : w.cell? ⟨g, k * 8 + 1, none⟩ = some (.int .i64 (y : Int)) := by rw [<- hsx]; exact hcell 1 (by omega)
 have a2 : w.cell? ⟨g, k * 8 + 2, none⟩ = some (.int .i64 s.next) := hcell 2 (by omega)
 have a3 : w.cell? ⟨g, k * 8 + 3, none⟩ = some (.bool s.fresh) := hcell 3 (by omega)
 have hxw : Ex [] w (w.alloc (Obj.cells #[.int .i64 s.kind, .int .i64 (y : Int), .int .i64 s.next, .bool s.fresh] 224)) := (Ex.refl _ _).alloc _
 have hbx : BK (w.alloc (Obj.cells #[.int .i64 s.kind, .int .i64 (y : Int), .int .i64 s.next, .bool s.fresh] 224)) w.heap.size (.cells #[.int .i64 s.kind, .int .i64 (y : Int), .int .i64 s.next, .bool s.fresh] 224 (0, 0)) := BK.new _ _
 obtain ⟨w1, hw1⟩ := exq (w.alloc (Obj.cells #[.int .i64 s.kind, .int .i64 (y : Int), .int .i64 s.next, .bool s.fresh] 224))
 rw [<- hw1] at hxw hbx
 obtain ⟨h1, f1⟩ := h.ex hk hxw
 have hnb := h.new hk (Nat.le_refl w.heap.size)
 obtain ⟨b, hb⟩ := exq (w.heap.size)
 rw [<- hb] at hbx hnb
 obtain ⟨S, hS⟩ := exq (c.S)
 obtain ⟨rb, hrb⟩ := exq (c.rb)
 obtain ⟨m, hmm⟩ := exq (d.T.length)
 have s2 : w.cell? ⟨S, 2, none⟩ = some (.slice (some ⟨g, 0, none⟩) m cap) := by rw [hS, hmm, <- hsv]; exact h.blk.all.1 2
 have hSl : S < w.heap.size := by rw [hS]; exact h.blk.lt
 have hkm : (k : Int) < (m : Int) := by omega
 have x1 : w1.cell? ⟨S, 0, none⟩ = some (.pointer (some ⟨rb, 0, none⟩)) := by rw [hS, hrb]; exact h1.blk.all.1 0
 have hr1 := hr.ex hxw (by simp)
 have x2 : w1.cell? ⟨rb, 0, none⟩ = some (.slice (some ⟨ga, 0, none⟩) na ca) := by rw [hrb]; exact hr1.all.1 0
 have x3 : w1.cell? ⟨b, 1, none⟩ = some (.int .i64 (y : Int)) := hbx.all.1 1
 have hav1 := aE hav hxw (by simp)
 have x4 : w1.rangeAt ga (y * 134) E := fun j v hv => by
  rw [<- hxs, List.getElem?_take] at hv
  by_cases hj : j < 134
  ·rw [if_pos hj, List.getElem?_drop] at hv
   rw [hav1.cellAt (y * 134 + j) (by have : (y + 1) * 134 <= na * 134 := Nat.mul_le_mul_right _ hyn; omega)]
   exact hv
  ·rw [if_neg hj] at hv; cases hv
 have hyna : (y : Int) < (na : Int) := by omega
 have hSl1 : S < w1.heap.size := by rw [hS]; exact h1.blk.lt
 have hrl1 : rb < w1.heap.size := by rw [hrb]; exact hr1.lt
 have hbl1 := hbx.lt
 have hgl1 : ga < w1.heap.size := (hav1.lt ga rfl).2
 obtain ⟨kd, hkd⟩ := exq (s.kind)
 obtain ⟨nx, hnx9⟩ := exq (s.next)
 obtain ⟨fr, hfr⟩ := exq (s.fresh)
 rw [<- hkd] at a0 hw1 hbx
 rw [<- hnx9] at a2 hw1 hbx hnx
 rw [<- hfr] at a3 hw1 hbx
 have HKD := aa (And.intro hc (And.intro hkd hfr))
 have HNX : Hid (NX d.M d.T.length nx K') := hnx.more (fun _ _ h => h) (by omega)
 have HI : Hid ((Tryz.prog.info? 215).map (·.size) = some E.length) := by show _ = _; rw [hE]; kernel_rfl
 have HI' : Hid ((Tryz.prog.info? 215).map (·.size) = some E.toArray.size) := by show _ = _; rw [List.size_toArray]; exact HI.O
 have HOLD : Hid (ig.toArray.size = E.toArray.size) := by show _ = _; rw [List.size_toArray, List.size_toArray, hE]; rfl
 have HAL := aa (al hEP)
 have HM := aa hm
 have HK := aa hk
 have H := aa h
 have H1 := aa h1
 have F1 := aa f1
 have HB := aa hbx
 have HNB := aa hnb
 have HW1 := aa hw1
 have HBE := aa hb
 have HS := aa hS
 rw [<- hS]
 clear hs hso hsv hkl hcell hfz hnx hr hav hyn hxs hxw hbx h1 f1 hnb hw1 hb hS hrb hmm hr1 hav1 hkd hnx9 hfr h hm hc he hE hEP hy hsx hk
 go_enter Tryz.func188, Tryz.ntmps188
 go_upto_region 2 with fail
 rw [<- HW1.O, <- HBE.O]
 clear s2 hSl a0 a1 a2 a3 hkm
 refine aO (by kernel_rfl) ?_
 refine tk (i := 0) (v := ?_) rfl ?_ ?_
 rotate_left
 ·intro w'
  go_simp
  try with_reducible rfl
 simp only [Act.put, List.replicate, Array.replicate, lx]
 refine tk (i := 1) (v := ?_) rfl ?_ ?_
 rotate_left
 ·intro w'
  go_simp
  try with_reducible rfl
 simp only [Act.put, List.replicate, Array.replicate, lx]
 refine tk (i := 2) (v := ?_) rfl ?_ ?_
 rotate_left
 ·intro w'
  go_simp
  try with_reducible rfl
 simp only [Act.put, List.replicate, Array.replicate, lx]
 refine tk (i := 7) (v := ?_) rfl ?_ ?_
 rotate_left
 ·intro w'
  go_simp
  try with_reducible rfl
 simp only [Act.put, List.replicate, Array.replicate, lx]
 refine aU (S := (fun oi w' => oi < 12 -> w'.cell? ⟨S, 0, none⟩ = some (.pointer (some ⟨rb, 0, none⟩)) /\ w'.cell? ⟨rb, 0, none⟩ = some (.slice (some ⟨ga, 0, none⟩) na ca) /\ w'.cell? ⟨b, 1, none⟩ = some (.int .i64 (y : Int)) /\ w'.rangeAt ga (y * 134) E)) _ _ _ _ ?_
 refine tkJ (i := 3) (v := ?_) rfl ⟨x1, x2, x3, x4⟩ ?_ ?_
 rotate_left
 ·intro w' hSw
  obtain ⟨f1, f2, f3, f4⟩ := hSw
  go_simp
  try with_reducible rfl
 simp only [Act.put, List.replicate, Array.replicate, lx]
 refine tkJ (i := 4) (v := ?_) rfl ⟨x1, x2, x3, x4⟩ ?_ ?_
 rotate_left
 ·intro w' hSw
  obtain ⟨f1, f2, f3, f4⟩ := hSw
  go_simp
  try with_reducible rfl
 simp only [Act.put, List.replicate, Array.replicate, lx]
 refine tkJ (i := 5) (v := ?_) rfl ⟨x1, x2, x3, x4⟩ ?_ ?_
 rotate_left
 ·intro w' hSw
  obtain ⟨f1, f2, f3, f4⟩ := hSw
  go_simp
  try with_reducible rfl
 simp only [Act.put, List.replicate, Array.replicate, lx]
 refine tkJ (i := 6) (v := ?_) rfl ⟨x1, x2, x3, x4⟩ ?_ ?_
 rotate_left
 ·intro w' hSw
  obtain ⟨f1, f2, f3, f4⟩ := hSw
  go_simp
  try with_reducible rfl
 simp only [Act.put, List.replicate, Array.replicate, lx]
 refine tkJ (i := 8) (v := ?_) rfl ⟨x1, x2, x3, x4⟩ ?_ ?_
 rotate_left
 ·intro w' hSw
  obtain ⟨f1, f2, f3, f4⟩ := hSw
  go_simp
  try with_reducible rfl
 simp only [Act.put, List.replicate, Array.replicate, lx]
 refine tkJ (i := 9) (v := ?_) rfl ⟨x1, x2, x3, x4⟩ ?_ ?_
 rotate_left
 ·intro w' hSw
  obtain ⟨f1, f2, f3, f4⟩ := hSw
  go_simp
  try with_reducible rfl
 simp only [Act.put, List.replicate, Array.replicate, lx]
 refine tkR (i := 10) rfl ⟨x1, x2, x3, x4⟩ (yieldsIf_load_mid (by rfl) _ _ rfl _ _ rfl E _ (fun w' h => h.2.2.2) Tryz.underlying215 rfl HI.O) ?_
 simp only [Act.put, List.replicate, Array.replicate, lx]
 refine ae (i := 11) rfl rfl (by kernel_rfl) (fun K hK => ?_)
 refine jo rfl ?_
 have X4 : Hid (Ex [] w1 (w1.drew.alloc (.cells ig.toArray 215))) := ((Ex.refl _ _).drew).alloc _
 refine hK.O _ _ (fun _ => ⟨(X4.O.cell0.1 _ _ hSl1).trans x1, (X4.O.cell0.1 _ _ hrl1).trans x2, (X4.O.cell0.1 _ _ hbl1).trans x3, fun j v hv => (X4.O.cell0.1 _ _ hgl1).trans (x4 j v hv)⟩) ?_
 clear hK K
 simp only [Act.put, List.replicate, Array.replicate, lx]
 refine ae (i := 12) rfl rfl (by kernel_rfl) (fun K hK => ?_)
 refine wp_store_row 215 _ _ rfl w1.heap.size E.toArray rfl rfl 215 _ (heap_alloc_new _ _) HI'.O HOLD.O HAL.O ?_
 refine hK.O _ _ (fun h => by omega) ?_
 clear hK K
 refine aP (by kernel_rfl) ?_ _
 generalize hw2 : World.setRow _ _ _ = w2
 have hx12 : Ex [] w1 w2 := by rw [<- hw2]; exact (((Ex.refl _ _).drew).alloc _).setRow (.inr (Nat.le_refl _)) _
 have he2 : BK w2 w1.heap.size (.cells E.toArray 215 (0, 0)) := by rw [<- hw2]; exact setRow_heap _ _ _ _ _ _ (heap_alloc_new _ _)
 obtain ⟨b2, hb2⟩ := exq (w1.heap.size)
 rw [show w1.drew.heap.size = w1.heap.size from rfl, <- hb2]
 rw [<- hb2] at he2
 obtain ⟨h2, f12⟩ := H1.O.ex HK.O hx12
 have HT2 := aa (BK.ex HB.O hx12 (by simp))
 have HE2 := aa he2
 have HNE : Hid (¬ Mg c d b2) := H1.O.new HK.O (by omega)
 have H2 := aa h2
 have F2 := aa (F1.O.trans f12)
 have hbl2 := HT2.O.lt
 have hel2 := HE2.O.lt
 clear hw2 hx12 he2 hb2 h2 f12 x1 x2 x3 x4 hSl1 hrl1 hbl1 hgl1
 have K1 := aa (eG HK.O H2.O HM.O _ _ G1.O nx HNX.O (-2) (y : Int) true rfl)
 rw [<- HS.O] at K1
 have q1 : w2.cell? ⟨b, 1, none⟩ = some (.int .i64 (y : Int)) := HT2.O.all.1 1
 have q2 : w2.cell? ⟨b, 2, none⟩ = some (.int .i64 nx) := HT2.O.all.1 2
 go_wp2_with fail
 refine K1.O.mono ?_
 rintro e w3 ⟨i3, d3, rfl, h3, f3, hi3, hsp3, hop3⟩
 clear K1 q1 q2
 have ht3 := BK.sf HT2.O f3 HNB.O
 have he3 := BK.sf HE2.O f3 HNE.O
 have HNB3 : Hid (¬ Mg c d3 b) := fun hm => HNB.O (f3.mg b hbl2 hm)
 have HNE3 : Hid (¬ Mg c d3 b2) := fun hm => HNE.O (f3.mg b2 hel2 hm)
 have K2 := aa (eV HK.O h3 (f3.mor _ _ HM.O) _ _ G2.O i3 (NX.at h3 hi3) 0 (A.idx : Int) false rfl)
 rw [<- HS.O] at K2
 have q1 : w3.cell? ⟨b2, 1, none⟩ = some (.int .i64 (A.idx : Int)) := by rw [he3.all.1 1, List.getElem?_toArray]; exact E1.O
 have HNX3 := aa (NX.sf HNX.O f3 h3)
 have F3 := aa (F2.O.trans f3)
 have HT3 := aa ht3
 have HE3 := aa he3
 have HSP3 := aa (And.intro hsp3 hop3)
 have hbl3 := ht3.lt
 have hel3 := he3.lt
 clear ht3 he3 h3 f3 hi3 hsp3 hop3
 go_wp2_with fail
 refine K2.O.mono ?_
 rintro e w4 ⟨i4, d4, rfl, h4, f4, hi4, hsp4, hop4⟩
 clear K2 q1
 have ht4 := BK.sf HT3.O f4 HNB3.O
 have he4 := BK.sf HE3.O f4 HNE3.O
 have q2 : w4.cell? ⟨b, 2, none⟩ = some (.int .i64 nx) := ht4.all.1 2
 have q4 : w4.cell? ⟨b2, 4, none⟩ = some (.bool z) := by rw [he4.all.1 4, List.getElem?_toArray]; exact E4.O
 have KE := aa ((jO V1.O V2.O z h4 (NX.at h4 hi4) (NX.sf HNX3.O f4 h4)).mono (fun e w5 h5 => bY.of h5 (F3.O.trans f4) (hsp4.trans HSP3.O.1) (hop4.trans HSP3.O.2)))
 rw [<- HS.O] at KE
 have hbl4 := ht4.lt
 have hel4 := he4.lt
 clear ht4 he4 h4 f4 hi4 hsp4 hop4
 go_wp2_with fail
 refine KE.O.mono ?_
 rintro e w5 h5
 obtain ⟨d5, rfl, g5, f5, a5⟩ := h5
 have H5 : Hid (bY c d w (bN z (evK c i (.ex A :: .rend y A z true :: K')) (evK c i K')) (.returned (.bool (bN z (evK c i (.ex A :: .rend y A z true :: K')) (evK c i K')).isSome)) w5) := ⟨d5, rfl, g5, f5, a5⟩
 clear g5 f5 a5 KE
 go_wp2_with fail
 go_ret
 exact H5.O
theorem tQ (hk : SK c) {k : Nat} {t : Ti} {K' : List Ti} {y : Nat} {A : Yp} {z : Bool} {E : List Value} (h : SG c d w) (hm : d.M[k]? = some (t :: K')) (hy : t.code.2.1 = (y : Int)) (h1 : io (t :: K') = .ex A :: K')
  (he : aJ c.w0 c.rb y E) (hE : E.length = 134) (hEP : ∀ u ∈ E, u.oneCell' = true) (hE1 : E[1]? = some (.int .i64 (A.idx : Int))) (hE4 : E[4]? = some (.bool z)) (W1 : eh c i (.ex A :: K')) (W2 : eh c i K') :
  Calls Tryz.prog 193 #[.pointer (some ⟨c.S, 0, none⟩), .int .i64 (k : Int), .int .i64 (i : Int)] w (bY c d w (bN z (evK c i (.ex A :: K')) (evK c i K'))) := by
 have G1 := aa h1
 have V1 := aa W1
 have V2 := aa W2
 have E1 := aa hE1
 have E4 := aa hE4
 clear h1 W1 W2 hE1 hE4
 obtain ⟨s, hs, hso⟩ := h.st hm
 obtain ⟨g, cap, hsv, hkl, hgl, hcell, hfz⟩ := h.at hs
 obtain ⟨t9, K9, e9, hc, hnx⟩ := hso.hd
 cases e9
 obtain ⟨base9, av, ro, gi, nv, na, xs, hr, hav, hyn, hxs⟩ := h.rows hk y E he
 obtain ⟨ga, ca, rfl, _⟩ := bW hav (by omega)
 have hsx : s.x = (y : Int) := by rw [<- hy, hc]
 have a0 : w.cell? ⟨g, k * 8, none⟩ = some (.int .i64 s.kind) := hcell 0 (by omega)
 have a1 : w.cell? ⟨g, k * 8 + 1, none⟩ = some (.int .i64 (y : Int)) := by rw [<- hsx]; exact hcell 1 (by omega)
 have a2 : w.cell? ⟨g, k * 8 + 2, none⟩ = some (.int .i64 s.next) := hcell 2 (by omega)
 have a3 : w.cell? ⟨g, k * 8 + 3, none⟩ = some (.bool s.fresh) := hcell 3 (by omega)
 have hxw : Ex [] w (w.alloc (Obj.cells #[.int .i64 s.kind, .int .i64 (y : Int), .int .i64 s.next, .bool s.fresh] 224)) := (Ex.refl _ _).alloc _
 have hbx : BK (w.alloc (Obj.cells #[.int .i64 s.kind, .int .i64 (y : Int), .int .i64 s.next, .bool s.fresh] 224)) w.heap.size (.cells #[.int .i64 s.kind, .int .i64 (y : Int), .int .i64 s.next, .bool s.fresh] 224 (0, 0)) := BK.new _ _
 obtain ⟨w1, hw1⟩ := exq (w.alloc (Obj.cells #[.int .i64 s.kind, .int .i64 (y : Int), .int .i64 s.next, .bool s.fresh] 224))
 rw [<- hw1] at hxw hbx
 obtain ⟨h1, f1⟩ := h.ex hk hxw
 have hnb := h.new hk (Nat.le_refl w.heap.size)
 obtain ⟨b, hb⟩ := exq (w.heap.size)
 rw [<- hb] at hbx hnb
 obtain ⟨S, hS⟩ := exq (c.S)
 obtain ⟨rb, hrb⟩ := exq (c.rb)
 obtain ⟨m, hmm⟩ := exq (d.T.length)
 have s2 : w.cell? ⟨S, 2, none⟩ = some (.slice (some ⟨g, 0, none⟩) m cap) := by rw [hS, hmm, <- hsv]; exact h.blk.all.1 2
 have hSl : S < w.heap.size := by rw [hS]; exact h.blk.lt
 have hkm : (k : Int) < (m : Int) := by omega
 have x1 : w1.cell? ⟨S, 0, none⟩ = some (.pointer (some ⟨rb, 0, none⟩)) := by rw [hS, hrb]; exact h1.blk.all.1 0
 have hr1 := hr.ex hxw (by simp)
 have x2 : w1.cell? ⟨rb, 0, none⟩ = some (.slice (some ⟨ga, 0, none⟩) na ca) := by rw [hrb]; exact hr1.all.1 0
 have x3 : w1.cell? ⟨b, 1, none⟩ = some (.int .i64 (y : Int)) := hbx.all.1 1
 have hav1 := aE hav hxw (by simp)
 have x4 : w1.rangeAt ga (y * 134) E := fun j v hv => by
  rw [<- hxs, List.getElem?_take] at hv
  by_cases hj : j < 134
  ·rw [if_pos hj, List.getElem?_drop] at hv
   rw [hav1.cellAt (y * 134 + j) (by have : (y + 1) * 134 <= na * 134 := Nat.mul_le_mul_right _ hyn; omega)]
   exact hv
  ·rw [if_neg hj] at hv; cases hv
 have hyna : (y : Int) < (na : Int) := by omega
 have hSl1 : S < w1.heap.size := by rw [hS]; exact h1.blk.lt
 have hrl1 : rb < w1.heap.size := by rw [hrb]; exact hr1.lt
 have hbl1 := hbx.lt
 have hgl1 : ga < w1.heap.size := (hav1.lt ga rfl).2
 obtain ⟨kd, hkd⟩ := exq (s.kind)
 obtain ⟨nx, hnx9⟩ := exq (s.next)
 obtain ⟨fr, hfr⟩ := exq (s.fresh)
 rw [<- hkd] at a0 hw1 hbx
 rw [<- hnx9] at a2 hw1 hbx hnx
 rw [<- hfr] at a3 hw1 hbx
 have HKD := aa (And.intro hc (And.intro hkd hfr))
 have HNX : Hid (NX d.M d.T.length nx K') := hnx.more (fun _ _ h => h) (by omega)
 have HI : Hid ((Tryz.prog.info? 215).map (·.size) = some E.length) := by show _ = _; rw [hE]; kernel_rfl
 have HI' : Hid ((Tryz.prog.info? 215).map (·.size) = some E.toArray.size) := by show _ = _; rw [List.size_toArray]; exact HI.O
 have HOLD : Hid (ig.toArray.size = E.toArray.size) := by show _ = _; rw [List.size_toArray, List.size_toArray, hE]; rfl
 have HAL := aa (al hEP)
 have HM := aa hm
 have HK := aa hk
 have H := aa h
 have H1 := aa h1
 have F1 := aa f1
 have HB := aa hbx
 have HNB := aa hnb
 have HW1 := aa hw1
 have HBE := aa hb
 have HS := aa hS
 rw [<- hS]
 clear hs hso hsv hkl hcell hfz hnx hr hav hyn hxs hxw hbx h1 f1 hnb hw1 hb hS hrb hmm hr1 hav1 hkd hnx9 hfr h hm hc he hE hEP hy hsx hk
 go_enter Tryz.func193, Tryz.ntmps193
 go_upto_region 2 with fail
 rw [<- HW1.O, <- HBE.O]
 clear s2 hSl a0 a1 a2 a3 hkm
 refine aO (by kernel_rfl) ?_
 refine tk (i := 0) (v := ?_) rfl ?_ ?_
 rotate_left
 ·intro w'
  go_simp
  try with_reducible rfl
 simp only [Act.put, List.replicate, Array.replicate, lx]
 refine tk (i := 1) (v := ?_) rfl ?_ ?_
 rotate_left
 ·intro w'
  go_simp
  try with_reducible rfl
 simp only [Act.put, List.replicate, Array.replicate, lx]
 refine tk (i := 2) (v := ?_) rfl ?_ ?_
 rotate_left
 ·intro w'
  go_simp
  try with_reducible rfl
 simp only [Act.put, List.replicate, Array.replicate, lx]
 refine tk (i := 7) (v := ?_) rfl ?_ ?_
 rotate_left
 ·intro w'
  go_simp
  try with_reducible rfl
 simp only [Act.put, List.replicate, Array.replicate, lx]
 refine aU (S := (fun oi w' => oi < 12 -> w'.cell? ⟨S, 0, none⟩ = some (.pointer (some ⟨rb, 0, none⟩)) /\ w'.cell? ⟨rb, 0, none⟩ = some (.slice (some ⟨ga, 0, none⟩) na ca) /\ w'.cell? ⟨b, 1, none⟩ = some (.int .i64 (y : Int)) /\ w'.rangeAt ga (y * 134) E)) _ _ _ _ ?_
 refine tkJ (i := 3) (v := ?_) rfl ⟨x1, x2, x3, x4⟩ ?_ ?_
 rotate_left
 ·intro w' hSw
  obtain ⟨f1, f2, f3, f4⟩ := hSw
  go_simp
  try with_reducible rfl
 simp only [Act.put, List.replicate, Array.replicate, lx]
 refine tkJ (i := 4) (v := ?_) rfl ⟨x1, x2, x3, x4⟩ ?_ ?_
 rotate_left
 ·intro w' hSw
  obtain ⟨f1, f2, f3, f4⟩ := hSw
  go_simp
  try with_reducible rfl
 simp only [Act.put, List.replicate, Array.replicate, lx]
 refine tkJ (i := 5) (v := ?_) rfl ⟨x1, x2, x3, x4⟩ ?_ ?_
 rotate_left
 ·intro w' hSw
  obtain ⟨f1, f2, f3, f4⟩ := hSw
  go_simp
  try with_reducible rfl
 simp only [Act.put, List.replicate, Array.replicate, lx]
 refine tkJ (i := 6) (v := ?_) rfl ⟨x1, x2, x3, x4⟩ ?_ ?_
 rotate_left
 ·intro w' hSw
  obtain ⟨f1, f2, f3, f4⟩ := hSw
  go_simp
  try with_reducible rfl
 simp only [Act.put, List.replicate, Array.replicate, lx]
 refine tkJ (i := 8) (v := ?_) rfl ⟨x1, x2, x3, x4⟩ ?_ ?_
 rotate_left
 ·intro w' hSw
  obtain ⟨f1, f2, f3, f4⟩ := hSw
  go_simp
  try with_reducible rfl
 simp only [Act.put, List.replicate, Array.replicate, lx]
 refine tkJ (i := 9) (v := ?_) rfl ⟨x1, x2, x3, x4⟩ ?_ ?_
 rotate_left
 ·intro w' hSw
  obtain ⟨f1, f2, f3, f4⟩ := hSw
  go_simp
  try with_reducible rfl
 simp only [Act.put, List.replicate, Array.replicate, lx]
 refine tkR (i := 10) rfl ⟨x1, x2, x3, x4⟩ (yieldsIf_load_mid (by rfl) _ _ rfl _ _ rfl E _ (fun w' h => h.2.2.2) Tryz.underlying215 rfl HI.O) ?_
 simp only [Act.put, List.replicate, Array.replicate, lx]
 refine ae (i := 11) rfl rfl (by kernel_rfl) (fun K hK => ?_)
 refine jo rfl ?_
 have X4 : Hid (Ex [] w1 (w1.drew.alloc (.cells ig.toArray 215))) := ((Ex.refl _ _).drew).alloc _
 refine hK.O _ _ (fun _ => ⟨(X4.O.cell0.1 _ _ hSl1).trans x1, (X4.O.cell0.1 _ _ hrl1).trans x2, (X4.O.cell0.1 _ _ hbl1).trans x3, fun j v hv => (X4.O.cell0.1 _ _ hgl1).trans (x4 j v hv)⟩) ?_
 clear hK K
 simp only [Act.put, List.replicate, Array.replicate, lx]
 refine ae (i := 12) rfl rfl (by kernel_rfl) (fun K hK => ?_)
 refine wp_store_row 215 _ _ rfl w1.heap.size E.toArray rfl rfl 215 _ (heap_alloc_new _ _) HI'.O HOLD.O HAL.O ?_
 refine hK.O _ _ (fun h => by omega) ?_
 clear hK K
 refine aP (by kernel_rfl) ?_ _
 generalize hw2 : World.setRow _ _ _ = w2
 have hx12 : Ex [] w1 w2 := by rw [<- hw2]; exact (((Ex.refl _ _).drew).alloc _).setRow (.inr (Nat.le_refl _)) _
 have he2 : BK w2 w1.heap.size (.cells E.toArray 215 (0, 0)) := by rw [<- hw2]; exact setRow_heap _ _ _ _ _ _ (heap_alloc_new _ _)
 obtain ⟨b2, hb2⟩ := exq (w1.heap.size)
 rw [show w1.drew.heap.size = w1.heap.size from rfl, <- hb2]
 rw [<- hb2] at he2
 obtain ⟨h2, f12⟩ := H1.O.ex HK.O hx12
 have HT2 := aa (BK.ex HB.O hx12 (by simp))
 have HE2 := aa he2
 have HNE : Hid (¬ Mg c d b2) := H1.O.new HK.O (by omega)
 have H2 := aa h2
 have F2 := aa (F1.O.trans f12)
 have hbl2 := HT2.O.lt
 have hel2 := HE2.O.lt
 clear hw2 hx12 he2 hb2 h2 f12 x1 x2 x3 x4 hSl1 hrl1 hbl1 hgl1
 have K1 := aa (eG HK.O H2.O HM.O _ _ G1.O nx HNX.O 0 (A.idx : Int) false rfl)
 rw [<- HS.O] at K1
 have q1 : w2.cell? ⟨b2, 1, none⟩ = some (.int .i64 (A.idx : Int)) := by rw [HE2.O.all.1 1, List.getElem?_toArray]; exact E1.O
 have q2 : w2.cell? ⟨b, 2, none⟩ = some (.int .i64 nx) := HT2.O.all.1 2
 go_wp2_with fail
 refine K1.O.mono ?_
 rintro e w4 ⟨i4, d4, rfl, h4, f4, hi4, hsp4, hop4⟩
 clear K1 q1 q2
 have ht4 := BK.sf HT2.O f4 HNB.O
 have he4 := BK.sf HE2.O f4 HNE.O
 have q2 : w4.cell? ⟨b, 2, none⟩ = some (.int .i64 nx) := ht4.all.1 2
 have q4 : w4.cell? ⟨b2, 4, none⟩ = some (.bool z) := by rw [he4.all.1 4, List.getElem?_toArray]; exact E4.O
 have KE := aa ((jO V1.O V2.O z h4 (NX.at h4 hi4) (NX.sf HNX.O f4 h4)).mono (fun e w5 h5 => bY.of h5 (F2.O.trans f4) hsp4 hop4))
 rw [<- HS.O] at KE
 have hbl4 := ht4.lt
 have hel4 := he4.lt
 clear ht4 he4 h4 f4 hi4 hsp4 hop4
 go_wp2_with fail
 refine KE.O.mono ?_
 rintro e w5 h5
 obtain ⟨d5, rfl, g5, f5, a5⟩ := h5
 have H5 : Hid (bY c d w (bN z (evK c i (.ex A :: K')) (evK c i K')) (.returned (.bool (bN z (evK c i (.ex A :: K')) (evK c i K')).isSome)) w5) := ⟨d5, rfl, g5, f5, a5⟩
 clear g5 f5 a5 KE
 go_wp2_with fail
 go_ret
 exact H5.O
end Go.Proofs.YtfnanjbleifjkaaGreatDoor.G
