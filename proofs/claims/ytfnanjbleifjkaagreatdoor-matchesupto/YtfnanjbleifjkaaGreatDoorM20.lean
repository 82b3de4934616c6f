import Derived.Deep.DeepCutAuto
import Derived.Test.YtfnanjbleifjkaaGreatDoorM05
set_option linter.unusedVariables false
set_option linter.unusedSimpArgs false
set_option maxHeartbeats 4000000
set_option maxRecDepth 100000
namespace Go.Proofs.YtfnanjbleifjkaaGreatDoor.G
variable {E xs : List Value} {bs : List Bool} {w w' : World} {b base n p r y : Nat} {t : ByteArray} {s : RS} {bad : Bool} {hv : Int}
open Go.RowKit
def sB (bs : List Bool) : List Value := bs.map Value.bool
theorem ah (bs : List Bool) : (sB bs).length = bs.length := by simp [sB]
theorem ay (bs : List Bool) : ∀ u ∈ sB bs, u.oneCell' = true := fun u hu => by
 simp only [sB, List.mem_map] at hu
 obtain ⟨b, _, rfl⟩ := hu
 rfl
theorem yc (bs : List Bool) (j : Nat) : (sB bs)[j]? = (bs[j]?).map Value.bool := by simp [sB]
theorem xL (bs : List Bool) (j : Nat) (b : Bool) : (sB bs).set j (.bool b) = sB (bs.set j b) := by simp [sB, List.map_set]
def noB : List Bool := List.replicate 129 false
theorem al (h : ∀ u ∈ xs, u.oneCell' = true) : xs.toArray.all (·.oneCell') = true := by
 rw [List.all_toArray, List.all_eq_true]
 exact h
theorem aC (h : bs.length = 129) : (Tryz.prog.info? 213).map (·.size) = some (sB bs).length := by rw [ah, h]; kernel_rfl
theorem aA (h : bs.length = 129) : (Tryz.prog.info? 213).map (·.size) = some (sB bs).toArray.size := by rw [List.size_toArray]; exact aC h
def SB (w : World) (b : Nat) (bs : List Bool) : Prop := BK w b (.cells (sB bs).toArray 213 (0, 0)) /\ bs.length = 129
theorem SB.ex {l : List Nat} (h : SB w b bs) (hx : Ex l w w') (hn : b ∉ l) : SB w' b bs := ⟨h.1.ex hx hn, h.2⟩
theorem SB.cell (h : SB w b bs) (j : Nat) (hj : j < 129) : ∃ x, bs[j]? = some x /\ w.cell? ⟨b, j, none⟩ = some (.bool x) := by
 refine ⟨_, List.getElem?_eq_getElem (by rw [h.2]; exact hj), ?_⟩
 rw [h.1.all.1 j, List.getElem?_toArray, yc, List.getElem?_eq_getElem (by rw [h.2]; exact hj)]
 rfl
theorem SB.set (h : SB w b bs) (j : Nat) (x : Bool) : SB (w.setCell ⟨b, j, none⟩ (.bool x)) b (bs.set j x) := ⟨by rw [<- xL]; exact h.1.selfL j _, by rw [List.length_set]; exact h.2⟩
theorem SB.new (w : World) (bs : List Bool) (h : bs.length = 129) : SB (w.alloc (Obj.cells (sB bs).toArray 213)) w.heap.size bs := ⟨BK.new _ _, h⟩
theorem SB.store (h : SB w b bs) {cs : List Bool} (hc : cs.length = 129) : SB (w.setRow b (sB cs).toArray) b cs := ⟨setRow_heap _ _ _ _ _ _ h.1, hc⟩
theorem SB.load (h : SB w b bs) : (loadVar 213 ⟨b, 0, none⟩).run Tryz.prog w = .ok (.agg (sB bs).toArray) w := run_loadVar_mid w _ 0 _ (sB bs) _ h.1.rangeL Tryz.underlying213 rfl (aC h.2)
def gZ (bs : List Bool) (j : Nat) : List Bool := (bs.take j).map (!·) ++ bs.drop j
theorem kQ (bs : List Bool) (j : Nat) (x : Bool) (h : (gZ bs j)[j]? = some x) (hj : j < bs.length) : (gZ bs j).set j (!x) = gZ bs (j + 1) := by
 have hl : ((bs.take j).map (!·)).length = j := by simp; omega
 unfold gZ at h ⊢
 rw [List.getElem?_append_right (by omega), hl, Nat.sub_self, List.getElem?_drop, Nat.add_zero] at h
 rw [List.set_append_right _ _ (by omega), hl, Nat.sub_self, List.drop_eq_getElem_cons hj, List.set_cons_zero, List.take_add_one, List.getElem?_eq_getElem hj]
 rw [List.getElem?_eq_getElem hj] at h
 rw [Option.some.inj h]
 simp
theorem sN (bs : List Bool) (h : bs.length = 129) (x : Bool) (hx : (gZ bs 128)[128]? = some x) : (gZ bs 128).set 128 (!x) = bs.map (!·) := by
 rw [kQ bs 128 x hx (by omega)]
 unfold gZ
 rw [List.take_of_length_le (by omega), List.drop_eq_nil_of_le (by omega), List.append_nil]
theorem dp (bs : List Bool) (w : World) (hb : bs.length = 129) :
  Calls Tryz.prog 248 #[.agg (sB bs).toArray] w fun e w' => e = .returned (.agg (sB (bs.map (!·))).toArray) /\ Ex [] w w' := by
 obtain ⟨S, hS⟩ := exq (sB bs)
 have hw1 : SB (w.alloc (Obj.cells S.toArray 213)) w.heap.size bs := by rw [hS]; exact SB.new w bs hb
 rw [<- hS]
 have HW1 := aa hw1
 clear hw1 hS
 go_enter Tryz.func248, Tryz.ntmps248
 go_wp2_with fail
 generalize hw2 : World.alloc _ _ = w2
 have hs2 : SB w2 w.heap.size bs := by rw [<- hw2]; exact HW1.O.ex ((Ex.refl [] _).alloc _) (by simp)
 have hr2 : SB w2 (w.heap.size + 1) noB := by
  have h9 : BK w2 (w.alloc (Obj.cells S.toArray 213)).heap.size (.cells (sB noB).toArray 213 (0, 0)) := by rw [<- hw2]; exact BK.new _ _
  rw [World.size_alloc] at h9
  exact ⟨h9, rfl⟩
 have hx2 : Ex [] w w2 := by rw [<- hw2]; exact ((Ex.refl _ _).alloc _).alloc _
 have HS2 := aa hs2
 have HR2 := aa hr2
 have HX2 := aa hx2
 clear hw2 hs2 hr2 hx2
 go_loopg [3] 128 (fun gk i wr => ∃ j : Nat, j + gk = 128 /\ i = .int .i64 j /\ SB wr w.heap.size (gZ bs j) /\ SB wr (w.heap.size + 1) noB /\ Ex [] w wr)
 case atStart => exact ⟨0, by omega, rfl, by simpa [gZ] using HS2.O, HR2.O, HX2.O⟩
 case round =>
  obtain ⟨j, hj, rfl, hs, hr, hx⟩ := hrel
  have HS := aa hs
  have HR := aa hr
  have HX := aa hx
  have hlt := hs.1.lt
  have hlt2 := hr.1.lt
  have hfz := hs.1.all.2
  cases gk with
  |zero =>
   obtain rfl : j = 128 := by omega
   obtain ⟨x, hx1, hc⟩ := hs.cell 128 (by omega)
   have hend := sN bs hb x hx1
   have hs3 : SB (wr.setCell ⟨w.heap.size, 128, none⟩ (.bool (!x))) w.heap.size (bs.map (!·)) := by rw [<- hend]; exact hs.set 128 _
   have hr3 : SB (wr.setCell ⟨w.heap.size, 128, none⟩ (.bool (!x))) (w.heap.size + 1) noB := ⟨hr.1.set (by simp) _, hr.2⟩
   have hx3 : Ex [] w (wr.setCell ⟨w.heap.size, 128, none⟩ (.bool (!x))) := hx.setCell (.inr (by simp)) _
   obtain ⟨w3, hw3⟩ := exq (wr.setCell ⟨w.heap.size, 128, none⟩ (.bool (!x)))
   rw [<- hw3] at hs3 hr3 hx3
   have HW3 := aa hw3
   have HS3 := aa hs3
   have HR3 := aa hr3
   have HX3 := aa hx3
   have hb2 : (bs.map (!·)).length = 129 := by simp [hb]
   clear hs hr hx hx1 hend hs3 hr3 hx3 hw3 hj
   obtain ⟨T, hT⟩ := exq (sB (bs.map (!·)))
   have HI : Hid ((Tryz.prog.info? 213).map (·.size) = some T.length) := by rw [hT]; exact aC hb2
   have HI2 : Hid ((Tryz.prog.info? 213).map (·.size) = some T.toArray.size) := by rw [hT]; exact aA hb2
   have HAL : Hid (T.toArray.all (·.oneCell') = true) := by rw [hT]; exact al (ay _)
   have HT := aa hT
   have HRG : Hid (World.rangeAt w3 (w.heap.size) 0 T) := by rw [hT]; exact HS3.O.1.rangeL
   have HOLD : Hid ((sB noB).toArray.size = T.toArray.size) := by show _ = _; rw [List.size_toArray, List.size_toArray, hT, ah, ah, hb2, HR3.O.2]
   clear hT
   go_wp2_with (first
    |(rw [<- HW3.O]; refine wpList_load_mid rfl 213 _ rfl (w.heap.size) 0 rfl T _ HRG.O Tryz.underlying213 rfl HI.O ?_)
    |(refine wpList_store_row rfl 213 _ _ rfl (w.heap.size + 1) T.toArray rfl rfl 213 _ HR3.O.1 HI2.O HOLD.O HAL.O ?_))
   have hs4 : SB (w3.setRow (w.heap.size + 1) T.toArray) (w.heap.size + 1) (bs.map (!·)) := by rw [HT.O]; exact HR3.O.store hb2
   have hl4 := hs4.load
   rw [<- HT.O] at hl4
   refine bodyPost_ret (ap rfl rfl hl4) rfl ⟨by rw [HT.O], HX3.O.setRow (.inr (by omega)) _⟩
  |succ g =>
   obtain ⟨x, hx1, hc⟩ := hs.cell j (by omega)
   have hj128 : (j : Int) < 128 := by omega
   have hst := kQ bs j x hx1 (by omega)
   have HS3 : Hid (SB (wr.setCell ⟨w.heap.size, j, none⟩ (.bool (!x))) w.heap.size (gZ bs (j + 1))) := by rw [<- hst]; exact hs.set j _
   have HR3 : Hid (SB (wr.setCell ⟨w.heap.size, j, none⟩ (.bool (!x))) (w.heap.size + 1) noB) := ⟨hr.1.set (by simp) _, hr.2⟩
   have HX3 : Hid (Ex [] w (wr.setCell ⟨w.heap.size, j, none⟩ (.bool (!x)))) := hx.setCell (.inr (by simp)) _
   clear hs hr hx hx1 hst
   go_wp2_with fail
   go_roundg g
   case measure => omega
   case rel => exact ⟨j + 1, by omega, by simp, HS3.O, HR3.O, HX3.O⟩
def gm (c : Nat) : List Bool := noB.set c true
theorem cj (c : Nat) : (gm c).length = 129 := by simp [gm, noB]
theorem nY (c : Nat) (w : World) (hc : c < 128) :
  Calls Tryz.prog 225 #[.int .u8 (c : Int)] w fun e w' => e = .returned (.agg (sB (gm c)).toArray) /\ Ex [] w w' := by
 have hci : (c : Int) < 128 := by omega
 go_enter Tryz.func225, Tryz.ntmps225
 go_upto_region 2 with fail
 generalize hw2 : World.alloc _ _ = w2
 have hr2 : SB w2 w.heap.size noB := by rw [<- hw2]; exact SB.ex (⟨BK.new _ _, rfl⟩ : SB (w.alloc (Obj.cells (sB noB).toArray 213)) w.heap.size noB) ((Ex.refl [] _).alloc _) (by simp)
 have hs2 : SB w2 (w.heap.size + 1) noB := by
  have h9 : BK w2 (w.alloc (Obj.cells (sB noB).toArray 213)).heap.size (.cells (sB noB).toArray 213 (0, 0)) := by rw [<- hw2]; exact BK.new _ _
  rw [World.size_alloc] at h9
  exact ⟨h9, rfl⟩
 have hx2 : Ex [] w w2 := by rw [<- hw2]; exact ((Ex.refl _ _).alloc _).alloc _
 have hlt := hs2.1.lt
 have hfz := hs2.1.all.2
 obtain ⟨x, hx1, hcl⟩ := hs2.cell c (by omega)
 have hs3 : SB (w2.setCell ⟨w.heap.size + 1, c, none⟩ (.bool true)) (w.heap.size + 1) (gm c) := hs2.set c true
 have hr3 : SB (w2.setCell ⟨w.heap.size + 1, c, none⟩ (.bool true)) w.heap.size noB := ⟨hr2.1.set (by simp) _, hr2.2⟩
 have hx3 : Ex [] w (w2.setCell ⟨w.heap.size + 1, c, none⟩ (.bool true)) := hx2.setCell (.inr (by simp)) _
 obtain ⟨w3, hw3⟩ := exq (w2.setCell ⟨w.heap.size + 1, c, none⟩ (.bool true))
 rw [<- hw3] at hs3 hr3 hx3
 have HW3 := aa hw3
 have HS3 := aa hs3
 have HR3 := aa hr3
 have HX3 := aa hx3
 have hb2 := cj c
 clear hw2 hr2 hs2 hx2 hs3 hr3 hx3 hw3 hx1
 obtain ⟨T, hT⟩ := exq (sB (gm c))
 have HI : Hid ((Tryz.prog.info? 213).map (·.size) = some T.length) := by rw [hT]; exact aC hb2
 have HI2 : Hid ((Tryz.prog.info? 213).map (·.size) = some T.toArray.size) := by rw [hT]; exact aA hb2
 have HAL : Hid (T.toArray.all (·.oneCell') = true) := by rw [hT]; exact al (ay _)
 have HT := aa hT
 have HRG : Hid (World.rangeAt w3 (w.heap.size + 1) 0 T) := by rw [hT]; exact HS3.O.1.rangeL
 have HOLD : Hid ((sB noB).toArray.size = T.toArray.size) := by show _ = _; rw [List.size_toArray, List.size_toArray, hT, ah, ah, hb2, HR3.O.2]
 clear hT
 go_wp2_with (first
  |(rw [<- HW3.O]; refine wpList_load_mid rfl 213 _ rfl (w.heap.size + 1) 0 rfl T _ HRG.O Tryz.underlying213 rfl HI.O ?_)
  |(refine wpList_store_row rfl 213 _ _ rfl (w.heap.size) T.toArray rfl rfl 213 _ HR3.O.1 HI2.O HOLD.O HAL.O ?_))
 have hs4 : SB (w3.setRow (w.heap.size) T.toArray) (w.heap.size) (gm c) := by rw [HT.O]; exact HR3.O.store hb2
 have hl4 := hs4.load
 rw [<- HT.O] at hl4
 refine bodyPost_ret (ap rfl rfl hl4) rfl ⟨by rw [HT.O], HX3.O.setRow (.inr (by omega)) _⟩
theorem uT (w : World) :
  Calls Tryz.prog 220 #[] w fun e w' => e = .returned (.agg (sB (noB.map (!·))).toArray) /\ Ex [] w w' := by
 go_enter Tryz.func220, Tryz.ntmps220
 go_upto_region 2 with fail
 generalize hw2 : World.alloc _ _ = w2
 have hr2 : SB w2 w.heap.size noB := by rw [<- hw2]; exact SB.ex (⟨BK.new _ _, rfl⟩ : SB (w.alloc (Obj.cells (sB noB).toArray 213)) w.heap.size noB) ((Ex.refl [] _).alloc _) (by simp)
 have hs2 : SB w2 (w.heap.size + 1) noB := by
  have h9 : BK w2 (w.alloc (Obj.cells (sB noB).toArray 213)).heap.size (.cells (sB noB).toArray 213 (0, 0)) := by rw [<- hw2]; exact BK.new _ _
  rw [World.size_alloc] at h9
  exact ⟨h9, rfl⟩
 have hx2 : Ex [] w w2 := by rw [<- hw2]; exact ((Ex.refl _ _).alloc _).alloc _
 have HS2 := aa hs2
 have HR2 := aa hr2
 have HX2 := aa hx2
 obtain ⟨Z, hZ⟩ := exq (sB noB)
 have HRZ : Hid (World.rangeAt w2 (w.heap.size + 1) 0 Z) := by rw [hZ]; exact hs2.1.rangeL
 have HIZ : Hid ((Tryz.prog.info? 213).map (·.size) = some Z.length) := by rw [hZ]; exact aC rfl
 have KI := aa (dp noB w2 rfl)
 rw [<- hZ] at KI
 clear hw2 hs2 hr2 hx2 hZ
 go_wp2_with (refine wpList_load_mid rfl 213 _ rfl (w.heap.size + 1) 0 rfl Z _ HRZ.O Tryz.underlying213 rfl HIZ.O ?_)
 refine KI.O.mono ?_
 rintro e w3 ⟨rfl, hx⟩
 have HR3 := aa (HR2.O.ex hx (by simp))
 have HX3 := aa (HX2.O.trans hx)
 have hb2 : (noB.map (!·)).length = 129 := rfl
 clear hx
 obtain ⟨T, hT⟩ := exq (sB (noB.map (!·)))
 have HI : Hid ((Tryz.prog.info? 213).map (·.size) = some T.length) := by rw [hT]; exact aC hb2
 have HI2 : Hid ((Tryz.prog.info? 213).map (·.size) = some T.toArray.size) := by rw [hT]; exact aA hb2
 have HAL : Hid (T.toArray.all (·.oneCell') = true) := by rw [hT]; exact al (ay _)
 have HT := aa hT
 have HOLD : Hid ((sB noB).toArray.size = T.toArray.size) := by show _ = _; rw [List.size_toArray, List.size_toArray, hT, ah, ah, hb2]; rfl
 rw [<- hT]
 clear hT
 go_wp2_with (refine wpList_store_row rfl 213 _ _ rfl w.heap.size T.toArray rfl rfl 213 _ HR3.O.1 HI2.O HOLD.O HAL.O ?_)
 have hs4 : SB (w3.setRow w.heap.size T.toArray) w.heap.size (noB.map (!·)) := by rw [HT.O]; exact HR3.O.store hb2
 have hl4 := hs4.load
 rw [<- HT.O] at hl4
 refine bodyPost_ret (ap rfl rfl hl4) rfl ⟨by rw [HT.O], HX3.O.setRow (.inr (by omega)) _⟩
def kR (us bs : List Bool) (j : Nat) : List Bool := (List.zipWith (· || ·) us bs).take j ++ us.drop j
theorem mL (us bs : List Bool) (j : Nat) (x y : Bool) (hl : us.length = bs.length) (h : (kR us bs j)[j]? = some x) (hy : bs[j]? = some y) (hj : j < us.length) : (kR us bs j).set j (x || y) = kR us bs (j + 1) := by
 have hz : (List.zipWith (· || ·) us bs).length = us.length := by simp [hl]
 have hlen : ((List.zipWith (· || ·) us bs).take j).length = j := by rw [List.length_take, hz]; omega
 unfold kR at h ⊢
 rw [List.getElem?_append_right (by omega), hlen, Nat.sub_self, List.getElem?_drop, Nat.add_zero, List.getElem?_eq_getElem hj] at h
 rw [List.set_append_right _ _ (by omega), hlen, Nat.sub_self, List.drop_eq_getElem_cons hj, List.set_cons_zero, List.take_add_one, List.getElem?_eq_getElem (by omega), List.getElem_zipWith]
 rw [List.getElem?_eq_getElem (by omega)] at hy
 rw [Option.some.inj h, Option.some.inj hy]
 simp
theorem ub (us bs : List Bool) (ha : us.length = 129) (hb : bs.length = 129) (x y : Bool) (hx : (kR us bs 128)[128]? = some x) (hy : bs[128]? = some y) : (kR us bs 128).set 128 (x || y) = List.zipWith (· || ·) us bs := by
 rw [mL us bs 128 x y (by omega) hx hy (by omega)]
 unfold kR
 rw [List.take_of_length_le (by simp [ha, hb]), List.drop_eq_nil_of_le (by omega), List.append_nil]
theorem mC (us bs : List Bool) (w : World) (ha : us.length = 129) (hb : bs.length = 129) :
  Calls Tryz.prog 247 #[.agg (sB us).toArray, .agg (sB bs).toArray] w fun e w' => e = .returned (.agg (sB (List.zipWith (· || ·) us bs)).toArray) /\ Ex [] w w' := by
 obtain ⟨S, hS⟩ := exq (sB us)
 obtain ⟨R, hR⟩ := exq (sB bs)
 have HW1 : Hid (∀ o1 o2, SB (((w.alloc (Obj.cells S.toArray 213)).alloc o1).alloc o2) w.heap.size us) := fun o1 o2 => by rw [hS]; exact (SB.new w us ha).ex (((Ex.refl [] _).alloc _).alloc _) (by simp)
 have HW2 : Hid (∀ o2, SB (((w.alloc (Obj.cells S.toArray 213)).alloc (Obj.cells R.toArray 213)).alloc o2) (w.heap.size + 1) bs) := fun o2 => by
  have h9 := SB.new (w.alloc (Obj.cells S.toArray 213)) bs hb
  rw [World.size_alloc] at h9
  rw [hR]
  exact h9.ex ((Ex.refl [] _).alloc _) (by simp)
 rw [<- hS, <- hR]
 clear hS hR
 go_enter Tryz.func247, Tryz.ntmps247
 go_wp2_with fail
 generalize hw2 : World.alloc _ _ = w2
 have hs2 : SB w2 w.heap.size us := by rw [<- hw2]; exact HW1.O _ _
 have ht2 : SB w2 (w.heap.size + 1) bs := by rw [<- hw2]; exact HW2.O _
 have hr2 : SB w2 (w.heap.size + 1 + 1) noB := by
  have h9 : BK w2 ((w.alloc (Obj.cells S.toArray 213)).alloc (Obj.cells R.toArray 213)).heap.size (.cells (sB noB).toArray 213 (0, 0)) := by rw [<- hw2]; exact BK.new _ _
  rw [World.size_alloc, World.size_alloc] at h9
  exact ⟨h9, rfl⟩
 have hx2 : Ex [] w w2 := by rw [<- hw2]; exact (((Ex.refl _ _).alloc _).alloc _).alloc _
 have HS2 := aa hs2
 have HT2 := aa ht2
 have HR2 := aa hr2
 have HX2 := aa hx2
 clear hw2 hs2 ht2 hr2 hx2
 go_loopg [5] 128 (fun gk i wr => ∃ j : Nat, j + gk = 128 /\ i = .int .i64 j /\ SB wr w.heap.size (kR us bs j) /\ SB wr (w.heap.size + 1) bs /\ SB wr (w.heap.size + 1 + 1) noB /\ Ex [] w wr)
 case atStart => exact ⟨0, by omega, rfl, by simpa [kR] using HS2.O, HT2.O, HR2.O, HX2.O⟩
 case round =>
  obtain ⟨j, hj, rfl, hs, ht, hr, hx⟩ := hrel
  have hlt := hs.1.lt
  have hlt1 := ht.1.lt
  have hlt2 := hr.1.lt
  have hfz := hs.1.all.2
  have key : ∀ (x y : Bool), (kR us bs j)[j]? = some x -> bs[j]? = some y -> j < 129 -> SB (wr.setCell ⟨w.heap.size, j, none⟩ (.bool (x || y))) w.heap.size ((kR us bs j).set j (x || y)) /\ SB (wr.setCell ⟨w.heap.size, j, none⟩ (.bool (x || y))) (w.heap.size + 1) bs /\ SB (wr.setCell ⟨w.heap.size, j, none⟩ (.bool (x || y))) (w.heap.size + 1 + 1) noB /\ Ex [] w (wr.setCell ⟨w.heap.size, j, none⟩ (.bool (x || y))) := fun x y _ _ _ => ⟨hs.set j _, ⟨ht.1.set (by simp) _, ht.2⟩, ⟨hr.1.set (by simp; omega) _, hr.2⟩, hx.setCell (.inr (by simp)) _⟩
  have hjj : j < 129 := by omega
  obtain ⟨x, hx1, hc⟩ := hs.cell j hjj
  obtain ⟨y, hy1, hcy⟩ := ht.cell j hjj
  obtain ⟨k1, k2, k3, k4⟩ := key x y hx1 hy1 hjj
  cases gk with
  |zero =>
   obtain rfl : j = 128 := by omega
   have hend := ub us bs ha hb x y hx1 hy1
   rw [hend] at k1
   obtain ⟨w3, hw3⟩ := exq (wr.setCell ⟨w.heap.size, 128, none⟩ (.bool (x || y)))
   rw [<- hw3] at k1 k2 k3 k4
   have HW3 := aa hw3
   have HS3 := aa k1
   have HR3 := aa k3
   have HX3 := aa k4
   have hb2 : (List.zipWith (· || ·) us bs).length = 129 := by simp [ha, hb]
   clear hs ht hr hx hx1 hy1 hend k1 k2 k3 k4 hw3 hj key hjj
   cases x
   all_goals
    simp only [Bool.false_or, Bool.true_or] at HW3
    obtain ⟨T, hT⟩ := exq (sB (List.zipWith (· || ·) us bs))
    have HI : Hid ((Tryz.prog.info? 213).map (·.size) = some T.length) := by rw [hT]; exact aC hb2
    have HI2 : Hid ((Tryz.prog.info? 213).map (·.size) = some T.toArray.size) := by rw [hT]; exact aA hb2
    have HAL : Hid (T.toArray.all (·.oneCell') = true) := by rw [hT]; exact al (ay _)
    have HT := aa hT
    have HRG : Hid (World.rangeAt w3 (w.heap.size) 0 T) := by rw [hT]; exact HS3.O.1.rangeL
    have HOLD : Hid ((sB noB).toArray.size = T.toArray.size) := by show _ = _; rw [List.size_toArray, List.size_toArray, hT, ah, ah, hb2, HR3.O.2]
    clear hT
    go_wp2_with (first
     |(rw [<- HW3.O]; refine wpList_load_mid rfl 213 _ rfl (w.heap.size) 0 rfl T _ HRG.O Tryz.underlying213 rfl HI.O ?_)
     |(refine wpList_store_row rfl 213 _ _ rfl (w.heap.size + 1 + 1) T.toArray rfl rfl 213 _ HR3.O.1 HI2.O HOLD.O HAL.O ?_))
    have hs4 : SB (w3.setRow (w.heap.size + 1 + 1) T.toArray) (w.heap.size + 1 + 1) (List.zipWith (· || ·) us bs) := by rw [HT.O]; exact HR3.O.store hb2
    have hl4 := hs4.load
    rw [<- HT.O] at hl4
    refine bodyPost_ret (ap rfl rfl hl4) rfl ⟨by rw [HT.O], HX3.O.setRow (.inr (by omega)) _⟩
  |succ g =>
   have hst := mL us bs j x y (by omega) hx1 hy1 (by omega)
   rw [hst] at k1
   have hj128 : (j : Int) < 128 := by omega
   have K1 := aa k1
   have K2 := aa k2
   have K3 := aa k3
   have K4 := aa k4
   clear hs ht hr hx hx1 hy1 hst k1 k2 k3 k4 key hjj
   cases x
   all_goals
    simp only [Bool.false_or, Bool.true_or] at K1 K2 K3 K4
    go_wp2_with fail
    go_roundg g
    case measure => omega
    case rel => exact ⟨j + 1, by omega, by simp, K1.O, K2.O, K3.O, K4.O⟩
theorem eJ (x : Int) (w : World) :
  Calls Tryz.prog 107 #[.int .u8 x] w fun e w' => e = .returned (.bool (fY x)) /\ w' = w := by
 unfold fY
 by_cases h1 : 48 <= x
 ·by_cases h2 : x <= 57
  ·go_enter Tryz.func107, Tryz.ntmps107
   go_wp2
   go_ret
   exact ⟨by simp [h1, h2], rfl⟩
  ·go_enter Tryz.func107, Tryz.ntmps107
   go_wp2
   go_ret
   exact ⟨by simp [h1, h2], rfl⟩
 ·go_enter Tryz.func107, Tryz.ntmps107
  go_wp2
  go_ret
  exact ⟨by simp; omega, rfl⟩
theorem dP (x : Int) (w : World) :
  Calls Tryz.prog 151 #[.int .u8 x] w fun e w' => e = .returned (.bool (fD x)) /\ w' = w := by
 unfold fD
 by_cases h1 : 97 <= x <;> by_cases h2 : x <= 122 <;> by_cases h3 : 65 <= x <;> by_cases h4 : x <= 90
 all_goals
  first
  |(exfalso; omega)
  |(go_enter Tryz.func151, Tryz.ntmps151; go_wp2; go_ret; exact ⟨by simp [h1, h2, h3, h4], rfl⟩)
def eI : List UInt8 := [92, 46, 43, 42, 63, 40, 41, 124, 91, 93, 123, 125, 94, 36]
def plB (c : UInt8) : Bool := decide (c.toNat < 128) && !eI.contains c
theorem tJ {j : Nat} (hj : j < 14) (c : UInt8) : (eI.drop j).contains c = ((eI[j]'hj == c) || (eI.drop (j + 1)).contains c) := by
 rw [List.drop_eq_getElem_cons hj, List.contains_cons]
 congr 1
 exact Bool.beq_comm
theorem ma (c : UInt8) (w : World) : Calls Tryz.prog 222 #[.int .u8 (c.toNat : Int)] w fun e w' => e = .returned (.bool (plB c)) /\ w' = w := by
 go_enter Tryz.func222, Tryz.ntmps222
 go_wp2_with fail
 go_loopg [3] 14 (fun gk i wr => ∃ j : Nat, j + gk = 14 /\ i = .int .i64 j /\ eI.contains c = (eI.drop j).contains c /\ wr = w)
 case atStart => exact ⟨0, by omega, rfl, rfl, rfl⟩
 case round =>
  obtain ⟨j, hj, rfl, hsp, rfl⟩ := hrel
  have HSP := aa hsp
  clear hsp
  cases gk with
  |zero =>
   obtain rfl : j = 14 := by omega
   go_wp2_with fail
   go_ret
   refine ⟨?_, rfl⟩
   have HR : plB c = decide ((c.toNat : Int) < 128) := by
    unfold plB
    rw [HSP.O, show (eI.drop 14).contains c = false from rfl, Bool.not_false, Bool.and_true, decide_eq_decide]
    omega
   rw [HR]
   rfl
  |succ g =>
   have hj14 : (j : Int) < 14 := by omega
   have hjn : j < 14 := by omega
   have hst := tJ hjn c
   have hjs : j < (⟨#[92, 46, 43, 42, 63, 40, 41, 124, 91, 93, 123, 125, 94, 36]⟩ : ByteArray).size := hjn
   have hget : (⟨#[92, 46, 43, 42, 63, 40, 41, 124, 91, 93, 123, 125, 94, 36]⟩ : ByteArray)[j]'hjs = eI[j]'hjn := rfl
   obtain ⟨d, hd⟩ := exq (eI[j]'hjn)
   rw [<- hd] at hst hget
   cases he : (d == c) with
   |true =>
    have hdc : d = c := by simpa using he
    have he2 : ((d.toNat : Int) == (c.toNat : Int)) = true := by rw [hdc]; simp
    have HR : Hid (plB c = false) := by show plB c = false; unfold plB; rw [HSP.O, hst, he]; simp
    clear hst hd
    go_wp2_with fail
    go_ret
    exact ⟨by rw [HR.O]; rfl, rfl⟩
   |false =>
    have he2 : ((d.toNat : Int) == (c.toNat : Int)) = false := by
     rw [Bool.eq_false_iff] at he ⊢
     intro h9
     exact he (by have h8 : d.toNat = c.toNat := (by have := beq_iff_eq.1 h9; omega); exact beq_iff_eq.2 (UInt8.toNat_inj.1 h8))
    have HR : Hid (eI.contains c = (eI.drop (j + 1)).contains c) := by show _ = _; rw [HSP.O, hst, he]; simp
    clear hst hd
    go_wp2_with fail
    go_roundg g
    case measure => omega
    case rel => exact ⟨j + 1, by omega, by simp, HR.O, rfl⟩
def pP (nm : List (ByteArray × Nat)) (ns : List ByteArray) : Prop := ∀ a : ByteArray, a.size ≠ 0 -> (aS nm a = ns.any (fun x => decide (x = a))) /\ ∀ i, ns[i]? = some a ↔ (a, i + 1) ∈ nm
def RK (w : World) (p r : Nat) (t : ByteArray) (s : RS) (bad : Bool) (hv : Int) : Prop :=
 BK w p (.cells #[.string t, .int .i64 (s.k : Int), .bool bad, .pointer (some ⟨r, 0, none⟩), .bool s.f, .int .i64 (s.d : Int), .int .i64 hv] 135 (0, 0))
structure RN (w : World) (r base : Nat) (s : RS) (n : Nat) : Prop where
 ex : ∃ av nv xs ns, BK w r (.cells #[av, .int .i64 0, .int .i64 (s.g : Int), nv] 133 (0, 0)) /\ w.ownsRow base 215 134 av n xs /\ w.ownsRow base 9 1 nv (ns : List ByteArray).length (ns.map Value.string) /\ pP s.nm ns /\ ns.length = s.g
structure RA (w : World) (p r base : Nat) (t : ByteArray) (s : RS) (bad : Bool) (hv : Int) (n : Nat) : Prop where
 rk : RK w p r t s bad hv
 rn : RN w r base s n
 pb : base <= p
 rb : base <= r
 bw : base <= w.heap.size
def aJ (w : World) (r y : Nat) (E : List Value) : Prop := ∃ base av ro gi nv n xs, BK w r (.cells #[av, ro, gi, nv] 133 (0, 0)) /\ w.ownsRow base 215 134 av n xs /\ y < n /\ (xs.drop (y * 134)).take 134 = E
theorem aF {e : TypeId} {size : Nat} {v : Value} (h : w.ownsRow base e size v n xs) (hb : ∀ g, v.ownBlock = some g -> w'.heap[g]? = w.heap[g]?) : w'.ownsRow base e size v n xs := by
 refine ⟨h.1, ?_⟩
 rcases h.2 with hn | ⟨g, cap, cur, rfl, hg, hgg, rest⟩
 ·exact .inl hn
 ·exact .inr ⟨g, cap, cur, rfl, hg, (hb g rfl).trans hgg, rest⟩
theorem uU {e : TypeId} {size : Nat} {v : Value} (h : w.ownsRow base e size v n xs) {g : Nat} (hg : v.ownBlock = some g) : ∃ cs fz, w.heap[g]? = some (.cells cs e fz) := by
 rcases h.2 with ⟨hn, _⟩ | ⟨g2, cap, cur, hv2, _, hgg, _⟩
 ·rw [hn] at hg; simp [Value.ownBlock] at hg
 ·rw [hv2] at hg
  simp [Value.ownBlock] at hg
  subst hg
  exact ⟨_, _, hgg⟩
theorem aJ.typed (h : aJ w r y E) (hb : ∀ (g : Nat) (cs : Array Value) (ty : TypeId) (fz : Nat × Nat), w.heap[g]? = some (Obj.cells cs ty fz) -> ty = 133 \/ ty = 215 -> w'.heap[g]? = w.heap[g]?) : aJ w' r y E := by
 obtain ⟨base, av, ro, gi, nv, n, xs, h1, h2, h3, h4⟩ := h
 have k1 : BK w' r (.cells #[av, ro, gi, nv] 133 (0, 0)) := by
  unfold BK at h1 ⊢
  rw [hb r _ _ _ h1 (.inl rfl)]
  exact h1
 refine ⟨base, av, ro, gi, nv, n, xs, k1, aF h2 (fun g hg => ?_), h3, h4⟩
 obtain ⟨cs, fz, hgg⟩ := uU h2 hg
 exact hb _ _ _ _ hgg (.inr rfl)
theorem aJ.ex (h : aJ w r y E) (hx : Ex [] w w') : aJ w' r y E := h.typed (fun g cs ty fz hg _ => hx.block g (BK.lt (show BK w g _ from hg)) (by simp))
theorem aJ.but (h : aJ w r y E) {cs : Array Value} {ty : TypeId} {fz : Nat × Nat} (hb : BK w b (.cells cs ty fz)) (h1 : ty ≠ 133) (h2 : ty ≠ 215) (hx : ∀ g, g < w.heap.size -> g ≠ b -> w'.heap[g]? = w.heap[g]?) : aJ w' r y E := h.typed (fun g cs' ty' fz' hg hty => hx g (BK.lt (show BK w g _ from hg)) (fun e => by
 subst e
 unfold BK at hb
 rw [hb] at hg
 cases hg
 rcases hty with e | e
 ·exact h1 e
 ·exact h2 e))
theorem aJ.self (h : aJ w r y E) (o : Nat) (u : Value) (ho : 0 < o /\ o < 4) : aJ (w.setCell ⟨r, o, none⟩ u) r y E := by
 obtain ⟨base, av, ro, gi, nv, n, xs, h1, h2, h3, h4⟩ := h
 have k1 := h1.self o u
 have k2 : (w.setCell ⟨r, o, none⟩ u).ownsRow base 215 134 av n xs := aF h2 (fun g hg => Below.heap_setCell _ _ _ _ (fun e => by
  obtain ⟨cs, fz, hgg⟩ := uU h2 hg
  dsimp only at e
  subst e
  unfold BK at h1
  rw [h1] at hgg
  injection hgg with hgg
  injection hgg with _ h9 _
  exact absurd h9 (by decide)))
 rcases (show o = 1 \/ o = 2 \/ o = 3 by omega) with rfl | rfl | rfl
 all_goals
  simp only [List.setIfInBounds_toArray, List.set_cons_zero, List.set_cons_succ] at k1
  exact ⟨base, av, _, _, _, n, xs, k1, k2, h3, h4⟩
structure KS (r : Nat) (w w' : World) : Prop where
 sb : ∀ b bs, SB w b bs -> SB w' b bs
 rw : ∀ y E, aJ w r y E -> aJ w' r y E
instance (r : Nat) (w w' : World) : CoeFun (KS r w w') (fun _ => ∀ b bs, SB w b bs -> SB w' b bs) := ⟨KS.sb⟩
theorem KS.refl (w : World) : KS r w w := ⟨fun _ _ h => h, fun _ _ h => h⟩
theorem KS.trans {a b c : World} (h : KS r a b) (k : KS r b c) : KS r a c := ⟨fun x bs hx => k.sb x bs (h.sb x bs hx), fun y E hy => k.rw y E (h.rw y E hy)⟩
theorem KS.ex (h : Ex [] w w') : KS r w w' := ⟨fun x bs hx => hx.ex h (by simp), fun y E hy => hy.ex h⟩
theorem RK.drewN (h : RK w p r t s bad hv) (k : Nat) : RK (w.drewN k) p r t s bad hv := h
theorem RA.drewN (h : RA w p r base t s bad hv n) (k : Nat) : RA (w.drewN k) p r base t s bad hv n := ⟨h.rk, ⟨h.rn.ex⟩, h.pb, h.rb, h.bw⟩
theorem RA.ex (h : RA w p r base t s bad hv n) (hx : Ex [] w w') : RA w' p r base t s bad hv n := by
 obtain ⟨av, nv, xs, ns, h1, h2, h3, h4, h5⟩ := h.rn.ex
 exact ⟨h.rk.ex hx (by simp), ⟨av, nv, xs, ns, h1.ex hx (by simp), aE h2 hx (by simp), aE h3 hx (by simp), h4, h5⟩, h.pb, h.rb, Nat.le_trans h.bw hx.size⟩
theorem KS.set {cs : Array Value} (h : BK w p (.cells cs 135 (0, 0))) (o : Nat) (u : Value) : KS r w (w.setCell ⟨p, o, none⟩ u) := ⟨fun b bs hb => by
 have hne : b ≠ p := fun e => by
  subst e
  have h1 := hb.1
  unfold BK at h1 h
  rw [h] at h1
  injection h1 with h1
  injection h1 with _ h2 _
  exact absurd h2 (by decide)
 exact ⟨hb.1.set hne _, hb.2⟩, fun y E hy => hy.but h (by decide) (by decide) (fun g _ hne => Below.heap_setCell _ _ _ _ hne)⟩
theorem RA.setCell {s' : RS} {bad' : Bool} {hv' : Int} (h : RA w p r base t s bad hv n) (o : Nat) (u : Value)
  (he : (#[.string t, .int .i64 (s.k : Int), .bool bad, .pointer (some ⟨r, 0, none⟩), .bool s.f, .int .i64 (s.d : Int), .int .i64 hv] : Array Value).setIfInBounds o u = #[.string t, .int .i64 (s'.k : Int), .bool bad', .pointer (some ⟨r, 0, none⟩), .bool s'.f, .int .i64 (s'.d : Int), .int .i64 hv']) (hg : s'.g = s.g) (hnm : s'.nm = s.nm) :
  RA (w.setCell ⟨p, o, none⟩ u) p r base t s' bad' hv' n /\ KS r w (w.setCell ⟨p, o, none⟩ u) /\ EB base [] w (w.setCell ⟨p, o, none⟩ u) := by
 obtain ⟨av, nv, xs, ns, h1, h2, h3, h4, h5⟩ := h.rn.ex
 have hk := h.rk
 unfold RK at hk
 have hpr : r ≠ p := fun e => by
  subst e
  unfold BK at h1 hk
  rw [h1] at hk
  injection hk with hk
  injection hk with _ h9 _
  exact absurd h9 (by decide)
 have hrow : ∀ {e : TypeId} {size : Nat} {v : Value} {m : Nat} {ys : List Value}, e ≠ 135 -> w.ownsRow base e size v m ys -> (w.setCell ⟨p, o, none⟩ u).ownsRow base e size v m ys := fun {e size v m ys} hne ho => by
  refine aF ho (fun g hv => Below.heap_setCell _ _ _ _ (fun e2 => ?_))
  dsimp only at e2
  subst e2
  rcases ho.2 with ⟨hn, _⟩ | ⟨g2, cap, cur, hv2, hb, hgg, _⟩
  ·rw [hn] at hv; simp [Value.ownBlock] at hv
  ·rw [hv2] at hv
   simp [Value.ownBlock] at hv
   subst hv
   unfold BK at hk
   rw [hgg] at hk
   injection hk with hk
   injection hk with _ h9 _
   exact hne h9
 refine ⟨⟨?_, ⟨av, nv, xs, ns, ?_, hrow (by decide) h2, hrow (by decide) h3, by rw [hnm]; exact h4, by rw [hg]; exact h5⟩, h.pb, h.rb, by simpa [World.setCell] using h.bw⟩, KS.set hk _ _, (EB.refl _ _ _).setCell (.inr h.pb) _⟩
 ·unfold RK
  have := hk.self o u
  rw [he] at this
  exact this
 ·rw [hg]
  exact h1.set hpr _
def ai (t : ByteArray) (k : Nat) : Nat := match aj t k with
 |some b => b.toNat
 |none => 0
theorem cX (h : RK w p r t s bad hv) :
  Calls Tryz.prog 95 #[.pointer (some ⟨p, 0, none⟩)] w fun e w' => e = .returned (.int .u8 (ai t s.k : Int)) /\ ∃ q, w' = w.drewN q := by
 have h0 : w.cell? ⟨p, 0, none⟩ = some (.string t) := by rw [h.all.1 0]; rfl
 have h1 : w.cell? ⟨p, 1, none⟩ = some (.int .i64 (s.k : Int)) := by rw [h.all.1 1]; rfl
 have hl := h.lt
 obtain ⟨k, hk⟩ := exq (s.k)
 rw [<- hk] at h1 ⊢
 clear h hk
 by_cases hlt : k < t.size
 ·have hlti : (k : Int) < (t.size : Int) := by omega
  have e : ai t k = (t[k]'hlt).toNat := by
   unfold ai aj
   rw [Array.getElem?_eq_getElem hlt]
   rfl
  have HE := aa e
  clear e
  go_enter Tryz.func95, Tryz.ntmps95
  go_wp2_with fail
  go_quiet (fail)
  go_wp2_with fail
  go_quiet (fail)
  go_wp2_with fail
  go_ret
  exact ⟨by rw [HE.O]; rfl, _, (World.drewN_drewN _ _ _)⟩
 ·have hlti : ¬ (k : Int) < (t.size : Int) := by omega
  have e : ai t k = 0 := by
   unfold ai aj
   rw [Array.getElem?_eq_none (by show t.size <= k; omega)]
  have HE := aa e
  clear e
  go_enter Tryz.func95, Tryz.ntmps95
  go_wp2_with fail
  go_quiet (fail)
  go_wp2_with fail
  go_ret
  exact ⟨by rw [HE.O]; rfl, _, rfl⟩
theorem gp (h : RA w p r base t s bad hv n) :
  Calls Tryz.prog 223 #[.pointer (some ⟨p, 0, none⟩)] w fun e w' => e = .returned (.int .i64 0) /\ RA w' p r base t s true hv n /\ KS r w w' /\ EB base [] w w' := by
 have hc := h.rk.all.1 2
 have hf := h.rk.all.2 2
 have hl := h.rk.lt
 have H := aa (h.setCell (s' := s) (bad' := true) (hv' := hv) 2 (.bool true) rfl rfl rfl)
 have hc2 : w.cell? ⟨p, 2, none⟩ = some (.bool bad) := hc
 clear h hc
 go_enter Tryz.func223, Tryz.ntmps223
 go_wp2_with fail
 go_ret
 exact ⟨rfl, H.O⟩
end Go.Proofs.YtfnanjbleifjkaaGreatDoor.G
