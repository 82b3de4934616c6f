/- O1 O0 O2, one behind the other. -/
import Derived.Test.YtmeffeigamaipabGreatDoorM36
import Derived.Deep.DeepCutAuto
import Derived.Test.YtmeffeigamaipabGreatDoorM42
import Derived.Test.YtmeffeigamaipabGreatDoorM11
import Derived.Test.YtmeffeigamaipabGreatDoorM47
set_option linter.unusedVariables false
set_option linter.unusedSimpArgs false
/- The list the other way round. -/
namespace Go.Proofs.YtmeffeigamaipabGreatDoor.G
open Go.RowKit

theorem drop_rev {α : Type} {l : List α} {g : Nat} {a : α} (h : l[g]? = some a) : (l.drop g).reverse = (l.drop (g + 1)).reverse ++ [a] := by
  have hg : g < l.length := (List.getElem?_eq_some_iff.1 h).1
  rw [List.drop_eq_getElem_cons hg, List.reverse_cons]
  rw [List.getElem?_eq_getElem hg] at h
  rw [Option.some.inj h]

set_option maxHeartbeats 4000000 in
set_option maxRecDepth 100000 in
theorem turnedRound_any (v : Value) (ls : List Lab) (w : World) (hv : SL w v ls) (hn : ls.length ≤ 1000) :
    Calls Tryz.prog 14 #[v] w fun x w' => ∃ v', x = .returned v' ∧ w'.ownsRow w.heap.size 48 2 v' ls.length (cellsOfL ls.reverse) ∧ Ex [] w w' := by
  obtain ⟨t0, hti, hzz0, hzz1, hzz2⟩ := info_parts infoLab
  obtain ⟨p, c, rfl⟩ := hv.slice
  have HV := hide hv
  obtain ⟨n, hnn⟩ : ∃ n, n = ls.length := ⟨_, rfl⟩
  have HNN := hide hnn
  rw [← hnn] at hn ⊢
  clear hv hnn
  go_enter Tryz.func14, Tryz.ntmps14
  go_wp2_with fail
  go_loopg [3, 4] n (fun gk s3 i4 wr => ∃ (j : Nat) (rs : List Lab), j + gk = n ∧ i4 = .int .i64 ((gk : Int) - 1) ∧ rs = (ls.drop gk).reverse ∧ rs.length = j ∧ wr.ownsRow w.heap.size 48 2 s3 j (cellsOfL rs) ∧ Ex [] w wr)
  case atStart => exact ⟨0, [], by omega, rfl, by rw [HNN.out, List.drop_length]; rfl, rfl, World.ownsRow_nil _ _ _ _, Ex.refl _ _⟩
  case round =>
    obtain ⟨j, rs, hj, rfl, hrs, hrl, hown, hx⟩ := hrel
    have HRS := hide hrs
    have HRL := hide hrl
    have HO := hide hown
    have HX := hide hx
    have hwz := hx.size
    obtain ⟨p3, c3, rfl⟩ := own_slice hown
    cases gk with
    | zero =>
      have h1 : ¬ ((0 : Int) ≤ ((0 : Nat) : Int) - 1) := by omega
      clear hown hx hrs hrl
      go_wp2_with fail
      go_ret
      refine ⟨_, rfl, ?_, HX.out⟩
      have h9 := HO.out
      rw [HRS.out, List.drop_zero, show j = n by omega] at h9
      have e9 : j = n := by omega
      subst e9
      exact h9
    | succ g =>
      have e1 : (((g + 1 : Nat) : Int) - 1) = (g : Int) := by omega
      rw [e1]
      have hgl : g < ls.length := by rw [← HNN.out]; omega
      have hgi : (g : Int) < (n : Int) := by omega
      obtain ⟨l, hl⟩ : ∃ l, ls[g]? = some l := ⟨_, List.getElem?_eq_getElem hgl⟩
      obtain ⟨b, hpb, hb, c0, c1⟩ : ∃ b, p = some ⟨b, 0, none⟩ ∧ b < wr.heap.size ∧ wr.cell? ⟨b, g * 2, none⟩ = some (.string l.1) ∧ wr.cell? ⟨b, g * 2 + 1, none⟩ = some (.string l.2) := by
        rcases HV.out with ⟨_, h2⟩ | ⟨b, c', h1, hb, hc⟩
        · rw [h2] at hgl; simp at hgl
        · injection h1 with e1 e2 e3
          obtain ⟨h3, h4⟩ := hc g l hl
          exact ⟨b, e1, by omega, (hx.cell0.1 b _ hb).trans h3, (hx.cell0.1 b _ hb).trans h4⟩
      subst hpb
      have HD := hide (drop_rev hl)
      obtain ⟨l1, l2⟩ := l
      dsimp only at c0 c1
      obtain ⟨xs, hxs⟩ : ∃ xs, xs = cellsOfL rs := ⟨_, rfl⟩
      have HXS := hide hxs
      rw [← hxs] at HO
      clear hown hx hrs hrl hl hxs e1
      go_wp2_with (at_builtin; refine wpList_append_lies _ rfl (.tmp 12) (.tmp 17) 23 rfl w.heap.size 48 t0 _ 2 32 Tryz.underlying23 hti hzz0 hzz1 hzz2 rfl (by decide) (.slice p3 j c3) j xs rfl (HO.out.alloc _) ⟨wr.heap.size, 0, none⟩ 1 1 [.string l1, .string l2] rfl rfl (cells_new _ _ _) (by simp [Value.oneCell']) (by decide) (by unfold maxLen; omega) (by omega) (by simp; omega) (wr.heap.size + 1) (by simp) ?_)
      intro gb cap w5 hown5 hgrow hcase hlt5
      have hrow : ∀ y, (Value.slice p3 j c3).ownBlock = some y → w.heap.size ≤ y := fun y hy => own_block HO.out y hy
      have hgr : Ex (Value.slice p3 j c3).ownBlock.toList wr w5 := Ex.grown ((Ex.refl _ _).alloc _) hgrow (fun y hy => Or.inl (by simpa using hy))
      have HO5 := hide hown5
      have HX5 := hide (((HX.out.drop (by simp)).trans hgr).drop (l' := []) (fun y hy hlt => by have := hrow y (by simpa using hy); omega))
      clear hown5 hgrow hcase hgr hrow c0 c1
      go_wp2_with fail
      go_roundg g
      case measure => omega
      case rel =>
        refine ⟨j + 1, rs ++ [(l1, l2)], by omega, by simp, by rw [HRS.out, ← HD.out], by simp [HRL.out], ?_, HX5.out⟩
        have h9 := HO5.out
        rw [HXS.out, cells_snoc rs (l1, l2)] at h9
        exact h9
end Go.Proofs.YtmeffeigamaipabGreatDoor.G

/- Relabel, with all that it leaves as it was. -/
namespace Go.Proofs.YtmeffeigamaipabGreatDoor
open Go.RowKit

set_option maxHeartbeats 2000000 in
set_option maxRecDepth 100000 in
theorem relabel_ex (R : List Value → List Lab → Bool → Prop) (e m mb base room : Nat) (rv : Value) (ts : List (List Value)) (tv : Value) (es : Array MapEntry) (clk : Nat) (S : List Value) (v : Value) (w : World)
    (he : EN R w e m mb base room rv ts tv es clk) (hS : SerOk S) (hrd : Calls Tryz.prog 31 #[v] w fun x w' => x = .returned (.tuple #[.agg S.toArray, .int .i64 0]) ∧ Ex [] w w')
    (hwk : Works R w S (.pointer (some ⟨e, 0, none⟩))) :
    Calls Tryz.prog 12 #[.pointer (some ⟨e, 0, none⟩), v] w fun x w' => ∃ v' ls b, x = .returned (.tuple #[v', .bool b, .int .i64 0]) ∧ R S ls b ∧ ls.length ≤ 60 ∧
      w'.ownsRow w.heap.size 48 2 v' ls.length (cellsOfL ls) ∧ (∃ ts' tv' es' clk', After room ts S ts' ∧ EN R w' e m mb base room rv ts' tv' es' clk') ∧ Ex (m :: mb :: tv.ownBlock.toList) w w' := by
  have HE := hide he
  have HS := hide hS
  have HWK := hide hwk
  have hle := he.mem.le
  have hel := he.lt
  have hisz : (Tryz.prog.info? 72).map (·.size) = some S.length := by rw [hS.1]; kernel_rfl
  have hisz' : (Tryz.prog.info? 72).map (·.size) = some S.toArray.size := by rw [List.size_toArray]; exact hisz
  have HI := hide hisz
  have HI' := hide hisz'
  have HAL := hide (all_oneCell_toArray hS.plain)
  have HRD := hide hrd
  clear he hS hwk hisz hisz' hrd
  go_enter Tryz.func12, Tryz.ntmps12
  go_wp2_with fail
  refine HRD.out.mono ?_
  rintro x w1 ⟨rfl, hx1⟩
  have hz1 := hx1.size
  have HX1 := hide hx1
  have HB := hide (BK.new w1 (.cells (serC []).toArray 72))
  have hold : (serC []).toArray.size = S.toArray.size := by rw [List.size_toArray, List.size_toArray, HS.out.1, serC_len (by simp)]
  have HOLD := hide hold
  clear hx1 hold
  go_wp2_with (refine wpList_store_row rfl 72 _ _ rfl w1.heap.size S.toArray rfl rfl 72 _ HB.out HI'.out HOLD.out HAL.out ?_)
  generalize hw2 : World.setRow _ _ _ = w2
  have hb7 : BK w2 w1.heap.size (.cells S.toArray 72 (0, 0)) := by rw [← hw2]; exact setRow_heap _ _ _ _ _ _ HB.out
  have hx12 : Ex [] w1 w2 := by rw [← hw2]; exact ((Ex.refl _ _).alloc _).setRow (.inr (Nat.le_refl _)) _
  have hx02 : Ex [] w w2 := HX1.out.trans hx12
  have he2 : BK w2 e (.cells #[rv, .pointer (some ⟨m, 0, none⟩)] 69 (0, 0)) := HE.out.blk.ex hx02 (by simp)
  have hm2 := HE.out.mem.ex hx02 (by simp)
  have c0 : w2.cell? ⟨e, 1, none⟩ = some (.pointer (some ⟨m, 0, none⟩)) := he2.all.1 1
  have r0 := hb7.rangeL
  have hz2 : w1.heap.size < w2.heap.size := hb7.lt
  have hel2 := he2.lt
  have HB7 := hide hb7
  have HX02 := hide hx02
  have HE2 := hide he2
  have HM2 := hide hm2
  have hrt : ∀ k, tv.ownBlock = some k → base ≤ k ∧ k < w.heap.size := fun k hk => ⟨own_block HE.out.mem.row k hk, (HE.out.mem.row.lt k hk).2⟩
  have hmlt := HE.out.mem.mlt
  have hmblt := HE.out.mem.mblt
  have hnb : ∀ k, w.heap.size ≤ k → k ∉ (m :: mb :: tv.ownBlock.toList) := fun k hk hm => by
    simp only [List.mem_cons, Option.mem_toList] at hm
    rcases hm with h | h | h
    · omega
    · omega
    · have := hrt k h; omega
  have hne : e ∉ (m :: mb :: tv.ownBlock.toList) := fun hm => by
    simp only [List.mem_cons, Option.mem_toList] at hm
    rcases hm with h | h | h
    · exact HE.out.nem h
    · exact HE.out.nemb h
    · have := hrt e h; omega
  have HNB := hide hnb
  have HNE := hide hne
  clear hw2 hb7 hx12 hx02 he2 hm2 HB HOLD hnb hne hrt
  refine wp_region_J (by kernel_rfl) ?_
  refine wpAny_take (i := 0) (v := ?_) rfl (by kernel_rfl) (by kernel_rfl) (by kernel_rfl) (fun _ _ _ h => h) (Or.inl ⟨by rfl, ?_⟩) ?_
  rotate_left
  · intro w'
    go_simp
    try with_reducible rfl
  simp only [Act.put, List.setIfInBounds_toArray, List.set_cons_zero, List.set_cons_succ, List.getElem_toArray, List.getElem_cons_zero, List.getElem_cons_succ, List.replicate, Array.replicate, List.size_toArray, List.length_cons, List.length_nil]
  refine wpAny_take (i := 1) (v := ?_) rfl (by kernel_rfl) (by kernel_rfl) (by kernel_rfl) (fun _ _ _ h => h) (Or.inl ⟨by rfl, ?_⟩) ?_
  rotate_left
  · intro w'
    go_simp
    try with_reducible rfl
  simp only [Act.put, List.setIfInBounds_toArray, List.set_cons_zero, List.set_cons_succ, List.getElem_toArray, List.getElem_cons_zero, List.getElem_cons_succ, List.replicate, Array.replicate, List.size_toArray, List.length_cons, List.length_nil]
  refine wpAny_take (i := 2) (v := ?_) rfl (by kernel_rfl) (by kernel_rfl) (by kernel_rfl) (fun _ _ _ h => h) (Or.inl ⟨by rfl, ?_⟩) ?_
  rotate_left
  · intro w'
    go_simp
    try with_reducible rfl
  simp only [Act.put, List.setIfInBounds_toArray, List.set_cons_zero, List.set_cons_succ, List.getElem_toArray, List.getElem_cons_zero, List.getElem_cons_succ, List.replicate, Array.replicate, List.size_toArray, List.length_cons, List.length_nil]
  refine wpAny_take (i := 5) (v := ?_) rfl (by kernel_rfl) (by kernel_rfl) (by kernel_rfl) (fun _ _ _ h => h) (Or.inl ⟨by rfl, ?_⟩) ?_
  rotate_left
  · intro w'
    go_simp
    try with_reducible rfl
  simp only [Act.put, List.setIfInBounds_toArray, List.set_cons_zero, List.set_cons_succ, List.getElem_toArray, List.getElem_cons_zero, List.getElem_cons_succ, List.replicate, Array.replicate, List.size_toArray, List.length_cons, List.length_nil]
  refine wpAny_take (i := 6) (v := ?_) rfl (by kernel_rfl) (by kernel_rfl) (by kernel_rfl) (fun _ _ _ h => h) (Or.inl ⟨by rfl, ?_⟩) ?_
  rotate_left
  · intro w'
    go_simp
    try with_reducible rfl
  simp only [Act.put, List.setIfInBounds_toArray, List.set_cons_zero, List.set_cons_succ, List.getElem_toArray, List.getElem_cons_zero, List.getElem_cons_succ, List.replicate, Array.replicate, List.size_toArray, List.length_cons, List.length_nil]
  refine wpAny_of_J (S := (fun j w' => j < 9 → w'.cell? ⟨e, 1, none⟩ = some (.pointer (some ⟨m, 0, none⟩)) ∧ w'.rangeAt w1.heap.size 0 S)) _ _ _ _ ?_
  refine wpAnyJ_take (i := 3) (T := (fun w' => w'.cell? ⟨e, 1, none⟩ = some (.pointer (some ⟨m, 0, none⟩)) ∧ w'.rangeAt w1.heap.size 0 S)) (v := ?_) (fun j => decide (j < 9)) rfl (by kernel_rfl) (by kernel_rfl) (by kernel_rfl) (by kernel_rfl) (fun j w' hj h => h (by simpa using hj)) (fun w' h _ => h) (fun _ _ _ h => h) ⟨c0, r0⟩ (Or.inl ⟨by rfl, ?_⟩) ?_
  rotate_left
  · intro w' hSw
    obtain ⟨f1, f2⟩ := hSw
    go_simp
    try with_reducible rfl
  simp only [Act.put, List.setIfInBounds_toArray, List.set_cons_zero, List.set_cons_succ, List.getElem_toArray, List.getElem_cons_zero, List.getElem_cons_succ, List.replicate, Array.replicate, List.size_toArray, List.length_cons, List.length_nil]
  refine wpAnyJ_take (i := 4) (T := (fun w' => w'.cell? ⟨e, 1, none⟩ = some (.pointer (some ⟨m, 0, none⟩)) ∧ w'.rangeAt w1.heap.size 0 S)) (v := _) (fun j => decide (j < 9)) rfl (by kernel_rfl) (by kernel_rfl) (by kernel_rfl) (by kernel_rfl) (fun j w' hj h => h (by simpa using hj)) (fun w' h _ => h) (fun _ _ _ h => h) ⟨c0, r0⟩ (yieldsIf_load_mid (by rfl) _ _ rfl _ _ rfl S _ (fun w' h => h.2) Tryz.underlying72 rfl HI.out) ?_
  simp only [Act.put, List.setIfInBounds_toArray, List.set_cons_zero, List.set_cons_succ, List.getElem_toArray, List.getElem_cons_zero, List.getElem_cons_succ, List.replicate, Array.replicate, List.size_toArray, List.length_cons, List.length_nil]
  refine wpAnyJ_two (i := 7) (j := 8) rfl rfl rfl rfl (by kernel_rfl) (fun K hK => ?_) (fun K hK => ?_)
  · go_simp
    have hxd : Ex [] w w2.drew := HX02.out.drew
    refine (recall_any R m mb base room ts tv es clk S (.pointer (some ⟨e, 0, none⟩)) w2.drew (HM2.out.ex ((Ex.refl [] _).drew) (by simp)) HS.out (fun W hW => HWK.out W (hxd.trans hW))).mono ?_
    rintro x w3 ⟨v3, ls, b, rfl, hR3, hl60, ho3, ⟨ts', tv', es', clk', haf, hm3⟩, hx3⟩
    obtain ⟨p3, c3, rfl⟩ := own_slice ho3
    have he3 := HE2.out.drew.ex hx3 (HNE.out)
    have hb73 := HB7.out.drew.ex hx3 (HNB.out _ (by omega))
    have HR3 := hide hR3
    refine hK.out _ _ (fun _ => ⟨he3.all.1 1, hb73.rangeL⟩) ?_
    clear hK K hR3
    simp only [Act.put, List.setIfInBounds_toArray, List.set_cons_zero, List.set_cons_succ, List.getElem_toArray, List.getElem_cons_zero, List.getElem_cons_succ, List.replicate, Array.replicate, List.size_toArray, List.length_cons, List.length_nil]
    refine wpAnyJ_one (i := 8) rfl rfl (by kernel_rfl) (fun K hK => ?_)
    go_simp
    refine hK.out _ _ (fun _ => ⟨(he3.alloc _).all.1 1, (hb73.alloc _).rangeL⟩) ?_
    clear hK K
    unfold ansV
    simp only [Act.put, List.setIfInBounds_toArray, List.set_cons_zero, List.set_cons_succ, List.getElem_toArray, List.getElem_cons_zero, List.getElem_cons_succ, List.replicate, Array.replicate, List.size_toArray, List.length_cons, List.length_nil]
    refine wpAnyJ_one (i := 9) rfl rfl (by kernel_rfl) (fun K hK => ?_)
    go_simp
    refine hK.out _ _ (fun h => by omega) ?_
    clear hK K
    refine wpAnyJ_done (by kernel_rfl) ?_ _
    generalize hw4 : World.alloc _ _ = w4
    have hz3 : w2.heap.size ≤ w3.heap.size := hx3.size
    have hb9 : BK w4 w3.heap.size (.cells #[.slice p3 ls.length c3, .bool b] 76 (0, 0)) := by rw [← hw4]; exact BK.new _ _
    have he4 : BK w4 e (.cells #[rv, .pointer (some ⟨m, 0, none⟩)] 69 (0, 0)) := by rw [← hw4]; exact he3.alloc _
    have hm4 : MM R w4 m mb base room ts' tv' es' clk' := by rw [← hw4]; exact hm3.alloc _
    have ho4 : w4.ownsRow w.heap.size 48 2 (.slice p3 ls.length c3) ls.length (cellsOfL ls) := by rw [← hw4]; exact (own_base ho3 (show w.heap.size ≤ w2.heap.size by omega)).alloc _
    have hx4 : Ex (m :: mb :: tv.ownBlock.toList) w w4 := by rw [← hw4]; exact ((hxd.drop (by simp)).trans hx3).alloc _
    clear hw4 he3 hm3 ho3 hx3 hb73 c0 r0 hxd
    have HE4 := hide he4
    have HM4 := hide hm4
    have HO4 := hide ho4
    have HX4 := hide hx4
    obtain ⟨hc9, hf9⟩ := hb9.all
    have hl9 := hb9.lt
    have HAF := hide haf
    clear he4 hm4 ho4 hx4 haf hb9
    go_wp2_with fail
    go_quiet (fail)
    go_wp2_with fail
    go_ret3
    refine ⟨_, ls, b, rfl, HR3.out, hl60, own_drewN HO4.out _, ⟨ts', tv', es', clk', HAF.out, HE4.out.drewN _, HM4.out.drewN _, hel, HE.out.nem, HE.out.nemb⟩, ?_⟩
    exact HX4.out.drewN _
  · go_simp
    have hxd : Ex [] w (w2.alloc (Obj.cells #[.slice none 0 0, .bool false] 76)).drew := (HX02.out.alloc _).drew
    have he25 := ((HE2.out.alloc (Obj.cells #[.slice none 0 0, .bool false] 76)).drew)
    have hb75 := ((HB7.out.alloc (Obj.cells #[.slice none 0 0, .bool false] 76)).drew)
    have hb95 : BK (w2.alloc (Obj.cells #[.slice none 0 0, .bool false] 76)).drew w2.heap.size (.cells #[.slice none 0 0, .bool false] 76 (0, 0)) := (BK.new _ _).drew
    refine hK.out _ _ (fun _ => ⟨he25.all.1 1, hb75.rangeL⟩) ?_
    clear hK K
    simp only [Act.put, List.setIfInBounds_toArray, List.set_cons_zero, List.set_cons_succ, List.getElem_toArray, List.getElem_cons_zero, List.getElem_cons_succ, List.replicate, Array.replicate, List.size_toArray, List.length_cons, List.length_nil]
    refine wpAnyJ_one (i := 7) rfl rfl (by kernel_rfl) (fun K hK => ?_)
    go_simp
    refine (recall_any R m mb base room ts tv es clk S (.pointer (some ⟨e, 0, none⟩)) _ ((HM2.out.alloc (Obj.cells #[.slice none 0 0, .bool false] 76)).ex ((Ex.refl [] _).drew) (by simp)) HS.out (fun W hW => HWK.out W (hxd.trans hW))).mono ?_
    rintro x w3 ⟨v3, ls, b, rfl, hR3, hl60, ho3, ⟨ts', tv', es', clk', haf, hm3⟩, hx3⟩
    obtain ⟨p3, c3, rfl⟩ := own_slice ho3
    have he3 := he25.ex hx3 (HNE.out)
    have hb73 := hb75.ex hx3 (HNB.out _ (by omega))
    have hb93 := hb95.ex hx3 (HNB.out _ (by omega))
    have hz3 : w2.heap.size + 1 ≤ w3.heap.size := by have := hx3.size; simpa using this
    have HR3 := hide hR3
    obtain ⟨hc93, hf93⟩ := hb93.all
    have hl93 := hb93.lt
    refine hK.out _ _ (fun _ => ⟨he3.all.1 1, hb73.rangeL⟩) ?_
    clear hK K hR3
    unfold ansV
    simp only [Act.put, List.setIfInBounds_toArray, List.set_cons_zero, List.set_cons_succ, List.getElem_toArray, List.getElem_cons_zero, List.getElem_cons_succ, List.replicate, Array.replicate, List.size_toArray, List.length_cons, List.length_nil]
    refine wpAnyJ_one (i := 9) rfl rfl (by kernel_rfl) (fun K hK => ?_)
    go_simp
    refine hK.out _ _ (fun h => by omega) ?_
    clear hK K
    refine wpAnyJ_done (by kernel_rfl) ?_ _
    obtain ⟨w4, hw4⟩ : ∃ w4, w4 = (w3.setCell ⟨w2.heap.size, 0, none⟩ (.slice p3 ls.length c3)).setCell ⟨w2.heap.size, 1, none⟩ (.bool b) := ⟨_, rfl⟩
    rw [← hw4]
    have hb9 : BK w4 w2.heap.size (.cells #[.slice p3 ls.length c3, .bool b] 76 (0, 0)) := by
      have := (hb93.self 0 (.slice p3 ls.length c3)).self 1 (.bool b)
      simp only [List.setIfInBounds_toArray, List.set_cons_zero, List.set_cons_succ] at this
      rw [hw4]; exact this
    have he4 : BK w4 e (.cells #[rv, .pointer (some ⟨m, 0, none⟩)] 69 (0, 0)) := by rw [hw4]; exact (he3.set (by simp; omega) _).set (by simp; omega) _
    have hm4 : MM R w4 m mb base room ts' tv' es' clk' := by
      have hs1 := hm3.set hb93 (by decide) (by decide) (by have := HM2.out.blk.lt; omega) 0 (.slice p3 ls.length c3)
      rw [hw4]; exact hs1.set (hb93.self 0 (.slice p3 ls.length c3)) (by decide) (by decide) (by have := HM2.out.blk.lt; omega) 1 (.bool b)
    have ho4 : w4.ownsRow w.heap.size 48 2 (.slice p3 ls.length c3) ls.length (cellsOfL ls) := by
      have h1 : w3.ownsRow (w2.heap.size + 1) 48 2 (.slice p3 ls.length c3) ls.length (cellsOfL ls) := by simpa using ho3
      rw [hw4]; exact own_base (own_set (own_set h1 (by simp) _) (by simp) _) (by omega)
    have hx4 : Ex (m :: mb :: tv.ownBlock.toList) w w4 := by rw [hw4]; exact (((hxd.drop (by simp)).trans hx3).setCell (.inr (by simp; omega)) _).setCell (.inr (by simp; omega)) _
    clear hw4 he3 hm3 ho3 hx3 hb73 hb93 hc93 hf93 he25 hb75 hb95 c0 r0 hxd
    have HE4 := hide he4
    have HM4 := hide hm4
    have HO4 := hide ho4
    have HX4 := hide hx4
    obtain ⟨hc9, hf9⟩ := hb9.all
    have hl9 := hb9.lt
    have HAF := hide haf
    clear he4 hm4 ho4 hx4 haf hb9
    go_wp2_with fail
    go_quiet (fail)
    go_wp2_with fail
    go_ret3
    refine ⟨_, ls, b, rfl, HR3.out, hl60, own_drewN HO4.out _, ⟨ts', tv', es', clk', HAF.out, HE4.out.drewN _, HM4.out.drewN _, hel, HE.out.nem, HE.out.nemb⟩, ?_⟩
    exact HX4.out.drewN _
end Go.Proofs.YtmeffeigamaipabGreatDoor

/- An engine that is asked again and again: what it leaves as it was. -/
namespace Go.Proofs.YtmeffeigamaipabGreatDoor.G
open Go.RowKit

structure KL (w w' : World) : Prop where
  size : w.heap.size ≤ w'.heap.size
  block : ∀ k, IsLabs w k → w'.heap[k]? = w.heap[k]?
theorem KL.refl (w : World) : KL w w := ⟨Nat.le_refl _, fun _ _ => rfl⟩
theorem KL.trans {a b c : World} (h : KL a b) (k : KL b c) : KL a c := ⟨Nat.le_trans h.size k.size, fun i hi => by
  have e := h.block i hi
  have h2 : IsLabs b i := by
    obtain ⟨cur, fr, hb⟩ := hi
    exact ⟨cur, fr, by unfold BK at hb ⊢; rw [e]; exact hb⟩
  exact (k.block i h2).trans e⟩
theorem KL.ex0 {w w' : World} (h : Ex [] w w') : KL w w' := ⟨h.size, fun k hk => h.block k hk.lt (by simp)⟩
theorem KL.own {w w' : World} {base n : Nat} {v : Value} {xs : List Value} (k : KL w w') (h : w.ownsRow base 48 2 v n xs) : w'.ownsRow base 48 2 v n xs := by
  refine ⟨h.1, ?_⟩
  rcases h.2 with hn | ⟨g, cap, cur, rfl, hb, hgg, rest⟩
  · exact .inl hn
  · refine .inr ⟨g, cap, cur, rfl, hb, ?_, rest⟩
    rw [k.block g ⟨cur, _, hgg⟩]
    exact hgg
theorem not_lab {R : List Value → List Lab → Bool → Prop} {w : World} {m mb base room : Nat} {ts : List (List Value)} {tv : Value} {es : Array MapEntry} {clk : Nat} (h : MM R w m mb base room ts tv es clk) (k : Nat) (hk : IsLabs w k) : k ∉ (m :: mb :: tv.ownBlock.toList) := fun hm => by
  obtain ⟨cur, fr, hb⟩ := hk
  unfold BK at hb
  simp only [List.mem_cons, Option.mem_toList] at hm
  rcases hm with e | e | e
  · have h1 := h.blk
    unfold BK at h1
    rw [← e, hb] at h1
    simp only [Option.some.injEq, Obj.cells.injEq] at h1
    exact absurd h1.2.1 (by decide)
  · have h1 := h.map
    unfold BK at h1
    rw [← e, hb] at h1
    simp at h1
  · rcases h.row.2 with ⟨h1, _⟩ | ⟨g, cap, cur', h1, _, h2, _⟩
    · rw [h1] at e; cases e
    · rw [h1] at e
      cases e
      rw [hb] at h2
      simp only [Option.some.injEq, Obj.cells.injEq] at h2
      exact absurd h2.2.1 (by decide)
theorem KL.two {w w' : World} {R : List Value → List Lab → Bool → Prop} {m mb base room : Nat} {ts : List (List Value)} {tv : Value} {es : Array MapEntry} {clk : Nat} (h : MM R w m mb base room ts tv es clk) (hx : Ex (m :: mb :: tv.ownBlock.toList) w w') : KL w w' :=
  ⟨hx.size, fun k hk => hx.block k hk.lt (not_lab h k hk)⟩

def OE (B : Nat) (w : World) (e : Nat) (Fs : List (List Lab → List Lab × Bool)) : Prop := ∃ m mb base room lo ts, EG w e m mb base room lo Fs ts ∧ B ≤ m ∧ B ≤ mb ∧ B ≤ base
theorem OE.ex0 {B e : Nat} {w w' : World} {Fs : List (List Lab → List Lab × Bool)} (h : OE B w e Fs) (hx : Ex [] w w') : OE B w' e Fs := by
  obtain ⟨m, mb, base, room, lo, ts, he, h1, h2, h3⟩ := h
  obtain ⟨rv, tv, es, clk, hen, hru⟩ := he.ex
  exact ⟨m, mb, base, room, lo, ts, ⟨⟨rv, tv, es, clk, ⟨hen.blk.ex hx (by simp), hen.mem.ex hx (by simp), hen.lt, hen.nem, hen.nemb⟩, hru.kb (KB.ofEx hx (by simp) he.le)⟩, Nat.le_trans he.le hx.size, he.elo, he.mlo, he.mblo, he.fl⟩, h1, h2, h3⟩
theorem OE.ask {B e : Nat} {w : World} {Fs : List (List Lab → List Lab × Bool)} (h : OE B w e Fs) (v : Value) (ls : List Lab) (hg : GL w) (hv : SL w v ls) (hn : ls.length ≤ 20) (hw : ls.any wrongB = false) :
    Calls Tryz.prog 12 #[.pointer (some ⟨e, 0, none⟩), v] w fun x w' => ∃ v', x = .returned (.tuple #[v', .bool (runF Fs (bareL ls)).2, .int .i64 0]) ∧ (runF Fs (bareL ls)).1.length ≤ 60 ∧
      w'.ownsRow w.heap.size 48 2 v' (runF Fs (bareL ls)).1.length (cellsOfL (runF Fs (bareL ls)).1) ∧ OE B w' e Fs ∧ EB B [] w w' ∧ KL w w' := by
  obtain ⟨m, mb, base, room, lo, ts, he, h1, h2, h3⟩ := h
  obtain ⟨rv, tv, es, clk, hen, hru⟩ := he.ex
  obtain ⟨hok, hl20⟩ := bareL_ok ls hn hw
  have hS : SerOk (serC (bareL ls)) := serOk hl20 (fun l hl => by
    have h1 := name_size (hok.nam l hl)
    have h2 := (hok.val l hl).1
    unfold maxLen
    omega)
  refine (relabel_ex (RF Fs) e m mb base room rv ts tv es clk (serC (bareL ls)) v w hen hS (read_set v ls w hv hn hw) (works_any hen.blk hru he.le hg he.fl hl20 hok)).mono ?_
  rintro x w' ⟨v', ls', b, rfl, ⟨l0, hl0, hl0n, rfl, rfl⟩, h60, ho, ⟨ts', tv', es', clk', haf, hen'⟩, hx⟩
  have e0 := ser_inj hl20 hl0n hl0
  subst e0
  have hrow : ∀ k, tv.ownBlock = some k → base ≤ k := fun k hk => own_block hen.mem.row k hk
  have hbk : ∀ k, k < base → k ≠ m → k ≠ mb → w'.heap[k]? = w.heap[k]? := fun k hk n1 n2 => hx.block k (Nat.lt_of_lt_of_le hk he.le) (fun hm => by
    simp only [List.mem_cons, Option.mem_toList] at hm
    rcases hm with e | e | e
    · exact n1 e
    · exact n2 e
    · have := hrow k e; omega)
  refine ⟨v', rfl, h60, ho, ⟨m, mb, base, room, lo, ts', ⟨⟨rv, tv', es', clk', hen', ?_⟩, Nat.le_trans he.le hx.size, he.elo, he.mlo, he.mblo, he.fl⟩, h1, h2, h3⟩, ⟨hx.os, hx.tape, hx.output, hx.size, fun k hk _ => hbk k (by omega) (by omega) (by omega)⟩, KL.two hen.mem hx⟩
  exact hru.kb ⟨hx.size, fun b h1 h2 => hbk b h2 (by have := he.mlo; omega) (by have := he.mblo; omega)⟩
theorem OE.flush {B e : Nat} {w : World} {Fs : List (List Lab → List Lab × Bool)} (h : OE B w e Fs) :
    Calls Tryz.prog 16 #[.pointer (some ⟨e, 0, none⟩)] w fun x w' => x = .returned (.tuple #[]) ∧ OE B w' e Fs ∧ EB B [] w w' ∧ KL w w' := by
  obtain ⟨m, mb, base, room, lo, ts, he, h1, h2, h3⟩ := h
  obtain ⟨rv, tv, es, clk, hen, hru⟩ := he.ex
  refine (flush_any (RF Fs) e m mb base room rv ts tv es clk w hen).mono ?_
  rintro x w' ⟨rfl, hen', hx⟩
  refine ⟨rfl, ⟨m, mb, base, room, lo, [], ⟨⟨rv, _, _, clk, hen', hru.kb (KB.ofEx hx (fun y hy => ?_) he.le)⟩, Nat.le_trans he.le hx.size, he.elo, he.mlo, he.mblo, he.fl⟩, h1, h2, h3⟩, ⟨hx.os, hx.tape, hx.output, hx.size, fun k hk _ => hx.block k (by have := he.le; omega) (by simp; omega)⟩, KL.two hen.mem (hx.drop (fun y hy _ => by simp at hy ⊢; rcases hy with e | e <;> simp [e]))⟩
  have := he.mlo
  have := he.mblo
  simp at hy
  omega

structure NE (w : World) (e m mb room lo hi : Nat) (Fs : List (List Lab → List Lab × Bool)) : Prop where
  ex : ∃ rv clk, EN (RF Fs) w e m mb w.heap.size room rv [] (.slice none 0 0) #[] clk ∧ Rules lo hi w rv Fs
  elo : e < lo
  mlo : m < lo
  mblo : mb < lo
  lle : lo ≤ hi
  hle : hi ≤ w.heap.size
  fl : Fs.length ≤ 1000
theorem FE.ne {w : World} {e m mb room lo : Nat} {Fs : List (List Lab → List Lab × Bool)} (h : FE w e m mb room lo Fs) : NE w e m mb room lo w.heap.size Fs := ⟨h.ex, h.elo, h.mlo, h.mblo, h.lle, Nat.le_refl _, h.fl⟩
theorem NE.fe {w : World} {e m mb room lo hi : Nat} {Fs : List (List Lab → List Lab × Bool)} (h : NE w e m mb room lo hi Fs) : FE w e m mb room lo Fs := by
  obtain ⟨rv, clk, h1, h2⟩ := h.ex
  exact ⟨⟨rv, clk, h1, h2.up h.hle (Nat.le_refl _)⟩, h.elo, h.mlo, h.mblo, Nat.le_trans h.lle h.hle, h.fl⟩
theorem NE.step {w w' : World} {e m mb room lo hi : Nat} {Fs : List (List Lab → List Lab × Bool)} {o : List Nat} (h : NE w e m mb room lo hi Fs) (hx : Ex o w w') (ho : ∀ k ∈ o, (k < lo ∨ hi ≤ k) ∧ k ≠ e ∧ k ≠ m ∧ k ≠ mb) : NE w' e m mb room lo hi Fs := by
  obtain ⟨rv, clk, hen, hr⟩ := h.ex
  have hl := h.lle
  have hz := hx.size
  have hb := hen.blk.ex hx (fun hk => (ho e hk).2.1 rfl)
  have hm1 := hen.mem.blk.ex hx (fun hk => (ho m hk).2.2.1 rfl)
  have hm2 := hen.mem.map.ex hx (fun hk => (ho mb hk).2.2.2 rfl)
  have hmm : MM (RF Fs) w' m mb w'.heap.size room [] (.slice none 0 0) #[] clk :=
    ⟨hm1, hm2, World.ownsRow_nil _ _ _ _, hen.mem.keys, fun e he => by simp at he, fun S hS => by simp at hS, hen.mem.nodup, hen.mem.len, hen.mem.room1, hen.mem.room50, hm1.lt, hm2.lt, hen.mem.ne, Nat.le_refl _⟩
  exact ⟨⟨rv, clk, ⟨hb, hmm, hb.lt, hen.nem, hen.nemb⟩, hr.kb (KB.ofEx hx (fun k hk => (ho k hk).1) h.hle)⟩, h.elo, h.mlo, h.mblo, hl, Nat.le_trans h.hle hz, h.fl⟩
theorem FE.oe {w : World} {e m mb room lo B : Nat} {Fs : List (List Lab → List Lab × Bool)} (h : FE w e m mb room lo Fs) (h1 : B ≤ m) (h2 : B ≤ mb) (h3 : B ≤ w.heap.size) : OE B w e Fs := by
  obtain ⟨rv, clk, hen, hr⟩ := h.ex
  exact ⟨m, mb, w.heap.size, room, lo, [], ⟨⟨rv, _, _, clk, hen, hr⟩, Nat.le_refl _, h.elo, h.mlo, h.mblo, h.fl⟩, h1, h2, h3⟩
theorem EB.exs {a w w' : World} (h : Ex [] a w) (k : EB a.heap.size [] w w') : Ex [] a w' := ⟨k.os.trans h.os, k.tape.trans h.tape, k.output.trans h.output, Nat.le_trans h.size k.size, fun i hi hn => (k.block i hi hn).trans (h.block i hi hn)⟩

def dotStar : ByteArray := ⟨#[46, 42]⟩
theorem make_drop {w : World} {x : EV} (hp : Pre w x) : Calls Tryz.prog 34 #[ruleV 2 (.slice none 0 0) ⟨#[]⟩ dotStar ⟨#[]⟩ ⟨#[]⟩ 0] w fun x w' => (∃ f a b, x = .returned (.tuple #[.agg #[.func f a b], .int .i64 0, .int .i64 0])) ∧ Ex [] w w' := by
  have h := mk2 (p := none) (c := 0) (ss := []) (se := ⟨#[]⟩) (re := dotStar) hp ⟨.inl ⟨rfl, rfl⟩, by simp, fun s hs => by simp at hs, by decide, List.mem_of_getElem? (show pats[1]? = some dotStar from rfl)⟩ w (Ex.refl _ _)
  refine Calls.mono h ?_
  rintro x w' ⟨⟨f, a, b, rfl, _⟩, hx⟩
  exact ⟨⟨f, a, b, rfl⟩, hx⟩

set_option maxHeartbeats 2000000 in
set_option maxRecDepth 100000 in
theorem load_refused (e rb0 : Nat) (w : World) {x : EV} (hp : Pre w x)
    (hr0 : BK w rb0 (.cells #[.int .i64 2, .slice none 0 0, .string ⟨#[]⟩, .string ⟨#[46, 42]⟩, .string ⟨#[]⟩, .string ⟨#[]⟩, .int .u64 0, .int .i64 11, .slice none 0 0, .string ⟨#[]⟩, .string ⟨#[]⟩, .string ⟨#[]⟩, .string ⟨#[]⟩, .int .u64 0] 37 (0, 0))) :
    Calls Tryz.prog 15 #[.pointer (some ⟨e, 0, none⟩), .slice (some ⟨rb0, 0, none⟩) 2 2] w fun x w' => x = .returned (.tuple #[.int .i64 1, .int .i64 1, .int .i64 0]) ∧ Ex [] w w' := by
  obtain ⟨i0, hi, hz0, hz1, hz2⟩ := info_parts infoRule
  have H0 := hide hr0
  obtain ⟨hcr, hfr⟩ := hr0.all
  have hrl := hr0.lt
  have HMK1 := hide (make_drop (hp.ex ((Ex.refl [] _).alloc (Obj.cells #[.int .i64 2, .slice none 0 0, .string ⟨#[]⟩, .string ⟨#[46, 42]⟩, .string ⟨#[]⟩, .string ⟨#[]⟩, .int .u64 0] 37))))
  have HMK2 := hide (fun W => make_noAction 11 (.slice none 0 0) ⟨#[]⟩ ⟨#[]⟩ ⟨#[]⟩ ⟨#[]⟩ 0 W (.inr (by omega)))
  unfold ruleV dotStar at HMK1
  unfold ruleV at HMK2
  clear hr0 hp
  go_enter Tryz.func15, Tryz.ntmps15
  go_wp2_with fail
  refine wp_loop_rounds 2 ?_
  rw [rounds_succ]
  go_wp2_with fail
  refine HMK1.out.mono ?_
  rintro x w1 ⟨⟨f, fa, fb, rfl⟩, hx1⟩
  have hx01 : Ex [] w w1 := ((Ex.refl _ _).alloc _).trans hx1
  have hst := store_func f fa fb (BK.new w1 (Obj.cells #[.nilFunc] 81))
  have HX01 := hide hx01
  clear hx1 hx01 hcr hfr
  go_wp2_with (at_builtin; refine wpList_append_lies _ rfl (.tmp 34) (.tmp 36) 67 rfl w1.heap.size 81 i0 (.agg #[.nilFunc]) 1 8 Tryz.underlying67 hi hz0 hz1 hz2 rfl (by decide) (.slice none 0 0) 0 [] rfl (World.ownsRow_nil _ _ _ _) ⟨w1.heap.size + 1, 0, none⟩ 1 1 [.func f fa fb] rfl rfl (by have h9 := cells_new (w1.alloc (Obj.cells #[.func f fa fb] 81)) #[.func f fa fb] 81; simp only [World.size_alloc] at h9; exact h9) (by simp [Value.oneCell']) (by decide) (by unfold maxLen; omega) (by omega) (by simp only [World.size_alloc]; omega) (w1.heap.size + 1 + 1) (by simp) ?_)
  intro gb cap w2 hown2 hgrow hcase hlt2
  have hx02 : Ex [] w w2 := HX01.out.trans (Ex.grown (((Ex.refl _ _).alloc _).alloc _) hgrow (by simp [Value.ownBlock]))
  obtain ⟨hcr, hfr⟩ := (H0.out.ex hx02 (by simp)).all
  have hrl2 := (H0.out.ex hx02 (by simp)).lt
  have HX02 := hide hx02
  clear hown2 hgrow hcase hx02 hst
  go_wp2_with fail
  rw [rounds_succ]
  go_wp2_with fail
  refine (HMK2.out _).mono ?_
  rintro x w3 ⟨rfl, hx3⟩
  have hst := store_nilFunc (BK.new w3 (Obj.cells #[.nilFunc] 81))
  have HX3 := hide ((HX02.out.alloc (Obj.cells #[.int .i64 11, .slice none 0 0, .string ⟨#[]⟩, .string ⟨#[]⟩, .string ⟨#[]⟩, .string ⟨#[]⟩, .int .u64 0] 37)).trans hx3)
  clear hx3 hcr hfr
  go_wp2_with fail
  go_ret3
  exact ⟨rfl, HX3.out.alloc _⟩
end Go.Proofs.YtmeffeigamaipabGreatDoor.G
