/- The contract of Pattern.Match, at a row of single runes. -/
import Derived.Test.YtmeffeigamaipaaDoorQ8
import Derived.Test.YtmeffeigamaipaaDoorW21
set_option linter.unusedVariables false
set_option linter.unusedSimpArgs false
namespace Go.Proofs.YtmeffeigamaipaaDoor.Q
open Go.RowKit

def rune (s : ByteArray) (a : Nat) : Nat := (Lib.decodeGo (s.extract a s.size)).1
/-- From place a on the string is just a rune of each set. -/
def mt (s : ByteArray) : List Cls → Nat → Bool
  | [], a => decide (a = s.size)
  | c :: cl, a => decide (a < s.size) && (hasC c (rune s a) && mt s cl (a + rsz s a))

theorem mt_step (s : ByteArray) (cl : List Cls) (j a : Nat) (hj : j < cl.length) (ha : a < s.size) : mt s (cl.drop j) a = (hasC (cl[j]'hj) (rune s a) && mt s (cl.drop (j + 1)) (a + rsz s a)) := by
  rw [List.drop_eq_getElem_cons hj]
  simp [mt, ha]
theorem mt_done (s : ByteArray) (cl : List Cls) (j : Nat) (hj : cl.length ≤ j) : mt s (cl.drop j) s.size = true := by
  rw [List.drop_eq_nil_of_le hj]
  simp [mt]
theorem mt_short (s : ByteArray) (cl : List Cls) (j : Nat) (hj : j < cl.length) : mt s (cl.drop j) s.size = false := by
  rw [List.drop_eq_getElem_cons hj]
  simp [mt]
theorem mt_over (s : ByteArray) (cl : List Cls) (j a : Nat) (hj : cl.length ≤ j) (ha : a < s.size) : mt s (cl.drop j) a = false := by
  rw [List.drop_eq_nil_of_le hj]
  simp [mt]; omega

set_option maxHeartbeats 2000000 in
set_option maxRecDepth 100000 in
theorem Match_cls (q base m : Nat) (cl : List Cls) (s : ByteArray) (w : World) (hp : PT w q base m cl) (hm : m ≤ 60) (hs : s.size ≤ 9223372036854775807) (hT : Lib.Utf8Tabs 1 2 w) :
    Calls Tryd.prog 15 #[.pointer (some ⟨q, 0, none⟩), .string s] w fun e w' =>
      ((mt s cl 0 = true → ∃ g nv, e = .returned (.tuple #[.agg #[.string s, .slice (some ⟨g, 0, none⟩) 1 1, .map (some nv)], .bool true]) ∧ BK w' g (.cells #[.int .i64 0, .int .i64 s.size] 41 (0, 0))) ∧
       (mt s cl 0 = false → e = .returned (.tuple #[.agg #[.string ⟨#[]⟩, .slice none 0 0, .map none], .bool false]))) ∧ Ex [] w w' := by
  have HPT := hide hp
  have HT := hide hT
  have H1 := hide (rs_all s)
  have hlen := hp.len
  have htl := tabs_lt hT
  obtain ⟨cg, cc, sg, sc, B, mb, hpc⟩ := hp.pc
  have HPC := hide hpc
  clear hp hT hpc
  go_enter Tryd.func15, Tryd.ntmps15
  go_wp2_with fail
  refine (newRun_cls q base m cl _ (HPT.out.ex' ((Ex.refl _ _).alloc _)) hm).mono ?_
  rintro e w1 ⟨u, gr, rfl, hgl, hgu, hul, hbu, hrc, hx1⟩
  simp only [World.size_alloc] at hgl
  have hx01 : Ex [] w w1 := ((Ex.refl _ _).alloc _).trans hx1
  have hz1 := hx01.size
  have hp1 := HPC.out.eb (EB.ofEx hx01 (Nat.le_refl _))
  have hres : BK w1 w.heap.size (.cells #[.string ⟨#[]⟩, .slice none 0 0, .map none] 47 (0, 0)) := (BK.new _ _).ex hx1 (by simp)
  have s1 : w1.cell? ⟨q, 1, none⟩ = some (.slice (some ⟨sg, 0, none⟩) 1 sc) := hp1.blk.all.1 1
  obtain ⟨cs, hgr, hcs, hcz, hci⟩ := hrc
  have HX1 := hide hx01
  have HP1 := hide hp1
  have HU1 := hide hbu
  have HG1 := hide hgr
  have HRES := hide hres
  have HCZ := hide hcz
  have HCI := hide hci
  have hqt := hp1.qt
  have hsgt := hp1.sgt
  clear hx1 hx01 hp1 hres hbu hgr hcz hci
  go_wp2_with fail
  go_region_held3 (fun w' => w'.cell? ⟨q, 1, none⟩ = some (.slice (some ⟨sg, 0, none⟩) 1 sc))
    (first | exact q3 | exact q2 | exact s1)
    (first
      | (go_at_call 24; refine (unset_any _).mono ?_; rintro e w2 ⟨rfl, hx2⟩; have q2 := (hx2.cell0.1 q 1 (show q < w1.heap.size by omega)).trans s1)
      | (go_at_call 23; refine (follow_one u gr sg sc (m + 1) 0 w1.heap.size 0 (.pointer (some ⟨q, 0, none⟩)) (.slice none 0 0) (.slice none 0 0) _ cs (-1) (World.ownsRow_nil _ _ _ _) (HU1.out.drew.ex hx2 (by simp)) (HG1.out.drew.ex hx2 (by simp)) hcs (by omega) (by omega) (HCZ.out 0 (Nat.le_refl _) (by omega)) (by decide) hul (by omega) (by omega) hx2.size ((hx2.cell0.1 sg 0 (show sg < w1.heap.size by omega)).trans HP1.out.s0) ((hx2.cell0.1 sg 1 (show sg < w1.heap.size by omega)).trans HP1.out.s1) (by have h0 : w1.heap.size ≤ w2.heap.size := hx2.size; omega)).mono ?_; rintro e w3 ⟨rfl, nowV', hu3, ho3, hg3, hx3, hor3⟩; have q3 := (hx3.cell.1 q 1 (by have h0 : w1.heap.size ≤ w2.heap.size := hx2.size; omega) (by simp [Value.ownBlock]; omega)).trans q2))
  have hz2 : w1.heap.size ≤ w2.heap.size := hx2.size
  have hz3 := hx3.size
  have e13 : EB (w.heap.size + 1) [] w1 w3 := (((EB.refl (w.heap.size + 1) [] w1).drew).trans (EB.ofEx hx2 (show w.heap.size + 1 ≤ w1.heap.size by omega))).trans ((EB.ofEx hx3 (by omega)).mono (Nat.le_refl _) (fun x hx hlt => by simp [Value.ownBlock] at hx; omega))
  have rn3 : RN w3 u gr w1.heap.size q m 0 nowV' (.slice none 0 0) := ⟨hu3, ho3, ⟨0, [], World.ownsRow_nil _ _ _ _⟩, fun b _ h => by simp [Value.ownBlock] at h, RC.next hg3 hcs (fun i h1 h2 => HCZ.out i h1 h2) HCI.out, hul, by omega, by omega, by omega⟩
  have E13 := hide e13
  have RN3 := hide rn3
  have HPX := hide (HP1.out.up (show w.heap.size ≤ w.heap.size + 1 by omega))
  clear e13 rn3 hu3 ho3 hg3 hx3 hx2 hor3 q2 q3 s1 hcs
  go_wp2_with fail
  go_loopg [7] s.size (fun gk at7 wr => ∃ (a j : Nat) (nowV nextV : Value), a + gk = s.size ∧ at7 = .int .i64 a ∧ j ≤ m ∧ mt s (cl.drop j) a = mt s cl 0 ∧ RN wr u gr w1.heap.size q m j nowV nextV ∧ EB (w.heap.size + 1) [] w1 wr)
  case atStart => exact ⟨0, 0, _, _, by omega, rfl, by omega, rfl, RN3.out, E13.out⟩
  case round =>
    obtain ⟨a, j, nowV, nextV, hga, rfl, hjm, hcnt, hrn, heb⟩ := hrel
    have HRN := hide hrn
    have HEB := hide heb
    have HCN := hide hcnt
    clear hrn heb hcnt
    cases gk with
    | zero =>
      have HCJ := HCN
      obtain rfl : a = s.size := by omega
      clear hga
      have hpr := HPX.out.eb HEB.out
      have hrr : BK wr w.heap.size (.cells #[.string ⟨#[]⟩, .slice none 0 0, .map none] 47 (0, 0)) := HRES.out.eb HEB.out (by omega) (by simp)
      have hzr : w1.heap.size ≤ wr.heap.size := HEB.out.size
      by_cases hj : j = m
      · go_wp2_with fail
        refine (accepted_yes u gr w1.heap.size q m j (w.heap.size + 1) cg cc sg sc B mb nowV nextV _ cl hpr HRN.out hj hm (by omega)).mono ?_
        rintro e w4 ⟨rfl, hx4⟩
        have hr4 := hrr.ex hx4 (by simp)
        have hp4 := hpr.eb (EB.ofEx hx4 (by omega))
        have s4 : w4.cell? ⟨q, 4, none⟩ = some (.map (some mb)) := hp4.blk.all.1 4
        have HX4 := hide hx4
        have HR4 := hide hr4
        have HP4 := hide hp4
        have HJ := hide hj
        have hl4 := hr4.lt
        have hz4 := hx4.size
        have h90 := Tryd.underlying79
        have hs90 := size90
        clear hx4 hr4 hpr hrr hp4 hj
        unfold unsetV
        go_wp2_with fail
        generalize hw5 : World.alloc w4 _ = w5
        have hx5 : Ex [] w4 w5 := by rw [← hw5]; exact (Ex.refl _ _).alloc _
        have hb5 : BK w5 w4.heap.size (.cells #[.int .i64 (-1), .int .i64 (-1), .int .i64 (-1), .int .i64 (-1), .int .i64 (-1), .int .i64 (-1), .int .i64 (-1), .int .i64 (-1), .int .i64 (-1), .int .i64 (-1)] 79 (0, 0)) := by rw [← hw5]; exact BK.new _ _
        have hp5 := HP4.out.eb (EB.ofEx hx5 (by omega))
        have t1 : w5.rangeAt w4.heap.size 0 unsetL := hb5.range
        have t2 : w5.cell? ⟨q, 4, none⟩ = some (.map (some mb)) := hp5.blk.all.1 4
        have hz5 := hx5.size
        have hl5 := hb5.lt
        have HX5 := hide hx5
        have HB5 := hide hb5
        have HP5 := hide hp5
        have HR5 := hide (HR4.out.ex hx5 (by simp))
        clear hw5 hx5 hb5 hp5 s4
        go_region_held3 (fun w' => w'.rangeAt w4.heap.size 0 unsetL ∧ w'.cell? ⟨q, 4, none⟩ = some (.map (some mb)))
          (first | exact ⟨(((hb6.set (by simp; omega) _).set (by simp; omega) _).set (by simp; omega) _).range, (((hq6.set (by simp; omega) _).set (by simp; omega) _).set (by simp; omega) _).all.1 4⟩ | exact ⟨hb6.range, hq6.all.1 4⟩ | exact ⟨t1, t2⟩)
          (first
            | (go_at_call 28; refine (spans_none q m (w.heap.size + 1) cg cc sg sc B mb _ w5.drew cl (HP5.out.eb ((EB.refl _ _ _).drew)) (show q < w5.heap.size by omega)).mono ?_; rintro e w6 ⟨g6, rfl, hg6, hbg6, hx6⟩; have hb6 := HB5.out.drew.ex hx6 (by simp); have hq6 := HP5.out.blk.drew.ex hx6 (by simp); have hr6 := HR5.out.drew.ex hx6 (by simp); obtain ⟨hc6, hf6⟩ := hr6.all))
        have HBG6 := hide hbg6
        have HX6 := hide hx6
        have hg6' : w5.heap.size ≤ g6 := hg6
        clear hb6 hq6 hr6 hx6 hbg6 hg6 t1 t2 h90 hs90
        go_wp2_with fail
        refine bodyPost_ret (v := .tuple #[.agg #[.string s, .slice (some ⟨g6, 0, none⟩) 1 1, .map (some mb)], .bool true]) (by simp [results, Tryd.results15, go_sem, hc6]) rfl ⟨⟨fun _ => ⟨g6, mb, rfl, ((HBG6.out.set (by simp; omega) _).set (by simp; omega) _).set (by simp; omega) _⟩, fun h => absurd (HCJ.out.trans h) (by rw [mt_done s cl j (by have := HJ.out; omega)]; decide)⟩, ?_⟩
        repeat (refine Ex.setCell ?_ (Or.inr (by simp)) _)
        exact (EB.toEx ((EB.ofEx HX1.out (Nat.le_refl _)).trans (HEB.out.mono (by omega) (by simp)))).trans (HX4.out.trans (HX5.out.trans (((Ex.refl _ _).drew).trans HX6.out)))
      · go_wp2_with fail
        refine (accepted_no u gr w1.heap.size q m j (w.heap.size + 1) cg cc sg sc B mb nowV nextV _ cl hpr HRN.out (by omega) hm (by omega)).mono ?_
        rintro e w4 ⟨rfl, hx4⟩
        have hr4 := hrr.ex hx4 (by simp)
        obtain ⟨hc4, hf4⟩ := hr4.all
        have HX4 := hide hx4
        have hl4 := hr4.lt
        clear hx4 hr4 hpr hrr
        go_wp2_with fail
        refine bodyPost_ret (v := .tuple #[.agg #[.string ⟨#[]⟩, .slice none 0 0, .map none], .bool false]) (by simp [results, Tryd.results15, go_sem, hc4, hl4]) rfl ⟨⟨fun h => absurd (HCJ.out.trans h) (by rw [mt_short s cl j (by omega)]; decide), fun _ => rfl⟩, ?_⟩
        refine Ex.alloc ?_ _
        repeat (refine Ex.setCell ?_ (Or.inr (by simp)) _)
        exact (EB.toEx ((EB.ofEx HX1.out (Nat.le_refl _)).trans (HEB.out.mono (by omega) (by simp)))).trans HX4.out
    | succ g =>
      have ha : a < s.size := by omega
      have ha' : (a : Int) < (s.size : Int) := by omega
      have ha2 : (a : Int) ≤ (s.size : Int) := by omega
      have hz := H1.out a ha
      go_wp2_with fail
      refine (Tryd.utf8_DecodeRuneInString _ _ (tabs_eb HT.out ((EB.ofEx HX1.out (Nat.le_refl _)).trans (HEB.out.mono (by omega) (by simp))) htl)).mono ?_
      rintro e w4 ⟨rfl, hb4⟩
      rw [show (Lib.decodeGo (s.extract a s.size)).2 = rsz s a from rfl]
      obtain ⟨rn, hrn⟩ : ∃ rn, (Lib.decodeGo (s.extract a s.size)).1 = rn := ⟨_, rfl⟩
      have HRNE := hide hrn
      rw [hrn]
      clear hrn
      have hx4 := Ex.below hb4
      have hp4 := HPX.out.eb (HEB.out.trans (EB.ofEx hx4 (by have := HEB.out.size; omega)))
      have HE4 := hide (HEB.out.trans (EB.ofEx hx4 (by have := HEB.out.size; omega)))
      have HR4 := hide (HRN.out.ex hx4)
      have HP4 := hide hp4
      clear hb4 hx4 hp4
      go_wp2_with fail
      by_cases hj : j < m
      · obtain ⟨c, hcj⟩ : ∃ c, ∀ h, cl[j]'h = c := ⟨cl[j]'(by omega), fun _ => rfl⟩
        have hms := mt_step s cl j a (by omega) ha
        rw [hcj, show rune s a = rn from HRNE.out] at hms
        have HMS := hide hms
        clear hms
        cases hh : hasC c (rn : Int) with
        | false =>
          refine (step_fail u gr w1.heap.size q m j (w.heap.size + 1) cg cc sg sc B mb _ _ nowV nextV _ cl HP4.out HR4.out c hj hcj hh hm (by omega) (by omega) (by omega) (by omega)).mono ?_
          rintro e w5 ⟨rfl, he5⟩
          have hr5 : BK w5 w.heap.size (.cells #[.string ⟨#[]⟩, .slice none 0 0, .map none] 47 (0, 0)) := HRES.out.eb (HE4.out.trans he5) (by omega) (by simp)
          obtain ⟨hc5, hf5⟩ := hr5.all
          have HE5 := hide (HE4.out.trans he5)
          clear he5 hr5
          go_wp2_with fail
          refine bodyPost_ret (v := .tuple #[.agg #[.string ⟨#[]⟩, .slice none 0 0, .map none], .bool false]) (by simp [results, Tryd.results15, go_sem, hc5]) rfl ⟨⟨fun h => absurd (HCN.out.trans h) (by rw [HMS.out, hh]; simp), fun _ => rfl⟩, ?_⟩
          repeat (refine Ex.setCell ?_ (Or.inr (by simp)) _)
          exact EB.toEx ((EB.ofEx HX1.out (Nat.le_refl _)).trans (HE5.out.mono (by omega) (by simp)))
        | true =>
        refine (step_take u gr w1.heap.size q m j (w.heap.size + 1) cg cc sg sc B mb _ _ nowV nextV _ cl HP4.out HR4.out c hj hcj hh hm (by omega) (by omega) (by omega) (by omega)).mono ?_
        rintro e w5 ⟨rfl, ⟨nowV5, nextV5, hrn5⟩, he5⟩
        have HR5 := hide hrn5
        have HE5 := hide he5
        clear hrn5 he5
        go_wp2_with fail
        go_roundg (s.size - (a + rsz s a))
        case measure => omega
        case rel => exact ⟨a + rsz s a, j + 1, _, _, by omega, by simp, by omega, by have h1 := HCN.out; rw [HMS.out, hh] at h1; simpa using h1, HR5.out, HE4.out.trans HE5.out⟩
      · refine (step_last u gr w1.heap.size q m j (w.heap.size + 1) cg cc sg sc B mb _ _ nowV nextV _ cl HP4.out HR4.out (by omega) hm (by omega) (by omega)).mono ?_
        rintro e w5 ⟨rfl, he5⟩
        have hr5 : BK w5 w.heap.size (.cells #[.string ⟨#[]⟩, .slice none 0 0, .map none] 47 (0, 0)) := HRES.out.eb (HE4.out.trans he5) (by omega) (by simp)
        obtain ⟨hc5, hf5⟩ := hr5.all
        have HE5 := hide (HE4.out.trans he5)
        clear he5 hr5
        go_wp2_with fail
        refine bodyPost_ret (v := .tuple #[.agg #[.string ⟨#[]⟩, .slice none 0 0, .map none], .bool false]) (by simp [results, Tryd.results15, go_sem, hc5]) rfl ⟨⟨fun h => absurd (HCN.out.trans h) (by rw [mt_over s cl j a (by omega) ha]; decide), fun _ => rfl⟩, ?_⟩
        repeat (refine Ex.setCell ?_ (Or.inr (by simp)) _)
        exact EB.toEx ((EB.ofEx HX1.out (Nat.le_refl _)).trans (HE5.out.mono (by omega) (by simp)))
end Go.Proofs.YtmeffeigamaipaaDoor.Q
