/- retagkeep.Sets answers true, whatever its arguments. -/
import Derived.Test.YtmeffeigamaipabGreatDoorN6
import Derived.Test.YtmeffeigamaipabGreatDoorN7
import Derived.Deep.DeepCutAuto
set_option linter.unusedVariables false
set_option linter.unusedSimpArgs false
namespace Go.Proofs.YtmeffeigamaipabGreatDoor.G
open Go.RowKit

theorem bk5 (w : World) (o0 o1 o2 o3 o4 o5 : Obj) : BK ((((((w.alloc o0).alloc o1).alloc o2).alloc o3).alloc o4).alloc o5) (w.heap.size + 1 + 1 + 1 + 1 + 1) o5 := by simpa using BK.new (((((w.alloc o0).alloc o1).alloc o2).alloc o3).alloc o4) o5
theorem mkS9 {w : World} {x : EV} {p : Option Addr} {c : Nat} {ss : List ByteArray} {se ta : ByteArray} (hp : Pre w x) (hr : SS w (.slice p ss.length c) ss) (hl : ss.length ≤ 5) (hn : ∀ s ∈ ss, nameB s = true) (hs : se.size ≤ 60) (h2 : nameB ta = true) : Makes w ⟨9, p, ss.length, c, se, ⟨#[]⟩, ta, ⟨#[]⟩, 0⟩ (F9 ss se ta) := by
  refine makes_of 9 ⟨true, false, true, false, false⟩ rfl p c ss se _ ta _ 0 w _ (fun _ _ _ => True) hp.ub hp.gl hr (by omega) (fun s hs => name_size (hn s hs)) hs (name_size h2) (by decide) (fun _ _ _ _ _ _ => trivial) (fun h => by cases h) (fun _ _ _ _ => trivial) ?_ (deeds9 ss se ta _ 0 h2 (by omega) hs)
  simp [makeR, big_no (ss := ss) (se := se) (ta := ta) (rp := ⟨#[]⟩) hl hn hs (name_size h2) (by decide), all_names hn, unusedB, emp_sz, targetB, h2]
theorem mkS10 {w : World} {x : EV} {p : Option Addr} {c : Nat} {ss : List ByteArray} {se ta : ByteArray} (hp : Pre w x) (hr : SS w (.slice p ss.length c) ss) (hl : ss.length ≤ 5) (hn : ∀ s ∈ ss, nameB s = true) (hs : se.size ≤ 60) (h2 : nameB ta = true) : Makes w ⟨10, p, ss.length, c, se, ⟨#[]⟩, ta, ⟨#[]⟩, 0⟩ (F10 ss se ta) := by
  refine makes_of 10 ⟨true, false, true, false, false⟩ rfl p c ss se _ ta _ 0 w _ (fun _ _ _ => True) hp.ub hp.gl hr (by omega) (fun s hs => name_size (hn s hs)) hs (name_size h2) (by decide) (fun _ _ _ _ _ _ => trivial) (fun h => by cases h) (fun _ _ _ _ => trivial) ?_ (deeds10 ss se ta _ 0 h2 (by omega) hs)
  simp [makeR, big_no (ss := ss) (se := se) (ta := ta) (rp := ⟨#[]⟩) hl hn hs (name_size h2) (by decide), all_names hn, unusedB, emp_sz, targetB, h2]
theorem mkS5 {w : World} {x : EV} {p : Option Addr} {c : Nat} {ss : List ByteArray} {se ta : ByteArray} {mo : Int} (hp : Pre w x) (hr : SS w (.slice p ss.length c) ss) (hl : ss.length ≤ 5) (hn : ∀ s ∈ ss, nameB s = true) (hs : se.size ≤ 60) (h2 : nameB ta = true) (hm : 1 ≤ mo) : Makes w ⟨5, p, ss.length, c, se, ⟨#[]⟩, ta, ⟨#[]⟩, mo⟩ (F5 ss se ta mo) := by
  have h5 : ¬ mo = 0 := by omega
  refine makes_of 5 ⟨true, false, true, false, true⟩ rfl p c ss se _ ta _ mo w _ (fun _ _ _ => True) hp.ub hp.gl hr (by omega) (fun s hs => name_size (hn s hs)) hs (name_size h2) (by decide) (fun _ _ _ _ _ _ => trivial) (fun h => by cases h) (fun _ _ _ _ => trivial) ?_ (deeds5 ss se ta _ mo hm h2 (by omega) hs)
  simp [makeR, big_no (ss := ss) (se := se) (ta := ta) (rp := ⟨#[]⟩) hl hn hs (name_size h2) (by decide), all_names hn, unusedB, emp_sz, targetB, h2, h5]
theorem all_mem : allT ∈ pats := by unfold allT pats; simp
theorem mkS0 {w : World} {x : EV} {p : Option Addr} {c : Nat} {ss : List ByteArray} {se ta : ByteArray} (hp : Pre w x) (hr : SS w (.slice p ss.length c) ss) (hl : ss.length ≤ 5) (hn : ∀ s ∈ ss, nameB s = true) (hs : se.size ≤ 60) (h2 : nameB ta = true) : Makes w ⟨0, p, ss.length, c, se, allT, ta, oneT, 0⟩ (F0 ss se allT ta oneT) := by
  refine makes_of 0 ⟨true, true, true, true, false⟩ rfl p c ss se allT ta oneT 0 w _ (PatP allT) hp.ub hp.gl hr (by omega) (fun s hs => name_size (hn s hs)) hs (name_size h2) (by decide) PatP.ex (fun _ => patReads hp.ev (pat_good all_mem)) (fun h => by cases h) ?_ (deeds0 ss se allT ta oneT 0 (pat_fit2 all_mem) (by omega) hs (name_size h2) (by decide))
  simp [makeR, big_no (ss := ss) (se := se) (ta := ta) (rp := oneT) hl hn hs (name_size h2) (by decide), all_names hn, unusedB, emp_sz, targetB, name_pos h2]
theorem F0_all (ss : List ByteArray) (se ta : ByteArray) (h2 : nameB ta = true) (ls : List Lab) : F0 ss se allT ta oneT ls = (Go.Proofs.YtmeffeigamaipabGreatDoor.setL ls ta (textN ls ss se), true) := by
  unfold F0 replM
  rw [match_all, all_n]
  dsimp only
  rw [name_tpl _ _ h2, one_tpl]
  unfold nmdL
  rw [if_pos h2]

theorem hashF_any (s : ByteArray) (w : World) (hs : s.size ≤ 9223372036854775807) :
    Calls Tryz.prog 28 #[.string s] w fun e w' => e = .returned (.int .u64 (hashM s)) ∧ w' = w := by
  have K := hide (fun w' => hash_any s w' hs)
  obtain ⟨h, hh⟩ : ∃ h, h = hashM s := ⟨_, rfl⟩
  rw [← hh] at K ⊢
  clear hh
  go_enter Tryz.func28, Tryz.ntmps28
  go_wp2_with fail
  refine (K.out _).mono ?_
  rintro e w1 ⟨rfl, rfl⟩
  go_wp2_with fail
  go_ret
  exact ⟨rfl, rfl⟩
theorem runF_one (F : List Lab → List Lab × Bool) (ls : List Lab) (h : (F ls).2 = true) : runF [F] ls = ((F ls).1, true) := by
  unfold runF
  rw [if_pos h]
  rfl
theorem text_single (ls : List Lab) (t se : ByteArray) : textN ls [t] se = valN ls t := by
  unfold textN joinB
  apply ByteArray.ext
  apply Array.toList_inj.1
  simp [Lib.join, Lib.joinTail]
theorem names_two : ∀ s ∈ [bN1, abN1], nameB s = true := by decide
theorem strs_two {w : World} {b : Nat} {x y : ByteArray} (h : BK w b (.cells #[.string x, .string y] 9 (0, 0))) : SS w (.slice (some ⟨b, 0, none⟩) 2 2) [x, y] := by
  refine .inr ⟨b, 2, rfl, h.lt, fun j s hj => ?_⟩
  rw [h.all.1]
  match j, hj with
  | 0, hj => simp at hj; subst hj; rfl
  | 1, hj => simp at hj; subst hj; rfl
theorem strs_one {w : World} {b : Nat} {x : ByteArray} (h : BK w b (.cells #[.string x] 9 (0, 0))) : SS w (.slice (some ⟨b, 0, none⟩) 1 1) [x] := by
  refine .inr ⟨b, 1, rfl, h.lt, fun j s hj => ?_⟩
  rw [h.all.1]
  match j, hj with
  | 0, hj => simp at hj; subst hj; rfl
theorem labs_two {w : World} {b : Nat} {a v c d : ByteArray} (h : BK w b (.cells #[.string a, .string v, .string c, .string d] 48 (0, 0))) : SL w (.slice (some ⟨b, 0, none⟩) 2 2) [(a, v), (c, d)] := by
  refine .inr ⟨b, 2, rfl, h.lt, fun j l hj => ?_⟩
  rw [h.all.1, h.all.1]
  match j, hj with
  | 0, hj => simp at hj; subst hj; exact ⟨rfl, rfl⟩
  | 1, hj => simp at hj; subst hj; exact ⟨rfl, rfl⟩

set_option maxHeartbeats 8000000 in
set_option maxRecDepth 100000 in
theorem sets_any (v w0 sep : ByteArray) (mod : Int) (tg : Int) (ev : EV) (w : World) (hv : v.size ≤ 9223372036854775807) (hw0 : w0.size ≤ 9223372036854775807) (hsep : sep.size ≤ 9223372036854775807) (hmod : 0 ≤ mod ∧ mod < 18446744073709551616) (htg : -9223372036854775808 ≤ tg ∧ tg ≤ 9223372036854775807) (hp : Pre w ev) :
    Calls Tryz.prog 6 #[.string v, .string w0, .string sep, .int .u64 mod, .int .i64 tg] w fun x w' => x = .returned (.bool true) ∧ Ex [] w w' := by
  have HP := hide hp
  have KV := hide (fun w' => short_any v 60 w' hv (by omega))
  have KW := hide (fun w' => short_any w0 60 w' hw0 (by omega))
  have KS := hide (fun w' => short_any sep 10 w' hsep (by omega))
  have KN := hide (fun w' => name_any tg w' htg)
  clear hp hv hw0 hsep
  obtain ⟨mm, hmm1, hmm2⟩ : ∃ mm : Int, mm = (if mod = 0 then 1 else mod) ∧ 1 ≤ mm := ⟨_, rfl, by split <;> omega⟩
  have HMM := hide hmm1
  have key : mod = 0 ∧ mm = 1 ∨ ¬ mod = 0 ∧ mm = mod := by
    by_cases h : mod = 0
    · rw [if_pos h] at hmm1; exact .inl ⟨h, hmm1⟩
    · rw [if_neg h] at hmm1; exact .inr ⟨h, hmm1⟩
  clear hmm1
  go_enter Tryz.func6, Tryz.ntmps6
  go_wp2_with fail
  refine (KV.out _).mono ?_
  rintro x w1 ⟨v1, rfl, hv1, hw1⟩
  rw [hw1]
  clear hw1
  go_wp2_with fail
  refine (KW.out _).mono ?_
  rintro x w1 ⟨u1, rfl, hu1, hw1⟩
  rw [hw1]
  clear hw1
  go_wp2_with fail
  refine (KS.out _).mono ?_
  rintro x w1 ⟨s1, rfl, hs1, hw1⟩
  rw [hw1]
  clear hw1
  go_upto_region 6 with fail
  generalize hW1 : World.alloc w _ = W1
  have hbl : BK W1 w.heap.size (.cells #[.string ⟨#[98]⟩, .string v1, .string ⟨#[97, 98]⟩, .string u1] 48 (0, 0)) := by rw [← hW1]; exact BK.new _ _
  have hx1 : Ex [] w W1 := by rw [← hW1]; exact (Ex.refl _ _).alloc _
  have HBL := hide hbl
  have HX1 := hide hx1
  clear hW1 hbl hx1
  obtain ⟨tx, htx⟩ : ∃ tx, v1 ++ s1 ++ u1 = tx := ⟨_, rfl⟩
  have HTX := hide htx
  rw [htx]
  clear htx
  go_wp2_with fail
  refine (KN.out _).mono ?_
  rintro x W2 ⟨t, rfl, ht, hx2⟩
  have HT := hide ht
  have HX2 := hide (HX1.out.trans hx2)
  have HBL2 := hide (HBL.out.ex hx2 (by simp))
  clear ht hx2
  go_upto_if 72 with fail
  go_cut [20] (fun s20 wx => wx = (((((W2.alloc (Obj.cells #[.string ⟨#[98]⟩, .string ⟨#[97, 98]⟩] 9)).alloc (Obj.cells #[.int .i64 0, .slice (some ⟨W2.heap.size, 0, none⟩) 2 2, .string s1, .string ⟨#[]⟩, .string t, .string ⟨#[]⟩, .int .u64 0] 37)).alloc (Obj.cells #[.int .i64 9, .slice (some ⟨W2.heap.size, 0, none⟩) 2 2, .string s1, .string ⟨#[]⟩, .string t, .string ⟨#[]⟩, .int .u64 0] 37)).alloc (Obj.cells #[.int .i64 10, .slice (some ⟨W2.heap.size, 0, none⟩) 2 2, .string s1, .string ⟨#[]⟩, .string t, .string ⟨#[]⟩, .int .u64 0] 37)).alloc (Obj.cells #[.int .i64 5, .slice (some ⟨W2.heap.size, 0, none⟩) 2 2, .string s1, .string ⟨#[]⟩, .string t, .string ⟨#[]⟩, .int .u64 mm] 37)))
  case first =>
    rcases key with ⟨h0, h1⟩ | ⟨h0, h1⟩
    · have hmb : (mod == 0) = true := beq_iff_eq.2 h0
      have H1 := hide h1
      clear h1
      go_wp2_with fail
      go_meet
      rw [H1.out]
    · have hmb : (mod == 0) = false := beq_eq_false_iff_ne.2 h0
      have H1 := hide h1
      clear h1
      go_wp2_with fail
      go_meet
      rw [H1.out]
  case rest =>
  rw [hcut]
  clear hcut
  go_upto_region 20 with fail
  generalize hW3 : World.alloc _ _ = W3
  have hbS : BK W3 W2.heap.size (.cells #[.string ⟨#[98]⟩, .string ⟨#[97, 98]⟩] 9 (0, 0)) := by rw [← hW3]; exact (((((BK.new _ _).alloc _).alloc _).alloc _).alloc _).alloc _
  have hb2 : BK W3 (W2.heap.size + 1 + 1) (.cells #[.int .i64 9, .slice (some ⟨W2.heap.size, 0, none⟩) 2 2, .string s1, .string ⟨#[]⟩, .string t, .string ⟨#[]⟩, .int .u64 0] 37 (0, 0)) := by rw [← hW3]; exact (((bk2 _ _ _ _).alloc _).alloc _).alloc _
  have hb3 : BK W3 (W2.heap.size + 1 + 1 + 1) (.cells #[.int .i64 10, .slice (some ⟨W2.heap.size, 0, none⟩) 2 2, .string s1, .string ⟨#[]⟩, .string t, .string ⟨#[]⟩, .int .u64 0] 37 (0, 0)) := by rw [← hW3]; exact ((bk3 _ _ _ _ _).alloc _).alloc _
  have hb4 : BK W3 (W2.heap.size + 1 + 1 + 1 + 1) (.cells #[.int .i64 5, .slice (some ⟨W2.heap.size, 0, none⟩) 2 2, .string s1, .string ⟨#[]⟩, .string t, .string ⟨#[]⟩, .int .u64 mm] 37 (0, 0)) := by rw [← hW3]; exact (bk4 _ _ _ _ _ _).alloc _
  have hb5 : BK W3 (W2.heap.size + 1 + 1 + 1 + 1 + 1) (.cells #[.int .i64 0, .slice (some ⟨W2.heap.size, 0, none⟩) 2 2, .string s1, .string ⟨#[40, 46, 42, 41]⟩, .string t, .string ⟨#[36, 49]⟩, .int .u64 0] 37 (0, 0)) := by rw [← hW3]; exact bk5 _ _ _ _ _ _ _
  have hx3 : Ex [] W2 W3 := by rw [← hW3]; exact ((((((Ex.refl _ _).alloc _).alloc _).alloc _).alloc _).alloc _).alloc _
  have hsl : SL W3 (.slice (some ⟨w.heap.size, 0, none⟩) 2 2) [(bN1, v1), (abN1, u1)] := labs_two (a := bN1) (c := abN1) (HBL2.out.ex hx3 (by simp))
  have hss : SS W3 (.slice (some ⟨W2.heap.size, 0, none⟩) [bN1, abN1].length 2) [bN1, abN1] := strs_two (x := bN1) (y := abN1) hbS
  have hpre := HP.out.ex (HX2.out.trans hx3)
  have hnw : [(bN1, v1), (abN1, u1)].any wrongB = false := by
    have n1 : nameB bN1 = true := by decide
    have n2 : nameB abN1 = true := by decide
    simp [wrongB, n1, n2]
    omega
  obtain ⟨hok, _⟩ := bareL_ok [(bN1, v1), (abN1, u1)] (by simp) hnw
  obtain ⟨_, _, hlen2⟩ := two_labels v1 u1 hv1 hu1
  have htxt := two_text v1 u1 s1 hv1 hu1 hok.srt
  rw [HTX.out] at htxt
  have htxs : tx.size ≤ 130 := by rw [← HTX.out]; simp only [ByteArray.size_append]; omega
  have KP1 := hide (pair_any ⟨9, some ⟨W2.heap.size, 0, none⟩, [bN1, abN1].length, 2, s1, ⟨#[]⟩, t, ⟨#[]⟩, 0⟩ ⟨10, some ⟨W2.heap.size, 0, none⟩, [bN1, abN1].length, 2, s1, ⟨#[]⟩, t, ⟨#[]⟩, 0⟩ _ _ _ [(bN1, v1), (abN1, u1)] W3 (mkS9 (ss := [bN1, abN1]) (se := s1) (ta := t) hpre hss (by simp) names_two (by omega) HT.out) (mkS10 (ss := [bN1, abN1]) (se := s1) (ta := t) hpre hss (by simp) names_two (by omega) HT.out) hpre.gl hsl (by simp) hnw)
  have KP2 := hide (fun (w' : World) (hx : Ex [] W3 w') => pair_any ⟨5, some ⟨W2.heap.size, 0, none⟩, [bN1, abN1].length, 2, s1, ⟨#[]⟩, t, ⟨#[]⟩, mm⟩ ⟨0, some ⟨W2.heap.size, 0, none⟩, [bN1, abN1].length, 2, s1, allT, t, oneT, 0⟩ _ _ _ [(bN1, v1), (abN1, u1)] w' (mkS5 (ss := [bN1, abN1]) (se := s1) (ta := t) (hpre.ex hx) (hss.ex0 hx) (by simp) names_two (by omega) HT.out hmm2) (mkS0 (ss := [bN1, abN1]) (se := s1) (ta := t) (hpre.ex hx) (hss.ex0 hx) (by simp) names_two (by omega) HT.out) (hpre.ex hx).gl (hsl.ex hx (by simp)) (by simp) hnw)
  obtain ⟨L0, hL0⟩ : ∃ L, L = bareL [(bN1, v1), (abN1, u1)] := ⟨_, rfl⟩
  rw [← hL0] at KP1 hok hlen2 htxt
  rw [← hL0] at KP2
  rw [runF_one _ _ rfl, runF_one _ _ rfl] at KP1
  have e0 : (F0 [bN1, abN1] s1 allT t oneT L0).2 = true := rfl
  rw [runF_one _ _ rfl, runF_one _ _ e0, F0_all _ _ _ HT.out] at KP2
  dsimp only [F9, F10, F5] at KP1 KP2
  rw [htxt] at KP1 KP2
  have gA := getM_set hok.srt (by omega) t (lowerA tx) (by rw [lower_size]; omega)
  have gB := getM_set hok.srt (by omega) t (upperA tx) (by rw [upper_size]; omega)
  have gC := getM_set hok.srt (by omega) t (remM mm tx) (by have := rem_size mm hmm2 tx; omega)
  have gD := getM_set hok.srt (by omega) t tx (by omega)
  have hAok := hok.set t (lowerA tx) HT.out
  have hAlen := set_len1 L0 t (lowerA tx)
  obtain ⟨A, hA⟩ : ∃ A, A = Go.Proofs.YtmeffeigamaipabGreatDoor.setL L0 t (lowerA tx) := ⟨_, rfl⟩
  rw [← hA] at KP1 gA hAok hAlen
  have HG := hide (And.intro gA (And.intro gB (And.intro gC gD)))
  have HAO := hide hAok
  have HAL := hide (show A.length ≤ 3 by omega)
  have HB5 := hide hb5
  have HB4 := hide hb4
  have HX3 := hide (HX2.out.trans hx3)
  have HPR := hide hpre
  unfold AR.val ruleV at KP1 KP2
  dsimp only at KP1 KP2
  obtain ⟨hc2, hf2⟩ := hb2.all
  obtain ⟨hc3, hf3⟩ := hb3.all
  have hl2 := hb2.lt
  have hl3 := hb3.lt
  clear hW3 hbS hb2 hb3 hb4 hb5 hx3 hsl hss hpre hnw hok hlen2 htxt gA gB gC gD hAok hAlen hA hL0 e0
  go_wp2_with fail
  refine KP1.out.mono ?_
  intro x W4 hpost
  obtain ⟨va, vb, rfl, hsa, hsb, hoa, hob, hla, hlb, hx4⟩ := hpost
  obtain ⟨pa, ca, rfl⟩ := hsa.slice
  obtain ⟨pb, cb, rfl⟩ := hsb.slice
  have HSA := hide hsa
  have HSB := hide hsb
  have HX4 := hide hx4
  have hb4 := HB4.out.ex hx4 (by simp)
  have hb5 := HB5.out.ex hx4 (by simp)
  have HB44 := hide hb4
  obtain ⟨hc4, hf4⟩ := hb4.all
  obtain ⟨hc5, hf5⟩ := hb5.all
  have hl4 := hb4.lt
  have hl5 := hb5.lt
  obtain ⟨na, hna⟩ : ∃ n, n = A.length := ⟨_, rfl⟩
  obtain ⟨nb, hnb⟩ : ∃ n, n = (Go.Proofs.YtmeffeigamaipabGreatDoor.setL L0 t (upperA tx)).length := ⟨_, rfl⟩
  have HNA := hide hna
  have HNB := hide hnb
  rw [← hna] at hla ⊢
  rw [← hnb] at hlb ⊢
  clear hsa hsb hoa hob hx4 hb4 hb5 hc2 hf2 hc3 hf3 hl2 hl3 hna hnb
  go_wp2_with fail
  refine (KP2.out _ HX4.out).mono ?_
  intro x W5 hpost
  obtain ⟨vc, vd, rfl, hsc, hsd, hoc, hod, hlc, hld, hx5⟩ := hpost
  obtain ⟨pc, cc, rfl⟩ := hsc.slice
  obtain ⟨pd, cd, rfl⟩ := hsd.slice
  have HX5 := hide (HX4.out.trans hx5)
  have HB45 := hide (HB44.out.ex hx5 (by simp))
  have KGA := hide (get_any _ A t W5 (HSA.out.ex hx5 (by simp)) (by have := HNA.out; omega))
  have KGB := hide (get_any _ (Go.Proofs.YtmeffeigamaipabGreatDoor.setL L0 t (upperA tx)) t W5 (HSB.out.ex hx5 (by simp)) (by have := HNB.out; omega))
  have KGC := hide (get_any _ (Go.Proofs.YtmeffeigamaipabGreatDoor.setL L0 t (remM mm tx)) t W5 hsc (by omega))
  have KGD := hide (get_any _ (Go.Proofs.YtmeffeigamaipabGreatDoor.setL L0 t tx) t W5 hsd (by omega))
  rw [HG.out.1] at KGA
  rw [HG.out.2.1] at KGB
  rw [HG.out.2.2.1] at KGC
  rw [HG.out.2.2.2] at KGD
  rw [← show na = A.length from HNA.out] at KGA
  rw [← show nb = _ from HNB.out] at KGB
  have HSA5 := hide (HSA.out.ex hx5 (by simp))
  obtain ⟨nc, hnc⟩ : ∃ n, n = (Go.Proofs.YtmeffeigamaipabGreatDoor.setL L0 t (remM mm tx)).length := ⟨_, rfl⟩
  obtain ⟨nd, hnd⟩ : ∃ n, n = (Go.Proofs.YtmeffeigamaipabGreatDoor.setL L0 t tx).length := ⟨_, rfl⟩
  rw [← hnc] at KGC ⊢
  rw [← hnd] at KGD ⊢
  clear hsc hsd hoc hod hlc hld hx5 hc4 hf4 hc5 hf5 hl4 hl5 hnc hnd
  go_wp2_with fail
  refine KGA.out.mono ?_
  rintro x w6 ⟨rfl, hw6⟩
  rw [hw6]
  clear hw6
  go_wp2_with fail
  refine KGB.out.mono ?_
  rintro x w6 ⟨rfl, hw6⟩
  rw [hw6]
  clear hw6
  go_wp2_with fail
  refine KGC.out.mono ?_
  rintro x w6 ⟨rfl, hw6⟩
  rw [hw6]
  clear hw6
  obtain ⟨b1, b2⟩ := hash_bound tx
  have KH := hide (fun w' => hashF_any tx w' (by omega))
  unfold remM
  obtain ⟨h, hh⟩ : ∃ h, h = hashM tx := ⟨_, rfl⟩
  rw [← hh] at KH b1 b2 ⊢
  have hu0 := Int.emod_nonneg h (show mm ≠ 0 by omega)
  obtain ⟨u, hu⟩ : ∃ u : Nat, (u : Int) = h % mm := ⟨(h % mm).toNat, by omega⟩
  have hu1 : (h % mm).toNat = u := by omega
  have hu2 : h % mm ≤ h := by
    obtain ⟨H', hH⟩ : ∃ H' : Nat, h = H' := ⟨h.toNat, by omega⟩
    obtain ⟨M', hM⟩ : ∃ M' : Nat, mm = M' := ⟨mm.toNat, by omega⟩
    rw [hH, hM, ← Int.natCast_emod]
    have := Nat.mod_le H' M'
    omega
  have e2 : h.tmod mm = (u : Int) := by rw [Int.tmod_eq_emod_of_nonneg b1]; exact hu.symm
  have hm0 : ¬ mm = 0 := by omega
  have hm0b : (mm == 0) = false := beq_eq_false_iff_ne.2 hm0
  rw [hu1]
  have KN2 := hide (fun w' => number_dec u (by omega) w')
  have KT := hide (fun w' => turned_any tx w' (by omega))
  have KW2 := hide (fun w' => swapped_case tx w' (by omega))
  obtain ⟨lo, hlo⟩ : ∃ lo, lo = lowerA tx := ⟨_, rfl⟩
  obtain ⟨up, hup⟩ : ∃ up, up = upperA tx := ⟨_, rfl⟩
  obtain ⟨tn, htn⟩ : ∃ tn, tn = turnA tx := ⟨_, rfl⟩
  rw [← hlo, ← hup, ← htn] at KW2
  rw [← htn] at KT
  have HLO := hide hlo
  have HUP := hide hup
  rw [← hlo, ← hup]
  clear hh hu hu0 hu1 hu2 hlo hup htn
  go_wp2_with fail
  refine (KN2.out _).mono ?_
  rintro x w6 ⟨rfl, hw6⟩
  rw [hw6]
  clear hw6
  go_wp2_with fail
  refine KGD.out.mono ?_
  rintro x w6 ⟨rfl, hw6⟩
  rw [hw6]
  clear hw6
  have c6 : W5.cell? ⟨W2.heap.size + 1 + 1 + 1 + 1, 6, none⟩ = some (.int .u64 mm) := by rw [HB45.out.all.1]; rfl
  have c6d : W5.drew.cell? ⟨W2.heap.size + 1 + 1 + 1 + 1, 6, none⟩ = some (.int .u64 mm) := c6
  have hlb4 := HB45.out.lt
  go_wp2_with fail
  go_region_held3 (fun w' => w'.cell? ⟨W2.heap.size + 1 + 1 + 1 + 1, 6, none⟩ = some (.int .u64 mm))
    (first | with_reducible exact c6 | with_reducible exact c6d | with_reducible exact q7 | with_reducible exact q8)
    (first
      | (go_at_call 26; refine (show Calls _ _ _ _ _ from KT.out _).mono ?_; rintro e w7 ⟨rfl, hx7⟩; have hy7 : Ex [] W5 w7 := (Ex.refl _ _).drew.trans hx7; have q7 : w7.cell? ⟨W2.heap.size + 1 + 1 + 1 + 1, 6, none⟩ = some (.int .u64 mm) := (hy7.cell0.1 _ _ hlb4).trans c6)
      | (go_at_call 27; refine (show Calls _ _ _ _ _ from KW2.out _).mono ?_; rintro e w8 ⟨rfl, hx8⟩; have hy8 : Ex [] W5 w8 := hy7.trans hx8; have q8 : w8.cell? ⟨W2.heap.size + 1 + 1 + 1 + 1, 6, none⟩ = some (.int .u64 mm) := (hy8.cell0.1 _ _ hlb4).trans c6)
      | (go_at_call 28; refine (show Calls _ _ _ _ _ from KH.out _).mono ?_; rintro e w9 ⟨rfl, rfl⟩))
  have HX8 := hide (HX5.out.trans hy8)
  have HSA8 := hide (HSA5.out.ex hy8 (by simp))
  clear q7 q8 hx7 hx8 hy7 hy8 c6 c6d hlb4
  go_upto_region 30 with fail
  obtain ⟨W6, hW6⟩ : ∃ W6, W6 = (w9.alloc (Obj.cells #[.string t] 9)).alloc (Obj.cells #[.string t] 9) := ⟨_, rfl⟩
  have hx6 : Ex [] w9 W6 := by rw [hW6]; exact ((Ex.refl _ _).alloc _).alloc _
  have hs1' : SS W6 (.slice (some ⟨w9.heap.size, 0, none⟩) [t].length 1) [t] := by
    have h9 : BK W6 w9.heap.size (.cells #[.string t] 9 (0, 0)) := by rw [hW6]; exact (BK.new _ _).alloc _
    exact strs_one h9
  have hs2' : SS W6 (.slice (some ⟨w9.heap.size + 1, 0, none⟩) [t].length 1) [t] := by
    have h9 : BK W6 (w9.heap.size + 1) (.cells #[.string t] 9 (0, 0)) := by rw [hW6]; exact bk1 _ _ _
    exact strs_one h9
  have hpre6 : Pre W6 ev := HPR.out.ex (HX8.out.trans hx6)
  have hnt : ∀ s ∈ [t], nameB s = true := fun s hs => by rw [List.mem_singleton] at hs; subst hs; exact HT.out
  have KP3 := hide (pair_any ⟨9, some ⟨w9.heap.size, 0, none⟩, [t].length, 1, ⟨#[]⟩, ⟨#[]⟩, t, ⟨#[]⟩, 0⟩ ⟨10, some ⟨w9.heap.size + 1, 0, none⟩, [t].length, 1, ⟨#[]⟩, ⟨#[]⟩, t, ⟨#[]⟩, 0⟩ _ _ _ A W6 (mkS9 (ss := [t]) (se := ⟨#[]⟩) (ta := t) hpre6 hs1' (by simp) hnt (by decide) HT.out) (mkS10 (ss := [t]) (se := ⟨#[]⟩) (ta := t) hpre6 hs2' (by simp) hnt (by decide) HT.out) hpre6.gl (HSA8.out.ex hx6 (by simp)) (by have := HAL.out; omega) (lok_right HAO.out))
  rw [bare_lok HAO.out (by have := HAL.out; omega)] at KP3
  rw [runF_one _ _ rfl, runF_one _ _ rfl] at KP3
  dsimp only [F9, F10] at KP3
  rw [text_single, valN_get HAO.out.srt, HG.out.1, lower_twice, upper_lower] at KP3
  have gE := getM_set HAO.out.srt (by have := HAL.out; omega) t (lowerA tx) (by rw [lower_size]; omega)
  have gF := getM_set HAO.out.srt (by have := HAL.out; omega) t (upperA tx) (by rw [upper_size]; omega)
  have HGE := hide (And.intro gE gF)
  unfold AR.val ruleV at KP3
  dsimp only at KP3
  rw [← show na = A.length from HNA.out] at KP3
  have HW6 := hide hW6
  have HX6 := hide (HX8.out.trans hx6)
  clear hW6 hx6 hs1' hs2' hpre6 hnt gE gF
  go_wp2_with fail
  rw [← HW6.out]
  refine KP3.out.mono ?_
  intro x W7 hpost
  obtain ⟨ve, vf, rfl, hse, hsf, hoe, hof, hle', hlf', hx7⟩ := hpost
  obtain ⟨pe, ce, rfl⟩ := hse.slice
  obtain ⟨pf, cf, rfl⟩ := hsf.slice
  have KGE := hide (get_any _ (Go.Proofs.YtmeffeigamaipabGreatDoor.setL A t (lowerA tx)) t W7 hse (by omega))
  have KGF := hide (get_any _ (Go.Proofs.YtmeffeigamaipabGreatDoor.setL A t (upperA tx)) t W7 hsf (by omega))
  rw [HGE.out.1] at KGE
  rw [HGE.out.2] at KGF
  have HX7 := hide ((HX3.out.trans HX6.out).trans hx7)
  have hlo := HLO.out
  have hup := HUP.out
  rw [← hlo] at KGE ⊢
  rw [← hup] at KGF ⊢
  obtain ⟨ne, hne'⟩ : ∃ n, n = (Go.Proofs.YtmeffeigamaipabGreatDoor.setL A t lo).length := ⟨_, rfl⟩
  obtain ⟨nf, hnf'⟩ : ∃ n, n = (Go.Proofs.YtmeffeigamaipabGreatDoor.setL A t up).length := ⟨_, rfl⟩
  rw [← hne'] at KGE ⊢
  rw [← hnf'] at KGF ⊢
  clear hse hsf hoe hof hle' hlf' hx7 hlo hup hne' hnf'
  go_wp2_with fail
  refine KGE.out.mono ?_
  rintro x w8 ⟨rfl, hw8⟩
  rw [hw8]
  clear hw8
  go_wp2_with fail
  refine KGF.out.mono ?_
  rintro x w8 ⟨rfl, hw8⟩
  rw [hw8]
  clear hw8
  go_wp2_with fail
  go_ret
  exact ⟨by simp, HX7.out⟩
end Go.Proofs.YtmeffeigamaipabGreatDoor.G
