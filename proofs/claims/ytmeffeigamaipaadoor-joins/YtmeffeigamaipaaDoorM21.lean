/- K9 K10, one behind the other. -/
import Derived.Test.YtmeffeigamaipaaDoorM20
set_option linter.unusedVariables false
set_option linter.unusedSimpArgs false
/- The builder at choices. -/
namespace Go.Proofs.YtmeffeigamaipaaDoor.G
open Go.RowKit

def altStep (s : List Nat × List Ins) (p : Pt) : List Nat × List Ins :=
  (s.1 ++ [(addM p (forkM false s.2)).length], leaveM false s.2.length (addM p (forkM false s.2) ++ [bare 2]))
theorem altStep_fst (s : List Nat × List Ins) (p : Pt) : (altStep s p).1 = s.1 ++ [(addM p (forkM false s.2)).length] := rfl
theorem altStep_snd (s : List Nat × List Ins) (p : Pt) : (altStep s p).2 = leaveM false s.2.length (addM p (forkM false s.2) ++ [bare 2]) := rfl
theorem altsM_eq (last : Pt) : ∀ (init : List Pt) (js : List Nat) (l : List Ins), altsM (init ++ [last]) js l = ((init.foldl altStep (js, l)).1, addM last (init.foldl altStep (js, l)).2)
  | [], js, l => by simp [altsM]
  | [p], js, l => by simp [altsM, altStep]
  | p :: q :: ps, js, l => by
    have h := altsM_eq last (q :: ps) (js ++ [(addM p (forkM false l)).length]) (leaveM false l.length (addM p (forkM false l) ++ [bare 2]))
    simp only [List.cons_append] at h ⊢
    rw [altsM]
    exact h
theorem altStep_len (s : List Nat × List Ins) (p : Pt) : (altStep s p).2.length = s.2.length + isz p + 2 := by
  simp [altStep, leaveM_len, addM_len, forkM_len]
  omega
theorem alt_len : ∀ (init : List Pt) (s : List Nat × List Ins), (init.foldl altStep s).2.length = s.2.length + iszL init + 2 * init.length ∧ (init.foldl altStep s).1.length = s.1.length + init.length
  | [], s => by simp [iszL]
  | p :: ps, s => by
    have h := alt_len ps (altStep s p)
    rw [List.foldl_cons, h.1, h.2, altStep_len, iszL]
    simp [altStep]
    omega
theorem alt_lt : ∀ (init : List Pt) (s : List Nat × List Ins), (∀ k, k ∈ s.1 → k < s.2.length) → ∀ k, k ∈ (init.foldl altStep s).1 → k < (init.foldl altStep s).2.length
  | [], s, h => h
  | p :: ps, s, h => by
    rw [List.foldl_cons]
    refine alt_lt ps _ (fun k hk => ?_)
    rw [altStep_len]
    rcases List.mem_append.1 hk with hk | hk
    · have := h k hk; omega
    · simp [addM_len, forkM_len] at hk; omega
theorem alt_take (ps : List Pt) (d : Nat) (s : List Nat × List Ins) (hd : d < ps.length) : (ps.take (d + 1)).foldl altStep s = altStep ((ps.take d).foldl altStep s) ps[d] := by
  rw [List.take_succ_eq_append_getElem hd, List.foldl_append]
  rfl
set_option maxHeartbeats 2000000 in
set_option maxRecDepth 100000 in
theorem choice_any (ps : List Pt) (p0 : Option Addr) (c0 : Nat) (w : World) (b base : Nat) (l : List Ins) (ih : ∀ p, p ∈ ps → AddC p) (hlen : 1 ≤ ps.length) (hd : BG w b base l) (hrow : Row w (Pb base b) ⟨2, p0, ps.length, c0, 0, 0, false, 0, 0, 0, false⟩ ps) (hw : ∀ p, p ∈ ps → WOK p) (hn : l.length + iszL ps + 2 * (ps.length - 1) ≤ 99000) :
    Calls Tryd.prog 44 #[.pointer (some ⟨b, 0, none⟩), .slice p0 ps.length c0] w fun e w' => e = .returned (.tuple #[]) ∧ BG w' b base (addM (.alt ps) l) ∧ BF base b w w' := by
  have HD := hide hd
  have HIH := hide ih
  have HW := hide hw
  have HN := hide hn
  have hbw : b < w.heap.size := Nat.lt_of_lt_of_le hd.lt hd.le
  have hbb := hd.lt
  have hbs := hd.le
  obtain ⟨g, hp0, hnc0⟩ : ∃ g, p0 = some ⟨g, 0, none⟩ ∧ ps.length ≤ c0 := by
    obtain ⟨g, _, h1, h2, _⟩ := hrow.at 0 (by omega)
    exact ⟨g, h1, h2⟩
  subst hp0
  have HR := hide hrow
  obtain ⟨n, hnn⟩ : ∃ n, ps.length = n + 1 := ⟨ps.length - 1, by omega⟩
  have HNN := hide hnn
  rw [hnn] at hnc0 ⊢
  have hn99 : n ≤ 99000 := by omega
  clear hd hrow ih hw hn hlen hnn
  obtain ⟨i0, hi, hz0, hz1, hz2⟩ := info_parts infoInt
  go_enter Tryd.func44, Tryd.ntmps44
  go_wp2_with fail
  go_loopg [5, 18] n (fun gk fv i wr' => ∃ d : Nat, d + gk = n ∧ i = .int .i64 d ∧ wr'.ownsRow w.heap.size 3 1 fv d (numL ((ps.take d).foldl altStep ([], l)).1) ∧ BG wr' b base ((ps.take d).foldl altStep ([], l)).2 ∧ BF base b w wr')
  case atStart => exact ⟨0, by omega, rfl, ⟨rfl, .inl ⟨rfl, rfl⟩⟩, HD.out, BF.refl _ _ _⟩
  case round =>
    obtain ⟨d, hdn, rfl, hown, hdr, hx⟩ := hrel
    obtain ⟨p5, c5, rfl⟩ := own_slice hown
    have HOW := hide hown
    have HX5 := hide hx
    have HD5 := hide hdr
    have hlen := alt_len (ps.take d) ([], l)
    have HLEN := hide hlen
    have hsz5 : w.heap.size ≤ wr.heap.size := hx.size
    clear hown hdr hlen
    obtain ⟨ks, hks⟩ : ∃ ks, ks = ((ps.take d).foldl altStep ([], l)).1 := ⟨_, rfl⟩
    obtain ⟨l5, hl5⟩ : ∃ l5, l5 = ((ps.take d).foldl altStep ([], l)).2 := ⟨_, rfl⟩
    rw [← hks] at HOW
    rw [← hl5] at HD5
    rw [← hks, ← hl5] at HLEN
    have HKS := hide hks
    have HL5 := hide hl5
    clear hks hl5
    have HL5N := hide HLEN.out.1
    have HKSN := hide (show ks.length = d by have := HLEN.out.2; rw [this]; simp [HNN.out]; omega)
    cases gk with
    | succ gk =>
      have hd' : (d : Int) < (n : Int) := by omega
      obtain ⟨g1, u, hv, hnc, hB, hlt, hrange, hq⟩ := (HR.out.bf hx).at d (show d < ps.length by rw [HNN.out]; omega)
      simp only at hv
      cases hv
      have hsj : l5.length + isz (ps[d]'(by rw [HNN.out]; omega)) + 2 ≤ 99000 := by
        have h1 := iszL_take ps d (by rw [HNN.out]; omega)
        have h2 := HN.out
        have h3 := HL5N.out
        rw [List.length_take, HNN.out] at h3
        rw [HNN.out] at h2
        dsimp only at h3
        omega
      have HSJ := hide hsj
      have HQ := hide hq
      clear hx hq hB hsj
      obtain ⟨kd', p', n', c', lo', hi', hg', gr', l', m', z'⟩ := u
      have k0 := hrange 0 _ rfl; have k1 := hrange 1 _ rfl; have k2 := hrange 2 _ rfl; have k3 := hrange 3 _ rfl; have k4 := hrange 4 _ rfl
      have k5 := hrange 5 _ rfl; have k6 := hrange 6 _ rfl; have k7 := hrange 7 _ rfl; have k8 := hrange 8 _ rfl
      simp only [Nat.add_zero] at k0
      clear hrange
      have HFK := hide (fun w (hd : BG w b base l5) => fork_any false hd (by have := HSJ.out; omega))
      go_wp2_with fail
      refine (HFK.out _ (HD5.out.alloc _)).mono ?_
      rintro e w6 ⟨rfl, hd6, hx6⟩
      have HI6 := hide (show BK w6 wr.heap.size (.cells #[.int .i64 kd', .slice p' n' c', .int .u64 lo', .int .u64 hi', .bool hg', .int .i64 gr', .int .i64 l', .int .i64 m', .bool z'] 59) from BK.bf (BK.new _ _) hx6 (by omega) (by decide))
      have HX6 := hide ((HX5.out.alloc _).trans hx6)
      have HO6 := hide (own_nums_bf (HOW.out.alloc _) hx6 hbw)
      have HA7 := hide (HIH.out (ps[d]'(by rw [HNN.out]; omega)) (List.getElem_mem _) ⟨kd', p', n', c', lo', hi', hg', gr', l', m', z'⟩ w6 b base _ hd6 ((HQ.out.bf ((BF.refl _ _ _).alloc _)).bf hx6) (HW.out _ (List.getElem_mem _)) (by rw [forkM_len]; have := HSJ.out; omega))
      obtain ⟨hcI, hfI⟩ := HI6.out.all
      obtain ⟨n5, hn5⟩ : ∃ n5, n5 = l5.length := ⟨_, rfl⟩
      rw [← hn5]
      have HN5 := hide hn5
      clear hd6 hx6 k0 k1 k2 k3 k4 k5 k6 k7 k8 hn5
      go_wp2_with fail
      refine (show Calls _ _ _ _ _ from HA7.out).mono ?_
      rintro e w7 ⟨rfl, hd7, hx7⟩
      have HX7 := hide (HX6.out.trans hx7)
      have HO7 := hide (own_nums_bf HO6.out hx7 hbw)
      have HP7 := hide (put_bare 2 hd7 (by rw [addM_len, forkM_len]; have := HSJ.out; omega))
      clear hd7 hx7 hcI hfI
      go_wp2_with fail
      refine HP7.out.mono ?_
      rintro e w8 ⟨rfl, hd8, hx8⟩
      have HX8 := hide (HX7.out.trans hx8)
      have HO8 := hide (own_nums_bf HO7.out hx8 hbw)
      have HD8 := hide hd8
      have hs8 : w.heap.size ≤ w8.heap.size := HX8.out.size
      obtain ⟨n8, hn8⟩ : ∃ n8, n8 = (addM (ps[d]'(by rw [HNN.out]; omega)) (forkM false l5)).length := ⟨_, rfl⟩
      rw [← hn8]
      have HN8 := hide hn8
      clear hd8 hx8 hn8
      go_wp2_with (at_builtin; refine wpList_append_own _ rfl (.tmp 27) (.tmp 31) 105 rfl w.heap.size 3 i0 (.int .i64 0) 1 8 Tryd.underlying105 hi hz0 hz1 hz2 rfl (by decide) (.slice p5 d c5) d (numL ks) rfl (HO8.out.alloc _) ⟨w8.heap.size, 0, none⟩ 1 1 [.int .i64 (n8 : Int)] rfl rfl (cells_new _ _ _) (by simp [Value.oneCell']) (by unfold maxLen; omega) (by omega) (by simp; omega) ?_; intro v9 w9 hown9 hgrow9 hiff9)
      have HO9 := hide hown9
      have HX9 := hide (BF.grown (HX8.out.alloc _) hgrow9 (fun k hk => .inr (.inl (own_block HO8.out k hk))))
      have HD9 := hide (BG.grownNum (HD8.out.alloc _) (HO8.out.alloc _) hgrow9 hbw)
      have HL9 := hide (leave_any false (k := n5) HD9.out (by rw [HN5.out]; simp [addM_len, forkM_len]; omega) (by simp [addM_len, forkM_len]; have := HSJ.out; omega))
      clear hown9 hgrow9 hiff9
      refine HL9.out.mono ?_
      rintro e w10 ⟨rfl, hd10, hx10⟩
      have HX10 := hide (HX9.out.trans hx10)
      have HD10 := hide hd10
      have HO10 := hide (own_nums_bf HO9.out hx10 hbw)
      clear hd10 hx10
      go_wp2_with fail
      go_roundg gk
      case measure => omega
      case rel =>
        refine ⟨d + 1, by omega, by simp, ?_, ?_, HX10.out⟩
        · rw [alt_take ps d _ (by rw [HNN.out]; omega), altStep_fst, ← HKS.out, ← HL5.out, ← HN8.out, numL_snoc]
          exact HO10.out
        · rw [alt_take ps d _ (by rw [HNN.out]; omega), altStep_snd, ← HL5.out, ← HN5.out]
          have h := HD10.out
          unfold leaveM
          exact h
    | zero =>
      obtain rfl : d = n := by omega
      obtain ⟨g1, u, hv, hnc, hB, hlt, hrange, hq⟩ := (HR.out.bf hx).at d (show d < ps.length by rw [HNN.out]; omega)
      simp only at hv
      cases hv
      have hsj : l5.length + isz (ps[d]'(by rw [HNN.out]; omega)) ≤ 99000 := by
        have h1 := iszL_take ps d (by rw [HNN.out]; omega)
        have h2 := HN.out
        have h3 := HL5N.out
        rw [List.length_take, HNN.out] at h3
        rw [HNN.out] at h2
        dsimp only at h3
        omega
      have HSJ := hide hsj
      have HQ := hide hq
      clear hx hq hB hsj hdn
      obtain ⟨kd', p', n', c', lo', hi', hg', gr', l', m', z'⟩ := u
      have k0 := hrange 0 _ rfl; have k1 := hrange 1 _ rfl; have k2 := hrange 2 _ rfl; have k3 := hrange 3 _ rfl; have k4 := hrange 4 _ rfl
      have k5 := hrange 5 _ rfl; have k6 := hrange 6 _ rfl; have k7 := hrange 7 _ rfl; have k8 := hrange 8 _ rfl
      simp only [Nat.add_zero] at k0
      clear hrange
      have HA7 := hide (HIH.out (ps[d]'(by rw [HNN.out]; omega)) (List.getElem_mem _) ⟨kd', p', n', c', lo', hi', hg', gr', l', m', z'⟩ wr b base _ HD5.out HQ.out (HW.out _ (List.getElem_mem _)) (by have := HSJ.out; omega))
      go_wp2_with fail
      refine (show Calls _ _ _ _ _ from HA7.out).mono ?_
      rintro e w7 ⟨rfl, hd7, hx7⟩
      have HX7 := hide (HX5.out.trans hx7)
      have HO7 := hide (own_nums_bf HOW.out hx7 hbw)
      have HD7 := hide hd7
      obtain ⟨l7, hl7⟩ : ∃ l7, l7 = addM (ps[d]'(by rw [HNN.out]; omega)) l5 := ⟨_, rfl⟩
      rw [← hl7] at HD7
      have HL7 := hide hl7
      have HL7N := hide (show l7.length ≤ 99000 by rw [hl7, addM_len]; have := HSJ.out; omega)
      clear hd7 hx7 k0 k1 k2 k3 k4 k5 k6 k7 k8 hl7
      go_wp2_with fail
      go_loopg [45] d (fun gk i wr' => ∃ e : Nat, e + gk = d ∧ i = .int .i64 e ∧ BG wr' b base ((ks.take e).foldl (fun l k => landM k l) l7) ∧ BF base b w wr' ∧ wr'.ownsRow w.heap.size 3 1 (.slice p5 d c5) d (numL ks))
      case atStart => exact ⟨0, by omega, rfl, HD7.out, HX7.out, HO7.out⟩
      case round =>
        obtain ⟨e, he, rfl, hdr, hx, hown⟩ := hrel
        have HO9 := hide hown
        have HX9 := hide hx
        have HD9 := hide hdr
        clear hdr hx
        cases gk with
        | succ gk =>
          obtain ⟨gf, c9, hv, hnc9, hgf, hcf⟩ := own_num_at (j := e) hown (by rw [HKSN.out]; omega)
          simp only [Value.slice.injEq, true_and] at hv
          obtain ⟨rfl, rfl⟩ := hv
          have he9 : (e : Int) < (d : Int) := by omega
          obtain ⟨L, hL⟩ : ∃ L, L = (ks.take e).foldl (fun l k => landM k l) l7 := ⟨_, rfl⟩
          rw [← hL] at HD9
          have hLn : L.length = l7.length := by rw [hL, fold_land_len]
          have hlt9 : ks[e]'(by rw [HKSN.out]; omega) < L.length := by
            have := alt_lt (ps.take d) ([], l) (by simp)
            rw [← HKS.out, ← HL5.out] at this
            have h2 := this _ (List.getElem_mem (l := ks) (n := e) (by rw [HKSN.out]; omega))
            rw [hLn, HL7.out, addM_len]
            omega
          obtain ⟨kd, hkd⟩ : ∃ kd, kd = ks[e]'(by rw [HKSN.out]; omega) := ⟨_, rfl⟩
          rw [← hkd] at hcf hlt9
          have HKD := hide hkd
          have HLL := hide hL
          obtain ⟨g9, c9', hb9, ho9, hnc9', hg9, hgl9, hfz9, hcell9⟩ := HD9.out.parts (by omega)
          obtain ⟨i9, hi9⟩ : ∃ i9, L[kd]? = some i9 := ⟨L[kd], by simp [hlt9]⟩
          have hc4 := hcell9 (kd * 7 + 4) _ (by rw [codeL_at L kd 4 i9 hi9 (by omega)]; rfl)
          have hf4 := hfz9 (kd * 7 + 4)
          have hbl9 := hb9.lt
          have hb0 : wr.cell? ⟨b, 0, none⟩ = some (.slice (some ⟨g9, 0, none⟩) L.length c9') := hb9.all.1 0
          have HB9 := hide hb9
          have HRO9 := hide ho9
          have HLN := hide (show L.length ≤ 99000 by rw [hLn]; exact HL7N.out)
          obtain ⟨nL, hnL⟩ : ∃ nL, nL = L.length := ⟨_, rfl⟩
          have hnL9 : nL ≤ 99000 := by rw [hnL]; exact HLN.out
          have hk9 : (kd : Int) < (nL : Int) := by omega
          have HNL := hide hnL
          rw [← hnL] at hb0 hnc9'
          clear hown hkd hL hLn hb9 ho9 hfz9 hcell9 hi9 hlt9 hnL
          go_wp2_with fail
          go_region
          all_goals
            go_wp2_with fail
            go_roundg gk
            case measure => omega
            case rel =>
              refine ⟨e + 1, by omega, by simp, ?_, ?_, ?_⟩
              · rw [fold_take _ ks e l7 (by rw [HKSN.out]; omega), ← HKD.out, ← HLL.out]
                have h := BG.way (w := wr.drew) HB9.out.drew HRO9.out.drew hbb HD9.out.le hg9 false nL (k := kd) (by rw [← HNL.out]; omega)
                unfold landM
                rw [← HNL.out]
                exact h
              · exact BF.setCell (p := ⟨g9, kd * 7 + 4, none⟩) (HX9.out.drew) (.inr (.inr ⟨hg9, (own_IB (World.ownsRow.drew HRO9.out) g9 rfl).2⟩)) _
              · exact own_nums_bf HO9.out (BF.setCell (p := ⟨g9, kd * 7 + 4, none⟩) ((BF.refl base b wr).drew) (.inr (.inr ⟨hg9, (own_IB (World.ownsRow.drew HRO9.out) g9 rfl).2⟩)) _) hbw
        | zero =>
          obtain rfl : e = d := by omega
          clear he hown
          go_wp2_with fail
          go_end0
          refine ⟨rfl, ?_, HX9.out⟩
          have hsplit : ps = ps.take e ++ [ps[e]'(by rw [HNN.out]; omega)] := by
            rw [← List.take_succ_eq_append_getElem (by rw [HNN.out]; omega), List.take_of_length_le (by rw [HNN.out]; omega)]
          have halt : altsM ps [] l = (ks, l7) := by
            rw [HL7.out, HKS.out, HL5.out]
            conv => lhs; rw [hsplit]
            exact altsM_eq _ _ _ _
          rw [addM, halt]
          dsimp only
          have h := HD9.out
          rw [List.take_of_length_le (by rw [HKSN.out]; omega)] at h
          exact h

set_option maxHeartbeats 1000000 in
set_option maxRecDepth 100000 in
theorem addC_alt (ps : List Pt) (ih : ∀ p, p ∈ ps → AddC p) : AddC (.alt ps) := by
  intro v w b base l hd hp hw hn
  obtain ⟨hrow, hkd⟩ := hp.row
  obtain ⟨p, n, c, rfl, hnl, hr⟩ := hp
  subst hnl
  have hrow' : Row w (Pb base b) ⟨2, p, ps.length, c, 0, 0, false, 0, 0, 0, false⟩ ps := hrow
  have KEY := hide (choice_any ps p c _ b base l ih hw.2.2.2 (hd.alloc (Obj.cells #[.int .i64 2, .slice p ps.length c, .int .u64 0, .int .u64 0, .bool false, .int .i64 0, .int .i64 0, .int .i64 0, .bool false] 59)) (hrow'.bf ((BF.refl _ _ _).alloc _)) (WOKL_mem hw.1) (by simp only [isz] at hn; omega))
  clear hd hr hrow hrow' hw hn ih hkd
  unfold PV.val
  dsimp only
  go_enter Tryd.func34, Tryd.ntmps34
  go_wp2_with fail
  refine KEY.out.mono ?_
  rintro e w1 ⟨rfl, hd1, hx1⟩
  have HX1 := hide hx1
  have HD1 := hide hd1
  clear hx1 hd1
  go_wp2_with fail
  go_end0
  exact ⟨rfl, HD1.out, ((BF.refl _ _ _).alloc _).trans HX1.out⟩

theorem add_all : ∀ q, AddC q := by
  have key : ∀ (n : Nat) (q : Pt), SizeOf.sizeOf q < n → AddC q := by
    intro n
    induction n with
    | zero => intro q hq; omega
    | succ n ih =>
      intro q hq
      have ih' : ∀ x, x ∈ kids q → AddC x := fun x hx => ih x (by have := kids_lt q x hx; omega)
      cases q with
      | single c => exact addC_single c
      | seq l => exact addC_seq l ih'
      | alt l => exact addC_alt l ih'
      | wrap q k => exact addC_wrap q k (ih' q (by simp [kids]))
      | count q a b c => exact addC_count q a b c (ih' q (by simp [kids]))
  exact fun q => key (SizeOf.sizeOf q + 1) q (by omega)
end Go.Proofs.YtmeffeigamaipaaDoor.G

/- The program of a whole pattern. -/
namespace Go.Proofs.YtmeffeigamaipaaDoor.G
open Go.RowKit

def progM (q : Pt) : List Ins := addM q [] ++ [bare 6]
theorem progM_len (q : Pt) : (progM q).length = isz q + 1 := by simp [progM, addM_len]

theorem own_lower {w : World} {b b' : Nat} {e : TypeId} {size : Nat} {v : Value} {n : Nat} {xs : List Value} (h : w.ownsRow b e size v n xs) (hb : b' ≤ b) : w.ownsRow b' e size v n xs := by
  refine ⟨h.1, ?_⟩
  rcases h.2 with hn | ⟨g, cap, cur, rfl, hg, rest⟩
  · exact .inl hn
  · exact .inr ⟨g, cap, cur, rfl, by omega, rest⟩

set_option maxHeartbeats 1000000 in
set_option maxRecDepth 100000 in
theorem programOf_any (q : Pt) (v : PV) (B : Nat → Prop) (w : World) (hq : PR w B q v) (hB : ∀ g, B g → g < w.heap.size) (hw : WOK q) (hn : isz q ≤ 98000) :
    Calls Tryd.prog 19 #[v.val] w fun e w' => ∃ p c, e = .returned (.slice p (progM q).length c) ∧ w'.ownsRow w.heap.size 98 7 (.slice p (progM q).length c) (progM q).length (codeL (progM q)) ∧ Ex [] w w' := by
  have HQ := hide hq
  have HB := hide hB
  have HW := hide hw
  clear hq hB hw
  obtain ⟨kd', p', n', c', lo', hi', hg', gr', l', m', z'⟩ := v
  unfold PV.val
  dsimp only
  go_enter Tryd.func19, Tryd.ntmps19
  go_wp2_with fail
  have hd0 : BG ((w.alloc (Obj.cells #[.int .i64 kd', .slice p' n' c', .int .u64 lo', .int .u64 hi', .bool hg', .int .i64 gr', .int .i64 l', .int .i64 m', .bool z'] 59)).alloc (Obj.cells #[.slice none 0 0] 93)) (w.heap.size + 1) (w.heap.size + 2) [] :=
    ⟨by omega, by simp, _, by simpa using BK.new (w.alloc (Obj.cells #[.int .i64 kd', .slice p' n' c', .int .u64 lo', .int .u64 hi', .bool hg', .int .i64 gr', .int .i64 l', .int .i64 m', .bool z'] 59)) (Obj.cells #[.slice none 0 0] 93), World.ownsRow_nil _ _ _ _⟩
  have hx0 : Ex [] w ((w.alloc (Obj.cells #[.int .i64 kd', .slice p' n' c', .int .u64 lo', .int .u64 hi', .bool hg', .int .i64 gr', .int .i64 l', .int .i64 m', .bool z'] 59)).alloc (Obj.cells #[.slice none 0 0] 93)) := ((Ex.refl _ _).alloc _).alloc _
  refine (add_all q ⟨kd', p', n', c', lo', hi', hg', gr', l', m', z'⟩ _ (w.heap.size + 1) (w.heap.size + 2) [] hd0 (HQ.out.frame (fun g hg => ⟨by have := HB.out g hg; omega, by have := HB.out g hg; omega⟩) hx0.size (fun g hg hlt => hx0.block g hlt (by simp)) _ _) HW.out (by simp; omega)).mono ?_
  rintro e w1 ⟨rfl, hd1, hx1⟩
  have HX1 := hide ((EB.ofEx hx0 (Nat.le_refl _)).trans ((hx1.toEB hd0.le).mono (B' := w.heap.size) (l' := []) (by omega) (by simp)))
  have HD1 := hide hd1
  clear hx1 hd1 hd0 hx0
  go_wp2_with fail
  refine (put_bare 6 HD1.out (by rw [addM_len]; simp; omega)).mono ?_
  rintro e w2 ⟨rfl, hd2, hx2⟩
  have HX2 := hide (HX1.out.trans ((hx2.toEB HD1.out.le).mono (B' := w.heap.size) (l' := []) (by omega) (by simp)))
  obtain ⟨v2, hb2, ho2⟩ := hd2.ex
  obtain ⟨p2, c2, rfl⟩ := own_slice ho2
  obtain ⟨hcb, hfb⟩ := hb2.all
  have HO2 := hide ho2
  clear hx2 hd2 ho2 hb2
  go_wp2_with fail
  go_ret
  exact ⟨p2, c2, by simp [progM], own_lower HO2.out (by omega), HX2.out.toEx⟩
end Go.Proofs.YtmeffeigamaipaaDoor.G
