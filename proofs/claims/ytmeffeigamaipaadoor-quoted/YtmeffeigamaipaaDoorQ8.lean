/- Contracts of a run, at a row of single runes. -/
import Derived.Test.YtmeffeigamaipaaDoorQ7
import Derived.Test.YtmeffeigamaipaaDoorW20
set_option linter.unusedVariables false
set_option linter.unusedSimpArgs false
namespace Go.Proofs.YtmeffeigamaipaaDoor.Q
open Go.RowKit

set_option maxHeartbeats 2000000 in
set_option maxRecDepth 100000 in
theorem newRun_cls (q base m : Nat) (cl : List Cls) (w : World) (hp : PT w q base m cl) (hm : m ≤ 60) :
    Calls Tryd.prog 22 #[.pointer (some ⟨q, 0, none⟩)] w fun e w' => ∃ u gr, e = .returned (.pointer (some ⟨u, 0, none⟩)) ∧ w.heap.size ≤ gr ∧ gr < u ∧ u < w'.heap.size ∧
      BK w' u (.cells #[.pointer (some ⟨q, 0, none⟩), .slice none 0 0, .slice none 0 0, .slice (some ⟨gr, 0, none⟩) (m + 1) (m + 1)] 108 (0, 0)) ∧ RC w' gr (m + 1) 0 ∧ Ex [] w w' := by
  obtain ⟨i0, hi, hz0, hz1, hz2⟩ := info_parts info3
  obtain ⟨cv, sv, B, mb, hq, hoc, hos, hbh, hbB⟩ := hp.ex
  obtain ⟨pc, cc, rfl⟩ := own_slice hoc
  obtain ⟨hcq, hfq⟩ := hq.all
  clear hoc hos hbh
  go_enter Tryd.func22, Tryd.ntmps22
  go_wp2_with (at_make; refine wpList_make_full _ rfl _ _ 105 rfl w.heap.size 3 i0 (.int .i64 0) 1 Tryd.underlying105 hi hz0 hz1 .i64 .i64 _ _ (m + 1) rfl rfl (by simp) (by simp) (by rw [hz2]; omega) (by unfold maxLen; omega) (Nat.le_refl _) ?_)
  intro w1 hown1 hg1
  have hx1 : Ex [] w w1 := (Ex.refl _ _).grown hg1 (by simp)
  have hrl : RL w1 w.heap.size (m + 1) 0 := by
    rcases hown1.2 with ⟨hv, _⟩ | ⟨g', cap', cur, hv, hb', hgg, h1, h2, h3, h4⟩
    · cases hv
    · cases hv
      exact ⟨cur, hgg, by omega, fun i hi => by omega⟩
  have hl1 : w.heap.size < w1.heap.size := by obtain ⟨cs, hb, _⟩ := hrl; exact hb.lt
  have HX1 := hide hx1
  have HRL := hide hrl
  clear hx1 hrl hown1 hg1 hcq hfq
  go_wp2_with fail
  go_loopg [19] (m + 1) (fun gk i wr => ∃ j : Nat, j + gk = m + 1 ∧ i = .int .i64 j ∧ RL wr w.heap.size (m + 1) j ∧ BK wr w1.heap.size (.cells #[.pointer (some ⟨q, 0, none⟩), .slice none 0 0, .slice none 0 0, .slice (some ⟨w.heap.size, 0, none⟩) (m + 1) (m + 1)] 108 (0, 0)) ∧ Ex [] w wr)
  case atStart =>
    refine ⟨0, by omega, rfl, ?_, BK.new _ _, HX1.out.alloc _⟩
    obtain ⟨cs, h1, h2, h3⟩ := HRL.out
    exact ⟨cs, h1.alloc _, h2, h3⟩
  case round =>
    obtain ⟨j, hj, rfl, hrl, hbu, hx⟩ := hrel
    have HX := hide hx
    have HR := hide hrl
    have HU := hide hbu
    obtain ⟨hcu, hfu⟩ := hbu.all
    cases gk with
    | zero =>
      obtain rfl : j = m + 1 := by omega
      clear hx hj hrl hbu
      go_wp2_with fail
      go_ret
      refine ⟨w1.heap.size, w.heap.size, rfl, Nat.le_refl _, hl1, HU.out.lt, HU.out, ?_, HX.out⟩
      obtain ⟨cs, h1, h2, h3⟩ := HR.out
      exact ⟨cs, h1, h2, fun i _ hi => h3 i hi hi, fun i hi => ⟨_, h3 i hi hi⟩⟩
    | succ g =>
      have hj' : ((j : Int) < ((m : Int) + 1)) := by omega
      obtain ⟨cs, hbk, hcs, _⟩ := hrl
      obtain ⟨hcB, hfB⟩ := hbk.all
      have kj : wr.cell? ⟨w.heap.size, j, none⟩ = some (cs[j]'(by omega)) := by rw [hcB, Array.getElem?_eq_getElem (by omega)]
      have kf := hfB j
      clear hx hcB hfB hbk hbu
      go_wp2_with fail
      go_roundg g
      case measure => omega
      case rel => exact ⟨j + 1, by omega, by simp, HR.out.next (by omega), HU.out.set (by simp; omega) _, HX.out.setCell (Or.inr (by simp)) _⟩

/-- What was made of single runes, by its cells; all of it lies below top. -/
structure PC (w : World) (q m top cg cc sg sc B mb : Nat) (cl : List Cls) : Prop where
  len : cl.length = m
  blk : BK w q (.cells #[.slice (some ⟨cg, 0, none⟩) (m + 1) cc, .slice (some ⟨sg, 0, none⟩) 1 sc, .slice (some ⟨B, 0, none⟩) (m + 1) (m + 1), .int .i64 0, .map (some mb)] 74 (0, 0))
  code : ∀ j, j < (m + 1) * 7 → w.cell? ⟨cg, j, none⟩ = (progC cl)[j]?
  s0 : w.cell? ⟨sg, 0, none⟩ = some (.int .i64 0)
  s1 : w.cell? ⟨sg, 1, none⟩ = some (.int .u64 0)
  beh : ∀ i, i < m → ∃ gw cw, w.cell? ⟨B, i, none⟩ = some (.slice (some ⟨gw, 0, none⟩) 1 cw) ∧ w.cell? ⟨gw, 0, none⟩ = some (.int .i64 ((i + 1 : Nat) : Int)) ∧ w.cell? ⟨gw, 1, none⟩ = some (.int .u64 0) ∧ gw < top
  qt : q < top
  cgt : cg < top
  sgt : sg < top
  Bt : B < top

theorem PC.eb {w w' : World} {q m top cg cc sg sc B mb : Nat} {cl : List Cls} (h : PC w q m top cg cc sg sc B mb cl) (hx : EB top [] w w') : PC w' q m top cg cc sg sc B mb cl where
  len := h.len
  blk := h.blk.eb hx h.qt (by simp)
  code := fun j hj => (hx.cell h.cgt).trans (h.code j hj)
  s0 := (hx.cell h.sgt).trans h.s0
  s1 := (hx.cell h.sgt).trans h.s1
  beh := fun i hi => by
    obtain ⟨gw, cw, h1, h2, h3, h4⟩ := h.beh i hi
    exact ⟨gw, cw, (hx.cell h.Bt).trans h1, (hx.cell h4).trans h2, (hx.cell h4).trans h3, h4⟩
  qt := h.qt
  cgt := h.cgt
  sgt := h.sgt
  Bt := h.Bt

theorem PT.pc {w : World} {q base m : Nat} {cl : List Cls} (h : PT w q base m cl) : ∃ cg cc sg sc B mb, PC w q m w.heap.size cg cc sg sc B mb cl := by
  obtain ⟨cv, sv, B, mb, hq, hoc, hos, hbh, _⟩ := h.ex
  obtain ⟨cg, cc, rfl, _, hcl, _, hcc, _⟩ := own_cells hoc (by omega)
  obtain ⟨sg, sc, rfl, _, hsl, _, hsc, _⟩ := own_cells hos (by omega)
  obtain ⟨cs, hb, hs, hv⟩ := hbh.ex
  refine ⟨cg, cc, sg, sc, B, mb, ⟨h.len, hq, hcc, hsc 0 (by omega), hsc 1 (by omega), fun i hi => ?_, hq.lt, hcl, hsl, hb.lt⟩⟩
  obtain ⟨v, h1, h2⟩ := hv i hi hi
  obtain ⟨gw, cw, rfl, _, hgl, _, hgc, _⟩ := own_cells h2 (by omega)
  exact ⟨gw, cw, by rw [hb.all.1]; exact h1, hgc 0 (by omega), hgc 1 (by omega), hgl⟩

theorem PC.up {w : World} {q m top top' cg cc sg sc B mb : Nat} {cl : List Cls} (h : PC w q m top cg cc sg sc B mb cl) (ht : top ≤ top') : PC w q m top' cg cc sg sc B mb cl where
  len := h.len
  blk := h.blk
  code := h.code
  s0 := h.s0
  s1 := h.s1
  beh := fun i hi => by obtain ⟨gw, cw, a1, a2, a3, a4⟩ := h.beh i hi; exact ⟨gw, cw, a1, a2, a3, by omega⟩
  qt := Nat.lt_of_lt_of_le h.qt ht
  cgt := Nat.lt_of_lt_of_le h.cgt ht
  sgt := Nat.lt_of_lt_of_le h.sgt ht
  Bt := Nat.lt_of_lt_of_le h.Bt ht

theorem PT.ex' {w w' : World} {q base m : Nat} {cl : List Cls} (h : PT w q base m cl) (hx : Ex [] w w') : PT w' q base m cl := by
  obtain ⟨cv, sv, B, mb, h1, h2, h3, h4, h5⟩ := h.ex
  exact ⟨h.len, Nat.le_trans h.le hx.size, h.ql, cv, sv, B, mb, h1.ex hx (by simp), own_ex h2 hx (by simp), own_ex h3 hx (by simp), h4.ex' hx (by simp) (by simp), h5⟩

set_option maxHeartbeats 2000000 in
set_option maxRecDepth 100000 in
theorem step_take (u gr base q m k top cg cc sg sc B mb : Nat) (r pl : Int) (nowV nextV : Value) (w : World) (cl : List Cls) (hp : PC w q m top cg cc sg sc B mb cl) (hr : RN w u gr base q m k nowV nextV)
    (c : Cls) (hk : k < m) (hkc : ∀ h, cl[k]'h = c) (hhas : hasC c r = true) (hm : m ≤ 60) (hr0 : 0 ≤ r) (hpl : 0 ≤ pl) (htu : top ≤ u) (htg : top ≤ gr) :
    Calls Tryd.prog 26 #[.pointer (some ⟨u, 0, none⟩), .int .i32 r, .int .i64 pl] w fun e w' => e = .returned (.bool true) ∧ (∃ nowV' nextV', RN w' u gr base q m (k + 1) nowV' nextV') ∧ EB top [] w w' := by
  obtain ⟨nn, nx, hno⟩ := hr.next
  obtain ⟨np, nc, rfl, hnz, hnb, hnn⟩ := own_zero hno
  obtain ⟨ng, ncap, rfl, hngb, hngl, hngc, hncell, hnfz⟩ := own_cells hr.now (by omega)
  obtain ⟨hcu, hfu⟩ := hr.blk.all
  have HP := hide hp
  have hlen := hp.len
  have KH := hide (fun w => has_any c r w hr0)
  rw [hhas] at KH
  have HR := hide hr
  have HNZ := hide hnz
  have HNB := hide hnb
  have HNC := hide hncell
  have hul := hr.ul
  have hgl := hr.gl
  have hug := hr.ug
  have hle := hr.le
  clear hp hr hnz hnb hncell hno
  have hcap : (0 : Int) ≤ (nc : Int) := by omega
  go_enter Tryd.func26, Tryd.ntmps26
  go_wp2_with fail
  generalize hw1 : World.setCell _ (⟨u, 1, none⟩ : Addr) _ = w1
  have hx1 : Ex [u] w w1 := by rw [← hw1]; exact (Ex.refl _ _).setCell (Or.inl (by simp)) _
  have hu1 : BK w1 u (.cells #[.pointer (some ⟨q, 0, none⟩), .slice np 0 nc, .slice np nn nc, .slice (some ⟨gr, 0, none⟩) (m + 1) (m + 1)] 108 (0, 0)) := by
    have h1 := BK.self HR.out.blk 1 (.slice np 0 nc)
    simp only [List.setIfInBounds_toArray, List.set_cons_zero, List.set_cons_succ] at h1
    rw [← hw1]; exact h1
  have hp1 : PC w1 q m top cg cc sg sc B mb cl := HP.out.eb ((EB.ofEx hx1 (Nat.le_trans (Nat.le_trans htu (Nat.le_of_lt hul)) hle)).mono (Nat.le_refl _) (fun x hx hlt => by simp at hx; omega))
  have hcl : ∀ j, j < 11 → w1.cell? ⟨ng, j, none⟩ = (thr k)[j]? := fun j hj => (hx1.cell.1 ng j hngl (by simp; omega)).trans (HNC.out j (by omega))
  have j0 := hcl 0 (by omega); have j1 := hcl 1 (by omega); have j2 := hcl 2 (by omega); have j3 := hcl 3 (by omega); have j4 := hcl 4 (by omega); have j5 := hcl 5 (by omega)
  have j6 := hcl 6 (by omega); have j7 := hcl 7 (by omega); have j8 := hcl 8 (by omega); have j9 := hcl 9 (by omega); have j10 := hcl 10 (by omega)
  simp [thr] at j0 j1 j2 j3 j4 j5 j6 j7 j8 j9 j10
  have hcode : ∀ o, o < 7 → w1.cell? ⟨cg, k * 7 + o, none⟩ = (insOf 0 c.lo c.hi c.hg)[o]? := fun o ho => by rw [← hkc (by omega)]; exact (hp1.code _ (by omega)).trans (progC_take cl k o (by omega) ho)
  have c0 := hcode 0 (by omega); have c1 := hcode 1 (by omega); have c2 := hcode 2 (by omega); have c3 := hcode 3 (by omega); have c4 := hcode 4 (by omega); have c5 := hcode 5 (by omega); have c6 := hcode 6 (by omega)
  simp [insOf] at c0 c1 c2 c3 c4 c5 c6
  have hk' : (k : Int) < (m : Int) + 1 := by omega
  have HX1 := hide hx1
  have HU1 := hide hu1
  have HP1 := hide hp1
  have hul1 := hu1.lt
  have hz1 := hx1.size
  have hqt := hp1.qt
  have hcgt := hp1.cgt
  have hq1 : q < w1.heap.size := by omega
  have hcg1 : cg < w1.heap.size := by omega
  clear hcu hfu
  obtain ⟨hcu, hfu⟩ := hu1.all
  obtain ⟨hcq, hfq⟩ := hp1.blk.all
  clear hw1 hcl hcode hx1 hu1 hp1 hnfz
  refine wp_loop_rounds 2 ?_
  rw [rounds_succ]
  go_wp2_with fail
  go_region
  generalize hw2 : World.drew _ = w2
  have hx2 : Ex [] w1 w2 := by rw [← hw2]; exact (((Ex.refl _ _).alloc _).alloc _).drew
  have ht2 : BK w2 w1.heap.size (.cells #[.int .i64 k, .int .i64 (-1), .int .i64 (-1), .int .i64 (-1), .int .i64 (-1), .int .i64 (-1), .int .i64 (-1), .int .i64 (-1), .int .i64 (-1), .int .i64 (-1), .int .i64 (-1)] 113 (0, 0)) := by
    rw [← hw2]; exact ((BK.new _ _).alloc _).drew
  have hi2 : BK w2 (w1.heap.size + 1) (.cells #[.int .i64 0, .int .u64 c.lo, .int .u64 c.hi, .bool c.hg, .int .i64 0, .int .i64 0, .int .i64 0] 98 (0, 0)) := by
    have h1 := BK.new (w1.alloc (Obj.cells #[.int .i64 k, .int .i64 (-1), .int .i64 (-1), .int .i64 (-1), .int .i64 (-1), .int .i64 (-1), .int .i64 (-1), .int .i64 (-1), .int .i64 (-1), .int .i64 (-1), .int .i64 (-1)] 113)) (Obj.cells #[.int .i64 0, .int .u64 c.lo, .int .u64 c.hi, .bool c.hg, .int .i64 0, .int .i64 0, .int .i64 0] 98)
    simp only [World.size_alloc] at h1
    rw [← hw2]; exact h1.drew
  have HT2 := hide ht2
  have HX2 := hide hx2
  clear hw2 hcu hfu hcq hfq j0 j1 j2 j3 j4 j5 j6 j7 j8 j9 j10 c0 c1 c2 c3 c4 c5 c6
  obtain ⟨hci, hfi⟩ := hi2.all
  clear hi2 ht2 hx2
  go_wp2_with fail
  refine (KH.out _).mono ?_
  rintro e w3 ⟨rfl, hx3⟩
  have hx13 : Ex [] w1 w3 := HX2.out.trans hx3
  have hz13 := hx13.size
  have ht3 := HT2.out.ex hx3 (by simp)
  have hu3 := HU1.out.ex hx13 (by simp)
  have hp3 := HP1.out.eb (EB.ofEx hx13 (by omega))
  obtain ⟨gw, cw, b0, b1, b2, hgwt⟩ := hp3.beh k hk
  have hx03 : Ex [u] w w3 := HX1.out.trans (hx13.drop (by simp))
  obtain ⟨cs, hgr, hcs, hcz, hci0⟩ := HR.out.rc
  have HCI := hide hci0
  clear hci0
  have hgr3 := hgr.ex hx03 (by simpa using fun h => hug h.symm)
  have hn3 := own_ex HNZ.out hx03 (by simpa using hul)
  have s0 : w3.cell? ⟨u, 0, none⟩ = some (.pointer (some ⟨q, 0, none⟩)) := hu3.all.1 0
  have s1 : w3.cell? ⟨q, 2, none⟩ = some (.slice (some ⟨B, 0, none⟩) (m + 1) (m + 1)) := hp3.blk.all.1 2
  have s2 : w3.cell? ⟨w1.heap.size, 0, none⟩ = some (.int .i64 k) := ht3.all.1 0
  have s3 := thr_range ht3
  have HX3 := hide hx03
  have HX13 := hide hx13
  have HT3 := hide ht3
  have HU3 := hide hu3
  have HP3 := hide hp3
  have HG3 := hide hgr3
  have HN3 := hide hn3
  have HCZ := hide hcz
  have h90 := Tryd.underlying79
  have hs90 := size90
  have hul3 := hu3.lt
  have htl3 := ht3.lt
  clear hx3 hx13 ht3 hu3 hp3 hx03 hgr hgr3 hn3 hcz hci hfi
  have key := follow_one u gr gw cw (m + 1) (k + 1) base pl (.pointer (some ⟨q, 0, none⟩)) (.slice np 0 nc) (.slice np nn nc) w3.drew cs (-1) HN3.out.drew HU3.out.drew HG3.out.drew hcs (by omega) (by omega)
    (HCZ.out (k + 1) (Nat.le_refl _) (by omega)) (by rw [beq_eq_false_iff_ne]; omega) hul hgl hug (by show base ≤ w3.heap.size; omega) b1 b2 (by show gw < w3.heap.size; omega)
  have KEY := hide key
  clear key b1 b2
  have hBt := HP3.out.Bt
  have hnl : ∀ x, x ≠ u → x ≠ gr → (x < base ∨ w1.heap.size ≤ x) → x ∉ (u :: gr :: (Value.slice np 0 nc).ownBlock.toList) := fun x h2 h3 h4 hmem => by
    simp only [List.mem_cons, Option.mem_toList] at hmem
    rcases hmem with h | h | h
    · exact h2 h
    · exact h3 h
    · have e1 := own_block HN3.out x h
      have e2 := (HNZ.out.lt x h).2
      omega
  have HNL := hide hnl
  clear hnl
  go_wp2_with fail
  go_region_held3 (fun w' => w'.cell? ⟨u, 0, none⟩ = some (.pointer (some ⟨q, 0, none⟩)) ∧ w'.cell? ⟨q, 2, none⟩ = some (.slice (some ⟨B, 0, none⟩) (m + 1) (m + 1)) ∧ w'.cell? ⟨w1.heap.size, 0, none⟩ = some (.int .i64 k) ∧ w'.cell? ⟨B, k, none⟩ = some (.slice (some ⟨gw, 0, none⟩) 1 cw) ∧ w'.rangeAt w1.heap.size 1 unsetL)
    (first | exact ⟨q0, q1, q2, q3, q4⟩ | exact ⟨s0, s1, s2, b0, s3⟩)
    (first
      | (go_at_call 23; refine KEY.out.mono ?_; rintro e w4 ⟨rfl, nowV', hu4, ho4, hg4, hx4, hor4⟩; have q0 : w4.cell? ⟨u, 0, none⟩ = some (.pointer (some ⟨q, 0, none⟩)) := hu4.all.1 0; have q1 := (hx4.cell.1 q 2 (show q < w3.heap.size by omega) (HNL.out q (by omega) (by omega) (Or.inl (by omega)))).trans s1; have ht4 := HT3.out.drew.ex hx4 (HNL.out _ (by omega) (by omega) (Or.inr (Nat.le_refl _))); have q2 : w4.cell? ⟨w1.heap.size, 0, none⟩ = some (.int .i64 k) := ht4.all.1 0; have q3 := (hx4.cell.1 B k (show B < w3.heap.size by omega) (HNL.out B (by omega) (by omega) (Or.inl (by omega)))).trans b0; have q4 := thr_range ht4))
  have HU4 := hide hu4
  have HO4 := hide ho4
  have HG4 := hide hg4
  have HX4 := hide hx4
  have hz4 : w3.heap.size ≤ w4.heap.size := hx4.size
  obtain ⟨hcu, hfu⟩ := hu4.all
  obtain ⟨p4, c4, rfl⟩ := own_slice ho4
  clear hu4 ho4 hg4 hx4 q0 q1 q2 q3 q4 ht4 s0 s1 s2 s3 b0
  go_wp2_with fail
  rw [rounds_succ]
  go_wp2_with fail
  go_ret
  have hng : ng ∉ (u :: gr :: (Value.slice np 0 nc).ownBlock.toList) := fun hmem => by
    simp only [List.mem_cons, Option.mem_toList] at hmem
    rcases hmem with h | h | h
    · omega
    · omega
    · rw [HNB.out] at h
      exact HR.out.apart ng rfl h
  have hnow3 := own_ex HR.out.now HX3.out (by simpa using hul)
  have hnow4 := own_exn (World.ownsRow.drew hnow3) HX4.out (fun k hk => by cases hk; exact hng)
  have hb5 := BK.self HU4.out 2 (.slice (some ⟨ng, 0, none⟩) 1 ncap)
  simp only [List.setIfInBounds_toArray, List.set_cons_zero, List.set_cons_succ] at hb5
  refine ⟨rfl, ⟨_, _, ⟨hb5, own_set HO4.out hul _, ⟨1, thr k, own_set hnow4 hul _⟩, fun b hb1 hb2 => ?_, RC.next (HG4.out.set (by simpa using fun h => hug h.symm) _) hcs (fun i h1 h2 => HCZ.out i h1 h2) HCI.out, hul, hgl, hug, by simp; omega⟩⟩, ?_⟩
  · cases hb2
    rcases hor4 with h | ⟨g, h, hg⟩
    · rw [hb1, HNB.out] at h
      exact HR.out.apart ng rfl h.symm
    · rw [hb1] at h
      cases h
      have : w3.heap.size ≤ ng := hg
      omega
  · have e1 : EB top [] w w3 := (EB.ofEx HX3.out (by omega)).mono (Nat.le_refl _) (fun x hx hlt => by simp at hx; omega)
    have e2 : EB top [] w3 w4 := ((EB.refl top [] w3).drew).trans ((EB.ofEx HX4.out (show top ≤ w3.heap.size by omega)).mono (Nat.le_refl _) (fun x hx hlt => by
      simp only [List.mem_cons, Option.mem_toList] at hx
      rcases hx with h | h | h
      · omega
      · omega
      · have := own_block HN3.out x h; omega))
    exact (e1.trans e2).setCell (Or.inr (by simpa using htu)) _

set_option maxHeartbeats 2000000 in
set_option maxRecDepth 100000 in
theorem step_fail (u gr base q m k top cg cc sg sc B mb : Nat) (r pl : Int) (nowV nextV : Value) (w : World) (cl : List Cls) (hp : PC w q m top cg cc sg sc B mb cl) (hr : RN w u gr base q m k nowV nextV)
    (c : Cls) (hk : k < m) (hkc : ∀ h, cl[k]'h = c) (hhas : hasC c r = false) (hm : m ≤ 60) (hr0 : 0 ≤ r) (hpl : 0 ≤ pl) (htu : top ≤ u) (htg : top ≤ gr) :
    Calls Tryd.prog 26 #[.pointer (some ⟨u, 0, none⟩), .int .i32 r, .int .i64 pl] w fun e w' => e = .returned (.bool false) ∧ EB top [] w w' := by
  obtain ⟨nn, nx, hno⟩ := hr.next
  obtain ⟨np, nc, rfl, hnz, hnb, hnn⟩ := own_zero hno
  obtain ⟨ng, ncap, rfl, hngb, hngl, hngc, hncell, hnfz⟩ := own_cells hr.now (by omega)
  obtain ⟨hcu, hfu⟩ := hr.blk.all
  have HP := hide hp
  have hlen := hp.len
  have KH := hide (fun w => has_any c r w hr0)
  rw [hhas] at KH
  have HR := hide hr
  have HNZ := hide hnz
  have HNB := hide hnb
  have HNC := hide hncell
  have hul := hr.ul
  have hgl := hr.gl
  have hug := hr.ug
  have hle := hr.le
  clear hp hr hnz hnb hncell hno
  have hcap : (0 : Int) ≤ (nc : Int) := by omega
  go_enter Tryd.func26, Tryd.ntmps26
  go_wp2_with fail
  generalize hw1 : World.setCell _ (⟨u, 1, none⟩ : Addr) _ = w1
  have hx1 : Ex [u] w w1 := by rw [← hw1]; exact (Ex.refl _ _).setCell (Or.inl (by simp)) _
  have hu1 : BK w1 u (.cells #[.pointer (some ⟨q, 0, none⟩), .slice np 0 nc, .slice np nn nc, .slice (some ⟨gr, 0, none⟩) (m + 1) (m + 1)] 108 (0, 0)) := by
    have h1 := BK.self HR.out.blk 1 (.slice np 0 nc)
    simp only [List.setIfInBounds_toArray, List.set_cons_zero, List.set_cons_succ] at h1
    rw [← hw1]; exact h1
  have hp1 : PC w1 q m top cg cc sg sc B mb cl := HP.out.eb ((EB.ofEx hx1 (Nat.le_trans (Nat.le_trans htu (Nat.le_of_lt hul)) hle)).mono (Nat.le_refl _) (fun x hx hlt => by simp at hx; omega))
  have hcl : ∀ j, j < 11 → w1.cell? ⟨ng, j, none⟩ = (thr k)[j]? := fun j hj => (hx1.cell.1 ng j hngl (by simp; omega)).trans (HNC.out j (by omega))
  have j0 := hcl 0 (by omega); have j1 := hcl 1 (by omega); have j2 := hcl 2 (by omega); have j3 := hcl 3 (by omega); have j4 := hcl 4 (by omega); have j5 := hcl 5 (by omega)
  have j6 := hcl 6 (by omega); have j7 := hcl 7 (by omega); have j8 := hcl 8 (by omega); have j9 := hcl 9 (by omega); have j10 := hcl 10 (by omega)
  simp [thr] at j0 j1 j2 j3 j4 j5 j6 j7 j8 j9 j10
  have hcode : ∀ o, o < 7 → w1.cell? ⟨cg, k * 7 + o, none⟩ = (insOf 0 c.lo c.hi c.hg)[o]? := fun o ho => by rw [← hkc (by omega)]; exact (hp1.code _ (by omega)).trans (progC_take cl k o (by omega) ho)
  have c0 := hcode 0 (by omega); have c1 := hcode 1 (by omega); have c2 := hcode 2 (by omega); have c3 := hcode 3 (by omega); have c4 := hcode 4 (by omega); have c5 := hcode 5 (by omega); have c6 := hcode 6 (by omega)
  simp [insOf] at c0 c1 c2 c3 c4 c5 c6
  have hk' : (k : Int) < (m : Int) + 1 := by omega
  have HX1 := hide hx1
  have HU1 := hide hu1
  have HP1 := hide hp1
  have hul1 := hu1.lt
  have hz1 := hx1.size
  have hqt := hp1.qt
  have hcgt := hp1.cgt
  have hq1 : q < w1.heap.size := by omega
  have hcg1 : cg < w1.heap.size := by omega
  clear hcu hfu
  obtain ⟨hcu, hfu⟩ := hu1.all
  obtain ⟨hcq, hfq⟩ := hp1.blk.all
  clear hw1 hcl hcode hx1 hu1 hp1 hnfz
  refine wp_loop_rounds 2 ?_
  rw [rounds_succ]
  go_wp2_with fail
  go_region
  generalize hw2 : World.drew _ = w2
  have hx2 : Ex [] w1 w2 := by rw [← hw2]; exact (((Ex.refl _ _).alloc _).alloc _).drew
  have ht2 : BK w2 w1.heap.size (.cells #[.int .i64 k, .int .i64 (-1), .int .i64 (-1), .int .i64 (-1), .int .i64 (-1), .int .i64 (-1), .int .i64 (-1), .int .i64 (-1), .int .i64 (-1), .int .i64 (-1), .int .i64 (-1)] 113 (0, 0)) := by
    rw [← hw2]; exact ((BK.new _ _).alloc _).drew
  have hi2 : BK w2 (w1.heap.size + 1) (.cells #[.int .i64 0, .int .u64 c.lo, .int .u64 c.hi, .bool c.hg, .int .i64 0, .int .i64 0, .int .i64 0] 98 (0, 0)) := by
    have h1 := BK.new (w1.alloc (Obj.cells #[.int .i64 k, .int .i64 (-1), .int .i64 (-1), .int .i64 (-1), .int .i64 (-1), .int .i64 (-1), .int .i64 (-1), .int .i64 (-1), .int .i64 (-1), .int .i64 (-1), .int .i64 (-1)] 113)) (Obj.cells #[.int .i64 0, .int .u64 c.lo, .int .u64 c.hi, .bool c.hg, .int .i64 0, .int .i64 0, .int .i64 0] 98)
    simp only [World.size_alloc] at h1
    rw [← hw2]; exact h1.drew
  have HT2 := hide ht2
  have HX2 := hide hx2
  clear hw2 hcu hfu hcq hfq j0 j1 j2 j3 j4 j5 j6 j7 j8 j9 j10 c0 c1 c2 c3 c4 c5 c6
  obtain ⟨hci, hfi⟩ := hi2.all
  clear hi2 ht2 hx2
  go_wp2_with fail
  refine (KH.out _).mono ?_
  rintro e w3 ⟨rfl, hx3⟩
  have hx13 : Ex [] w1 w3 := HX2.out.trans hx3
  have hz13 := hx13.size
  have hu3 := HU1.out.ex hx13 (by simp)
  obtain ⟨hcu, hfu⟩ := hu3.all
  have hul3 := hu3.lt
  have HX13 := hide hx13
  clear hx3 hx13 hu3 hci hfi
  go_wp2_with fail
  rw [rounds_succ]
  go_wp2_with fail
  go_ret
  refine ⟨by simp, ?_⟩
  have e1 : EB top [] w w3 := ((EB.ofEx HX1.out (by omega)).mono (Nat.le_refl _) (fun x hx hlt => by simp at hx; omega)).trans (EB.ofEx HX13.out (by omega))
  exact e1.setCell (Or.inr (by simpa using htu)) _

set_option maxHeartbeats 2000000 in
set_option maxRecDepth 100000 in
theorem step_last (u gr base q m k top cg cc sg sc B mb : Nat) (r pl : Int) (nowV nextV : Value) (w : World) (cl : List Cls) (hp : PC w q m top cg cc sg sc B mb cl) (hr : RN w u gr base q m k nowV nextV)
    (hk : k = m) (hm : m ≤ 60) (htu : top ≤ u) (htg : top ≤ gr) :
    Calls Tryd.prog 26 #[.pointer (some ⟨u, 0, none⟩), .int .i32 r, .int .i64 pl] w fun e w' => e = .returned (.bool false) ∧ EB top [] w w' := by
  subst hk
  obtain ⟨nn, nx, hno⟩ := hr.next
  obtain ⟨np, nc, rfl, hnz, hnb, hnn⟩ := own_zero hno
  obtain ⟨ng, ncap, rfl, hngb, hngl, hngc, hncell, hnfz⟩ := own_cells hr.now (by omega)
  obtain ⟨hcu, hfu⟩ := hr.blk.all
  have HP := hide hp
  have hlen := hp.len
  have HR := hide hr
  have HNZ := hide hnz
  have HNB := hide hnb
  have HNC := hide hncell
  have hul := hr.ul
  have hgl := hr.gl
  have hug := hr.ug
  have hle := hr.le
  clear hp hr hnz hnb hncell hno
  have hcap : (0 : Int) ≤ (nc : Int) := by omega
  go_enter Tryd.func26, Tryd.ntmps26
  go_wp2_with fail
  generalize hw1 : World.setCell _ (⟨u, 1, none⟩ : Addr) _ = w1
  have hx1 : Ex [u] w w1 := by rw [← hw1]; exact (Ex.refl _ _).setCell (Or.inl (by simp)) _
  have hu1 : BK w1 u (.cells #[.pointer (some ⟨q, 0, none⟩), .slice np 0 nc, .slice np nn nc, .slice (some ⟨gr, 0, none⟩) (k + 1) (k + 1)] 108 (0, 0)) := by
    have h1 := BK.self HR.out.blk 1 (.slice np 0 nc)
    simp only [List.setIfInBounds_toArray, List.set_cons_zero, List.set_cons_succ] at h1
    rw [← hw1]; exact h1
  have hp1 : PC w1 q k top cg cc sg sc B mb cl := HP.out.eb ((EB.ofEx hx1 (Nat.le_trans (Nat.le_trans htu (Nat.le_of_lt hul)) hle)).mono (Nat.le_refl _) (fun x hx hlt => by simp at hx; omega))
  have hcl : ∀ j, j < 11 → w1.cell? ⟨ng, j, none⟩ = (thr k)[j]? := fun j hj => (hx1.cell.1 ng j hngl (by simp; omega)).trans (HNC.out j (by omega))
  have j0 := hcl 0 (by omega); have j1 := hcl 1 (by omega); have j2 := hcl 2 (by omega); have j3 := hcl 3 (by omega); have j4 := hcl 4 (by omega); have j5 := hcl 5 (by omega)
  have j6 := hcl 6 (by omega); have j7 := hcl 7 (by omega); have j8 := hcl 8 (by omega); have j9 := hcl 9 (by omega); have j10 := hcl 10 (by omega)
  simp [thr] at j0 j1 j2 j3 j4 j5 j6 j7 j8 j9 j10
  have hcode : ∀ o, o < 7 → w1.cell? ⟨cg, k * 7 + o, none⟩ = (insOf 6 0 0 false)[o]? := fun o _ => (hp1.code _ (by omega)).trans (progC_accept cl k o hlen)
  have c0 := hcode 0 (by omega); have c1 := hcode 1 (by omega); have c2 := hcode 2 (by omega); have c3 := hcode 3 (by omega); have c4 := hcode 4 (by omega); have c5 := hcode 5 (by omega); have c6 := hcode 6 (by omega)
  simp [insOf] at c0 c1 c2 c3 c4 c5 c6
  have hk' : (k : Int) < (k : Int) + 1 := by omega
  have HX1 := hide hx1
  have HU1 := hide hu1
  have HP1 := hide hp1
  have hul1 := hu1.lt
  have hz1 := hx1.size
  have hqt := hp1.qt
  have hcgt := hp1.cgt
  have hq1 : q < w1.heap.size := by omega
  have hcg1 : cg < w1.heap.size := by omega
  clear hcu hfu
  obtain ⟨hcu, hfu⟩ := hu1.all
  obtain ⟨hcq, hfq⟩ := hp1.blk.all
  clear hw1 hcl hcode hx1 hu1 hp1 hnfz
  refine wp_loop_rounds 2 ?_
  rw [rounds_succ]
  go_wp2_with fail
  go_region
  generalize hw2 : World.drew _ = w2
  have hx2 : Ex [] w1 w2 := by rw [← hw2]; exact (((Ex.refl _ _).alloc _).alloc _).drew
  have hi2 : BK w2 (w1.heap.size + 1) (.cells #[.int .i64 6, .int .u64 0, .int .u64 0, .bool false, .int .i64 0, .int .i64 0, .int .i64 0] 98 (0, 0)) := by
    have h1 := BK.new (w1.alloc (Obj.cells #[.int .i64 k, .int .i64 (-1), .int .i64 (-1), .int .i64 (-1), .int .i64 (-1), .int .i64 (-1), .int .i64 (-1), .int .i64 (-1), .int .i64 (-1), .int .i64 (-1), .int .i64 (-1)] 113)) (Obj.cells #[.int .i64 6, .int .u64 0, .int .u64 0, .bool false, .int .i64 0, .int .i64 0, .int .i64 0] 98)
    simp only [World.size_alloc] at h1
    rw [← hw2]; exact h1.drew
  have hu2 := HU1.out.ex hx2 (by simp)
  have HX2 := hide hx2
  have hz2 := hx2.size
  clear hw2 hcu hfu hcq hfq j0 j1 j2 j3 j4 j5 j6 j7 j8 j9 j10 c0 c1 c2 c3 c4 c5 c6
  obtain ⟨hci, hfi⟩ := hi2.all
  obtain ⟨hcu, hfu⟩ := hu2.all
  clear hi2 hx2 hu2
  go_wp2_with fail
  rw [rounds_succ]
  go_wp2_with fail
  go_ret
  refine ⟨by simp, ?_⟩
  have e1 : EB top [] w w2 := ((EB.ofEx HX1.out (by omega)).mono (Nat.le_refl _) (fun x hx hlt => by simp at hx; omega)).trans (EB.ofEx HX2.out (by omega))
  exact e1.setCell (Or.inr (by simpa using htu)) _

set_option maxHeartbeats 2000000 in
set_option maxRecDepth 100000 in
theorem accepted_yes (u gr base q m k top cg cc sg sc B mb : Nat) (nowV nextV : Value) (w : World) (cl : List Cls) (hp : PC w q m top cg cc sg sc B mb cl) (hr : RN w u gr base q m k nowV nextV) (hk : k = m) (hm : m ≤ 60) (htu : top ≤ u) :
    Calls Tryd.prog 27 #[.pointer (some ⟨u, 0, none⟩)] w fun e w' => e = .returned (.tuple #[unsetV, .bool true]) ∧ Ex [] w w' := by
  subst hk
  obtain ⟨ng, ncap, rfl, hngb, hngl, hngc, hncell, hnfz⟩ := own_cells hr.now (by omega)
  obtain ⟨hcu, hfu⟩ := hr.blk.all
  obtain ⟨hcq, hfq⟩ := hp.blk.all
  have j0 := hncell 0 (by omega); have j1 := hncell 1 (by omega); have j2 := hncell 2 (by omega); have j3 := hncell 3 (by omega); have j4 := hncell 4 (by omega); have j5 := hncell 5 (by omega)
  have j6 := hncell 6 (by omega); have j7 := hncell 7 (by omega); have j8 := hncell 8 (by omega); have j9 := hncell 9 (by omega); have j10 := hncell 10 (by omega)
  simp [thr] at j0 j1 j2 j3 j4 j5 j6 j7 j8 j9 j10
  have c0 := (hp.code (k * 7 + 0) (by omega)).trans (progC_accept cl k 0 hp.len)
  simp [insOf] at c0
  have hk' : (k : Int) < (k : Int) + 1 := by omega
  have hul := hr.ul
  have hle := hr.le
  have hqt := hp.qt
  have hcgt := hp.cgt
  have hul1 : u < w.heap.size := by omega
  have hq1 : q < w.heap.size := by omega
  have hcg1 : cg < w.heap.size := by omega
  clear hr hp hncell hnfz
  go_enter Tryd.func27, Tryd.ntmps27
  go_wp2_with fail
  refine wp_loop_rounds 2 ?_
  rw [rounds_succ]
  go_wp2_with fail
  go_quiet (fail)
  go_wp2_with fail
  refine bodyPost_ret (v := .tuple #[unsetV, .bool true]) (by simp [results, Tryd.results27, go_sem, unsetV]) rfl ⟨rfl, ?_⟩
  repeat (refine Ex.setCell ?_ (Or.inr (by simp)) _)
  exact (((Ex.refl _ _).alloc _).alloc _).drewN _

set_option maxHeartbeats 2000000 in
set_option maxRecDepth 100000 in
theorem accepted_no (u gr base q m k top cg cc sg sc B mb : Nat) (nowV nextV : Value) (w : World) (cl : List Cls) (hp : PC w q m top cg cc sg sc B mb cl) (hr : RN w u gr base q m k nowV nextV) (hk : k < m) (hm : m ≤ 60) (htu : top ≤ u) :
    Calls Tryd.prog 27 #[.pointer (some ⟨u, 0, none⟩)] w fun e w' => e = .returned (.tuple #[.agg #[.int .i64 0, .int .i64 0, .int .i64 0, .int .i64 0, .int .i64 0, .int .i64 0, .int .i64 0, .int .i64 0, .int .i64 0, .int .i64 0], .bool false]) ∧ Ex [] w w' := by
  obtain ⟨ng, ncap, rfl, hngb, hngl, hngc, hncell, hnfz⟩ := own_cells hr.now (by omega)
  obtain ⟨hcu, hfu⟩ := hr.blk.all
  obtain ⟨hcq, hfq⟩ := hp.blk.all
  have j0 := hncell 0 (by omega); have j1 := hncell 1 (by omega); have j2 := hncell 2 (by omega); have j3 := hncell 3 (by omega); have j4 := hncell 4 (by omega); have j5 := hncell 5 (by omega)
  have j6 := hncell 6 (by omega); have j7 := hncell 7 (by omega); have j8 := hncell 8 (by omega); have j9 := hncell 9 (by omega); have j10 := hncell 10 (by omega)
  simp [thr] at j0 j1 j2 j3 j4 j5 j6 j7 j8 j9 j10
  have c0 := (hp.code (k * 7 + 0) (by omega)).trans (progC_take cl k 0 (by have := hp.len; omega) (by omega))
  simp [insOf] at c0
  have hk' : (k : Int) < (m : Int) + 1 := by omega
  have hul := hr.ul
  have hle := hr.le
  have hqt := hp.qt
  have hcgt := hp.cgt
  have hul1 : u < w.heap.size := by omega
  have hq1 : q < w.heap.size := by omega
  have hcg1 : cg < w.heap.size := by omega
  clear hr hp hncell hnfz
  go_enter Tryd.func27, Tryd.ntmps27
  go_wp2_with fail
  refine wp_loop_rounds 2 ?_
  rw [rounds_succ]
  go_wp2_with fail
  go_quiet (fail)
  go_wp2_with fail
  rw [rounds_succ]
  go_wp2_with fail
  refine bodyPost_ret (v := .tuple #[.agg #[.int .i64 0, .int .i64 0, .int .i64 0, .int .i64 0, .int .i64 0, .int .i64 0, .int .i64 0, .int .i64 0, .int .i64 0, .int .i64 0], .bool false]) (by simp [results, Tryd.results27, go_sem]) rfl ⟨rfl, ?_⟩
  repeat (refine Ex.setCell ?_ (Or.inr (by simp)) _)
  exact (((Ex.refl _ _).alloc _).alloc _).drewN _

set_option maxHeartbeats 2000000 in
set_option maxRecDepth 100000 in
theorem spans_none (q m top cg cc sg sc B mb : Nat) (len : Int) (w : World) (cl : List Cls) (hp : PC w q m top cg cc sg sc B mb cl) (hql : q < w.heap.size) :
    Calls Tryd.prog 28 #[.pointer (some ⟨q, 0, none⟩), unsetV, .int .i64 len] w fun e w' => ∃ g, e = .returned (.slice (some ⟨g, 0, none⟩) 1 1) ∧ w.heap.size ≤ g ∧ BK w' g (.cells #[.int .i64 0, .int .i64 len] 41 (0, 0)) ∧ Ex [] w w' := by
  obtain ⟨hcq, hfq⟩ := hp.blk.all
  clear hp
  unfold unsetV
  go_enter Tryd.func28, Tryd.ntmps28
  go_wp2_with fail
  refine wp_loop_rounds 1 ?_
  rw [rounds_succ]
  go_wp2_with fail
  go_ret
  refine ⟨w.heap.size + 1, rfl, by omega, ?_, ((Ex.refl _ _).alloc _).alloc _⟩
  simpa using BK.new (w.alloc (Obj.cells #[.int .i64 (-1), .int .i64 (-1), .int .i64 (-1), .int .i64 (-1), .int .i64 (-1), .int .i64 (-1), .int .i64 (-1), .int .i64 (-1), .int .i64 (-1), .int .i64 (-1)] 79)) (Obj.cells #[.int .i64 0, .int .i64 len] 41)

end Go.Proofs.YtmeffeigamaipaaDoor.Q
