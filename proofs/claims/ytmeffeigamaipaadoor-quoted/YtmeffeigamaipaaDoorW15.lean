/- The contract of step: a rune is taken. -/
import Derived.Test.YtmeffeigamaipaaDoorW14
set_option linter.unusedVariables false
set_option linter.unusedSimpArgs false
namespace Go.Proofs.YtmeffeigamaipaaDoor
open Go.RowKit

/-- What was made of m dots, by its cells; all of it lies below top. -/
structure PC (w : World) (q m top cg cc sg sc B mb : Nat) : Prop where
  blk : BK w q (.cells #[.slice (some ⟨cg, 0, none⟩) (m + 1) cc, .slice (some ⟨sg, 0, none⟩) 1 sc, .slice (some ⟨B, 0, none⟩) (m + 1) (m + 1), .int .i64 0, .map (some mb)] 74 (0, 0))
  code : ∀ j, j < (m + 1) * 7 → w.cell? ⟨cg, j, none⟩ = (progL m)[j]?
  s0 : w.cell? ⟨sg, 0, none⟩ = some (.int .i64 0)
  s1 : w.cell? ⟨sg, 1, none⟩ = some (.int .u64 0)
  beh : ∀ i, i < m → ∃ gw cw, w.cell? ⟨B, i, none⟩ = some (.slice (some ⟨gw, 0, none⟩) 1 cw) ∧ w.cell? ⟨gw, 0, none⟩ = some (.int .i64 ((i + 1 : Nat) : Int)) ∧ w.cell? ⟨gw, 1, none⟩ = some (.int .u64 0) ∧ gw < top
  qt : q < top
  cgt : cg < top
  sgt : sg < top
  Bt : B < top

theorem EB.cell {B : Nat} {w w' : World} (h : EB B [] w w') {b o : Nat} (hb : b < B) : w'.cell? ⟨b, o, none⟩ = w.cell? ⟨b, o, none⟩ := World.cell?_of_block (h.block b hb (by simp))

theorem PC.eb {w w' : World} {q m top cg cc sg sc B mb : Nat} (h : PC w q m top cg cc sg sc B mb) (hx : EB top [] w w') : PC w' q m top cg cc sg sc B mb where
  blk := h.blk.eb hx h.qt (by simp)
  code := fun j hj => (hx.cell h.cgt).trans (h.code j hj)
  s0 := (hx.cell h.sgt).trans h.s0
  s1 := (hx.cell h.sgt).trans h.s1
  beh := fun i hi => by
    obtain ⟨gw, cw, h1, h2, h3, h4⟩ := h.beh i hi
    exact ⟨gw, cw, (hx.cell h.Bt).trans h1, (hx.cell h4).trans h2, (hx.cell h4).trans h3, h4⟩
  qt := h.qt
  cgt := h.cgt
  sgt := h.sgt
  Bt := h.Bt

theorem PT.pc {w : World} {q base m : Nat} (h : PT w q base m) : ∃ cg cc sg sc B mb, PC w q m w.heap.size cg cc sg sc B mb := by
  obtain ⟨cv, sv, B, mb, hq, hoc, hos, hbh, _⟩ := h.ex
  obtain ⟨cg, cc, rfl, _, hcl, _, hcc, _⟩ := own_cells hoc (by omega)
  obtain ⟨sg, sc, rfl, _, hsl, _, hsc, _⟩ := own_cells hos (by omega)
  obtain ⟨cs, hb, hs, hv⟩ := hbh.ex
  refine ⟨cg, cc, sg, sc, B, mb, ⟨hq, hcc, hsc 0 (by omega), hsc 1 (by omega), fun i hi => ?_, hq.lt, hcl, hsl, hb.lt⟩⟩
  obtain ⟨v, h1, h2⟩ := hv i hi hi
  obtain ⟨gw, cw, rfl, _, hgl, _, hgc, _⟩ := own_cells h2 (by omega)
  exact ⟨gw, cw, by rw [hb.all.1]; exact h1, hgc 0 (by omega), hgc 1 (by omega), hgl⟩

/-- A run with one thread, at instruction k. -/
structure RN (w : World) (u gr base q m k : Nat) (nowV nextV : Value) : Prop where
  blk : BK w u (.cells #[.pointer (some ⟨q, 0, none⟩), nowV, nextV, .slice (some ⟨gr, 0, none⟩) (m + 1) (m + 1)] 108 (0, 0))
  now : w.ownsRow base 113 11 nowV 1 (thr k)
  next : ∃ n xs, w.ownsRow base 113 11 nextV n xs
  apart : ∀ b, nowV.ownBlock = some b → nextV.ownBlock ≠ some b
  rc : RC w gr (m + 1) (k + 1)
  ul : u < base
  gl : gr < base
  ug : u ≠ gr
  le : base ≤ w.heap.size

/-- A row cut to nothing. -/
theorem own_zero {w : World} {base : Nat} {e : TypeId} {size n : Nat} {v : Value} {xs : List Value} (h : w.ownsRow base e size v n xs) :
    ∃ p c, v = .slice p n c ∧ w.ownsRow base e size (.slice p 0 c) 0 [] ∧ (Value.slice p 0 c).ownBlock = v.ownBlock ∧ (p = none → n = 0 ∧ c = 0) := by
  rcases h.2 with ⟨rfl, rfl⟩ | ⟨g, cap, cur, rfl, hb, hgg, hnc, hcm, hcs, htake⟩
  · exact ⟨none, 0, rfl, World.ownsRow_nil _ _ _ _, rfl, fun _ => ⟨rfl, rfl⟩⟩
  · exact ⟨_, cap, rfl, ⟨by simp, .inr ⟨g, cap, cur, rfl, hb, hgg, by omega, hcm, hcs, by simp⟩⟩, rfl, fun h => by cases h⟩

theorem own_exn {l : List Nat} {w w' : World} {base : Nat} {e : TypeId} {size : Nat} {v : Value} {n : Nat} {xs : List Value} (h : w.ownsRow base e size v n xs) (hx : Ex l w w') (hl : ∀ k, v.ownBlock = some k → k ∉ l) : w'.ownsRow base e size v n xs := by
  refine ⟨h.1, ?_⟩
  rcases h.2 with hn | ⟨g, cap, cur, rfl, hb, hgg, rest⟩
  · exact .inl hn
  · refine .inr ⟨g, cap, cur, rfl, hb, ?_, rest⟩
    rw [hx.block g (Array.getElem?_eq_some_iff.1 hgg).1 (hl g rfl)]
    exact hgg
theorem RC.next {w : World} {gr n k : Nat} {pl : Int} {cs : Array Value} (hb : BK w gr (.cells (cs.setIfInBounds k (.int .i64 pl)) 3 (0, 0))) (hs : cs.size = n) (hz : ∀ i, k ≤ i → i < n → cs[i]? = some (.int .i64 (-1))) (hi : ∀ i, i < n → ∃ x, cs[i]? = some (.int .i64 x)) : RC w gr n (k + 1) := by
  refine ⟨_, hb, by simp [hs], fun i h1 h2 => ?_, fun i h2 => ?_⟩
  · rw [Array.getElem?_setIfInBounds_ne (by omega)]; exact hz i (by omega) h2
  · by_cases e : k = i
    · subst e; exact ⟨_, by rw [Array.getElem?_setIfInBounds_self_of_lt (by omega)]⟩
    · rw [Array.getElem?_setIfInBounds_ne e]; exact hi i h2

theorem thr_range {w : World} {b : Nat} {x : Value} (h : BK w b (.cells #[x, .int .i64 (-1), .int .i64 (-1), .int .i64 (-1), .int .i64 (-1), .int .i64 (-1), .int .i64 (-1), .int .i64 (-1), .int .i64 (-1), .int .i64 (-1), .int .i64 (-1)] 113 (0, 0))) : w.rangeAt b 1 unsetL := by
  intro j v hv
  rw [h.all.1]
  match j, hv with
  | 0, hv => exact hv
  | 1, hv => exact hv
  | 2, hv => exact hv
  | 3, hv => exact hv
  | 4, hv => exact hv
  | 5, hv => exact hv
  | 6, hv => exact hv
  | 7, hv => exact hv
  | 8, hv => exact hv
  | 9, hv => exact hv
  | n + 10, hv => simp [unsetL] at hv

set_option maxHeartbeats 2000000 in
set_option maxRecDepth 100000 in
theorem step_take (u gr base q m k top cg cc sg sc B mb : Nat) (r pl : Int) (nowV nextV : Value) (w : World) (hp : PC w q m top cg cc sg sc B mb) (hr : RN w u gr base q m k nowV nextV)
    (hk : k < m) (hm : m ≤ 60) (hr0 : 0 ≤ r) (hpl : 0 ≤ pl) (htu : top ≤ u) (htg : top ≤ gr) :
    Calls Tryd.prog 26 #[.pointer (some ⟨u, 0, none⟩), .int .i32 r, .int .i64 pl] w fun e w' => e = .returned (.bool true) ∧ (∃ nowV' nextV', RN w' u gr base q m (k + 1) nowV' nextV') ∧ EB top [] w w' := by
  obtain ⟨nn, nx, hno⟩ := hr.next
  obtain ⟨np, nc, rfl, hnz, hnb, hnn⟩ := own_zero hno
  obtain ⟨ng, ncap, rfl, hngb, hngl, hngc, hncell, hnfz⟩ := own_cells hr.now (by omega)
  obtain ⟨hcu, hfu⟩ := hr.blk.all
  have HP := hide hp
  have HR := hide hr
  have HNZ := hide hnz
  have HNB := hide hnb
  have HNC := hide hncell
  have hul := hr.ul
  have hgl := hr.gl
  have hug := hr.ug
  have hle := hr.le
  clear hp hr hnz hnb hncell hno
  have hcap : (0 : Int) ≤ (nc : Int) := by omega
  go_enter Tryd.func26, Tryd.ntmps26
  go_wp2_with fail
  generalize hw1 : World.setCell _ (⟨u, 1, none⟩ : Addr) _ = w1
  have hx1 : Ex [u] w w1 := by rw [← hw1]; exact (Ex.refl _ _).setCell (Or.inl (by simp)) _
  have hu1 : BK w1 u (.cells #[.pointer (some ⟨q, 0, none⟩), .slice np 0 nc, .slice np nn nc, .slice (some ⟨gr, 0, none⟩) (m + 1) (m + 1)] 108 (0, 0)) := by
    have h1 := BK.self HR.out.blk 1 (.slice np 0 nc)
    simp only [List.setIfInBounds_toArray, List.set_cons_zero, List.set_cons_succ] at h1
    rw [← hw1]; exact h1
  have hp1 : PC w1 q m top cg cc sg sc B mb := HP.out.eb ((EB.ofEx hx1 (Nat.le_trans (Nat.le_trans htu (Nat.le_of_lt hul)) hle)).mono (Nat.le_refl _) (fun x hx hlt => by simp at hx; omega))
  have hcl : ∀ j, j < 11 → w1.cell? ⟨ng, j, none⟩ = (thr k)[j]? := fun j hj => (hx1.cell.1 ng j hngl (by simp; omega)).trans (HNC.out j (by omega))
  have j0 := hcl 0 (by omega); have j1 := hcl 1 (by omega); have j2 := hcl 2 (by omega); have j3 := hcl 3 (by omega); have j4 := hcl 4 (by omega); have j5 := hcl 5 (by omega)
  have j6 := hcl 6 (by omega); have j7 := hcl 7 (by omega); have j8 := hcl 8 (by omega); have j9 := hcl 9 (by omega); have j10 := hcl 10 (by omega)
  simp [thr] at j0 j1 j2 j3 j4 j5 j6 j7 j8 j9 j10
  have hcode : ∀ o, o < 7 → w1.cell? ⟨cg, k * 7 + o, none⟩ = (insOf 0 ones ones true)[o]? := fun o ho => (hp1.code _ (by omega)).trans (progL_take m k o hk ho)
  have c0 := hcode 0 (by omega); have c1 := hcode 1 (by omega); have c2 := hcode 2 (by omega); have c3 := hcode 3 (by omega); have c4 := hcode 4 (by omega); have c5 := hcode 5 (by omega); have c6 := hcode 6 (by omega)
  simp [insOf] at c0 c1 c2 c3 c4 c5 c6
  have hk' : (k : Int) < (m : Int) + 1 := by omega
  have HX1 := hide hx1
  have HU1 := hide hu1
  have HP1 := hide hp1
  have hul1 := hu1.lt
  have hz1 := hx1.size
  have hqt := hp1.qt
  have hcgt := hp1.cgt
  have hq1 : q < w1.heap.size := by omega
  have hcg1 : cg < w1.heap.size := by omega
  clear hcu hfu
  obtain ⟨hcu, hfu⟩ := hu1.all
  obtain ⟨hcq, hfq⟩ := hp1.blk.all
  clear hw1 hcl hcode hx1 hu1 hp1 hnfz
  refine wp_loop_rounds 2 ?_
  rw [rounds_succ]
  go_wp2_with fail
  go_region
  generalize hw2 : World.drew _ = w2
  have hx2 : Ex [] w1 w2 := by rw [← hw2]; exact (((Ex.refl _ _).alloc _).alloc _).drew
  have ht2 : BK w2 w1.heap.size (.cells #[.int .i64 k, .int .i64 (-1), .int .i64 (-1), .int .i64 (-1), .int .i64 (-1), .int .i64 (-1), .int .i64 (-1), .int .i64 (-1), .int .i64 (-1), .int .i64 (-1), .int .i64 (-1)] 113 (0, 0)) := by
    rw [← hw2]; exact ((BK.new _ _).alloc _).drew
  have hi2 : BK w2 (w1.heap.size + 1) (.cells #[.int .i64 0, .int .u64 ones, .int .u64 ones, .bool true, .int .i64 0, .int .i64 0, .int .i64 0] 98 (0, 0)) := by
    have h1 := BK.new (w1.alloc (Obj.cells #[.int .i64 k, .int .i64 (-1), .int .i64 (-1), .int .i64 (-1), .int .i64 (-1), .int .i64 (-1), .int .i64 (-1), .int .i64 (-1), .int .i64 (-1), .int .i64 (-1), .int .i64 (-1)] 113)) (Obj.cells #[.int .i64 0, .int .u64 ones, .int .u64 ones, .bool true, .int .i64 0, .int .i64 0, .int .i64 0] 98)
    simp only [World.size_alloc] at h1
    rw [← hw2]; exact h1.drew
  have HT2 := hide ht2
  have HX2 := hide hx2
  clear hw2 hcu hfu hcq hfq j0 j1 j2 j3 j4 j5 j6 j7 j8 j9 j10 c0 c1 c2 c3 c4 c5 c6
  obtain ⟨hci, hfi⟩ := hi2.all
  clear hi2 ht2 hx2
  go_wp2_with fail
  refine (has_dot r _ hr0).mono ?_
  rintro e w3 ⟨rfl, hx3⟩
  have hx13 : Ex [] w1 w3 := HX2.out.trans hx3
  have hz13 := hx13.size
  have ht3 := HT2.out.ex hx3 (by simp)
  have hu3 := HU1.out.ex hx13 (by simp)
  have hp3 := HP1.out.eb (EB.ofEx hx13 (by omega))
  obtain ⟨gw, cw, b0, b1, b2, hgwt⟩ := hp3.beh k hk
  have hx03 : Ex [u] w w3 := HX1.out.trans (hx13.drop (by simp))
  obtain ⟨cs, hgr, hcs, hcz, hci0⟩ := HR.out.rc
  have HCI := hide hci0
  clear hci0
  have hgr3 := hgr.ex hx03 (by simpa using fun h => hug h.symm)
  have hn3 := own_ex HNZ.out hx03 (by simpa using hul)
  have s0 : w3.cell? ⟨u, 0, none⟩ = some (.pointer (some ⟨q, 0, none⟩)) := hu3.all.1 0
  have s1 : w3.cell? ⟨q, 2, none⟩ = some (.slice (some ⟨B, 0, none⟩) (m + 1) (m + 1)) := hp3.blk.all.1 2
  have s2 : w3.cell? ⟨w1.heap.size, 0, none⟩ = some (.int .i64 k) := ht3.all.1 0
  have s3 := thr_range ht3
  have HX3 := hide hx03
  have HX13 := hide hx13
  have HT3 := hide ht3
  have HU3 := hide hu3
  have HP3 := hide hp3
  have HG3 := hide hgr3
  have HN3 := hide hn3
  have HCZ := hide hcz
  have h90 := Tryd.underlying79
  have hs90 := size90
  have hul3 := hu3.lt
  have htl3 := ht3.lt
  clear hx3 hx13 ht3 hu3 hp3 hx03 hgr hgr3 hn3 hcz hci hfi
  have key := follow_one u gr gw cw (m + 1) (k + 1) base pl (.pointer (some ⟨q, 0, none⟩)) (.slice np 0 nc) (.slice np nn nc) w3.drew cs (-1) HN3.out.drew HU3.out.drew HG3.out.drew hcs (by omega) (by omega)
    (HCZ.out (k + 1) (Nat.le_refl _) (by omega)) (by rw [beq_eq_false_iff_ne]; omega) hul hgl hug (by show base ≤ w3.heap.size; omega) b1 b2 (by show gw < w3.heap.size; omega)
  have KEY := hide key
  clear key b1 b2
  have hBt := HP3.out.Bt
  have hnl : ∀ x, x ≠ u → x ≠ gr → (x < base ∨ w1.heap.size ≤ x) → x ∉ (u :: gr :: (Value.slice np 0 nc).ownBlock.toList) := fun x h2 h3 h4 hmem => by
    simp only [List.mem_cons, Option.mem_toList] at hmem
    rcases hmem with h | h | h
    · exact h2 h
    · exact h3 h
    · have e1 := own_block HN3.out x h
      have e2 := (HNZ.out.lt x h).2
      omega
  have HNL := hide hnl
  clear hnl
  go_wp2_with fail
  go_region_held3 (fun w' => w'.cell? ⟨u, 0, none⟩ = some (.pointer (some ⟨q, 0, none⟩)) ∧ w'.cell? ⟨q, 2, none⟩ = some (.slice (some ⟨B, 0, none⟩) (m + 1) (m + 1)) ∧ w'.cell? ⟨w1.heap.size, 0, none⟩ = some (.int .i64 k) ∧ w'.cell? ⟨B, k, none⟩ = some (.slice (some ⟨gw, 0, none⟩) 1 cw) ∧ w'.rangeAt w1.heap.size 1 unsetL)
    (first | exact ⟨q0, q1, q2, q3, q4⟩ | exact ⟨s0, s1, s2, b0, s3⟩)
    (first
      | (go_at_call 23; refine KEY.out.mono ?_; rintro e w4 ⟨rfl, nowV', hu4, ho4, hg4, hx4, hor4⟩; have q0 : w4.cell? ⟨u, 0, none⟩ = some (.pointer (some ⟨q, 0, none⟩)) := hu4.all.1 0; have q1 := (hx4.cell.1 q 2 (show q < w3.heap.size by omega) (HNL.out q (by omega) (by omega) (Or.inl (by omega)))).trans s1; have ht4 := HT3.out.drew.ex hx4 (HNL.out _ (by omega) (by omega) (Or.inr (Nat.le_refl _))); have q2 : w4.cell? ⟨w1.heap.size, 0, none⟩ = some (.int .i64 k) := ht4.all.1 0; have q3 := (hx4.cell.1 B k (show B < w3.heap.size by omega) (HNL.out B (by omega) (by omega) (Or.inl (by omega)))).trans b0; have q4 := thr_range ht4))
  have HU4 := hide hu4
  have HO4 := hide ho4
  have HG4 := hide hg4
  have HX4 := hide hx4
  have hz4 : w3.heap.size ≤ w4.heap.size := hx4.size
  obtain ⟨hcu, hfu⟩ := hu4.all
  obtain ⟨p4, c4, rfl⟩ := own_slice ho4
  clear hu4 ho4 hg4 hx4 q0 q1 q2 q3 q4 ht4 s0 s1 s2 s3 b0
  go_wp2_with fail
  rw [rounds_succ]
  go_wp2_with fail
  go_ret
  have hng : ng ∉ (u :: gr :: (Value.slice np 0 nc).ownBlock.toList) := fun hmem => by
    simp only [List.mem_cons, Option.mem_toList] at hmem
    rcases hmem with h | h | h
    · omega
    · omega
    · rw [HNB.out] at h
      exact HR.out.apart ng rfl h
  have hnow3 := own_ex HR.out.now HX3.out (by simpa using hul)
  have hnow4 := own_exn (World.ownsRow.drew hnow3) HX4.out (fun k hk => by cases hk; exact hng)
  have hb5 := BK.self HU4.out 2 (.slice (some ⟨ng, 0, none⟩) 1 ncap)
  simp only [List.setIfInBounds_toArray, List.set_cons_zero, List.set_cons_succ] at hb5
  refine ⟨rfl, ⟨_, _, ⟨hb5, own_set HO4.out hul _, ⟨1, thr k, own_set hnow4 hul _⟩, fun b hb1 hb2 => ?_, RC.next (HG4.out.set (by simpa using fun h => hug h.symm) _) hcs (fun i h1 h2 => HCZ.out i h1 h2) HCI.out, hul, hgl, hug, by simp; omega⟩⟩, ?_⟩
  · cases hb2
    rcases hor4 with h | ⟨g, h, hg⟩
    · rw [hb1, HNB.out] at h
      exact HR.out.apart ng rfl h.symm
    · rw [hb1] at h
      cases h
      have : w3.heap.size ≤ ng := hg
      omega
  · have e1 : EB top [] w w3 := (EB.ofEx HX3.out (by omega)).mono (Nat.le_refl _) (fun x hx hlt => by simp at hx; omega)
    have e2 : EB top [] w3 w4 := ((EB.refl top [] w3).drew).trans ((EB.ofEx HX4.out (show top ≤ w3.heap.size by omega)).mono (Nat.le_refl _) (fun x hx hlt => by
      simp only [List.mem_cons, Option.mem_toList] at hx
      rcases hx with h | h | h
      · omega
      · omega
      · have := own_block HN3.out x h; omega))
    exact (e1.trans e2).setCell (Or.inr (by simpa using htu)) _
end Go.Proofs.YtmeffeigamaipaaDoor
