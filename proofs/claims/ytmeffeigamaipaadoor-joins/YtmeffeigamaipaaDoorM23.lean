/- V4 V5 W7 W8 W9 W10, one behind the other. -/
import Derived.Test.YtmeffeigamaipaaDoorM22
import Derived.Test.YtmeffeigamaipaaDoorM18
import Derived.MapKept
set_option linter.unusedVariables false
set_option linter.unusedSimpArgs false
/- The walk: visit at a state that was not seen. -/
namespace Go.Proofs.YtmeffeigamaipaaDoor.G
open Go.RowKit

theorem WG.mark {w w2 : World} {q mb cg cc base : Nat} {code : List Ins} {s : WS} {es : Array MapEntry} {clk : Nat} {seen : List (Nat × Nat)} (h : WG w q mb cg cc base code s) (hx : Ex [mb] w w2) (hm : BK w2 mb (.map es clk)) (hs : SeenM es seen) (hr : s.2.length + left code.length seen ≤ 200000) : WG w2 q mb cg cc base code (seen, s.2) := by
  obtain ⟨v, hq, ho⟩ := h.ways
  exact ⟨h.lq, h.lm, h.lc, Nat.le_trans h.le hx.size, h.qm, h.cq, h.cm, h.cap, hr, range_same h.prog (hx.block cg (Nat.lt_of_lt_of_le h.lc h.le) (by simpa using h.cm)), ⟨es, clk, hm, hs⟩, ⟨v, hq.ex hx (by simpa using h.qm), own_ex ho hx (by simpa using h.lm)⟩⟩
theorem WG.ins {w : World} {q mb cg cc base k : Nat} {code : List Ins} {s : WS} {i : Ins} (h : WG w q mb cg cc base code s) (hk : code[k]? = some i) : ∀ o, o < 7 → w.cell? ⟨cg, k * 7 + o, none⟩ = i.cells[o]? := by
  intro o ho
  have h1 := codeL_at code k o i hk ho
  obtain ⟨v, hv⟩ : ∃ v, i.cells[o]? = some v := ⟨_, List.getElem?_eq_getElem (by simpa [Ins.cells] using ho)⟩
  rw [hv] at h1 ⊢
  have := h.prog _ _ h1
  simpa using this

theorem WG.more {w3 w4 : World} {q mb cg cc base : Nat} {code : List Ins} {s : WS} {v v' : Value} {k : Nat} {b : Int} (h : WG w3 q mb cg cc base code s) (hr : s.2.length + 1 + left code.length s.1 ≤ 200000) (ho : w3.ownsRow base 110 2 v s.2.length (waysL s.2)) (hq : BK w4 q (.cells #[.slice (some ⟨cg, 0, none⟩) code.length cc, .map (some mb), v] 102 (0, 0)))
    (hgrow : w3.grownBy w4 v.ownBlock) (ho4 : w4.ownsRow base 110 2 v' (s.2.length + 1) (waysL s.2 ++ [.int .i64 (k : Int), .int .u64 b])) : WG (w4.setCell ⟨q, 2, none⟩ v') q mb cg cc base code (s.1, s.2 ++ [(k, b)]) := by
  have hle := h.le
  have hlq := h.lq
  have hlm := h.lm
  have hlc := h.lc
  have hqm := h.qm
  have hcq := h.cq
  have hcm := h.cm
  have hrow : ∀ x, x < base → some x ≠ v.ownBlock := fun x hx e => by have := own_block ho x e.symm; omega
  obtain ⟨es, clk, hm, hs⟩ := h.seen
  refine ⟨hlq, hlm, hlc, by have := hgrow.size; simp [World.setCell]; omega, hqm, hcq, hcm, h.cap, by simp only [List.length_append, List.length_singleton]; omega, ?_, ⟨es, clk, ?_, hs⟩, ⟨v', ?_, ?_⟩⟩
  · refine range_same h.prog ?_
    rw [Below.heap_setCell _ _ _ _ (by simpa using hcq)]
    exact hgrow.block cg (by omega) (hrow cg hlc)
  · refine BK.set ?_ (by simpa using hqm.symm) _
    exact BK.grown hm hgrow (fun e => hrow mb hlm e.symm)
  · exact BK.self hq 2 v'
  · have := own_set ho4 (a := ⟨q, 2, none⟩) hlq v'
    simp only [List.length_append, List.length_singleton, waysL_snoc]
    exact this

theorem own_YB {w : World} {base n : Nat} {v : Value} {xs : List Value} (h : w.ownsRow base 110 2 v n xs) : ∀ k, v.ownBlock = some k → base ≤ k ∧ YB w k := by
  intro k hk
  rcases h.2 with ⟨rfl, _⟩ | ⟨g, cap, cur, rfl, hb, hgg, _⟩
  · simp [Value.ownBlock] at hk
  · simp [Value.ownBlock] at hk
    subst hk
    exact ⟨hb, cur, _, hgg⟩
theorem infoWay : (Tryd.prog.info? 110).map (fun i => (i.zero, i.size, i.bytes)) = some (some (.agg #[.int .i64 0, .int .u64 0]), 2, 16) := by kernel_rfl

set_option maxHeartbeats 4000000 in
set_option maxRecDepth 100000 in
theorem visit_new (code : List Ins) (hcode : code.length ≤ 100000) (hok : CodeOK code) (f : Nat) (ih : VisitC code f) (w : World) (q mb cg cc base : Nat) (s : WS) (h : Nat × Nat) (b : Int) (hg : WG w q mb cg cc base code s) (hl : left code.length s.1 < f + 1) (h1 : h.1 < code.length) (h2 : h.2 < 2) (hs : h ∉ s.1) :
    Calls Tryd.prog 36 #[.pointer (some ⟨q, 0, none⟩), staV h, .int .u64 b] w fun e w' => e = .returned (.tuple #[]) ∧ WG w' q mb cg cc base code (visitM code (f + 1) s h b) ∧ VF base q mb w w' := by
  obtain ⟨es, clk, hm, hse⟩ := hg.seen
  obtain ⟨v, hq, ho⟩ := hg.ways
  obtain ⟨hcq0, hfq0⟩ := hq.all
  have hql := hq.lt
  have hml := hm.lt
  have hll := left_lt hs h1 h2
  have hlf : left code.length (s.1 ++ [h]) < f := by omega
  have hroom : s.2.length + 1 + left code.length (s.1 ++ [h]) ≤ 200000 := by have := hg.room; omega
  obtain ⟨k, mo⟩ := h
  simp only at h1 h2
  have hlk1 := seen_miss (s := (k, mo)) (w := (w.alloc (Obj.cells #[.int .i64 k, .int .i64 mo] 70)).drew) (hm.alloc _).drew hse (by simp only; omega) (by simp only; omega) hs
  have hlk2 := seen_miss (s := (k, mo)) (w := ((w.alloc (Obj.cells #[.int .i64 k, .int .i64 mo] 70)).alloc (Obj.cells #[] 118)).drew) ((hm.alloc _).alloc _).drew hse (by simp only; omega) (by simp only; omega) hs
  have HM := hide hm
  have HG := hide hg
  have HSE := hide hse
  have HIH := hide ih
  have HOK := hide hok
  have HS := hide hs
  have HLF := hide hlf
  have HROOM := hide hroom
  have hqm := hg.qm
  have hmb1 : mb < w.heap.size := hml
  obtain ⟨i, hi⟩ : ∃ i, code[k]? = some i := ⟨code[k], by simp [h1]⟩
  have HI := hide hi
  have HV := hide (show visitM code (f + 1) s (k, mo) b = (if i.op = 0 ∨ i.op = 6 then (s.1 ++ [(k, mo)], s.2 ++ [(k, b)])
      else if i.op = 1 then visitM code f (visitM code f (s.1 ++ [(k, mo)], s.2) (i.t0.toNat, mo) b) (i.t1.toNat, mo) b
      else if i.op = 2 then visitM code f (s.1 ++ [(k, mo)], s.2) (i.t0.toNat, mo) b
      else if i.op = 3 then visitM code f (s.1 ++ [(k, mo)], s.2) (k + 1, mo) (orM b i.sl)
      else if i.op = 4 then visitM code f (s.1 ++ [(k, mo)], s.2) (k + 1, 0) b
      else if i.op = 5 then if mo = 1 then visitM code f (s.1 ++ [(k, mo)], s.2) (k + 1, 1) b else (s.1 ++ [(k, mo)], s.2)
      else (s.1 ++ [(k, mo)], s.2)) by rw [visitM, if_neg hs]; simp only [hi])
  unfold staV at hlk1 hlk2 ⊢
  dsimp only at hlk1 hlk2 ⊢
  clear hq hm hg ho hse hs hi ih hok hl hll hlf hroom
  go_enter Tryd.func36, Tryd.ntmps36
  go_wp2_with fail
  go_region
  all_goals
    generalize hw1 : World.drew _ = w1
    have hx1 : Ex [] w w1 := by rw [← hw1]; exact (((Ex.refl _ _).alloc _).alloc _).drew
    have hs1 : BK w1 w.heap.size (.cells #[.int .i64 k, .int .i64 mo] 70 (0, 0)) := by rw [← hw1]; exact ((BK.new _ _).alloc _).drew
    have hz1 : w.heap.size < w1.heap.size := by rw [← hw1]; simp [World.drew]; omega
    clear hw1 hlk1 hlk2 hcq0 hfq0
    have hg1 := HG.out.ex hx1
    have hm1 := HM.out.ex hx1 (by simp)
    have hup := seen_put (s := (k, mo)) (.agg #[]) hm1.drew HSE.out (by simp only; omega) (by simp only; omega) HS.out
    unfold staV at hup
    dsimp only at hup
    obtain ⟨v1, hq1, _⟩ := hg1.ways
    obtain ⟨hcq0, hfq0⟩ := hq1.all
    obtain ⟨hcs0, hfs0⟩ := hs1.all
    have HG1 := hide hg1
    have HM1 := hide hm1
    have HS1 := hide hs1
    have HX1 := hide hx1
    clear hg1 hm1 hs1 hx1 hq1
    go_wp2_with fail
    go_region
  all_goals
    generalize hw2 : putB _ _ _ = w2
    have hxp : Ex [mb] w1 w2 := by rw [← hw2]; exact ((Ex.refl _ _).drew).trans (putB_ex _ _ _)
    have hmk : BK w2 mb (.map (es.push { key := staV (k, mo), val := .agg #[], born := clk }) (clk + 1)) := by rw [← hw2]; exact putB_bk HM1.out.drew
    clear hw2 hup hcq0 hfq0 hcs0 hfs0
    have hg2 := HG1.out.mark hxp hmk (HSE.out.push (k, mo) (by simp only; omega) (by simp only; omega) clk) (by have := HROOM.out; omega)
    have hs2 := HS1.out.ex hxp (by simp; omega)
    have hv2 : VF base q mb w w2 := (VF.ofEx HX1.out (by simp)).trans (VF.ofEx hxp (by simp))
    obtain ⟨hcs0, hfs0⟩ := hs2.all
    have HG2 := hide hg2
    have HV2 := hide hv2
    clear hg2 hs2 hv2 hxp hmk HG1 HM1 HS1 HX1 hql hml
    go_wp2_with fail
    go_quiet (fail)
    generalize hw3 : World.drewN w2 nq = w3
    have hg3 : WG w3 q mb cg cc base code (s.1 ++ [(k, mo)], s.2) := by rw [← hw3]; exact HG2.out.ex ((Ex.refl _ _).drewN _)
    have hv3 : VF base q mb w w3 := by rw [← hw3]; exact HV2.out.drewN _
    clear hw3 hcs0 hfs0 HG2 HV2 hz1
    obtain ⟨v3, hq3, ho3⟩ := hg3.ways
    dsimp only at ho3
    obtain ⟨p3, c3, rfl⟩ := own_slice ho3
    have hql := hq3.lt
    obtain ⟨hcq0, hfq0⟩ := hq3.all
    have hcc := hg3.ins HI.out
    obtain ⟨op, a, c, hh, t0, t1, us⟩ := i
    have k0 := hcc 0 (by omega); have k1 := hcc 1 (by omega); have k2 := hcc 2 (by omega); have k3 := hcc 3 (by omega); have k4 := hcc 4 (by omega)
    have k5 := hcc 5 (by omega); have k6 := hcc 6 (by omega)
    simp only [Ins.cells, List.getElem?_cons_zero, List.getElem?_cons_succ, Nat.add_zero] at k0 k1 k2 k3 k4 k5 k6
    have hk' : (k : Int) < (code.length : Int) := by omega
    have hcap := hg3.cap
    have hcgl : cg < w3.heap.size := Nat.lt_of_lt_of_le hg3.lc hg3.le
    have HG3 := hide hg3
    have HV3 := hide hv3
    have HQ3 := hide hq3
    have HO3 := hide ho3
    clear hcc hg3 hv3 hq3 ho3
    rcases HOK.out k _ HI.out with h0 | h0 | ⟨h0, ⟨a0, e0, l0⟩, a1, e1, l1⟩ | ⟨h0, a0, e0, l0⟩ | ⟨h0, l0, a0, e0, l64⟩ | ⟨h0, l0⟩ | ⟨h0, l0⟩
    · simp only at h0
      subst h0
      obtain ⟨t0', hi', hzz0, hzz1, hzz2⟩ := info_parts infoWay
      have HN : Hid (∀ j u, [Value.int .i64 k, .int .u64 b][j]? = some u → ((w3.alloc (Obj.cells #[.int .i64 0, .int .u64 a, .int .u64 c, .bool hh, .int .i64 t0, .int .i64 t1, .int .i64 us] 98)).alloc (Obj.cells #[.int .i64 k, .int .u64 b] 110)).cell? ((⟨w3.heap.size + 1, 0, none⟩ : Addr).add j) = some u) := by
        have h1 := cells_new (w3.alloc (Obj.cells #[.int .i64 0, .int .u64 a, .int .u64 c, .bool hh, .int .i64 t0, .int .i64 t1, .int .i64 us] 98)) #[.int .i64 k, .int .u64 b] 110
        simp only [World.size_alloc] at h1
        exact h1
      have hsz3 : base ≤ w3.heap.size := HG3.out.le
      obtain ⟨ny, hny⟩ : ∃ ny, ny = s.2.length := ⟨_, rfl⟩
      have hny2 : ny ≤ 200000 := by have := HROOM.out; omega
      rw [← hny] at HO3 HQ3 hcq0
      have HNY := hide hny
      clear hny
      go_wp2_with (at_builtin; refine wpList_append_lies _ rfl (.tmp 47) (.tmp 51) 67 rfl base 110 t0' _ 2 16 Tryd.underlying67 hi' hzz0 hzz1 hzz2 rfl (by decide) (.slice p3 ny c3) ny (waysL s.2) rfl ((HO3.out.alloc _).alloc _) ⟨w3.heap.size + 1, 0, none⟩ 1 1 [.int .i64 k, .int .u64 b] rfl rfl HN.out (by simp [Value.oneCell']) (by decide) (by unfold maxLen; omega) (by omega) (by simp; omega) _ rfl ?_)
      intro g cap w4 hown hgrow _ hlt
      have hq4 := BK.grown ((HQ3.out.alloc _).alloc _) hgrow (fun e => by have h9 := own_block HO3.out q e; have h8 := HG3.out.lq; omega)
      have HQ4 := hide hq4
      have HGW := hide hgrow
      have HO4 := hide hown
      clear hcq0 hfq0 k0 k1 k2 k3 k4 k5 k6
      obtain ⟨hcq0, hfq0⟩ := hq4.all
      clear hq4 hown hgrow
      go_wp2_with fail
      go_end0
      refine ⟨rfl, ?_, ?_⟩
      · rw [HV.out, if_pos (by simp)]
        have h9 := WG.more (k := k) (b := b) (v := .slice p3 ny c3) ((HG3.out.ex ((Ex.refl _ _).alloc _)).ex ((Ex.refl _ _).alloc _)) (by have := HROOM.out; simp only; omega) (by have := (HO3.out.alloc (Obj.cells #[.int .i64 0, .int .u64 a, .int .u64 c, .bool hh, .int .i64 t0, .int .i64 t1, .int .i64 us] 98)).alloc (Obj.cells #[.int .i64 k, .int .u64 b] 110); rw [HNY.out] at this ⊢; exact this) HQ4.out HGW.out (by have := HO4.out; rw [HNY.out] at this; exact this)
        rw [HNY.out]
        exact h9
      · refine VF.setCell (p := ⟨q, 2, none⟩) ?_ rfl _
        exact VF.grown ((HV3.out.alloc _).alloc _) HGW.out (own_YB ((HO3.out.alloc _).alloc _))
    · simp only at h0
      subst h0
      obtain ⟨t0', hi', hzz0, hzz1, hzz2⟩ := info_parts infoWay
      have HN : Hid (∀ j u, [Value.int .i64 k, .int .u64 b][j]? = some u → ((w3.alloc (Obj.cells #[.int .i64 6, .int .u64 a, .int .u64 c, .bool hh, .int .i64 t0, .int .i64 t1, .int .i64 us] 98)).alloc (Obj.cells #[.int .i64 k, .int .u64 b] 110)).cell? ((⟨w3.heap.size + 1, 0, none⟩ : Addr).add j) = some u) := by
        have h1 := cells_new (w3.alloc (Obj.cells #[.int .i64 6, .int .u64 a, .int .u64 c, .bool hh, .int .i64 t0, .int .i64 t1, .int .i64 us] 98)) #[.int .i64 k, .int .u64 b] 110
        simp only [World.size_alloc] at h1
        exact h1
      have hsz3 : base ≤ w3.heap.size := HG3.out.le
      obtain ⟨ny, hny⟩ : ∃ ny, ny = s.2.length := ⟨_, rfl⟩
      have hny2 : ny ≤ 200000 := by have := HROOM.out; omega
      rw [← hny] at HO3 HQ3 hcq0
      have HNY := hide hny
      clear hny
      go_wp2_with (at_builtin; refine wpList_append_lies _ rfl (.tmp 47) (.tmp 51) 67 rfl base 110 t0' _ 2 16 Tryd.underlying67 hi' hzz0 hzz1 hzz2 rfl (by decide) (.slice p3 ny c3) ny (waysL s.2) rfl ((HO3.out.alloc _).alloc _) ⟨w3.heap.size + 1, 0, none⟩ 1 1 [.int .i64 k, .int .u64 b] rfl rfl HN.out (by simp [Value.oneCell']) (by decide) (by unfold maxLen; omega) (by omega) (by simp; omega) _ rfl ?_)
      intro g cap w4 hown hgrow _ hlt
      have hq4 := BK.grown ((HQ3.out.alloc _).alloc _) hgrow (fun e => by have h9 := own_block HO3.out q e; have h8 := HG3.out.lq; omega)
      have HQ4 := hide hq4
      have HGW := hide hgrow
      have HO4 := hide hown
      clear hcq0 hfq0 k0 k1 k2 k3 k4 k5 k6
      obtain ⟨hcq0, hfq0⟩ := hq4.all
      clear hq4 hown hgrow
      go_wp2_with fail
      go_end0
      refine ⟨rfl, ?_, ?_⟩
      · rw [HV.out, if_pos (by simp)]
        have h9 := WG.more (k := k) (b := b) (v := .slice p3 ny c3) ((HG3.out.ex ((Ex.refl _ _).alloc _)).ex ((Ex.refl _ _).alloc _)) (by have := HROOM.out; simp only; omega) (by have := (HO3.out.alloc (Obj.cells #[.int .i64 6, .int .u64 a, .int .u64 c, .bool hh, .int .i64 t0, .int .i64 t1, .int .i64 us] 98)).alloc (Obj.cells #[.int .i64 k, .int .u64 b] 110); rw [HNY.out] at this ⊢; exact this) HQ4.out HGW.out (by have := HO4.out; rw [HNY.out] at this; exact this)
        rw [HNY.out]
        exact h9
      · refine VF.setCell (p := ⟨q, 2, none⟩) ?_ rfl _
        exact VF.grown ((HV3.out.alloc _).alloc _) HGW.out (own_YB ((HO3.out.alloc _).alloc _))
    · simp only at h0 e0 e1
      subst h0 e0 e1
      have KEY := hide (fun (w' : World) (hg : WG w' q mb cg cc base code (s.1 ++ [(k, mo)], s.2)) => HIH.out w' q mb cg cc base (s.1 ++ [(k, mo)], s.2) (a0, mo) b hg HLF.out l0 h2)
      have KEY2 := hide (fun (w' : World) (hg : WG w' q mb cg cc base code (visitM code f (s.1 ++ [(k, mo)], s.2) (a0, mo) b)) => HIH.out w' q mb cg cc base _ (a1, mo) b hg (Nat.lt_of_le_of_lt (left_mono (visit_seen code f _ _ _)) HLF.out) l1 h2)
      have E := hide (show Value.agg #[.int .i64 (a0 : Int), .int .i64 (mo : Int)] = staV (a0, mo) by simp [staV])
      have E2 := hide (show Value.agg #[.int .i64 (a1 : Int), .int .i64 (mo : Int)] = staV (a1, mo) by simp [staV])
      have HINST := hide (BK.new w3 (Obj.cells #[.int .i64 1, .int .u64 a, .int .u64 c, .bool hh, .int .i64 a0, .int .i64 a1, .int .i64 us] 98))
      have hlq := HG3.out.lq
      have hlm := HG3.out.lm
      have hle3 := HG3.out.le
      go_wp2_with fail
      rw [E.out]
      refine (KEY.out _ (HG3.out.ex ((Ex.refl _ _).alloc _))).mono ?_
      rintro e w5 ⟨rfl, hg5, hv5⟩
      have hI5 := BK.vf HINST.out hv5 (by omega) (by omega) (by decide)
      obtain ⟨hcI, hfI⟩ := hI5.all
      have HG5 := hide hg5
      have HV5 := hide ((HV3.out.alloc _).trans hv5)
      clear hg5 hv5 k0 k1 k2 k3 k4 k5 k6 hcq0 hfq0 hI5
      go_wp2_with fail
      rw [E2.out]
      refine (KEY2.out _ HG5.out).mono ?_
      rintro e w6 ⟨rfl, hg6, hv6⟩
      have HG6 := hide hg6
      have HV6 := hide (HV5.out.trans hv6)
      clear hg6 hv6 hcI hfI
      go_wp2_with fail
      go_end0
      refine ⟨rfl, ?_, HV6.out⟩
      rw [HV.out]
      exact HG6.out
    · simp only at h0 e0
      subst h0 e0
      have KEY := hide (fun (w' : World) (hg : WG w' q mb cg cc base code (s.1 ++ [(k, mo)], s.2)) => HIH.out w' q mb cg cc base (s.1 ++ [(k, mo)], s.2) (a0, mo) b hg HLF.out (by simp only; omega) (by simp only; omega))
      have E := hide (show Value.agg #[.int .i64 (a0 : Int), .int .i64 (mo : Int)] = staV (a0, mo) by simp [staV])
      go_wp2_with fail
      rw [E.out]
      refine (KEY.out _ (HG3.out.ex ((Ex.refl _ _).alloc _))).mono ?_
      rintro e w5 ⟨rfl, hg5, hv5⟩
      have HG5 := hide hg5
      have HV5 := hide ((HV3.out.alloc _).trans hv5)
      clear hg5 hv5 k0 k1 k2 k3 k4 k5 k6 hcq0 hfq0
      go_wp2_with fail
      go_end0
      refine ⟨rfl, ?_, HV5.out⟩
      rw [HV.out]
      exact HG5.out
    · simp only at h0 e0
      subst h0 e0
      have KEY := hide (fun (w' : World) (hg : WG w' q mb cg cc base code (s.1 ++ [(k, mo)], s.2)) => HIH.out w' q mb cg cc base (s.1 ++ [(k, mo)], s.2) (k + 1, mo) (orM b (a0 : Int)) hg HLF.out (by simp only; omega) (by simp only; omega))
      have E := hide (show Value.agg #[.int .i64 ((k : Int) + 1), .int .i64 (mo : Int)] = staV (k + 1, mo) by simp [staV])
      have E2 := hide (show bits .or IntKind.u64 b (IntKind.u64.wrap (2 ^ a0)) = orM b (a0 : Int) by simp [orM])
      go_wp2_with fail
      rw [E.out, E2.out]
      refine (KEY.out _ (HG3.out.ex ((Ex.refl _ _).alloc _))).mono ?_
      rintro e w5 ⟨rfl, hg5, hv5⟩
      have HG5 := hide hg5
      have HV5 := hide ((HV3.out.alloc _).trans hv5)
      clear hg5 hv5 k0 k1 k2 k3 k4 k5 k6 hcq0 hfq0
      go_wp2_with fail
      go_end0
      refine ⟨rfl, ?_, HV5.out⟩
      rw [HV.out]
      exact HG5.out
    · simp only at h0
      subst h0
      have KEY := hide (fun (w' : World) (hg : WG w' q mb cg cc base code (s.1 ++ [(k, mo)], s.2)) => HIH.out w' q mb cg cc base (s.1 ++ [(k, mo)], s.2) (k + 1, 0) b hg HLF.out (by simp only; omega) (by simp only; omega))
      have E := hide (show Value.agg #[.int .i64 ((k : Int) + 1), .int .i64 0] = staV (k + 1, 0) by simp [staV])
      go_wp2_with fail
      rw [E.out]
      refine (KEY.out _ (HG3.out.ex ((Ex.refl _ _).alloc _))).mono ?_
      rintro e w5 ⟨rfl, hg5, hv5⟩
      have HG5 := hide hg5
      have HV5 := hide ((HV3.out.alloc _).trans hv5)
      clear hg5 hv5 k0 k1 k2 k3 k4 k5 k6 hcq0 hfq0
      go_wp2_with fail
      go_end0
      refine ⟨rfl, ?_, HV5.out⟩
      rw [HV.out]
      exact HG5.out
    · simp only at h0
      subst h0
      by_cases hmo : mo = 1
      · subst hmo
        have KEY := hide (fun (w' : World) (hg : WG w' q mb cg cc base code (s.1 ++ [(k, 1)], s.2)) => HIH.out w' q mb cg cc base (s.1 ++ [(k, 1)], s.2) (k + 1, 1) b hg HLF.out (by simp only; omega) (by simp only; omega))
        have E := hide (show Value.agg #[.int .i64 ((k : Int) + 1), .int .i64 1] = staV (k + 1, 1) by simp [staV])
        go_wp2_with fail
        rw [E.out]
        refine (KEY.out _ (HG3.out.ex ((Ex.refl _ _).alloc _))).mono ?_
        rintro e w5 ⟨rfl, hg5, hv5⟩
        have HG5 := hide hg5
        have HV5 := hide ((HV3.out.alloc _).trans hv5)
        clear hg5 hv5 k0 k1 k2 k3 k4 k5 k6 hcq0 hfq0
        go_wp2_with fail
        go_end0
        refine ⟨rfl, ?_, HV5.out⟩
        rw [HV.out]
        exact HG5.out
      · obtain rfl : mo = 0 := by omega
        go_wp2_with fail
        go_end0
        refine ⟨rfl, ?_, HV3.out.alloc _⟩
        rw [HV.out]
        exact HG3.out.ex ((Ex.refl _ _).alloc _)

theorem visit_all (code : List Ins) (hcode : code.length ≤ 100000) (hok : CodeOK code) : ∀ f, VisitC code f
  | 0 => fun _ _ _ _ _ _ s h _ _ hl _ _ => by omega
  | f + 1 => fun w q mb cg cc base s h b hg hl h1 h2 => by
    by_cases hs : h ∈ s.1
    · refine (visit_old code hcode w q mb cg cc base s h b hg h1 h2 hs).mono ?_
      rintro e w' ⟨rfl, hx⟩
      refine ⟨rfl, ?_, VF.ofEx hx (by simp)⟩
      rw [visitM, if_pos hs]
      exact hg.ex hx
    · exact visit_new code hcode hok f (visit_all code hcode hok f) w q mb cg cc base s h b hg hl h1 h2 hs
end Go.Proofs.YtmeffeigamaipaaDoor.G

/- The ways from a state on. -/
namespace Go.Proofs.YtmeffeigamaipaaDoor.G
open Go.RowKit

theorem states_len (n : Nat) : (states n).length = 2 * n := by
  unfold states
  induction n with
  | zero => rfl
  | succ n ih =>
    rw [List.range_succ, List.flatMap_append, List.length_append, ih]
    simp
    omega
theorem left_le (n : Nat) (s : List (Nat × Nat)) : left n s ≤ 2 * n := by
  rw [← states_len]
  exact List.countP_le_length
def waysM (code : List Ins) (h : Nat × Nat) : List (Nat × Int) := (visitM code (2 * code.length + 1) ([], []) h 0).2

set_option maxHeartbeats 1000000 in
set_option maxRecDepth 100000 in
theorem waysFrom_any (code : List Ins) (hcode : code.length ≤ 100000) (hok : CodeOK code) (cg cc : Nat) (h : Nat × Nat) (w : World) (hcg : cg < w.heap.size) (hcap : code.length ≤ cc) (hr : w.rangeAt cg 0 (codeL code)) (h1 : h.1 < code.length) (h2 : h.2 < 2) :
    Calls Tryd.prog 20 #[.slice (some ⟨cg, 0, none⟩) code.length cc, staV h] w fun e w' => ∃ p c, e = .returned (.slice p (waysM code h).length c) ∧ w'.ownsRow w.heap.size 110 2 (.slice p (waysM code h).length c) (waysM code h).length (waysL (waysM code h)) ∧ Ex [] w w' := by
  have hmm := @run_makeMap Tryd.prog
  have HR := hide hr
  clear hr
  obtain ⟨k, mo⟩ := h
  obtain ⟨n, hn⟩ : ∃ n, n = code.length := ⟨_, rfl⟩
  rw [← hn] at hcap h1 hcode ⊢
  have HNN := hide hn
  clear hn
  unfold staV
  dsimp only
  go_enter Tryd.func20, Tryd.ntmps20
  go_wp2_with fail
  obtain ⟨w1, hw1⟩ : ∃ w1, w1 = ((w.alloc (Obj.cells #[.int .i64 k, .int .i64 mo] 70)).alloc (Obj.map #[] 0)).alloc (Obj.cells #[.slice (some ⟨cg, 0, none⟩) n cc, .map (some (w.heap.size + 1)), .slice none 0 0] 102) := ⟨_, rfl⟩
  rw [← hw1]
  have hx1 : Ex [] w w1 := by rw [hw1]; exact (((Ex.refl _ _).alloc _).alloc _).alloc _
  have hz1 : w1.heap.size = w.heap.size + 3 := by rw [hw1]; simp
  have hq1 : BK w1 (w.heap.size + 1 + 1) (.cells #[.slice (some ⟨cg, 0, none⟩) n cc, .map (some (w.heap.size + 1)), .slice none 0 0] 102 (0, 0)) := by
    rw [hw1]
    have := BK.new ((w.alloc (Obj.cells #[.int .i64 k, .int .i64 mo] 70)).alloc (Obj.map #[] 0)) (Obj.cells #[.slice (some ⟨cg, 0, none⟩) n cc, .map (some (w.heap.size + 1)), .slice none 0 0] 102)
    simpa using this
  have hm1 : BK w1 (w.heap.size + 1) (.map #[] 0) := by
    rw [hw1]
    have := (BK.new (w.alloc (Obj.cells #[.int .i64 k, .int .i64 mo] 70)) (Obj.map #[] 0)).alloc (Obj.cells #[.slice (some ⟨cg, 0, none⟩) n cc, .map (some (w.heap.size + 1)), .slice none 0 0] 102)
    simpa using this
  have hg1 : WG w1 (w.heap.size + 1 + 1) (w.heap.size + 1) cg cc (w.heap.size + 3) code ([], []) :=
    ⟨by omega, by omega, by omega, by omega, by omega, by omega, by omega, by rw [← HNN.out]; exact hcap, by have := left_le code.length []; rw [← HNN.out] at this ⊢; simp only [List.length_nil]; omega, range_same HR.out (hx1.block cg hcg (by simp)), ⟨#[], 0, hm1, rfl, by simp, by simp⟩, ⟨.slice none 0 0, by rw [← HNN.out]; exact hq1, ⟨rfl, .inl ⟨rfl, rfl⟩⟩⟩⟩
  have KEY := hide (visit_all code (by rw [← HNN.out]; exact hcode) hok (2 * code.length + 1) w1 _ _ cg cc _ ([], []) (k, mo) 0 hg1 (by have := left_le code.length []; simp only; omega) (by rw [← HNN.out]; exact h1) h2)
  have HX1 := hide hx1
  clear hw1 hx1 hq1 hm1 hg1 hmm
  refine (show Calls _ _ _ _ _ from KEY.out).mono ?_
  rintro e w2 ⟨rfl, hg2, hv2⟩
  obtain ⟨v2, hq2, ho2⟩ := hg2.ways
  obtain ⟨p2, c2, rfl⟩ := own_slice ho2
  obtain ⟨hcq, hfq⟩ := hq2.all
  have HO2 := hide ho2
  have HX2 := hide (show Ex [] w w2 from ⟨hv2.os.trans HX1.out.os, hv2.tape.trans HX1.out.tape, hv2.output.trans HX1.out.output, Nat.le_trans HX1.out.size hv2.size, fun x hx _ => (hv2.block x (by omega) (by omega) (by omega) (.inl (by omega))).trans (HX1.out.block x hx (by simp))⟩)
  clear hg2 hv2 hq2 ho2
  go_wp2_with fail
  go_ret
  exact ⟨p2, c2, by simp [waysM], own_lower HO2.out (by omega), HX2.out⟩
end Go.Proofs.YtmeffeigamaipaaDoor.G

/- Contracts of the builder of programs, at what the reader made of dots: the program. -/
namespace Go.Proofs.YtmeffeigamaipaaDoor.Rx
open Go.RowKit

end Go.Proofs.YtmeffeigamaipaaDoor.Rx

/- Contracts of the ways between instructions, at a program of dots. -/
namespace Go.Proofs.YtmeffeigamaipaaDoor.Rx
open Go.RowKit

end Go.Proofs.YtmeffeigamaipaaDoor.Rx

/- Contracts of the ways between instructions, at a program of dots: all of them. -/
namespace Go.Proofs.YtmeffeigamaipaaDoor.Rx
open Go.RowKit

end Go.Proofs.YtmeffeigamaipaaDoor.Rx

/- Contracts of the ways behind each instruction, at a program of dots. -/
namespace Go.Proofs.YtmeffeigamaipaaDoor.Rx
open Go.RowKit

theorem info78 : (Tryd.prog.info? 67).map (fun i => (i.zero, i.size, i.bytes)) = some (some (.slice none 0 0), 1, 24) := by kernel_rfl

end Go.Proofs.YtmeffeigamaipaaDoor.Rx
