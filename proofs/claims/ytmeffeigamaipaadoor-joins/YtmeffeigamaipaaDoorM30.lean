/- The contract of follow, whatever the ways. -/
import Derived.Test.YtmeffeigamaipaaDoorM29
set_option linter.unusedVariables false
set_option linter.unusedSimpArgs false
namespace Go.Proofs.YtmeffeigamaipaaDoor.G
open Go.RowKit

theorem infoThread : (Tryd.prog.info? 113).map (fun i => (i.zero, i.size, i.bytes)) = some (some (.agg #[.int .i64 0, .int .i64 0, .int .i64 0, .int .i64 0, .int .i64 0, .int .i64 0, .int .i64 0, .int .i64 0, .int .i64 0, .int .i64 0, .int .i64 0]), 11, 88) := by kernel_rfl
structure Way where
  to : Nat
  bits : Int
structure Th where
  pc : Nat
  sl : List Int
def wayL (ws : List Way) : List Value := ws.flatMap fun x => [.int .i64 x.to, .int .u64 x.bits]
def thC (t : Th) : List Value := .int .i64 t.pc :: ints t.sl
def thL (ts : List Th) : List Value := ts.flatMap thC
theorem thL_snoc (ts : List Th) (t : Th) : thL (ts ++ [t]) = thL ts ++ thC t := by simp [thL]
theorem wayL_at (ws : List Way) (i : Nat) (hi : i < ws.length) : (wayL ws)[i * 2]? = some (.int .i64 ws[i].to) ∧ (wayL ws)[i * 2 + 1]? = some (.int .u64 ws[i].bits) := by
  induction ws generalizing i with
  | nil => simp at hi
  | cons x ws ih =>
    have h1 : wayL (x :: ws) = [.int .i64 x.to, .int .u64 x.bits] ++ wayL ws := rfl
    rw [h1]
    cases i with
    | zero => exact ⟨rfl, rfl⟩
    | succ i =>
      rw [List.getElem?_append_right (by simp; omega), List.getElem?_append_right (by simp; omega)]
      have h2 := ih i (by simpa using hi)
      simp only [List.length_cons, List.length_nil, List.getElem_cons_succ]
      rw [show (i + 1) * 2 - (0 + 1 + 1) = i * 2 by omega, show (i + 1) * 2 + 1 - (0 + 1 + 1) = i * 2 + 1 by omega]
      exact h2

def followM (sl : List Int) (pl : Int) : List Way → List Th × List Int → List Th × List Int
  | [], s => s
  | x :: ws, s => if s.2[x.to]? = some pl then followM sl pl ws s else followM sl pl ws (s.1 ++ [⟨x.to, markM x.bits pl sl⟩], s.2.set x.to pl)

set_option maxHeartbeats 4000000 in
set_option maxRecDepth 100000 in
theorem follow_any (u gr gw cw n base : Nat) (pa : Option Addr) (pl : Int) (pv nowV nextV : Value) (w : World) (rc : List Int) (ts : List Th) (ws : List Way) (sl : List Int) (hsl : sl.length = 10)
    (hnow : w.ownsRow base 113 11 nowV ts.length (thL ts))
    (hu : BK w u (.cells #[pv, nowV, nextV, .slice (some ⟨gr, 0, none⟩) n n] 108 (0, 0))) (hgr : BK w gr (.cells (ints rc).toArray 3 (0, 0))) (hrc : rc.length = n) (hn : n ≤ 100000) (hts : ts.length + ws.length ≤ 500000)
    (hws : ∀ x ∈ ws, x.to < n) (hbu : u < base) (hbg : gr < base) (hug : u ≠ gr) (hbw : base ≤ w.heap.size)
    (hpa : ws ≠ [] → pa = some ⟨gw, 0, none⟩) (hwc : ∀ j, j < ws.length * 2 → w.cell? ⟨gw, j, none⟩ = (wayL ws)[j]?) (hgw : gw < base) (hgu : gw ≠ u) (hgg : gw ≠ gr) :
    Calls Tryd.prog 23 #[.pointer (some ⟨u, 0, none⟩), .slice pa ws.length cw, .agg (ints sl).toArray, .int .i64 pl] w fun e w' => e = .returned (.tuple #[]) ∧
      ∃ nowV', BK w' u (.cells #[pv, nowV', nextV, .slice (some ⟨gr, 0, none⟩) n n] 108 (0, 0)) ∧ w'.ownsRow base 113 11 nowV' (followM sl pl ws (ts, rc)).1.length (thL (followM sl pl ws (ts, rc)).1) ∧ BK w' gr (.cells (ints (followM sl pl ws (ts, rc)).2).toArray 3 (0, 0)) ∧
        Ex (u :: gr :: nowV.ownBlock.toList) w w' ∧ (nowV'.ownBlock = nowV.ownBlock ∨ ∃ g, nowV'.ownBlock = some g ∧ w.heap.size ≤ g) := by
  obtain ⟨t0, hi, hz0, hz1, hz2⟩ := info_parts infoThread
  have HN := hide hnow
  have HU := hide hu
  have HG := hide hgr
  have HWS := hide hws
  have HPA := hide hpa
  have HWC := hide hwc
  have hul := hu.lt
  have hgl := hgr.lt
  obtain ⟨res, hres⟩ : ∃ res, followM sl pl ws (ts, rc) = res := ⟨_, rfl⟩
  have HRES := hide hres
  rw [hres]
  have hnb : ∀ b, nowV.ownBlock = some b → b < w.heap.size := fun b e => (hnow.lt b e).2
  have HNB := hide hnb
  clear hnow hu hgr hws hpa hwc hres hnb
  go_enter Tryd.func23, Tryd.ntmps23
  go_wp2_with fail
  go_loopg [12] ws.length (fun gk i12 wr => ∃ (i : Nat) (nowV' : Value) (ts' : List Th) (rc' : List Int), i + gk = ws.length ∧ i12 = .int .i64 i ∧ followM sl pl (ws.drop i) (ts', rc') = res ∧ ts'.length ≤ ts.length + i ∧ rc'.length = n ∧
    BK wr u (.cells #[pv, nowV', nextV, .slice (some ⟨gr, 0, none⟩) n n] 108 (0, 0)) ∧ wr.ownsRow base 113 11 nowV' ts'.length (thL ts') ∧ BK wr gr (.cells (ints rc').toArray 3 (0, 0)) ∧
    BK wr w.heap.size (.cells (ints sl).toArray 79 (0, 0)) ∧ Ex (u :: gr :: nowV.ownBlock.toList) w wr ∧ (nowV'.ownBlock = nowV.ownBlock ∨ ∃ g, nowV'.ownBlock = some g ∧ w.heap.size < g))
  case atStart =>
    exact ⟨0, nowV, ts, rc, by omega, rfl, HRES.out, by omega, hrc, HU.out.alloc _, HN.out.alloc _, HG.out.alloc _, BK.new _ _, (Ex.refl _ _).alloc _, Or.inl rfl⟩
  case round =>
    obtain ⟨i, nowV', ts', rc', hgi, rfl, hfm, htl, hrl, hu1, hn1, hg1, hs1, hx1, hor⟩ := hrel
    have HFM := hide hfm
    have HU1 := hide hu1
    have HN1 := hide hn1
    have HG1 := hide hg1
    have HS1 := hide hs1
    have HX1 := hide hx1
    have HOR := hide hor
    have hsl1 := hs1.lt
    have hul1 := hu1.lt
    have hgl1 := hg1.lt
    clear hfm hu1 hn1 hg1 hs1 hx1 hor
    cases gk with
    | zero =>
      obtain rfl : i = ws.length := by omega
      have hfm := HFM.out
      rw [List.drop_length] at hfm
      have hr1 : res.1 = ts' := by rw [← hfm]; rfl
      have hr2 : res.2 = rc' := by rw [← hfm]; rfl
      have HR1 := hide hr1
      have HR2 := hide hr2
      clear hfm hr1 hr2
      go_wp2_with fail
      go_end0
      refine ⟨rfl, nowV', HU1.out, by rw [HR1.out]; exact HN1.out, by rw [HR2.out]; exact HG1.out, HX1.out, ?_⟩
      rcases HOR.out with h | ⟨g, h1, h2⟩
      · exact Or.inl h
      · exact Or.inr ⟨g, h1, by omega⟩
    | succ g =>
      have hi1 : i < ws.length := by omega
      have hi1' : (i : Int) < (ws.length : Int) := by omega
      obtain ⟨k, bt, hwx⟩ : ∃ k bt, ws[i] = ⟨k, bt⟩ := ⟨_, _, rfl⟩
      have hk : k < n := by have h := HWS.out ws[i] (List.getElem_mem hi1); rw [hwx] at h; exact h
      have hk' : (k : Int) < (n : Int) := by omega
      have hpa := HPA.out (by intro e; rw [e] at hi1; simp at hi1)
      subst hpa
      have hgn : gw ∉ (u :: gr :: nowV.ownBlock.toList) := fun hm => by
        simp only [List.mem_cons, Option.mem_toList] at hm
        rcases hm with h | h | h
        · exact hgu h
        · exact hgg h
        · have := own_block HN.out gw h; omega
      have hw0 : wr.cell? ⟨gw, i * 2, none⟩ = some (.int .i64 k) := by
        rw [HX1.out.cell.1 gw _ (by omega) hgn, HWC.out _ (by omega), (wayL_at ws i hi1).1, hwx]
      have hw1 : wr.cell? ⟨gw, i * 2 + 1, none⟩ = some (.int .u64 bt) := by
        rw [HX1.out.cell.1 gw _ (by omega) hgn, HWC.out _ (by omega), (wayL_at ws i hi1).2, hwx]
      have hstep : followM sl pl (ws.drop i) (ts', rc') = if rc'[k]? = some pl then followM sl pl (ws.drop (i + 1)) (ts', rc') else followM sl pl (ws.drop (i + 1)) (ts' ++ [⟨k, markM bt pl sl⟩], rc'.set k pl) := by
        rw [List.drop_eq_getElem_cons hi1, hwx]; rfl
      have HST := hide hstep
      have hgw1 : gw < wr.heap.size := by have := HX1.out.size; omega
      clear hstep hgn
      obtain ⟨p, c, hnv⟩ := own_slice HN1.out
      subst hnv
      obtain ⟨hcu, hfu⟩ := HU1.out.all
      obtain ⟨hcg, hfg⟩ := HG1.out.all
      obtain ⟨c0, hc0⟩ : ∃ c0, rc'[k]? = some c0 := ⟨rc'[k], List.getElem?_eq_getElem (by omega)⟩
      have kg : wr.cell? ⟨gr, k, none⟩ = some (.int .i64 c0) := by rw [hcg, List.getElem?_toArray, ints_at, hc0]; rfl
      have kf := hfg k
      have HC0 := hide hc0
      clear hcg hfg hc0
      by_cases hcp : c0 = pl
      · have hne : (c0 == pl) = true := by rw [hcp]; simp
        go_wp2_with fail
        go_quiet (fail)
        go_wp2_with fail
        go_roundg g
        case measure => omega
        case rel =>
          refine ⟨i + 1, _, ts', rc', by omega, by simp, ?_, by omega, hrl, (HU1.out.alloc _).drewN _, own_drewN (HN1.out.alloc _) _, (HG1.out.alloc _).drewN _, (HS1.out.alloc _).drewN _, (HX1.out.alloc _).drewN _, HOR.out⟩
          have h1 := HFM.out
          rw [HST.out, HC0.out, if_pos (by rw [hcp])] at h1
          exact h1
      · have hne : (c0 == pl) = false := by rw [beq_eq_false_iff_ne]; exact hcp
        go_wp2_with fail
        go_quiet (fail)
        go_wp2_with fail
        go_region
        generalize hw3 : World.setCell _ (⟨gr, k, none⟩ : Addr) _ = w3
        have hx3 : Ex [gr] wr w3 := by
          rw [← hw3]; exact (((Ex.refl _ _).alloc _).drewN _).setCell (Or.inl (by simp)) _
        have hu3 := HU1.out.ex hx3 (by simpa using hug)
        have hg3 : BK w3 gr (.cells (ints (rc'.set k pl)).toArray 3 (0, 0)) := by
          rw [← hw3, ← ints_set]; exact BK.selfL ((HG1.out.alloc _).drewN _) k _
        have hs3 : BK w3 w.heap.size (.cells (ints sl).toArray 79 (0, 0)) := HS1.out.ex hx3 (by simp; omega)
        have hb3 : BK w3 wr.heap.size (.cells #[.int .i64 k, .int .u64 bt] 110 (0, 0)) := by
          rw [← hw3]; exact ((BK.new _ _).drewN _).set (by simp; omega) _
        have hn3 := own_ex HN1.out hx3 (by simp; omega)
        clear hw3 hcu hfu kg kf hw0 hw1
        have HX3 := hide hx3
        have HU3 := hide hu3
        have HG3 := hide hg3
        have HS3 := hide hs3
        have HB3 := hide hb3
        have HN3 := hide hn3
        have hul3 := hu3.lt
        have hsl3 := hs3.lt
        have hbl3 := hb3.lt
        have hgl3 := hg3.lt
        obtain ⟨hcu3, hfu3⟩ := hu3.all
        have hcs3 := BK.rangeL hs3
        obtain ⟨hcb3, hfb3⟩ := hb3.all
        have h90 := Tryd.underlying79
        have HF1 : Hid ((Value.slice p ts'.length c).ownBlock = some wr.heap.size → False) := fun e => by have := (HN1.out.lt _ e).2; omega
        have HF0 : Hid ((Value.slice p ts'.length c).ownBlock = some w.heap.size → False) := fun e => by
          rcases HOR.out with h | ⟨g, h1, h2⟩
          · rw [h] at e; have := HNB.out _ e; omega
          · rw [e] at h1; cases h1; omega
        have hs90 := size90' sl hsl
        obtain ⟨y0, y1, y2, y3, y4, y5, y6, y7, y8, y9, hyy⟩ := ten (sl := markM bt pl sl) (by unfold markM; rw [markN_len, hsl])
        have KM := hide (fun w => marked_any bt pl sl hsl w)
        rw [hyy, ints_ten] at KM
        have HYY := hide hyy
        clear hx3 hu3 hg3 hs3 hb3 hn3 hyy
        go_wp2_with fail
        refine wp_region_J (by kernel_rfl) ?_
        refine wpAny_take (i := 0) (v := ?_) rfl (by kernel_rfl) (by kernel_rfl) (by kernel_rfl) (fun _ _ _ h => h) (Or.inl ⟨by rfl, ?_⟩) ?_
        rotate_left
        · intro w'
          go_simp
          try with_reducible rfl
        simp only [Act.put, List.setIfInBounds_toArray, List.set_cons_zero, List.set_cons_succ, List.getElem_toArray, List.getElem_cons_zero, List.getElem_cons_succ, List.replicate, Array.replicate, List.size_toArray, List.length_cons, List.length_nil]
        refine wpAny_take (i := 1) (v := ?_) rfl (by kernel_rfl) (by kernel_rfl) (by kernel_rfl) (fun _ _ _ h => h) (Or.inl ⟨by rfl, ?_⟩) ?_
        rotate_left
        · intro w'
          go_simp
          try with_reducible rfl
        simp only [Act.put, List.setIfInBounds_toArray, List.set_cons_zero, List.set_cons_succ, List.getElem_toArray, List.getElem_cons_zero, List.getElem_cons_succ, List.replicate, Array.replicate, List.size_toArray, List.length_cons, List.length_nil]
        refine wpAny_take (i := 2) (v := ?_) rfl (by kernel_rfl) (by kernel_rfl) (by kernel_rfl) (fun _ _ _ h => h) (Or.inl ⟨by rfl, ?_⟩) ?_
        rotate_left
        · intro w'
          go_simp
          try with_reducible rfl
        simp only [Act.put, List.setIfInBounds_toArray, List.set_cons_zero, List.set_cons_succ, List.getElem_toArray, List.getElem_cons_zero, List.getElem_cons_succ, List.replicate, Array.replicate, List.size_toArray, List.length_cons, List.length_nil]
        refine wpAny_take (i := 3) (v := ?_) rfl (by kernel_rfl) (by kernel_rfl) (by kernel_rfl) (fun _ _ _ h => h) (Or.inl ⟨by rfl, ?_⟩) ?_
        rotate_left
        · intro w'
          go_simp
          try with_reducible rfl
        simp only [Act.put, List.setIfInBounds_toArray, List.set_cons_zero, List.set_cons_succ, List.getElem_toArray, List.getElem_cons_zero, List.getElem_cons_succ, List.replicate, Array.replicate, List.size_toArray, List.length_cons, List.length_nil]
        refine wpAny_take (i := 5) (v := ?_) rfl (by kernel_rfl) (by kernel_rfl) (by kernel_rfl) (fun _ _ _ h => h) (Or.inl ⟨by rfl, ?_⟩) ?_
        rotate_left
        · intro w'
          go_simp
          try with_reducible rfl
        simp only [Act.put, List.setIfInBounds_toArray, List.set_cons_zero, List.set_cons_succ, List.getElem_toArray, List.getElem_cons_zero, List.getElem_cons_succ, List.replicate, Array.replicate, List.size_toArray, List.length_cons, List.length_nil]
        refine wpAny_take (i := 8) (v := ?_) rfl (by kernel_rfl) (by kernel_rfl) (by kernel_rfl) (fun _ _ _ h => h) (Or.inl ⟨by rfl, ?_⟩) ?_
        rotate_left
        · intro w'
          go_simp
          try with_reducible rfl
        simp only [Act.put, List.setIfInBounds_toArray, List.set_cons_zero, List.set_cons_succ, List.getElem_toArray, List.getElem_cons_zero, List.getElem_cons_succ, List.replicate, Array.replicate, List.size_toArray, List.length_cons, List.length_nil]
        refine wpAny_take (i := 10) (v := ?_) rfl (by kernel_rfl) (by kernel_rfl) (by kernel_rfl) (fun _ _ _ h => h) (Or.inl ⟨by rfl, ?_⟩) ?_
        rotate_left
        · intro w'
          go_simp
          try with_reducible rfl
        simp only [Act.put, List.setIfInBounds_toArray, List.set_cons_zero, List.set_cons_succ, List.getElem_toArray, List.getElem_cons_zero, List.getElem_cons_succ, List.replicate, Array.replicate, List.size_toArray, List.length_cons, List.length_nil]
        refine wpAny_of_J (S := (fun j w' => ((∀ o, w'.cell? ⟨wr.heap.size, o, none⟩ = #[Value.int .i64 k, .int .u64 bt][o]?) ∧ w'.rangeAt w.heap.size 0 (ints sl)) ∧ ((j = 4 ∨ 11 ≤ j ∧ j ≤ 13) → ∀ o, w'.cell? ⟨u, o, none⟩ = #[pv, .slice p ts'.length c, nextV, .slice (some ⟨gr, 0, none⟩) n n][o]?))) _ _ _ _ ?_
        refine wpAnyJ_take (i := 6) (T := (fun w' => (∀ o, w'.cell? ⟨wr.heap.size, o, none⟩ = #[Value.int .i64 k, .int .u64 bt][o]?) ∧ w'.rangeAt w.heap.size 0 (ints sl))) (v := ?_) (fun _ => true) rfl (by kernel_rfl) (by kernel_rfl) (by kernel_rfl) (by kernel_rfl) (fun j w' _ h => h.1) (fun w' h => ⟨h, fun hj => by omega⟩) (fun _ _ _ h => h) ⟨hcb3, hcs3⟩ (Or.inl ⟨by rfl, ?_⟩) ?_
        rotate_left
        · intro w' hSw
          try obtain ⟨⟨hSb, hSs⟩, hSu⟩ := hSw
          try obtain ⟨hSb, hSs⟩ := hSw
          go_simp
          try with_reducible rfl
        simp only [Act.put, List.setIfInBounds_toArray, List.set_cons_zero, List.set_cons_succ, List.getElem_toArray, List.getElem_cons_zero, List.getElem_cons_succ, List.replicate, Array.replicate, List.size_toArray, List.length_cons, List.length_nil]
        refine wpAnyJ_take (i := 7) (T := (fun w' => (∀ o, w'.cell? ⟨wr.heap.size, o, none⟩ = #[Value.int .i64 k, .int .u64 bt][o]?) ∧ w'.rangeAt w.heap.size 0 (ints sl))) (v := _) (fun _ => true) rfl (by kernel_rfl) (by kernel_rfl) (by kernel_rfl) (by kernel_rfl) (fun j w' _ h => h.1) (fun w' h => ⟨h, fun hj => by omega⟩) (fun _ _ _ h => h) ⟨hcb3, hcs3⟩ (yieldsIf_load_mid (by rfl) _ _ rfl _ _ rfl (ints sl) _ (fun w' h => h.2) h90 rfl hs90) ?_
        simp only [Act.put, List.setIfInBounds_toArray, List.set_cons_zero, List.set_cons_succ, List.getElem_toArray, List.getElem_cons_zero, List.getElem_cons_succ, List.replicate, Array.replicate, List.size_toArray, List.length_cons, List.length_nil]
        refine wpAnyJ_take (i := 9) (T := (fun w' => (∀ o, w'.cell? ⟨wr.heap.size, o, none⟩ = #[Value.int .i64 k, .int .u64 bt][o]?) ∧ w'.rangeAt w.heap.size 0 (ints sl))) (v := ?_) (fun _ => true) rfl (by kernel_rfl) (by kernel_rfl) (by kernel_rfl) (by kernel_rfl) (fun j w' _ h => h.1) (fun w' h => ⟨h, fun hj => by omega⟩) (fun _ _ _ h => h) ⟨hcb3, hcs3⟩ (Or.inl ⟨by rfl, ?_⟩) ?_
        rotate_left
        · intro w' hSw
          try obtain ⟨⟨hSb, hSs⟩, hSu⟩ := hSw
          try obtain ⟨hSb, hSs⟩ := hSw
          go_simp
          try with_reducible rfl
        simp only [Act.put, List.setIfInBounds_toArray, List.set_cons_zero, List.set_cons_succ, List.getElem_toArray, List.getElem_cons_zero, List.getElem_cons_succ, List.replicate, Array.replicate, List.size_toArray, List.length_cons, List.length_nil]
        refine wpAnyJ_take (i := 4) (T := (fun w' => ((∀ o, w'.cell? ⟨wr.heap.size, o, none⟩ = #[Value.int .i64 k, .int .u64 bt][o]?) ∧ w'.rangeAt w.heap.size 0 (ints sl)) ∧ ∀ o, w'.cell? ⟨u, o, none⟩ = #[pv, .slice p ts'.length c, nextV, .slice (some ⟨gr, 0, none⟩) n n][o]?)) (v := ?_) (fun j => decide (j = 4) || decide (11 ≤ j) && decide (j ≤ 13)) rfl (by kernel_rfl) (by kernel_rfl) (by kernel_rfl) (by kernel_rfl) (fun j w' hf h => ⟨h.1, h.2 (by simpa using hf)⟩) (fun w' h => ⟨h.1, fun _ => h.2⟩) (fun _ _ _ h => h) ⟨⟨hcb3, hcs3⟩, hcu3⟩ (Or.inl ⟨by rfl, ?_⟩) ?_
        rotate_left
        · intro w' hSw
          try obtain ⟨⟨hSb, hSs⟩, hSu⟩ := hSw
          try obtain ⟨hSb, hSs⟩ := hSw
          go_simp
          try with_reducible rfl
        simp only [Act.put, List.setIfInBounds_toArray, List.set_cons_zero, List.set_cons_succ, List.getElem_toArray, List.getElem_cons_zero, List.getElem_cons_succ, List.replicate, Array.replicate, List.size_toArray, List.length_cons, List.length_nil]
        refine wpAnyJ_one (i := 11) rfl rfl (by kernel_rfl) (fun K hK => ?_)
        go_simp
        refine (KM.out _).mono ?_
        rintro e w4 ⟨rfl, hx4⟩
        have hu4 := HU3.out.drew.ex hx4 (by simp)
        have hb4 := HB3.out.drew.ex hx4 (by simp)
        have hs4 := HS3.out.drew.ex hx4 (by simp)
        go_wp2_with fail
        refine hK.out _ _ ⟨⟨hb4.all.1, (BK.rangeL hs4)⟩, fun _ => hu4.all.1⟩ ?_
        clear hK K
        simp only [Act.put, List.setIfInBounds_toArray, List.set_cons_zero, List.set_cons_succ, List.getElem_toArray, List.getElem_cons_zero, List.getElem_cons_succ]
        refine wpAnyJ_one (i := 12) rfl rfl (by kernel_rfl) (fun K hK => ?_)
        go_simp
        refine hK.out _ _ ⟨⟨hb4.all.1, (BK.rangeL hs4)⟩, fun _ => hu4.all.1⟩ ?_
        clear hK K
        simp only [Act.put, List.setIfInBounds_toArray, List.set_cons_zero, List.set_cons_succ, List.getElem_toArray, List.getElem_cons_zero, List.getElem_cons_succ]
        refine wpAnyJ_one (i := 13) rfl rfl (by kernel_rfl) (fun K hK => ?_)
        go_simp
        refine hK.out _ _ ⟨⟨(hb4.alloc _).all.1, (BK.rangeL (hs4.alloc _))⟩, fun _ => (hu4.alloc _).all.1⟩ ?_
        clear hK K
        simp only [Act.put, List.setIfInBounds_toArray, List.set_cons_zero, List.set_cons_succ, List.getElem_toArray, List.getElem_cons_zero, List.getElem_cons_succ]
        refine wpAnyJ_one (i := 14) rfl rfl (by kernel_rfl) (fun K hK => ?_)
        refine wp_append_lies _ (.tmp 38) (.tmp 47) 106 rfl base 113 t0 _ 11 88 Tryd.underlying106 hi hz0 hz1 hz2 rfl (by decide) (.slice p ts'.length c) ts'.length (thL ts') rfl ((own_ex (own_drewN HN3.out 1) hx4 (by simp)).alloc _) ⟨w4.heap.size, 0, none⟩ 1 1 (thC ⟨k, [y0, y1, y2, y3, y4, y5, y6, y7, y8, y9]⟩) rfl rfl (cells_new _ _ _) (by simp [thC, ints, Value.oneCell']) (by decide) (by unfold maxLen; omega) (by omega) (by have h1 : w3.heap.size ≤ w4.heap.size := hx4.size; simp; omega) _ rfl ?_
        intro g0 cap w5 hown5 hgrow5 hat5 hlt5
        have hu5 := BK.grown (hu4.alloc _) hgrow5 (fun e => by have := own_block HN3.out _ e; omega)
        have hb5 := BK.grown (hb4.alloc _) hgrow5 (fun e => HF1.out e)
        have hs5 := BK.grown (hs4.alloc _) hgrow5 (fun e => HF0.out e)
        refine hK.out _ _ ⟨⟨hb5.all.1, (BK.rangeL hs5)⟩, fun _ => hu5.all.1⟩ ?_
        clear hK K
        simp only [Act.put, List.setIfInBounds_toArray, List.set_cons_zero, List.set_cons_succ, List.getElem_toArray, List.getElem_cons_zero, List.getElem_cons_succ]
        obtain ⟨hcu5, hfu5⟩ := hu5.all
        refine wpAnyJ_one (i := 15) rfl rfl (by kernel_rfl) (fun K hK => ?_)
        go_simp
        refine hK.out _ _ ⟨⟨hb5.all.1, (BK.rangeL hs5)⟩, fun _ => hu5.all.1⟩ ?_
        clear hK K
        simp only [Act.put, List.setIfInBounds_toArray, List.set_cons_zero, List.set_cons_succ, List.getElem_toArray, List.getElem_cons_zero, List.getElem_cons_succ]
        refine wpAnyJ_one (i := 16) rfl rfl (by kernel_rfl) (fun K hK => ?_)
        go_simp
        refine hK.out _ _ ⟨⟨hb5.all.1, (BK.rangeL hs5)⟩, fun _ => hu5.all.1⟩ ?_
        clear hK K
        simp only [Act.put, List.setIfInBounds_toArray, List.set_cons_zero, List.set_cons_succ, List.getElem_toArray, List.getElem_cons_zero, List.getElem_cons_succ]
        refine wpAnyJ_one (i := 17) rfl rfl (by kernel_rfl) (fun K hK => ?_)
        go_simp
        refine hK.out _ _ ⟨⟨(hb5.set (by simp; omega) _).all.1, (BK.rangeL (hs5.set (by simp; omega) _))⟩, fun hj => by omega⟩ ?_
        clear hK K
        refine wpAnyJ_done (by kernel_rfl) ?_ _
        have HX4 : Hid (Ex [] w3 w4) := ((Ex.refl _ _).drew).trans hx4
        have HU5 := hide hu5
        have HO5 := hide hown5
        have HX5 := hide hgrow5
        have hz4 : w3.heap.size ≤ w4.heap.size := hx4.size
        have HG5 := hide (BK.grown (((HG3.out.drew).ex hx4 (by simp)).alloc _) hgrow5 (fun e => by have := own_block HN3.out _ e; omega))
        have HS5 := hide hs5
        have hob := own_block hown5 g0 rfl
        clear hx4 hu4 hb4 hs4 hu5 hb5 hs5 hcu5 hfu5 hown5 hgrow5 hcu3 hfu3 hcb3 hfb3 hcs3 hs90 h90
        go_wp2_with fail
        go_roundg g
        case measure => omega
        case rel =>
          have hz3 := HX3.out.size
          have hz0' := HX1.out.size
          refine ⟨i + 1, _, ts' ++ [⟨k, [y0, y1, y2, y3, y4, y5, y6, y7, y8, y9]⟩], rc'.set k pl, by omega, by simp, ?_, by simp; omega, by simpa using hrl, BK.self HU5.out 1 _, ?_, HG5.out.set (by simp; omega) _, HS5.out.set (by simp; omega) _, ?_, ?_⟩
          · have h1 := HFM.out
            rw [HST.out, HC0.out, if_neg (by intro e; exact hcp (Option.some.inj e)), HYY.out] at h1
            exact h1
          · rw [thL_snoc]
            have h2 := own_set HO5.out (a := ⟨u, 1, none⟩) hbu (.slice (some ⟨g0, 0, none⟩) (ts'.length + 1) cap)
            simpa using h2
          · refine Ex.setCell ?_ (Or.inl (by simp)) _
            have e1 : Ex (u :: gr :: nowV.ownBlock.toList) w w4 := HX1.out.trans ((HX3.out.drop (by simp)).trans (HX4.out.drop (by simp)))
            refine Ex.grown (e1.alloc _) HX5.out (fun j hj => ?_)
            rcases HOR.out with h | ⟨gg, h1, h2⟩
            · rw [h] at hj; exact Or.inl (by simp [hj])
            · rw [h1] at hj; cases hj; exact Or.inr (by omega)
          · rcases hat5 with h | h
            · rcases HOR.out with h' | ⟨gg, h1, h2⟩
              · exact Or.inl (by rw [← h']; rw [h]; rfl)
              · exact Or.inr ⟨gg, by rw [← h1]; rw [h]; rfl, h2⟩
            · exact Or.inr ⟨g0, rfl, by rw [h]; simp; omega⟩
end Go.Proofs.YtmeffeigamaipaaDoor.G
