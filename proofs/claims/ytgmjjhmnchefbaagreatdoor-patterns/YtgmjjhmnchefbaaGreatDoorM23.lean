/- R3 R4, one behind the other. -/
import Derived.Test.YtgmjjhmnchefbaaGreatDoorM22
set_option linter.unusedVariables false
set_option linter.unusedSimpArgs false
/- The contract of follow, whatever the ways. -/
namespace Go.Proofs.YtgmjjhmnchefbaaGreatDoor.G
open Go.RowKit

theorem infoThread : (Tryz.prog.info? 153).map (fun i => (i.zero, i.size, i.bytes)) = some (some (.agg #[.int .i64 0, .int .i64 0, .int .i64 0, .int .i64 0, .int .i64 0, .int .i64 0, .int .i64 0, .int .i64 0, .int .i64 0, .int .i64 0, .int .i64 0]), 11, 88) := by kernel_rfl
structure Way where
  to : Nat
  bits : Int
structure Th where
  pc : Nat
  sl : List Int
def wayL (ws : List Way) : List Value := ws.flatMap fun x => [.int .i64 x.to, .int .u64 x.bits]
def thC (t : Th) : List Value := .int .i64 t.pc :: ints t.sl
def thL (ts : List Th) : List Value := ts.flatMap thC
theorem thL_snoc (ts : List Th) (t : Th) : thL (ts ++ [t]) = thL ts ++ thC t := by simp [thL]
theorem wayL_at (ws : List Way) (i : Nat) (hi : i < ws.length) : (wayL ws)[i * 2]? = some (.int .i64 ws[i].to) ∧ (wayL ws)[i * 2 + 1]? = some (.int .u64 ws[i].bits) := by
  induction ws generalizing i with
  | nil => simp at hi
  | cons x ws ih =>
    have h1 : wayL (x :: ws) = [.int .i64 x.to, .int .u64 x.bits] ++ wayL ws := rfl
    rw [h1]
    cases i with
    | zero => exact ⟨rfl, rfl⟩
    | succ i =>
      rw [List.getElem?_append_right (by simp; omega), List.getElem?_append_right (by simp; omega)]
      have h2 := ih i (by simpa using hi)
      simp only [List.length_cons, List.length_nil, List.getElem_cons_succ]
      rw [show (i + 1) * 2 - (0 + 1 + 1) = i * 2 by omega, show (i + 1) * 2 + 1 - (0 + 1 + 1) = i * 2 + 1 by omega]
      exact h2

def followM (sl : List Int) (pl : Int) : List Way → List Th × List Int → List Th × List Int
  | [], s => s
  | x :: ws, s => if s.2[x.to]? = some pl then followM sl pl ws s else followM sl pl ws (s.1 ++ [⟨x.to, markM x.bits pl sl⟩], s.2.set x.to pl)

set_option maxHeartbeats 4000000 in
set_option maxRecDepth 100000 in
theorem follow_any (u gr gw cw n base : Nat) (pa : Option Addr) (pl : Int) (pv nowV nextV : Value) (w : World) (rc : List Int) (ts : List Th) (ws : List Way) (sl : List Int) (hsl : sl.length = 10)
    (hnow : w.ownsRow base 153 11 nowV ts.length (thL ts))
    (hu : BK w u (.cells #[pv, nowV, nextV, .slice (some ⟨gr, 0, none⟩) n n] 148 (0, 0))) (hgr : BK w gr (.cells (ints rc).toArray 3 (0, 0))) (hrc : rc.length = n) (hn : n ≤ 100000) (hts : ts.length + ws.length ≤ 500000)
    (hws : ∀ x ∈ ws, x.to < n) (hbu : u < base) (hbg : gr < base) (hug : u ≠ gr) (hbw : base ≤ w.heap.size)
    (hpa : ws ≠ [] → pa = some ⟨gw, 0, none⟩) (hwc : ∀ j, j < ws.length * 2 → w.cell? ⟨gw, j, none⟩ = (wayL ws)[j]?) (hgw : gw < base) (hgu : gw ≠ u) (hgg : gw ≠ gr) :
    Calls Tryz.prog 27 #[.pointer (some ⟨u, 0, none⟩), .slice pa ws.length cw, .agg (ints sl).toArray, .int .i64 pl] w fun e w' => e = .returned (.tuple #[]) ∧
      ∃ nowV', BK w' u (.cells #[pv, nowV', nextV, .slice (some ⟨gr, 0, none⟩) n n] 148 (0, 0)) ∧ w'.ownsRow base 153 11 nowV' (followM sl pl ws (ts, rc)).1.length (thL (followM sl pl ws (ts, rc)).1) ∧ BK w' gr (.cells (ints (followM sl pl ws (ts, rc)).2).toArray 3 (0, 0)) ∧
        Ex (u :: gr :: nowV.ownBlock.toList) w w' ∧ (nowV'.ownBlock = nowV.ownBlock ∨ ∃ g, nowV'.ownBlock = some g ∧ w.heap.size ≤ g) := by
  obtain ⟨t0, hi, hz0, hz1, hz2⟩ := info_parts infoThread
  have HN := hide hnow
  have HU := hide hu
  have HG := hide hgr
  have HWS := hide hws
  have HPA := hide hpa
  have HWC := hide hwc
  have hul := hu.lt
  have hgl := hgr.lt
  obtain ⟨res, hres⟩ : ∃ res, followM sl pl ws (ts, rc) = res := ⟨_, rfl⟩
  have HRES := hide hres
  rw [hres]
  have hnb : ∀ b, nowV.ownBlock = some b → b < w.heap.size := fun b e => (hnow.lt b e).2
  have HNB := hide hnb
  clear hnow hu hgr hws hpa hwc hres hnb
  go_enter Tryz.func27, Tryz.ntmps27
  go_wp2_with fail
  go_loopg [12] ws.length (fun gk i12 wr => ∃ (i : Nat) (nowV' : Value) (ts' : List Th) (rc' : List Int), i + gk = ws.length ∧ i12 = .int .i64 i ∧ followM sl pl (ws.drop i) (ts', rc') = res ∧ ts'.length ≤ ts.length + i ∧ rc'.length = n ∧
    BK wr u (.cells #[pv, nowV', nextV, .slice (some ⟨gr, 0, none⟩) n n] 148 (0, 0)) ∧ wr.ownsRow base 153 11 nowV' ts'.length (thL ts') ∧ BK wr gr (.cells (ints rc').toArray 3 (0, 0)) ∧
    BK wr w.heap.size (.cells (ints sl).toArray 95 (0, 0)) ∧ Ex (u :: gr :: nowV.ownBlock.toList) w wr ∧ (nowV'.ownBlock = nowV.ownBlock ∨ ∃ g, nowV'.ownBlock = some g ∧ w.heap.size < g))
  case atStart =>
    exact ⟨0, nowV, ts, rc, by omega, rfl, HRES.out, by omega, hrc, HU.out.alloc _, HN.out.alloc _, HG.out.alloc _, BK.new _ _, (Ex.refl _ _).alloc _, Or.inl rfl⟩
  case round =>
    obtain ⟨i, nowV', ts', rc', hgi, rfl, hfm, htl, hrl, hu1, hn1, hg1, hs1, hx1, hor⟩ := hrel
    have HFM := hide hfm
    have HU1 := hide hu1
    have HN1 := hide hn1
    have HG1 := hide hg1
    have HS1 := hide hs1
    have HX1 := hide hx1
    have HOR := hide hor
    have hsl1 := hs1.lt
    have hul1 := hu1.lt
    have hgl1 := hg1.lt
    clear hfm hu1 hn1 hg1 hs1 hx1 hor
    cases gk with
    | zero =>
      obtain rfl : i = ws.length := by omega
      have hfm := HFM.out
      rw [List.drop_length] at hfm
      have hr1 : res.1 = ts' := by rw [← hfm]; rfl
      have hr2 : res.2 = rc' := by rw [← hfm]; rfl
      have HR1 := hide hr1
      have HR2 := hide hr2
      clear hfm hr1 hr2
      go_wp2_with fail
      go_end0
      refine ⟨rfl, nowV', HU1.out, by rw [HR1.out]; exact HN1.out, by rw [HR2.out]; exact HG1.out, HX1.out, ?_⟩
      rcases HOR.out with h | ⟨g, h1, h2⟩
      · exact Or.inl h
      · exact Or.inr ⟨g, h1, by omega⟩
    | succ g =>
      have hi1 : i < ws.length := by omega
      have hi1' : (i : Int) < (ws.length : Int) := by omega
      obtain ⟨k, bt, hwx⟩ : ∃ k bt, ws[i] = ⟨k, bt⟩ := ⟨_, _, rfl⟩
      have hk : k < n := by have h := HWS.out ws[i] (List.getElem_mem hi1); rw [hwx] at h; exact h
      have hk' : (k : Int) < (n : Int) := by omega
      have hpa := HPA.out (by intro e; rw [e] at hi1; simp at hi1)
      subst hpa
      have hgn : gw ∉ (u :: gr :: nowV.ownBlock.toList) := fun hm => by
        simp only [List.mem_cons, Option.mem_toList] at hm
        rcases hm with h | h | h
        · exact hgu h
        · exact hgg h
        · have := own_block HN.out gw h; omega
      have hw0 : wr.cell? ⟨gw, i * 2, none⟩ = some (.int .i64 k) := by
        rw [HX1.out.cell.1 gw _ (by omega) hgn, HWC.out _ (by omega), (wayL_at ws i hi1).1, hwx]
      have hw1 : wr.cell? ⟨gw, i * 2 + 1, none⟩ = some (.int .u64 bt) := by
        rw [HX1.out.cell.1 gw _ (by omega) hgn, HWC.out _ (by omega), (wayL_at ws i hi1).2, hwx]
      have hstep : followM sl pl (ws.drop i) (ts', rc') = if rc'[k]? = some pl then followM sl pl (ws.drop (i + 1)) (ts', rc') else followM sl pl (ws.drop (i + 1)) (ts' ++ [⟨k, markM bt pl sl⟩], rc'.set k pl) := by
        rw [List.drop_eq_getElem_cons hi1, hwx]; rfl
      have HST := hide hstep
      have hgw1 : gw < wr.heap.size := by have := HX1.out.size; omega
      clear hstep hgn
      obtain ⟨p, c, hnv⟩ := own_slice HN1.out
      subst hnv
      obtain ⟨hcu, hfu⟩ := HU1.out.all
      obtain ⟨hcg, hfg⟩ := HG1.out.all
      obtain ⟨c0, hc0⟩ : ∃ c0, rc'[k]? = some c0 := ⟨rc'[k], List.getElem?_eq_getElem (by omega)⟩
      have kg : wr.cell? ⟨gr, k, none⟩ = some (.int .i64 c0) := by rw [hcg, List.getElem?_toArray, ints_at, hc0]; rfl
      have kf := hfg k
      have HC0 := hide hc0
      clear hcg hfg hc0
      by_cases hcp : c0 = pl
      · have hne : (c0 == pl) = true := by rw [hcp]; simp
        go_wp2_with fail
        go_quiet (fail)
        go_wp2_with fail
        go_roundg g
        case measure => omega
        case rel =>
          refine ⟨i + 1, _, ts', rc', by omega, by simp, ?_, by omega, hrl, (HU1.out.alloc _).drewN _, own_drewN (HN1.out.alloc _) _, (HG1.out.alloc _).drewN _, (HS1.out.alloc _).drewN _, (HX1.out.alloc _).drewN _, HOR.out⟩
          have h1 := HFM.out
          rw [HST.out, HC0.out, if_pos (by rw [hcp])] at h1
          exact h1
      · have hne : (c0 == pl) = false := by rw [beq_eq_false_iff_ne]; exact hcp
        go_wp2_with fail
        go_quiet (fail)
        go_wp2_with fail
        go_region
        generalize hw3 : World.setCell _ (⟨gr, k, none⟩ : Addr) _ = w3
        have hx3 : Ex [gr] wr w3 := by
          rw [← hw3]; exact (((Ex.refl _ _).alloc _).drewN _).setCell (Or.inl (by simp)) _
        have hu3 := HU1.out.ex hx3 (by simpa using hug)
        have hg3 : BK w3 gr (.cells (ints (rc'.set k pl)).toArray 3 (0, 0)) := by
          rw [← hw3, ← ints_set]; exact BK.selfL ((HG1.out.alloc _).drewN _) k _
        have hs3 : BK w3 w.heap.size (.cells (ints sl).toArray 95 (0, 0)) := HS1.out.ex hx3 (by simp; omega)
        have hb3 : BK w3 wr.heap.size (.cells #[.int .i64 k, .int .u64 bt] 150 (0, 0)) := by
          rw [← hw3]; exact ((BK.new _ _).drewN _).set (by simp; omega) _
        have hn3 := own_ex HN1.out hx3 (by simp; omega)
        clear hw3 hcu hfu kg kf hw0 hw1
        have HX3 := hide hx3
        have HU3 := hide hu3
        have HG3 := hide hg3
        have HS3 := hide hs3
        have HB3 := hide hb3
        have HN3 := hide hn3
        have hul3 := hu3.lt
        have hsl3 := hs3.lt
        have hbl3 := hb3.lt
        have hgl3 := hg3.lt
        obtain ⟨hcu3, hfu3⟩ := hu3.all
        have hcs3 := BK.rangeL hs3
        obtain ⟨hcb3, hfb3⟩ := hb3.all
        have h90 := Tryz.underlying95
        have HF1 : Hid ((Value.slice p ts'.length c).ownBlock = some wr.heap.size → False) := fun e => by have := (HN1.out.lt _ e).2; omega
        have HF0 : Hid ((Value.slice p ts'.length c).ownBlock = some w.heap.size → False) := fun e => by
          rcases HOR.out with h | ⟨g, h1, h2⟩
          · rw [h] at e; have := HNB.out _ e; omega
          · rw [e] at h1; cases h1; omega
        have hs90 := size90' sl hsl
        obtain ⟨y0, y1, y2, y3, y4, y5, y6, y7, y8, y9, hyy⟩ := ten (sl := markM bt pl sl) (by unfold markM; rw [markN_len, hsl])
        have KM := hide (fun w => marked_any bt pl sl hsl w)
        rw [hyy, ints_ten] at KM
        have HYY := hide hyy
        clear hx3 hu3 hg3 hs3 hb3 hn3 hyy
        go_wp2_with fail
        refine wp_region_J (by kernel_rfl) ?_
        refine wpAny_take (i := 0) (v := ?_) rfl (by kernel_rfl) (by kernel_rfl) (by kernel_rfl) (fun _ _ _ h => h) (Or.inl ⟨by rfl, ?_⟩) ?_
        rotate_left
        · intro w'
          go_simp
          try with_reducible rfl
        simp only [Act.put, List.setIfInBounds_toArray, List.set_cons_zero, List.set_cons_succ, List.getElem_toArray, List.getElem_cons_zero, List.getElem_cons_succ, List.replicate, Array.replicate, List.size_toArray, List.length_cons, List.length_nil]
        refine wpAny_take (i := 1) (v := ?_) rfl (by kernel_rfl) (by kernel_rfl) (by kernel_rfl) (fun _ _ _ h => h) (Or.inl ⟨by rfl, ?_⟩) ?_
        rotate_left
        · intro w'
          go_simp
          try with_reducible rfl
        simp only [Act.put, List.setIfInBounds_toArray, List.set_cons_zero, List.set_cons_succ, List.getElem_toArray, List.getElem_cons_zero, List.getElem_cons_succ, List.replicate, Array.replicate, List.size_toArray, List.length_cons, List.length_nil]
        refine wpAny_take (i := 2) (v := ?_) rfl (by kernel_rfl) (by kernel_rfl) (by kernel_rfl) (fun _ _ _ h => h) (Or.inl ⟨by rfl, ?_⟩) ?_
        rotate_left
        · intro w'
          go_simp
          try with_reducible rfl
        simp only [Act.put, List.setIfInBounds_toArray, List.set_cons_zero, List.set_cons_succ, List.getElem_toArray, List.getElem_cons_zero, List.getElem_cons_succ, List.replicate, Array.replicate, List.size_toArray, List.length_cons, List.length_nil]
        refine wpAny_take (i := 3) (v := ?_) rfl (by kernel_rfl) (by kernel_rfl) (by kernel_rfl) (fun _ _ _ h => h) (Or.inl ⟨by rfl, ?_⟩) ?_
        rotate_left
        · intro w'
          go_simp
          try with_reducible rfl
        simp only [Act.put, List.setIfInBounds_toArray, List.set_cons_zero, List.set_cons_succ, List.getElem_toArray, List.getElem_cons_zero, List.getElem_cons_succ, List.replicate, Array.replicate, List.size_toArray, List.length_cons, List.length_nil]
        refine wpAny_take (i := 5) (v := ?_) rfl (by kernel_rfl) (by kernel_rfl) (by kernel_rfl) (fun _ _ _ h => h) (Or.inl ⟨by rfl, ?_⟩) ?_
        rotate_left
        · intro w'
          go_simp
          try with_reducible rfl
        simp only [Act.put, List.setIfInBounds_toArray, List.set_cons_zero, List.set_cons_succ, List.getElem_toArray, List.getElem_cons_zero, List.getElem_cons_succ, List.replicate, Array.replicate, List.size_toArray, List.length_cons, List.length_nil]
        refine wpAny_take (i := 8) (v := ?_) rfl (by kernel_rfl) (by kernel_rfl) (by kernel_rfl) (fun _ _ _ h => h) (Or.inl ⟨by rfl, ?_⟩) ?_
        rotate_left
        · intro w'
          go_simp
          try with_reducible rfl
        simp only [Act.put, List.setIfInBounds_toArray, List.set_cons_zero, List.set_cons_succ, List.getElem_toArray, List.getElem_cons_zero, List.getElem_cons_succ, List.replicate, Array.replicate, List.size_toArray, List.length_cons, List.length_nil]
        refine wpAny_take (i := 10) (v := ?_) rfl (by kernel_rfl) (by kernel_rfl) (by kernel_rfl) (fun _ _ _ h => h) (Or.inl ⟨by rfl, ?_⟩) ?_
        rotate_left
        · intro w'
          go_simp
          try with_reducible rfl
        simp only [Act.put, List.setIfInBounds_toArray, List.set_cons_zero, List.set_cons_succ, List.getElem_toArray, List.getElem_cons_zero, List.getElem_cons_succ, List.replicate, Array.replicate, List.size_toArray, List.length_cons, List.length_nil]
        refine wpAny_of_J (S := (fun j w' => ((∀ o, w'.cell? ⟨wr.heap.size, o, none⟩ = #[Value.int .i64 k, .int .u64 bt][o]?) ∧ w'.rangeAt w.heap.size 0 (ints sl)) ∧ ((j = 4 ∨ 11 ≤ j ∧ j ≤ 13) → ∀ o, w'.cell? ⟨u, o, none⟩ = #[pv, .slice p ts'.length c, nextV, .slice (some ⟨gr, 0, none⟩) n n][o]?))) _ _ _ _ ?_
        refine wpAnyJ_take (i := 6) (T := (fun w' => (∀ o, w'.cell? ⟨wr.heap.size, o, none⟩ = #[Value.int .i64 k, .int .u64 bt][o]?) ∧ w'.rangeAt w.heap.size 0 (ints sl))) (v := ?_) (fun _ => true) rfl (by kernel_rfl) (by kernel_rfl) (by kernel_rfl) (by kernel_rfl) (fun j w' _ h => h.1) (fun w' h => ⟨h, fun hj => by omega⟩) (fun _ _ _ h => h) ⟨hcb3, hcs3⟩ (Or.inl ⟨by rfl, ?_⟩) ?_
        rotate_left
        · intro w' hSw
          try obtain ⟨⟨hSb, hSs⟩, hSu⟩ := hSw
          try obtain ⟨hSb, hSs⟩ := hSw
          go_simp
          try with_reducible rfl
        simp only [Act.put, List.setIfInBounds_toArray, List.set_cons_zero, List.set_cons_succ, List.getElem_toArray, List.getElem_cons_zero, List.getElem_cons_succ, List.replicate, Array.replicate, List.size_toArray, List.length_cons, List.length_nil]
        refine wpAnyJ_take (i := 7) (T := (fun w' => (∀ o, w'.cell? ⟨wr.heap.size, o, none⟩ = #[Value.int .i64 k, .int .u64 bt][o]?) ∧ w'.rangeAt w.heap.size 0 (ints sl))) (v := _) (fun _ => true) rfl (by kernel_rfl) (by kernel_rfl) (by kernel_rfl) (by kernel_rfl) (fun j w' _ h => h.1) (fun w' h => ⟨h, fun hj => by omega⟩) (fun _ _ _ h => h) ⟨hcb3, hcs3⟩ (yieldsIf_load_mid (by rfl) _ _ rfl _ _ rfl (ints sl) _ (fun w' h => h.2) h90 rfl hs90) ?_
        simp only [Act.put, List.setIfInBounds_toArray, List.set_cons_zero, List.set_cons_succ, List.getElem_toArray, List.getElem_cons_zero, List.getElem_cons_succ, List.replicate, Array.replicate, List.size_toArray, List.length_cons, List.length_nil]
        refine wpAnyJ_take (i := 9) (T := (fun w' => (∀ o, w'.cell? ⟨wr.heap.size, o, none⟩ = #[Value.int .i64 k, .int .u64 bt][o]?) ∧ w'.rangeAt w.heap.size 0 (ints sl))) (v := ?_) (fun _ => true) rfl (by kernel_rfl) (by kernel_rfl) (by kernel_rfl) (by kernel_rfl) (fun j w' _ h => h.1) (fun w' h => ⟨h, fun hj => by omega⟩) (fun _ _ _ h => h) ⟨hcb3, hcs3⟩ (Or.inl ⟨by rfl, ?_⟩) ?_
        rotate_left
        · intro w' hSw
          try obtain ⟨⟨hSb, hSs⟩, hSu⟩ := hSw
          try obtain ⟨hSb, hSs⟩ := hSw
          go_simp
          try with_reducible rfl
        simp only [Act.put, List.setIfInBounds_toArray, List.set_cons_zero, List.set_cons_succ, List.getElem_toArray, List.getElem_cons_zero, List.getElem_cons_succ, List.replicate, Array.replicate, List.size_toArray, List.length_cons, List.length_nil]
        refine wpAnyJ_take (i := 4) (T := (fun w' => ((∀ o, w'.cell? ⟨wr.heap.size, o, none⟩ = #[Value.int .i64 k, .int .u64 bt][o]?) ∧ w'.rangeAt w.heap.size 0 (ints sl)) ∧ ∀ o, w'.cell? ⟨u, o, none⟩ = #[pv, .slice p ts'.length c, nextV, .slice (some ⟨gr, 0, none⟩) n n][o]?)) (v := ?_) (fun j => decide (j = 4) || decide (11 ≤ j) && decide (j ≤ 13)) rfl (by kernel_rfl) (by kernel_rfl) (by kernel_rfl) (by kernel_rfl) (fun j w' hf h => ⟨h.1, h.2 (by simpa using hf)⟩) (fun w' h => ⟨h.1, fun _ => h.2⟩) (fun _ _ _ h => h) ⟨⟨hcb3, hcs3⟩, hcu3⟩ (Or.inl ⟨by rfl, ?_⟩) ?_
        rotate_left
        · intro w' hSw
          try obtain ⟨⟨hSb, hSs⟩, hSu⟩ := hSw
          try obtain ⟨hSb, hSs⟩ := hSw
          go_simp
          try with_reducible rfl
        simp only [Act.put, List.setIfInBounds_toArray, List.set_cons_zero, List.set_cons_succ, List.getElem_toArray, List.getElem_cons_zero, List.getElem_cons_succ, List.replicate, Array.replicate, List.size_toArray, List.length_cons, List.length_nil]
        refine wpAnyJ_one (i := 11) rfl rfl (by kernel_rfl) (fun K hK => ?_)
        go_simp
        refine (KM.out _).mono ?_
        rintro e w4 ⟨rfl, hx4⟩
        have hu4 := HU3.out.drew.ex hx4 (by simp)
        have hb4 := HB3.out.drew.ex hx4 (by simp)
        have hs4 := HS3.out.drew.ex hx4 (by simp)
        go_wp2_with fail
        refine hK.out _ _ ⟨⟨hb4.all.1, (BK.rangeL hs4)⟩, fun _ => hu4.all.1⟩ ?_
        clear hK K
        simp only [Act.put, List.setIfInBounds_toArray, List.set_cons_zero, List.set_cons_succ, List.getElem_toArray, List.getElem_cons_zero, List.getElem_cons_succ]
        refine wpAnyJ_one (i := 12) rfl rfl (by kernel_rfl) (fun K hK => ?_)
        go_simp
        refine hK.out _ _ ⟨⟨hb4.all.1, (BK.rangeL hs4)⟩, fun _ => hu4.all.1⟩ ?_
        clear hK K
        simp only [Act.put, List.setIfInBounds_toArray, List.set_cons_zero, List.set_cons_succ, List.getElem_toArray, List.getElem_cons_zero, List.getElem_cons_succ]
        refine wpAnyJ_one (i := 13) rfl rfl (by kernel_rfl) (fun K hK => ?_)
        go_simp
        refine hK.out _ _ ⟨⟨(hb4.alloc _).all.1, (BK.rangeL (hs4.alloc _))⟩, fun _ => (hu4.alloc _).all.1⟩ ?_
        clear hK K
        simp only [Act.put, List.setIfInBounds_toArray, List.set_cons_zero, List.set_cons_succ, List.getElem_toArray, List.getElem_cons_zero, List.getElem_cons_succ]
        refine wpAnyJ_one (i := 14) rfl rfl (by kernel_rfl) (fun K hK => ?_)
        refine wp_append_lies _ (.tmp 38) (.tmp 47) 146 rfl base 153 t0 _ 11 88 Tryz.underlying146 hi hz0 hz1 hz2 rfl (by decide) (.slice p ts'.length c) ts'.length (thL ts') rfl ((own_ex (own_drewN HN3.out 1) hx4 (by simp)).alloc _) ⟨w4.heap.size, 0, none⟩ 1 1 (thC ⟨k, [y0, y1, y2, y3, y4, y5, y6, y7, y8, y9]⟩) rfl rfl (cells_new _ _ _) (by simp [thC, ints, Value.oneCell']) (by decide) (by unfold maxLen; omega) (by omega) (by have h1 : w3.heap.size ≤ w4.heap.size := hx4.size; simp; omega) _ rfl ?_
        intro g0 cap w5 hown5 hgrow5 hat5 hlt5
        have hu5 := BK.grown (hu4.alloc _) hgrow5 (fun e => by have := own_block HN3.out _ e; omega)
        have hb5 := BK.grown (hb4.alloc _) hgrow5 (fun e => HF1.out e)
        have hs5 := BK.grown (hs4.alloc _) hgrow5 (fun e => HF0.out e)
        refine hK.out _ _ ⟨⟨hb5.all.1, (BK.rangeL hs5)⟩, fun _ => hu5.all.1⟩ ?_
        clear hK K
        simp only [Act.put, List.setIfInBounds_toArray, List.set_cons_zero, List.set_cons_succ, List.getElem_toArray, List.getElem_cons_zero, List.getElem_cons_succ]
        obtain ⟨hcu5, hfu5⟩ := hu5.all
        refine wpAnyJ_one (i := 15) rfl rfl (by kernel_rfl) (fun K hK => ?_)
        go_simp
        refine hK.out _ _ ⟨⟨hb5.all.1, (BK.rangeL hs5)⟩, fun _ => hu5.all.1⟩ ?_
        clear hK K
        simp only [Act.put, List.setIfInBounds_toArray, List.set_cons_zero, List.set_cons_succ, List.getElem_toArray, List.getElem_cons_zero, List.getElem_cons_succ]
        refine wpAnyJ_one (i := 16) rfl rfl (by kernel_rfl) (fun K hK => ?_)
        go_simp
        refine hK.out _ _ ⟨⟨hb5.all.1, (BK.rangeL hs5)⟩, fun _ => hu5.all.1⟩ ?_
        clear hK K
        simp only [Act.put, List.setIfInBounds_toArray, List.set_cons_zero, List.set_cons_succ, List.getElem_toArray, List.getElem_cons_zero, List.getElem_cons_succ]
        refine wpAnyJ_one (i := 17) rfl rfl (by kernel_rfl) (fun K hK => ?_)
        go_simp
        refine hK.out _ _ ⟨⟨(hb5.set (by simp; omega) _).all.1, (BK.rangeL (hs5.set (by simp; omega) _))⟩, fun hj => by omega⟩ ?_
        clear hK K
        refine wpAnyJ_done (by kernel_rfl) ?_ _
        have HX4 : Hid (Ex [] w3 w4) := ((Ex.refl _ _).drew).trans hx4
        have HU5 := hide hu5
        have HO5 := hide hown5
        have HX5 := hide hgrow5
        have hz4 : w3.heap.size ≤ w4.heap.size := hx4.size
        have HG5 := hide (BK.grown (((HG3.out.drew).ex hx4 (by simp)).alloc _) hgrow5 (fun e => by have := own_block HN3.out _ e; omega))
        have HS5 := hide hs5
        have hob := own_block hown5 g0 rfl
        clear hx4 hu4 hb4 hs4 hu5 hb5 hs5 hcu5 hfu5 hown5 hgrow5 hcu3 hfu3 hcb3 hfb3 hcs3 hs90 h90
        go_wp2_with fail
        go_roundg g
        case measure => omega
        case rel =>
          have hz3 := HX3.out.size
          have hz0' := HX1.out.size
          refine ⟨i + 1, _, ts' ++ [⟨k, [y0, y1, y2, y3, y4, y5, y6, y7, y8, y9]⟩], rc'.set k pl, by omega, by simp, ?_, by simp; omega, by simpa using hrl, BK.self HU5.out 1 _, ?_, HG5.out.set (by simp; omega) _, HS5.out.set (by simp; omega) _, ?_, ?_⟩
          · have h1 := HFM.out
            rw [HST.out, HC0.out, if_neg (by intro e; exact hcp (Option.some.inj e)), HYY.out] at h1
            exact h1
          · rw [thL_snoc]
            have h2 := own_set HO5.out (a := ⟨u, 1, none⟩) hbu (.slice (some ⟨g0, 0, none⟩) (ts'.length + 1) cap)
            simpa using h2
          · refine Ex.setCell ?_ (Or.inl (by simp)) _
            have e1 : Ex (u :: gr :: nowV.ownBlock.toList) w w4 := HX1.out.trans ((HX3.out.drop (by simp)).trans (HX4.out.drop (by simp)))
            refine Ex.grown (e1.alloc _) HX5.out (fun j hj => ?_)
            rcases HOR.out with h | ⟨gg, h1, h2⟩
            · rw [h] at hj; exact Or.inl (by simp [hj])
            · rw [h1] at hj; cases hj; exact Or.inr (by omega)
          · rcases hat5 with h | h
            · rcases HOR.out with h' | ⟨gg, h1, h2⟩
              · exact Or.inl (by rw [← h']; rw [h]; rfl)
              · exact Or.inr ⟨gg, by rw [← h1]; rw [h]; rfl, h2⟩
            · exact Or.inr ⟨g0, rfl, by rw [h]; simp; omega⟩
end Go.Proofs.YtgmjjhmnchefbaaGreatDoor.G

/- A run: whether a thread accepts. -/
namespace Go.Proofs.YtgmjjhmnchefbaaGreatDoor.G
open Go.RowKit

def acceptM (code : List Ins) : List Th → Option (List Int)
  | [] => none
  | t :: ts => if (code[t.pc]?).map (·.op) = some 6 then some t.sl else acceptM code ts
theorem thL_at (ts : List Th) (j o : Nat) (hj : j < ts.length) (hl : ∀ t ∈ ts, t.sl.length = 10) (ho : o < 11) : (thL ts)[j * 11 + o]? = (thC ts[j])[o]? := by
  induction ts generalizing j with
  | nil => simp at hj
  | cons t ts ih =>
    have h1 : thL (t :: ts) = thC t ++ thL ts := rfl
    have h2 : (thC t).length = 11 := by simp [thC, ints_len, hl t (List.mem_cons_self ..)]
    rw [h1]
    cases j with
    | zero => rw [List.getElem?_append_left (by omega)]; simp
    | succ j =>
      rw [List.getElem?_append_right (by omega), h2, show (j + 1) * 11 + o - 11 = j * 11 + o by omega]
      simpa using ih j (by simpa using hj) (fun x hx => hl x (List.mem_cons_of_mem _ hx))
theorem thL_len (ts : List Th) (hl : ∀ t ∈ ts, t.sl.length = 10) : (thL ts).length = ts.length * 11 := by
  induction ts with
  | nil => rfl
  | cons t ts ih =>
    have h1 : thL (t :: ts) = thC t ++ thL ts := rfl
    have h2 : (thC t).length = 11 := by simp [thC, ints_len, hl t (List.mem_cons_self ..)]
    rw [h1, List.length_append, h2, ih (fun x hx => hl x (List.mem_cons_of_mem _ hx)), List.length_cons]
    omega
def tenZ : Value := .agg #[.int .i64 0, .int .i64 0, .int .i64 0, .int .i64 0, .int .i64 0, .int .i64 0, .int .i64 0, .int .i64 0, .int .i64 0, .int .i64 0]

def accV : Option (List Int) → Value
  | some sl => .tuple #[.agg (ints sl).toArray, .bool true]
  | none => .tuple #[tenZ, .bool false]
theorem own_threads {w : World} {base : Nat} {p0 : Option Addr} {c0 : Nat} {ts : List Th} (h : w.ownsRow base 153 11 (.slice p0 ts.length c0) ts.length (thL ts)) (hpos : 0 < ts.length) :
    ∃ ng, p0 = some ⟨ng, 0, none⟩ ∧ base ≤ ng ∧ ng < w.heap.size ∧ ts.length ≤ c0 ∧ w.rangeAt ng 0 (thL ts) := by
  rcases h.2 with ⟨_, hn⟩ | ⟨g, cap, cur, hv, hb, hgg, hnc, hcm, hcs, htake⟩
  · omega
  · cases hv
    refine ⟨g, rfl, hb, BK.lt hgg, hnc, fun o v hv => ?_⟩
    rw [Nat.zero_add, (BK.all hgg).1, ← Array.getElem?_toList]
    rw [← htake, List.getElem?_take] at hv
    split at hv
    · exact hv
    · cases hv
theorem thread_cells {w : World} {ng : Nat} {ts : List Th} (h : w.rangeAt ng 0 (thL ts)) (hl : ∀ t ∈ ts, t.sl.length = 10) (j : Nat) (hj : j < ts.length) :
    ∃ y0 y1 y2 y3 y4 y5 y6 y7 y8 y9, ts[j].sl = [y0, y1, y2, y3, y4, y5, y6, y7, y8, y9] ∧ ∀ o, o < 11 → w.cell? ⟨ng, j * 11 + o, none⟩ = [Value.int .i64 ts[j].pc, .int .i64 y0, .int .i64 y1, .int .i64 y2, .int .i64 y3, .int .i64 y4, .int .i64 y5, .int .i64 y6, .int .i64 y7, .int .i64 y8, .int .i64 y9][o]? := by
  obtain ⟨y0, y1, y2, y3, y4, y5, y6, y7, y8, y9, hy⟩ := ten (hl _ (List.getElem_mem hj))
  refine ⟨y0, y1, y2, y3, y4, y5, y6, y7, y8, y9, hy, fun o ho => ?_⟩
  have h1 := thL_at ts j o hj hl ho
  have h2 : thC ts[j] = [Value.int .i64 ts[j].pc, .int .i64 y0, .int .i64 y1, .int .i64 y2, .int .i64 y3, .int .i64 y4, .int .i64 y5, .int .i64 y6, .int .i64 y7, .int .i64 y8, .int .i64 y9] := by rw [thC, hy]; rfl
  rw [h2] at h1
  rw [← h1]
  have h3 : j * 11 + o < (thL ts).length := by rw [thL_len ts hl]; omega
  rw [List.getElem?_eq_getElem h3]
  have h4 := h (j * 11 + o) _ (List.getElem?_eq_getElem h3)
  simpa using h4

set_option maxHeartbeats 4000000 in
set_option maxRecDepth 100000 in
theorem accepted_any (code : List Ins) (u q cg cc base : Nat) (p0 : Option Addr) (c0 : Nat) (v1 v2 v3 v4 v5 v6 : Value) (ts : List Th) (w : World)
    (hu : BK w u (.cells #[.pointer (some ⟨q, 0, none⟩), .slice p0 ts.length c0, v1, v2] 148 (0, 0))) (hq : BK w q (.cells #[.slice (some ⟨cg, 0, none⟩) code.length cc, v3, v4, v5, v6] 90 (0, 0)))
    (hcg : cg < w.heap.size) (hcap : code.length ≤ cc) (hr : w.rangeAt cg 0 (codeL code)) (hnow : w.ownsRow base 153 11 (.slice p0 ts.length c0) ts.length (thL ts)) (hts : ts.length ≤ 100000)
    (hl : ∀ t ∈ ts, t.sl.length = 10) (hpc : ∀ t ∈ ts, t.pc < code.length) :
    Calls Tryz.prog 31 #[.pointer (some ⟨u, 0, none⟩)] w fun e w' => e = .returned (accV (acceptM code ts)) ∧ Ex [] w w' := by
  have HU := hide hu
  have HQ := hide hq
  have HR := hide hr
  have HN := hide hnow
  have HL := hide hl
  have HPC := hide hpc
  have hul := hu.lt
  have hql := hq.lt
  obtain ⟨hcu, hfu⟩ := hu.all
  obtain ⟨n, hn⟩ : ∃ n, n = ts.length := ⟨_, rfl⟩
  obtain ⟨cn, hcn⟩ : ∃ cn, cn = code.length := ⟨_, rfl⟩
  have HNN := hide hn
  have HCN := hide hcn
  rw [← hn] at hcu hts HU
  rw [← hcn] at hcap HQ
  obtain ⟨res, hres⟩ : ∃ res, res = acceptM code ts := ⟨_, rfl⟩
  rw [← hres]
  have HRES := hide hres
  clear hu hq hr hnow hl hpc hn hcn hres
  go_enter Tryz.func31, Tryz.ntmps31
  go_wp2_with fail
  go_loopg [11] n (fun gk i wr => ∃ j : Nat, j + gk = n ∧ i = .int .i64 j ∧ acceptM code (ts.drop j) = res ∧ BK wr w.heap.size (.cells #[.int .i64 0, .int .i64 0, .int .i64 0, .int .i64 0, .int .i64 0, .int .i64 0, .int .i64 0, .int .i64 0, .int .i64 0, .int .i64 0] 95 (0, 0)) ∧ Ex [] w wr)
  case atStart => exact ⟨0, by omega, rfl, by rw [List.drop_zero]; exact HRES.out.symm, BK.new _ _, (Ex.refl _ _).alloc _⟩
  case round =>
    obtain ⟨j, hj, rfl, hacc, hz, hx⟩ := hrel
    have HX := hide hx
    have HZ := hide hz
    have HACC := hide hacc
    obtain ⟨hcz, hfz⟩ := hz.all
    have hzl := hz.lt
    cases gk with
    | zero =>
      obtain rfl : j = n := by omega
      have hr0 : res = none := by rw [← hacc, HNN.out, List.drop_length]; rfl
      subst hr0
      clear hx hz hacc hj
      go_wp2_with fail
      refine bodyPost_ret (v := .tuple #[tenZ, .bool false]) (by simp [results, Tryz.results31, go_sem, tenZ, hcz]) rfl ⟨rfl, ?_⟩
      repeat (refine Ex.setCell ?_ (Or.inr (by simp)) _)
      exact HX.out
    | succ g =>
      have hj' : j < ts.length := by rw [← HNN.out]; omega
      have hjn : (j : Int) < (n : Int) := by omega
      obtain ⟨ng, rfl, hngb, hngl, hngc, hrg⟩ := own_threads HN.out (by omega)
      obtain ⟨y0, y1, y2, y3, y4, y5, y6, y7, y8, y9, hy, hcl⟩ := thread_cells hrg HL.out j hj'
      have hpc := HPC.out _ (List.getElem_mem hj')
      obtain ⟨k, hk⟩ : ∃ k, k = (ts[j]'hj').pc := ⟨_, rfl⟩
      rw [← hk] at hcl hpc
      obtain ⟨ci, hci⟩ : ∃ ci, code[k]? = some ci := ⟨_, List.getElem?_eq_getElem hpc⟩
      have hc0 : w.cell? ⟨cg, k * 7, none⟩ = some (.int .i64 ci.op) := by
        have h1 := codeL_at code k 0 ci hci (by omega)
        have h2 := HR.out (k * 7) (.int .i64 ci.op) (by rw [Nat.add_zero] at h1; rw [h1]; rfl)
        simpa using h2
      obtain ⟨cell0, hcell0⟩ : ∃ x, x = hc0 := ⟨_, rfl⟩
      have hstep : acceptM code (ts.drop j) = if ci.op = 6 then some (ts[j]'hj').sl else acceptM code (ts.drop (j + 1)) := by
        rw [List.drop_eq_getElem_cons hj', acceptM, ← hk, hci]
        simp
      have HST := hide hstep
      have HY := hide hy
      have hkn : (k : Int) < (cn : Int) := by rw [HCN.out]; omega
      have c0r : wr.cell? ⟨cg, k * 7, none⟩ = some (.int .i64 ci.op) := (hx.cell0.1 cg (k * 7) hcg).trans hc0
      have hcr : ∀ o, o < 11 → wr.cell? ⟨ng, j * 11 + o, none⟩ = [Value.int .i64 k, .int .i64 y0, .int .i64 y1, .int .i64 y2, .int .i64 y3, .int .i64 y4, .int .i64 y5, .int .i64 y6, .int .i64 y7, .int .i64 y8, .int .i64 y9][o]? := fun o ho => (hx.cell0.1 ng _ hngl).trans (hcl o ho)
      have j0 : wr.cell? ⟨ng, j * 11, none⟩ = some (.int .i64 (k : Int)) := hcr 0 (by omega)
      have j1 : wr.cell? ⟨ng, j * 11 + 1, none⟩ = some (.int .i64 y0) := hcr 1 (by omega)
      have j2 : wr.cell? ⟨ng, j * 11 + 2, none⟩ = some (.int .i64 y1) := hcr 2 (by omega)
      have j3 : wr.cell? ⟨ng, j * 11 + 3, none⟩ = some (.int .i64 y2) := hcr 3 (by omega)
      have j4 : wr.cell? ⟨ng, j * 11 + 4, none⟩ = some (.int .i64 y3) := hcr 4 (by omega)
      have j5 : wr.cell? ⟨ng, j * 11 + 5, none⟩ = some (.int .i64 y4) := hcr 5 (by omega)
      have j6 : wr.cell? ⟨ng, j * 11 + 6, none⟩ = some (.int .i64 y5) := hcr 6 (by omega)
      have j7 : wr.cell? ⟨ng, j * 11 + 7, none⟩ = some (.int .i64 y6) := hcr 7 (by omega)
      have j8 : wr.cell? ⟨ng, j * 11 + 8, none⟩ = some (.int .i64 y7) := hcr 8 (by omega)
      have j9 : wr.cell? ⟨ng, j * 11 + 9, none⟩ = some (.int .i64 y8) := hcr 9 (by omega)
      have j10 : wr.cell? ⟨ng, j * 11 + 10, none⟩ = some (.int .i64 y9) := hcr 10 (by omega)
      have hur := HU.out.ex hx (by simp)
      have hqr := HQ.out.ex hx (by simp)
      obtain ⟨hcu', hfu'⟩ := hur.all
      obtain ⟨hcq', hfq'⟩ := hqr.all
      have hul' := hur.lt
      have hql' := hqr.lt
      have hcg' : cg < wr.heap.size := Nat.lt_of_lt_of_le hcg hx.size
      have hng' : ng < wr.heap.size := Nat.lt_of_lt_of_le hngl hx.size
      obtain ⟨op, hop⟩ : ∃ op, op = ci.op := ⟨_, rfl⟩
      rw [← hop] at c0r
      have HOP := hide hop
      have HKK := hide hk
      clear hx hz hacc hrg hcl hpc hci hc0 hcell0 cell0 hstep hy hcr hur hqr hop hk hcu hfu
      cases h6 : (op == 6) with
      | true =>
        go_wp2_with fail
        go_quiet (fail)
        go_wp2_with fail
        have hb6 := (((((((((((HZ.out.alloc (Obj.cells #[.int .i64 k, .int .i64 y0, .int .i64 y1, .int .i64 y2, .int .i64 y3, .int .i64 y4, .int .i64 y5, .int .i64 y6, .int .i64 y7, .int .i64 y8, .int .i64 y9] 153)).drewN nq).self 0 (.int .i64 y0)).self 1 (.int .i64 y1)).self 2 (.int .i64 y2)).self 3 (.int .i64 y3)).self 4 (.int .i64 y4)).self 5 (.int .i64 y5)).self 6 (.int .i64 y6)).self 7 (.int .i64 y7)).self 8 (.int .i64 y8)).self 9 (.int .i64 y9)
        simp only [List.setIfInBounds_toArray, List.set_cons_zero, List.set_cons_succ] at hb6
        have hl6 := run_loadVar_mid (P := Tryz.prog) _ w.heap.size 0 95 [.int .i64 y0, .int .i64 y1, .int .i64 y2, .int .i64 y3, .int .i64 y4, .int .i64 y5, .int .i64 y6, .int .i64 y7, .int .i64 y8, .int .i64 y9] _ hb6.rangeL Tryz.underlying95 rfl (by kernel_rfl)
        refine bodyPost_ret (results_cell_tmp rfl rfl hl6) rfl ⟨?_, ?_⟩
        · have h1 := HACC.out
          rw [HST.out, if_pos (by rw [← HOP.out]; simpa using h6), HY.out] at h1
          rw [← h1]; rfl
        · repeat (refine Ex.setCell ?_ (Or.inr (by simp)) _)
          exact (((HX.out).alloc _).drewN _)
      | false =>
        go_wp2_with fail
        go_quiet (fail)
        go_wp2_with fail
        go_roundg g
        case measure => omega
        case rel =>
          refine ⟨j + 1, by omega, by simp, ?_, ?_, ?_⟩
          · have h1 := HACC.out
            rw [HST.out, if_neg (by rw [← HOP.out]; simpa using h6)] at h1
            exact h1
          · exact (HZ.out.alloc _).drewN _
          · exact (HX.out.alloc _).drewN _
end Go.Proofs.YtgmjjhmnchefbaaGreatDoor.G
