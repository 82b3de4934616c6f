/- A run's step, at any program. -/
import Derived.Test.YtmeffeigamaipaaDoorM31
import Derived.Deep.RegionHeld3
set_option linter.unusedVariables false
set_option linter.unusedSimpArgs false
namespace Go.Proofs.YtmeffeigamaipaaDoor.G
open Go.RowKit

theorem ofRx {l : List Nat} {w w' : World} (h : Rx.Ex l w w') : Ex l w w' := ⟨h.os, h.tape, h.output, h.size, h.block⟩
theorem thr_range' {w : World} {b : Nat} {x : Value} {y0 y1 y2 y3 y4 y5 y6 y7 y8 y9 : Int} {sl : List Int} (hy : sl = [y0, y1, y2, y3, y4, y5, y6, y7, y8, y9]) (h : BK w b (.cells #[x, .int .i64 y0, .int .i64 y1, .int .i64 y2, .int .i64 y3, .int .i64 y4, .int .i64 y5, .int .i64 y6, .int .i64 y7, .int .i64 y8, .int .i64 y9] 113 (0, 0))) : w.rangeAt b 1 (ints sl) := by
  subst hy
  intro j v hv
  rw [h.all.1]
  match j, hv with
  | 0, hv => exact hv
  | 1, hv => exact hv
  | 2, hv => exact hv
  | 3, hv => exact hv
  | 4, hv => exact hv
  | 5, hv => exact hv
  | 6, hv => exact hv
  | 7, hv => exact hv
  | 8, hv => exact hv
  | 9, hv => exact hv
  | n + 10, hv => simp [ints] at hv

set_option maxHeartbeats 8000000 in
set_option maxRecDepth 100000 in
theorem step_any (code : List Ins) (hok : CodeOK code) (htk : TakeOK code) (hcl : code.length ≤ 100000) (u gr base q top ng cg cc sc B mb : Nat) (sp : Option Addr) (nm : List (ByteArray × Nat)) (r pl : Int) (nowV nextV : Value) (w : World) (ts : List Th) (rc : List Int)
    (hp : PX w q top code ng cg cc sp sc B mb nm) (hr : RunG w u gr base q code.length nowV nextV ts rc) (hr0 : 0 ≤ r) (htu : top ≤ u) (htg : top ≤ gr) :
    Calls Tryd.prog 26 #[.pointer (some ⟨u, 0, none⟩), .int .i32 r, .int .i64 pl] w fun e w' => e = .returned (.bool (decide (0 < (stepL code r pl ts ([], rc)).1.length))) ∧ (∃ nowV' nextV', RunG w' u gr base q code.length nowV' nextV' (stepL code r pl ts ([], rc)).1 (stepL code r pl ts ([], rc)).2) ∧ EB top [] w w' := by
  obtain ⟨nn, nx, hno⟩ := hr.next
  obtain ⟨np, nc, rfl, hnz, hnb, hnn⟩ := own_zero' hno
  obtain ⟨p0, c0, rfl⟩ := own_slice hr.now
  obtain ⟨n, hn⟩ : ∃ n, n = ts.length := ⟨_, rfl⟩
  obtain ⟨cn, hcn⟩ : ∃ cn, cn = code.length := ⟨_, rfl⟩
  obtain ⟨res, hres⟩ : ∃ res, res = stepL code r pl ts ([], rc) := ⟨_, rfl⟩
  have hrok := stepL_ok code hok htk r pl ts ([], rc) hr.tok hr.rcl (fun _ h => by simp at h) (by simp)
  rw [← hres] at hrok ⊢
  rw [← hcn] at hr hrok ⊢
  have hur := hr.blk
  have hnow := hr.now
  rw [← hn] at hur hnow
  obtain ⟨hcu, hfu⟩ := hur.all
  have HP := hide hp
  have HR := hide hr
  have HUR := hide hur
  have HNOW := hide hnow
  have HNZ := hide hnz
  have HNB := hide hnb
  have HNO := hide hno
  have HRES := hide hres
  have HNN := hide hn
  have HCN := hide hcn
  have HROK := hide hrok
  have HOK := hide hok
  have HTK := hide htk
  have hul := hr.ul
  have hgl := hr.gl
  have hug := hr.ug
  have hle := hr.le
  have hnc : n ≤ 100000 := by rw [hn]; have := hr.tlen; omega
  have hcl' : cn ≤ 100000 := by omega
  clear hp hr hnz hnb hno hur hnow hres hn hcn hrok hok htk hcl
  have hcap : (0 : Int) ≤ (nc : Int) := by omega
  go_enter Tryd.func26, Tryd.ntmps26
  go_wp2_with fail
  generalize hw1 : World.setCell _ (⟨u, 1, none⟩ : Addr) _ = w1
  have hx1 : Ex [u] w w1 := by rw [← hw1]; exact (Ex.refl _ _).setCell (Or.inl (by simp)) _
  have hu1 : BK w1 u (.cells #[.pointer (some ⟨q, 0, none⟩), .slice np 0 nc, .slice np nn nc, .slice (some ⟨gr, 0, none⟩) cn cn] 108 (0, 0)) := by
    have h1 := BK.self HUR.out 1 (.slice np 0 nc)
    simp only [List.setIfInBounds_toArray, List.set_cons_zero, List.set_cons_succ] at h1
    rw [← hw1]; exact h1
  have HX1 := hide hx1
  have HU1 := hide hu1
  clear hw1 hx1 hu1 hcu hfu
  go_loopg [25] n (fun gk i25 wr => ∃ (j : Nat) (nowV' : Value) (ts' : List Th) (rc' : List Int), j + gk = n ∧ i25 = .int .i64 j ∧ stepL code r pl (ts.drop j) (ts', rc') = res ∧ TOK cn ts' ∧ ts'.length ≤ rc'.count pl ∧ rc'.length = cn ∧
    BK wr u (.cells #[.pointer (some ⟨q, 0, none⟩), nowV', .slice np nn nc, .slice (some ⟨gr, 0, none⟩) cn cn] 108 (0, 0)) ∧ wr.ownsRow base 113 11 nowV' ts'.length (thL ts') ∧ BK wr gr (.cells (ints rc').toArray 3 (0, 0)) ∧
    wr.ownsRow base 113 11 (.slice p0 n c0) n (thL ts) ∧ (∀ b, nowV'.ownBlock = some b → (Value.slice p0 n c0).ownBlock ≠ some b) ∧ EB top [] w wr)
  case atStart =>
    refine ⟨0, _, [], rc, by omega, rfl, HRES.out.symm, fun _ h => by simp at h, by simp, HR.out.rcl, HU1.out, ?_, ?_, ?_, fun b h1 h2 => ?_, ?_⟩
    · exact own_ex HNZ.out HX1.out (by simpa using hul)
    · exact HR.out.rcb.ex HX1.out (by simpa using fun h => hug h.symm)
    · exact own_ex HNOW.out HX1.out (by simpa using hul)
    · rw [HNB.out] at h1
      exact HR.out.apart b (by rw [← HNN.out]; exact h2) h1
    · exact (EB.ofEx HX1.out (by omega)).mono (Nat.le_refl _) (fun x hx hlt => by simp at hx; omega)
  case round =>
    obtain ⟨j, nowV', ts', rc', hj, rfl, hst, htok, hcnt, hrl, hur, hown, hgr, hold, hap, heb⟩ := hrel
    have HST := hide hst
    have HTOK := hide htok
    have HCNT := hide hcnt
    have HRL := hide hrl
    have HUR' := hide hur
    have HOWN := hide hown
    have HGR := hide hgr
    have HOLD := hide hold
    have HAP := hide hap
    have HEB := hide heb
    have hzr : w.heap.size ≤ wr.heap.size := heb.size
    have hul' := hur.lt
    obtain ⟨hcu, hfu⟩ := hur.all
    have hlen' : ts'.length ≤ cn := by have h1 := List.count_le_length (a := pl) (l := rc'); omega
    cases gk with
    | zero =>
      obtain rfl : j = n := by omega
      obtain ⟨p', c', rfl⟩ := own_slice hown
      have hrs : res = (ts', rc') := by rw [← hst, HNN.out, List.drop_length]; rfl
      obtain ⟨m', hm'⟩ : ∃ m', m' = ts'.length := ⟨_, rfl⟩
      have HM := hide hm'
      rw [← hm'] at hcu
      have HRS := hide hrs
      clear hst htok hcnt hrl hur hown hgr hold hap heb hj hm' hrs
      go_wp2_with fail
      go_ret
      have hb5 := BK.self HUR'.out 2 (.slice p0 j c0)
      simp only [List.setIfInBounds_toArray, List.set_cons_zero, List.set_cons_succ] at hb5
      rw [HRS.out]
      refine ⟨by rw [← HM.out]; simp, ⟨_, _, ⟨hb5, own_set HOWN.out hul _, ⟨_, _, own_set HOLD.out hul _⟩, HAP.out, HGR.out.set (by simpa using fun h => hug h.symm) _, HRL.out, HTOK.out, hlen', hul, hgl, hug, by simp; omega⟩⟩, ?_⟩
      exact HEB.out.setCell (Or.inr (by simpa using htu)) _
    | succ g =>
      have hj' : j < ts.length := by rw [← HNN.out]; omega
      have hjn : (j : Int) < (n : Int) := by omega
      have hold' := hold
      rw [HNN.out] at hold'
      obtain ⟨ngb, hp0, hngb, hngl, hngc, hrg⟩ := own_threads hold' (by omega)
      have htok0 := HR.out.tok
      obtain ⟨y0, y1, y2, y3, y4, y5, y6, y7, y8, y9, hy, hcl⟩ := thread_cells hrg (fun t ht => (htok0 t ht).1) j hj'
      have hpc := (htok0 _ (List.getElem_mem hj')).2
      obtain ⟨k, hk⟩ : ∃ k, k = (ts[j]'hj').pc := ⟨_, rfl⟩
      obtain ⟨sl, hsl⟩ : ∃ sl, sl = (ts[j]'hj').sl := ⟨_, rfl⟩
      have hsl10 : sl.length = 10 := by rw [hsl]; exact (htok0 _ (List.getElem_mem hj')).1
      rw [← hsl] at hy
      rw [← hk] at hcl hpc
      obtain ⟨ci, hci⟩ : ∃ ci, code[k]? = some ci := ⟨_, List.getElem?_eq_getElem (by rw [← HCN.out]; exact hpc)⟩
      have hstep : stepL code r pl (ts.drop j) (ts', rc') = if ci.takes r then stepL code r pl (ts.drop (j + 1)) (followM sl pl (wys (waysM code (k + 1, 1))) (ts', rc')) else stepL code r pl (ts.drop (j + 1)) (ts', rc') := by
        rw [List.drop_eq_getElem_cons hj', stepL, ← hk, hci, ← hsl]
      have HSTP := hide hstep
      have hpr := HP.out.eb heb
      have hcode : ∀ o, o < 7 → wr.cell? ⟨cg, k * 7 + o, none⟩ = ci.cells[o]? := fun o ho => by
        have h1 := codeL_at code k o ci hci ho
        have h3 : k * 7 + o < (codeL code).length := by rw [codeL_len]; have := HCN.out; omega
        rw [← h1, List.getElem?_eq_getElem h3]
        simpa using hpr.cls (k * 7 + o) _ (List.getElem?_eq_getElem h3)
      have hbeh := hpr.beh k ci hci
      have hwk : ci.op = 0 → (∀ y ∈ waysM code (k + 1, 1), y.1 < cn) ∧ (waysM code (k + 1, 1)).length ≤ 2 * cn := fun h0 => by
        have := ways_ok code HOK.out (k + 1, 1) (HTK.out _ _ hci h0) (by simp)
        rw [← HCN.out] at this
        exact this
      obtain ⟨op, lo, hi, hg, t0, t1, sl0⟩ := ci
      simp only [Ins.cells] at hcode
      have c0 : wr.cell? ⟨cg, k * 7, none⟩ = some (.int .i64 op) := hcode 0 (by omega)
      have c1 : wr.cell? ⟨cg, k * 7 + 1, none⟩ = some (.int .u64 lo) := hcode 1 (by omega)
      have c2 : wr.cell? ⟨cg, k * 7 + 2, none⟩ = some (.int .u64 hi) := hcode 2 (by omega)
      have c3 : wr.cell? ⟨cg, k * 7 + 3, none⟩ = some (.bool hg) := hcode 3 (by omega)
      have c4 : wr.cell? ⟨cg, k * 7 + 4, none⟩ = some (.int .i64 t0) := hcode 4 (by omega)
      have c5 : wr.cell? ⟨cg, k * 7 + 5, none⟩ = some (.int .i64 t1) := hcode 5 (by omega)
      have c6 : wr.cell? ⟨cg, k * 7 + 6, none⟩ = some (.int .i64 sl0) := hcode 6 (by omega)
      have j0 : wr.cell? ⟨ngb, j * 11, none⟩ = some (.int .i64 (k : Int)) := hcl 0 (by omega)
      have j1 : wr.cell? ⟨ngb, j * 11 + 1, none⟩ = some (.int .i64 y0) := hcl 1 (by omega)
      have j2 : wr.cell? ⟨ngb, j * 11 + 2, none⟩ = some (.int .i64 y1) := hcl 2 (by omega)
      have j3 : wr.cell? ⟨ngb, j * 11 + 3, none⟩ = some (.int .i64 y2) := hcl 3 (by omega)
      have j4 : wr.cell? ⟨ngb, j * 11 + 4, none⟩ = some (.int .i64 y3) := hcl 4 (by omega)
      have j5 : wr.cell? ⟨ngb, j * 11 + 5, none⟩ = some (.int .i64 y4) := hcl 5 (by omega)
      have j6 : wr.cell? ⟨ngb, j * 11 + 6, none⟩ = some (.int .i64 y5) := hcl 6 (by omega)
      have j7 : wr.cell? ⟨ngb, j * 11 + 7, none⟩ = some (.int .i64 y6) := hcl 7 (by omega)
      have j8 : wr.cell? ⟨ngb, j * 11 + 8, none⟩ = some (.int .i64 y7) := hcl 8 (by omega)
      have j9 : wr.cell? ⟨ngb, j * 11 + 9, none⟩ = some (.int .i64 y8) := hcl 9 (by omega)
      have j10 : wr.cell? ⟨ngb, j * 11 + 10, none⟩ = some (.int .i64 y9) := hcl 10 (by omega)
      have hkn : (k : Int) < (cn : Int) := by omega
      have hpb := hpr.blk
      rw [← HCN.out] at hpb
      have q0 : wr.cell? ⟨q, 0, none⟩ = some (.slice (some ⟨cg, 0, none⟩) cn cc) := hpb.all.1 0
      have q2 : wr.cell? ⟨q, 2, none⟩ = some (.slice (some ⟨B, 0, none⟩) cn cn) := hpb.all.1 2
      have hql := hpb.lt
      have hqt := HP.out.qt
      have hcgt := HP.out.cgt
      have hBt := HP.out.Bt
      have hcg1 : cg < wr.heap.size := by omega
      have hB1 : B < wr.heap.size := by omega
      have hcap' : cn ≤ cc := by rw [HCN.out]; exact HP.out.cap
      have HY := hide hy
      have HSL := hide hsl
      have HPR := hide hpr
      have HBEH := hide hbeh
      have HWK := hide hwk
      have hKH := fun w => Rx.Q.has_any ⟨lo, hi, hg⟩ r w hr0
      have htake : ({ op := op, lo := lo, hi := hi, hg := hg, t0 := t0, t1 := t1, sl := sl0 } : Ins).takes r = (op == 0 && Rx.Q.hasC ⟨lo, hi, hg⟩ r) := rfl
      rw [htake] at HSTP
      obtain ⟨hv, hhv⟩ : ∃ hv, hv = Rx.Q.hasC ⟨lo, hi, hg⟩ r := ⟨_, rfl⟩
      rw [← hhv] at hKH HSTP
      have KH := hide hKH
      subst hp0
      clear hst htok hcnt hrl hur hown hgr hold hold' hap heb hrg hcl hpc hci hstep hcode hy hsl hpr hbeh hwk hKH hhv htake hpb hk htok0
      go_wp2_with fail
      go_region
      generalize hw2 : World.drew _ = w2
      have hx2 : Ex [] wr w2 := by rw [← hw2]; exact (((Ex.refl _ _).alloc _).alloc _).drew
      have ht2 : BK w2 wr.heap.size (.cells #[.int .i64 k, .int .i64 y0, .int .i64 y1, .int .i64 y2, .int .i64 y3, .int .i64 y4, .int .i64 y5, .int .i64 y6, .int .i64 y7, .int .i64 y8, .int .i64 y9] 113 (0, 0)) := by
        rw [← hw2]; exact ((BK.new _ _).alloc _).drew
      have hi2 : BK w2 (wr.heap.size + 1) (.cells #[.int .i64 op, .int .u64 lo, .int .u64 hi, .bool hg, .int .i64 t0, .int .i64 t1, .int .i64 sl0] 98 (0, 0)) := by
        have h1 := BK.new (wr.alloc (Obj.cells #[.int .i64 k, .int .i64 y0, .int .i64 y1, .int .i64 y2, .int .i64 y3, .int .i64 y4, .int .i64 y5, .int .i64 y6, .int .i64 y7, .int .i64 y8, .int .i64 y9] 113)) (Obj.cells #[.int .i64 op, .int .u64 lo, .int .u64 hi, .bool hg, .int .i64 t0, .int .i64 t1, .int .i64 sl0] 98)
        simp only [World.size_alloc] at h1
        rw [← hw2]; exact h1.drew
      have HT2 := hide ht2
      have HX2 := hide hx2
      clear hw2 hcu hfu q0 q2 j0 j1 j2 j3 j4 j5 j6 j7 j8 j9 j10 c0 c1 c2 c3 c4 c5 c6
      obtain ⟨hci, hfi⟩ := hi2.all
      have hil := hi2.lt
      clear hi2 ht2 hx2
      cases hop : (op == 0) with
      | false =>
        go_wp2_with fail
        go_roundg g
        case measure => omega
        case rel =>
          refine ⟨j + 1, nowV', ts', rc', by omega, by simp, ?_, HTOK.out, HCNT.out, HRL.out, HUR'.out.ex HX2.out (by simp), own_ex HOWN.out HX2.out (by simp), HGR.out.ex HX2.out (by simp), own_ex HOLD.out HX2.out (by simp), HAP.out, ?_⟩
          · have h1 := HST.out
            rw [HSTP.out, hop] at h1
            simpa using h1
          · exact HEB.out.trans (EB.ofEx HX2.out (by omega))
      | true =>
        go_wp2_with fail
        refine (KH.out _).mono ?_
        rintro e w3 ⟨rfl, hx3r⟩
        have hx3 := ofRx hx3r
        clear hx3r
        have hx13 : Ex [] wr w3 := HX2.out.trans hx3
        have hz13 := hx13.size
        have ht3 := HT2.out.ex hx3 (by simp)
        have hi3 : wr.heap.size + 1 < w3.heap.size := Nat.lt_of_lt_of_le hil hx3.size
        have hu3 := HUR'.out.ex hx13 (by simp)
        have HX13 := hide hx13
        have HT3 := hide ht3
        have HU3 := hide hu3
        clear hx3 hx13 ht3 hci hfi hil
        cases hv with
        | false =>
          go_wp2_with fail
          go_roundg g
          case measure => omega
          case rel =>
            refine ⟨j + 1, nowV', ts', rc', by omega, by simp, ?_, HTOK.out, HCNT.out, HRL.out, HU3.out, own_ex HOWN.out HX13.out (by simp), HGR.out.ex HX13.out (by simp), own_ex HOLD.out HX13.out (by simp), HAP.out, ?_⟩
            · have h1 := HST.out
              rw [HSTP.out, hop] at h1
              simpa using h1
            · exact HEB.out.trans (EB.ofEx HX13.out (by omega))
        | true =>
          have h00 : op = 0 := by simpa using hop
          obtain ⟨pb, cb, hb0, hwa⟩ := HBEH.out h00
          obtain ⟨hwt, hwl⟩ := HWK.out h00
          obtain ⟨l, hl⟩ : ∃ l, l = waysM code (k + 1, 1) := ⟨_, rfl⟩
          rw [← hl] at hb0 hwa hwt hwl HSTP
          have hwa3 := hwa.eb (EB.ofEx HX13.out (show top ≤ wr.heap.size by omega))
          obtain ⟨gw, hgw, hpa, hwc⟩ : ∃ gw, gw < top ∧ (wys l ≠ [] → pb = some ⟨gw, 0, none⟩) ∧ ∀ j, j < (wys l).length * 2 → w3.cell? ⟨gw, j, none⟩ = (wayL (wys l))[j]? := by
            by_cases hnil : l = []
            · subst hnil
              exact ⟨q, hqt, fun h => absurd rfl h, fun j hj => by simp [wys] at hj⟩
            · obtain ⟨gw, h1, h2, h3⟩ := hwa3 hnil
              exact ⟨gw, h2, fun _ => h1, fun j hj => by rw [wys_L]; exact h3 j (by rwa [wys_len] at hj)⟩
          have s0 : w3.cell? ⟨u, 0, none⟩ = some (.pointer (some ⟨q, 0, none⟩)) := hu3.all.1 0
          have hp3 := HPR.out.eb (EB.ofEx HX13.out (show top ≤ wr.heap.size by omega))
          have hpb3 := hp3.blk
          rw [← HCN.out] at hpb3
          have s1 : w3.cell? ⟨q, 2, none⟩ = some (.slice (some ⟨B, 0, none⟩) cn cn) := hpb3.all.1 2
          have s2 : w3.cell? ⟨wr.heap.size, 0, none⟩ = some (.int .i64 k) := HT3.out.all.1 0
          have s3 : w3.rangeAt wr.heap.size 1 (ints sl) := thr_range' HY.out HT3.out
          have b0 : w3.cell? ⟨B, k, none⟩ = some (.slice pb l.length cb) := (HX13.out.cell0.1 B k hB1).trans hb0
          have hn3 := own_ex HOWN.out HX13.out (by simp)
          have hgr3 := HGR.out.ex HX13.out (by simp)
          have hul3 := hu3.lt
          have htl3 := HT3.out.lt
          have key := follow_any u gr gw cb cn base pb pl (.pointer (some ⟨q, 0, none⟩)) nowV' (.slice np nn nc) w3.drew rc' ts' (wys l) sl hsl10 hn3.drew HU3.out.drew hgr3.drew HRL.out hcl' (by rw [wys_len]; omega) (wys_to hwt) hul hgl hug (by show base ≤ w3.heap.size; omega) hpa hwc (by omega) (by omega) (by omega)
          rw [wys_len] at key
          have KEY := hide key
          have HL := hide hl
          have HWT := hide hwt
          have h90 := Tryd.underlying79
          have hs90 := size90' sl hsl10
          have HN3 := hide hn3
          have hnl : ∀ x, x ≠ u → x ≠ gr → (x < base ∨ wr.heap.size ≤ x) → x ∉ (u :: gr :: nowV'.ownBlock.toList) := fun x h2 h3 h4 hmem => by
            simp only [List.mem_cons, Option.mem_toList] at hmem
            rcases hmem with h | h | h
            · exact h2 h
            · exact h3 h
            · have e1 := own_block HOWN.out x h
              have e2 := (HOWN.out.lt x h).2
              omega
          have HNL := hide hnl
          obtain ⟨ln, hln⟩ : ∃ ln, ln = l.length := ⟨_, rfl⟩
          rw [← hln] at b0 KEY
          clear key hl hwt hwl hwa hwa3 hpa hwc hp3 hpb3 hn3 hgr3 hu3 hb0 hnl hln h00
          go_wp2_with fail
          go_region_held3 (fun w' => w'.cell? ⟨u, 0, none⟩ = some (.pointer (some ⟨q, 0, none⟩)) ∧ w'.cell? ⟨q, 2, none⟩ = some (.slice (some ⟨B, 0, none⟩) cn cn) ∧ w'.cell? ⟨wr.heap.size, 0, none⟩ = some (.int .i64 k) ∧ w'.cell? ⟨B, k, none⟩ = some (.slice pb ln cb) ∧ w'.rangeAt wr.heap.size 1 (ints sl))
            (first | exact ⟨q0, q1, q2, q3, q4⟩ | exact ⟨s0, s1, s2, b0, s3⟩)
            (first
              | (go_at_call 23; refine KEY.out.mono ?_; rintro e w4 ⟨rfl, nowV4, hu4, ho4, hg4, hx4, hor4⟩; have q0 : w4.cell? ⟨u, 0, none⟩ = some (.pointer (some ⟨q, 0, none⟩)) := hu4.all.1 0; have q1 := (hx4.cell.1 q 2 (show q < w3.heap.size by omega) (HNL.out q (by omega) (by omega) (Or.inl (by omega)))).trans s1; have ht4 := HT3.out.drew.ex hx4 (HNL.out _ (by omega) (by omega) (Or.inr (Nat.le_refl _))); have q2 : w4.cell? ⟨wr.heap.size, 0, none⟩ = some (.int .i64 k) := ht4.all.1 0; have q3 := (hx4.cell.1 B k (show B < w3.heap.size by omega) (HNL.out B (by omega) (by omega) (Or.inl (by omega)))).trans b0; have q4 := thr_range' HY.out ht4))
          have HU4 := hide hu4
          have HO4 := hide ho4
          have HG4 := hide hg4
          have HX4 := hide hx4
          have hz4 : w3.heap.size ≤ w4.heap.size := hx4.size
          clear hu4 ho4 hg4 hx4 q0 q1 q2 q3 q4 ht4 s0 s1 s2 s3 b0
          go_wp2_with fail
          go_roundg g
          case measure => omega
          case rel =>
            have hfo := followM_ok sl hsl10 pl cn (wys l) (ts', rc') (wys_to HWT.out) HRL.out HTOK.out HCNT.out
            refine ⟨j + 1, nowV4, (followM sl pl (wys l) (ts', rc')).1, (followM sl pl (wys l) (ts', rc')).2, by omega, by simp, ?_, hfo.2.1, hfo.2.2, hfo.1, HU4.out, HO4.out, HG4.out, ?_, fun b h1 h2 => ?_, ?_⟩
            · have h1 := HST.out
              rw [HSTP.out, hop] at h1
              simpa using h1
            · have hold3 := own_ex HOLD.out HX13.out (by simp)
              refine own_exn (World.ownsRow.drew hold3) HX4.out (fun b hb hmem => ?_)
              simp only [List.mem_cons, Option.mem_toList] at hmem
              have e0 := own_block HOLD.out b hb
              rcases hmem with h | h | h
              · omega
              · omega
              · exact HAP.out b h hb
            · rcases hor4 with h | ⟨g4, h, hg4⟩
              · exact HAP.out b (by rw [← h]; exact h1) h2
              · rw [h1] at h
                cases h
                have e1 := (HOLD.out.lt b h2).2
                have : w3.heap.size ≤ b := hg4
                omega
            · have e2 : EB top [] w3 w4 := ((EB.refl top [] w3).drew).trans ((EB.ofEx HX4.out (show top ≤ w3.heap.size by omega)).mono (Nat.le_refl _) (fun x hx hlt => by
                simp only [List.mem_cons, Option.mem_toList] at hx
                rcases hx with h | h | h
                · omega
                · omega
                · have := own_block HOWN.out x h; omega))
              exact (HEB.out.trans (EB.ofEx HX13.out (by omega))).trans e2
end Go.Proofs.YtmeffeigamaipaaDoor.G
