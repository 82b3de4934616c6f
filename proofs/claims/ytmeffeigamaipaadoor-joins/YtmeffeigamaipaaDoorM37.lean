/- R8 T11, one behind the other. -/
import Derived.Test.YtmeffeigamaipaaDoorM35
import Derived.Deep.RegionHeld3
import Derived.Test.YtmeffeigamaipaaDoorM26
set_option linter.unusedVariables false
set_option linter.unusedSimpArgs false
/- Pattern.Match, at any program and any string. -/
namespace Go.Proofs.YtmeffeigamaipaaDoor.G
open Go.RowKit

def foundV (s : ByteArray) (v : Value) (mb : Nat) : Value := .agg #[.string s, v, .map (some mb)]
def MatchPost (w : World) (s : ByteArray) (ng : Nat) (nm : List (ByteArray × Nat)) (m : Option (List Int)) (e : Ending) (w' : World) : Prop :=
  match m with
  | some sl => ∃ v mb, e = .returned (.tuple #[foundV s v mb, .bool true]) ∧ w'.ownsRow w.heap.size 41 2 v (ng + 1) (spanL (spansM s.size sl ng)) ∧ BK w' mb (.map (nmE nm) nm.length) ∧ sl.length = 10
  | none => e = .returned (.tuple #[.agg #[.string ⟨#[]⟩, .slice none 0 0, .map none], .bool false])

set_option maxHeartbeats 8000000 in
set_option maxRecDepth 100000 in
theorem Match_any (q base : Nat) (code : List Ins) (ng : Nat) (nm : List (ByteArray × Nat)) (s : ByteArray) (w : World) (hp : PG w q base code ng nm) (hok : CodeOK code) (htk : TakeOK code) (hcl : code.length ≤ 100000) (hpos : 0 < code.length) (hng : ng ≤ 5) (hs : s.size ≤ 9223372036854775807) (hT : Lib.Utf8Tabs 1 2 w) :
    Calls Tryd.prog 15 #[.pointer (some ⟨q, 0, none⟩), .string s] w fun e w' => MatchPost w s ng nm (matchM code s) e w' ∧ Ex [] w w' := by
  have HPG := hide hp
  have HT := hide hT
  have H1 := hide (rs_all s)
  have htl := tabs_lt hT
  obtain ⟨cg, cc, sp, sc, B, mb, hpx⟩ := hp.px hpos
  have HPX := hide hpx
  have HOK := hide hok
  have HTK := hide htk
  obtain ⟨res, hres⟩ : ∃ res, res = matchM code s := ⟨_, rfl⟩
  have HRES0 := hide hres
  rw [← hres]
  clear hp hT hpx hok htk hres
  go_enter Tryd.func15, Tryd.ntmps15
  go_wp2_with fail
  refine (newRun_any q base code ng nm _ (HPG.out.ex' ((Ex.refl _ _).alloc _)) hcl).mono ?_
  rintro e w1 ⟨u, gr, rfl, hgl, hgu, hul, hbu, hrc, hx1⟩
  simp only [World.size_alloc] at hgl
  have hx01 : Ex [] w w1 := ((Ex.refl _ _).alloc _).trans hx1
  have hz1 := hx01.size
  have hp1 := HPX.out.eb (EB.ofEx hx01 (Nat.le_refl _))
  have hfo : BK w1 w.heap.size (.cells #[.string ⟨#[]⟩, .slice none 0 0, .map none] 47 (0, 0)) := (BK.new _ _).ex hx1 (by simp)
  obtain ⟨l, hl⟩ : ∃ l, l = waysM code (0, 0) := ⟨_, rfl⟩
  obtain ⟨ln, hln⟩ : ∃ ln, ln = l.length := ⟨_, rfl⟩
  obtain ⟨cn, hcn⟩ : ∃ cn, cn = code.length := ⟨_, rfl⟩
  have hwk := ways_ok code HOK.out (0, 0) hpos (by simp)
  have s1 : w1.cell? ⟨q, 1, none⟩ = some (.slice sp ln sc) := by rw [hln, hl]; exact hp1.blk.all.1 1
  have hwa := hp1.start
  rw [← hl, ← hcn] at hwk
  rw [← hl] at hwa
  obtain ⟨gw, hgw, hpa, hwc⟩ : ∃ gw, gw < w.heap.size ∧ (wys l ≠ [] → sp = some ⟨gw, 0, none⟩) ∧ ∀ j, j < (wys l).length * 2 → w1.cell? ⟨gw, j, none⟩ = (wayL (wys l))[j]? := by
    by_cases hnil : l = []
    · subst hnil
      exact ⟨q, hp1.qt, fun h => absurd rfl h, fun j hj => by simp [wys] at hj⟩
    · obtain ⟨gw, h1, h2, h3⟩ := hwa hnil
      exact ⟨gw, h2, fun _ => h1, fun j hj => by rw [wys_L]; exact h3 j (by rwa [wys_len] at hj)⟩
  have hrc' : BK w1 gr (.cells (ints (List.replicate cn (-1))).toArray 3 (0, 0)) := by rw [hcn]; exact hrc
  rw [← hcn] at hbu
  have HX1 := hide hx01
  have HP1 := hide hp1
  have HU1 := hide hbu
  have HG1 := hide hrc'
  have HFO := hide hfo
  have HPA := hide hpa
  have HWC := hide hwc
  have HWK := hide hwk
  have HCN := hide hcn
  have HL := hide hl
  have HLN := hide hln
  have hqt := hp1.qt
  have hcl' : cn ≤ 100000 := by omega
  clear hx1 hx01 hp1 hfo hbu hrc hrc' hwa hwk hpa hwc hcn hl hln
  have hwl : l.length ≤ 2 * cn := HWK.out.2
  have KF := hide (fun (w2 : World) (hx2 : Ex [] w1.drew w2) => follow_any u gr gw sc cn w1.heap.size sp 0 (.pointer (some ⟨q, 0, none⟩)) (.slice none 0 0) (.slice none 0 0) w2 (List.replicate cn (-1)) [] (wys l) unsetS rfl (World.ownsRow_nil _ _ _ _) (HU1.out.drew.ex hx2 (by simp)) (HG1.out.drew.ex hx2 (by simp)) (by simp) hcl' (by rw [wys_len]; simp; omega) (wys_to HWK.out.1) hul (by omega) (by omega) hx2.size HPA.out (fun j hj => (hx2.cell0.1 gw j (show gw < w1.heap.size by omega)).trans (HWC.out j hj)) (by omega) (by omega) (by omega))
  rw [wys_len, ← HLN.out] at KF
  go_wp2_with fail
  go_region_held3 (fun w' => w'.cell? ⟨q, 1, none⟩ = some (.slice sp ln sc))
    (first | exact q3 | exact q2 | exact s1)
    (first
      | (go_at_call 24; refine (unset_any _).mono ?_; rintro e w2 ⟨rfl, hx2⟩; have q2 := (hx2.cell0.1 q 1 (show q < w1.heap.size by omega)).trans s1)
      | (go_at_call 23; refine (KF.out _ hx2).mono ?_; rintro e w3 ⟨rfl, nowV', hu3, ho3, hg3, hx3, hor3⟩; have q3 := (hx3.cell.1 q 1 (by have h0 : w1.heap.size ≤ w2.heap.size := hx2.size; omega) (by simp [Value.ownBlock]; omega)).trans q2))
  have hz2 : w1.heap.size ≤ w2.heap.size := hx2.size
  have hz3 := hx3.size
  have e13 : EB (w.heap.size + 1) [] w1 w3 := (((EB.refl (w.heap.size + 1) [] w1).drew).trans (EB.ofEx hx2 (show w.heap.size + 1 ≤ w1.heap.size by omega))).trans ((EB.ofEx hx3 (by omega)).mono (Nat.le_refl _) (fun x hx hlt => by simp [Value.ownBlock] at hx; omega))
  have hfok := followM_ok unsetS rfl 0 cn (wys l) ([], List.replicate cn (-1)) (wys_to HWK.out.1) (by simp) (fun _ h => by simp at h) (by simp)
  obtain ⟨st, hst⟩ : ∃ st, st = followM unsetS 0 (wys l) ([], List.replicate cn (-1)) := ⟨_, rfl⟩
  rw [← hst] at hfok ho3 hg3
  have rn3 : RunG w3 u gr w1.heap.size q cn nowV' (.slice none 0 0) st.1 st.2 := ⟨hu3, ho3, ⟨0, [], World.ownsRow_nil _ _ _ _⟩, fun b _ h => by simp [Value.ownBlock] at h, hg3, hfok.1, hfok.2.1, by have h1 := List.count_le_length (a := (0 : Int)) (l := st.2); have h2 := hfok.2.2; have h3 := hfok.1; omega, hul, by omega, by omega, by omega⟩
  have hrm : runM code s s.size 0 st = res := by rw [HRES0.out, hst, HL.out, HCN.out]; rfl
  have E13 := hide e13
  have RN3 := hide rn3
  have HRM := hide hrm
  have HPX' := hide (HP1.out.up (show w.heap.size ≤ w.heap.size + 1 by omega))
  clear e13 rn3 hu3 ho3 hg3 hx3 hx2 hor3 q2 q3 s1 hfok hst hrm
  go_wp2_with fail
  go_loopg [7] s.size (fun gk at7 wr => ∃ (a f : Nat) (nowV nextV : Value) (ts : List Th) (rc : List Int), a + gk = s.size ∧ at7 = .int .i64 a ∧ gk ≤ f ∧ runM code s f a (ts, rc) = res ∧ RunG wr u gr w1.heap.size q cn nowV nextV ts rc ∧ EB (w.heap.size + 1) [] w1 wr)
  case atStart => exact ⟨0, s.size, _, _, st.1, st.2, by omega, rfl, by omega, HRM.out, RN3.out, E13.out⟩
  case round =>
    obtain ⟨a, f, nowV, nextV, ts, rc, hga, rfl, hgf, hrun, hrn, heb⟩ := hrel
    have HRN := hide hrn
    have HEB := hide heb
    have HRUN := hide hrun
    have hzr : w1.heap.size ≤ wr.heap.size := heb.size
    clear hrn heb hrun
    cases gk with
    | zero =>
      obtain rfl : a = s.size := by omega
      have hacc : acceptM code ts = res := by have h1 := HRUN.out; rw [runM_end] at h1; exact h1
      have hten : ∀ sl, res = some sl → sl.length = 10 := fun sl h => accept_ten code cn ts HRN.out.tok sl (by rw [hacc]; exact h)
      have hpr := HPX'.out.eb HEB.out
      have hrr : BK wr w.heap.size (.cells #[.string ⟨#[]⟩, .slice none 0 0, .map none] 47 (0, 0)) := HFO.out.eb HEB.out (by omega) (by simp)
      obtain ⟨p0, c0, hnv⟩ := own_slice HRN.out.now
      have hbr := HRN.out.blk
      have hnow := HRN.out.now
      rw [hnv] at hbr hnow
      have hpb := hpr.blk
      have KA := hide (accepted_any code u q cg cc w1.heap.size p0 c0 nextV (.slice (some ⟨gr, 0, none⟩) cn cn) _ _ _ _ ts wr hbr hpb (by have := hpr.cgt; omega) hpr.cap hpr.cls hnow (by have := HRN.out.tlen; omega) (fun t ht => (HRN.out.tok t ht).1) (fun t ht => by have := (HRN.out.tok t ht).2; rw [← HCN.out]; exact this))
      rw [hacc] at KA
      have HTEN := hide hten
      have HPR := hide hpr
      have HRR := hide hrr
      clear hga hacc hten hpr hrr hbr hnow hpb hnv hgf
      cases res with
      | some sl =>
        have hsl := HTEN.out sl rfl
        obtain ⟨y0, y1, y2, y3, y4, y5, y6, y7, y8, y9, hy⟩ := ten hsl
        subst hy
        go_wp2_with fail
        refine KA.out.mono ?_
        rintro e w4 ⟨rfl, hx4⟩
        have hr4 := HRR.out.ex hx4 (by simp)
        have hp4 := HPR.out.eb (EB.ofEx hx4 (by omega))
        have HX4 := hide hx4
        have HR4 := hide hr4
        have HP4 := hide hp4
        have hl4 := hr4.lt
        have hz4 := hx4.size
        have h90 := Tryd.underlying79
        have hs90 := size90' [y0, y1, y2, y3, y4, y5, y6, y7, y8, y9] hsl
        clear hx4 hr4 hp4
        rw [show accV (some [y0, y1, y2, y3, y4, y5, y6, y7, y8, y9]) = .tuple #[.agg #[.int .i64 y0, .int .i64 y1, .int .i64 y2, .int .i64 y3, .int .i64 y4, .int .i64 y5, .int .i64 y6, .int .i64 y7, .int .i64 y8, .int .i64 y9], .bool true] from rfl]
        go_wp2_with fail
        generalize hw5 : World.alloc w4 _ = w5
        have hx5 : Ex [] w4 w5 := by rw [← hw5]; exact (Ex.refl _ _).alloc _
        have hb5 : BK w5 w4.heap.size (.cells (ints [y0, y1, y2, y3, y4, y5, y6, y7, y8, y9]).toArray 79 (0, 0)) := by rw [← hw5]; exact BK.new _ _
        have hp5 := HP4.out.eb (EB.ofEx hx5 (by omega))
        have t1 : w5.rangeAt w4.heap.size 0 (ints [y0, y1, y2, y3, y4, y5, y6, y7, y8, y9]) := BK.rangeL hb5
        have t2 : w5.cell? ⟨q, 4, none⟩ = some (.map (some mb)) := hp5.blk.all.1 4
        have hz5 := hx5.size
        have hl5 := hb5.lt
        have HX5 := hide hx5
        have HB5 := hide hb5
        have HP5 := hide hp5
        have HR5 := hide (HR4.out.ex hx5 (by simp))
        have KS := hide (spans_any q _ _ _ _ ng hng [y0, y1, y2, y3, y4, y5, y6, y7, y8, y9] hsl (s.size : Int) w5.drew hp5.blk.drew)
        clear hw5 hx5 hb5 hp5
        go_region_held3 (fun w' => w'.rangeAt w4.heap.size 0 (ints [y0, y1, y2, y3, y4, y5, y6, y7, y8, y9]) ∧ w'.cell? ⟨q, 4, none⟩ = some (.map (some mb)))
          (first | exact ⟨BK.rangeL (((hb6.set (by simp; omega) _).set (by simp; omega) _).set (by simp; omega) _), (((hq6.set (by simp; omega) _).set (by simp; omega) _).set (by simp; omega) _).all.1 4⟩ | exact ⟨BK.rangeL hb6, hq6.all.1 4⟩ | exact ⟨t1, t2⟩)
          (first
            | (go_at_call 28; refine KS.out.mono ?_; rintro e w6 ⟨v6, rfl, ho6, hx6⟩; obtain ⟨p6, c6, rfl⟩ := own_slice ho6; have hb6 := HB5.out.drew.ex hx6 (by simp); have hq6 := HP5.out.blk.drew.ex hx6 (by simp); have hr6 := HR5.out.drew.ex hx6 (by simp); obtain ⟨hc6, hf6⟩ := hr6.all))
        have HO6 := hide ho6
        have HX6 := hide hx6
        have HN6 := hide ((HP5.out.names.drew).ex hx6 (by simp))
        clear hb6 hq6 hr6 hx6 ho6 t1 t2 h90 hs90
        go_wp2_with fail
        refine bodyPost_ret (v := .tuple #[foundV s (.slice p6 (ng + 1) c6) mb, .bool true]) (by simp [results, Tryd.results15, go_sem, hc6, foundV]) rfl ⟨⟨.slice p6 (ng + 1) c6, mb, rfl, ?_, ?_, hsl⟩, ?_⟩
        · have hmm : w.heap.size < w5.heap.size := by omega
          have h1 : w6.ownsRow w5.heap.size 41 2 (.slice p6 (ng + 1) c6) (ng + 1) (spanL (spansM s.size [y0, y1, y2, y3, y4, y5, y6, y7, y8, y9] ng)) := HO6.out
          exact own_lower (own_set (own_set (own_set h1 (by simpa using hmm) _) (by simpa using hmm) _) (by simpa using hmm) _) (by omega)
        · have hm2 := HPX.out.mt
          exact ((HN6.out.set (by simp; omega) _).set (by simp; omega) _).set (by simp; omega) _
        · repeat (refine Ex.setCell ?_ (Or.inr (by simp)) _)
          exact (EB.toEx ((EB.ofEx HX1.out (Nat.le_refl _)).trans (HEB.out.mono (by omega) (by simp)))).trans (HX4.out.trans (HX5.out.trans (((Ex.refl _ _).drew).trans HX6.out)))
      | none =>
        go_wp2_with fail
        refine KA.out.mono ?_
        rintro e w4 ⟨rfl, hx4⟩
        have hr4 := HRR.out.ex hx4 (by simp)
        obtain ⟨hc4, hf4⟩ := hr4.all
        have HX4 := hide hx4
        have hl4 := hr4.lt
        clear hx4 hr4
        rw [show accV none = .tuple #[.agg #[.int .i64 0, .int .i64 0, .int .i64 0, .int .i64 0, .int .i64 0, .int .i64 0, .int .i64 0, .int .i64 0, .int .i64 0, .int .i64 0], .bool false] from rfl]
        go_wp2_with fail
        refine bodyPost_ret (v := .tuple #[.agg #[.string ⟨#[]⟩, .slice none 0 0, .map none], .bool false]) (by simp [results, Tryd.results15, go_sem, hc4, hl4]) rfl ⟨rfl, ?_⟩
        refine Ex.alloc ?_ _
        repeat (refine Ex.setCell ?_ (Or.inr (by simp)) _)
        exact (EB.toEx ((EB.ofEx HX1.out (Nat.le_refl _)).trans (HEB.out.mono (by omega) (by simp)))).trans HX4.out
    | succ g =>
      have ha : a < s.size := by omega
      have ha' : (a : Int) < (s.size : Int) := by omega
      have ha2 : (a : Int) ≤ (s.size : Int) := by omega
      have hz := H1.out a ha
      obtain ⟨f, rfl⟩ : ∃ f', f = f' + 1 := ⟨f - 1, by omega⟩
      go_wp2_with fail
      refine (Tryd.utf8_DecodeRuneInString _ _ (tabs_eb HT.out ((EB.ofEx HX1.out (Nat.le_refl _)).trans (HEB.out.mono (by omega) (by simp))) htl)).mono ?_
      rintro e w4 ⟨rfl, hb4⟩
      rw [show (Lib.decodeGo (s.extract a s.size)).2 = rsz s a from rfl]
      obtain ⟨rn, hrn⟩ : ∃ rn, (Lib.decodeGo (s.extract a s.size)).1 = rn := ⟨_, rfl⟩
      have HRNE := hide hrn
      rw [hrn]
      clear hrn
      have hx4 := Ex.below hb4
      have hp4 := HPX'.out.eb (HEB.out.trans (EB.ofEx hx4 (by omega)))
      have HE4 := hide (HEB.out.trans (EB.ofEx hx4 (by omega)))
      have HR4 := hide (HRN.out.ex hx4)
      have HP4 := hide hp4
      have hrun' : (if (stepL code rn ((a + rsz s a : Nat) : Int) ts ([], rc)).1.length = 0 then none else runM code s f (a + rsz s a) (stepL code rn ((a + rsz s a : Nat) : Int) ts ([], rc))) = res := by
        have h1 := HRUN.out
        rw [runM, if_pos ha, show rune s a = rn from HRNE.out] at h1
        exact h1
      have HRUN' := hide hrun'
      clear hb4 hx4 hp4 hrun'
      obtain ⟨rz, hrz⟩ : ∃ rz, rz = rsz s a := ⟨_, rfl⟩
      rw [← hrz] at hz HRUN' ⊢
      have hpl : ((a + rz : Nat) : Int) = (a : Int) + (rz : Int) := by simp
      rw [hpl] at HRUN'
      have hcn4 := HCN.out
      have hR4 := HR4.out
      rw [hcn4] at hR4
      have KS := hide (step_any code HOK.out HTK.out hcl u gr w1.heap.size q (w.heap.size + 1) ng cg cc sc B mb sp nm (rn : Int) ((a : Int) + (rz : Int)) nowV nextV w4 ts rc HP4.out hR4 (by omega) (by omega) (by omega))
      obtain ⟨st', hst'⟩ : ∃ st', st' = stepL code (rn : Int) ((a : Int) + (rz : Int)) ts ([], rc) := ⟨_, rfl⟩
      rw [← hst'] at KS HRUN'
      rw [← hcn4] at KS
      clear hrz hcn4 hR4 hst'
      go_wp2_with fail
      refine KS.out.mono ?_
      rintro e w5 ⟨rfl, ⟨nowV5, nextV5, hrn5⟩, he5⟩
      have HR5 := hide hrn5
      have HE5 := hide (HE4.out.trans he5)
      have hr5 : BK w5 w.heap.size (.cells #[.string ⟨#[]⟩, .slice none 0 0, .map none] 47 (0, 0)) := HFO.out.eb (HE4.out.trans he5) (by omega) (by simp)
      obtain ⟨hc5, hf5⟩ := hr5.all
      have hl5 := hr5.lt
      clear hrn5 he5 hr5
      by_cases h0 : st'.1.length = 0
      · have hd : decide (0 < st'.1.length) = false := by simp [h0]
        rw [hd]
        have hn : res = none := by have h1 := HRUN'.out; rw [if_pos h0] at h1; exact h1.symm
        subst hn
        clear h0 hd
        go_wp2_with fail
        refine bodyPost_ret (v := .tuple #[.agg #[.string ⟨#[]⟩, .slice none 0 0, .map none], .bool false]) (by simp [results, Tryd.results15, go_sem, hc5]) rfl ⟨rfl, ?_⟩
        repeat (refine Ex.setCell ?_ (Or.inr (by simp)) _)
        exact EB.toEx ((EB.ofEx HX1.out (Nat.le_refl _)).trans (HE5.out.mono (by omega) (by simp)))
      · have hd : decide (0 < st'.1.length) = true := by simp; omega
        rw [hd]
        have hn : runM code s f (a + rz) st' = res := by have h1 := HRUN'.out; rw [if_neg h0] at h1; exact h1
        have HN := hide hn
        clear h0 hd hn hc5 hf5
        go_wp2_with fail
        go_roundg (s.size - (a + rz))
        case measure => omega
        case rel => exact ⟨a + rz, f, _, _, st'.1, st'.2, by omega, by simp, by omega, HN.out, HR5.out, HE5.out⟩
end Go.Proofs.YtmeffeigamaipaaDoor.G

/- What a text that is a pattern becomes. -/
namespace Go.Proofs.YtmeffeigamaipaaDoor.G
open Go.RowKit

structure Fit (code : List Ins) (ng : Nat) : Prop where
  ok : CodeOK code
  tk : TakeOK code
  le : code.length ≤ 100000
  pos : 0 < code.length
  ng5 : ng ≤ 5
def patC (t : ByteArray) : List Ins := match readM t with | .ok p _ => progM p | .bad _ => []
def patN (t : ByteArray) : Nat := match readM t with | .ok _ s => s.g | .bad _ => 0
def patM (t : ByteArray) : List (ByteArray × Nat) := match readM t with | .ok _ s => s.nm | .bad _ => []
def goodP (t : ByteArray) : Bool := goodB t && decide (patN t ≤ 5) && decide (t.size ≤ 60)
theorem fit_of {t : ByteArray} (h : goodP t = true) : Fit (patC t) (patN t) := by
  simp only [goodP, Bool.and_eq_true, decide_eq_true_eq] at h
  obtain ⟨⟨h1, h2⟩, h3⟩ := h
  unfold goodB at h1
  unfold patC
  cases hr : readM t with
  | bad s => rw [hr] at h1; simp at h1
  | ok p s =>
    rw [hr] at h1
    simp only [Bool.and_eq_true, decide_eq_true_eq] at h1
    obtain ⟨c1, c2⟩ := codeOK_of h1.2
    have hl := progM_len p
    exact ⟨c1, c2, by show (progM p).length ≤ 100000; have := h1.1.2; omega, by show 0 < (progM p).length; omega, h2⟩
theorem readsP {w : World} {t : ByteArray} {x : EV} (hev : w.cell? ⟨0, 0, none⟩ = some (.iface x.1 x.2)) (h : goodP t = true) (w1 : World) (hx : Ex [] w w1) :
    Calls Tryd.prog 14 #[.string t] w1 fun e w' => ∃ q, e = .returned (.tuple #[.pointer (some ⟨q, 0, none⟩), .int .i64 0, .bool true]) ∧ PG w' q w1.heap.size (patC t) (patN t) (patM t) ∧ Ex [] w1 w' := by
  simp only [goodP, Bool.and_eq_true, decide_eq_true_eq] at h
  obtain ⟨p, s, hr, hc⟩ := gRead_ok (w := w1) (x := x) ((hx.cell0.1 _ _ (lt_of_cell hev)).trans hev) h.2 (NP.all t) h.1.1
  have e1 : patC t = progM p := by unfold patC; rw [hr]
  have e2 : patN t = s.g := by unfold patN; rw [hr]
  have e3 : patM t = s.nm := by unfold patM; rw [hr]
  rw [e1, e2, e3]
  exact hc
end Go.Proofs.YtmeffeigamaipaaDoor.G
