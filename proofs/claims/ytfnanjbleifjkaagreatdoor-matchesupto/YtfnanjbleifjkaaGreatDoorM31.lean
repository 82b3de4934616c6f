import Derived.Test.YtfnanjbleifjkaaGreatDoorM30
import Derived.Lib.ItoaMem
set_option linter.unusedVariables false
set_option linter.unusedSimpArgs false
set_option maxHeartbeats 8000000
set_option maxRecDepth 100000
namespace Go.Proofs.YtfnanjbleifjkaaGreatDoor.G
open Go.RowKit
def om (s : ByteArray) (v : Value) (mb : Nat) : Value := .agg #[.string s, v, .map (some mb)]
def sZ (w : World) (s : ByteArray) (ng : Nat) (nm : List (ByteArray × Nat)) (m : Option (List Int)) (e : Ending) (w' : World) : Prop :=
 match m with
 |some sl => ∃ v mb, e = .returned (.tuple #[om s v mb, .bool true]) /\ w'.ownsRow w.heap.size 31 2 v (ng + 1) (bz (cu s.size sl ng)) /\ BK w' mb (.map (nmE nm) nm.length) /\ sl.length = 10
 |none => e = .returned (.tuple #[.agg #[.string ⟨#[]⟩, .slice none 0 0, .map none], .bool false])
theorem sY (q base : Nat) (code : List Ins) (ng : Nat) (nm : List (ByteArray × Nat)) (s : ByteArray) (w : World) (hp : PG w q base code ng nm) (hok : cP code) (htk : eF code) (hcl : code.length <= 100000) (hpos : 0 < code.length) (hng : ng <= 5) (hs : s.size <= 9223372036854775807) (hT : Lib.Utf8Tabs 2 3 w) :
  Calls Tryz.prog 21 #[.pointer (some ⟨q, 0, none⟩), .string s] w fun e w' => sZ w s ng nm (dC code s) e w' /\ Ex [] w w' := by
 have HPG := aa hp
 have HT := aa hT
 have H1 := aa (rl s)
 have htl := wT hT
 obtain ⟨cg, cc, sp, sc, B, mb, hpx⟩ := hp.px hpos
 have HPX := aa hpx
 have HOK := aa hok
 have HTK := aa htk
 obtain ⟨res, hres⟩ := exq (dC code s)
 have HRES0 := aa hres
 rw [<- hres]
 clear hp hT hpx hok htk hres
 go_enter Tryz.func21, Tryz.ntmps21
 go_wp2_with fail
 refine (qn q base code ng nm _ (HPG.O.ex' ((Ex.refl _ _).alloc _)) hcl).mono ?_
 rintro e w1 ⟨u, gr, rfl, hgl, hgu, hul, hbu, hrc, hx1⟩
 simp only [World.size_alloc] at hgl
 have hx01 : Ex [] w w1 := ((Ex.refl _ _).alloc _).trans hx1
 have hz1 := hx01.size
 have hp1 := HPX.O.eb (EB.ofEx hx01 (Nat.le_refl _))
 have hfo : BK w1 w.heap.size (.cells #[.string ⟨#[]⟩, .slice none 0 0, .map none] 56 (0, 0)) := (BK.new _ _).ex hx1 (by simp)
 obtain ⟨l, hl⟩ := exq (bE code (0, 0))
 obtain ⟨ln, hln⟩ := exq (l.length)
 obtain ⟨cn, hcn⟩ := exq (code.length)
 have hwk := nz code HOK.O (0, 0) hpos (by simp)
 have s1 : w1.cell? ⟨q, 1, none⟩ = some (.slice sp ln sc) := by rw [hln, hl]; exact hp1.blk.all.1 1
 have hwa := hp1.start
 rw [<- hl, <- hcn] at hwk
 rw [<- hl] at hwa
 obtain ⟨gw, hgw, hpa, hwc⟩ : ∃ gw, gw < w.heap.size /\ (wys l ≠ [] -> sp = some ⟨gw, 0, none⟩) /\ ∀ j, j < (wys l).length * 2 -> w1.cell? ⟨gw, j, none⟩ = (nB (wys l))[j]? := by
  by_cases hnil : l = []
  ·subst hnil
   exact ⟨q, hp1.qt, fun h => absurd rfl h, fun j hj => by simp [wys] at hj⟩
  ·obtain ⟨gw, h1, h2, h3⟩ := hwa hnil
   exact ⟨gw, h2, fun _ => h1, fun j hj => by rw [xd]; exact h3 j (by rwa [gQ] at hj)⟩
 have hrc' : BK w1 gr (.cells (bG (List.replicate cn (-1))).toArray 3 (0, 0)) := by rw [hcn]; exact hrc
 rw [<- hcn] at hbu
 have HX1 := aa hx01
 have HP1 := aa hp1
 have HU1 := aa hbu
 have HG1 := aa hrc'
 have HFO := aa hfo
 have HPA := aa hpa
 have HWC := aa hwc
 have HWK := aa hwk
 have HCN := aa hcn
 have HL := aa hl
 have HLN := aa hln
 have hqt := hp1.qt
 have hcl' : cn <= 100000 := by omega
 clear hx1 hx01 hp1 hfo hbu hrc hrc' hwa hwk hpa hwc hcn hl hln
 have hwl : l.length <= 2 * cn := HWK.O.2
 have KF := aa (fun (w2 : World) (hx2 : Ex [] w1.drew w2) => kN u gr gw sc cn w1.heap.size sp 0 (.pointer (some ⟨q, 0, none⟩)) (.slice none 0 0) (.slice none 0 0) w2 (List.replicate cn (-1)) [] (wys l) cA rfl (World.ownsRow_nil _ _ _ _) (HU1.O.drew.ex hx2 (by simp)) (HG1.O.drew.ex hx2 (by simp)) (by simp) hcl' (by rw [gQ]; simp; omega) (kO HWK.O.1) hul (by omega) (by omega) hx2.size HPA.O (fun j hj => (hx2.cell0.1 gw j (show gw < w1.heap.size by omega)).trans (HWC.O j hj)) (by omega) (by omega) (by omega))
 rw [gQ, <- HLN.O] at KF
 go_wp2_with fail
 go_region_held3 (fun w' => w'.cell? ⟨q, 1, none⟩ = some (.slice sp ln sc))
  (first | exact q3 | exact q2 | exact s1)
  (first
   |(go_at_call 52; refine (tK _).mono ?_; rintro e w2 ⟨rfl, hx2⟩; have q2 := (hx2.cell0.1 q 1 (show q < w1.heap.size by omega)).trans s1)
   |(go_at_call 51; refine (KF.O _ hx2).mono ?_; rintro e w3 ⟨rfl, nowV', hu3, ho3, hg3, hx3, hor3⟩; have q3 := (hx3.cell.1 q 1 (by have h0 : w1.heap.size <= w2.heap.size := hx2.size; omega) (by simp [Value.ownBlock]; omega)).trans q2))
 have hz2 : w1.heap.size <= w2.heap.size := hx2.size
 have hz3 := hx3.size
 have e13 : EB (w.heap.size + 1) [] w1 w3 := (((EB.refl (w.heap.size + 1) [] w1).drew).trans (EB.ofEx hx2 (show w.heap.size + 1 <= w1.heap.size by omega))).trans ((EB.ofEx hx3 (by omega)).mono (Nat.le_refl _) (fun x hx hlt => by simp [Value.ownBlock] at hx; omega))
 have hfok := eP cA rfl 0 cn (wys l) ([], List.replicate cn (-1)) (kO HWK.O.1) (by simp) (fun _ h => by simp at h) (by simp)
 obtain ⟨st, hst⟩ := exq (aV cA 0 (wys l) ([], List.replicate cn (-1)))
 rw [<- hst] at hfok ho3 hg3
 have rn3 : qr w3 u gr w1.heap.size q cn nowV' (.slice none 0 0) st.1 st.2 := ⟨hu3, ho3, ⟨0, [], World.ownsRow_nil _ _ _ _⟩, fun b _ h => by simp [Value.ownBlock] at h, hg3, hfok.1, hfok.2.1, by have h1 := List.count_le_length (a := (0 : Int)) (l := st.2); have h2 := hfok.2.2; have h3 := hfok.1; omega, hul, by omega, by omega, by omega⟩
 have hrm : lu code s s.size 0 st = res := by rw [HRES0.O, hst, HL.O, HCN.O]; rfl
 have E13 := aa e13
 have RN3 := aa rn3
 have HRM := aa hrm
 have HPX' := aa (HP1.O.up (show w.heap.size <= w.heap.size + 1 by omega))
 clear e13 rn3 hu3 ho3 hg3 hx3 hx2 hor3 q2 q3 s1 hfok hst hrm
 go_wp2_with fail
 go_loopg [7] s.size (fun gk at7 wr => ∃ (a f : Nat) (nowV nextV : Value) (ts : List Th) (rc : List Int), a + gk = s.size /\ at7 = .int .i64 a /\ gk <= f /\ lu code s f a (ts, rc) = res /\ qr wr u gr w1.heap.size q cn nowV nextV ts rc /\ EB (w.heap.size + 1) [] w1 wr)
 case atStart => exact ⟨0, s.size, _, _, st.1, st.2, by omega, rfl, by omega, HRM.O, RN3.O, E13.O⟩
 case round =>
  obtain ⟨a, f, nowV, nextV, ts, rc, hga, rfl, hgf, hrun, hrn, heb⟩ := hrel
  have HRN := aa hrn
  have HEB := aa heb
  have HRUN := aa hrun
  have hzr : w1.heap.size <= wr.heap.size := heb.size
  clear hrn heb hrun
  cases gk with
  |zero =>
   obtain rfl : a = s.size := by omega
   have hacc : cI code ts = res := by have h1 := HRUN.O; rw [vy] at h1; exact h1
   have hten : ∀ sl, res = some sl -> sl.length = 10 := fun sl h => kY code cn ts HRN.O.tok sl (by rw [hacc]; exact h)
   have hpr := HPX'.O.eb HEB.O
   have hrr : BK wr w.heap.size (.cells #[.string ⟨#[]⟩, .slice none 0 0, .map none] 56 (0, 0)) := HFO.O.eb HEB.O (by omega) (by simp)
   obtain ⟨p0, c0, hnv⟩ := aw HRN.O.now
   have hbr := HRN.O.blk
   have hnow := HRN.O.now
   rw [hnv] at hbr hnow
   have hpb := hpr.blk
   have KA := aa (nt code u q cg cc w1.heap.size p0 c0 nextV (.slice (some ⟨gr, 0, none⟩) cn cn) _ _ _ _ ts wr hbr hpb (by have := hpr.cgt; omega) hpr.cap hpr.cls hnow (by have := HRN.O.tlen; omega) (fun t ht => (HRN.O.tok t ht).1) (fun t ht => by have := (HRN.O.tok t ht).2; rw [<- HCN.O]; exact this))
   rw [hacc] at KA
   have HTEN := aa hten
   have HPR := aa hpr
   have HRR := aa hrr
   clear hga hacc hten hpr hrr hbr hnow hpb hnv hgf
   cases res with
   |some sl =>
    have hsl := HTEN.O sl rfl
    obtain ⟨y0, y1, y2, y3, y4, y5, y6, y7, y8, y9, hy⟩ := ten hsl
    subst hy
    go_wp2_with fail
    refine KA.O.mono ?_
    rintro e w4 ⟨rfl, hx4⟩
    have hr4 := HRR.O.ex hx4 (by simp)
    have hp4 := HPR.O.eb (EB.ofEx hx4 (by omega))
    have HX4 := aa hx4
    have HR4 := aa hr4
    have HP4 := aa hp4
    have hl4 := hr4.lt
    have hz4 := hx4.size
    have h90 := Tryz.underlying121
    have hs90 := oA [y0, y1, y2, y3, y4, y5, y6, y7, y8, y9] hsl
    clear hx4 hr4 hp4
    rw [show xM (some [y0, y1, y2, y3, y4, y5, y6, y7, y8, y9]) = .tuple #[.agg #[.int .i64 y0, .int .i64 y1, .int .i64 y2, .int .i64 y3, .int .i64 y4, .int .i64 y5, .int .i64 y6, .int .i64 y7, .int .i64 y8, .int .i64 y9], .bool true] from rfl]
    go_wp2_with fail
    generalize hw5 : World.alloc w4 _ = w5
    have hx5 : Ex [] w4 w5 := by rw [<- hw5]; exact (Ex.refl _ _).alloc _
    have hb5 : BK w5 w4.heap.size (.cells (bG [y0, y1, y2, y3, y4, y5, y6, y7, y8, y9]).toArray 121 (0, 0)) := by rw [<- hw5]; exact BK.new _ _
    have hp5 := HP4.O.eb (EB.ofEx hx5 (by omega))
    have t1 : w5.rangeAt w4.heap.size 0 (bG [y0, y1, y2, y3, y4, y5, y6, y7, y8, y9]) := BK.rangeL hb5
    have t2 : w5.cell? ⟨q, 4, none⟩ = some (.map (some mb)) := hp5.blk.all.1 4
    have hz5 := hx5.size
    have hl5 := hb5.lt
    have HX5 := aa hx5
    have HB5 := aa hb5
    have HP5 := aa hp5
    have HR5 := aa (HR4.O.ex hx5 (by simp))
    have KS := aa (tB q _ _ _ _ ng hng [y0, y1, y2, y3, y4, y5, y6, y7, y8, y9] hsl (s.size : Int) w5.drew hp5.blk.drew)
    clear hw5 hx5 hb5 hp5
    go_region_held3 (fun w' => w'.rangeAt w4.heap.size 0 (bG [y0, y1, y2, y3, y4, y5, y6, y7, y8, y9]) /\ w'.cell? ⟨q, 4, none⟩ = some (.map (some mb)))
     (first | exact ⟨BK.rangeL (((hb6.set (by simp; omega) _).set (by simp; omega) _).set (by simp; omega) _), (((hq6.set (by simp; omega) _).set (by simp; omega) _).set (by simp; omega) _).all.1 4⟩ | exact ⟨BK.rangeL hb6, hq6.all.1 4⟩ | exact ⟨t1, t2⟩)
     (first
      |(go_at_call 56; refine KS.O.mono ?_; rintro e w6 ⟨v6, rfl, ho6, hx6⟩; obtain ⟨p6, c6, rfl⟩ := aw ho6; have hb6 := HB5.O.drew.ex hx6 (by simp); have hq6 := HP5.O.blk.drew.ex hx6 (by simp); have hr6 := HR5.O.drew.ex hx6 (by simp); obtain ⟨hc6, hf6⟩ := hr6.all))
    have HO6 := aa ho6
    have HX6 := aa hx6
    have HN6 := aa ((HP5.O.names.drew).ex hx6 (by simp))
    clear hb6 hq6 hr6 hx6 ho6 t1 t2 h90 hs90
    go_wp2_with fail
    refine bodyPost_ret (v := .tuple #[om s (.slice p6 (ng + 1) c6) mb, .bool true]) (by simp [results, Tryz.results21, go_sem, hc6, om]) rfl ⟨⟨.slice p6 (ng + 1) c6, mb, rfl, ?_, ?_, hsl⟩, ?_⟩
    ·have hmm : w.heap.size < w5.heap.size := by omega
     have h1 : w6.ownsRow w5.heap.size 31 2 (.slice p6 (ng + 1) c6) (ng + 1) (bz (cu s.size [y0, y1, y2, y3, y4, y5, y6, y7, y8, y9] ng)) := HO6.O
     exact dt (dg (dg (dg h1 (by simpa using hmm) _) (by simpa using hmm) _) (by simpa using hmm) _) (by omega)
    ·have hm2 := HPX.O.mt
     exact ((HN6.O.set (by simp; omega) _).set (by simp; omega) _).set (by simp; omega) _
    ·repeat (refine Ex.setCell ?_ (Or.inr (by simp)) _)
     exact (EB.toEx ((EB.ofEx HX1.O (Nat.le_refl _)).trans (HEB.O.mono (by omega) (by simp)))).trans (HX4.O.trans (HX5.O.trans (((Ex.refl _ _).drew).trans HX6.O)))
   |none =>
    go_wp2_with fail
    refine KA.O.mono ?_
    rintro e w4 ⟨rfl, hx4⟩
    have hr4 := HRR.O.ex hx4 (by simp)
    obtain ⟨hc4, hf4⟩ := hr4.all
    have HX4 := aa hx4
    have hl4 := hr4.lt
    clear hx4 hr4
    rw [show xM none = .tuple #[.agg #[.int .i64 0, .int .i64 0, .int .i64 0, .int .i64 0, .int .i64 0, .int .i64 0, .int .i64 0, .int .i64 0, .int .i64 0, .int .i64 0], .bool false] from rfl]
    go_wp2_with fail
    refine bodyPost_ret (v := .tuple #[.agg #[.string ⟨#[]⟩, .slice none 0 0, .map none], .bool false]) (by simp [results, Tryz.results21, go_sem, hc4, hl4]) rfl ⟨rfl, ?_⟩
    refine Ex.alloc ?_ _
    repeat (refine Ex.setCell ?_ (Or.inr (by simp)) _)
    exact (EB.toEx ((EB.ofEx HX1.O (Nat.le_refl _)).trans (HEB.O.mono (by omega) (by simp)))).trans HX4.O
  |succ g =>
   have ha : a < s.size := by omega
   have ha' : (a : Int) < (s.size : Int) := by omega
   have ha2 : (a : Int) <= (s.size : Int) := by omega
   have hz := H1.O a ha
   obtain ⟨f, rfl⟩ : ∃ f', f = f' + 1 := ⟨f - 1, by omega⟩
   go_wp2_with fail
   refine (Tryz.utf8_DecodeRuneInString _ _ (rO HT.O ((EB.ofEx HX1.O (Nat.le_refl _)).trans (HEB.O.mono (by omega) (by simp))) htl)).mono ?_
   rintro e w4 ⟨rfl, hb4⟩
   rw [show (Lib.decodeGo (s.extract a s.size)).2 = rsz s a from rfl]
   obtain ⟨rn, hrn⟩ : ∃ rn, (Lib.decodeGo (s.extract a s.size)).1 = rn := ⟨_, rfl⟩
   have HRNE := aa hrn
   rw [hrn]
   clear hrn
   have hx4 := Ex.below hb4
   have hp4 := HPX'.O.eb (HEB.O.trans (EB.ofEx hx4 (by omega)))
   have HE4 := aa (HEB.O.trans (EB.ofEx hx4 (by omega)))
   have HR4 := aa (HRN.O.ex hx4)
   have HP4 := aa hp4
   have hrun' : (if (cy code rn ((a + rsz s a : Nat) : Int) ts ([], rc)).1.length = 0 then none else lu code s f (a + rsz s a) (cy code rn ((a + rsz s a : Nat) : Int) ts ([], rc))) = res := by
    have h1 := HRUN.O
    rw [lu, if_pos ha, show qx s a = rn from HRNE.O] at h1
    exact h1
   have HRUN' := aa hrun'
   clear hb4 hx4 hp4 hrun'
   obtain ⟨rz, hrz⟩ := exq (rsz s a)
   rw [<- hrz] at hz HRUN' ⊢
   have hpl : ((a + rz : Nat) : Int) = (a : Int) + (rz : Int) := by simp
   rw [hpl] at HRUN'
   have hcn4 := HCN.O
   have hR4 := HR4.O
   rw [hcn4] at hR4
   have KS := aa (vK code HOK.O HTK.O hcl u gr w1.heap.size q (w.heap.size + 1) ng cg cc sc B mb sp nm (rn : Int) ((a : Int) + (rz : Int)) nowV nextV w4 ts rc HP4.O hR4 (by omega) (by omega) (by omega))
   obtain ⟨st', hst'⟩ : ∃ st', st' = cy code (rn : Int) ((a : Int) + (rz : Int)) ts ([], rc) := ⟨_, rfl⟩
   rw [<- hst'] at KS HRUN'
   rw [<- hcn4] at KS
   clear hrz hcn4 hR4 hst'
   go_wp2_with fail
   refine KS.O.mono ?_
   rintro e w5 ⟨rfl, ⟨nowV5, nextV5, hrn5⟩, he5⟩
   have HR5 := aa hrn5
   have HE5 := aa (HE4.O.trans he5)
   have hr5 : BK w5 w.heap.size (.cells #[.string ⟨#[]⟩, .slice none 0 0, .map none] 56 (0, 0)) := HFO.O.eb (HE4.O.trans he5) (by omega) (by simp)
   obtain ⟨hc5, hf5⟩ := hr5.all
   have hl5 := hr5.lt
   clear hrn5 he5 hr5
   by_cases h0 : st'.1.length = 0
   ·have hd : decide (0 < st'.1.length) = false := by simp [h0]
    rw [hd]
    have hn : res = none := by have h1 := HRUN'.O; rw [if_pos h0] at h1; exact h1.symm
    subst hn
    clear h0 hd
    go_wp2_with fail
    refine bodyPost_ret (v := .tuple #[.agg #[.string ⟨#[]⟩, .slice none 0 0, .map none], .bool false]) (by simp [results, Tryz.results21, go_sem, hc5]) rfl ⟨rfl, ?_⟩
    repeat (refine Ex.setCell ?_ (Or.inr (by simp)) _)
    exact EB.toEx ((EB.ofEx HX1.O (Nat.le_refl _)).trans (HE5.O.mono (by omega) (by simp)))
   ·have hd : decide (0 < st'.1.length) = true := by simp; omega
    rw [hd]
    have hn : lu code s f (a + rz) st' = res := by have h1 := HRUN'.O; rw [if_neg h0] at h1; exact h1
    have HN := aa hn
    clear h0 hd hn hc5 hf5
    go_wp2_with fail
    go_roundg (s.size - (a + rz))
    case measure => omega
    case rel => exact ⟨a + rz, f, _, _, st'.1, st'.2, by omega, by simp, by omega, HN.O, HR5.O, HE5.O⟩
def PT (w : World) : Prop := Lib.TabIs Tryz.prog w "internal/strconv.uint64pow10" .u64 Lib.pow10Tab
def GL (w : World) : Prop := Lib.Utf8Tabs 2 3 w /\ PT w
def KB (lo hi : Nat) (w w1 : World) : Prop := w.heap.size <= w1.heap.size /\ ∀ b, lo <= b -> b < hi -> w1.heap[b]? = w.heap[b]?
def yu (lo hi : Nat) (w : World) (fv : Value) (F : List Lab -> List Lab × Bool) : Prop :=
 hi <= w.heap.size /\ (∃ f a b, fv = .func f a b) /\ ∀ w1, KB lo hi w w1 -> GL w1 -> ∀ q base ls v0, hi <= base -> base <= w1.heap.size -> base <= q -> BK w1 q (.cells #[v0] 250 (0, 0)) -> w1.ownsRow base 167 2 v0 ls.length (aB ls) -> v0.ownBlock ≠ some q -> LOK ls ->
  Calls Tryz.prog 124 #[.agg #[fv], .pointer (some ⟨q, 0, none⟩)] w1 fun x w' => x = .returned (.bool (F ls).2) /\ LT w' q base (F ls).1 /\ LOK (F ls).1 /\ EB base [] w1 w'
structure Fit (code : List Ins) (ng : Nat) : Prop where
 ok : cP code
 tk : eF code
 le : code.length <= 100000
 pos : 0 < code.length
 ng5 : ng <= 5
def eqB (a b : ByteArray) : Bool := a.toList == b.toList
def xD (l : Lab) : Value := .agg #[.string l.1, .string l.2]
end Go.Proofs.YtfnanjbleifjkaaGreatDoor.G
namespace Go.Proofs.YtfnanjbleifjkaaGreatDoor
open Go.RowKit
end Go.Proofs.YtfnanjbleifjkaaGreatDoor
namespace Go.Proofs.YtfnanjbleifjkaaGreatDoor.G
open Go.RowKit
end Go.Proofs.YtfnanjbleifjkaaGreatDoor.G
namespace Go.Proofs.YtfnanjbleifjkaaGreatDoor
open Go.RowKit
end Go.Proofs.YtfnanjbleifjkaaGreatDoor
namespace Go.Proofs.YtfnanjbleifjkaaGreatDoor.G
variable {t : ByteArray} {l : List Ins}
open Go.RowKit
def gV (t : ByteArray) : List Ins := match bg t with | .ok p _ => bx p | .bad _ => []
def iD (t : ByteArray) : Nat := match bg t with | .ok _ s => s.g | .bad _ => 0
def wu (t : ByteArray) : List (ByteArray × Nat) := match bg t with | .ok _ s => s.nm | .bad _ => []
def iR (t : ByteArray) : Bool := oR t && decide (iD t <= 5) && decide (t.size <= 60)
theorem xl (h : iR t = true) : Fit (gV t) (iD t) := by
 simp only [iR, Bool.and_eq_true, decide_eq_true_eq] at h
 obtain ⟨⟨h1, h2⟩, h3⟩ := h
 unfold oR at h1
 unfold gV
 cases hr : bg t with
 |bad s => rw [hr] at h1; simp at h1
 |ok p s =>
  rw [hr] at h1
  simp only [Bool.and_eq_true, decide_eq_true_eq] at h1
  obtain ⟨c1, c2⟩ := mX h1.2
  have hl := gR p
  exact ⟨c1, c2, by show (bx p).length <= 100000; have := h1.1.2; omega, by show 0 < (bx p).length; omega, h2⟩
theorem xC {w : World} {x : EV} (hev : w.cell? ⟨0, 0, none⟩ = some (.iface x.1 x.2)) (h : iR t = true) (w1 : World) (hx : Ex [] w w1) :
  Calls Tryz.prog 20 #[.string t] w1 fun e w' => ∃ q, e = .returned (.tuple #[.pointer (some ⟨q, 0, none⟩), .int .i64 0, .bool true]) /\ PG w' q w1.heap.size (gV t) (iD t) (wu t) /\ Ex [] w1 w' := by
 simp only [iR, Bool.and_eq_true, decide_eq_true_eq] at h
 obtain ⟨p, s, hr, hc⟩ := ui (w := w1) (x := x) ((hx.cell0.1 _ _ (dK hev)).trans hev) h.2 (NP.all t) h.1.1
 have e1 : gV t = bx p := by unfold gV; rw [hr]
 have e2 : iD t = s.g := by unfold iD; rw [hr]
 have e3 : wu t = s.nm := by unfold wu; rw [hr]
 rw [e1, e2, e3]
 exact hc
def F1 (ss : List ByteArray) (se re : ByteArray) : List Lab -> List Lab × Bool := fun ls => (ls, (dC (gV re) (sa ls ss se)).isSome)
def F2 (ss : List ByteArray) (se re : ByteArray) : List Lab -> List Lab × Bool := fun ls => (ls, !(dC (gV re) (sa ls ss se)).isSome)
def F3 (ss : List ByteArray) (se ta : ByteArray) : List Lab -> List Lab × Bool := fun ls => (ls, eqB (sa ls ss se) (xR ls ta))
def F4 (ss : List ByteArray) (se ta : ByteArray) : List Lab -> List Lab × Bool := fun ls => (ls, !eqB (sa ls ss se) (xR ls ta))
def F7 (re : ByteArray) : List Lab -> List Lab × Bool := fun ls => (ls.filter fun l => !(dC (gV re) l.1).isSome, true)
def F8 (re : ByteArray) : List Lab -> List Lab × Bool := fun ls => (ls.filter fun l => (dC (gV re) l.1).isSome, true)
mutual
theorem nP : ∀ p : Pt, POK p -> isz p <= 6 * wt p /\ (1 <= wt p -> isz p + 1 <= 6 * wt p)
 |.single c, _ => ⟨by show 1 <= 6 * 1; decide, fun _ => by show 2 <= 6 * 1; decide⟩
 |.seq l, h => nD l h
 |.alt l, h => by
  obtain ⟨h1, h2⟩ := nD l h.1
  have h3 := h.2
  show b5 l + 2 * (l.length - 1) <= 6 * (wtL l + l.length - 1) /\ (1 <= wtL l + l.length - 1 -> b5 l + 2 * (l.length - 1) + 1 <= 6 * (wtL l + l.length - 1))
  by_cases h0 : wtL l = 0
  ·omega
  ·have := h2 (by omega)
   omega
 |.wrap q g, h => by
  obtain ⟨h1, h2⟩ := nP q h.1
  show (if g = 0 then isz q else isz q + 2) <= 6 * (wt q + 1) /\ (1 <= wt q + 1 -> (if g = 0 then isz q else isz q + 2) + 1 <= 6 * (wt q + 1))
  split <;> omega
 |.count q le mo z, h => by
  obtain ⟨h1, h2⟩ := nP q h.1
  have h3 := h2 h.2.1
  obtain ⟨_, c2⟩ := h.2.2
  dsimp only at c2
  show (if mo = -1 then isz q * le + (isz q + 4) else isz q * le + (isz q + 1) * more le mo) <= 6 * (wt q * (if mo = -1 then le + 1 else mo.toNat) + 1) /\ (1 <= wt q * (if mo = -1 then le + 1 else mo.toNat) + 1 -> (if mo = -1 then isz q * le + (isz q + 4) else isz q * le + (isz q + 1) * more le mo) + 1 <= 6 * (wt q * (if mo = -1 then le + 1 else mo.toNat) + 1))
  by_cases hm : mo = -1
  ·rw [if_pos hm, if_pos hm]
   have h4 := Nat.mul_le_mul_right (le + 1) h3
   simp only [Nat.add_mul, Nat.mul_add, Nat.mul_one, Nat.one_mul, Nat.mul_assoc] at h4 ⊢
   omega
  ·rw [if_neg hm, if_neg hm]
   obtain ⟨d, hd⟩ := exq (more le mo)
   have e : mo.toNat = le + d := by rw [hd]; unfold more; omega
   rw [<- hd, e]
   have h4 := Nat.mul_le_mul_right d h3
   have h5 := Nat.mul_le_mul_right le h3
   simp only [Nat.add_mul, Nat.mul_add, Nat.mul_one, Nat.one_mul, Nat.mul_assoc] at h4 h5 ⊢
   omega
theorem nD : ∀ l : List Pt, iV l -> b5 l <= 6 * wtL l /\ (1 <= wtL l -> b5 l + 1 <= 6 * wtL l)
 | [], _ => ⟨Nat.zero_le _, fun h => absurd h (by show ¬ 1 <= 0; omega)⟩
 |p :: l, h => by
  obtain ⟨h1, h2⟩ := nP p h.1
  obtain ⟨h3, h4⟩ := nD l h.2
  show isz p + b5 l <= 6 * (wt p + wtL l) /\ (1 <= wt p + wtL l -> isz p + b5 l + 1 <= 6 * (wt p + wtL l))
  by_cases h0 : wt p = 0
  ·by_cases h5 : wtL l = 0
   ·omega
   ·have := h4 (by omega); omega
  ·have := h2 (by omega); omega
end
structure IOK (n : Nat) (i : Ins) : Prop where
 t0 : 0 <= i.t0 /\ i.t0 <= n
 t1 : 0 <= i.t1 /\ i.t1 <= n
 sl : 0 <= i.sl /\ i.sl < 64
 op : i.op = 0 \/ i.op = 1 \/ i.op = 2 \/ i.op = 3 \/ i.op = 4 \/ i.op = 5
def COK (l : List Ins) : Prop := ∀ (j : Nat) (i : Ins), l[j]? = some i -> IOK l.length i
theorem IOK.up {n m : Nat} {i : Ins} (h : IOK n i) (hm : n <= m) : IOK m i := ⟨by have := h.t0; omega, by have := h.t1; omega, h.sl, h.op⟩
theorem COK.snoc {i : Ins} (h : COK l) (hi : IOK (l.length + 1) i) : COK (l ++ [i]) := fun j x hx => by
 rw [List.length_append]
 show IOK (l.length + 1) x
 rcases Nat.lt_or_ge j l.length with hj | hj
 ·rw [List.getElem?_append_left hj] at hx
  exact (h j x hx).up (Nat.le_succ _)
 ·rw [List.getElem?_append_right hj] at hx
  have hm := List.mem_of_getElem? hx
  rw [List.mem_singleton] at hm
  rw [hm]; exact hi
theorem COK.way (h : COK l) (k : Nat) (s : Bool) (n : Nat) (hn : n <= l.length) : COK (eO l k s n) := fun j x hx => by
 rw [em]
 unfold eO at hx
 rw [List.getElem?_modify] at hx
 cases hj : l[j]? with
 |none => rw [hj] at hx; simp at hx
 |some i =>
  rw [hj] at hx
  have hi := h j i hj
  have hx2 : (if k = j then i.way s n else i) = x := by simpa using hx
  clear hx
  split at hx2
  ·subst hx2
   unfold Ins.way
   split
   ·exact ⟨hi.t0, ⟨by show (0 : Int) <= (n : Int); omega, by show (n : Int) <= _; omega⟩, hi.sl, hi.op⟩
   ·exact ⟨⟨by show (0 : Int) <= (n : Int); omega, by show (n : Int) <= _; omega⟩, hi.t1, hi.sl, hi.op⟩
  ·subst hx2; exact hi
theorem iH (n : Nat) (op : Int) (h : op = 0 \/ op = 1 \/ op = 2 \/ op = 3 \/ op = 4 \/ op = 5) : IOK n (bare op) := ⟨⟨Int.le_refl _, by show (0 : Int) <= n; omega⟩, ⟨Int.le_refl _, by show (0 : Int) <= n; omega⟩, by show (0 : Int) <= 0 /\ (0 : Int) < 64; omega, h⟩
theorem COK.fork (h : COK l) (z : Bool) : COK (df z l) := (h.snoc (iH _ 1 (by simp))).way _ _ _ (by simp)
theorem COK.leave (h : COK l) (z : Bool) (k : Nat) : COK (db z k l) := h.way _ _ _ (Nat.le_refl _)
theorem COK.land (h : COK l) (k : Nat) : COK (hH k l) := h.way _ _ _ (Nat.le_refl _)
theorem COK.leaves (z : Bool) : ∀ (ks : List Nat) (l : List Ins), COK l -> COK (ks.foldl (fun l k => db z k l) l)
 | [], l, h => h
 |k :: ks, l, h => COK.leaves z ks _ (h.leave z k)
theorem COK.lands : ∀ (ks : List Nat) (l : List Ins), COK l -> COK (ks.foldl (fun l k => hH k l) l)
 | [], l, h => h
 |k :: ks, l, h => COK.lands ks _ (h.land k)
theorem COK.iters {f : List Ins -> List Ins} (hf : ∀ l, COK l -> COK (f l)) : ∀ (n : Nat) (l : List Ins), COK l -> COK (fI f n l)
 | 0, l, h => h
 |n + 1, l, h => COK.iters hf n _ (hf l h)
theorem COK.itersF {f : List Ins -> List Ins} (hf : ∀ l, COK l -> COK (f l)) (z : Bool) : ∀ (n : Nat) (ks : List Nat) (l : List Ins), COK l -> COK (dc f z n ks l).2
 | 0, ks, l, h => h
 |n + 1, ks, l, h => COK.itersF hf z n _ _ (hf _ (h.fork z))
theorem oY (n g : Nat) (hg : g < 64) : IOK n (ic g) := ⟨⟨Int.le_refl _, by show (0 : Int) <= n; omega⟩, ⟨Int.le_refl _, by show (0 : Int) <= n; omega⟩, by show (0 : Int) <= (g : Int) /\ (g : Int) < 64; omega, by simp [ic]⟩
mutual
theorem eB : ∀ p : Pt, POK p -> ∀ l, COK l -> COK (be p l)
 |.single c, _, l, h => by
  rw [be]
  exact h.snoc ⟨⟨Int.le_refl _, by show (0 : Int) <= _; omega⟩, ⟨Int.le_refl _, by show (0 : Int) <= _; omega⟩, by show (0 : Int) <= 0 /\ (0 : Int) < 64; omega, .inl rfl⟩
 |.seq ps, hp, l, h => by rw [be]; exact l9 ps hp l h
 |.alt ps, hp, l, h => by rw [be]; exact COK.lands _ _ (mV ps hp.1 [] l h)
 |.wrap p g, hp, l, h => by
  rw [be]
  have hg := hp.2
  split
  ·exact eB p hp.1 l h
  ·exact (eB p hp.1 _ (h.snoc (oY _ _ (by omega)))).snoc (oY _ _ (by omega))
 |.count p le mo z, hp, l, h => by
  rw [be]
  have hf := eB p hp.1
  have hi := COK.iters hf le l h
  split
  ·unfold pI
   have h1 := (hf _ ((hi.fork z).snoc (iH _ 4 (by simp)))).snoc (iH _ 5 (by simp))
   have hlen : (fI (be p) le l).length <= (be p (df z (fI (be p) le l) ++ [bare 4]) ++ [bare 5]).length := by
    rw [List.length_append, aM, List.length_append, bn]
    omega
   refine (h1.snoc ⟨⟨?_, ?_⟩, ⟨Int.le_refl _, by show (0 : Int) <= _; omega⟩, by show (0 : Int) <= 0 /\ (0 : Int) < 64; omega, by simp [eD]⟩).leave z _
   ·show (0 : Int) <= ((fI (be p) le l).length : Int)
    omega
   ·show ((fI (be p) le l).length : Int) <= _
    omega
  ·exact COK.leaves z _ _ (COK.itersF hf z _ _ _ hi)
theorem l9 : ∀ ps : List Pt, iV ps -> ∀ l, COK l -> COK (dV ps l)
 | [], _, l, h => by rw [dV]; exact h
 |p :: ps, hp, l, h => by rw [dV]; exact l9 ps hp.2 _ (eB p hp.1 l h)
theorem mV : ∀ ps : List Pt, iV ps -> ∀ js l, COK l -> COK (dz ps js l).2
 | [], _, js, l, h => by rw [dz]; exact h
 | [p], hp, js, l, h => by rw [dz]; exact eB p hp.1 l h
 |p :: q :: ps, hp, js, l, h => by
  rw [dz]
  exact mV (q :: ps) hp.2 _ _ (((eB p hp.1 _ (h.fork false)).snoc (iH _ 2 (by simp))).leave false _)
end
theorem sd (p : Pt) (hp : POK p) : cP (bx p) /\ eF (bx p) := by
 have hc := eB p hp [] (fun j i h => by simp at h)
 have hl : (bx p).length = (be p []).length + 1 := by simp [bx]
 have key : ∀ k i, (bx p)[k]? = some i -> (k < (be p []).length /\ IOK (be p []).length i) \/ i = bare 6 := fun k i hi => by
  unfold bx at hi
  rcases Nat.lt_or_ge k (be p []).length with hk | hk
  ·rw [List.getElem?_append_left hk] at hi
   exact .inl ⟨hk, hc k i hi⟩
  ·rw [List.getElem?_append_right hk] at hi
   have hm := List.mem_of_getElem? hi
   rw [List.mem_singleton] at hm
   exact .inr hm
 refine ⟨fun k i hi => ?_, fun k i hi h0 => ?_⟩
 ·rcases key k i hi with ⟨hk, h⟩ | rfl
  ·have a0 := h.t0
   have a1 := h.t1
   have a2 := h.sl
   rcases h.op with h1 | h1 | h1 | h1 | h1 | h1
   ·exact .inl h1
   ·exact .inr (.inr (.inl ⟨h1, ⟨i.t0.toNat, by omega, by omega⟩, i.t1.toNat, by omega, by omega⟩))
   ·exact .inr (.inr (.inr (.inl ⟨h1, i.t0.toNat, by omega, by omega⟩)))
   ·exact .inr (.inr (.inr (.inr (.inl ⟨h1, by omega, i.sl.toNat, by omega, by omega⟩))))
   ·exact .inr (.inr (.inr (.inr (.inr (.inl ⟨h1, by omega⟩)))))
   ·exact .inr (.inr (.inr (.inr (.inr (.inr ⟨h1, by omega⟩)))))
  ·exact .inr (.inl rfl)
 ·rcases key k i hi with ⟨hk, h⟩ | rfl
  ·omega
  ·cases h0
theorem tL {code : List Ins} (h : cP code) (h2 : eF code) : jY code = true := by
 unfold jY
 rw [List.all_eq_true]
 intro k hk
 cases hc : code[k]? with
 |none => rfl
 |some i =>
  dsimp only
  rw [Bool.and_eq_true]
  constructor
  ·simp only [oD, Bool.or_eq_true, Bool.and_eq_true, beq_iff_eq, decide_eq_true_eq]
   rcases h k i hc with h1 | h1 | ⟨h1, ⟨a, ha, hal⟩, b, hb, hbl⟩ | ⟨h1, a, ha, hal⟩ | ⟨h1, hk1, a, ha, hal⟩ | ⟨h1, hk1⟩ | ⟨h1, hk1⟩
   ·exact .inl (.inl (.inl (.inl (.inl (.inl h1)))))
   ·exact .inl (.inl (.inl (.inl (.inl (.inr h1)))))
   ·exact .inl (.inl (.inl (.inl (.inr ⟨⟨⟨⟨h1, by omega⟩, by omega⟩, by omega⟩, by omega⟩))))
   ·exact .inl (.inl (.inl (.inr ⟨⟨h1, by omega⟩, by omega⟩)))
   ·exact .inl (.inl (.inr ⟨⟨⟨h1, hk1⟩, by omega⟩, by omega⟩))
   ·exact .inl (.inr ⟨h1, hk1⟩)
   ·exact .inr ⟨h1, hk1⟩
  ·by_cases h0 : i.op = 0
   ·rw [Bool.or_eq_true]
    exact .inr (decide_eq_true (h2 k i hc h0))
   ·rw [Bool.or_eq_true]
    exact .inl (by simpa using h0)
mutual
theorem nV : ∀ q : Pt, WOK q -> iM q = true
 |.single _, _ => rfl
 |.seq l, h => by simp only [iM, Bool.and_eq_true, decide_eq_true_eq]; exact ⟨⟨oy l h.1, h.2.1⟩, h.2.2⟩
 |.alt l, h => by simp only [iM, Bool.and_eq_true, decide_eq_true_eq]; exact ⟨⟨⟨oy l h.1, h.2.1⟩, h.2.2.1⟩, h.2.2.2⟩
 |.wrap q k, h => by simp only [iM, Bool.and_eq_true, decide_eq_true_eq]; exact ⟨⟨nV q h.1, h.2.1⟩, h.2.2⟩
 |.count q le mo z, h => by simp only [iM, Bool.and_eq_true, decide_eq_true_eq]; exact ⟨⟨⟨⟨⟨nV q h.1, h.2.1⟩, h.2.2.1⟩, h.2.2.2.1⟩, h.2.2.2.2.1⟩, h.2.2.2.2.2⟩
theorem oy : ∀ l : List Pt, nX l -> lB l = true
 | [], _ => rfl
 |q :: l, h => by simp only [lB, Bool.and_eq_true]; exact ⟨nV q h.1, oy l h.2⟩
end
theorem ux (ht : t.size <= 60) {p : Pt} {s : RS} (h : bg t = .ok p s) (hw : wt p <= 120) : iR t = true := by
 obtain ⟨h1, h2, h3⟩ := ji ht h
 obtain ⟨c1, c2⟩ := sd p h2
 have hz := (nP p h2).1
 unfold iR oR iD
 rw [h]
 simp only [Bool.and_eq_true, decide_eq_true_eq]
 exact ⟨⟨⟨⟨⟨nV p h1, hw⟩, by omega⟩, tL c1 c2⟩, h3⟩, ht⟩
end Go.Proofs.YtfnanjbleifjkaaGreatDoor.G
