/- R7 R8a R8, one behind the other. -/
import Derived.Test.YtgmjjhmnchefbaaGreatDoorM24
import Derived.Handy
import Derived.Laws.OwnMore
import Derived.Deep.RegionLaw
import Derived.Test.YtgmjjhmnchefbaaGreatDoorShelf
import Derived.Deep.RegionHeld3
set_option linter.unusedVariables false
set_option linter.unusedSimpArgs false
/- A run: places that are unset, and the spans of a match. -/
namespace Go.Proofs.YtgmjjhmnchefbaaGreatDoor.G
open Go.RowKit

def unsetS : List Int := [-1, -1, -1, -1, -1, -1, -1, -1, -1, -1]
set_option maxHeartbeats 2000000 in
set_option maxRecDepth 100000 in
theorem unset_any (w : World) : Calls Tryz.prog 28 #[] w fun e w' => e = .returned (.agg (ints unsetS).toArray) ∧ Ex [] w w' := by
  go_enter Tryz.func28, Tryz.ntmps28
  go_wp2_with fail
  go_rounds 11
  refine bodyPost_ret (v := .agg (ints unsetS).toArray) (by simp [results, Tryz.results28, go_sem, unsetS, ints]) rfl ⟨rfl, ?_⟩
  repeat (first | exact Ex.refl _ _ | refine Ex.setCell ?_ (Or.inr (by simp)) _ | refine Ex.alloc ?_ _)

def spanL (l : List (Int × Int)) : List Value := l.flatMap fun y => [.int .i64 y.1, .int .i64 y.2]
theorem spanL_snoc (l : List (Int × Int)) (y : Int × Int) : spanL (l ++ [y]) = spanL l ++ [.int .i64 y.1, .int .i64 y.2] := by simp [spanL]
def spanAt (sl : List Int) (k : Nat) : Int × Int := (sl.getD (2 * k) 0, sl.getD (2 * k + 1) 0)
def spansM (len : Int) (sl : List Int) (ng : Nat) : List (Int × Int) := (0, len) :: (List.range ng).map (spanAt sl)
theorem spansM_succ (len : Int) (sl : List Int) (k : Nat) : spansM len sl (k + 1) = spansM len sl k ++ [spanAt sl k] := by simp [spansM, List.range_succ]
theorem spansM_len (len : Int) (sl : List Int) (k : Nat) : (spansM len sl k).length = k + 1 := by simp [spansM]
theorem infoSpan : (Tryz.prog.info? 156).map (fun i => (i.zero, i.size, i.bytes)) = some (some (.agg #[.int .i64 0, .int .i64 0]), 2, 16) := by kernel_rfl

set_option maxHeartbeats 4000000 in
set_option maxRecDepth 100000 in
theorem spans_any (q : Nat) (v0 v1 v2 v4 : Value) (ng : Nat) (hng : ng ≤ 5) (sl : List Int) (hsl : sl.length = 10) (len : Int) (w : World) (hq : BK w q (.cells #[v0, v1, v2, .int .i64 (ng : Int), v4] 90 (0, 0))) :
    Calls Tryz.prog 32 #[.pointer (some ⟨q, 0, none⟩), .agg (ints sl).toArray, .int .i64 len] w fun e w' => ∃ v, e = .returned v ∧ w'.ownsRow w.heap.size 156 2 v (ng + 1) (spanL (spansM len sl ng)) ∧ Ex [] w w' := by
  obtain ⟨t0, hi, hz0, hz1, hz2⟩ := info_parts infoSpan
  obtain ⟨hcq, hfq⟩ := hq.all
  have hql := hq.lt
  have h90 := Tryz.underlying95
  clear hq
  go_enter Tryz.func32, Tryz.ntmps32
  go_wp2_with fail
  go_loopg [7, 16] ng (fun gk s7 i16 wr => ∃ (j : Nat), j + gk = ng ∧ i16 = .int .i64 j ∧ wr.ownsRow (w.heap.size + 1) 156 2 s7 (j + 1) (spanL (spansM len sl j)) ∧ BK wr w.heap.size (.cells (ints sl).toArray 95 (0, 0)) ∧ Ex [] w wr)
  case atStart =>
    refine ⟨0, by omega, rfl, ?_, ?_, ((Ex.refl _ _).alloc _).alloc _⟩
    · have h1 := World.ownsRow_lit (base := w.heap.size + 1) (e := 156) (size := 2) (w.alloc (Obj.cells (ints sl).toArray 95)) #[.int .i64 0, .int .i64 len] 1 (by simp) (by decide) (by simp)
      simpa [spanL, spansM] using h1
    · exact (BK.new _ _).alloc _
  case round =>
    obtain ⟨j, hj, rfl, hown, hbs, hx⟩ := hrel
    have HO := hide hown
    have HB := hide hbs
    have HX := hide hx
    cases gk with
    | zero =>
      obtain rfl : j = ng := by omega
      clear hown hbs hx hj
      go_wp2_with fail
      go_ret
      exact ⟨_, rfl, own_lower HO.out (by omega), HX.out⟩
    | succ g =>
      obtain ⟨p, c, rfl⟩ := own_slice hown
      have hjn : (j : Int) < (ng : Int) := by omega
      have hj5 : j < 5 := by omega
      obtain ⟨i2, hi2⟩ : ∃ i2, i2 = 2 * j := ⟨_, rfl⟩
      have e1 : IntKind.i64.wrap (2 * (j : Int)) = (i2 : Int) := by
        have : j = 0 ∨ j = 1 ∨ j = 2 ∨ j = 3 ∨ j = 4 := by omega
        rcases this with rfl | rfl | rfl | rfl | rfl <;> subst hi2 <;> rfl
      obtain ⟨i3, hi3⟩ : ∃ i3, i3 = 2 * j + 1 := ⟨_, rfl⟩
      have e2 : IntKind.i64.wrap ((i2 : Int) + 1) = (i3 : Int) := by
        have : j = 0 ∨ j = 1 ∨ j = 2 ∨ j = 3 ∨ j = 4 := by omega
        rcases this with rfl | rfl | rfl | rfl | rfl <;> subst hi2 <;> subst hi3 <;> rfl
      have e4 : (i3 : Int) < 10 := by omega
      have e3 : (i2 : Int) < 10 := by omega
      obtain ⟨hcb, hfb⟩ := hbs.all
      obtain ⟨x, hx0⟩ : ∃ x, x = sl.getD (2 * j) 0 := ⟨_, rfl⟩
      obtain ⟨y, hy0⟩ : ∃ y, y = sl.getD (2 * j + 1) 0 := ⟨_, rfl⟩
      have k0 : wr.cell? ⟨w.heap.size, i2, none⟩ = some (.int .i64 x) := by
        rw [hi2, hcb, List.getElem?_toArray, ints_at, hx0, List.getD_eq_getElem?_getD, List.getElem?_eq_getElem (by omega)]; rfl
      have k1 : wr.cell? ⟨w.heap.size, i3, none⟩ = some (.int .i64 y) := by
        rw [hi3, hcb, List.getElem?_toArray, ints_at, hy0, List.getD_eq_getElem?_getD, List.getElem?_eq_getElem (by omega)]; rfl
      have hxs : spanAt sl j = (x, y) := by rw [hx0, hy0]; rfl
      have HXS := hide hxs
      have hbl := hbs.lt
      have hwl := hx.size
      clear hown hbs hx hcb hfb hx0 hy0 hxs hcq hfq hi2 hi3
      have HN : Hid (∀ i u, [Value.int .i64 x, .int .i64 y][i]? = some u → (wr.alloc (Obj.cells #[.int .i64 x, .int .i64 y] 156)).drew.cell? ((⟨wr.heap.size, 0, none⟩ : Addr).add i) = some u) := World.news_of_block (BK.drew (BK.new _ _))
      go_wp2_with fail
      go_region_law (refine step_append_lies _ rfl (.tmp 19) (.tmp 30) 22 rfl (w.heap.size + 1) 156 t0 _ 2 16 Tryz.underlying22 hi hz0 hz1 hz2 rfl (by decide) (.slice p (j + 1) c) (j + 1) (spanL (spansM len sl j)) (by simp [Act.eval, Act.put]) (World.ownsRow.drew (HO.out.alloc _)) ⟨wr.heap.size, 0, none⟩ 1 1 [.int .i64 x, .int .i64 y] (by simp [Act.eval, Act.put]) rfl HN.out (by simp [Value.oneCell']) (by decide) (by unfold maxLen; omega) (by omega) (by simp; omega) _ rfl ?_; intro g0 cap w1 hown1 hgrow hat hlt)
      all_goals
        have HB1 := hide (BK.grown (HB.out.alloc (Obj.cells #[.int .i64 x, .int .i64 y] 156)).drew hgrow (fun e => by have := own_block HO.out _ e; omega))
        have HO1 := hide hown1
        have HG1 := hide hgrow
        clear hown1 hgrow hat
        go_wp2_with fail
        go_roundg g
        case measure => omega
        case rel =>
          refine ⟨j + 1, by omega, by simp, ?_, HB1.out, ?_⟩
          · rw [spansM_succ, spanL_snoc, HXS.out]
            exact HO1.out
          · refine Ex.grown ((HX.out.alloc _).drew) HG1.out (fun k hk => Or.inr ?_)
            have := own_block HO.out k hk
            omega
end Go.Proofs.YtgmjjhmnchefbaaGreatDoor.G

/- Runes of a string; the mirror of a match. -/
namespace Go.Proofs.YtgmjjhmnchefbaaGreatDoor.G
open Go.Lib

def rsz (s : ByteArray) (a : Nat) : Nat := (Lib.decodeGo (s.extract a s.size)).2
def rune (s : ByteArray) (a : Nat) : Nat := (Lib.decodeGo (s.extract a s.size)).1
theorem size_extract (s : ByteArray) (a e : Nat) (he : e ≤ s.size) : (s.extract a e).size = e - a := by
  rw [Lib.size_eq, Lib.extract_data, List.length_take, List.length_drop, ← Lib.size_eq]
  omega
theorem dN_ge (n b0 b1 b2 b3 : Nat) : 1 ≤ (decodeN n b0 b1 b2 b3).2 := by
  unfold decodeN
  repeat' split
  all_goals simp
theorem dN_le (n b0 b1 b2 b3 : Nat) (hn : 1 ≤ n) : (decodeN n b0 b1 b2 b3).2 ≤ n := by
  unfold decodeN
  repeat' split
  all_goals (simp only; omega)
theorem rsz_dec (s : ByteArray) (a : Nat) (h : a < s.size) :
    rsz s a = (decodeN (s.size - a) ((s.extract a s.size).get! 0).toNat ((s.extract a s.size).get! 1).toNat ((s.extract a s.size).get! 2).toNat ((s.extract a s.size).get! 3).toNat).2 := by
  have hz := size_extract s a s.size (Nat.le_refl _)
  unfold rsz decodeGo
  rw [if_neg (by omega), decode_at, hz]
  simp
theorem rs_all (s : ByteArray) : ∀ a, a < s.size → 1 ≤ rsz s a ∧ a + rsz s a ≤ s.size := by
  intro a h
  rw [rsz_dec s a h]
  exact ⟨dN_ge _ _ _ _ _, by have := dN_le (s.size - a) ((s.extract a s.size).get! 0).toNat ((s.extract a s.size).get! 1).toNat ((s.extract a s.size).get! 2).toNat ((s.extract a s.size).get! 3).toNat (by omega); omega⟩

def runM (code : List Ins) (s : ByteArray) : Nat → Nat → List Th × List Int → Option (List Int)
  | 0, _, st => acceptM code st.1
  | f + 1, a, st => if a < s.size then
      if (stepL code (rune s a) ((a + rsz s a : Nat) : Int) st.1 ([], st.2)).1.length = 0 then none else runM code s f (a + rsz s a) (stepL code (rune s a) ((a + rsz s a : Nat) : Int) st.1 ([], st.2))
    else acceptM code st.1
def matchM (code : List Ins) (s : ByteArray) : Option (List Int) := runM code s s.size 0 (followM unsetS 0 (wys (waysM code (0, 0))) ([], List.replicate code.length (-1)))
theorem runM_end (code : List Ins) (s : ByteArray) (f : Nat) (st : List Th × List Int) : runM code s f s.size st = acceptM code st.1 := by
  cases f with
  | zero => rfl
  | succ f => simp [runM]
theorem accept_ten (code : List Ins) (n : Nat) : ∀ ts : List Th, TOK n ts → ∀ sl, acceptM code ts = some sl → sl.length = 10
  | [], _, sl, h => by cases h
  | t :: ts, ht, sl, h => by
    unfold acceptM at h
    split at h
    · cases h; exact (ht t (List.mem_cons_self ..)).1
    · exact accept_ten code n ts (fun y hy => ht y (List.mem_cons_of_mem _ hy)) sl h

theorem tabs_eb {B : Nat} {w w' : World} (h : Lib.Utf8Tabs 2 3 w) (hx : EB B [] w w') (hB : 3 < B) : Lib.Utf8Tabs 2 3 w' :=
  ⟨fun c hc => (hx.cell (by omega)).trans (h.1 c hc), fun i hi => ⟨(hx.cell (by omega)).trans (h.2 i hi).1, (hx.cell (by omega)).trans (h.2 i hi).2⟩⟩
theorem tabs_ex {w w' : World} (h : Lib.Utf8Tabs 2 3 w) (hx : Ex [] w w') : Lib.Utf8Tabs 2 3 w' := tabs_eb h (EB.ofEx hx (Nat.le_refl _)) (World.block_lt_of_cell? w _ (h.2 0 (by omega)).1)
theorem tabs_lt {w : World} (h : Lib.Utf8Tabs 2 3 w) : 3 < w.heap.size := World.block_lt_of_cell? w _ (h.2 0 (by omega)).1
end Go.Proofs.YtgmjjhmnchefbaaGreatDoor.G

/- Pattern.Match, at any program and any string. -/
namespace Go.Proofs.YtgmjjhmnchefbaaGreatDoor.G
open Go.RowKit

def foundV (s : ByteArray) (v : Value) (mb : Nat) : Value := .agg #[.string s, v, .map (some mb)]
def MatchPost (w : World) (s : ByteArray) (ng : Nat) (nm : List (ByteArray × Nat)) (m : Option (List Int)) (e : Ending) (w' : World) : Prop :=
  match m with
  | some sl => ∃ v mb, e = .returned (.tuple #[foundV s v mb, .bool true]) ∧ w'.ownsRow w.heap.size 156 2 v (ng + 1) (spanL (spansM s.size sl ng)) ∧ BK w' mb (.map (nmE nm) nm.length) ∧ sl.length = 10
  | none => e = .returned (.tuple #[.agg #[.string ⟨#[]⟩, .slice none 0 0, .map none], .bool false])

set_option maxHeartbeats 8000000 in
set_option maxRecDepth 100000 in
theorem Match_any (q base : Nat) (code : List Ins) (ng : Nat) (nm : List (ByteArray × Nat)) (s : ByteArray) (w : World) (hp : PG w q base code ng nm) (hok : CodeOK code) (htk : TakeOK code) (hcl : code.length ≤ 100000) (hpos : 0 < code.length) (hng : ng ≤ 5) (hs : s.size ≤ 9223372036854775807) (hT : Lib.Utf8Tabs 2 3 w) :
    Calls Tryz.prog 11 #[.pointer (some ⟨q, 0, none⟩), .string s] w fun e w' => MatchPost w s ng nm (matchM code s) e w' ∧ Ex [] w w' := by
  have HPG := hide hp
  have HT := hide hT
  have H1 := hide (rs_all s)
  have htl := tabs_lt hT
  obtain ⟨cg, cc, sp, sc, B, mb, hpx⟩ := hp.px hpos
  have HPX := hide hpx
  have HOK := hide hok
  have HTK := hide htk
  obtain ⟨res, hres⟩ : ∃ res, res = matchM code s := ⟨_, rfl⟩
  have HRES0 := hide hres
  rw [← hres]
  clear hp hT hpx hok htk hres
  go_enter Tryz.func11, Tryz.ntmps11
  go_wp2_with fail
  refine (newRun_any q base code ng nm _ (HPG.out.ex' ((Ex.refl _ _).alloc _)) hcl).mono ?_
  rintro e w1 ⟨u, gr, rfl, hgl, hgu, hul, hbu, hrc, hx1⟩
  simp only [World.size_alloc] at hgl
  have hx01 : Ex [] w w1 := ((Ex.refl _ _).alloc _).trans hx1
  have hz1 := hx01.size
  have hp1 := HPX.out.eb (EB.ofEx hx01 (Nat.le_refl _))
  have hfo : BK w1 w.heap.size (.cells #[.string ⟨#[]⟩, .slice none 0 0, .map none] 40 (0, 0)) := (BK.new _ _).ex hx1 (by simp)
  obtain ⟨l, hl⟩ : ∃ l, l = waysM code (0, 0) := ⟨_, rfl⟩
  obtain ⟨ln, hln⟩ : ∃ ln, ln = l.length := ⟨_, rfl⟩
  obtain ⟨cn, hcn⟩ : ∃ cn, cn = code.length := ⟨_, rfl⟩
  have hwk := ways_ok code HOK.out (0, 0) hpos (by simp)
  have s1 : w1.cell? ⟨q, 1, none⟩ = some (.slice sp ln sc) := by rw [hln, hl]; exact hp1.blk.all.1 1
  have hwa := hp1.start
  rw [← hl, ← hcn] at hwk
  rw [← hl] at hwa
  obtain ⟨gw, hgw, hpa, hwc⟩ : ∃ gw, gw < w.heap.size ∧ (wys l ≠ [] → sp = some ⟨gw, 0, none⟩) ∧ ∀ j, j < (wys l).length * 2 → w1.cell? ⟨gw, j, none⟩ = (wayL (wys l))[j]? := by
    by_cases hnil : l = []
    · subst hnil
      exact ⟨q, hp1.qt, fun h => absurd rfl h, fun j hj => by simp [wys] at hj⟩
    · obtain ⟨gw, h1, h2, h3⟩ := hwa hnil
      exact ⟨gw, h2, fun _ => h1, fun j hj => by rw [wys_L]; exact h3 j (by rwa [wys_len] at hj)⟩
  have hrc' : BK w1 gr (.cells (ints (List.replicate cn (-1))).toArray 3 (0, 0)) := by rw [hcn]; exact hrc
  rw [← hcn] at hbu
  have HX1 := hide hx01
  have HP1 := hide hp1
  have HU1 := hide hbu
  have HG1 := hide hrc'
  have HFO := hide hfo
  have HPA := hide hpa
  have HWC := hide hwc
  have HWK := hide hwk
  have HCN := hide hcn
  have HL := hide hl
  have HLN := hide hln
  have hqt := hp1.qt
  have hcl' : cn ≤ 100000 := by omega
  clear hx1 hx01 hp1 hfo hbu hrc hrc' hwa hwk hpa hwc hcn hl hln
  have hwl : l.length ≤ 2 * cn := HWK.out.2
  have KF := hide (fun (w2 : World) (hx2 : Ex [] w1.drew w2) => follow_any u gr gw sc cn w1.heap.size sp 0 (.pointer (some ⟨q, 0, none⟩)) (.slice none 0 0) (.slice none 0 0) w2 (List.replicate cn (-1)) [] (wys l) unsetS rfl (World.ownsRow_nil _ _ _ _) (HU1.out.drew.ex hx2 (by simp)) (HG1.out.drew.ex hx2 (by simp)) (by simp) hcl' (by rw [wys_len]; simp; omega) (wys_to HWK.out.1) hul (by omega) (by omega) hx2.size HPA.out (fun j hj => (hx2.cell0.1 gw j (show gw < w1.heap.size by omega)).trans (HWC.out j hj)) (by omega) (by omega) (by omega))
  rw [wys_len, ← HLN.out] at KF
  go_wp2_with fail
  go_region_held3 (fun w' => w'.cell? ⟨q, 1, none⟩ = some (.slice sp ln sc))
    (first | exact q3 | exact q2 | exact s1)
    (first
      | (go_at_call 28; refine (unset_any _).mono ?_; rintro e w2 ⟨rfl, hx2⟩; have q2 := (hx2.cell0.1 q 1 (show q < w1.heap.size by omega)).trans s1)
      | (go_at_call 27; refine (KF.out _ hx2).mono ?_; rintro e w3 ⟨rfl, nowV', hu3, ho3, hg3, hx3, hor3⟩; have q3 := (hx3.cell.1 q 1 (by have h0 : w1.heap.size ≤ w2.heap.size := hx2.size; omega) (by simp [Value.ownBlock]; omega)).trans q2))
  have hz2 : w1.heap.size ≤ w2.heap.size := hx2.size
  have hz3 := hx3.size
  have e13 : EB (w.heap.size + 1) [] w1 w3 := (((EB.refl (w.heap.size + 1) [] w1).drew).trans (EB.ofEx hx2 (show w.heap.size + 1 ≤ w1.heap.size by omega))).trans ((EB.ofEx hx3 (by omega)).mono (Nat.le_refl _) (fun x hx hlt => by simp [Value.ownBlock] at hx; omega))
  have hfok := followM_ok unsetS rfl 0 cn (wys l) ([], List.replicate cn (-1)) (wys_to HWK.out.1) (by simp) (fun _ h => by simp at h) (by simp)
  obtain ⟨st, hst⟩ : ∃ st, st = followM unsetS 0 (wys l) ([], List.replicate cn (-1)) := ⟨_, rfl⟩
  rw [← hst] at hfok ho3 hg3
  have rn3 : RunG w3 u gr w1.heap.size q cn nowV' (.slice none 0 0) st.1 st.2 := ⟨hu3, ho3, ⟨0, [], World.ownsRow_nil _ _ _ _⟩, fun b _ h => by simp [Value.ownBlock] at h, hg3, hfok.1, hfok.2.1, by have h1 := List.count_le_length (a := (0 : Int)) (l := st.2); have h2 := hfok.2.2; have h3 := hfok.1; omega, hul, by omega, by omega, by omega⟩
  have hrm : runM code s s.size 0 st = res := by rw [HRES0.out, hst, HL.out, HCN.out]; rfl
  have E13 := hide e13
  have RN3 := hide rn3
  have HRM := hide hrm
  have HPX' := hide (HP1.out.up (show w.heap.size ≤ w.heap.size + 1 by omega))
  clear e13 rn3 hu3 ho3 hg3 hx3 hx2 hor3 q2 q3 s1 hfok hst hrm
  go_wp2_with fail
  go_loopg [7] s.size (fun gk at7 wr => ∃ (a f : Nat) (nowV nextV : Value) (ts : List Th) (rc : List Int), a + gk = s.size ∧ at7 = .int .i64 a ∧ gk ≤ f ∧ runM code s f a (ts, rc) = res ∧ RunG wr u gr w1.heap.size q cn nowV nextV ts rc ∧ EB (w.heap.size + 1) [] w1 wr)
  case atStart => exact ⟨0, s.size, _, _, st.1, st.2, by omega, rfl, by omega, HRM.out, RN3.out, E13.out⟩
  case round =>
    obtain ⟨a, f, nowV, nextV, ts, rc, hga, rfl, hgf, hrun, hrn, heb⟩ := hrel
    have HRN := hide hrn
    have HEB := hide heb
    have HRUN := hide hrun
    have hzr : w1.heap.size ≤ wr.heap.size := heb.size
    clear hrn heb hrun
    cases gk with
    | zero =>
      obtain rfl : a = s.size := by omega
      have hacc : acceptM code ts = res := by have h1 := HRUN.out; rw [runM_end] at h1; exact h1
      have hten : ∀ sl, res = some sl → sl.length = 10 := fun sl h => accept_ten code cn ts HRN.out.tok sl (by rw [hacc]; exact h)
      have hpr := HPX'.out.eb HEB.out
      have hrr : BK wr w.heap.size (.cells #[.string ⟨#[]⟩, .slice none 0 0, .map none] 40 (0, 0)) := HFO.out.eb HEB.out (by omega) (by simp)
      obtain ⟨p0, c0, hnv⟩ := own_slice HRN.out.now
      have hbr := HRN.out.blk
      have hnow := HRN.out.now
      rw [hnv] at hbr hnow
      have hpb := hpr.blk
      have KA := hide (accepted_any code u q cg cc w1.heap.size p0 c0 nextV (.slice (some ⟨gr, 0, none⟩) cn cn) _ _ _ _ ts wr hbr hpb (by have := hpr.cgt; omega) hpr.cap hpr.cls hnow (by have := HRN.out.tlen; omega) (fun t ht => (HRN.out.tok t ht).1) (fun t ht => by have := (HRN.out.tok t ht).2; rw [← HCN.out]; exact this))
      rw [hacc] at KA
      have HTEN := hide hten
      have HPR := hide hpr
      have HRR := hide hrr
      clear hga hacc hten hpr hrr hbr hnow hpb hnv hgf
      cases res with
      | some sl =>
        have hsl := HTEN.out sl rfl
        obtain ⟨y0, y1, y2, y3, y4, y5, y6, y7, y8, y9, hy⟩ := ten hsl
        subst hy
        go_wp2_with fail
        refine KA.out.mono ?_
        rintro e w4 ⟨rfl, hx4⟩
        have hr4 := HRR.out.ex hx4 (by simp)
        have hp4 := HPR.out.eb (EB.ofEx hx4 (by omega))
        have HX4 := hide hx4
        have HR4 := hide hr4
        have HP4 := hide hp4
        have hl4 := hr4.lt
        have hz4 := hx4.size
        have h90 := Tryz.underlying95
        have hs90 := size90' [y0, y1, y2, y3, y4, y5, y6, y7, y8, y9] hsl
        clear hx4 hr4 hp4
        rw [show accV (some [y0, y1, y2, y3, y4, y5, y6, y7, y8, y9]) = .tuple #[.agg #[.int .i64 y0, .int .i64 y1, .int .i64 y2, .int .i64 y3, .int .i64 y4, .int .i64 y5, .int .i64 y6, .int .i64 y7, .int .i64 y8, .int .i64 y9], .bool true] from rfl]
        go_wp2_with fail
        generalize hw5 : World.alloc w4 _ = w5
        have hx5 : Ex [] w4 w5 := by rw [← hw5]; exact (Ex.refl _ _).alloc _
        have hb5 : BK w5 w4.heap.size (.cells (ints [y0, y1, y2, y3, y4, y5, y6, y7, y8, y9]).toArray 95 (0, 0)) := by rw [← hw5]; exact BK.new _ _
        have hp5 := HP4.out.eb (EB.ofEx hx5 (by omega))
        have t1 : w5.rangeAt w4.heap.size 0 (ints [y0, y1, y2, y3, y4, y5, y6, y7, y8, y9]) := BK.rangeL hb5
        have t2 : w5.cell? ⟨q, 4, none⟩ = some (.map (some mb)) := hp5.blk.all.1 4
        have hz5 := hx5.size
        have hl5 := hb5.lt
        have HX5 := hide hx5
        have HB5 := hide hb5
        have HP5 := hide hp5
        have HR5 := hide (HR4.out.ex hx5 (by simp))
        have KS := hide (spans_any q _ _ _ _ ng hng [y0, y1, y2, y3, y4, y5, y6, y7, y8, y9] hsl (s.size : Int) w5.drew hp5.blk.drew)
        clear hw5 hx5 hb5 hp5
        go_region_held3 (fun w' => w'.rangeAt w4.heap.size 0 (ints [y0, y1, y2, y3, y4, y5, y6, y7, y8, y9]) ∧ w'.cell? ⟨q, 4, none⟩ = some (.map (some mb)))
          (first | exact ⟨BK.rangeL (((hb6.set (by simp; omega) _).set (by simp; omega) _).set (by simp; omega) _), (((hq6.set (by simp; omega) _).set (by simp; omega) _).set (by simp; omega) _).all.1 4⟩ | exact ⟨BK.rangeL hb6, hq6.all.1 4⟩ | exact ⟨t1, t2⟩)
          (first
            | (go_at_call 32; refine KS.out.mono ?_; rintro e w6 ⟨v6, rfl, ho6, hx6⟩; obtain ⟨p6, c6, rfl⟩ := own_slice ho6; have hb6 := HB5.out.drew.ex hx6 (by simp); have hq6 := HP5.out.blk.drew.ex hx6 (by simp); have hr6 := HR5.out.drew.ex hx6 (by simp); obtain ⟨hc6, hf6⟩ := hr6.all))
        have HO6 := hide ho6
        have HX6 := hide hx6
        have HN6 := hide ((HP5.out.names.drew).ex hx6 (by simp))
        clear hb6 hq6 hr6 hx6 ho6 t1 t2 h90 hs90
        go_wp2_with fail
        refine bodyPost_ret (v := .tuple #[foundV s (.slice p6 (ng + 1) c6) mb, .bool true]) (by simp [results, Tryz.results11, go_sem, hc6, foundV]) rfl ⟨⟨.slice p6 (ng + 1) c6, mb, rfl, ?_, ?_, hsl⟩, ?_⟩
        · have hmm : w.heap.size < w5.heap.size := by omega
          have h1 : w6.ownsRow w5.heap.size 156 2 (.slice p6 (ng + 1) c6) (ng + 1) (spanL (spansM s.size [y0, y1, y2, y3, y4, y5, y6, y7, y8, y9] ng)) := HO6.out
          exact own_lower (own_set (own_set (own_set h1 (by simpa using hmm) _) (by simpa using hmm) _) (by simpa using hmm) _) (by omega)
        · have hm2 := HPX.out.mt
          exact ((HN6.out.set (by simp; omega) _).set (by simp; omega) _).set (by simp; omega) _
        · repeat (refine Ex.setCell ?_ (Or.inr (by simp)) _)
          exact (EB.toEx ((EB.ofEx HX1.out (Nat.le_refl _)).trans (HEB.out.mono (by omega) (by simp)))).trans (HX4.out.trans (HX5.out.trans (((Ex.refl _ _).drew).trans HX6.out)))
      | none =>
        go_wp2_with fail
        refine KA.out.mono ?_
        rintro e w4 ⟨rfl, hx4⟩
        have hr4 := HRR.out.ex hx4 (by simp)
        obtain ⟨hc4, hf4⟩ := hr4.all
        have HX4 := hide hx4
        have hl4 := hr4.lt
        clear hx4 hr4
        rw [show accV none = .tuple #[.agg #[.int .i64 0, .int .i64 0, .int .i64 0, .int .i64 0, .int .i64 0, .int .i64 0, .int .i64 0, .int .i64 0, .int .i64 0, .int .i64 0], .bool false] from rfl]
        go_wp2_with fail
        refine bodyPost_ret (v := .tuple #[.agg #[.string ⟨#[]⟩, .slice none 0 0, .map none], .bool false]) (by simp [results, Tryz.results11, go_sem, hc4, hl4]) rfl ⟨rfl, ?_⟩
        refine Ex.alloc ?_ _
        repeat (refine Ex.setCell ?_ (Or.inr (by simp)) _)
        exact (EB.toEx ((EB.ofEx HX1.out (Nat.le_refl _)).trans (HEB.out.mono (by omega) (by simp)))).trans HX4.out
    | succ g =>
      have ha : a < s.size := by omega
      have ha' : (a : Int) < (s.size : Int) := by omega
      have ha2 : (a : Int) ≤ (s.size : Int) := by omega
      have hz := H1.out a ha
      obtain ⟨f, rfl⟩ : ∃ f', f = f' + 1 := ⟨f - 1, by omega⟩
      go_wp2_with fail
      refine (Tryz.utf8_DecodeRuneInString _ _ (tabs_eb HT.out ((EB.ofEx HX1.out (Nat.le_refl _)).trans (HEB.out.mono (by omega) (by simp))) htl)).mono ?_
      rintro e w4 ⟨rfl, hb4⟩
      rw [show (Lib.decodeGo (s.extract a s.size)).2 = rsz s a from rfl]
      obtain ⟨rn, hrn⟩ : ∃ rn, (Lib.decodeGo (s.extract a s.size)).1 = rn := ⟨_, rfl⟩
      have HRNE := hide hrn
      rw [hrn]
      clear hrn
      have hx4 := Ex.below hb4
      have hp4 := HPX'.out.eb (HEB.out.trans (EB.ofEx hx4 (by omega)))
      have HE4 := hide (HEB.out.trans (EB.ofEx hx4 (by omega)))
      have HR4 := hide (HRN.out.ex hx4)
      have HP4 := hide hp4
      have hrun' : (if (stepL code rn ((a + rsz s a : Nat) : Int) ts ([], rc)).1.length = 0 then none else runM code s f (a + rsz s a) (stepL code rn ((a + rsz s a : Nat) : Int) ts ([], rc))) = res := by
        have h1 := HRUN.out
        rw [runM, if_pos ha, show rune s a = rn from HRNE.out] at h1
        exact h1
      have HRUN' := hide hrun'
      clear hb4 hx4 hp4 hrun'
      obtain ⟨rz, hrz⟩ : ∃ rz, rz = rsz s a := ⟨_, rfl⟩
      rw [← hrz] at hz HRUN' ⊢
      have hpl : ((a + rz : Nat) : Int) = (a : Int) + (rz : Int) := by simp
      rw [hpl] at HRUN'
      have hcn4 := HCN.out
      have hR4 := HR4.out
      rw [hcn4] at hR4
      have KS := hide (step_any code HOK.out HTK.out hcl u gr w1.heap.size q (w.heap.size + 1) ng cg cc sc B mb sp nm (rn : Int) ((a : Int) + (rz : Int)) nowV nextV w4 ts rc HP4.out hR4 (by omega) (by omega) (by omega))
      obtain ⟨st', hst'⟩ : ∃ st', st' = stepL code (rn : Int) ((a : Int) + (rz : Int)) ts ([], rc) := ⟨_, rfl⟩
      rw [← hst'] at KS HRUN'
      rw [← hcn4] at KS
      clear hrz hcn4 hR4 hst'
      go_wp2_with fail
      refine KS.out.mono ?_
      rintro e w5 ⟨rfl, ⟨nowV5, nextV5, hrn5⟩, he5⟩
      have HR5 := hide hrn5
      have HE5 := hide (HE4.out.trans he5)
      have hr5 : BK w5 w.heap.size (.cells #[.string ⟨#[]⟩, .slice none 0 0, .map none] 40 (0, 0)) := HFO.out.eb (HE4.out.trans he5) (by omega) (by simp)
      obtain ⟨hc5, hf5⟩ := hr5.all
      have hl5 := hr5.lt
      clear hrn5 he5 hr5
      by_cases h0 : st'.1.length = 0
      · have hd : decide (0 < st'.1.length) = false := by simp [h0]
        rw [hd]
        have hn : res = none := by have h1 := HRUN'.out; rw [if_pos h0] at h1; exact h1.symm
        subst hn
        clear h0 hd
        go_wp2_with fail
        refine bodyPost_ret (v := .tuple #[.agg #[.string ⟨#[]⟩, .slice none 0 0, .map none], .bool false]) (by simp [results, Tryz.results11, go_sem, hc5]) rfl ⟨rfl, ?_⟩
        repeat (refine Ex.setCell ?_ (Or.inr (by simp)) _)
        exact EB.toEx ((EB.ofEx HX1.out (Nat.le_refl _)).trans (HE5.out.mono (by omega) (by simp)))
      · have hd : decide (0 < st'.1.length) = true := by simp; omega
        rw [hd]
        have hn : runM code s f (a + rz) st' = res := by have h1 := HRUN'.out; rw [if_neg h0] at h1; exact h1
        have HN := hide hn
        clear h0 hd hn hc5 hf5
        go_wp2_with fail
        go_roundg (s.size - (a + rz))
        case measure => omega
        case rel => exact ⟨a + rz, f, _, _, st'.1, st'.2, by omega, by simp, by omega, HN.out, HR5.out, HE5.out⟩
end Go.Proofs.YtgmjjhmnchefbaaGreatDoor.G
