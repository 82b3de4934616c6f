/- T18 JQ1 JQ2, one behind the other. -/
import Derived.Test.YtmeffeigamaipaaDoorM37
import Derived.Deep.RegionHeld3
import Derived.Test.YtmeffeigamaipaaDoorM28
import Derived.Test.YtmeffeigamaipaaDoorM01
import Derived.Test.YtmeffeigamaipaaDoorM05
import Derived.Deep.DeepCutAuto
import Derived.Test.YtmeffeigamaipaaDoorM40
set_option linter.unusedVariables false
set_option linter.unusedSimpArgs false
/- retag.Match and is, at a pattern that is good; short. -/
namespace Go.Proofs.YtmeffeigamaipaaDoor.G
open Go.RowKit

set_option maxHeartbeats 1000000 in
theorem short_any (s : ByteArray) (n : Nat) (w : World) (hs : s.size ≤ 9223372036854775807) (hn : n ≤ 1000) :
    Calls Tryd.prog 7 #[.string s, .int .i64 n] w fun x w' => ∃ s', x = .returned (.string s') ∧ s'.size ≤ n ∧ w' = w := by
  by_cases h : (n : Int) < (s.size : Int)
  · have h1 : (n : Int) ≤ (s.size : Int) := by omega
    go_enter Tryd.func7, Tryd.ntmps7
    go_wp2_with fail
    go_ret
    refine ⟨s.extract 0 n, by simp, ?_, rfl⟩
    rw [ByteArray.size_extract]; omega
  · go_enter Tryd.func7, Tryd.ntmps7
    go_wp2_with fail
    go_ret
    exact ⟨s, rfl, by omega, rfl⟩
theorem spanL_len (l : List (Int × Int)) : (spanL l).length = l.length * 2 := by
  induction l with
  | nil => rfl
  | cons x l ih =>
    have h : spanL (x :: l) = [.int .i64 x.1, .int .i64 x.2] ++ spanL l := rfl
    rw [h, List.length_append, ih]
    simp; omega
theorem spanL_plain (l : List (Int × Int)) : ∀ u ∈ spanL l, u.oneCell' = true := fun u hu => by
  simp only [spanL, List.mem_flatMap] at hu
  obtain ⟨y, _, hy⟩ := hu
  simp at hy
  rcases hy with rfl | rfl <;> rfl
set_option maxHeartbeats 2000000 in
set_option maxRecDepth 100000 in
theorem Spans_any (s : ByteArray) (mb g c base : Nat) (l : List (Int × Int)) (w : World) (ho : w.ownsRow base 41 2 (.slice (some ⟨g, 0, none⟩) l.length c) l.length (spanL l)) (hl0 : 0 < l.length) (hl : l.length ≤ 1000) :
    Calls Tryd.prog 16 #[.agg #[.string s, .slice (some ⟨g, 0, none⟩) l.length c, .map (some mb)]] w fun e w' => ∃ v, e = .returned v ∧ w'.ownsRow w.heap.size 41 2 v l.length (spanL l) ∧ Ex [] w w' := by
  obtain ⟨t0, hi, hz0, hz1, hz2⟩ := info_parts infoSpan
  have hcell := fun j u hj => own_cell (j := j) (u := u) ho hj
  have hgl : g < w.heap.size := (ho.lt g rfl).2
  obtain ⟨xs, hxs⟩ : ∃ xs, xs = spanL l := ⟨_, rfl⟩
  have hxl : xs.length = l.length * 2 := by rw [hxs]; exact spanL_len l
  have hxp : ∀ u ∈ xs, u.oneCell' = true := by rw [hxs]; exact spanL_plain l
  rw [← hxs] at hcell ⊢
  obtain ⟨n, hn⟩ : ∃ n, n = l.length := ⟨_, rfl⟩
  rw [← hn] at hxl hl hl0 ⊢
  have HN : Hid (∀ j u, xs[j]? = some u → (w.alloc (Obj.cells #[.string s, .slice (some ⟨g, 0, none⟩) n c, .map (some mb)] 47)).cell? ((⟨g, 0, none⟩ : Addr).add j) = some u) := fun j u hj => by
    have h1 := (((Ex.refl [] w).alloc (Obj.cells #[.string s, .slice (some ⟨g, 0, none⟩) n c, .map (some mb)] 47)).cell0.1 g j hgl).trans (hcell j u hj)
    rw [Addr.add_lit, Nat.zero_add]; exact h1
  have HXP := hide hxp
  have HXL := hide hxl
  clear ho hcell hxs hn hxp hxl
  go_enter Tryd.func16, Tryd.ntmps16
  go_wp2_with (at_builtin; refine wpList_append_lies _ rfl _ (.tmp 4) 36 rfl w.heap.size 41 t0 _ 2 16 Tryd.underlying36 hi hz0 hz1 hz2 rfl (by decide) (.slice none 0 0) 0 [] rfl (World.ownsRow_nil _ _ _ _) ⟨g, 0, none⟩ n c xs rfl HXL.out HN.out HXP.out hl0 (by unfold maxLen; omega) (by omega) (by simp) _ rfl ?_)
  intro g1 cap w1 hown hgrow _ _
  have HO := hide hown
  have HG : Hid (Ex [] w w1) := Ex.grown ((Ex.refl _ _).alloc _) hgrow (by simp [Value.ownBlock])
  clear hown hgrow
  go_wp2_with fail
  go_ret
  refine ⟨_, rfl, ?_, HG.out⟩
  have h1 := HO.out
  simpa using h1
set_option maxHeartbeats 2000000 in
theorem Spans_none (w : World) :
    Calls Tryd.prog 16 #[.agg #[.string ⟨#[]⟩, .slice none 0 0, .map none]] w fun e w' => e = .returned (.slice none 0 0) ∧ Ex [] w w' := by
  go_enter Tryd.func16, Tryd.ntmps16
  go_wp2_with fail
  go_ret
  exact ⟨rfl, (Ex.refl _ _).alloc _⟩

def RMPost (w : World) (s : ByteArray) (ng : Nat) (m : Option (List Int)) (e : Ending) (w' : World) : Prop := match m with
  | some sl => ∃ v, e = .returned (.tuple #[v, .bool true, .int .i64 0, .int .i64 0]) ∧ w'.ownsRow w.heap.size 41 2 v (ng + 1) (spanL (spansM s.size sl ng))
  | none => e = .returned (.tuple #[.slice none 0 0, .bool false, .int .i64 0, .int .i64 0])
set_option maxHeartbeats 2000000 in
set_option maxRecDepth 100000 in
theorem RMatch_tb (t s : ByteArray) (x : EV) (w : World) (hev : w.cell? ⟨0, 0, none⟩ = some (.iface x.1 x.2)) (hp : goodP t = true) (hg : Lib.Utf8Tabs 1 2 w) (hs : s.size ≤ 9223372036854775807) :
    Calls Tryd.prog 13 #[.string t, .string s] w fun e w' => RMPost w s (patN t) (matchM (patC t) s) e w' ∧ Ex [] w w' := by
  have KR := hide (readsP hev hp w (Ex.refl _ _))
  have HG := hide hg
  have hf := fit_of hp
  have HF := hide hf
  obtain ⟨m, hm⟩ : ∃ m, m = matchM (patC t) s := ⟨_, rfl⟩
  rw [← hm]
  have HM := hide hm
  obtain ⟨ng, hng⟩ : ∃ ng, ng = patN t := ⟨_, rfl⟩
  rw [← hng] at KR HF ⊢
  have hng5 := hf.ng5
  rw [← hng] at hng5
  clear hev hp hg hf hm hng
  go_enter Tryd.func13, Tryd.ntmps13
  go_wp2_with fail
  refine KR.out.mono ?_
  rintro e w1 ⟨q, rfl, hpg, hx1⟩
  have KM := hide (Match_any q w.heap.size (patC t) ng (patM t) s w1 hpg HF.out.ok HF.out.tk HF.out.le HF.out.pos HF.out.ng5 hs (tabs_ex HG.out hx1))
  rw [← HM.out] at KM
  have HX1 := hide hx1
  have hz1 := hx1.size
  clear hpg hx1
  go_wp2_with fail
  refine KM.out.mono ?_
  rintro e w2 ⟨hpost, hx2⟩
  have HX2 := hide hx2
  have hz2 := hx2.size
  clear hx2
  cases m with
  | none =>
    obtain rfl := hpost
    go_wp2_with fail
    refine (Spans_none _).mono ?_
    rintro e w3 ⟨rfl, hx3⟩
    have HX3 := hide hx3
    clear hx3
    go_wp2_with fail
    refine bodyPost_ret (v := .tuple #[.slice none 0 0, .bool false, .int .i64 0, .int .i64 0]) (by simp [results, Tryd.results13, go_sem]) rfl ⟨rfl, ?_⟩
    exact HX1.out.trans (HX2.out.trans (((Ex.refl _ _).alloc _).trans HX3.out))
  | some sl =>
    obtain ⟨v, mb, rfl, ho, _, _⟩ := hpost
    obtain ⟨g, c, rfl, hgb, hgl, hgc, _, _⟩ := own_cells ho (by omega)
    have hl := spansM_len s.size sl ng
    have KS := hide (fun o => Spans_any s mb g c w1.heap.size (spansM s.size sl ng) (w2.alloc o) (by rw [hl]; exact ho.alloc o) (by omega) (by omega))
    rw [hl] at KS
    unfold foundV
    clear ho
    go_wp2_with fail
    refine (KS.out _).mono ?_
    rintro e w3 ⟨v3, rfl, ho3, hx3⟩
    have HX3 := hide hx3
    have HO := hide ho3
    have hz3 := hx3.size
    simp only [World.size_alloc] at hz3
    clear hx3 ho3
    go_wp2_with fail
    refine bodyPost_ret (v := .tuple #[v3, .bool true, .int .i64 0, .int .i64 0]) (by simp [results, Tryd.results13, go_sem]) rfl ⟨⟨v3, rfl, own_base HO.out (by simp; omega)⟩, ?_⟩
    exact HX1.out.trans (HX2.out.trans (((Ex.refl _ _).alloc _).trans HX3.out))

set_option maxHeartbeats 2000000 in
set_option maxRecDepth 100000 in
theorem is_any (t s : ByteArray) (x : EV) (w : World) (hev : w.cell? ⟨0, 0, none⟩ = some (.iface x.1 x.2)) (hp : goodP t = true) (hg : Lib.Utf8Tabs 1 2 w) (hs : s.size ≤ 9223372036854775807) :
    Calls Tryd.prog 8 #[.string t, .string s] w fun e w' => e = .returned (.tuple #[.bool (matchM (patC t) s).isSome, .bool true]) ∧ Ex [] w w' := by
  have KR := hide (RMatch_tb t s x w hev hp hg hs)
  obtain ⟨m, hm⟩ : ∃ m, m = matchM (patC t) s := ⟨_, rfl⟩
  rw [← hm] at KR ⊢
  clear hev hp hg hm
  go_enter Tryd.func8, Tryd.ntmps8
  go_wp2_with fail
  refine KR.out.mono ?_
  rintro e w1 ⟨hpost, hx1⟩
  have HX1 := hide hx1
  clear hx1
  cases m with
  | none =>
    obtain rfl := hpost
    go_wp2_with fail
    go_ret2
    exact ⟨rfl, HX1.out⟩
  | some sl =>
    obtain ⟨v, rfl, ho⟩ := hpost
    obtain ⟨g, c, rfl, hgb, hgl, hgc, hcell, _⟩ := own_cells ho (by omega)
    have j0 : w1.cell? ⟨g, 0, none⟩ = some (.int .i64 0) := by rw [hcell 0 (by omega)]; rfl
    have j1 : w1.cell? ⟨g, 1, none⟩ = some (.int .i64 s.size) := by rw [hcell 1 (by omega)]; rfl
    obtain ⟨n, hn⟩ : ∃ n, n = patN t + 1 := ⟨_, rfl⟩
    have hn0 : ¬ ((n : Int) = 0) := by omega
    have hn1 : ((n : Int) == 0) = false := by rw [beq_eq_false_iff_ne]; exact hn0
    have hn2 : (0 : Int) < (n : Int) := by omega
    rw [← hn]
    clear ho hcell hn
    go_wp2_with fail
    go_ret2
    exact ⟨rfl, HX1.out⟩
end Go.Proofs.YtmeffeigamaipaaDoor.G

/- shape: a pattern out of raw bytes. -/
namespace Go.Proofs.YtmeffeigamaipaaDoor.G
open Go.RowKit

theorem atom_look (i : Nat) (h : i < 12) : [Value.string ⟨#[97]⟩, .string ⟨#[98]⟩, .string ⟨#[46]⟩, .string ⟨#[92, 100]⟩, .string ⟨#[92, 119]⟩, .string ⟨#[49]⟩, .string ⟨#[92, 46]⟩, .string ⟨#[92, 87]⟩, .string ⟨#[95]⟩, .string ⟨#[99]⟩, .string ⟨#[92, 83]⟩, .string ⟨#[92, 68]⟩][i]? = some (.string (bA (atomT i))) := by
  have : i = 0 ∨ i = 1 ∨ i = 2 ∨ i = 3 ∨ i = 4 ∨ i = 5 ∨ i = 6 ∨ i = 7 ∨ i = 8 ∨ i = 9 ∨ i = 10 ∨ i = 11 := by omega
  rcases this with rfl | rfl | rfl | rfl | rfl | rfl | rfl | rfl | rfl | rfl | rfl | rfl <;> rfl
theorem cnt_look (i : Nat) (h : i < 4) : [Value.string ⟨#[42]⟩, .string ⟨#[63]⟩, .string ⟨#[43, 63]⟩, .string ⟨#[63, 63]⟩][i]? = some (.string (bA (cntT i))) := by
  have : i = 0 ∨ i = 1 ∨ i = 2 ∨ i = 3 := by omega
  rcases this with rfl | rfl | rfl | rfl <;> rfl
theorem raw_ne {raw : ByteArray} (h0 : ¬ raw.size = 0) : (raw.toList == []) = false := by
  cases h : raw.toList == [] with
  | false => rfl
  | true =>
    exfalso
    have h1 : raw.toList = [] := by simpa using h
    have := congrArg List.length h1
    rw [ByteArray.toList_eq, Array.length_toList] at this
    exact h0 this
theorem raw_nil {raw : ByteArray} (h0 : raw.size = 0) : raw = ⟨#[]⟩ := by
  apply ByteArray.ext
  exact Array.eq_empty_of_size_eq_zero h0
theorem jq_size (s : ByteArray) : (s.extract 1 s.size).size = s.size - 1 := by
  rw [Lib.size_eq, Lib.extract_data, List.length_take, List.length_drop, ← Lib.size_eq]
  omega
theorem wrap_d (d : Nat) (hd : d ≤ 1) : IntKind.i64.wrap ((d : Int) + 1 - 1) = (d : Int) := by
  have : d = 0 ∨ d = 1 := by omega
  rcases this with rfl | rfl <;> rfl
theorem alt_text (a b : List UInt8) : bA ([40, 63, 58] ++ (a ++ 124 :: b) ++ [41]) = ⟨#[40, 63, 58]⟩ ++ bA a ++ ⟨#[124]⟩ ++ bA b ++ ⟨#[41]⟩ := by
  rw [show [40, 63, 58] ++ (a ++ 124 :: b) ++ [41] = [40, 63, 58] ++ a ++ [124] ++ b ++ [41] by simp, bA_app, bA_app, bA_app, bA_app]
  rfl
def ShapeP (d : Nat) (n : Nat) (w : World) (e : Ending) (w' : World) : Prop := ∃ b r, e = .returned (.tuple #[.string (bA b), .string r]) ∧ Shp d b ∧ r.size ≤ n ∧ Ex [] w w'
set_option maxHeartbeats 4000000 in
set_option maxRecDepth 100000 in
theorem shape_zero (raw : ByteArray) (w : World) (hr : raw.size ≤ 9223372036854775807) :
    Calls Tryd.prog 6 #[.string raw, .int .i64 0] w (ShapeP 0 raw.size w) := by
  by_cases h0 : raw.size = 0
  · obtain rfl := raw_nil h0
    go_enter Tryd.func6, Tryd.ntmps6
    go_wp2_with fail
    refine bodyPost_ret (v := .tuple #[.string ⟨#[97]⟩, .string ⟨#[]⟩]) (by simp [results, Tryd.results6, go_sem]) rfl ?_
    exact ⟨[97], _, rfl, .atom 0 0 (by omega), Nat.le_refl _, Ex.refl _ _⟩
  · have hne := raw_ne h0
    have h1 : 0 < raw.size := by omega
    have h1i : (1 : Int) ≤ (raw.size : Int) := by omega
    have hlk := atom_look (raw[0].toNat % 12) (by omega)
    have hrest : (raw.extract 1 raw.size).size ≤ raw.size := by rw [jq_size raw]; omega
    go_enter Tryd.func6, Tryd.ntmps6
    go_wp2_with fail
    refine bodyPost_ret (v := .tuple #[.string (bA (atomT (raw[0].toNat % 12))), .string (raw.extract 1 raw.size)]) (by simp [results, Tryd.results6, go_sem]) rfl ?_
    exact ⟨_, _, rfl, .atom 0 _ (by omega), hrest, ((Ex.refl _ _).alloc _).alloc _⟩
set_option maxHeartbeats 8000000 in
set_option maxRecDepth 100000 in
theorem shape_succ (d : Nat) (hd : d ≤ 1) (K : ∀ (raw : ByteArray) (w : World), raw.size ≤ 9223372036854775807 → Calls Tryd.prog 6 #[.string raw, .int .i64 (d : Int)] w (ShapeP d raw.size w)) (raw : ByteArray) (w : World) (hr : raw.size ≤ 9223372036854775807) :
    Calls Tryd.prog 6 #[.string raw, .int .i64 ((d : Int) + 1)] w (ShapeP (d + 1) raw.size w) := by
  have HK := hide K
  clear K
  by_cases h0 : raw.size = 0
  · obtain rfl := raw_nil h0
    go_enter Tryd.func6, Tryd.ntmps6
    go_wp2_with fail
    refine bodyPost_ret (v := .tuple #[.string ⟨#[97]⟩, .string ⟨#[]⟩]) (by simp [results, Tryd.results6, go_sem]) rfl ?_
    exact ⟨[97], _, rfl, .atom _ 0 (by omega), Nat.le_refl _, Ex.refl _ _⟩
  · have hne := raw_ne h0
    have h1 : 0 < raw.size := by omega
    have h1i : (1 : Int) ≤ (raw.size : Int) := by omega
    have hrest : (raw.extract 1 raw.size).size ≤ raw.size := by rw [jq_size raw]; omega
    have hc256 : raw[0].toNat < 256 := UInt8.toNat_lt _
    have hd0 : ¬ (d : Int) + 1 = 0 := by omega
    have hdw := wrap_d d hd
    have hq : raw[0].toNat / 64 = 0 ∨ raw[0].toNat / 64 = 1 ∨ raw[0].toNat / 64 = 2 ∨ raw[0].toNat / 64 = 3 := by omega
    rcases hq with hq | hq | hq | hq
    · have hqi : (raw[0].toNat : Int) / 64 = 0 := by omega
      clear hq hc256
      go_enter Tryd.func6, Tryd.ntmps6
      go_wp2_with fail
      refine (HK.out _ _ (by omega)).mono ?_
      rintro e w1 ⟨b, r, rfl, hs, hrl, hx1⟩
      have HX1 := hide ((((Ex.refl _ w).alloc _).alloc _).trans hx1)
      have HS := hide hs
      have HL := hide (Nat.le_trans hrl hrest)
      obtain ⟨B, hB⟩ : ∃ B, B = bA b := ⟨_, rfl⟩
      have hBz : B.size ≤ 23 := by rw [hB, bA_size]; have := hs.len; omega
      have HB := hide hB
      rw [← hB]
      clear hx1 hs hrl hB hrest
      go_wp2_with fail
      refine (HK.out _ _ (by have := HL.out; omega)).mono ?_
      rintro e w2 ⟨c, r2, rfl, hs2, hrl2, hx2⟩
      have HX2 := hide (HX1.out.trans hx2)
      have HS2 := hide hs2
      have HL2 := hide (Nat.le_trans hrl2 HL.out)
      obtain ⟨C, hC⟩ : ∃ C, C = bA c := ⟨_, rfl⟩
      have hCz : C.size ≤ 23 := by rw [hC, bA_size]; have := hs2.len; omega
      have HC := hide hC
      rw [← hC]
      clear hx2 hs2 hrl2 hC
      go_wp2_with fail
      refine bodyPost_ret (v := .tuple #[.string (B ++ C), .string r2]) (by simp [results, Tryd.results6, go_sem]) rfl ?_
      exact ⟨b ++ c, r2, by rw [bA_app, HB.out, HC.out], .cat HS.out HS2.out, HL2.out, HX2.out⟩
    · have hqi : (raw[0].toNat : Int) / 64 = 1 := by omega
      clear hq hc256
      go_enter Tryd.func6, Tryd.ntmps6
      go_wp2_with fail
      refine (HK.out _ _ (by omega)).mono ?_
      rintro e w1 ⟨b, r, rfl, hs, hrl, hx1⟩
      have HX1 := hide ((((Ex.refl _ w).alloc _).alloc _).trans hx1)
      have HS := hide hs
      have HL := hide (Nat.le_trans hrl hrest)
      obtain ⟨B, hB⟩ : ∃ B, B = bA b := ⟨_, rfl⟩
      have hBz : B.size ≤ 23 := by rw [hB, bA_size]; have := hs.len; omega
      have HB := hide hB
      rw [← hB]
      clear hx1 hs hrl hB hrest
      go_wp2_with fail
      refine (HK.out _ _ (by have := HL.out; omega)).mono ?_
      rintro e w2 ⟨c, r2, rfl, hs2, hrl2, hx2⟩
      have HX2 := hide (HX1.out.trans hx2)
      have HS2 := hide hs2
      have HL2 := hide (Nat.le_trans hrl2 HL.out)
      obtain ⟨C, hC⟩ : ∃ C, C = bA c := ⟨_, rfl⟩
      have hCz : C.size ≤ 23 := by rw [hC, bA_size]; have := hs2.len; omega
      have HC := hide hC
      rw [← hC]
      clear hx2 hs2 hrl2 hC
      go_wp2_with fail
      refine bodyPost_ret (v := .tuple #[.string (⟨#[40, 63, 58]⟩ ++ B ++ ⟨#[124]⟩ ++ C ++ ⟨#[41]⟩), .string r2]) (by simp [results, Tryd.results6, go_sem]) rfl ?_
      exact ⟨_, r2, by rw [alt_text, HB.out, HC.out], .alt HS.out HS2.out, HL2.out, HX2.out⟩
    · have hqi : (raw[0].toNat : Int) / 64 = 2 := by omega
      have hlk := cnt_look (raw[0].toNat % 4) (by omega)
      have KZ := hide (shape_zero (raw.extract 1 raw.size) ((w.alloc (.cells #[.string ⟨#[97]⟩, .string ⟨#[98]⟩, .string ⟨#[46]⟩, .string ⟨#[92, 100]⟩, .string ⟨#[92, 119]⟩, .string ⟨#[49]⟩, .string ⟨#[92, 46]⟩, .string ⟨#[92, 87]⟩, .string ⟨#[95]⟩, .string ⟨#[99]⟩, .string ⟨#[92, 83]⟩, .string ⟨#[92, 68]⟩] 34)).alloc (.cells #[.string ⟨#[42]⟩, .string ⟨#[63]⟩, .string ⟨#[43, 63]⟩, .string ⟨#[63, 63]⟩] 35)) (by omega))
      have hcell : ((w.alloc (.cells #[.string ⟨#[97]⟩, .string ⟨#[98]⟩, .string ⟨#[46]⟩, .string ⟨#[92, 100]⟩, .string ⟨#[92, 119]⟩, .string ⟨#[49]⟩, .string ⟨#[92, 46]⟩, .string ⟨#[92, 87]⟩, .string ⟨#[95]⟩, .string ⟨#[99]⟩, .string ⟨#[92, 83]⟩, .string ⟨#[92, 68]⟩] 34)).alloc (.cells #[.string ⟨#[42]⟩, .string ⟨#[63]⟩, .string ⟨#[43, 63]⟩, .string ⟨#[63, 63]⟩] 35)).cell? ⟨w.heap.size + 1, raw[0].toNat % 4, none⟩ = some (.string (bA (cntT (raw[0].toNat % 4)))) := by
        have h9 := cells_new (w.alloc (.cells #[.string ⟨#[97]⟩, .string ⟨#[98]⟩, .string ⟨#[46]⟩, .string ⟨#[92, 100]⟩, .string ⟨#[92, 119]⟩, .string ⟨#[49]⟩, .string ⟨#[92, 46]⟩, .string ⟨#[92, 87]⟩, .string ⟨#[95]⟩, .string ⟨#[99]⟩, .string ⟨#[92, 83]⟩, .string ⟨#[92, 68]⟩] 34)) #[.string ⟨#[42]⟩, .string ⟨#[63]⟩, .string ⟨#[43, 63]⟩, .string ⟨#[63, 63]⟩] 35 (raw[0].toNat % 4) _ hlk
        rw [Addr.add_lit, Nat.zero_add, show (w.alloc (.cells #[.string ⟨#[97]⟩, .string ⟨#[98]⟩, .string ⟨#[46]⟩, .string ⟨#[92, 100]⟩, .string ⟨#[92, 119]⟩, .string ⟨#[49]⟩, .string ⟨#[92, 46]⟩, .string ⟨#[92, 87]⟩, .string ⟨#[95]⟩, .string ⟨#[99]⟩, .string ⟨#[92, 83]⟩, .string ⟨#[92, 68]⟩] 34)).heap.size = w.heap.size + 1 by simp] at h9
        exact h9
      obtain ⟨W0, hW0⟩ : ∃ W0, W0 = ((w.alloc (.cells #[.string ⟨#[97]⟩, .string ⟨#[98]⟩, .string ⟨#[46]⟩, .string ⟨#[92, 100]⟩, .string ⟨#[92, 119]⟩, .string ⟨#[49]⟩, .string ⟨#[92, 46]⟩, .string ⟨#[92, 87]⟩, .string ⟨#[95]⟩, .string ⟨#[99]⟩, .string ⟨#[92, 83]⟩, .string ⟨#[92, 68]⟩] 34)).alloc (.cells #[.string ⟨#[42]⟩, .string ⟨#[63]⟩, .string ⟨#[43, 63]⟩, .string ⟨#[63, 63]⟩] 35)) := ⟨_, rfl⟩
      have HX0 : Hid (Ex [] w W0) := hide (by rw [hW0]; exact ((Ex.refl _ w).alloc _).alloc _)
      have HCL := hide hcell
      rw [← hW0] at HCL KZ
      have HW0 := hide hW0
      clear hq hc256 hlk hcell hW0
      go_enter Tryd.func6, Tryd.ntmps6
      go_wp2_with fail
      rw [← HW0.out]
      refine KZ.out.mono ?_
      rintro e w1 ⟨b, r, rfl, hs, hrl, hx1⟩
      have hcl1 := (hx1.cell0.1 _ _ (lt_of_cell HCL.out)).trans HCL.out
      have HX1 := hide (HX0.out.trans hx1)
      have HS := hide hs
      have HL := hide (Nat.le_trans hrl hrest)
      obtain ⟨B, hB⟩ : ∃ B, B = bA b := ⟨_, rfl⟩
      have hBz : B.size ≤ 23 := by rw [hB, bA_size]; have := hs.len; omega
      have HB := hide hB
      obtain ⟨C, hC⟩ : ∃ C, C = bA (cntT (raw[0].toNat % 4)) := ⟨_, rfl⟩
      have hCz : C.size ≤ 23 := by rw [hC, bA_size]; have := cntT_len (raw[0].toNat % 4) (by omega); omega
      have HC := hide hC
      rw [← hB]
      rw [← hC] at hcl1
      clear hx1 hs hrl hB hrest hC
      go_wp2_with fail
      refine bodyPost_ret (v := .tuple #[.string (B ++ C), .string r]) (by simp [results, Tryd.results6, go_sem]) rfl ?_
      obtain ⟨i, hi, e1⟩ := HS.out.len0
      exact ⟨atomT i ++ cntT (raw[0].toNat % 4), r, by rw [bA_app, HB.out, HC.out, e1], .cnt d i _ hi (by omega), HL.out, HX1.out⟩
    · have hqi : (raw[0].toNat : Int) / 64 = 3 := by omega
      have hlk := atom_look (raw[0].toNat % 12) (by omega)
      clear hq hc256
      go_enter Tryd.func6, Tryd.ntmps6
      go_wp2_with fail
      refine bodyPost_ret (v := .tuple #[.string (bA (atomT (raw[0].toNat % 12))), .string (raw.extract 1 raw.size)]) (by simp [results, Tryd.results6, go_sem]) rfl ?_
      exact ⟨_, _, rfl, .atom _ _ (by omega), hrest, ((Ex.refl _ _).alloc _).alloc _⟩
theorem shape_two (raw : ByteArray) (w : World) (hr : raw.size ≤ 9223372036854775807) : Calls Tryd.prog 6 #[.string raw, .int .i64 2] w (ShapeP 2 raw.size w) :=
  shape_succ 1 (by omega) (fun raw w hr => shape_succ 0 (by omega) (fun raw w hr => shape_zero raw w hr) raw w hr) raw w hr
end Go.Proofs.YtmeffeigamaipaaDoor.G

/- size and starts: where runes begin. -/
namespace Go.Proofs.YtmeffeigamaipaaDoor.G
open Go.RowKit

set_option maxHeartbeats 4000000 in
set_option maxRecDepth 100000 in
theorem size_any (s : ByteArray) (a : Nat) (x : EV) (w : World) (hs : s.size ≤ 200) (ha : a < s.size) (hev : w.cell? ⟨0, 0, none⟩ = some (.iface x.1 x.2)) (hT : Lib.Utf8Tabs 1 2 w) :
    Calls Tryd.prog 10 #[.string s, .int .i64 a] w fun e w' => e = .returned (.int .i64 (rzN s a)) ∧ Ex [] w w' := by
  have HT := hide hT
  have HEV := hide hev
  have hr4 := rzN_le4 s a
  have hrs := rzN_le s a ha
  have hr1 := rzN_pos s a
  have HP := hide (piece_dot s a)
  obtain ⟨r, hr⟩ : ∃ r, rzN s a = r := ⟨_, rfl⟩
  rw [hr] at hr4 hrs hr1 HP ⊢
  clear hT hr hev
  go_enter Tryd.func10, Tryd.ntmps10
  go_wp2_with fail
  go_loopg [5, 6] 3 (fun gk n5 k6 wr => ∃ (k n : Nat), k + gk = 5 ∧ 2 ≤ k ∧ (n = if r < k then r else 1) ∧ n5 = .int .i64 n ∧ k6 = .int .i64 k ∧ Ex [] w wr)
  case atStart => exact ⟨2, 1, by omega, by omega, by split <;> omega, rfl, rfl, Ex.refl _ _⟩
  case round =>
    obtain ⟨k, n, hgk, hk2, hn, rfl, rfl, hx⟩ := hrel
    have HN := hide hn
    clear hn
    have HX := hide hx
    clear hx
    by_cases hc : k ≤ 4 ∧ a + k ≤ s.size
    · obtain ⟨hc1, hc2⟩ := hc
      have e1 : (k : Int) ≤ 4 := by omega
      have e2 : (a : Int) + (k : Int) ≤ (s.size : Int) := by omega
      have e3 : (a : Int) ≤ (a : Int) + (k : Int) := by omega
      have hz : (s.extract a (a + k)).size = k := by rw [size_extract s a (a + k) hc2]; omega
      go_wp2_with fail
      refine (is_any (bA [46]) (s.extract a (a + k)) x _ ((HX.out.cell0.1 _ _ (lt_of_cell HEV.out)).trans HEV.out) j_dot.1 (tabs_ex HT.out HX.out) (by omega)).mono ?_
      rintro e w1 ⟨rfl, hx1⟩
      have HX1 := hide hx1
      clear hx1
      rw [HP.out k hk2 hc1 hc2]
      by_cases hk : r = k
      · rw [decide_eq_true hk]
        go_wp2_with fail
        go_roundg (4 - k)
        case measure => omega
        case rel => exact ⟨k + 1, k, by omega, by omega, by rw [if_pos (by omega)]; exact hk.symm, rfl, by simp, HX.out.trans HX1.out⟩
      · rw [decide_eq_false hk]
        go_wp2_with fail
        go_roundg (4 - k)
        case measure => omega
        case rel => exact ⟨k + 1, n, by omega, by omega, by have h1 := HN.out; rw [h1]; split <;> split <;> omega, rfl, by simp, HX.out.trans HX1.out⟩
    · have hrk : n = r := by have h1 := HN.out; rw [h1, if_pos (by omega)]
      subst hrk
      by_cases h4 : k ≤ 4
      · have e1 : (k : Int) ≤ 4 := by omega
        have e2 : ¬ (a : Int) + (k : Int) ≤ (s.size : Int) := by omega
        go_wp2_with fail
        go_ret
        exact ⟨rfl, HX.out⟩
      · have e1 : ¬ (k : Int) ≤ 4 := by omega
        go_wp2_with fail
        go_ret
        exact ⟨rfl, HX.out⟩
def StartsP (s : ByteArray) (i : Nat) (w : World) (e : Ending) (w' : World) : Prop := ∃ b, e = .returned (.bool b) ∧ (b = true ↔ Bd s 0 i) ∧ Ex [] w w'
set_option maxHeartbeats 4000000 in
set_option maxRecDepth 100000 in
theorem starts_any (s : ByteArray) (i : Nat) (x : EV) (w : World) (hs : s.size ≤ 200) (hi : i ≤ s.size) (hev : w.cell? ⟨0, 0, none⟩ = some (.iface x.1 x.2)) (hT : Lib.Utf8Tabs 1 2 w) :
    Calls Tryd.prog 9 #[.string s, .int .i64 i] w (StartsP s i w) := by
  have HT := hide hT
  have HEV := hide hev
  clear hT hev
  go_enter Tryd.func9, Tryd.ntmps9
  go_wp2_with fail
  go_loopg [5] i (fun gk n5 wr => ∃ (a : Nat), i ≤ a + gk ∧ a ≤ s.size ∧ n5 = .int .i64 a ∧ (Bd s 0 i ↔ Bd s a i) ∧ Ex [] w wr)
  case atStart => exact ⟨0, by omega, by omega, rfl, Iff.rfl, Ex.refl _ _⟩
  case round =>
    obtain ⟨a, hga, has, rfl, hb, hx⟩ := hrel
    have HX := hide hx
    have HB := hide hb
    clear hx hb
    by_cases hc : a < i
    · have e1 : (a : Int) < (i : Int) := by omega
      have hal : a < s.size := by omega
      go_wp2_with fail
      refine (size_any s a x _ hs hal ((HX.out.cell0.1 _ _ (lt_of_cell HEV.out)).trans HEV.out) (tabs_ex HT.out HX.out)).mono ?_
      rintro e w1 ⟨rfl, hx1⟩
      have HX1 := hide (HX.out.trans hx1)
      have hr4 := rzN_le4 s a
      have hrs := rzN_le s a hal
      have hr1 := rzN_pos s a
      have HB2 := hide (HB.out.trans (Bd.step hc hal))
      obtain ⟨r, hr⟩ : ∃ r, rzN s a = r := ⟨_, rfl⟩
      rw [hr] at hr4 hrs hr1 HB2 ⊢
      clear hr hx1
      go_wp2_with fail
      go_roundg (gk - 1)
      case measure => omega
      case rel => exact ⟨a + r, by omega, by omega, by simp, HB2.out, HX1.out⟩
    · have e1 : ¬ (a : Int) < (i : Int) := by omega
      go_wp2_with fail
      refine bodyPost_ret (v := .bool ((a : Int) == (i : Int))) (by simp [results, Tryd.results9, go_sem]) rfl ?_
      refine ⟨_, rfl, ?_, HX.out⟩
      rw [HB.out, Bd.past (by omega), beq_iff_eq]
      omega
end Go.Proofs.YtmeffeigamaipaaDoor.G
