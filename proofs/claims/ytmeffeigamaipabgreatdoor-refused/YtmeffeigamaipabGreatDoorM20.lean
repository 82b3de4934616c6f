/- F10 F11 E4 F14, one behind the other. -/
import Derived.Test.YtmeffeigamaipabGreatDoorM18
import Derived.Test.YtmeffeigamaipabGreatDoorM19
import Derived.Test.YtmeffeigamaipabGreatDoorM12
set_option linter.unusedVariables false
set_option linter.unusedSimpArgs false
/- Contracts: a series rewritten by one rule that raises a text. -/
namespace Go.Proofs.YtmeffeigamaipabGreatDoor
open Go.RowKit

set_option maxHeartbeats 2000000 in
set_option maxRecDepth 100000 in
theorem rewrite_raise (e rb rc b1 b2 : Nat) (p : Option Addr) (c : Nat) (a1 se : ByteArray) (pp : Option Addr) (ta rp : ByteArray) (mo : Int) (mp : Value) (ls : List Lab) (w : World) (he : BK w e (.cells #[.slice (some ⟨rb, 0, none⟩) 1 rc, mp] 69 (0, 0))) (hrb : w.cell? ⟨rb, 0, none⟩ = some (upFn b1 b2)) (hru : RU w w.heap.size b1 b2 p c a1 se pp ta rp mo)
    (hn : ls.length ≤ 20) (hsrt : SortedFor ls a1) (hsrt2 : SortedFor ls ta) (hvs : (valN ls a1).size ≤ 200) (hl' : (setL ls ta (upperA (valN ls a1))).length ≤ 1000) :
    Calls Tryz.prog 33 #[.pointer (some ⟨e, 0, none⟩), serV ls] w fun x w' => ∃ v, x = .returned (ansV v true) ∧
      w'.ownsRow w.heap.size 48 2 v (setL ls ta (upperA (valN ls a1))).length (cellsOfL (setL ls ta (upperA (valN ls a1)))) ∧ Ex [] w w' := by
  have HE := hide he
  have HRB := hide hrb
  have HRU := hide hru
  have hel := he.lt
  have hrbl : rb < w.heap.size := by
    by_cases hb : rb < w.heap.size
    · exact hb
    · have h2 : w.heap[rb]? = none := Array.getElem?_eq_none (by omega)
      simp [World.cell?, h2] at hrb
  have hlen := serC_len hn
  have hser : serV ls = .agg (serC ls).toArray := rfl
  rw [hser]
  clear hser
  obtain ⟨S, hS⟩ : ∃ S, S = serC ls := ⟨_, rfl⟩
  rw [← hS] at hlen ⊢
  have HS := hide hS
  have hisz : (Tryz.prog.info? 72).map (·.size) = some S.length := by rw [hlen]; kernel_rfl
  have HI := hide hisz
  obtain ⟨ls', hls'⟩ : ∃ ls', setL ls ta (upperA (valN ls a1)) = ls' := ⟨_, rfl⟩
  have HLS := hide hls'
  rw [hls'] at hl' ⊢
  have HSR := hide hsrt
  have HSR2 := hide hsrt2
  have HVS := hide hvs
  clear he hS hlen hisz hrb hru hls' hsrt hsrt2 hvs
  have HRG := hide (BK.rangeL (BK.new w (.cells S.toArray 72)))
  have HRG' := hide (World.rangeAt_alloc HRG.out (.cells #[.slice none 0 0, .bool false] 76))
  go_enter Tryz.func33, Tryz.ntmps33
  go_wp2_with (first
    | (refine wpList_load_mid rfl 72 _ rfl w.heap.size 0 rfl S _ HRG'.out Tryz.underlying72 rfl HI.out ?_))
  have hlb := serLabels ls ((w.alloc (Obj.cells S.toArray 72)).alloc (Obj.cells #[.slice none 0 0, .bool false] 76)) hn
  unfold serV at hlb
  rw [← unhide HS] at hlb
  refine hlb.mono ?_
  clear hlb
  rintro x w1 ⟨q, v1, rfl, hq1, ho1, hlq, hdj, hx1⟩
  have hx01 : Ex [] w w1 := (((Ex.refl _ _).alloc _).alloc _).trans hx1
  have hres : BK w1 (w.heap.size + 1) (.cells #[.slice none 0 0, .bool false] 76 (0, 0)) := by
    have h1 := BK.new (w.alloc (Obj.cells S.toArray 72)) (Obj.cells #[.slice none 0 0, .bool false] 76)
    simp only [World.size_alloc] at h1
    exact h1.ex hx1 (by simp)
  have he1 := HE.out.ex hx01 (by simp)
  simp only [World.size_alloc] at hlq ho1
  have hz1 := hx1.size
  simp only [World.size_alloc] at hz1
  have hrb1 : w1.cell? ⟨rb, 0, none⟩ = some (upFn b1 b2) := (hx01.cell0.1 rb 0 hrbl).trans HRB.out
  have hrbl1 : rb < w1.heap.size := by omega
  have HQ1 := hide hq1
  have HO1 := hide ho1
  have HDJ := hide hdj
  have HX01 := hide hx01
  have HRES := hide hres
  obtain ⟨hce, hfe⟩ := he1.all
  have hel1 := he1.lt
  have hst := store_func (.func 106) #[] #[.pointer (some ⟨b1, 0, none⟩), .pointer (some ⟨b2, 0, none⟩)] (BK.new w1 (Obj.cells #[.nilFunc] 81))
  unfold upFn at hrb1
  clear hq1 ho1 hx1 hx01 hres he1 hdj
  go_wp2_with fail
  refine wp_loop_rounds 2 ?_
  rw [rounds_succ]
  go_wp2_with fail
  have hap := apply_raise b1 b2 p c a1 se pp ta rp mo q (w.heap.size + 1 + 1) w.heap.size ls v1 (w1.alloc (Obj.cells #[.func (.func 106) #[] #[.pointer (some ⟨b1, 0, none⟩), .pointer (some ⟨b2, 0, none⟩)]] 81)) (HRU.out.ex0 (HX01.out.alloc _)) (by omega) (by simp; omega) (HQ1.out.alloc _) (HO1.out.alloc _) (fun h => HDJ.out q h rfl) (by omega) HSR.out HSR2.out HVS.out hlq
  unfold upFn at hap
  rw [HLS.out] at hap
  refine hap.mono ?_
  clear hap
  rintro x w2 ⟨rfl, hl2, hx2⟩
  have hnm : ∀ b, b < w.heap.size + 1 + 1 → b ∉ (q :: v1.ownBlock.toList) := fun b hb hm => by
    simp only [List.mem_cons, Option.mem_toList] at hm
    rcases hm with h | h
    · omega
    · have := own_block HO1.out b h; omega
  have hx12 : Ex (q :: v1.ownBlock.toList) w1 w2 := (((Ex.refl _ _).alloc _)).trans hx2
  have hx02 : Ex [] w w2 := ((HX01.out.drop (by simp)).trans hx12).drop (fun y hy hlt => absurd hy (hnm y (by omega)))
  have hres2 := HRES.out.ex hx12 (hnm _ (by omega))
  obtain ⟨v2, hb2, ho2, hn2⟩ := hl2.ex
  have hz2 := hx12.size
  have HB2 := hide hb2
  have HO2 := hide ho2
  have HX02 := hide hx02
  have HRES2 := hide hres2
  clear hl2 hx2 hnm hx12 hx02 hres2 hb2 ho2 hn2 hce hfe hrb1 hst
  go_wp2_with fail
  rw [rounds_succ]
  go_wp2_with fail
  refine (labList q v2 ls' _ HB2.out (own_sl HO2.out) hl').mono ?_
  rintro x w3 ⟨v3, rfl, ho3, hx3⟩
  have hres3 := HRES2.out.ex hx3 (by simp)
  have hz3 := hx3.size
  have HO3 := hide ho3
  have HX3 := hide (HX02.out.trans hx3)
  have HR3 := hide hres3
  obtain ⟨p3, c3, rfl⟩ := own_slice ho3
  obtain ⟨hcr, hfr⟩ := hres3.all
  have hrl := hres3.lt
  clear hx3 hres3 ho3
  go_wp2_with fail
  have hb3 := (HR3.out.self 0 (.slice p3 ls'.length c3)).self 1 (.bool true)
  simp only [List.setIfInBounds_toArray, List.set_cons_zero, List.set_cons_succ] at hb3
  have hl3 := run_loadVar_mid (P := Tryz.prog) _ (w.heap.size + 1) 0 76 [.slice p3 ls'.length c3, .bool true] _ hb3.rangeL Tryz.underlying76 rfl (by kernel_rfl)
  refine bodyPost_ret (results_cell1 rfl rfl hl3) rfl ⟨_, rfl, ?_, ?_⟩
  · exact own_base (own_set (own_set HO3.out (by simp; omega) _) (by simp; omega) _) (by omega)
  · exact (HX3.out.setCell (.inr (by simp)) _).setCell (.inr (by simp)) _
end Go.Proofs.YtmeffeigamaipabGreatDoor

/- Contracts of Load: too many rules; one rule that raises a text. -/
namespace Go.Proofs.YtmeffeigamaipabGreatDoor
open Go.RowKit

set_option maxHeartbeats 400000 in
theorem load_many (e : Nat) (p : Option Addr) (n c : Nat) (w : World) (h : 12 < n) :
    Calls Tryz.prog 15 #[.pointer (some ⟨e, 0, none⟩), .slice p n c] w fun x w' => x = .returned (.tuple #[.int .i64 8, .int .i64 0, .int .i64 0]) ∧ w' = w := by
  have h' : (n : Int) > 12 := by omega
  go_enter Tryz.func15, Tryz.ntmps15
  go_wp2_with fail
  go_ret3
  exact ⟨rfl, rfl⟩

theorem infoRule : (Tryz.prog.info? 81).map (fun i => (i.zero, i.size, i.bytes)) = some (some (.agg #[.nilFunc]), 1, 8) := by kernel_rfl

/-- The closure that raises a text, in memory from a block on. -/
def DU (lo : Nat) (a1 se ta rp : ByteArray) (mo : Int) (w : World) (fv : Value) : Prop := ∃ b1 b2 p c pp, fv = upFn b1 b2 ∧ RU w w.heap.size b1 b2 p c a1 se pp ta rp mo ∧ lo ≤ b1 ∧ lo ≤ b2 ∧ ∀ k, (Value.slice p 1 c).ownBlock = some k → lo ≤ k
theorem DU.ex {lo : Nat} {a1 se ta rp : ByteArray} {mo : Int} {w w' : World} {fv : Value} {l : List Nat} (h : DU lo a1 se ta rp mo w fv) (hx : Ex l w w') (hl : ∀ b, b ∈ l → b < lo) : DU lo a1 se ta rp mo w' fv := by
  obtain ⟨b1, b2, p, c, pp, rfl, hr, h1, h2, h3⟩ := h
  refine ⟨b1, b2, p, c, pp, rfl, ⟨hr.h1.ex hx (fun hm => by have := hl _ hm; omega), hr.h2.ex hx (fun hm => by have := hl _ hm; omega), hr.hs.ex hx (fun k hk hm => by have := hl _ hm; have := h3 k hk; omega), Nat.lt_of_lt_of_le hr.l1 hx.size, Nat.lt_of_lt_of_le hr.l2 hx.size⟩, h1, h2, h3⟩

theorem upper_use : usesL[10]? = some ⟨true, false, true, false, false⟩ := rfl
/-- Make at a rule that raises the text of one source. -/
theorem make_raise (p : Option Addr) (c : Nat) (a1 se ta : ByteArray) (w : World) (hub : UB w) (hv : SS w (.slice p 1 c) [a1]) (ha1 : a1.size ≤ 60) (hse : se.size ≤ 60) (hta : ta.size ≤ 60) (hna : nameB a1 = true) (hnt : nameB ta = true) :
    Calls Tryz.prog 34 #[ruleV 10 (.slice p 1 c) se ⟨#[]⟩ ta ⟨#[]⟩ 0] w fun x w' => (∃ f a b, x = .returned (.tuple #[.agg #[.func f a b], .int .i64 0, .int .i64 0]) ∧ DU (w.heap.size + 2) a1 se ta ⟨#[]⟩ 0 w' (.func f a b)) ∧ Ex [] w w' := by
  have hM : makeR 10 [a1] se ⟨#[]⟩ ta ⟨#[]⟩ 0 ⟨true, false, true, false, false⟩ true 0 = (0, 0) := by
    have h1 : longB a1 = false := by simp [longB]; omega
    have h2 : longB se = false := by simp [longB]; omega
    have h3 : longB ta = false := by simp [longB]; omega
    have h4 : longB ⟨#[]⟩ = false := by decide
    have h5 : bigB [a1] se ta ⟨#[]⟩ = false := by simp [bigB, h1, h2, h3, h4]
    have h6 : targetB 10 ta = true := by simp [targetB, hnt]
    have h7 : unusedB 1 se ⟨#[]⟩ ta ⟨#[]⟩ 0 ⟨true, false, true, false, false⟩ = false := by simp [unusedB]; decide
    have h6' : targetB ((10 : Nat) : Int) ta = true := h6
    simp [makeR, h5, hna, h6, h7]
  refine (make_act 10 ⟨true, false, true, false, false⟩ upper_use p c [a1] se ⟨#[]⟩ ta ⟨#[]⟩ 0 true 0 w (DU (w.heap.size + 2) a1 se ta ⟨#[]⟩ 0) hub hv (by simp) (by simp; omega) (by omega) (by omega) (by decide) (fun h => by cases h) ?_ ?_).mono ?_
  · intro _ w1 sp sc pp hx hz hs hk
    refine (deed_upper sp 1 sc se pp ta ⟨#[]⟩ 0 w1).mono ?_
    rintro x w2 ⟨b1, b2, rfl, h1, h2, l1, l2, hx2⟩
    exact ⟨⟨_, _, _, rfl, b1, b2, sp, sc, pp, rfl, ⟨h1, h2, hs.ex0 hx2, h1.lt, h2.lt⟩, by omega, by omega, hk⟩, hx2⟩
  · intro w2 fv hD
    exact hD.ex (l := [w.heap.size + 1]) ((Ex.refl _ _).setCell (Or.inl (by simp)) _) (by simp)
  · rintro x w' ⟨_, h2, h3⟩
    rw [hM] at h2
    exact ⟨h2 rfl, h3⟩

/-- An empty memory, whatever is to be remembered. -/
theorem MM.bare {R R' : List Value → List Lab → Bool → Prop} {w : World} {m mb base room clk : Nat} (h : MM R w m mb base room [] (.slice none 0 0) #[] clk) : MM R' w m mb w.heap.size room [] (.slice none 0 0) #[] clk :=
  ⟨h.blk, h.map, World.ownsRow_nil _ _ _ _, h.keys, fun e he => by simp at he, fun S hS => by simp at hS, h.nodup, h.len, h.room1, h.room50, h.blk.lt, h.map.lt, h.ne, Nat.le_refl _⟩

set_option maxHeartbeats 2000000 in
set_option maxRecDepth 100000 in
theorem load_raise (R R' : List Value → List Lab → Bool → Prop) (e m mb base room : Nat) (rv : Value) (ts : List (List Value)) (tv : Value) (es : Array MapEntry) (clk : Nat) (rb0 : Nat) (p : Option Addr) (c : Nat) (a1 se ta : ByteArray) (w : World) (he : EN R w e m mb base room rv ts tv es clk)
    (hr0 : BK w rb0 (.cells #[.int .i64 10, .slice p 1 c, .string se, .string ⟨#[]⟩, .string ta, .string ⟨#[]⟩, .int .u64 0] 37 (0, 0))) (hub : UB w) (hv : SS w (.slice p 1 c) [a1]) (ha1 : a1.size ≤ 60) (hse : se.size ≤ 60) (hta : ta.size ≤ 60) (hna : nameB a1 = true) (hnt : nameB ta = true) :
    Calls Tryz.prog 15 #[.pointer (some ⟨e, 0, none⟩), .slice (some ⟨rb0, 0, none⟩) 1 1] w fun x w' => x = .returned (.tuple #[.int .i64 0, .int .i64 0, .int .i64 0]) ∧ (∃ gb cap b1 b2 p c pp, EN R' w' e m mb w'.heap.size room (.slice (some ⟨gb, 0, none⟩) 1 cap) [] (.slice none 0 0) #[] clk ∧ w'.cell? ⟨gb, 0, none⟩ = some (upFn b1 b2) ∧ RU w' w'.heap.size b1 b2 p c a1 se pp ta ⟨#[]⟩ 0) ∧ Ex [e, m, mb] w w' := by
  have HE := hide he
  obtain ⟨i0, hi, hz0, hz1, hz2⟩ := info_parts infoRule
  obtain ⟨hce, hfe⟩ := he.blk.all
  have hel := he.blk.lt
  obtain ⟨hcr, hfr⟩ := hr0.all
  have hrl := hr0.lt
  have HMK := hide (make_raise p c a1 se ta (w.alloc (Obj.cells #[.int .i64 10, .slice p 1 c, .string se, .string ⟨#[]⟩, .string ta, .string ⟨#[]⟩, .int .u64 0] 37)) (hub.ex ((Ex.refl [] _).alloc _) (by simp)) (hv.ex0 ((Ex.refl [] _).alloc _)) ha1 hse hta hna hnt)
  unfold ruleV at HMK
  clear he hr0 hub hv
  go_enter Tryz.func15, Tryz.ntmps15
  go_wp2_with fail
  refine wp_loop_rounds 2 ?_
  rw [rounds_succ]
  go_wp2_with fail
  refine HMK.out.mono ?_
  rintro x w1 ⟨⟨f, fa, fb, rfl, hD⟩, hx1⟩
  have hx01 : Ex [] w w1 := ((Ex.refl _ _).alloc _).trans hx1
  have hst := store_func f fa fb (BK.new w1 (Obj.cells #[.nilFunc] 81))
  have HD := hide hD
  have HX01 := hide hx01
  have hz01 : w.heap.size < w1.heap.size := by have := hx1.size; simp at this; omega
  clear hD hx1 hx01 hcr hfr hce hfe
  go_wp2_with (at_builtin; refine wpList_append_lies _ rfl (.tmp 34) (.tmp 36) 67 rfl w1.heap.size 81 i0 (.agg #[.nilFunc]) 1 8 Tryz.underlying67 hi hz0 hz1 hz2 rfl (by decide) (.slice none 0 0) 0 [] rfl (World.ownsRow_nil _ _ _ _) ⟨w1.heap.size + 1, 0, none⟩ 1 1 [.func f fa fb] rfl rfl (by have h9 := cells_new (w1.alloc (Obj.cells #[.func f fa fb] 81)) #[.func f fa fb] 81; simp only [World.size_alloc] at h9; exact h9) (by simp [Value.oneCell']) (by decide) (by unfold maxLen; omega) (by omega) (by simp only [World.size_alloc]; omega) (w1.heap.size + 1 + 1) (by simp) ?_)
  intro gb cap w2 hown2 hgrow hcase hlt2
  obtain ⟨g', c', h9a, _, _, _, hcell, _⟩ := own_cells hown2 (by decide)
  cases h9a
  have hcg : w2.cell? ⟨gb, 0, none⟩ = some (.func f fa fb) := by have := hcell 0 (by decide); simpa using this
  have hx12 : Ex [] w1 w2 := Ex.grown (((Ex.refl _ _).alloc _).alloc _) hgrow (by simp [Value.ownBlock])
  have hgb : w1.heap.size ≤ gb := own_block hown2 gb rfl
  have hx02 : Ex [] w w2 := HX01.out.trans hx12
  have hD2 := HD.out.ex (l := []) hx12 (by simp)
  have he2 := HE.out.blk.ex hx02 (by simp)
  have hm2 := HE.out.mem.ex hx02 (by simp)
  have HCG := hide hcg
  have HX02 := hide hx02
  have HD2 := hide hD2
  have HE2 := hide he2
  have HM2 := hide hm2
  obtain ⟨hce, hfe⟩ := he2.all
  have hel2 := he2.lt
  clear hown2 hgrow hcase hcell hcg hx12 hx02 hD2 he2 hm2 hst
  go_wp2_with fail
  rw [rounds_succ]
  go_wp2_with fail
  have hb3 := HE2.out.self 0 (.slice (some ⟨gb, 0, none⟩) 1 cap)
  simp only [List.setIfInBounds_toArray, List.set_cons_zero] at hb3
  have hm3 : MM R (w2.setCell ⟨e, 0, none⟩ (.slice (some ⟨gb, 0, none⟩) 1 cap)) m mb base room ts tv es clk := HM2.out.ex (o := [e]) ((Ex.refl _ _).setCell (.inl (by simp)) _) (by simp [HE.out.lt, HE.out.nem, HE.out.nemb])
  have hx3 : Ex [e] w2 (w2.setCell ⟨e, 0, none⟩ (.slice (some ⟨gb, 0, none⟩) 1 cap)) := (Ex.refl _ _).setCell (.inl (by simp)) _
  refine (forget_any R m mb base room ts tv es clk _ hm3).mono ?_
  rintro x w4 ⟨rfl, hm4, hx4⟩
  have hb4 := hb3.ex hx4 (by simp [HE.out.nem, HE.out.nemb])
  have HB4 := hide hb4
  have HM4 := hide hm4
  have HX24 : Hid (Ex [e, m, mb] w2 w4) := (hx3.drop (by simp)).trans (hx4.drop (fun y hy _ => by simp at hy ⊢; omega))
  clear hb3 hm3 hb4 hm4 hx3 hx4 hce hfe
  go_wp2_with fail
  go_ret3
  refine ⟨rfl, ?_, (HX02.out.drop (by simp)).trans HX24.out⟩
  have hel := HE.out.lt
  have hbs := HE.out.mem.le
  have hml := HE.out.mem.mlt
  have hmbl := HE.out.mem.mblt
  have hlo : ∀ b, b ∈ [e, m, mb] → b < (w.alloc (Obj.cells #[.int .i64 10, .slice p 1 c, .string se, .string ⟨#[]⟩, .string ta, .string ⟨#[]⟩, .int .u64 0] 37)).heap.size + 2 := fun b hb => by
    simp at hb ⊢; omega
  obtain ⟨b1, b2, p', c', pp, hfv, hru, _, _, _⟩ := HD2.out.ex HX24.out hlo
  refine ⟨gb, cap, b1, b2, p', c', pp, ⟨HB4.out, HM4.out.bare, ?_, HE.out.nem, HE.out.nemb⟩, ?_, hru⟩
  · exact HB4.out.lt
  · rw [HX24.out.cell.1 gb 0 hlt2 (by simp; omega), HCG.out, hfv]
end Go.Proofs.YtmeffeigamaipabGreatDoor

/- How much is remembered: plain facts. -/
namespace Go.Proofs.YtmeffeigamaipabGreatDoor
open Go.RowKit

def xv (k : Nat) : ByteArray := ⟨#[120, 118, UInt8.ofNat k]⟩
def Sk (k : Nat) : List Value := serC [(aN, xv k)]
theorem Sk_inj {j k : Nat} (hj : j < 256) (hk : k < 256) (h : Sk j = Sk k) : j = k := by
  have h1 := serC_inj (by simp) (by simp) h
  simp only [List.cons.injEq, Prod.mk.injEq, and_true, true_and, xv, ByteArray.mk.injEq] at h1
  have h2 := congrArg Array.toList h1
  simp only [List.cons.injEq, and_true, true_and] at h2
  have h3 := congrArg UInt8.toNat h2
  simp only [UInt8.toNat_ofNat'] at h3
  omega

/-- Behind i rounds. -/
def Inv (size i : Nat) (ts : List (List Value)) : Prop := (∀ S ∈ ts, ∃ j, j < i ∧ S = Sk j) ∧ ts.length = min i size ∧ (ts.length < size → ∀ j, j < i → Sk j ∈ ts)

theorem inv_nil (size : Nat) : Inv size 0 [] := ⟨by simp, by simp, fun _ j hj => by omega⟩

theorem inv_new {size i : Nat} {ts ts' : List (List Value)} (hs : 1 ≤ size) (hi : i < 70) (h : Inv size i ts) (ha : After size ts (Sk i) ts') : Inv size (i + 1) ts' := by
  obtain ⟨h1, h2, h3⟩ := h
  have hno : Sk i ∉ ts := fun hm => by
    obtain ⟨j, hj, he⟩ := h1 _ hm
    have := Sk_inj (by omega) (by omega) he
    omega
  rcases ha with ⟨hy, _⟩ | ⟨_, rfl⟩
  · exact absurd hy hno
  unfold nextTs
  by_cases hl : ts.length < size
  · rw [if_pos hl]
    refine ⟨fun S hS => ?_, by simp; omega, fun _ j hj => ?_⟩
    · rcases List.mem_append.1 hS with hS | hS
      · obtain ⟨j, hj, rfl⟩ := h1 S hS; exact ⟨j, by omega, rfl⟩
      · simp at hS; exact ⟨i, by omega, hS⟩
    · by_cases hji : j = i
      · subst hji; simp
      · exact List.mem_append.2 (.inl (h3 hl j (by omega)))
  · rw [if_neg hl]
    have hlen : (ts.tail ++ [Sk i]).length = ts.length := by simp; omega
    refine ⟨fun S hS => ?_, by rw [hlen]; omega, fun hlt => by rw [hlen] at hlt; omega⟩
    rcases List.mem_append.1 hS with hS | hS
    · obtain ⟨j, hj, rfl⟩ := h1 S (List.mem_of_mem_tail hS); exact ⟨j, by omega, rfl⟩
    · simp at hS; exact ⟨i, by omega, hS⟩

theorem inv_old {size i k : Nat} {ts ts' : List (List Value)} (hs : 1 ≤ size) (hk : k ≤ i) (h : Inv size (i + 1) ts) (ha : After size ts (Sk k) ts') : Inv size (i + 1) ts' := by
  obtain ⟨h1, h2, h3⟩ := h
  rcases ha with ⟨_, rfl⟩ | ⟨hno, rfl⟩
  · exact ⟨h1, h2, h3⟩
  unfold nextTs
  by_cases hl : ts.length < size
  · exact absurd (h3 hl k (by omega)) hno
  · rw [if_neg hl]
    have hlen : (ts.tail ++ [Sk k]).length = ts.length := by simp; omega
    refine ⟨fun S hS => ?_, by rw [hlen]; omega, fun hlt => by rw [hlen] at hlt; omega⟩
    rcases List.mem_append.1 hS with hS | hS
    · obtain ⟨j, hj, rfl⟩ := h1 S (List.mem_of_mem_tail hS); exact ⟨j, by omega, rfl⟩
    · simp at hS; exact ⟨k, by omega, hS⟩

theorem after_nil {room : Nat} {S : List Value} {ts' : List (List Value)} (h1 : 1 ≤ room) (h : After room [] S ts') : ts' = [S] := by
  rcases h with ⟨h, _⟩ | ⟨_, rfl⟩
  · simp at h
  · unfold nextTs; rw [if_pos (by simp; omega)]; rfl

set_option maxHeartbeats 1000000 in
/-- pick: a number below n. -/
theorem pick_any (c n : Int) (w : World) (hn : 0 < n) (hn2 : n < 4611686018427387904) (hc : -9223372036854775808 ≤ c ∧ c ≤ 9223372036854775807) :
    Calls Tryz.prog 18 #[.int .i64 c, .int .i64 n] w fun x w' => (∃ k : Nat, x = .returned (.int .i64 k) ∧ (k : Int) < n) ∧ w' = w := by
  by_cases h0 : c < 0
  · go_enter Tryz.func18, Tryz.ntmps18
    go_wp2_with fail
    go_ret
    have hv : -(c + 1).tmod n = (-(c + 1)) % n := by rw [← Int.neg_tmod, Int.tmod_eq_emod_of_nonneg (by omega)]
    have p1 := Int.emod_nonneg (-(c + 1)) (show n ≠ 0 by omega)
    have p2 := Int.emod_lt_of_pos (-(c + 1)) hn
    refine ⟨⟨((-(c + 1)) % n).toNat, ?_, by omega⟩, rfl⟩
    rw [show ((((-(c + 1)) % n).toNat : Nat) : Int) = (-(c + 1)) % n by omega, ← hv]
    rfl
  · go_enter Tryz.func18, Tryz.ntmps18
    go_wp2_with fail
    go_ret
    have p1 := Int.emod_nonneg c (show n ≠ 0 by omega)
    have p2 := Int.emod_lt_of_pos c hn
    refine ⟨⟨(c % n).toNat, ?_, by omega⟩, rfl⟩
    rw [show (((c % n).toNat : Nat) : Int) = c % n by omega]
    rfl
end Go.Proofs.YtmeffeigamaipabGreatDoor

/- Contracts: two lists of labels held against each other; an engine with a rule. -/
namespace Go.Proofs.YtmeffeigamaipabGreatDoor
open Go.RowKit

theorem same_nonempty {v : Value} {w : World} {ls : List Lab} (h : SL w v ls) (j : Nat) (l : Lab) (hl : ls[j]? = some l) : ∃ b c, v = .slice (some ⟨b, 0, none⟩) ls.length c ∧ b < w.heap.size ∧ w.cell? ⟨b, j * 2, none⟩ = some (.string l.1) ∧ w.cell? ⟨b, j * 2 + 1, none⟩ = some (.string l.2) := by
  rcases h with ⟨h1, h2⟩ | ⟨b, c', h1, hb, hc⟩
  · rw [h2] at hl; simp at hl
  · exact ⟨b, c', h1, hb, (hc j l hl).1, (hc j l hl).2⟩

set_option maxHeartbeats 1000000 in
set_option maxRecDepth 100000 in
/-- Two lists that hold the same labels are the same. -/
theorem same_yes (a b : Value) (ls : List Lab) (w : World) (ha : SL w a ls) (hb : SL w b ls) (hn : ls.length ≤ 1000) :
    Calls Tryz.prog 17 #[a, b] w fun x w' => x = .returned (.bool true) ∧ ∃ n, w' = w.drewN n := by
  have HA := hide ha
  have HB := hide hb
  obtain ⟨pa, ca, rfl⟩ := ha.slice
  obtain ⟨pb, cb, rfl⟩ := hb.slice
  clear ha hb
  go_enter Tryz.func17, Tryz.ntmps17
  go_wp2_with fail
  go_loopg [5] ls.length (fun gk i wr => ∃ j : Nat, j + gk = ls.length ∧ i = .int .i64 j ∧ ∃ n, wr = w.drewN n)
  case atStart => exact ⟨0, by omega, rfl, 0, rfl⟩
  case round =>
    obtain ⟨j, hj, rfl, n, rfl⟩ := hrel
    cases gk with
    | zero =>
      obtain rfl : j = ls.length := by omega
      go_wp2_with fail
      go_ret
      exact ⟨rfl, _, rfl⟩
    | succ g =>
      have hjl : j < ls.length := by omega
      have hj' : (j : Int) < (ls.length : Int) := by omega
      obtain ⟨l, hl⟩ : ∃ l, ls[j]? = some l := ⟨_, List.getElem?_eq_getElem hjl⟩
      obtain ⟨ba, ca', h1, hba, a0, a1⟩ := same_nonempty HA.out j l hl
      cases h1
      obtain ⟨bb, cb', h1, hbb, b0, b1⟩ := same_nonempty HB.out j l hl
      cases h1
      obtain ⟨l1, l2⟩ := l
      simp only at a0 a1 b0 b1
      clear hl
      go_wp2_with fail
      go_quiet (fail)
      go_wp2_with fail
      go_roundg g
      case measure => omega
      case rel => exact ⟨j + 1, by omega, by simp, _, rfl⟩

set_option maxHeartbeats 1000000 in
set_option maxRecDepth 100000 in
/-- An engine with the one rule that raises a text. -/
theorem engine_raise (R' : List Value → List Lab → Bool → Prop) (k : Int) (rb0 : Nat) (p : Option Addr) (c : Nat) (a1 se ta : ByteArray) (w : World)
    (hr0 : BK w rb0 (.cells #[.int .i64 10, .slice p 1 c, .string se, .string ⟨#[]⟩, .string ta, .string ⟨#[]⟩, .int .u64 0] 37 (0, 0))) (hub : UB w) (hv : SS w (.slice p 1 c) [a1]) (ha1 : a1.size ≤ 60) (hse : se.size ≤ 60) (hta : ta.size ≤ 60) (hna : nameB a1 = true) (hnt : nameB ta = true) :
    Calls Tryz.prog 10 #[.int .i64 k, .slice (some ⟨rb0, 0, none⟩) 1 1] w fun x w' => ∃ e m mb gb cap b1 b2 p c pp, x = .returned (.pointer (some ⟨e, 0, none⟩)) ∧ EN R' w' e m mb w'.heap.size (roomOf k) (.slice (some ⟨gb, 0, none⟩) 1 cap) [] (.slice none 0 0) #[] 0 ∧ w'.cell? ⟨gb, 0, none⟩ = some (upFn b1 b2) ∧ RU w' w'.heap.size b1 b2 p c a1 se pp ta ⟨#[]⟩ 0 ∧ w.heap.size ≤ m ∧ w.heap.size ≤ mb ∧ Ex [] w w' := by
  have H0 := hide hr0
  have HU := hide hub
  have HV := hide hv
  clear hr0 hub hv
  go_enter Tryz.func10, Tryz.ntmps10
  go_wp2_with fail
  refine (open_any R' k w).mono ?_
  rintro x w1 ⟨e, m, mb, rfl, hen, hx1, h1, h2, h3⟩
  have HEN := hide hen
  have HX1 := hide hx1
  clear hen hx1
  go_wp2_with fail
  refine (load_raise R' R' e m mb _ _ _ _ _ _ _ rb0 p c a1 se ta w1 HEN.out (H0.out.ex HX1.out (by simp)) (HU.out.ex HX1.out (by simp)) (HV.out.ex0 HX1.out) ha1 hse hta hna hnt).mono ?_
  rintro x w2 ⟨rfl, ⟨gb, cap, b1, b2, p', c', pp, hen2, hcg, hru⟩, hx2⟩
  have HEN2 := hide hen2
  have HCG := hide hcg
  have HRU := hide hru
  have HX2 : Hid (Ex [] w w2) := ((HX1.out.drop (by simp)).trans hx2).drop (fun y hy hlt => by simp at hy; omega)
  clear hen2 hcg hru hx2
  go_wp2_with fail
  go_ret
  exact ⟨e, m, mb, gb, cap, b1, b2, p', c', pp, rfl, HEN2.out, HCG.out, HRU.out, h2, h3, HX2.out⟩
end Go.Proofs.YtmeffeigamaipabGreatDoor
