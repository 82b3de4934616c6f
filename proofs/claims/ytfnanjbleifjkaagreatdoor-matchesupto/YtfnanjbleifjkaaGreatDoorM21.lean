import Derived.Test.YtfnanjbleifjkaaGreatDoorM20
import Derived.Test.YtfnanjbleifjkaaGreatDoorM04
set_option linter.unusedVariables false
set_option linter.unusedSimpArgs false
set_option maxHeartbeats 4000000
set_option maxRecDepth 100000
namespace Go.Proofs.YtfnanjbleifjkaaGreatDoor.G
variable {t : ByteArray} {s : RS} {base m n p r size : Nat} {w : World} {hv : Int} {e : TypeId} {v : Value} {ys : List Value}
open Go.RowKit
theorem kU {k : Nat} (h : k < t.size) : ai t k = (t[k]'h).toNat := by
 unfold ai aj
 rw [Array.getElem?_eq_getElem h]
 rfl
theorem fx {b : UInt8} : ac t s b = (decide (s.k < t.size) && decide (ai t s.k = b.toNat)) := by
 unfold ac
 by_cases h : s.k < t.size
 ·rw [kU h]
  unfold aj
  rw [Array.getElem?_eq_getElem h, decide_eq_true h, Bool.true_and]
  show (some (t.data[s.k]'h) == some b) = decide ((t.data[s.k]'h).toNat = b.toNat)
  rw [Bool.eq_iff_iff]
  simp [UInt8.toNat_inj]
 ·unfold aj
  rw [Array.getElem?_eq_none (by show t.size <= s.k; omega), decide_eq_false h, Bool.false_and]
  rfl
theorem kM {p : Nat} {X : World} {q : Nat} {A : Prop} (h : A /\ KS r (w.drewN q) X /\ EB base [] (w.drewN q) X) : A /\ KS r w X /\ EB base [] w X :=
 ⟨h.1, ⟨fun b bs hb => h.2.1.sb b bs hb, fun y E hy => h.2.1.rw y E hy⟩, h.2.2.os, h.2.2.tape, h.2.2.output, h.2.2.size, h.2.2.block⟩
theorem oT (c : Int) (h : RA w p r base t s true hv n) :
  Calls Tryz.prog 184 #[.pointer (some ⟨p, 0, none⟩), .int .u8 c] w fun e w' => e = .returned (.tuple #[]) /\ w' = w := by
 have hc2 : w.cell? ⟨p, 2, none⟩ = some (.bool true) := h.rk.all.1 2
 have hl := h.rk.lt
 clear h
 go_enter Tryz.func184, Tryz.ntmps184
 go_wp2_with fail
 refine bodyPost_ret (results_none rfl _ _ _) rfl ⟨rfl, rfl⟩
theorem tO (c : Nat) (h : RA w p r base t s false hv n) (ht : t.size <= 60) (hlt : s.k < t.size) (hc : ai t s.k = c) :
  Calls Tryz.prog 184 #[.pointer (some ⟨p, 0, none⟩), .int .u8 (c : Int)] w fun e w' => e = .returned (.tuple #[]) /\ RA w' p r base t s.up false hv n /\ KS r w w' /\ EB base [] w w' := by
 have hc0 : w.cell? ⟨p, 0, none⟩ = some (.string t) := h.rk.all.1 0
 have hc1 : w.cell? ⟨p, 1, none⟩ = some (.int .i64 (s.k : Int)) := h.rk.all.1 1
 have hc2 : w.cell? ⟨p, 2, none⟩ = some (.bool false) := h.rk.all.1 2
 have hf1 : w.frozen? ⟨p, 1, none⟩ = false := h.rk.all.2 1
 have hl := h.rk.lt
 have H := aa (fun q => kM (p := p) ((h.drewN q).setCell (s' := s.up) (bad' := false) (hv' := hv) 1 (.int .i64 ((s.k : Int) + 1)) (by simp [RS.up]) rfl rfl))
 have hd : decide (t.size <= s.k) = false := decide_eq_false (by omega)
 have hget : (((t[s.k]'hlt).toNat : Int) != (c : Int)) = false := by rw [kU hlt] at hc; rw [hc]; simp
 have hki : (s.k : Int) < (t.size : Int) := by omega
 obtain ⟨k, d, f, g, nm⟩ := s
 dsimp only at hc1 H hd hget hki hlt
 clear h hc
 go_enter Tryz.func184, Tryz.ntmps184
 go_wp2_with fail
 go_quiet (fail)
 go_wp2_with fail
 go_end0
 exact ⟨rfl, H.O _⟩
theorem rG (c : Nat) (h : RA w p r base t s false hv n) (hno : t.size <= s.k \/ ai t s.k ≠ c) :
  Calls Tryz.prog 184 #[.pointer (some ⟨p, 0, none⟩), .int .u8 (c : Int)] w fun e w' => e = .returned (.tuple #[]) /\ RA w' p r base t s true hv n /\ KS r w w' /\ EB base [] w w' := by
 have hc0 : w.cell? ⟨p, 0, none⟩ = some (.string t) := h.rk.all.1 0
 have hc1 : w.cell? ⟨p, 1, none⟩ = some (.int .i64 (s.k : Int)) := h.rk.all.1 1
 have hc2 : w.cell? ⟨p, 2, none⟩ = some (.bool false) := h.rk.all.1 2
 have hf2 : w.frozen? ⟨p, 2, none⟩ = false := h.rk.all.2 2
 have hl := h.rk.lt
 have H := aa (fun q => kM (p := p) ((h.drewN q).setCell (s' := s) (bad' := true) (hv' := hv) 2 (.bool true) rfl rfl rfl))
 by_cases hlt : s.k < t.size
 ·have hne : ai t s.k ≠ c := hno.resolve_left (by omega)
  have hd : decide (t.size <= s.k) = false := decide_eq_false (by omega)
  have hget : (((t[s.k]'hlt).toNat : Int) != (c : Int)) = true := by rw [kU hlt] at hne; rw [bne_iff_ne]; omega
  have hki : (s.k : Int) < (t.size : Int) := by omega
  obtain ⟨k, d, f, g, nm⟩ := s
  dsimp only at hc1 H hd hget hki hlt
  clear h hno hne
  go_enter Tryz.func184, Tryz.ntmps184
  go_wp2_with fail
  go_quiet (fail)
  go_wp2_with fail
  refine bodyPost_ret (results_none rfl _ _ _) rfl ⟨rfl, H.O _⟩
 ·have hd : decide (t.size <= s.k) = true := decide_eq_true (by omega)
  obtain ⟨k, d, f, g, nm⟩ := s
  dsimp only at hc1 H hd
  clear h hno hlt
  go_enter Tryz.func184, Tryz.ntmps184
  go_wp2_with fail
  go_quiet (fail)
  go_wp2_with fail
  refine bodyPost_ret (results_none rfl _ _ _) rfl ⟨rfl, H.O _⟩
theorem vl (c : UInt8) (h : RA w p r base t s false hv n) (ht : t.size <= 60) :
  Calls Tryz.prog 184 #[.pointer (some ⟨p, 0, none⟩), .int .u8 (c.toNat : Int)] w fun e w' => e = .returned (.tuple #[]) /\ (if ac t s c then RA w' p r base t s.up false hv n else RA w' p r base t s true hv n) /\ KS r w w' /\ EB base [] w w' := by
 rw [fx]
 by_cases hlt : s.k < t.size
 ·by_cases hc : ai t s.k = c.toNat
  ·rw [decide_eq_true hlt, decide_eq_true hc]
   exact tO c.toNat h ht hlt hc
  ·rw [decide_eq_true hlt, decide_eq_false hc]
   exact rG c.toNat h (.inr hc)
 ·rw [decide_eq_false hlt]
  exact rG c.toNat h (.inl (by omega))
def ig : List Value := [.int .i64 0, .int .i64 0, .int .i64 0, .int .i64 0, .bool false] ++ sB noB
theorem pV : (Tryz.prog.info? 215).map (fun i => (i.zero, i.size, i.bytes)) = some (some (.agg ig.toArray), 134, 168) := by kernel_rfl
theorem aD {b : Nat} {e' : TypeId} {cs : Array Value} {fz : Nat × Nat} (ho : w.ownsRow base e size v m ys) (hb : BK w b (.cells cs e' fz)) (hne : e ≠ e') : v.ownBlock ≠ some b := fun hv => by
 rcases ho.2 with ⟨hn, _⟩ | ⟨g2, cap, cur, hv2, _, hgg, _⟩
 ·rw [hn] at hv; simp [Value.ownBlock] at hv
 ·rw [hv2] at hv
  simp [Value.ownBlock] at hv
  subst hv
  unfold BK at hb
  rw [hgg] at hb
  injection hb with hb
  injection hb with _ h9 _
  exact hne h9
theorem cC {w' : World} {xs : List Value} {row : Option Nat} (h : w.ownsRow base e size v n xs) (hg : w.grownBy w' row) (hne : ∀ g, v.ownBlock = some g -> row ≠ some g) : w'.ownsRow base e size v n xs := by
 refine ⟨h.1, ?_⟩
 rcases h.2 with hn | ⟨g, cap, cur, rfl, hb, hgg, rest⟩
 ·exact .inl hn
 ·exact .inr ⟨g, cap, cur, rfl, hb, BK.grown (w := w) (b := g) hgg hg (hne g rfl), rest⟩
theorem bX {base' : Nat} {e' : TypeId} {size' : Nat} {v' : Value} {m' : Nat} {ys' : List Value} (ho : w.ownsRow base e size v m ys) (ho' : w.ownsRow base' e' size' v' m' ys') (hne : e ≠ e') : ∀ g, v'.ownBlock = some g -> v.ownBlock ≠ some g := fun g hg => by
 rcases ho'.2 with ⟨hn, _⟩ | ⟨g2, cap, cur, hv2, _, hgg, _⟩
 ·rw [hn] at hg; simp [Value.ownBlock] at hg
 ·rw [hv2] at hg
  simp [Value.ownBlock] at hg
  subst hg
  exact aD ho hgg hne
theorem lA {b b' : Nat} {bs : List Bool} {cs : Array Value} {fz : Nat × Nat} (h : SB w b bs) (hb : BK w b' (.cells cs e fz)) (hne : e ≠ 213) : b ≠ b' := fun e2 => by
 subst e2
 have h1 := h.1
 unfold BK at h1 hb
 rw [hb] at h1
 injection h1 with h1
 injection h1 with _ h2 _
 exact hne h2
theorem pr {b1 b2 : Nat} {xs : List Value} (h : w.ownsRow b1 e size v n xs) (k : w.ownsRow b2 e size v m ys) : n = m /\ xs = ys := by
 obtain ⟨hl, hh⟩ := h
 obtain ⟨kl, kk⟩ := k
 rcases hh with ⟨hv, hn⟩ | ⟨g, cap, cur, hv, _, hg, _, _, _, hx⟩
 ·rcases kk with ⟨kv, km⟩ | ⟨g', cap', cur', kv, _⟩
  ·subst hn; subst km
   rw [Nat.zero_mul] at hl kl
   rw [List.length_eq_zero_iff.1 hl, List.length_eq_zero_iff.1 kl]
   exact ⟨rfl, rfl⟩
  ·rw [hv] at kv; cases kv
 ·rcases kk with ⟨kv, km⟩ | ⟨g', cap', cur', kv, _, kg, _, _, _, ky⟩
  ·rw [hv] at kv; cases kv
  ·rw [hv] at kv
   cases kv
   rw [hg] at kg
   cases kg
   exact ⟨rfl, by rw [<- hx, <- ky]⟩
theorem ud {bad : Bool} (S : List Value) (hS : S.length = 134) (hSP : ∀ u ∈ S, u.oneCell' = true) (h : RA w p r base t s bad hv n) (hn : n <= 100000) :
  Calls Tryz.prog 96 #[.pointer (some ⟨p, 0, none⟩), .agg S.toArray] w fun e w' => e = .returned (.int .i64 (n : Int)) /\ RA w' p r base t s bad hv (n + 1) /\ KS r w w' /\ EB base [] w w' /\ aJ w' r n S := by
 obtain ⟨ti, hti, hzz0, hzz1, hzz2⟩ := info_parts pV
 obtain ⟨av, nv, xs, ns, h1, h2, h3, h4, h5⟩ := h.rn.ex
 obtain ⟨pa, ca, rfl⟩ := aw h2
 have hxw : Ex [] w (w.alloc (Obj.cells S.toArray 215)) := (Ex.refl _ _).alloc _
 obtain ⟨w1, hw1⟩ := exq (w.alloc (Obj.cells S.toArray 215))
 have hbx : BK w1 w.heap.size (.cells S.toArray 215 (0, 0)) := by rw [hw1]; exact BK.new _ _
 rw [<- hw1] at hxw
 have hbp := h.rk
 unfold RK at hbp
 have hbp1 := hbp.ex hxw (by simp)
 have hbr1 := h1.ex hxw (by simp)
 have hrow1 := aE h2 hxw (by simp)
 have hnm1 := aE h3 hxw (by simp)
 have r0 := hbx.rangeL
 have c3 : w1.cell? ⟨p, 3, none⟩ = some (.pointer (some ⟨r, 0, none⟩)) := hbp1.all.1 3
 have c0 : w1.cell? ⟨r, 0, none⟩ = some (.slice pa n ca) := hbr1.all.1 0
 have hpl1 := hbp1.lt
 have hrl1 := hbr1.lt
 have hxl1 := hbx.lt
 have HI : Hid ((Tryz.prog.info? 215).map (·.size) = some S.length) := by show _ = _; rw [hS]; kernel_rfl
 have HS := aa hS
 have HSP := aa hSP
 have HBX := aa hbx
 have HBP := aa hbp1
 have HBR := aa hbr1
 have HROW := aa hrow1
 have HNMR := aa hnm1
 have HX1 := aa hxw
 have HNX : Hid ((Value.slice pa n ca).ownBlock ≠ some w.heap.size) := fun e => by have := (h2.lt _ e).2; omega
 have HNP : Hid ((Value.slice pa n ca).ownBlock ≠ some p) := aD h2 hbp (by decide)
 have HNR : Hid ((Value.slice pa n ca).ownBlock ≠ some r) := aD h2 h1 (by decide)
 have hle : base <= w1.heap.size := Nat.le_trans h.bw hxw.size
 have H := aa h
 have HW1 := aa hw1
 have HNS := aa h4
 have HNL := aa h5
 clear h h1 h2 h3 h4 h5 hbp hbp1 hbr1 hrow1 hnm1 hbx hxw hS hSP hw1
 go_enter Tryz.func96, Tryz.ntmps96
 go_upto_region 1 with fail
 rw [<- HW1.O]
 refine aO (by kernel_rfl) ?_
 refine tk (i := 0) (v := ?_) rfl ?_ ?_
 rotate_left
 ·intro w'
  go_simp
  try with_reducible rfl
 simp only [Act.put, List.replicate, Array.replicate, lx]
 refine tk (i := 1) (v := ?_) rfl ?_ ?_
 rotate_left
 ·intro w'
  go_simp
  try with_reducible rfl
 simp only [Act.put, List.replicate, Array.replicate, lx]
 refine tk (i := 2) (v := ?_) rfl ?_ ?_
 rotate_left
 ·intro w'
  go_simp
  try with_reducible rfl
 simp only [Act.put, List.replicate, Array.replicate, lx]
 refine tk (i := 4) (v := ?_) rfl ?_ ?_
 rotate_left
 ·intro w'
  go_simp
  try with_reducible rfl
 simp only [Act.put, List.replicate, Array.replicate, lx]
 refine tk (i := 5) (v := ?_) rfl ?_ ?_
 rotate_left
 ·intro w'
  go_simp
  try with_reducible rfl
 simp only [Act.put, List.replicate, Array.replicate, lx]
 refine tk (i := 6) (v := ?_) rfl ?_ ?_
 rotate_left
 ·intro w'
  go_simp
  try with_reducible rfl
 simp only [Act.put, List.replicate, Array.replicate, lx]
 refine aU (S := (fun oi w' => oi < 16 -> w'.rangeAt w.heap.size 0 S /\ w'.cell? ⟨p, 3, none⟩ = some (.pointer (some ⟨r, 0, none⟩)) /\ w'.cell? ⟨r, 0, none⟩ = some (.slice pa n ca))) _ _ _ _ ?_
 refine tkJ (i := 3) (v := ?_) rfl ⟨r0, c3, c0⟩ ?_ ?_
 rotate_left
 ·intro w' hSw
  obtain ⟨f1, f2, f3⟩ := hSw
  go_simp
  try with_reducible rfl
 simp only [Act.put, List.replicate, Array.replicate, lx]
 refine tkJ (i := 7) (v := ?_) rfl ⟨r0, c3, c0⟩ ?_ ?_
 rotate_left
 ·intro w' hSw
  obtain ⟨f1, f2, f3⟩ := hSw
  go_simp
  try with_reducible rfl
 simp only [Act.put, List.replicate, Array.replicate, lx]
 refine tkJ (i := 8) (v := ?_) rfl ⟨r0, c3, c0⟩ ?_ ?_
 rotate_left
 ·intro w' hSw
  obtain ⟨f1, f2, f3⟩ := hSw
  go_simp
  try with_reducible rfl
 simp only [Act.put, List.replicate, Array.replicate, lx]
 refine tkJ (i := 9) (v := ?_) rfl ⟨r0, c3, c0⟩ ?_ ?_
 rotate_left
 ·intro w' hSw
  obtain ⟨f1, f2, f3⟩ := hSw
  go_simp
  try with_reducible rfl
 simp only [Act.put, List.replicate, Array.replicate, lx]
 refine tkJ (i := 10) (v := ?_) rfl ⟨r0, c3, c0⟩ ?_ ?_
 rotate_left
 ·intro w' hSw
  obtain ⟨f1, f2, f3⟩ := hSw
  go_simp
  try with_reducible rfl
 simp only [Act.put, List.replicate, Array.replicate, lx]
 refine tkR (i := 11) rfl ⟨r0, c3, c0⟩ (yieldsIf_load_mid (by rfl) _ _ rfl _ _ rfl S _ (fun w' h => h.1) Tryz.underlying215 rfl HI.O) ?_
 simp only [Act.put, List.replicate, Array.replicate, lx]
 refine ae (i := 12) rfl rfl (by kernel_rfl) (fun K hK => ?_)
 refine wp_buildSlice 130 215 1 _ rfl S.toArray ti _ Tryz.underlying130 hti hzz0 (by rw [hzz1]; decide) (by rw [hzz1]; decide) (by rw [hzz1]; simp only [List.map_toArray, List.map_cons, List.map_nil, Act.eval, List.getElem?_toArray, Array.getD_eq_getD_getElem?, List.getElem?_cons_succ, List.getElem?_cons_zero, Option.getD_some]; refine pU HS.O ?_; rw [Array.size_map, Array.size_range]) ?_
 have r2 : (w1.drew.alloc (.cells S.toArray 215)).rangeAt w.heap.size 0 S := (HBX.O.drew.alloc _).rangeL
 have c32 : (w1.drew.alloc (.cells S.toArray 215)).cell? ⟨p, 3, none⟩ = some (.pointer (some ⟨r, 0, none⟩)) := (HBP.O.drew.alloc _).all.1 3
 have c02 : (w1.drew.alloc (.cells S.toArray 215)).cell? ⟨r, 0, none⟩ = some (.slice pa n ca) := (HBR.O.drew.alloc _).all.1 0
 refine hK.O _ _ (fun _ => ⟨r2, c32, c02⟩) ?_
 clear hK K
 simp only [Act.put, List.replicate, Array.replicate, lx]
 refine ae (i := 13) rfl rfl (by kernel_rfl) (fun K hK => ?_)
 refine wp_append_lies _ (.tmp 15) (.tmp 17) 130 rfl base 215 ti _ 134 168 Tryz.underlying130 hti hzz0 hzz1 hzz2 rfl (by decide) (.slice pa n ca) n xs rfl ((World.ownsRow.drew HROW.O).alloc _) ⟨w1.heap.size, 0, none⟩ 1 1 S rfl (by rw [HS.O]) (bu _ _ _) HSP.O (by decide) (by unfold maxLen; omega) (by omega) (by simp; omega) _ rfl ?_
 intro g cap w3 hown3 hgrow3 hat3 hlt3
 have hbx3 := BK.grown (HBX.O.drew.alloc (.cells S.toArray 215)) hgrow3 HNX.O
 have hbp3 := BK.grown (HBP.O.drew.alloc (.cells S.toArray 215)) hgrow3 HNP.O
 have hbr3 := BK.grown (HBR.O.drew.alloc (.cells S.toArray 215)) hgrow3 HNR.O
 refine hK.O _ _ (fun _ => ⟨hbx3.rangeL, hbp3.all.1 3, hbr3.all.1 0⟩) ?_
 clear hK K
 obtain ⟨hcr3, hfr3⟩ := hbr3.all
 have hrl3 := hbr3.lt
 simp only [Act.put, List.replicate, Array.replicate, lx]
 refine ae (i := 14) rfl rfl (by kernel_rfl) (fun K hK => ?_)
 go_simp
 refine hK.O _ _ (fun _ => ⟨hbx3.rangeL, hbp3.all.1 3, hbr3.all.1 0⟩) ?_
 clear hK K
 simp only [Act.put, List.replicate, Array.replicate, lx]
 refine ae (i := 15) rfl rfl (by kernel_rfl) (fun K hK => ?_)
 go_simp
 refine hK.O _ _ (fun _ => ⟨hbx3.rangeL, hbp3.all.1 3, hbr3.all.1 0⟩) ?_
 clear hK K
 simp only [Act.put, List.replicate, Array.replicate, lx]
 refine ae (i := 16) rfl rfl (by kernel_rfl) (fun K hK => ?_)
 go_simp
 refine hK.O _ _ (fun h => by omega) ?_
 clear hK K
 refine aP (by kernel_rfl) ?_ _
 have hrow3 := aD hown3 hbr3 (by decide)
 have hnm3 := cC ((World.ownsRow.drew HNMR.O).alloc (.cells S.toArray 215)) hgrow3 (bX HROW.O HNMR.O (by decide))
 have hnmr3 := aD hnm3 hbr3 (by decide)
 have hks3 : ∀ b bs, SB w b bs -> SB w3 b bs := fun b bs hb => by
  have hb1 := (hb.ex HX1.O (by simp)).1
  exact ⟨BK.grown (hb1.drew.alloc (.cells S.toArray 215)) hgrow3 (aD HROW.O hb1 (by decide)), hb.2⟩
 have heb3 : EB base [] w w3 := (((EB.ofEx HX1.O H.O.bw).drew).alloc (by simp; omega) _).grown hgrow3 (by simp; omega) (fun k hk => .inr (aG HROW.O k hk))
 obtain ⟨w4, hw4⟩ := exq (w3.setCell ⟨r, 0, none⟩ (.slice (some ⟨g, 0, none⟩) (n + 1) cap))
 have hpr : p ≠ r := fun e => by
  subst e
  unfold BK at hbp3 hbr3
  rw [hbp3] at hbr3
  injection hbr3 with h9
  injection h9 with _ h9 _
  exact absurd h9 (by decide)
 have hbp4 := hbp3.set (p := ⟨r, 0, none⟩) hpr (.slice (some ⟨g, 0, none⟩) (n + 1) cap)
 have hbr4 := hbr3.self 0 (.slice (some ⟨g, 0, none⟩) (n + 1) cap)
 simp only [List.setIfInBounds_toArray, List.set_cons_zero] at hbr4
 have hown4 : (w3.setCell ⟨r, 0, none⟩ (.slice (some ⟨g, 0, none⟩) (n + 1) cap)).ownsRow base 215 134 (.slice (some ⟨g, 0, none⟩) (n + 1) cap) (n + 1) (xs ++ S) := aF hown3 (fun g2 hg2 => Below.heap_setCell _ _ _ _ (fun e => hrow3 (by rw [hg2, e])))
 have hnm4 : (w3.setCell ⟨r, 0, none⟩ (.slice (some ⟨g, 0, none⟩) (n + 1) cap)).ownsRow base 9 1 nv ns.length (ns.map Value.string) := aF hnm3 (fun g2 hg2 => Below.heap_setCell _ _ _ _ (fun e => hnmr3 (by rw [hg2, e])))
 have hks4 : KS r w (w3.setCell ⟨r, 0, none⟩ (.slice (some ⟨g, 0, none⟩) (n + 1) cap)) := ⟨fun b bs hb => ⟨(hks3 b bs hb).1.set (lA (hks3 b bs hb) hbr3 (by decide)) _, hb.2⟩, fun y E hy => by
  have hy1 := hy.ex HX1.O
  obtain ⟨b9, av9, ro9, gi9, nv9, n9, xs9, y1, y2, y3, y4⟩ := hy1
  have hb9 := HBR.O
  unfold BK at y1 hb9
  rw [hb9] at y1
  cases y1
  obtain ⟨e9, e8⟩ := pr y2 HROW.O
  subst e9; subst e8
  refine ⟨base, _, _, _, _, n9 + 1, xs9 ++ S, hbr4, hown4, by omega, ?_⟩
  have hl9 := HROW.O.1
  rw [List.drop_append_of_le_length (by rw [hl9]; exact Nat.mul_le_mul_right _ (by omega)), List.take_append_of_le_length (by rw [List.length_drop, hl9]; have : (y + 1) * 134 <= n9 * 134 := Nat.mul_le_mul_right _ (by omega); omega)]
  exact y4⟩
 have hrow4 : aJ (w3.setCell ⟨r, 0, none⟩ (.slice (some ⟨g, 0, none⟩) (n + 1) cap)) r n S := ⟨base, _, _, _, _, n + 1, xs ++ S, hbr4, hown4, by omega, by
  have hl9 := HROW.O.1
  rw [List.drop_append_of_le_length (by rw [hl9]; omega), List.drop_eq_nil_of_le (by rw [hl9]; omega), List.nil_append, List.take_of_length_le (by rw [HS.O]; omega)]⟩
 have heb4 : EB base [] w (w3.setCell ⟨r, 0, none⟩ (.slice (some ⟨g, 0, none⟩) (n + 1) cap)) := heb3.setCell (.inr H.O.rb) _
 have hsz4 : base <= (w3.setCell ⟨r, 0, none⟩ (.slice (some ⟨g, 0, none⟩) (n + 1) cap)).heap.size := Nat.le_trans H.O.bw heb4.size
 rw [<- hw4] at hbp4 hbr4 hown4 hnm4 hks4 heb4 hsz4 hrow4 ⊢
 have HRA : Hid (RA w4 p r base t s bad hv (n + 1)) := ⟨hbp4, ⟨_, _, _, _, hbr4, hown4, hnm4, HNS.O, HNL.O⟩, H.O.pb, H.O.rb, hsz4⟩
 have k3 : w4.cell? ⟨p, 3, none⟩ = some (.pointer (some ⟨r, 0, none⟩)) := hbp4.all.1 3
 have k0 : w4.cell? ⟨r, 0, none⟩ = some (.slice (some ⟨g, 0, none⟩) (n + 1) cap) := hbr4.all.1 0
 have kl := hbp4.lt
 have krl := hbr4.lt
 have HKS := aa hks4
 have HEB := aa heb4
 have HROW4 := aa hrow4
 clear hrow4 hw4 hbp4 hbr4 hown4 hnm4 hks4 heb4 hsz4 hks3 heb3 hnm3 hnmr3 hrow3 hown3 hgrow3 hat3 hbx3 hbp3 hbr3 hcr3 hfr3 r2 c32 c02 r0 c3 c0 hti hzz0 hzz1 hzz2
 go_wp2_with fail
 go_ret
 exact ⟨by simp, HRA.O, HKS.O, HEB.O, HROW4.O⟩
end Go.Proofs.YtfnanjbleifjkaaGreatDoor.G
