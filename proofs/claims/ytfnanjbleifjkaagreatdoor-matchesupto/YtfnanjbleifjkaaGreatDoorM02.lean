import Derived.Test.YtfnanjbleifjkaaGreatDoorM01
import Derived.Lib.SliceRun
import Derived.Deep.RegionHeld3
import Derived.Great.BuildSlice
import Derived.Lib.AppendZeros
import Derived.Lib.Overlaps
import Derived.Laws.Externs
set_option linter.unusedVariables false
set_option linter.unusedSimpArgs false
set_option maxHeartbeats 2000000
set_option maxRecDepth 100000
namespace Go.Proofs.YtfnanjbleifjkaaGreatDoor
open Go.RowKit
theorem mK (s : ByteArray) (w : World) (hs : s.size <= 281474976710656) :
  Calls Tryz.prog 120 #[.string s] w fun e w' => e = .returned (.string s) /\ Ex [] w w' := by
 go_enter Tryz.func120, Tryz.ntmps120
 go_wp2_with fail
 refine (qg _ _ hs).mono ?_
 rintro e w' ⟨rfl, hb⟩
 have HB := aa hb
 clear hb
 go_wp2_with fail
 go_ret
 exact ⟨rfl, Ex.below HB.O⟩
def jR (a b : ByteArray) : Int := Lib.compareBytes a.data.toList b.data.toList
theorem sk (l : Lab) (t : ByteArray) (w : World) :
  Calls Tryz.prog 211 #[xD l, .string t] w fun e w' => e = .returned (.int .i64 (jR l.1 t)) /\ Ex [] w w' := by
 obtain ⟨a, b⟩ := l
 unfold xD
 go_enter Tryz.func211, Tryz.ntmps211
 go_wp2_with fail
 refine (oZ _ _ _).mono ?_
 rintro e w' ⟨rfl, rfl⟩
 go_wp2_with fail
 go_ret
 exact ⟨rfl, (Ex.refl _ _).alloc _⟩
def ft (ls : List Lab) (t : ByteArray) : Nat := (ls.takeWhile fun l => decide (jR l.1 t < 0)).length
def d8 (ls : List Lab) (t : ByteArray) : Bool := match ls[ft ls t]? with | some l => jR l.1 t == 0 | none => false
def eu (ls : List Lab) (t : ByteArray) : Prop := ∀ (a b : Nat) (x y : Lab), a <= b -> ls[a]? = some x -> ls[b]? = some y -> jR y.1 t < 0 -> jR x.1 t < 0
theorem wS : ∀ {ls : List Lab} {t : ByteArray} {i : Nat}, i <= ls.length -> (∀ k l, k < i -> ls[k]? = some l -> jR l.1 t < 0) -> (∀ k l, i <= k -> ls[k]? = some l -> ¬ jR l.1 t < 0) -> ft ls t = i := by
 intro ls t
 induction ls with
 |nil => intro i hi _ _; simp at hi; subst hi; rfl
 |cons a r ih =>
  intro i hi h1 h2
  cases i with
  |zero =>
   have := h2 0 a (Nat.le_refl _) rfl
   simp [ft, List.takeWhile_cons, this]
  |succ i =>
   have ha := h1 0 a (by omega) rfl
   have := ih (i := i) (by simpa using hi) (fun k l hk hl => h1 (k + 1) l (by omega) (by simpa using hl)) (fun k l hk hl => h2 (k + 1) l (by omega) (by simpa using hl))
   simp only [ft, List.takeWhile_cons, ha, decide_true, if_true, List.length_cons]
   unfold ft at this
   omega
theorem eL (v : Value) (ls : List Lab) (t : ByteArray) (w : World) (hv : SL w v ls) (hn : ls.length <= 1000) (hsrt : eu ls t) :
  Calls Tryz.prog 210 #[v, .string t, .func (.func 211) #[] #[]] w fun e w' => e = .returned (.tuple #[.int .i64 (ft ls t), .bool (d8 ls t)]) /\ Ex [] w w' := by
 have HV := aa hv
 have HS := aa hsrt
 obtain ⟨p, c, rfl⟩ := hv.slice
 clear hv hsrt
 go_enter Tryz.func210, Tryz.ntmps210
 go_wp2_with fail
 go_loopg [9, 10] ls.length (fun gk i j wr => ∃ a b : Nat, b - a <= gk /\ a <= b /\ b <= ls.length /\ i = .int .i64 a /\ j = .int .i64 b /\ (∀ k l, k < a -> ls[k]? = some l -> jR l.1 t < 0) /\ (∀ k l, b <= k -> ls[k]? = some l -> ¬ jR l.1 t < 0) /\ Ex [] w wr)
 case atStart => exact ⟨0, ls.length, by omega, by omega, by omega, rfl, rfl, fun k l h => by omega, fun k l h hl => (by rw [List.getElem?_eq_none h] at hl; cases hl), Ex.refl _ _⟩
 case round =>
  obtain ⟨a, b, hg, hab, hbl, rfl, rfl, h1, h2, hx⟩ := hrel
  have H1 := aa h1
  have H2 := aa h2
  have HX := aa hx
  by_cases hlt : a < b
  ·have hlt' : (a : Int) < (b : Int) := by omega
   obtain ⟨h, hh⟩ : ∃ h : Nat, ((a : Int) + (b : Int)) / 2 = (h : Int) := ⟨(a + b) / 2, by omega⟩
   have hha : a <= h := by omega
   have hhb : h < b := by omega
   have hhl : h < ls.length := by omega
   have hhl' : (h : Int) < (ls.length : Int) := by omega
   obtain ⟨l, hl⟩ : ∃ l, ls[h]? = some l := ⟨_, List.getElem?_eq_getElem hhl⟩
   have HLJ := aa hl
   obtain ⟨b', c', rfl, hb, c0, c1⟩ : ∃ b' c', p = some ⟨b', 0, none⟩ /\ b' < wr.heap.size /\ wr.cell? ⟨b', h * 2, none⟩ = some (.string l.1) /\ wr.cell? ⟨b', h * 2 + 1, none⟩ = some (.string l.2) := by
    rcases HV.O with ⟨h1, h2⟩ | ⟨b', c', h1, hb, hc⟩
    ·rw [h2] at hhl; simp at hhl
    ·cases h1
     obtain ⟨h3, h4⟩ := hc h l hl
     exact ⟨b', 0, rfl, Nat.lt_of_lt_of_le hb hx.size, by rw [hx.cell0.1 b' _ hb]; exact h3, by rw [hx.cell0.1 b' _ hb]; exact h4⟩
   clear h1 h2 hx hl
   go_wp2_with fail
   refine (sk l t _).mono ?_
   rintro e w' ⟨rfl, hx1⟩
   have HX1 := aa hx1
   clear hx1
   by_cases hc : jR l.1 t < 0
   ·have HC := aa hc
    go_wp2_with fail
    go_roundg (gk - 1)
    case measure => omega
    case rel =>
     refine ⟨h + 1, b, by omega, by omega, by omega, by simp, rfl, fun k l' hk hl' => ?_, H2.O, HX.O.trans HX1.O⟩
     exact HS.O k h l' l (by omega) hl' HLJ.O HC.O
   ·have HC := aa hc
    have hc' : 0 <= jR l.1 t := by omega
    clear hc
    go_wp2_with fail
    go_roundg (gk - 1)
    case measure => omega
    case rel =>
     refine ⟨a, h, by omega, by omega, by omega, rfl, by simp, H1.O, fun k l' hk hl' => Int.not_lt.1 fun hlt2 => ?_, HX.O.trans HX1.O⟩
     exact absurd (HS.O h k l l' hk HLJ.O hl' hlt2) (by have := HC.O; omega)
  ·obtain rfl : a = b := by omega
   have hpos : ft ls t = a := wS hbl h1 h2
   have HP := aa hpos
   clear hpos hlt h1 h2
   by_cases hal : a < ls.length
   ·have hal' : (a : Int) < (ls.length : Int) := by omega
    obtain ⟨l, hl⟩ : ∃ l, ls[a]? = some l := ⟨_, List.getElem?_eq_getElem hal⟩
    have HLJ := aa hl
    obtain ⟨b, c', rfl, hb, c0, c1⟩ : ∃ b c', p = some ⟨b, 0, none⟩ /\ b < wr.heap.size /\ wr.cell? ⟨b, a * 2, none⟩ = some (.string l.1) /\ wr.cell? ⟨b, a * 2 + 1, none⟩ = some (.string l.2) := by
     rcases HV.O with ⟨h1, h2⟩ | ⟨b, c', h1, hb, hc⟩
     ·rw [h2] at hal; simp at hal
     ·cases h1
      obtain ⟨h3, h4⟩ := hc a l hl
      exact ⟨b, 0, rfl, Nat.lt_of_lt_of_le hb hx.size, by rw [hx.cell0.1 b _ hb]; exact h3, by rw [hx.cell0.1 b _ hb]; exact h4⟩
    clear hx hl
    go_wp2_with fail
    refine (sk l t _).mono ?_
    rintro e w' ⟨rfl, hx1⟩
    have HX1 := aa hx1
    clear hx1
    go_wp2_with fail
    go_ret2
    refine ⟨?_, HX.O.trans HX1.O⟩
    simp [d8, af HP, HLJ.O]
   ·obtain rfl : a = ls.length := by omega
    clear hx hal
    go_wp2_with fail
    go_ret2
    refine ⟨?_, HX.O⟩
    simp [d8, af HP]
structure LS (w : World) (q base : Nat) (ls : List Lab) : Prop where
 lt : q < base
 le : base <= w.heap.size
 ex : ∃ v, BK w q (.cells #[v] 250 (0, 0)) /\ w.ownsRow base 167 2 v ls.length (ls.flatMap fun l => [.string l.1, .string l.2])
theorem dG : ∀ (ls : List Lab) (j : Nat) (l : Lab), ls[j]? = some l -> (ls.flatMap fun l => [Value.string l.1, Value.string l.2])[j * 2]? = some (.string l.1) /\ (ls.flatMap fun l => [Value.string l.1, Value.string l.2])[j * 2 + 1]? = some (.string l.2)
 | [], j, l, h => by simp at h
 |a :: r, 0, l, h => by simp at h; subst h; simp
 |a :: r, j + 1, l, h => by
  have := dG r j l (by simpa using h)
  simp only [List.flatMap_cons, List.cons_append, List.nil_append]
  rw [show (j + 1) * 2 = j * 2 + 1 + 1 by omega]
  simpa using this
theorem vx {w : World} {base : Nat} {v : Value} {ls : List Lab} (h : w.ownsRow base 167 2 v ls.length (ls.flatMap fun l => [.string l.1, .string l.2])) : SL w v ls := by
 rcases h.2 with ⟨rfl, h2⟩ | ⟨g, cap, cur, rfl, hb, hg, hn, hm, hs, ht⟩
 ·exact .inl ⟨rfl, List.length_eq_zero_iff.1 h2⟩
 ·refine .inr ⟨g, cap, rfl, (Array.getElem?_eq_some_iff.1 hg).1, fun j l hj => ?_⟩
  have hjl : j < ls.length := (List.getElem?_eq_some_iff.1 hj).1
  have h1 := dG ls j l hj
  rw [cell_of_row w g _ cur _ _ hg, cell_of_row w g _ cur _ _ hg]
  rw [<- ht, List.getElem?_take, List.getElem?_take, if_pos (by omega), if_pos (by omega)] at h1
  simpa using h1
theorem uL (q base : Nat) (ls : List Lab) (t : ByteArray) (w : World) (hq : LS w q base ls) (hn : ls.length <= 1000) (hsrt : eu ls t) :
  Calls Tryz.prog 171 #[.pointer (some ⟨q, 0, none⟩), .string t] w fun e w' => e = .returned (.tuple #[.int .i64 (ft ls t), .bool (d8 ls t)]) /\ Ex [] w w' := by
 obtain ⟨v, hb, ho⟩ := hq.ex
 obtain ⟨hc, hf⟩ := hb.all
 have HO := aa ho
 have HS := aa hsrt
 clear hq hb ho hsrt
 go_enter Tryz.func171, Tryz.ntmps171
 go_wp2_with fail
 refine (eL v ls t _ (vx HO.O) hn HS.O).mono ?_
 rintro e w' ⟨rfl, hx1⟩
 have HX1 := aa hx1
 clear hx1
 go_wp2_with fail
 go_ret2
 exact ⟨rfl, HX1.O⟩
theorem jW : (Tryz.prog.info? 167).map (fun i => (i.zero, i.size, i.bytes)) = some (some (.agg #[.string ⟨#[]⟩, .string ⟨#[]⟩]), 2, 32) := by kernel_rfl
theorem sE (w : World) : (zeroValue 167).run Tryz.prog w = .ok (.agg #[.string ⟨#[]⟩, .string ⟨#[]⟩]) w := by kernel_rfl
theorem tg (base g n cap i : Nat) (xs : List Value) (w : World) (hown : w.ownsRow base 167 2 (.slice (some ⟨g, 0, none⟩) n cap) n xs) (hi : i < n) (hn : n <= 1000) (hp : rM xs) :
  Calls Tryz.prog 172 #[.slice (some ⟨g, 0, none⟩) n cap, .int .i64 i, .int .i64 ((i + 1 : Nat) : Int)] w fun e w' => e = .returned (.slice (some ⟨g, 0, none⟩) (n - 1) cap) /\
   w'.ownsRow base 167 2 (.slice (some ⟨g, 0, none⟩) (n - 1) cap) (n - 1) (xs.take (i * 2) ++ xs.drop ((i + 1) * 2)) /\ Ex [g] w w' := by
 obtain ⟨t0, hti, hzz0, hzz1, hzz2⟩ := info_parts jW
 have hnc : n <= cap /\ cap <= maxLen := by
  rcases hown.2 with ⟨h, _⟩ | ⟨g', cap', cur, h, hbg, hg, hnc, hcm, _⟩
  ·cases h
  ·cases h; exact ⟨hnc, hcm⟩
 obtain ⟨hnc, hcm⟩ := hnc
 have HO := aa hown
 have hcm' : cap <= 9223372036854775807 := hcm
 clear hown hcm
 have h1 : (i : Int) < (n : Int) := by omega
 have h2 : (i : Int) + 1 <= (n : Int) := by omega
 have h3 : i <= cap := by omega
 have h4 : ((i : Int) + 1).toNat = i + 1 := by omega
 have h5 : i + 1 <= n := by omega
 have h6 : (0 : Int) <= (i : Int) + 1 := by omega
 by_cases hc : cap = i + 1
 ·have hni : n = i + 1 := by omega
  subst hc
  subst hni
  obtain ⟨w1, hr1, ho1, hg1⟩ := run_append_fits (P := Tryz.prog) (w := w.drew) base 41 41 167 t0 2 Tryz.underlying41 hti hzz1 g i (i + 1) _ (ke HO.O.drew (Nat.le_of_lt hi)) ⟨g, 0, none⟩ 0 0 []
   rfl (fun j u hj => by simp at hj) (fun u hu => by simp at hu) (by omega)
  have hdr : xs.drop ((i + 1) * 2) = [] := List.drop_of_length_le (by rw [HO.O.1]; exact Nat.le_refl _)
  rw [hdr]
  have HO1 := aa ho1
  have HG1 := aa hg1
  clear ho1 hg1 hdr
  simp only [Nat.add_zero] at hr1
  have h10 : (i : Int) <= (i : Int) + 1 := by omega
  go_enter Tryz.func172, Tryz.ntmps172
  go_wp2_with fail
  go_region_law (refine fU rfl _ _ 41 rfl (.slice (some ⟨g, 0, none⟩) i (i + 1)) (.slice (some ⟨g, 0, none⟩) 0 0) (by simp [Act.eval, Act.put]) (by simp [Act.eval, Act.put]) hr1 ?_)
  obtain ⟨w2, hr2, ho2, hx2⟩ := gx (P := Tryz.prog) w1 41 167 0 _ Tryz.underlying41 sE [.string ⟨#[]⟩, .string ⟨#[]⟩] (by kernel_rfl) (by simp [Value.oneCell']) base 2 g i i (i + 1) 1 _ rfl (by omega) (by omega) HO1.O
  have HO2 := aa ho2
  have HX2 := aa hx2
  clear ho2 hx2 hr1
  go_wp2_with (at_builtin; refine fd _ rfl _ 41 rfl _ rfl hr2 ?_)
  go_ret
  exact ⟨by simp, by simpa using HO2.O, ((Ex.refl _ _).drew.grown HG1.O (fun k hk => by cases hk; exact .inl (by simp))).trans HX2.O⟩
 ·obtain ⟨w1, hr1, ho1, hg1⟩ := run_append_fits (P := Tryz.prog) (w := w.drew) base 41 41 167 t0 2 Tryz.underlying41 hti hzz1 g i cap _ (ke HO.O.drew (Nat.le_of_lt hi)) ⟨g, (i + 1) * 2, none⟩ (n - (i + 1)) (cap - (i + 1)) (xs.drop ((i + 1) * 2))
   (by rw [List.length_drop, HO.O.1]; omega) (fun j u hj => by rw [Addr.add_lit]; exact gy HO.O.drew (by rwa [List.getElem?_drop] at hj)) (fun u hu => hp u (List.mem_of_mem_drop hu)) (by omega)
  rw [show i + (n - (i + 1)) = n - 1 by omega] at hr1 ho1
  have HO1 := aa ho1
  have HG1 := aa hg1
  clear ho1 hg1
  go_enter Tryz.func172, Tryz.ntmps172
  go_wp2_with fail
  go_region_law (refine fU rfl _ _ 41 rfl (.slice (some ⟨g, 0, none⟩) i cap) (.slice (some ⟨g, (i + 1) * 2, none⟩) (n - (i + 1)) (cap - (i + 1))) (by simp [Act.eval, Act.put]) (by simp [Act.eval, Act.put]) hr1 ?_)
  obtain ⟨w2, hr2, ho2, hx2⟩ := gx (P := Tryz.prog) w1 41 167 0 _ Tryz.underlying41 sE [.string ⟨#[]⟩, .string ⟨#[]⟩] (by kernel_rfl) (by simp [Value.oneCell']) base 2 g (n - 1) (n - 1) cap (cap - (n - 1)) _ rfl (by omega) (by omega) HO1.O
  have HO2 := aa ho2
  have HX2 := aa hx2
  clear ho2 hx2 hr1
  have h7 : n - (n - 1) = 1 := by omega
  have h8 : n - 1 <= n := by omega
  have h9 : ¬ cap = n - 1 := by omega
  go_wp2_with (at_builtin; refine fd _ rfl _ 41 rfl _ rfl hr2 ?_)
  go_ret
  exact ⟨rfl, HO2.O, ((Ex.refl _ _).drew.grown HG1.O (fun k hk => by cases hk; exact .inl (by simp))).trans HX2.O⟩
theorem mc (base n vb : Nat) (v : Value) (xs : List Value) (l : Lab) (w : World) (hown : w.ownsRow base 167 2 v n xs) (hn : n <= 1000) (hb : base <= w.heap.size)
  (hv : BK w vb (.cells #[.string l.1, .string l.2] 167 (0, 0))) :
  Calls Tryz.prog 173 #[v, .int .i64 n, .slice (some ⟨vb, 0, none⟩) 1 1] w fun e w' => ∃ v', e = .returned v' /\
   w'.ownsRow base 167 2 v' (n + 1) (xs ++ [.string l.1, .string l.2]) /\ w.grownBy w' v.ownBlock /\ (v.ownBlock = v'.ownBlock \/ v'.ownBlock = some w.heap.size) := by
 obtain ⟨t0, hti, hzz0, hzz1, hzz2⟩ := info_parts jW
 have HO := aa hown
 obtain ⟨p, c, rfl⟩ := aw hown
 obtain ⟨hc, hf⟩ := hv.all
 have hnc : n <= c := by
  rcases hown.2 with ⟨h, h2⟩ | ⟨g', cap', cur, h, hbg, hg, hnc, hcm, _⟩
  ·cases h; omega
  ·cases h; exact hnc
 have hce : c = n -> n <= c := fun _ => hnc
 have HN : Hid (∀ j u, [Value.string l.1, .string l.2][j]? = some u -> w.cell? ((⟨vb, 0, none⟩ : Addr).add j) = some u) := by
  intro j u hj
  rw [Addr.add_lit, Nat.zero_add, hc]
  simpa using hj
 clear hown hv hc hf hce
 have hpn : (p = none -> n = 0) := by
  intro h; subst h
  rcases HO.O.2 with ⟨h, h2⟩ | ⟨g', cap', cur, h, _⟩
  ·exact h2
  ·cases h
 go_enter Tryz.func173, Tryz.ntmps173
 go_wp2_with (at_builtin; refine wpList_append_lies _ rfl _ _ 41 rfl base 167 t0 _ 2 32 Tryz.underlying41 hti hzz0 hzz1 hzz2 rfl (by decide) _ n xs rfl HO.O ⟨vb, 0, none⟩ 1 1 [.string l.1, .string l.2] rfl rfl HN.O (by simp [Value.oneCell']) (by decide) (by unfold maxLen; omega) (by omega) hb _ rfl ?_)
 all_goals
  intro g cap w' hown' hgrow hloc hlt
  have HO1 := aa hown'
  have HG := aa hgrow
  have HL := aa hloc
  clear hown' hgrow hloc hlt
  go_wp2_with fail
  go_ret
  have e : ∀ c, (Value.slice p n c).ownBlock = p.map (·.block) := fun c => by cases p <;> rfl
  refine ⟨_, rfl, HO1.O, by have := HG.O; rw [e] at this ⊢; exact this, ?_⟩
  have := HL.O
  rw [e] at this ⊢
  exact this.imp id (fun h => by rw [h]; rfl)
theorem mq (s : ByteArray) (w : World) (hs : s.size <= 200) :
  Calls Tryz.prog 174 #[.string s] w fun e w' => e = .returned (.string s) /\ w' = w := by
 have h1 : (s.size : Int) <= 200 := by omega
 go_enter Tryz.func174, Tryz.ntmps174
 go_wp2_with fail
 go_ret
 exact ⟨rfl, rfl⟩
theorem iC (ls : List Lab) : ∀ u ∈ (ls.flatMap fun l => [Value.string l.1, Value.string l.2]), u.oneCell' = true := by
 intro u hu
 obtain ⟨l, _, hl⟩ := List.mem_flatMap.1 hu
 simp only [List.mem_cons, List.not_mem_nil, or_false] at hl
 rcases hl with rfl | rfl <;> rfl
abbrev aB (ls : List Lab) : List Value := ls.flatMap fun l => [.string l.1, .string l.2]
theorem qE (ls : List Lab) (l : Lab) : aB ls ++ [.string l.1, .string l.2] = aB (ls ++ [l]) := by simp [aB]
theorem LS.mk' {w : World} {q base n : Nat} {ls : List Lab} {xs : List Value} {v : Value} (hlt : q < base) (hle : base <= w.heap.size) (hb : BK w q (.cells #[v] 250 (0, 0)))
  (ho : w.ownsRow base 167 2 v n xs) (hn : n = ls.length) (hx : xs = aB ls) : LS w q base ls := by
 subst hn; subst hx; exact ⟨hlt, hle, v, hb, ho⟩
theorem ej (q base : Nat) (ls : List Lab) (a v : ByteArray) (w : World) (hq : LS w q base ls) (hn : ls.length < 60) (hsrt : eu ls a) (hp : ft ls a = ls.length) (hv0 : ¬ v.size = 0) (hv : v.size <= 200) :
  Calls Tryz.prog 119 #[.pointer (some ⟨q, 0, none⟩), .string a, .string v] w fun e w' => e = .returned (.tuple #[]) /\ LS w' q base (ls ++ [(a, v)]) /\ EB base [q] w w' := by
 have ht : d8 ls a = false := by simp [d8, hp]
 have HQ := aa hq
 have HS := aa hsrt
 have hqb := hq.lt
 have hle := hq.le
 have hem := cr hv0
 clear hq hsrt
 go_enter Tryz.func119, Tryz.ntmps119
 go_wp2_with fail
 refine (uL q base ls a _ HQ.O (by omega) HS.O).mono ?_
 rintro e w1 ⟨rfl, hx1⟩
 rw [ht, hp]
 have hb1 : ∃ v0, BK w1 q (.cells #[v0] 250 (0, 0)) /\ w1.ownsRow base 167 2 v0 ls.length (aB ls) := by
  obtain ⟨v0, hb, ho⟩ := HQ.O.ex
  exact ⟨v0, hb.ex hx1 (by simp), aE ho hx1 (by simp)⟩
 obtain ⟨v0, hb1, ho1⟩ := hb1
 have hz1 := hx1.size
 have HX1 := aa hx1
 have HB1 := aa hb1
 have HO1 := aa ho1
 have hql := hb1.lt
 obtain ⟨p, c, rfl⟩ := aw ho1
 obtain ⟨hc, hf⟩ := hb1.all
 clear hx1 hb1 ho1 ht hp
 have hn' : ¬ ((ls.length : Int) = 60) := by omega
 have hn'' : ((ls.length : Int) == 60) = false := by simpa using hn'
 go_wp2_with fail
 go_region_with (first
  |(go_at_call 174; refine (mq v _ hv).mono ?_; rintro e w2 ⟨rfl, rfl⟩)
  |(go_at_call 173; refine (mc base ls.length w1.heap.size _ (aB ls) (a, v) _ (HO1.O.drew.alloc _) (by omega) (by simp; omega) ((BK.new _ _))).mono ?_; rintro e w3 ⟨v3, rfl, ho3, hg3, hl3⟩; obtain ⟨p3, c3, rfl⟩ := aw ho3; have hb3 := BK.grown ((HB1.O.drew.alloc (Obj.cells #[.string a, .string v] 167))) hg3 (fun e => by have h9 := aG HO1.O q e; omega); obtain ⟨hc3, hf3⟩ := hb3.all))
 all_goals
  have HG3 := aa hg3
  have HO3 := aa ho3
  have HB3 := aa hb3
  clear hg3 ho3 hb3 hl3 hc hf hc3 hf3
  go_end0
  have hz3 : w1.heap.size + 1 <= w3.heap.size := by have := HG3.O.size; simpa using this
  refine ⟨rfl, LS.mk' hqb (by simp; omega) (BK.self HB3.O 0 _) (dg HO3.O hqb _) (by simp) (qE ls (a, v)), ?_⟩
  exact (((((EB.ofEx HX1.O hle).mono (Nat.le_refl _) (by simp) : EB base [q] w w1).drew.alloc (by simp; omega) _).grown HG3.O (by simp; omega) (fun k hk => .inr (aG HO1.O k hk))).setCell (.inl (by simp)) _)
theorem ik (ls : List Lab) (i : Nat) : (aB ls).take (i * 2) = aB (ls.take i) := by
 induction ls generalizing i with
 |nil => simp [aB]
 |cons a r ih =>
  cases i with
  |zero => simp [aB]
  |succ i =>
   have := ih i
   simp only [aB, List.flatMap_cons, List.take_succ_cons, List.cons_append, List.nil_append] at this ⊢
   rw [show (i + 1) * 2 = i * 2 + 1 + 1 by omega, List.take_succ_cons, List.take_succ_cons, this]
theorem im (ls : List Lab) (i : Nat) : (aB ls).drop (i * 2) = aB (ls.drop i) := by
 induction ls generalizing i with
 |nil => simp [aB]
 |cons a r ih =>
  cases i with
  |zero => simp [aB]
  |succ i =>
   have := ih i
   simp only [aB, List.flatMap_cons, List.drop_succ_cons, List.cons_append, List.nil_append] at this ⊢
   rw [show (i + 1) * 2 = i * 2 + 1 + 1 by omega, List.drop_succ_cons, List.drop_succ_cons, this]
def yt (ls : List Lab) (acc : Nat -> List Lab) : Prop := acc 0 = [] /\ ∀ j l, ls[j]? = some l -> ∀ W q base, LS W q base (acc j) ->
 Calls Tryz.prog 119 #[.pointer (some ⟨q, 0, none⟩), .string l.1, .string l.2] W fun e w' => e = .returned (.tuple #[]) /\ LS w' q base (acc (j + 1)) /\ EB base [q] W w'
def yq (v : Value) (b : Bool) : Value := .agg #[v, .bool b]
theorem pM : ∀ (S : List Value) (k : Nat) (C : Array Value), k + S.length <= C.size -> (S.zipIdx k).foldl (fun (cs : Array Value) (x : Value × Nat) => cs.setIfInBounds (0 + x.2) x.1) C = (C.toList.take k ++ S ++ C.toList.drop (k + S.length)).toArray
 | [], k, C, h => by simp
 |v :: r, k, C, h => by
  have e := list_seg_step C.toList k v r (by simp at h ⊢; omega)
  rw [List.zipIdx_cons, List.foldl_cons, pM r (k + 1) _ (by simp at h ⊢; omega)]
  congr 1
  simpa [Array.toList_setIfInBounds, Nat.add_assoc] using e
theorem pU {S : List Value} {n : Nat} {C : Array Value} (hS : S.length = n) (hC : C.size = n) : Instr.fill (fun i => some (i * n, n)) C [(0, .agg S.toArray)] = some S.toArray := by
 have h := pM S 0 C (by omega)
 unfold Instr.fill
 simp only [Nat.zero_mul, Value.cells, List.size_toArray, hS, hC]
 rw [if_neg (by simp)]
 unfold Instr.fill
 congr 1
 rw [<- Array.foldl_toList, Array.toList_zipIdx]
 simp only [List.take_zero, List.nil_append, Nat.zero_add] at h
 rw [List.drop_of_length_le (by rw [Array.length_toList]; omega), List.append_nil] at h
 simpa using h
theorem lT {need cap : Nat} (hc : cap <= 200) (hn : need <= 400) : Builtin.nextslicecap need cap <= 400 := by
 unfold Builtin.nextslicecap
 split
 ·omega
 ·split <;> omega
theorem fX {P : Program} (w : World) (t tn ty e : TypeId) (i : TypeInfo) (z : Value) (k kn : IntKind) (ht : P.underlying t = some (.slice e)) (htn : P.underlying tn = some (.int kn)) (hi : P.info? e = some i) (hz : i.zero = some z)
  (base g n cap m : Nat) (xs : List Value) (hown : w.ownsRow base e i.size (.slice (some ⟨g, 0, none⟩) n cap) n xs) (hm : 0 < m) (hs : 0 < i.size) (hneed : cap < n + m) (hc : cap <= 200) (hn4 : n + m <= 400) (hb : i.bytes <= 1000) :
  (Builtin.append_ #[t, tn] ty #[.slice (some ⟨g, 0, none⟩) n cap, .int k m]).run P w =
   .ok (.slice (some ⟨w.heap.size, 0, none⟩) (n + m) (grownCap w (n + m) cap e)) (w.drew.alloc (.cells (xs.toArray ++ Builtin.zeroCells z.cells m ++ Builtin.zeroCells z.cells (grownCap w (n + m) cap e - (n + m))) e)) := by
 have hw : IntKind.i64.wrap (m : Int) = m := by rw [IntKind.wrap_i64]; omega
 have h63' : ¬ (9223372036854775807 < (n : Int) + (m : Int)) := by omega
 have hnx := lT hc hn4
 have h48' : ¬ (281474976710656 < Builtin.nextslicecap (n + m) cap * i.bytes) := by
  have := Nat.mul_le_mul hnx hb
  omega
 have h48i : ¬ (281474976710656 < (m : Int) * (i.bytes : Int)) := by
  rw [<- Int.natCast_mul]
  have := Nat.mul_le_mul (show m <= 400 by omega) hb
  omega
 have hneg : ¬ ((m : Int) < 0) := by omega
 have hm0 : m ≠ 0 := by omega
 have hms : ¬ (m * i.size = 0) := Nat.mul_ne_zero hm0 (by omega)
 have hnc : ¬ (n + m <= cap) := by omega
 have hl : (loadCells ⟨g, 0, none⟩ (n * i.size)).run P w.drew = .ok xs.toArray w.drew := by
  rw [<- hown.1]
  exact run_loadCells_list (P := P) w.drew ⟨g, 0, none⟩ xs (fun j u hj => by rw [Addr.add_lit, Nat.zero_add]; exact gy hown.drew hj)
 simp [Builtin.append_, run_underlying ht, run_underlying htn, sizeOf, typeInfo, zeroValue, hi, hz, asInt, asIntOf, hw, hm0, hneg, hms, h63', h48', h48i, hnc, Builtin.firstCells, hl, Question.forced, newRow, grownCap]
theorem eU {P : Program} (w : World) (dT sT ty elem : TypeId) (i : TypeInfo) (sz : Nat) (d o dLen dCap : Nat) (a : Addr) (sLen sCap n : Nat) (cur : Array Value) (t : TypeId) (cs : List Value)
  (hu : P.underlying dT = some (.slice elem)) (hi : P.info? elem = some i) (hsz : i.size = sz) (hd : w.heap[d]? = some (.cells cur t (0, 0))) (hn : Nat.min sLen dLen = n) (hc : cs.length = n * sz)
  (hsrc : ∀ j v, cs[j]? = some v -> w.cell? (a.add j) = some v) (hfit : o + cs.length <= cur.size) (h1 : ∀ v ∈ cs, v.oneCell' = true) :
  (Builtin.copy_ #[dT, sT] ty #[.slice (some ⟨d, o, none⟩) dLen dCap, .slice (some a) sLen sCap]).run P w = .ok (goInt n) (w.setRow d (cur.toList.take o ++ cs ++ cur.toList.drop (o + cs.length)).toArray) := by
 subst hsz
 have hl : (loadCells a cs.length).run P w = .ok cs.toArray w := run_loadCells_list (P := P) w a cs hsrc
 have hst := run_storeCells_at P d o t cs 0 cur w hd (by simpa using hfit) h1
 simp only [Nat.add_zero] at hst
 rw [hc] at hl
 simp [Builtin.copy_, run_underlying hu, Builtin.lenOf, Builtin.firstCells, sizeOf, typeInfo, hi, hn, hl, hst]
theorem fS {P : Program} (w : World) {ops : Array Oper} {rest : List Oper} {o : Oper} {a : Act} {Q : Exit -> Act -> World -> Prop} (hgd : o.guard = none) (s x : Operand) (t t' : TypeId)
  (ho : o.op = .call { callee := .builtin .copy, args := #[s, x], argTypes := #[t, t'] }) (v u : Value) (hs : a.eval s = v) (hx : a.eval x = u) {v' : Value} {w' : World}
  (hr : (Builtin.copy_ #[t, t'] o.type #[v, u]).run P w = .ok v' w') (h : wpList P ops Q rest (a.put o.dst v') w') : wpList P ops Q (o :: rest) a w := by
 refine wpList_plain hgd fun K hK => ?_
 unfold Oper.wp
 simp [execOp, ho, resolve, invoke, builtin, hs, hx, hr, Result.andThen]
 exact hK _ _ h
theorem wk {xs new cur : List Value} {a l m : Nat} (hx : cur.take l = xs) (hl : xs.length = l) (ha : a <= l) (hn : new.length = m) (hc : l + m <= cur.length) :
  ((cur.take (a + m) ++ xs.drop a ++ cur.drop (a + m + (l - a))).take a ++ new ++ (cur.take (a + m) ++ xs.drop a ++ cur.drop (a + m + (l - a))).drop (a + m)).take (l + m) = xs.take a ++ new ++ xs.drop a := by
 have h1 : (cur.take (a + m) ++ xs.drop a ++ cur.drop (a + m + (l - a))).take a = xs.take a := by
  rw [List.append_assoc, List.take_append_of_le_length (by simp; omega), List.take_take, Nat.min_eq_left (by omega), <- hx, List.take_take, Nat.min_eq_left ha]
 have h2 : (cur.take (a + m) ++ xs.drop a ++ cur.drop (a + m + (l - a))).drop (a + m) = xs.drop a ++ cur.drop (a + m + (l - a)) := by
  rw [List.append_assoc, List.drop_append_of_le_length (by simp; omega), List.drop_of_length_le (by simp; omega), List.nil_append]
 rw [h1, h2, <- List.append_assoc, List.take_append_of_le_length (by simp; omega), List.take_of_length_le (by simp; omega)]
theorem wR (w : World) : (Go.sizeOf 167).run Tryz.prog w = .ok 2 w := by kernel_rfl
theorem pY (base g n cap i vb : Nat) (xs : List Value) (l : Lab) (w : World) (hown : w.ownsRow base 167 2 (.slice (some ⟨g, 0, none⟩) n cap) n xs) (hi : i < n) (hr : n + 1 <= cap) (hn : n <= 200) (hp : rM xs)
  (hv : BK w vb (.cells #[.string l.1, .string l.2] 167 (0, 0))) (hne : vb ≠ g) :
  Calls Tryz.prog 173 #[.slice (some ⟨g, 0, none⟩) n cap, .int .i64 i, .slice (some ⟨vb, 0, none⟩) 1 1] w fun e w' => e = .returned (.slice (some ⟨g, 0, none⟩) (n + 1) cap) /\
   w'.ownsRow base 167 2 (.slice (some ⟨g, 0, none⟩) (n + 1) cap) (n + 1) (xs.take (i * 2) ++ [.string l.1, .string l.2] ++ xs.drop (i * 2)) /\ Ex [g] w w' := by
 obtain ⟨t0, hti, hzz0, hzz1, hzz2⟩ := info_parts jW
 have hlen := hown.1
 obtain ⟨cur, hbg, hg, hcm, hcs, htake⟩ : ∃ cur, base <= g /\ BK w g (.cells cur 167 (0, 0)) /\ cap <= maxLen /\ cur.size = cap * 2 /\ cur.toList.take (n * 2) = xs := by
  rcases hown.2 with ⟨h, _⟩ | ⟨g', cap', cur, h, hbg, hg, hnc, hcm, hcs, htake⟩
  ·cases h
  ·cases h; exact ⟨cur, hbg, hg, hcm, hcs, htake⟩
 have hcm' : cap <= 9223372036854775807 := hcm
 have hov : ∀ lb cb, (callFunc 213 #[.slice (some ⟨vb, 0, none⟩) 1 1, .slice (some ⟨g, (i + 1) * 2, none⟩) lb cb]).run Tryz.prog w = .ok (.value (.bool false)) w := fun lb cb => by
  rw [run_callFunc_extern Tryz.func213 (by kernel_rfl) (by kernel_rfl) (by kernel_rfl) (e := Extern.SlicesOverlaps.overlaps #[41, 41] #[4]) (by kernel_rfl),
   Lib.run_overlaps_apart w 41 4 167 Tryz.underlying41 2 wR ⟨vb, 0, none⟩ ⟨g, (i + 1) * 2, none⟩ 1 1 lb cb hne 167 167 2 (cap * 2) (by unfold World.shape?; rw [show w.heap[vb]? = _ from hv]; rfl) (by unfold World.shape?; rw [show w.heap[g]? = _ from hg]; simp [hcs]) (by omega) (hv.all.2 0) (hv.all.2 2)]
  rfl
 have hcp1 := eU (P := Tryz.prog) w.drew 41 41 3 167 t0 2 g ((i + 1) * 2) (n + 1 - (i + 1)) (cap - (i + 1)) ⟨g, i * 2, none⟩ (n + 1 - i) (cap - i) (n - i) cur 167 (xs.drop (i * 2))
  Tryz.underlying41 hti hzz1 hg.drew (by simp only [Nat.min_def]; split <;> omega) (by rw [List.length_drop, hlen]; omega)
  (fun j u hj => by rw [Addr.add_lit]; exact gy hown.drew (by rwa [List.getElem?_drop] at hj)) (by rw [List.length_drop, hlen, hcs]; omega) (fun u hu => hp u (List.mem_of_mem_drop hu))
 obtain ⟨w1, hw1⟩ := exq (w.drew.setRow g (cur.toList.take ((i + 1) * 2) ++ xs.drop (i * 2) ++ cur.toList.drop ((i + 1) * 2 + (xs.drop (i * 2)).length)).toArray)
 rw [<- hw1] at hcp1
 rw [show n + 1 - (i + 1) = n - i by omega] at hcp1
 have hg1 : BK w1 g (.cells (cur.toList.take ((i + 1) * 2) ++ xs.drop (i * 2) ++ cur.toList.drop ((i + 1) * 2 + (xs.drop (i * 2)).length)).toArray 167 (0, 0)) := by rw [hw1]; exact setRow_heap _ _ _ _ _ _ hg.drew
 have hv1 : BK w1 vb (.cells #[.string l.1, .string l.2] 167 (0, 0)) := by rw [hw1]; unfold BK; rw [setRow_other _ _ _ _ hne]; exact hv.drew
 have hcp2 := eU (P := Tryz.prog) w1 41 41 3 167 t0 2 g (i * 2) (n + 1 - i) (cap - i) ⟨vb, 0, none⟩ 1 1 1 _ 167 [.string l.1, .string l.2]
  Tryz.underlying41 hti hzz1 hg1 (by simp only [Nat.min_def]; split <;> omega) rfl
  (fun j u hj => by rw [Addr.add_lit, Nat.zero_add, hv1.all.1]; simpa using hj) (by simp [hlen, hcs]; omega) (by simp [Value.oneCell'])
 have HX1 : Hid (Ex [g] w w1) := aa (by rw [hw1]; exact ((Ex.refl _ _).drew).setRow (.inl (by simp)) _)
 have HO := aa hown
 have HG1 := aa hg1
 have HT := aa htake
 have HCS := aa hcs
 have HL := aa hlen
 have hbg' := hbg
 have h1 : (i : Int) < (n : Int) := by omega
 have h2 : ¬ ((i : Int) = (n : Int)) := by omega
 have h3 : ¬ ((cap : Int) < (n : Int) + 1) := by omega
 have h4 : (n : Int) + 1 <= (cap : Int) := by omega
 have h5 : (i : Int) + 1 <= (n : Int) + 1 := by omega
 have h6 : ((i : Int) + 1).toNat = i + 1 := by omega
 have h7 : ((n : Int) + 1).toNat = n + 1 := by omega
 have h8 : ¬ cap = i + 1 := by omega
 have h9 : ¬ cap = i := by omega
 have h10 : i + 1 <= n + 1 := by omega
 have h11 : (0 : Int) <= (i : Int) + 1 := by omega
 have h12 : (0 : Int) <= (n : Int) + 1 := by omega
 have h13 : (i : Int) <= (n : Int) + 1 := by omega
 have h14 : i <= n + 1 := by omega
 have h15 : IntKind.i64.wrap ((i : Int) + 1) = (i : Int) + 1 := by rw [IntKind.wrap_i64]; omega
 have h16 : (i : Int) <= (n : Int) := by omega
 have h17 : i <= n := by omega
 clear hown hv hg hg1 hv1 hw1 htake hcs hlen hcm hp
 go_enter Tryz.func173, Tryz.ntmps173
 go_wp2_with (simp only [hov])
 go_region_law (refine ii rfl _ _ 41 41 rfl (.slice (some ⟨g, (i + 1) * 2, none⟩) (n - i) (cap - (i + 1))) (.slice (some ⟨g, i * 2, none⟩) (n + 1 - i) (cap - i)) (by simp [Act.eval, Act.put]) (by simp [Act.eval, Act.put]) hcp1 ?_)
 obtain ⟨w2, hw2⟩ := exq (w1.setRow g ((cur.toList.take ((i + 1) * 2) ++ xs.drop (i * 2) ++ cur.toList.drop ((i + 1) * 2 + (xs.drop (i * 2)).length)).take (i * 2) ++ [Value.string l.1, Value.string l.2] ++ (cur.toList.take ((i + 1) * 2) ++ xs.drop (i * 2) ++ cur.toList.drop ((i + 1) * 2 + (xs.drop (i * 2)).length)).drop (i * 2 + [Value.string l.1, .string l.2].length)).toArray)
 have hcp2' := hcp2
 rw [<- hw2] at hcp2'
 have HW2 := aa hw2
 clear hcp1 hcp2 hw2
 go_wp2_with (at_builtin; refine fS _ rfl _ _ 41 41 rfl _ _ rfl rfl hcp2' ?_)
 go_ret
 have hfr := wk (xs := xs) (new := [Value.string l.1, .string l.2]) (cur := cur.toList) (a := i * 2) (l := n * 2) (m := 2) HT.O HL.O (by omega) rfl (by rw [Array.length_toList, HCS.O]; omega)
 have hdl : (xs.drop (i * 2)).length = n * 2 - i * 2 := by rw [List.length_drop, HL.O]
 refine ⟨rfl, ⟨?_, .inr ⟨g, cap, _, rfl, hbg', by rw [af HW2]; exact setRow_heap _ _ _ _ _ _ HG1.O, hr, hcm', ?_, ?_⟩⟩, ?_⟩
 ·have := HL.O
  simp; omega
 ·have := HL.O
  have := HCS.O
  simp; omega
 ·rw [List.toList_toArray, hdl, show (i + 1) * 2 = i * 2 + 2 by omega, show (n + 1) * 2 = n * 2 + 2 by omega]
  exact hfr
 ·rw [af HW2]
  exact HX1.O.setRow (.inl (by simp)) _
end Go.Proofs.YtfnanjbleifjkaaGreatDoor
