/- C3 C4 C5 C6 C7 C8 C9 C4s B3 B4, one behind the other. -/
import Derived.Test.YtgmjjhmnchefbaaGreatDoorM01
import Derived.Lib.SliceRun
import Derived.Deep.RegionHeld3
import Derived.Great.BuildSlice
import Derived.Lib.AppendZeros
set_option linter.unusedVariables false
set_option linter.unusedSimpArgs false
/- Contracts of package series: where a label is, or where it would belong. -/
namespace Go.Proofs.YtgmjjhmnchefbaaGreatDoor
open Go.RowKit

set_option maxHeartbeats 1000000 in
theorem clone_any (s : ByteArray) (w : World) (hs : s.size ≤ 281474976710656) :
    Calls Tryz.prog 78 #[.string s] w fun e w' => e = .returned (.string s) ∧ Ex [] w w' := by
  go_enter Tryz.func78, Tryz.ntmps78
  go_wp2_with fail
  refine (cloneIn_any _ _ hs).mono ?_
  rintro e w' ⟨rfl, hb⟩
  have HB := hide hb
  clear hb
  go_wp2_with fail
  go_ret
  exact ⟨rfl, Ex.below HB.out⟩

def cmpN (a b : ByteArray) : Int := Lib.compareBytes a.data.toList b.data.toList

set_option maxHeartbeats 1000000 in
theorem cmp_any (l : Lab) (t : ByteArray) (w : World) :
    Calls Tryz.prog 168 #[labV l, .string t] w fun e w' => e = .returned (.int .i64 (cmpN l.1 t)) ∧ Ex [] w w' := by
  obtain ⟨a, b⟩ := l
  unfold labV
  go_enter Tryz.func168, Tryz.ntmps168
  go_wp2_with fail
  refine (compare_any _ _ _).mono ?_
  rintro e w' ⟨rfl, rfl⟩
  go_wp2_with fail
  go_ret
  exact ⟨rfl, (Ex.refl _ _).alloc _⟩

def posN (ls : List Lab) (t : ByteArray) : Nat := (ls.takeWhile fun l => decide (cmpN l.1 t < 0)).length
def thereN (ls : List Lab) (t : ByteArray) : Bool := match ls[posN ls t]? with | some l => cmpN l.1 t == 0 | none => false

def SortedFor (ls : List Lab) (t : ByteArray) : Prop := ∀ (a b : Nat) (x y : Lab), a ≤ b → ls[a]? = some x → ls[b]? = some y → cmpN y.1 t < 0 → cmpN x.1 t < 0

theorem posN_eq : ∀ {ls : List Lab} {t : ByteArray} {i : Nat}, i ≤ ls.length → (∀ k l, k < i → ls[k]? = some l → cmpN l.1 t < 0) → (∀ k l, i ≤ k → ls[k]? = some l → ¬ cmpN l.1 t < 0) → posN ls t = i := by
  intro ls t
  induction ls with
  | nil => intro i hi _ _; simp at hi; subst hi; rfl
  | cons a r ih =>
    intro i hi h1 h2
    cases i with
    | zero =>
      have := h2 0 a (Nat.le_refl _) rfl
      simp [posN, List.takeWhile_cons, this]
    | succ i =>
      have ha := h1 0 a (by omega) rfl
      have := ih (i := i) (by simpa using hi) (fun k l hk hl => h1 (k + 1) l (by omega) (by simpa using hl)) (fun k l hk hl => h2 (k + 1) l (by omega) (by simpa using hl))
      simp only [posN, List.takeWhile_cons, ha, decide_true, if_true, List.length_cons]
      unfold posN at this
      omega

set_option maxHeartbeats 2000000 in
set_option maxRecDepth 100000 in
theorem search_any (v : Value) (ls : List Lab) (t : ByteArray) (w : World) (hv : SL w v ls) (hn : ls.length ≤ 1000) (hsrt : SortedFor ls t) :
    Calls Tryz.prog 167 #[v, .string t, .func (.func 168) #[] #[]] w fun e w' => e = .returned (.tuple #[.int .i64 (posN ls t), .bool (thereN ls t)]) ∧ Ex [] w w' := by
  have HV := hide hv
  have HS := hide hsrt
  obtain ⟨p, c, rfl⟩ := hv.slice
  clear hv hsrt
  go_enter Tryz.func167, Tryz.ntmps167
  go_wp2_with fail
  go_loopg [9, 10] ls.length (fun gk i j wr => ∃ a b : Nat, b - a ≤ gk ∧ a ≤ b ∧ b ≤ ls.length ∧ i = .int .i64 a ∧ j = .int .i64 b ∧ (∀ k l, k < a → ls[k]? = some l → cmpN l.1 t < 0) ∧ (∀ k l, b ≤ k → ls[k]? = some l → ¬ cmpN l.1 t < 0) ∧ Ex [] w wr)
  case atStart => exact ⟨0, ls.length, by omega, by omega, by omega, rfl, rfl, fun k l h => by omega, fun k l h hl => (by rw [List.getElem?_eq_none h] at hl; cases hl), Ex.refl _ _⟩
  case round =>
    obtain ⟨a, b, hg, hab, hbl, rfl, rfl, h1, h2, hx⟩ := hrel
    have H1 := hide h1
    have H2 := hide h2
    have HX := hide hx
    by_cases hlt : a < b
    · have hlt' : (a : Int) < (b : Int) := by omega
      obtain ⟨h, hh⟩ : ∃ h : Nat, ((a : Int) + (b : Int)) / 2 = (h : Int) := ⟨(a + b) / 2, by omega⟩
      have hha : a ≤ h := by omega
      have hhb : h < b := by omega
      have hhl : h < ls.length := by omega
      have hhl' : (h : Int) < (ls.length : Int) := by omega
      obtain ⟨l, hl⟩ : ∃ l, ls[h]? = some l := ⟨_, List.getElem?_eq_getElem hhl⟩
      have HLJ := hide hl
      obtain ⟨b', c', rfl, hb, c0, c1⟩ : ∃ b' c', p = some ⟨b', 0, none⟩ ∧ b' < wr.heap.size ∧ wr.cell? ⟨b', h * 2, none⟩ = some (.string l.1) ∧ wr.cell? ⟨b', h * 2 + 1, none⟩ = some (.string l.2) := by
        rcases HV.out with ⟨h1, h2⟩ | ⟨b', c', h1, hb, hc⟩
        · rw [h2] at hhl; simp at hhl
        · cases h1
          obtain ⟨h3, h4⟩ := hc h l hl
          exact ⟨b', 0, rfl, Nat.lt_of_lt_of_le hb hx.size, by rw [hx.cell0.1 b' _ hb]; exact h3, by rw [hx.cell0.1 b' _ hb]; exact h4⟩
      clear h1 h2 hx hl
      go_wp2_with fail
      refine (cmp_any l t _).mono ?_
      rintro e w' ⟨rfl, hx1⟩
      have HX1 := hide hx1
      clear hx1
      by_cases hc : cmpN l.1 t < 0
      · have HC := hide hc
        go_wp2_with fail
        go_roundg (gk - 1)
        case measure => omega
        case rel =>
          refine ⟨h + 1, b, by omega, by omega, by omega, by simp, rfl, fun k l' hk hl' => ?_, H2.out, HX.out.trans HX1.out⟩
          exact HS.out k h l' l (by omega) hl' HLJ.out HC.out
      · have HC := hide hc
        have hc' : 0 ≤ cmpN l.1 t := by omega
        clear hc
        go_wp2_with fail
        go_roundg (gk - 1)
        case measure => omega
        case rel =>
          refine ⟨a, h, by omega, by omega, by omega, rfl, by simp, H1.out, fun k l' hk hl' => Int.not_lt.1 fun hlt2 => ?_, HX.out.trans HX1.out⟩
          exact absurd (HS.out h k l l' hk HLJ.out hl' hlt2) (by have := HC.out; omega)
    · obtain rfl : a = b := by omega
      have hpos : posN ls t = a := posN_eq hbl h1 h2
      have HP := hide hpos
      clear hpos hlt h1 h2
      by_cases hal : a < ls.length
      · have hal' : (a : Int) < (ls.length : Int) := by omega
        obtain ⟨l, hl⟩ : ∃ l, ls[a]? = some l := ⟨_, List.getElem?_eq_getElem hal⟩
        have HLJ := hide hl
        obtain ⟨b, c', rfl, hb, c0, c1⟩ : ∃ b c', p = some ⟨b, 0, none⟩ ∧ b < wr.heap.size ∧ wr.cell? ⟨b, a * 2, none⟩ = some (.string l.1) ∧ wr.cell? ⟨b, a * 2 + 1, none⟩ = some (.string l.2) := by
          rcases HV.out with ⟨h1, h2⟩ | ⟨b, c', h1, hb, hc⟩
          · rw [h2] at hal; simp at hal
          · cases h1
            obtain ⟨h3, h4⟩ := hc a l hl
            exact ⟨b, 0, rfl, Nat.lt_of_lt_of_le hb hx.size, by rw [hx.cell0.1 b _ hb]; exact h3, by rw [hx.cell0.1 b _ hb]; exact h4⟩
        clear hx hl
        go_wp2_with fail
        refine (cmp_any l t _).mono ?_
        rintro e w' ⟨rfl, hx1⟩
        have HX1 := hide hx1
        clear hx1
        go_wp2_with fail
        go_ret2
        refine ⟨?_, HX.out.trans HX1.out⟩
        simp [thereN, unhide HP, HLJ.out]
      · obtain rfl : a = ls.length := by omega
        clear hx hal
        go_wp2_with fail
        go_ret2
        refine ⟨?_, HX.out⟩
        simp [thereN, unhide HP]

structure LS (w : World) (q base : Nat) (ls : List Lab) : Prop where
  lt : q < base
  le : base ≤ w.heap.size
  ex : ∃ v, BK w q (.cells #[v] 232 (0, 0)) ∧ w.ownsRow base 210 2 v ls.length (ls.flatMap fun l => [.string l.1, .string l.2])

theorem flat_at : ∀ (ls : List Lab) (j : Nat) (l : Lab), ls[j]? = some l → (ls.flatMap fun l => [Value.string l.1, Value.string l.2])[j * 2]? = some (.string l.1) ∧ (ls.flatMap fun l => [Value.string l.1, Value.string l.2])[j * 2 + 1]? = some (.string l.2)
  | [], j, l, h => by simp at h
  | a :: r, 0, l, h => by simp at h; subst h; simp
  | a :: r, j + 1, l, h => by
    have := flat_at r j l (by simpa using h)
    simp only [List.flatMap_cons, List.cons_append, List.nil_append]
    rw [show (j + 1) * 2 = j * 2 + 1 + 1 by omega]
    simpa using this

theorem own_sl {w : World} {base : Nat} {v : Value} {ls : List Lab} (h : w.ownsRow base 210 2 v ls.length (ls.flatMap fun l => [.string l.1, .string l.2])) : SL w v ls := by
  rcases h.2 with ⟨rfl, h2⟩ | ⟨g, cap, cur, rfl, hb, hg, hn, hm, hs, ht⟩
  · exact .inl ⟨rfl, List.length_eq_zero_iff.1 h2⟩
  · refine .inr ⟨g, cap, rfl, (Array.getElem?_eq_some_iff.1 hg).1, fun j l hj => ?_⟩
    have hjl : j < ls.length := (List.getElem?_eq_some_iff.1 hj).1
    have h1 := flat_at ls j l hj
    rw [cell_of_row w g _ cur _ _ hg, cell_of_row w g _ cur _ _ hg]
    rw [← ht, List.getElem?_take, List.getElem?_take, if_pos (by omega), if_pos (by omega)] at h1
    simpa using h1

set_option maxHeartbeats 1000000 in
set_option maxRecDepth 100000 in
theorem find_any (q base : Nat) (ls : List Lab) (t : ByteArray) (w : World) (hq : LS w q base ls) (hn : ls.length ≤ 1000) (hsrt : SortedFor ls t) :
    Calls Tryz.prog 141 #[.pointer (some ⟨q, 0, none⟩), .string t] w fun e w' => e = .returned (.tuple #[.int .i64 (posN ls t), .bool (thereN ls t)]) ∧ Ex [] w w' := by
  obtain ⟨v, hb, ho⟩ := hq.ex
  obtain ⟨hc, hf⟩ := hb.all
  have HO := hide ho
  have HS := hide hsrt
  clear hq hb ho hsrt
  go_enter Tryz.func141, Tryz.ntmps141
  go_wp2_with fail
  refine (search_any v ls t _ (own_sl HO.out) hn HS.out).mono ?_
  rintro e w' ⟨rfl, hx1⟩
  have HX1 := hide hx1
  clear hx1
  go_wp2_with fail
  go_ret2
  exact ⟨rfl, HX1.out⟩
end Go.Proofs.YtgmjjhmnchefbaaGreatDoor

/- Contracts of slices.Delete, Insert and Clone at labels. -/
namespace Go.Proofs.YtgmjjhmnchefbaaGreatDoor
open Go.RowKit

theorem infoLab : (Tryz.prog.info? 210).map (fun i => (i.zero, i.size, i.bytes)) = some (some (.agg #[.string ⟨#[]⟩, .string ⟨#[]⟩]), 2, 32) := by kernel_rfl
theorem zeroLab (w : World) : (zeroValue 210).run Tryz.prog w = .ok (.agg #[.string ⟨#[]⟩, .string ⟨#[]⟩]) w := by kernel_rfl

set_option maxHeartbeats 1000000 in
set_option maxRecDepth 100000 in
theorem deleteLab (base g n cap i : Nat) (xs : List Value) (w : World) (hown : w.ownsRow base 210 2 (.slice (some ⟨g, 0, none⟩) n cap) n xs) (hi : i < n) (hn : n ≤ 1000) (hp : Plain xs) :
    Calls Tryz.prog 142 #[.slice (some ⟨g, 0, none⟩) n cap, .int .i64 i, .int .i64 ((i + 1 : Nat) : Int)] w fun e w' => e = .returned (.slice (some ⟨g, 0, none⟩) (n - 1) cap) ∧
      w'.ownsRow base 210 2 (.slice (some ⟨g, 0, none⟩) (n - 1) cap) (n - 1) (xs.take (i * 2) ++ xs.drop ((i + 1) * 2)) ∧ Ex [g] w w' := by
  obtain ⟨t0, hti, hzz0, hzz1, hzz2⟩ := info_parts infoLab
  have hnc : n ≤ cap ∧ cap ≤ maxLen := by
    rcases hown.2 with ⟨h, _⟩ | ⟨g', cap', cur, h, hbg, hg, hnc, hcm, _⟩
    · cases h
    · cases h; exact ⟨hnc, hcm⟩
  obtain ⟨hnc, hcm⟩ := hnc
  have HO := hide hown
  have hcm' : cap ≤ 9223372036854775807 := hcm
  clear hown hcm
  have h1 : (i : Int) < (n : Int) := by omega
  have h2 : (i : Int) + 1 ≤ (n : Int) := by omega
  have h3 : i ≤ cap := by omega
  have h4 : ((i : Int) + 1).toNat = i + 1 := by omega
  have h5 : i + 1 ≤ n := by omega
  have h6 : (0 : Int) ≤ (i : Int) + 1 := by omega
  by_cases hc : cap = i + 1
  · have hni : n = i + 1 := by omega
    subst hc
    subst hni
    obtain ⟨w1, hr1, ho1, hg1⟩ := run_append_fits (P := Tryz.prog) (w := w.drew) base 207 207 210 t0 2 Tryz.underlying207 hti hzz1 g i (i + 1) _ (own_less HO.out.drew (Nat.le_of_lt hi)) ⟨g, 0, none⟩ 0 0 []
      rfl (fun j u hj => by simp at hj) (fun u hu => by simp at hu) (by omega)
    have hdr : xs.drop ((i + 1) * 2) = [] := List.drop_of_length_le (by rw [HO.out.1]; exact Nat.le_refl _)
    rw [hdr]
    have HO1 := hide ho1
    have HG1 := hide hg1
    clear ho1 hg1 hdr
    simp only [Nat.add_zero] at hr1
    have h10 : (i : Int) ≤ (i : Int) + 1 := by omega
    go_enter Tryz.func142, Tryz.ntmps142
    go_wp2_with fail
    go_region_law (refine step_append_run rfl _ _ 207 rfl (.slice (some ⟨g, 0, none⟩) i (i + 1)) (.slice (some ⟨g, 0, none⟩) 0 0) (by simp [Act.eval, Act.put]) (by simp [Act.eval, Act.put]) hr1 ?_)
    obtain ⟨w2, hr2, ho2, hx2⟩ := run_clear_last (P := Tryz.prog) w1 207 210 0 _ Tryz.underlying207 zeroLab [.string ⟨#[]⟩, .string ⟨#[]⟩] (by kernel_rfl) (by simp [Value.oneCell']) base 2 g i i (i + 1) 1 _ rfl (by omega) (by omega) HO1.out
    have HO2 := hide ho2
    have HX2 := hide hx2
    clear ho2 hx2 hr1
    go_wp2_with (at_builtin; refine wpList_clear_run _ rfl _ 207 rfl _ rfl hr2 ?_)
    go_ret
    exact ⟨by simp, by simpa using HO2.out, ((Ex.refl _ _).drew.grown HG1.out (fun k hk => by cases hk; exact .inl (by simp))).trans HX2.out⟩
  · obtain ⟨w1, hr1, ho1, hg1⟩ := run_append_fits (P := Tryz.prog) (w := w.drew) base 207 207 210 t0 2 Tryz.underlying207 hti hzz1 g i cap _ (own_less HO.out.drew (Nat.le_of_lt hi)) ⟨g, (i + 1) * 2, none⟩ (n - (i + 1)) (cap - (i + 1)) (xs.drop ((i + 1) * 2))
      (by rw [List.length_drop, HO.out.1]; omega) (fun j u hj => by rw [Addr.add_lit]; exact own_cell HO.out.drew (by rwa [List.getElem?_drop] at hj)) (fun u hu => hp u (List.mem_of_mem_drop hu)) (by omega)
    rw [show i + (n - (i + 1)) = n - 1 by omega] at hr1 ho1
    have HO1 := hide ho1
    have HG1 := hide hg1
    clear ho1 hg1
    go_enter Tryz.func142, Tryz.ntmps142
    go_wp2_with fail
    go_region_law (refine step_append_run rfl _ _ 207 rfl (.slice (some ⟨g, 0, none⟩) i cap) (.slice (some ⟨g, (i + 1) * 2, none⟩) (n - (i + 1)) (cap - (i + 1))) (by simp [Act.eval, Act.put]) (by simp [Act.eval, Act.put]) hr1 ?_)
    obtain ⟨w2, hr2, ho2, hx2⟩ := run_clear_last (P := Tryz.prog) w1 207 210 0 _ Tryz.underlying207 zeroLab [.string ⟨#[]⟩, .string ⟨#[]⟩] (by kernel_rfl) (by simp [Value.oneCell']) base 2 g (n - 1) (n - 1) cap (cap - (n - 1)) _ rfl (by omega) (by omega) HO1.out
    have HO2 := hide ho2
    have HX2 := hide hx2
    clear ho2 hx2 hr1
    have h7 : n - (n - 1) = 1 := by omega
    have h8 : n - 1 ≤ n := by omega
    have h9 : ¬ cap = n - 1 := by omega
    go_wp2_with (at_builtin; refine wpList_clear_run _ rfl _ 207 rfl _ rfl hr2 ?_)
    go_ret
    exact ⟨rfl, HO2.out, ((Ex.refl _ _).drew.grown HG1.out (fun k hk => by cases hk; exact .inl (by simp))).trans HX2.out⟩
end Go.Proofs.YtgmjjhmnchefbaaGreatDoor

/- Contracts of slices.Insert behind the last label, slices.Clone of labels, cut. -/
namespace Go.Proofs.YtgmjjhmnchefbaaGreatDoor
open Go.RowKit

set_option maxHeartbeats 1000000 in
set_option maxRecDepth 100000 in
theorem insertEnd (base n vb : Nat) (v : Value) (xs : List Value) (l : Lab) (w : World) (hown : w.ownsRow base 210 2 v n xs) (hn : n ≤ 1000) (hb : base ≤ w.heap.size)
    (hv : BK w vb (.cells #[.string l.1, .string l.2] 210 (0, 0))) :
    Calls Tryz.prog 143 #[v, .int .i64 n, .slice (some ⟨vb, 0, none⟩) 1 1] w fun e w' => ∃ v', e = .returned v' ∧
      w'.ownsRow base 210 2 v' (n + 1) (xs ++ [.string l.1, .string l.2]) ∧ w.grownBy w' v.ownBlock ∧ (v.ownBlock = v'.ownBlock ∨ v'.ownBlock = some w.heap.size) := by
  obtain ⟨t0, hti, hzz0, hzz1, hzz2⟩ := info_parts infoLab
  have HO := hide hown
  obtain ⟨p, c, rfl⟩ := own_slice hown
  obtain ⟨hc, hf⟩ := hv.all
  have hnc : n ≤ c := by
    rcases hown.2 with ⟨h, h2⟩ | ⟨g', cap', cur, h, hbg, hg, hnc, hcm, _⟩
    · cases h; omega
    · cases h; exact hnc
  have hce : c = n → n ≤ c := fun _ => hnc
  have HN : Hid (∀ j u, [Value.string l.1, .string l.2][j]? = some u → w.cell? ((⟨vb, 0, none⟩ : Addr).add j) = some u) := by
    intro j u hj
    rw [Addr.add_lit, Nat.zero_add, hc]
    simpa using hj
  clear hown hv hc hf hce
  have hpn : (p = none → n = 0) := by
    intro h; subst h
    rcases HO.out.2 with ⟨h, h2⟩ | ⟨g', cap', cur, h, _⟩
    · exact h2
    · cases h
  go_enter Tryz.func143, Tryz.ntmps143
  go_wp2_with (at_builtin; refine wpList_append_lies _ rfl _ _ 207 rfl base 210 t0 _ 2 32 Tryz.underlying207 hti hzz0 hzz1 hzz2 rfl (by decide) _ n xs rfl HO.out ⟨vb, 0, none⟩ 1 1 [.string l.1, .string l.2] rfl rfl HN.out (by simp [Value.oneCell']) (by decide) (by unfold maxLen; omega) (by omega) hb _ rfl ?_)
  all_goals
    intro g cap w' hown' hgrow hloc hlt
    have HO1 := hide hown'
    have HG := hide hgrow
    have HL := hide hloc
    clear hown' hgrow hloc hlt
    go_wp2_with fail
    go_ret
    have e : ∀ c, (Value.slice p n c).ownBlock = p.map (·.block) := fun c => by cases p <;> rfl
    refine ⟨_, rfl, HO1.out, by have := HG.out; rw [e] at this ⊢; exact this, ?_⟩
    have := HL.out
    rw [e] at this ⊢
    exact this.imp id (fun h => by rw [h]; rfl)

set_option maxHeartbeats 1000000 in
theorem cut_short (s : ByteArray) (w : World) (hs : s.size ≤ 200) :
    Calls Tryz.prog 144 #[.string s] w fun e w' => e = .returned (.string s) ∧ w' = w := by
  have h1 : (s.size : Int) ≤ 200 := by omega
  go_enter Tryz.func144, Tryz.ntmps144
  go_wp2_with fail
  go_ret
  exact ⟨rfl, rfl⟩

theorem flat_plain (ls : List Lab) : ∀ u ∈ (ls.flatMap fun l => [Value.string l.1, Value.string l.2]), u.oneCell' = true := by
  intro u hu
  obtain ⟨l, _, hl⟩ := List.mem_flatMap.1 hu
  simp only [List.mem_cons, List.not_mem_nil, or_false] at hl
  rcases hl with rfl | rfl <;> rfl
end Go.Proofs.YtgmjjhmnchefbaaGreatDoor

/- Contracts of (*series.Labels).Set, where the label comes behind all others. -/
namespace Go.Proofs.YtgmjjhmnchefbaaGreatDoor
open Go.RowKit

abbrev cellsOfL (ls : List Lab) : List Value := ls.flatMap fun l => [.string l.1, .string l.2]
theorem cells_snoc (ls : List Lab) (l : Lab) : cellsOfL ls ++ [.string l.1, .string l.2] = cellsOfL (ls ++ [l]) := by simp [cellsOfL]

theorem LS.mk' {w : World} {q base n : Nat} {ls : List Lab} {xs : List Value} {v : Value} (hlt : q < base) (hle : base ≤ w.heap.size) (hb : BK w q (.cells #[v] 232 (0, 0)))
    (ho : w.ownsRow base 210 2 v n xs) (hn : n = ls.length) (hx : xs = cellsOfL ls) : LS w q base ls := by
  subst hn; subst hx; exact ⟨hlt, hle, v, hb, ho⟩

set_option maxHeartbeats 2000000 in
set_option maxRecDepth 100000 in
theorem set_new (q base : Nat) (ls : List Lab) (a v : ByteArray) (w : World) (hq : LS w q base ls) (hn : ls.length < 60) (hsrt : SortedFor ls a) (hp : posN ls a = ls.length) (hv0 : ¬ v.size = 0) (hv : v.size ≤ 200) :
    Calls Tryz.prog 120 #[.pointer (some ⟨q, 0, none⟩), .string a, .string v] w fun e w' => e = .returned (.tuple #[]) ∧ LS w' q base (ls ++ [(a, v)]) ∧ EB base [q] w w' := by
  have ht : thereN ls a = false := by simp [thereN, hp]
  have HQ := hide hq
  have HS := hide hsrt
  have hqb := hq.lt
  have hle := hq.le
  have hem := nonempty_list hv0
  clear hq hsrt
  go_enter Tryz.func120, Tryz.ntmps120
  go_wp2_with fail
  refine (find_any q base ls a _ HQ.out (by omega) HS.out).mono ?_
  rintro e w1 ⟨rfl, hx1⟩
  rw [ht, hp]
  have hb1 : ∃ v0, BK w1 q (.cells #[v0] 232 (0, 0)) ∧ w1.ownsRow base 210 2 v0 ls.length (cellsOfL ls) := by
    obtain ⟨v0, hb, ho⟩ := HQ.out.ex
    exact ⟨v0, hb.ex hx1 (by simp), own_ex ho hx1 (by simp)⟩
  obtain ⟨v0, hb1, ho1⟩ := hb1
  have hz1 := hx1.size
  have HX1 := hide hx1
  have HB1 := hide hb1
  have HO1 := hide ho1
  have hql := hb1.lt
  obtain ⟨p, c, rfl⟩ := own_slice ho1
  obtain ⟨hc, hf⟩ := hb1.all
  clear hx1 hb1 ho1 ht hp
  have hn' : ¬ ((ls.length : Int) = 60) := by omega
  have hn'' : ((ls.length : Int) == 60) = false := by simpa using hn'
  go_wp2_with fail
  go_region_with (first
    | (go_at_call 144; refine (cut_short v _ hv).mono ?_; rintro e w2 ⟨rfl, rfl⟩)
    | (go_at_call 143; refine (insertEnd base ls.length w1.heap.size _ (cellsOfL ls) (a, v) _ (HO1.out.drew.alloc _) (by omega) (by simp; omega) ((BK.new _ _))).mono ?_; rintro e w3 ⟨v3, rfl, ho3, hg3, hl3⟩; obtain ⟨p3, c3, rfl⟩ := own_slice ho3; have hb3 := BK.grown ((HB1.out.drew.alloc (Obj.cells #[.string a, .string v] 210))) hg3 (fun e => by have h9 := own_block HO1.out q e; omega); obtain ⟨hc3, hf3⟩ := hb3.all))
  all_goals
    have HG3 := hide hg3
    have HO3 := hide ho3
    have HB3 := hide hb3
    clear hg3 ho3 hb3 hl3 hc hf hc3 hf3
    go_end0
    have hz3 : w1.heap.size + 1 ≤ w3.heap.size := by have := HG3.out.size; simpa using this
    refine ⟨rfl, LS.mk' hqb (by simp; omega) (BK.self HB3.out 0 _) (own_set HO3.out hqb _) (by simp) (cells_snoc ls (a, v)), ?_⟩
    exact (((((EB.ofEx HX1.out hle).mono (Nat.le_refl _) (by simp) : EB base [q] w w1).drew.alloc (by simp; omega) _).grown HG3.out (by simp; omega) (fun k hk => .inr (own_block HO1.out k hk))).setCell (.inl (by simp)) _)

end Go.Proofs.YtgmjjhmnchefbaaGreatDoor

/- Contracts of (*series.Labels).Set, where the label comes behind all others and is there. -/
namespace Go.Proofs.YtgmjjhmnchefbaaGreatDoor
open Go.RowKit

theorem take_cells (ls : List Lab) (i : Nat) : (cellsOfL ls).take (i * 2) = cellsOfL (ls.take i) := by
  induction ls generalizing i with
  | nil => simp [cellsOfL]
  | cons a r ih =>
    cases i with
    | zero => simp [cellsOfL]
    | succ i =>
      have := ih i
      simp only [cellsOfL, List.flatMap_cons, List.take_succ_cons, List.cons_append, List.nil_append] at this ⊢
      rw [show (i + 1) * 2 = i * 2 + 1 + 1 by omega, List.take_succ_cons, List.take_succ_cons, this]
theorem drop_cells (ls : List Lab) (i : Nat) : (cellsOfL ls).drop (i * 2) = cellsOfL (ls.drop i) := by
  induction ls generalizing i with
  | nil => simp [cellsOfL]
  | cons a r ih =>
    cases i with
    | zero => simp [cellsOfL]
    | succ i =>
      have := ih i
      simp only [cellsOfL, List.flatMap_cons, List.drop_succ_cons, List.cons_append, List.nil_append] at this ⊢
      rw [show (i + 1) * 2 = i * 2 + 1 + 1 by omega, List.drop_succ_cons, List.drop_succ_cons, this]

end Go.Proofs.YtgmjjhmnchefbaaGreatDoor

/- Contract of series.Read, whatever Set makes of the labels one by one. -/
namespace Go.Proofs.YtgmjjhmnchefbaaGreatDoor
open Go.RowKit

theorem LS.ex' {w w' : World} {q base : Nat} {ls : List Lab} (h : LS w q base ls) {o : List Nat} (hx : Ex o w w') (ho : ∀ x ∈ o, x < base ∧ x ≠ q) : LS w' q base ls := by
  obtain ⟨v, hb, hown⟩ := h.ex
  exact ⟨h.lt, Nat.le_trans h.le hx.size, v, hb.ex hx (fun hm => (ho q hm).2 rfl), own_ex hown hx (fun x hm => (ho x hm).1)⟩
theorem LS.drew {w : World} {q base : Nat} {ls : List Lab} (h : LS w q base ls) : LS w.drew q base ls := h.ex' ((Ex.refl [] _).drew) (by simp)
theorem LS.alloc {w : World} {q base : Nat} {ls : List Lab} (h : LS w q base ls) (o : Obj) : LS (w.alloc o) q base ls := h.ex' ((Ex.refl [] _).alloc o) (by simp)

end Go.Proofs.YtgmjjhmnchefbaaGreatDoor

/- Contracts of what an engine without rules does with a series. -/
namespace Go.Proofs.YtgmjjhmnchefbaaGreatDoor
open Go.RowKit

def ansV (v : Value) (b : Bool) : Value := .agg #[v, .bool b]

end Go.Proofs.YtgmjjhmnchefbaaGreatDoor

/- Contracts of slices.Delete, Insert and Clone at series. -/
namespace Go.Proofs.YtgmjjhmnchefbaaGreatDoor
open Go.RowKit

end Go.Proofs.YtgmjjhmnchefbaaGreatDoor

/- Laws of no program: a slice of one struct, laid out of the struct's cells. -/
namespace Go.Proofs.YtgmjjhmnchefbaaGreatDoor
open Go.RowKit

theorem fill_seg : ∀ (S : List Value) (k : Nat) (C : Array Value), k + S.length ≤ C.size → (S.zipIdx k).foldl (fun (cs : Array Value) (x : Value × Nat) => cs.setIfInBounds (0 + x.2) x.1) C = (C.toList.take k ++ S ++ C.toList.drop (k + S.length)).toArray
  | [], k, C, h => by simp
  | v :: r, k, C, h => by
    have e := list_seg_step C.toList k v r (by simp at h ⊢; omega)
    rw [List.zipIdx_cons, List.foldl_cons, fill_seg r (k + 1) _ (by simp at h ⊢; omega)]
    congr 1
    simpa [Array.toList_setIfInBounds, Nat.add_assoc] using e

theorem fill_one {S : List Value} {n : Nat} {C : Array Value} (hS : S.length = n) (hC : C.size = n) : Instr.fill (fun i => some (i * n, n)) C [(0, .agg S.toArray)] = some S.toArray := by
  have h := fill_seg S 0 C (by omega)
  unfold Instr.fill
  simp only [Nat.zero_mul, Value.cells, List.size_toArray, hS, hC]
  rw [if_neg (by simp)]
  unfold Instr.fill
  congr 1
  rw [← Array.foldl_toList, Array.toList_zipIdx]
  simp only [List.take_zero, List.nil_append, Nat.zero_add] at h
  rw [List.drop_of_length_le (by rw [Array.length_toList]; omega), List.append_nil] at h
  simpa using h
end Go.Proofs.YtgmjjhmnchefbaaGreatDoor

/- Laws of no program: an append of zero values that grows a row; a copy to the middle of a block. -/
namespace Go.Proofs.YtgmjjhmnchefbaaGreatDoor
open Go.RowKit

theorem nextcap_small {need cap : Nat} (hc : cap ≤ 200) (hn : need ≤ 400) : Builtin.nextslicecap need cap ≤ 400 := by
  unfold Builtin.nextslicecap
  split
  · omega
  · split <;> omega

theorem run_append_zeros_grow {P : Program} (w : World) (t tn ty e : TypeId) (i : TypeInfo) (z : Value) (k kn : IntKind) (ht : P.underlying t = some (.slice e)) (htn : P.underlying tn = some (.int kn)) (hi : P.info? e = some i) (hz : i.zero = some z)
    (base g n cap m : Nat) (xs : List Value) (hown : w.ownsRow base e i.size (.slice (some ⟨g, 0, none⟩) n cap) n xs) (hm : 0 < m) (hs : 0 < i.size) (hneed : cap < n + m) (hc : cap ≤ 200) (hn4 : n + m ≤ 400) (hb : i.bytes ≤ 1000) :
    (Builtin.append_ #[t, tn] ty #[.slice (some ⟨g, 0, none⟩) n cap, .int k m]).run P w =
      .ok (.slice (some ⟨w.heap.size, 0, none⟩) (n + m) (grownCap w (n + m) cap e)) (w.drew.alloc (.cells (xs.toArray ++ Builtin.zeroCells z.cells m ++ Builtin.zeroCells z.cells (grownCap w (n + m) cap e - (n + m))) e)) := by
  have hw : IntKind.i64.wrap (m : Int) = m := by rw [IntKind.wrap_i64]; omega
  have h63' : ¬ (9223372036854775807 < (n : Int) + (m : Int)) := by omega
  have hnx := nextcap_small hc hn4
  have h48' : ¬ (281474976710656 < Builtin.nextslicecap (n + m) cap * i.bytes) := by
    have := Nat.mul_le_mul hnx hb
    omega
  have h48i : ¬ (281474976710656 < (m : Int) * (i.bytes : Int)) := by
    rw [← Int.natCast_mul]
    have := Nat.mul_le_mul (show m ≤ 400 by omega) hb
    omega
  have hneg : ¬ ((m : Int) < 0) := by omega
  have hm0 : m ≠ 0 := by omega
  have hms : ¬ (m * i.size = 0) := Nat.mul_ne_zero hm0 (by omega)
  have hnc : ¬ (n + m ≤ cap) := by omega
  have hl : (loadCells ⟨g, 0, none⟩ (n * i.size)).run P w.drew = .ok xs.toArray w.drew := by
    rw [← hown.1]
    exact run_loadCells_list (P := P) w.drew ⟨g, 0, none⟩ xs (fun j u hj => by rw [Addr.add_lit, Nat.zero_add]; exact own_cell hown.drew hj)
  simp [Builtin.append_, run_underlying ht, run_underlying htn, sizeOf, typeInfo, zeroValue, hi, hz, asInt, asIntOf, hw, hm0, hneg, hms, h63', h48', h48i, hnc, Builtin.firstCells, hl, Question.forced, newRow, grownCap]

theorem run_copy_at {P : Program} (w : World) (dT sT ty elem : TypeId) (i : TypeInfo) (sz : Nat) (d o dLen dCap : Nat) (a : Addr) (sLen sCap n : Nat) (cur : Array Value) (t : TypeId) (cs : List Value)
    (hu : P.underlying dT = some (.slice elem)) (hi : P.info? elem = some i) (hsz : i.size = sz) (hd : w.heap[d]? = some (.cells cur t (0, 0))) (hn : Nat.min sLen dLen = n) (hc : cs.length = n * sz)
    (hsrc : ∀ j v, cs[j]? = some v → w.cell? (a.add j) = some v) (hfit : o + cs.length ≤ cur.size) (h1 : ∀ v ∈ cs, v.oneCell' = true) :
    (Builtin.copy_ #[dT, sT] ty #[.slice (some ⟨d, o, none⟩) dLen dCap, .slice (some a) sLen sCap]).run P w = .ok (goInt n) (w.setRow d (cur.toList.take o ++ cs ++ cur.toList.drop (o + cs.length)).toArray) := by
  subst hsz
  have hl : (loadCells a cs.length).run P w = .ok cs.toArray w := run_loadCells_list (P := P) w a cs hsrc
  have hst := run_storeCells_at P d o t cs 0 cur w hd (by simpa using hfit) h1
  simp only [Nat.add_zero] at hst
  rw [hc] at hl
  simp [Builtin.copy_, run_underlying hu, Builtin.lenOf, Builtin.firstCells, sizeOf, typeInfo, hi, hn, hl, hst]

theorem wpList_copy_run {P : Program} (w : World) {ops : Array Oper} {rest : List Oper} {o : Oper} {a : Act} {Q : Exit → Act → World → Prop} (hgd : o.guard = none) (s x : Operand) (t t' : TypeId)
    (ho : o.op = .call { callee := .builtin .copy, args := #[s, x], argTypes := #[t, t'] }) (v u : Value) (hs : a.eval s = v) (hx : a.eval x = u) {v' : Value} {w' : World}
    (hr : (Builtin.copy_ #[t, t'] o.type #[v, u]).run P w = .ok v' w') (h : wpList P ops Q rest (a.put o.dst v') w') : wpList P ops Q (o :: rest) a w := by
  refine wpList_plain hgd fun K hK => ?_
  unfold Oper.wp
  simp [execOp, ho, resolve, invoke, builtin, hs, hx, hr, Result.andThen]
  exact hK _ _ h

theorem fit_row {xs new cur : List Value} {a l m : Nat} (hx : cur.take l = xs) (hl : xs.length = l) (ha : a ≤ l) (hn : new.length = m) (hc : l + m ≤ cur.length) :
    ((cur.take (a + m) ++ xs.drop a ++ cur.drop (a + m + (l - a))).take a ++ new ++ (cur.take (a + m) ++ xs.drop a ++ cur.drop (a + m + (l - a))).drop (a + m)).take (l + m) = xs.take a ++ new ++ xs.drop a := by
  have h1 : (cur.take (a + m) ++ xs.drop a ++ cur.drop (a + m + (l - a))).take a = xs.take a := by
    rw [List.append_assoc, List.take_append_of_le_length (by simp; omega), List.take_take, Nat.min_eq_left (by omega), ← hx, List.take_take, Nat.min_eq_left ha]
  have h2 : (cur.take (a + m) ++ xs.drop a ++ cur.drop (a + m + (l - a))).drop (a + m) = xs.drop a ++ cur.drop (a + m + (l - a)) := by
    rw [List.append_assoc, List.drop_append_of_le_length (by simp; omega), List.drop_of_length_le (by simp; omega), List.nil_append]
  rw [h1, h2, ← List.append_assoc, List.take_append_of_le_length (by simp; omega), List.take_of_length_le (by simp; omega)]
end Go.Proofs.YtgmjjhmnchefbaaGreatDoor
