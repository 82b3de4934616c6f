/- Contracts of slices.Insert behind the last label, slices.Clone of labels, cut. -/
import Derived.Test.YtmeffeigamaipabGreatDoorC4
import Derived.Lib.SliceRun
set_option linter.unusedVariables false
set_option linter.unusedSimpArgs false
namespace Go.Proofs.YtmeffeigamaipabGreatDoor
open Go.RowKit

set_option maxHeartbeats 1000000 in
set_option maxRecDepth 100000 in
theorem insertEnd (base n vb : Nat) (v : Value) (xs : List Value) (l : Lab) (w : World) (hown : w.ownsRow base 48 2 v n xs) (hn : n ≤ 1000) (hb : base ≤ w.heap.size)
    (hv : BK w vb (.cells #[.string l.1, .string l.2] 48 (0, 0))) :
    Calls Tryz.prog 63 #[v, .int .i64 n, .slice (some ⟨vb, 0, none⟩) 1 1] w fun e w' => ∃ v', e = .returned v' ∧
      w'.ownsRow base 48 2 v' (n + 1) (xs ++ [.string l.1, .string l.2]) ∧ w.grownBy w' v.ownBlock ∧ (v.ownBlock = v'.ownBlock ∨ v'.ownBlock = some w.heap.size) := by
  obtain ⟨t0, hti, hzz0, hzz1, hzz2⟩ := info_parts infoLab
  have HO := hide hown
  obtain ⟨p, c, rfl⟩ := own_slice hown
  obtain ⟨hc, hf⟩ := hv.all
  have hnc : n ≤ c := by
    rcases hown.2 with ⟨h, h2⟩ | ⟨g', cap', cur, h, hbg, hg, hnc, hcm, _⟩
    · cases h; omega
    · cases h; exact hnc
  have hce : c = n → n ≤ c := fun _ => hnc
  have HN : Hid (∀ j u, [Value.string l.1, .string l.2][j]? = some u → w.cell? ((⟨vb, 0, none⟩ : Addr).add j) = some u) := by
    intro j u hj
    rw [Addr.add_lit, Nat.zero_add, hc]
    simpa using hj
  clear hown hv hc hf hce
  have hpn : (p = none → n = 0) := by
    intro h; subst h
    rcases HO.out.2 with ⟨h, h2⟩ | ⟨g', cap', cur, h, _⟩
    · exact h2
    · cases h
  go_enter Tryz.func63, Tryz.ntmps63
  go_wp2_with (at_builtin; refine wpList_append_lies _ rfl _ _ 23 rfl base 48 t0 _ 2 32 Tryz.underlying23 hti hzz0 hzz1 hzz2 rfl (by decide) _ n xs rfl HO.out ⟨vb, 0, none⟩ 1 1 [.string l.1, .string l.2] rfl rfl HN.out (by simp [Value.oneCell']) (by decide) (by unfold maxLen; omega) (by omega) hb _ rfl ?_)
  all_goals
    intro g cap w' hown' hgrow hloc hlt
    have HO1 := hide hown'
    have HG := hide hgrow
    have HL := hide hloc
    clear hown' hgrow hloc hlt
    go_wp2_with fail
    go_ret
    have e : ∀ c, (Value.slice p n c).ownBlock = p.map (·.block) := fun c => by cases p <;> rfl
    refine ⟨_, rfl, HO1.out, by have := HG.out; rw [e] at this ⊢; exact this, ?_⟩
    have := HL.out
    rw [e] at this ⊢
    exact this.imp id (fun h => by rw [h]; rfl)

set_option maxHeartbeats 1000000 in
theorem cut_short (s : ByteArray) (w : World) (hs : s.size ≤ 200) :
    Calls Tryz.prog 64 #[.string s] w fun e w' => e = .returned (.string s) ∧ w' = w := by
  have h1 : (s.size : Int) ≤ 200 := by omega
  go_enter Tryz.func64, Tryz.ntmps64
  go_wp2_with fail
  go_ret
  exact ⟨rfl, rfl⟩

theorem flat_len : ∀ (ls : List Lab), (ls.flatMap fun l => [Value.string l.1, Value.string l.2]).length = ls.length * 2
  | [] => rfl
  | a :: r => by
    simp only [List.flatMap_cons, List.length_append, flat_len r, List.length_cons, List.length_nil]
    omega
theorem flat_plain (ls : List Lab) : ∀ u ∈ (ls.flatMap fun l => [Value.string l.1, Value.string l.2]), u.oneCell' = true := by
  intro u hu
  obtain ⟨l, _, hl⟩ := List.mem_flatMap.1 hu
  simp only [List.mem_cons, List.not_mem_nil, or_false] at hl
  rcases hl with rfl | rfl <;> rfl
theorem flat_cells {w : World} {b : Nat} {ls : List Lab} (hc : ∀ j l, ls[j]? = some l → w.cell? ⟨b, j * 2, none⟩ = some (.string l.1) ∧ w.cell? ⟨b, j * 2 + 1, none⟩ = some (.string l.2)) {j : Nat} {u : Value}
    (hj : (ls.flatMap fun l => [Value.string l.1, Value.string l.2])[j]? = some u) : w.cell? ⟨b, j, none⟩ = some u := by
  have hjl : j < ls.length * 2 := by rw [← flat_len]; exact (List.getElem?_eq_some_iff.1 hj).1
  obtain ⟨l, hl⟩ : ∃ l, ls[j / 2]? = some l := ⟨_, List.getElem?_eq_getElem (by omega)⟩
  have h1 := flat_at ls (j / 2) l hl
  have h2 := hc (j / 2) l hl
  rcases Nat.mod_two_eq_zero_or_one j with hm | hm
  · have e : j / 2 * 2 = j := by omega
    rw [e] at h1 h2
    rw [h1.1] at hj
    rw [h2.1]; exact hj
  · have e : j / 2 * 2 + 1 = j := by omega
    rw [e] at h1 h2
    rw [h1.2] at hj
    rw [h2.2]; exact hj

set_option maxHeartbeats 1000000 in
set_option maxRecDepth 100000 in
/-- slices.Clone: the same labels in new memory. -/
theorem cloneLab (v : Value) (ls : List Lab) (w : World) (hv : SL w v ls) (hn : ls.length ≤ 1000) :
    Calls Tryz.prog 44 #[v] w fun e w' => ∃ v', e = .returned v' ∧
      w'.ownsRow w.heap.size 48 2 v' ls.length (ls.flatMap fun l => [.string l.1, .string l.2]) ∧ Ex [] w w' := by
  obtain ⟨t0, hti, hzz0, hzz1, hzz2⟩ := info_parts infoLab
  have hnil := fun (W : World) (a : Option Addr) (n c n' c' : Nat) => Lib.run_eql_slice_nil (P := Tryz.prog) W 23 48 a n c n' c' Tryz.underlying23
  rcases hv with ⟨rfl, rfl⟩ | ⟨b, c, rfl, hb, hc⟩
  · go_enter Tryz.func44, Tryz.ntmps44
    go_wp2_with fail
    go_ret
    exact ⟨_, rfl, World.ownsRow_nil _ _ _ _, Ex.refl _ _⟩
  · cases hls : ls with
    | nil =>
      subst hls
      obtain ⟨w1, hr1, ho1, hg1⟩ := run_append_fits (P := Tryz.prog) (w := w.alloc (.cells #[] 48)) w.heap.size 23 23 48 t0 2 Tryz.underlying23 hti hzz1 w.heap.size 0 0 []
        ⟨rfl, .inr ⟨_, _, #[], rfl, Nat.le_refl _, heap_alloc_new w _, Nat.le_refl _, by unfold maxLen; omega, rfl, rfl⟩⟩ ⟨b, 0, none⟩ 0 c []
        rfl (fun j u hj => by simp at hj) (fun u hu => by simp at hu) (by omega)
      have HO1 := hide ho1
      have HG1 := hide hg1
      clear ho1 hg1 hc
      simp only [Nat.add_zero] at hr1
      simp only [List.length_nil]
      go_enter Tryz.func44, Tryz.ntmps44
      go_wp2_with (at_builtin; refine wpList_append_run _ rfl _ _ 23 rfl _ _ rfl rfl hr1 ?_)
      go_ret
      exact ⟨_, rfl, HO1.out, ((Ex.refl _ _).alloc _).grown HG1.out (fun k hk => by cases hk; exact .inr (Nat.le_refl _))⟩
    | cons a r =>
      rw [← hls]
      have hpos : 0 < ls.length := by rw [hls]; simp
      have HC := hide hc
      clear hc hls
      have hown0 : (w.alloc (.cells #[] 48)).ownsRow w.heap.size 48 2 (.slice (some ⟨w.heap.size, 0, none⟩) 0 0) 0 [] :=
        ⟨rfl, .inr ⟨_, _, #[], rfl, Nat.le_refl _, heap_alloc_new w _, Nat.le_refl _, by unfold maxLen; omega, rfl, rfl⟩⟩
      have HO := hide hown0
      clear hown0
      have hlen : (ls.flatMap fun l => [Value.string l.1, .string l.2]).length = ls.length * 2 := flat_len ls
      have HLN := hide hlen
      have HN : Hid (∀ j u, (ls.flatMap fun l => [Value.string l.1, .string l.2])[j]? = some u → (w.alloc (.cells #[] 48)).cell? ((⟨b, 0, none⟩ : Addr).add j) = some u) := by
        intro j u hj
        rw [Addr.add_lit, Nat.zero_add, ((Ex.refl [] w).alloc _).cell0.1 b j hb]
        exact flat_cells HC.out hj
      clear hlen
      go_enter Tryz.func44, Tryz.ntmps44
      go_wp2_with (at_builtin; refine wpList_append_lies _ rfl _ _ 23 rfl w.heap.size 48 t0 _ 2 32 Tryz.underlying23 hti hzz0 hzz1 hzz2 rfl (by decide) _ 0 [] rfl HO.out ⟨b, 0, none⟩ ls.length c _ rfl HLN.out HN.out (flat_plain ls) hpos (by unfold maxLen; omega) (by omega) (by simp) _ rfl ?_)
      intro g cap w' hown' hgrow hloc hlt
      have HO1 := hide hown'
      have HG := hide hgrow
      clear hown' hgrow hloc hlt
      go_wp2_with fail
      go_ret
      refine ⟨_, rfl, by simpa using HO1.out, ((Ex.refl _ _).alloc _).grown HG.out (fun k hk => by cases hk; exact .inr (Nat.le_refl _))⟩
end Go.Proofs.YtmeffeigamaipabGreatDoor
