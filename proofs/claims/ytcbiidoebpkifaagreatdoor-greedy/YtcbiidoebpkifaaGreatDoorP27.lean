/- Y1 Y4 J1 J2 T13b T14 T15 S1, one behind the other. -/
import Derived.Test.YtcbiidoebpkifaaGreatDoorP23
import Derived.Test.YtcbiidoebpkifaaGreatDoorP20
import Derived.Test.YtcbiidoebpkifaaGreatDoorP24
import Derived.Test.YtcbiidoebpkifaaGreatDoorP26
import Derived.Test.YtcbiidoebpkifaaGreatDoorP25
set_option linter.unusedVariables false
set_option linter.unusedSimpArgs false
/- What a group stands for lies within the text, and ends no earlier than it begins. -/
namespace Go.Proofs.YtcbiidoebpkifaaGreatDoor.G

def clsB (code : List Ins) (k pc : Nat) : Bool := (code.take pc).countP (fun i => i.op == 3 && i.sl == ((2 * k : Nat) : Int)) == (code.take pc).countP (fun i => i.op == 3 && i.sl == ((2 * k + 1 : Nat) : Int))
def wayC (code : List Ins) (src : Nat → Bool) (y : Nat × Int) : Bool := (List.range 5).all fun k => !clsB code k y.1 || bitAt y.2 (2 * k + 1) || (!bitAt y.2 (2 * k) && src k)
def spanB (code : List Ins) : Bool := (waysM code (0, 0)).all (wayC code fun _ => true) && (List.range code.length).all fun pc => match code[pc]? with
  | none => true
  | some i => (i.op != 0 || (waysM code (pc + 1, 1)).all (wayC code fun k => clsB code k pc)) && (i.op != 6 || (List.range 5).all fun k => clsB code k pc)

def shutN (sl : List Int) (k : Nat) : Prop := sl.getD (2 * k) 0 < 0 ∨ sl.getD (2 * k) 0 ≤ sl.getD (2 * k + 1) 0
structure TI (code : List Ins) (pl : Int) (t : Th) : Prop where
  len : t.sl.length = 10
  bnd : ∀ z ∈ t.sl, -1 ≤ z ∧ z ≤ pl
  shut : ∀ k, k < 5 → clsB code k t.pc = true → shutN t.sl k
theorem TI.up {code : List Ins} {pl pl' : Int} {t : Th} (h : TI code pl t) (hp : pl ≤ pl') : TI code pl' t := ⟨h.len, fun z hz => ⟨(h.bnd z hz).1, by have := (h.bnd z hz).2; omega⟩, h.shut⟩
theorem markN_at (b pl : Int) (sl : List Int) : ∀ (n i : Nat), i < sl.length → (markN b pl n sl)[i]? = if i < n ∧ bitAt b i = true then some pl else sl[i]?
  | 0, i, hi => by simp [markN]
  | n + 1, i, hi => by
    have ih := markN_at b pl sl n i hi
    unfold markN
    by_cases hb : bitAt b n = true
    · rw [if_pos hb]
      by_cases hin : n = i
      · subst hin
        rw [List.getElem?_set_self (by rw [markN_len]; exact hi), if_pos ⟨by omega, hb⟩]
      · rw [List.getElem?_set_ne hin, ih]
        by_cases h : i < n ∧ bitAt b i = true
        · rw [if_pos h, if_pos ⟨by omega, h.2⟩]
        · rw [if_neg h, if_neg (fun e => h ⟨by omega, e.2⟩)]
    · rw [if_neg hb, ih]
      by_cases h : i < n ∧ bitAt b i = true
      · rw [if_pos h, if_pos ⟨by omega, h.2⟩]
      · rw [if_neg h, if_neg (fun e => h ⟨by
          have : i ≠ n := fun e2 => hb (e2 ▸ e.2)
          omega, e.2⟩)]
theorem markM_get (b pl : Int) (sl : List Int) (hl : sl.length = 10) (i : Nat) (hi : i < 10) : (markM b pl sl).getD i 0 = if bitAt b i = true then pl else sl.getD i 0 := by
  have h := markN_at b pl sl 10 i (by omega)
  unfold markM
  rw [List.getD_eq_getElem?_getD, h]
  by_cases hb : bitAt b i = true
  · rw [if_pos ⟨hi, hb⟩, if_pos hb]; rfl
  · rw [if_neg (fun e => hb e.2), if_neg hb, List.getD_eq_getElem?_getD]
theorem get_mem (sl : List Int) (i : Nat) (hi : i < sl.length) : sl.getD i 0 ∈ sl := by
  rw [List.getD_eq_getElem?_getD, List.getElem?_eq_getElem hi]
  exact List.getElem_mem hi
theorem mark_ti {code : List Ins} {pl : Int} {sl : List Int} {src : Nat → Bool} {y : Nat × Int} (h0 : 0 ≤ pl) (hl : sl.length = 10) (hz : ∀ z ∈ sl, -1 ≤ z ∧ z ≤ pl) (hs : ∀ k, k < 5 → src k = true → shutN sl k) (hw : wayC code src y = true) : TI code pl ⟨y.1, markM y.2 pl sl⟩ := by
  refine ⟨by rw [markM_len]; exact hl, fun z hm => ?_, fun k hk hc => ?_⟩
  · obtain ⟨i, hi, rfl⟩ := List.getElem_of_mem hm
    have hi' : i < 10 := by rw [markM_len, hl] at hi; exact hi
    have h := markM_get y.2 pl sl hl i hi'
    have e : (markM y.2 pl sl).getD i 0 = (markM y.2 pl sl)[i] := by rw [List.getD_eq_getElem?_getD, List.getElem?_eq_getElem hi]; rfl
    rw [← e, h]
    split
    · omega
    · exact hz _ (get_mem sl i (by omega))
  · have h1 := List.all_eq_true.1 hw k (List.mem_range.2 hk)
    dsimp only at hc
    rw [hc] at h1
    unfold shutN
    rw [markM_get _ _ _ hl _ (by omega), markM_get _ _ _ hl _ (by omega)]
    have b1 := hz _ (get_mem sl (2 * k) (by omega))
    have b2 := hz _ (get_mem sl (2 * k + 1) (by omega))
    by_cases hb : bitAt y.2 (2 * k + 1) = true
    · rw [if_pos hb]
      split
      · exact .inr (Int.le_refl _)
      · exact .inr b1.2
    · rw [if_neg hb]
      simp only [Bool.not_true, Bool.false_or, Bool.or_eq_true, Bool.and_eq_true, Bool.not_eq_true'] at h1
      rcases h1 with h1 | ⟨h1, h2⟩
      · exact absurd h1 hb
      · rw [if_neg (by rw [h1]; simp)]
        exact hs k hk h2
theorem follow_ti {code : List Ins} {pl : Int} {sl : List Int} {src : Nat → Bool} (h0 : 0 ≤ pl) (hl : sl.length = 10) (hz : ∀ z ∈ sl, -1 ≤ z ∧ z ≤ pl) (hs : ∀ k, k < 5 → src k = true → shutN sl k) : ∀ (ws : List (Nat × Int)) (s : List Th × List Int), ws.all (wayC code src) = true → (∀ t ∈ s.1, TI code pl t) → ∀ t ∈ (followM sl pl (wys ws) s).1, TI code pl t
  | [], s, _, hi => hi
  | y :: ws, s, hw, hi => by
    rw [List.all_cons, Bool.and_eq_true] at hw
    have e : wys (y :: ws) = ⟨y.1, y.2⟩ :: wys ws := rfl
    rw [e]
    unfold followM
    split
    · exact follow_ti h0 hl hz hs ws s hw.2 hi
    · refine follow_ti h0 hl hz hs ws _ hw.2 (fun t ht => ?_)
      rcases List.mem_append.1 ht with ht | ht
      · exact hi t ht
      · simp at ht; subst ht; exact mark_ti h0 hl hz hs hw.1
theorem step_ti {code : List Ins} (hB : spanB code = true) {r pl pl0 : Int} (h0 : 0 ≤ pl) (hp : pl0 ≤ pl) : ∀ (ts : List Th) (s : List Th × List Int), (∀ t ∈ ts, TI code pl0 t) → (∀ t ∈ s.1, TI code pl t) → ∀ t ∈ (stepL code r pl ts s).1, TI code pl t
  | [], s, _, hi => hi
  | t :: ts, s, ht, hi => by
    have ih : ∀ s, (∀ t ∈ s.1, TI code pl t) → ∀ t ∈ (stepL code r pl ts s).1, TI code pl t := fun s => step_ti hB h0 hp ts s (fun x hx => ht x (List.mem_cons_of_mem _ hx))
    have h1 := (ht t (List.mem_cons_self ..)).up hp
    unfold stepL
    split
    · next i hic =>
      split
      · next htk =>
        refine ih _ (follow_ti h0 h1.len h1.bnd h1.shut _ s ?_ hi)
        have hpc : t.pc < code.length := (List.getElem?_eq_some_iff.1 hic).1
        unfold spanB at hB
        rw [Bool.and_eq_true] at hB
        have h2 := List.all_eq_true.1 hB.2 t.pc (List.mem_range.2 hpc)
        rw [hic] at h2
        simp only [Bool.and_eq_true, Bool.or_eq_true] at h2
        unfold Ins.takes at htk
        rw [Bool.and_eq_true] at htk
        rcases h2.1 with h3 | h3
        · have e0 : i.op = 0 := by simpa using htk.1
          rw [e0] at h3; simp at h3
        · exact h3
      · exact ih s hi
    · exact ih s hi
theorem accept_ti {code : List Ins} (hB : spanB code = true) {pl : Int} : ∀ (ts : List Th), (∀ t ∈ ts, TI code pl t) → ∀ sl, acceptM code ts = some sl → sl.length = 10 ∧ (∀ z ∈ sl, -1 ≤ z ∧ z ≤ pl) ∧ ∀ k, k < 5 → shutN sl k
  | [], _, sl, h => by cases h
  | t :: ts, ht, sl, h => by
    unfold acceptM at h
    split at h
    · next h6 =>
      cases h
      have h1 := ht t (List.mem_cons_self ..)
      refine ⟨h1.len, h1.bnd, fun k hk => h1.shut k hk ?_⟩
      cases hic : code[t.pc]? with
      | none => rw [hic] at h6; cases h6
      | some i =>
        rw [hic] at h6
        have e6 : i.op = 6 := by simpa using h6
        have hpc : t.pc < code.length := (List.getElem?_eq_some_iff.1 hic).1
        unfold spanB at hB
        rw [Bool.and_eq_true] at hB
        have h2 := List.all_eq_true.1 hB.2 t.pc (List.mem_range.2 hpc)
        rw [hic] at h2
        simp only [Bool.and_eq_true, Bool.or_eq_true] at h2
        rcases h2.2 with h3 | h3
        · rw [e6] at h3; simp at h3
        · exact List.all_eq_true.1 h3 k (List.mem_range.2 hk)
    · exact accept_ti hB ts (fun x hx => ht x (List.mem_cons_of_mem _ hx)) sl h
theorem run_ti {code : List Ins} (hB : spanB code = true) (s : ByteArray) : ∀ (f a : Nat) (st : List Th × List Int), a ≤ s.size → (∀ t ∈ st.1, TI code (a : Int) t) → ∀ sl, runM code s f a st = some sl → sl.length = 10 ∧ (∀ z ∈ sl, -1 ≤ z ∧ z ≤ (s.size : Int)) ∧ ∀ k, k < 5 → shutN sl k
  | 0, a, st, ha, ht, sl, h => accept_ti hB st.1 (fun t hm => (ht t hm).up (by omega)) sl h
  | f + 1, a, st, ha, ht, sl, h => by
    unfold runM at h
    split at h
    · next hlt =>
      split at h
      · cases h
      · have hr := rs_all s a hlt
        exact run_ti hB s f _ _ hr.2 (step_ti hB (by omega) (by omega) st.1 _ ht (by simp)) sl h
    · exact accept_ti hB st.1 (fun t hm => (ht t hm).up (by omega)) sl h
theorem match_ti {code : List Ins} (hB : spanB code = true) (s : ByteArray) (sl : List Int) (h : matchM code s = some sl) : sl.length = 10 ∧ (∀ z ∈ sl, -1 ≤ z ∧ z ≤ (s.size : Int)) ∧ ∀ k, k < 5 → shutN sl k := by
  unfold matchM at h
  refine run_ti hB s _ 0 _ (by omega) (follow_ti (src := fun _ => true) (by simp) rfl (by decide) (fun k hk _ => ?_) _ _ ?_ (by simp)) sl h
  · have : k = 0 ∨ k = 1 ∨ k = 2 ∨ k = 3 ∨ k = 4 := by omega
    rcases this with rfl | rfl | rfl | rfl | rfl <;> exact .inl (by decide)
  · unfold spanB at hB
    rw [Bool.and_eq_true] at hB
    exact hB.1
theorem spans_in {code : List Ins} (hB : spanB code = true) (s : ByteArray) (sl : List Int) (h : matchM code s = some sl) (ng : Nat) (hg : ng ≤ 5) : ∀ y ∈ spansM s.size sl ng, y.1 < 0 ∨ (0 ≤ y.1 ∧ y.1 ≤ y.2 ∧ y.2 ≤ (s.size : Int)) := by
  obtain ⟨h1, h2, h3⟩ := match_ti hB s sl h
  intro y hy
  unfold spansM at hy
  rcases List.mem_cons.1 hy with rfl | hy
  · exact .inr ⟨by simp, by simp, by simp⟩
  · rw [List.mem_map] at hy
    obtain ⟨k, hk, rfl⟩ := hy
    have hk5 : k < 5 := by have := List.mem_range.1 hk; omega
    have b2 := h2 _ (get_mem sl (2 * k + 1) (by omega))
    have h4 := h3 k hk5
    unfold shutN at h4
    unfold spanAt
    dsimp only
    omega
end Go.Proofs.YtcbiidoebpkifaaGreatDoor.G

/- A label set by the name that was built; Replace: what such a rule does. -/
namespace Go.Proofs.YtcbiidoebpkifaaGreatDoor.G
open Go.RowKit

structure Fit2 (code : List Ins) (ng : Nat) (nm : List (ByteArray × Nat)) : Prop where
  fit : Fit code ng
  span : spanB code = true
  nk : ∀ x ∈ nm, x.1.size ≤ 60
  nu : ∀ x ∈ nm, ∀ y ∈ nm, x.1 = y.1 → x.2 = y.2
  nv : ∀ x ∈ nm, x.2 ≤ 1000
def groupsM (s : ByteArray) (sl : List Int) (ng : Nat) (nm : List (ByteArray × Nat)) : ByteArray → ByteArray := standM s (spansM s.size sl ng) nm
theorem template_post (code : List Ins) (ng : Nat) (nm : List (ByteArray × Nat)) (hf : Fit2 code ng nm) (s : ByteArray) (hs : s.size ≤ 100000000) (sl : List Int) (hm : matchM code s = some sl) (v : Value) (mb base : Nat) (W : World) (ho : W.ownsRow base 49 2 v (ng + 1) (spanL (spansM s.size sl ng))) (hmb : BK W mb (.map (nmE nm) nm.length)) (t : ByteArray) (ht : t.size ≤ 60) (w : World) (hx : Ex [] W w) :
    Calls Tryz.prog 19 #[.string t, .agg #[.string s, v, .map (some mb)]] w fun e w' => e = .returned (.string (tplM (groupsM s sl ng nm) t)) ∧ Ex [] w w' := by
  obtain ⟨g, cap, rfl, hgl, hcell⟩ : ∃ g cap, v = .slice (some ⟨g, 0, none⟩) (ng + 1) cap ∧ g < W.heap.size ∧ ∀ j u, (spanL (spansM s.size sl ng))[j]? = some u → W.cell? ⟨g, j, none⟩ = some u := by
    obtain ⟨g, cap, rfl, _, hgl, _, hc, _⟩ := own_cells ho (by omega)
    refine ⟨g, cap, rfl, hgl, fun j u hj => ?_⟩
    rw [hc j (by have := (List.getElem?_eq_some_iff.1 hj).1; rw [← ho.1]; exact this)]
    exact hj
  have hfd : FD w s mb g (spansM s.size sl ng) nm := FD.ex ⟨hmb, hf.nk, hf.nu, hf.nv, hgl, hcell, by rw [spansM_len]; have := hf.fit.ng5; omega, hs, spans_in hf.span s sl hm ng hf.fit.ng5⟩ hx
  have h := template_any s mb g cap (spansM s.size sl ng) nm t w hfd ht
  rw [spansM_len] at h
  exact h
end Go.Proofs.YtcbiidoebpkifaaGreatDoor.G

/- retag.Expand, at a pattern that is good. -/
namespace Go.Proofs.YtcbiidoebpkifaaGreatDoor.G
open Go.RowKit

def expO (m : Option (List Int)) (s : ByteArray) (ng : Nat) (nm : List (ByteArray × Nat)) (tp : ByteArray) : ByteArray := match m with
  | some sl => tplM (groupsM s sl ng nm) tp
  | none => ⟨#[]⟩
def expM (t s tp : ByteArray) : ByteArray := expO (matchM (patC t) s) s (patN t) (patM t) tp
set_option maxHeartbeats 2000000 in
set_option maxRecDepth 100000 in
theorem Expand_any (t s tp : ByteArray) (x : EV) (w : World) (hev : w.cell? ⟨0, 0, none⟩ = some (.iface x.1 x.2)) (hp : goodP t = true) (h2 : Fit2 (patC t) (patN t) (patM t)) (hg : GL w) (hs : s.size ≤ 100000000) (ht : tp.size ≤ 60) :
    Calls Tryz.prog 8 #[.string t, .string s, .string tp] w fun e w' => e = .returned (.tuple #[.string (expM t s tp), .int .i64 0]) ∧ Ex [] w w' := by
  have KR := hide (readsP hev hp w (Ex.refl _ _))
  have HG := hide hg
  have HF := hide h2
  unfold expM
  have HTP := hide (fun sl hm => template_post (patC t) (patN t) (patM t) h2 s hs sl hm)
  obtain ⟨m, hm⟩ : ∃ m, m = matchM (patC t) s := ⟨_, rfl⟩
  rw [← hm] at HTP ⊢
  have HM := hide hm
  obtain ⟨ng, hng⟩ : ∃ ng, ng = patN t := ⟨_, rfl⟩
  rw [← hng] at KR HF HTP ⊢
  have hng5 := h2.fit.ng5
  rw [← hng] at hng5
  clear hev hp hg h2 hm hng
  go_enter Tryz.func8, Tryz.ntmps8
  go_wp2_with fail
  refine KR.out.mono ?_
  rintro e w1 ⟨q, rfl, hpg, hx1⟩
  have KM := hide (Match_any q w.heap.size (patC t) ng (patM t) s w1 hpg HF.out.fit.ok HF.out.fit.tk HF.out.fit.le HF.out.fit.pos HF.out.fit.ng5 (by omega) (HG.out.ex hx1).1)
  rw [← HM.out] at KM
  have HX1 := hide hx1
  have hz1 := hx1.size
  clear hpg hx1
  go_wp2_with fail
  refine KM.out.mono ?_
  rintro e w2 ⟨hpost, hx2⟩
  have HX2 := hide hx2
  have hz2 := hx2.size
  clear hx2
  cases m with
  | none =>
    obtain rfl := hpost
    go_wp2_with fail
    refine bodyPost_ret (v := .tuple #[.string ⟨#[]⟩, .int .i64 0]) (by simp [results, Tryz.results8, go_sem]) rfl ⟨rfl, ?_⟩
    exact HX1.out.trans (HX2.out.trans ((Ex.refl _ _).alloc _))
  | some sl =>
    obtain ⟨v, mb, rfl, ho, hmb, _⟩ := hpost
    have KT := hide (fun (W : World) (hx : Ex [] w2 W) => HTP.out sl rfl v mb w1.heap.size w2 ho hmb tp ht W hx)
    obtain ⟨g, c, rfl, hgb, hgl, hgc, _, _⟩ := own_cells ho (by omega)
    unfold foundV
    obtain ⟨R, hR⟩ : ∃ R, R = tplM (groupsM s sl ng (patM t)) tp := ⟨_, rfl⟩
    rw [← hR] at KT
    have HR := hide hR
    clear ho hmb hR
    go_wp2_with fail
    refine (KT.out _ ((Ex.refl _ _).alloc _)).mono ?_
    rintro e w3 ⟨rfl, hx3⟩
    have HX3 := hide hx3
    clear hx3
    go_wp2_with fail
    refine bodyPost_ret (v := .tuple #[.string R, .int .i64 0]) (by simp [results, Tryz.results8, go_sem]) rfl ⟨by rw [HR.out]; rfl, ?_⟩
    exact HX1.out.trans (HX2.out.trans (((Ex.refl _ _).alloc _).trans HX3.out))
end Go.Proofs.YtcbiidoebpkifaaGreatDoor.G

/- A run by sets of runes: what threads do, told without the places. -/
namespace Go.Proofs.YtcbiidoebpkifaaGreatDoor.G

def gam (a pl : Int) : Nat → Int
  | 0 => -1
  | 1 => 0
  | 2 => pl
  | _ => a
def markA (v : Nat) (b : Int) : Nat → List Nat → List Nat
  | 0, sl => sl
  | n + 1, sl => if bitAt b n then (markA v b n sl).set n v else markA v b n sl
theorem markA_gam (v : Nat) (b a pl : Int) (hv : gam a pl v = pl) (sl : List Nat) : ∀ n, (markA v b n sl).map (gam a pl) = markN b pl n (sl.map (gam a pl))
  | 0 => rfl
  | n + 1 => by
    have ih := markA_gam v b a pl hv sl n
    unfold markA markN
    split
    · rw [List.map_set, ih, hv]
    · exact ih
abbrev ATh := Nat × List Nat
def conT (a pl : Int) (t : ATh) : Th := ⟨t.1, t.2.map (gam a pl)⟩
def folA (v : Nat) (sl : List Nat) : List (Nat × Int) → List ATh × List Nat → List ATh × List Nat
  | [], s => s
  | x :: ws, s => if s.2.contains x.1 then folA v sl ws s else folA v sl ws (s.1 ++ [(x.1, markA v x.2 10 sl)], x.1 :: s.2)
structure Rch (n : Nat) (pl : Int) (rc : List Int) (re : List Nat) : Prop where
  len : rc.length = n
  iff : ∀ i, i < n → (rc[i]? = some pl ↔ re.contains i = true)
  le : ∀ z ∈ rc, z ≤ pl
theorem folA_ok (v : Nat) (sl : List Nat) (a pl : Int) (n : Nat) (hv : gam a pl v = pl) : ∀ (ws : List (Nat × Int)) (ts : List ATh) (re : List Nat) (rc : List Int), (∀ y ∈ ws, y.1 < n) → Rch n pl rc re →
    ∃ rc', followM (sl.map (gam a pl)) pl (wys ws) (ts.map (conT a pl), rc) = ((folA v sl ws (ts, re)).1.map (conT a pl), rc') ∧ Rch n pl rc' (folA v sl ws (ts, re)).2
  | [], ts, re, rc, _, h => ⟨rc, rfl, h⟩
  | x :: ws, ts, re, rc, hw, h => by
    have hx := hw x (List.mem_cons_self ..)
    have e : wys (x :: ws) = ⟨x.1, x.2⟩ :: wys ws := rfl
    rw [e]
    unfold followM folA
    dsimp only
    by_cases hc : re.contains x.1 = true
    · rw [if_pos ((h.iff x.1 hx).2 hc), if_pos hc]
      exact folA_ok v sl a pl n hv ws ts re rc (fun y hy => hw y (List.mem_cons_of_mem _ hy)) h
    · rw [if_neg (fun e => hc ((h.iff x.1 hx).1 e)), if_neg hc]
      have hts : ts.map (conT a pl) ++ [⟨x.1, markM x.2 pl (sl.map (gam a pl))⟩] = (ts ++ [(x.1, markA v x.2 10 sl)]).map (conT a pl) := by
        rw [List.map_append, List.map_singleton]
        have e9 : conT a pl (x.1, markA v x.2 10 sl) = ⟨x.1, markM x.2 pl (sl.map (gam a pl))⟩ := by
          show (⟨x.1, (markA v x.2 10 sl).map (gam a pl)⟩ : Th) = _
          rw [markA_gam v x.2 a pl hv sl 10]
          rfl
        rw [e9]
      rw [hts]
      refine folA_ok v sl a pl n hv ws _ (x.1 :: re) (rc.set x.1 pl) (fun y hy => hw y (List.mem_cons_of_mem _ hy)) ⟨by rw [List.length_set]; exact h.len, fun i hi => ?_, fun z hz => ?_⟩
      · by_cases hi2 : i = x.1
        · subst hi2
          rw [List.getElem?_set_self (by rw [h.len]; exact hi)]
          simp
        · rw [List.getElem?_set_ne (fun e => hi2 e.symm), h.iff i hi, List.contains_cons]
          simp [hi2]
      · rcases List.mem_or_eq_of_mem_set hz with hz | rfl
        · exact h.le z hz
        · exact Int.le_refl _
def stepA (code : List Ins) (tk : Nat → Bool) : List ATh → List ATh × List Nat → List ATh × List Nat
  | [], s => s
  | t :: ts, s => if tk t.1 then stepA code tk ts (folA 2 t.2 (waysM code (t.1 + 1, 1)) s) else stepA code tk ts s
theorem stepA_ok (code : List Ins) (hok : CodeOK code) (htk2 : TakeOK code) (tk : Nat → Bool) (r a pl : Int) (htk : ∀ i x, code[i]? = some x → x.takes r = tk i) (hno : ∀ i, code[i]? = none → tk i = false) :
    ∀ (ts us : List ATh) (re : List Nat) (rc : List Int), Rch code.length pl rc re → ∃ rc', stepL code r pl (ts.map (conT a pl)) (us.map (conT a pl), rc) = ((stepA code tk ts (us, re)).1.map (conT a pl), rc') ∧ Rch code.length pl rc' (stepA code tk ts (us, re)).2
  | [], us, re, rc, h => ⟨rc, rfl, h⟩
  | t :: ts, us, re, rc, h => by
    have ih := stepA_ok code hok htk2 tk r a pl htk hno ts
    rw [List.map_cons]
    unfold stepL stepA
    cases hc : code[t.1]? with
    | none =>
      rw [show code[(conT a pl t).pc]? = none from hc, hno _ hc]
      exact ih us re rc h
    | some x =>
      rw [show code[(conT a pl t).pc]? = some x from hc]
      dsimp only
      have h1 := htk _ _ hc
      rw [h1]
      cases htt : tk t.1 with
      | false =>
        simp only [Bool.false_eq_true, if_false]
        exact ih us re rc h
      | true =>
        simp only [if_true]
        rw [htt] at h1
        unfold Ins.takes at h1
        rw [Bool.and_eq_true] at h1
        have h2 := htk2 _ _ hc (by simpa using h1.1)
        have hw := (ways_ok code hok (t.1 + 1, 1) h2 (by simp)).1
        obtain ⟨rc1, e1, hr1⟩ := folA_ok 2 t.2 a pl code.length rfl (waysM code (t.1 + 1, 1)) us re rc hw h
        rw [show followM (conT a pl t).sl pl (wys (waysM code ((conT a pl t).pc + 1, 1))) (us.map (conT a pl), rc) = _ from e1]
        exact ih _ _ rc1 hr1

def allR (T : Int → Bool) (s : ByteArray) : Nat → Nat → Bool
  | 0, _ => true
  | f + 1, a => if a < s.size then T (rune s a) && allR T s f (a + rsz s a) else true
def agT (t : ATh) : ATh := (t.1, t.2.map fun v => if v = 2 then 3 else v)
def zzT (t : ATh) : ATh := (t.1, t.2.map fun v => if v = 2 then 1 else v)
def accA (code : List Ins) : List ATh → Option (List Nat)
  | [] => none
  | t :: ts => if (code[t.1]?).map (·.op) = some 6 then some t.2 else accA code ts
theorem con_age (a pl : Int) (t : ATh) (h : ∀ v ∈ t.2, v ≤ 2) : conT a pl (agT t) = conT 0 a t := by
  unfold conT agT
  congr 1
  rw [List.map_map]
  refine List.map_congr_left fun v hv => ?_
  have := h v hv
  match v, this with
  | 0, _ => rfl
  | 1, _ => rfl
  | 2, _ => rfl
theorem con_low (a pl : Int) (t : ATh) (h : ∀ v ∈ t.2, v ≤ 2) : conT a pl t = conT 0 pl t := by
  unfold conT
  congr 1
  refine List.map_congr_left fun v hv => ?_
  have := h v hv
  match v, this with
  | 0, _ => rfl
  | 1, _ => rfl
  | 2, _ => rfl
theorem con_zz (t : ATh) (h : ∀ v ∈ t.2, v ≤ 2) : conT 0 0 (zzT t) = conT 0 0 t := by
  unfold conT zzT
  congr 1
  rw [List.map_map]
  refine List.map_congr_left fun v hv => ?_
  have := h v hv
  match v, this with
  | 0, _ => rfl
  | 1, _ => rfl
  | 2, _ => rfl
theorem acc_con (code : List Ins) (a pl : Int) : ∀ A : List ATh, acceptM code (A.map (conT a pl)) = (accA code A).map (fun l => l.map (gam a pl))
  | [] => rfl
  | t :: A => by
    rw [List.map_cons]
    unfold acceptM accA
    rw [show code[(conT a pl t).pc]? = code[t.1]? from rfl]
    split
    · rfl
    · exact acc_con code a pl A
def Tells (code : List Ins) (r : Int) (tk : Nat → Bool) : Prop := (∀ i x, code[i]? = some x → x.takes r = tk i) ∧ ∀ i, code[i]? = none → tk i = false
structure RunA (code : List Ins) (T : Int → Bool) (A : List ATh) (sl : List Nat) : Prop where
  ok : CodeOK code
  tk : TakeOK code
  pos : 0 < code.length
  low : ∀ t ∈ A, ∀ v ∈ t.2, v ≤ 2
  ne : A ≠ []
  start : (folA 1 [0, 0, 0, 0, 0, 0, 0, 0, 0, 0] (waysM code (0, 0)) ([], [])).1 = A.map zzT
  yes : ∀ r : Int, T r = true → ∃ tk, Tells code r tk ∧ (stepA code tk (A.map agT) ([], [])).1 = A
  no : ∀ r : Int, T r = false → ∃ tk, Tells code r tk ∧ (stepA code tk (A.map agT) ([], [])).1 = []
  acc : accA code A = some sl
theorem run_abs {code : List Ins} {T : Int → Bool} {A : List ATh} {sl : List Nat} (h : RunA code T A sl) (s : ByteArray) : ∀ (f a : Nat) (rc : List Int), a ≤ s.size → s.size - a ≤ f → rc.length = code.length → (∀ z ∈ rc, z ≤ (a : Int)) →
    runM code s f a (A.map (conT 0 a), rc) = if allR T s f a then some (sl.map (gam 0 s.size)) else none
  | 0, a, rc, ha, hf, hl, hz => by
    obtain rfl : a = s.size := by omega
    show acceptM code (A.map (conT 0 _)) = _
    rw [acc_con, h.acc]
    rfl
  | f + 1, a, rc, ha, hf, hl, hz => by
    unfold runM allR
    by_cases hlt : a < s.size
    · rw [if_pos hlt, if_pos hlt]
      have hr := rs_all s a hlt
      obtain ⟨pl, hpl⟩ : ∃ pl : Int, pl = ((a + rsz s a : Nat) : Int) := ⟨_, rfl⟩
      have hrch : Rch code.length pl rc [] := ⟨hl, fun i hi => by
        constructor
        · intro e
          have := hz pl (List.mem_of_getElem? e)
          omega
        · intro e
          simp at e, fun z hzz => by have := hz z hzz; omega⟩
      have hage : A.map (conT 0 a) = (A.map agT).map (conT a pl) := by
        rw [List.map_map]
        exact List.map_congr_left fun t ht => (con_age a pl t (h.low t ht)).symm
      have hlow : A.map (conT a pl) = A.map (conT 0 pl) := List.map_congr_left fun t ht => con_low a pl t (h.low t ht)
      cases hT : T (rune s a) with
      | true =>
        obtain ⟨tk, htk, hst⟩ := h.yes _ hT
        obtain ⟨rc', e1, hr1⟩ := stepA_ok code h.ok h.tk tk (rune s a) a pl htk.1 htk.2 (A.map agT) [] [] rc hrch
        rw [hst, hlow] at e1
        rw [← hpl]
        dsimp only
        rw [hage, show stepL code (rune s a) pl ((A.map agT).map (conT a pl)) ([], rc) = _ from e1]
        dsimp only
        rw [if_neg (by rw [List.length_map]; intro e; exact h.ne (List.length_eq_zero_iff.1 e)), Bool.true_and]
        rw [hpl]
        refine run_abs h s f (a + rsz s a) rc' hr.2 (by omega) hr1.len (fun z hzz => ?_)
        rw [← hpl]
        exact hr1.le z hzz
      | false =>
        obtain ⟨tk, htk, hst⟩ := h.no _ hT
        obtain ⟨rc', e1, hr1⟩ := stepA_ok code h.ok h.tk tk (rune s a) a pl htk.1 htk.2 (A.map agT) [] [] rc hrch
        rw [hst] at e1
        rw [← hpl]
        dsimp only
        rw [hage, show stepL code (rune s a) pl ((A.map agT).map (conT a pl)) ([], rc) = _ from e1]
        rfl
    · rw [if_neg hlt, if_neg hlt]
      obtain rfl : a = s.size := by omega
      show acceptM code (A.map (conT 0 _)) = _
      rw [acc_con, h.acc]
      rfl
theorem match_abs {code : List Ins} {T : Int → Bool} {A : List ATh} {sl : List Nat} (h : RunA code T A sl) (s : ByteArray) : matchM code s = if allR T s s.size 0 then some (sl.map (gam 0 s.size)) else none := by
  have hw := (ways_ok code h.ok (0, 0) h.pos (by simp)).1
  have hrch : Rch code.length 0 (List.replicate code.length (-1)) [] := ⟨List.length_replicate, fun i hi => by
    rw [List.getElem?_replicate, if_pos hi]
    simp, fun z hz => by have := List.eq_of_mem_replicate hz; omega⟩
  obtain ⟨rc', e1, hr1⟩ := folA_ok 1 [0, 0, 0, 0, 0, 0, 0, 0, 0, 0] 0 0 code.length rfl (waysM code (0, 0)) [] [] _ hw hrch
  rw [h.start, List.map_map] at e1
  have hzz : A.map (conT 0 0 ∘ zzT) = A.map (conT 0 ((0 : Nat) : Int)) := List.map_congr_left fun t ht => con_zz t (h.low t ht)
  rw [hzz] at e1
  unfold matchM
  rw [show followM unsetS 0 (wys (waysM code (0, 0))) ([], List.replicate code.length (-1)) = _ from e1]
  exact run_abs h s s.size 0 rc' (by omega) (by omega) hr1.len (fun z hzz => hr1.le z hzz)

def tkV (code : List Ins) (c1 : Rx.Q.Cls) (b1 b2 : Bool) (i : Nat) : Bool := match code[i]? with
  | some x => x.op == 0 && (if x.lo = c1.lo ∧ x.hi = c1.hi ∧ x.hg = c1.hg then b1 else b2)
  | none => false
def isC (x : Ins) (c : Rx.Q.Cls) : Bool := decide (x.lo = c.lo ∧ x.hi = c.hi ∧ x.hg = c.hg)
def staA (code : List Ins) (c1 : Rx.Q.Cls) : List ATh := (stepA code (tkV code c1 true true) (folA 1 [0, 0, 0, 0, 0, 0, 0, 0, 0, 0] (waysM code (0, 0)) ([], [])).1 ([], [])).1
def runB (code : List Ins) (c1 c2 : Rx.Q.Cls) (L : List (Bool × Bool)) (sl : List Nat) : Bool :=
  code.all (fun x => x.op != 0 || isC x c1 || isC x c2) && (staA code c1).all (fun t => t.2.all fun v => decide (v ≤ 2)) && decide (staA code c1 ≠ []) &&
  decide ((folA 1 [0, 0, 0, 0, 0, 0, 0, 0, 0, 0] (waysM code (0, 0)) ([], [])).1 = (staA code c1).map zzT) &&
  L.all (fun b => decide ((stepA code (tkV code c1 b.1 b.2) ((staA code c1).map agT) ([], [])).1 = staA code c1)) &&
  decide ((stepA code (tkV code c1 false false) ((staA code c1).map agT) ([], [])).1 = []) && decide (accA code (staA code c1) = some sl)
def twoT (c1 c2 : Rx.Q.Cls) (r : Int) : Bool := Rx.Q.hasC c1 r || Rx.Q.hasC c2 r
theorem tells_of {code : List Ins} {c1 c2 : Rx.Q.Cls} (h : code.all (fun x => x.op != 0 || isC x c1 || isC x c2) = true) (r : Int) : Tells code r (tkV code c1 (Rx.Q.hasC c1 r) (Rx.Q.hasC c2 r)) := by
  refine ⟨fun i x hx => ?_, fun i hi => by unfold tkV; rw [hi]⟩
  have h1 := List.all_eq_true.1 h x (List.mem_of_getElem? hx)
  unfold tkV Ins.takes
  rw [hx]
  dsimp only
  by_cases h0 : (x.op == 0) = true
  · rw [h0, Bool.true_and, Bool.true_and]
    have h00 : x.op = 0 := by simpa using h0
    rw [h00] at h1
    simp only [bne_self_eq_false, Bool.false_or, Bool.or_eq_true] at h1
    by_cases hc : x.lo = c1.lo ∧ x.hi = c1.hi ∧ x.hg = c1.hg
    · rw [if_pos hc]
      have : x.cls = c1 := by obtain ⟨a, b, c⟩ := hc; cases c1; unfold Ins.cls; simp_all
      rw [this]
    · rw [if_neg hc]
      rcases h1 with h1 | h1
      · exact absurd (of_decide_eq_true h1) hc
      · have : x.cls = c2 := by obtain ⟨a, b, c⟩ := of_decide_eq_true h1; cases c2; unfold Ins.cls; simp_all
        rw [this]
  · have h9 : (x.op == 0) = false := by simpa using h0
    rw [h9, Bool.false_and, Bool.false_and]
theorem runA_of {code : List Ins} {ng : Nat} {c1 c2 : Rx.Q.Cls} {L : List (Bool × Bool)} {sl : List Nat} (hf : Fit code ng) (hL : ∀ r, twoT c1 c2 r = true → (Rx.Q.hasC c1 r, Rx.Q.hasC c2 r) ∈ L) (h : runB code c1 c2 L sl = true) : RunA code (twoT c1 c2) (staA code c1) sl := by
  unfold runB at h
  simp only [Bool.and_eq_true] at h
  obtain ⟨⟨⟨⟨⟨⟨h1, h2⟩, h3⟩, h4⟩, h5⟩, h6⟩, h7⟩ := h
  refine ⟨hf.ok, hf.tk, hf.pos, fun t ht v hv => ?_, of_decide_eq_true h3, of_decide_eq_true h4, fun r hr => ⟨_, tells_of h1 r, ?_⟩, fun r hr => ⟨_, tells_of h1 r, ?_⟩, of_decide_eq_true h7⟩
  · exact of_decide_eq_true (List.all_eq_true.1 (List.all_eq_true.1 h2 t ht) v hv)
  · exact of_decide_eq_true (List.all_eq_true.1 h5 _ (hL r hr))
  · unfold twoT at hr
    rw [Bool.or_eq_false_iff] at hr
    rw [hr.1, hr.2]
    exact of_decide_eq_true h6
end Go.Proofs.YtcbiidoebpkifaaGreatDoor.G

/- Slices that are handed in: they may begin anywhere in their block. -/
namespace Go.Proofs.YtcbiidoebpkifaaGreatDoor.G
open Go.RowKit

def SSo (w : World) (p : Option Addr) (ss : List ByteArray) : Prop := ∀ (j : Nat) (s : ByteArray), ss[j]? = some s → ∃ b o, p = some ⟨b, o, none⟩ ∧ b < w.heap.size ∧ w.cell? ⟨b, o + j, none⟩ = some (.string s)
def SLo (w : World) (p : Option Addr) (ls : List Lab) : Prop := ∀ (j : Nat) (l : Lab), ls[j]? = some l → ∃ b o, p = some ⟨b, o, none⟩ ∧ b < w.heap.size ∧ w.cell? ⟨b, o + j * 2, none⟩ = some (.string l.1) ∧ w.cell? ⟨b, o + j * 2 + 1, none⟩ = some (.string l.2)
theorem SSo.ex {w w' : World} {p : Option Addr} {ss : List ByteArray} {o : List Nat} (h : SSo w p ss) (hx : Ex o w w') (hn : ∀ y ∈ o, w.heap.size ≤ y) : SSo w' p ss := fun j s hs => by
  obtain ⟨b, off, h1, h2, h3⟩ := h j s hs
  exact ⟨b, off, h1, Nat.lt_of_lt_of_le h2 hx.size, (hx.cell.1 b _ h2 (fun hb => by have := hn b hb; omega)).trans h3⟩
theorem SLo.ex {w w' : World} {p : Option Addr} {ls : List Lab} (h : SLo w p ls) (hx : Ex [] w w') : SLo w' p ls := fun j l hl => by
  obtain ⟨b, off, h1, h2, h3, h4⟩ := h j l hl
  exact ⟨b, off, h1, Nat.lt_of_lt_of_le h2 hx.size, (hx.cell0.1 b _ h2).trans h3, (hx.cell0.1 b _ h2).trans h4⟩
end Go.Proofs.YtcbiidoebpkifaaGreatDoor.G

/- The statements' own labels: names of some, values that are short. -/
namespace Go.Proofs.YtcbiidoebpkifaaGreatDoor.G
open Go.RowKit

end Go.Proofs.YtcbiidoebpkifaaGreatDoor.G

/- The statements' own rules: each pattern is one of some. -/
namespace Go.Proofs.YtcbiidoebpkifaaGreatDoor.G
open Go.RowKit

def pats : List ByteArray := [⟨#[]⟩, ⟨#[46, 42]⟩, ⟨#[40, 46, 42, 41]⟩, ⟨#[97, 46, 42]⟩, ⟨#[40, 46, 41, 40, 46, 42, 41]⟩, ⟨#[40, 63, 80, 60, 120, 62, 91, 97, 45, 122, 93, 43, 41, 40, 92, 100, 42, 41]⟩, ⟨#[97, 124, 98]⟩, ⟨#[46, 43, 59, 46, 43]⟩, ⟨#[40, 97, 42, 63, 41, 40, 46, 42, 41]⟩, ⟨#[91, 94, 59, 93, 42]⟩, ⟨#[40, 63, 105, 41, 106, 111, 98]⟩, ⟨#[49, 63, 50, 63]⟩]
def texts : List ByteArray := [⟨#[]⟩, ⟨#[36, 49]⟩, ⟨#[36, 48]⟩, ⟨#[120, 36, 50, 121]⟩, ⟨#[36, 123, 120, 125]⟩, ⟨#[110, 101, 119]⟩, ⟨#[36, 36]⟩, ⟨#[36, 49, 36, 49]⟩, ⟨#[36, 123, 49, 125, 95, 36, 123, 50, 125]⟩, ⟨#[106, 111, 98]⟩]

end Go.Proofs.YtcbiidoebpkifaaGreatDoor.G

/- The pattern (.*) matches every text, and its group is the whole of it; so $1 stands for it. -/
namespace Go.Proofs.YtcbiidoebpkifaaGreatDoor.G

def z0 : List Int := [0, -1, -1, -1, -1, -1, -1, -1, -1, -1]
theorem ext_all (s : ByteArray) : s.extract 0 s.size = s := by
  apply ByteArray.ext
  apply Array.toList_inj.1
  rw [Lib.extract_data, List.drop_zero, Nat.sub_zero]
  rw [List.take_of_length_le (by rw [len_list]; exact Nat.le_refl _)]
theorem ext_none (s : ByteArray) : s.extract s.size s.size = ⟨#[]⟩ := by
  apply ByteArray.ext
  exact Array.eq_empty_of_size_eq_zero (by show (s.extract s.size s.size).size = 0; rw [Go.Proofs.YtcbiidoebpkifaaGreatDoor.G.size_extract s s.size s.size (Nat.le_refl _)]; omega)
end Go.Proofs.YtcbiidoebpkifaaGreatDoor.G
