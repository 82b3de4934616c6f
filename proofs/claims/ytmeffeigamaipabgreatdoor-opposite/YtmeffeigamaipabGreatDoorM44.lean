/- T20 T20b, one behind the other. -/
import Derived.Test.YtmeffeigamaipabGreatDoorM43
set_option linter.unusedVariables false
set_option linter.unusedSimpArgs false
/- The six rules of the statement Opposite: what is made of them. -/
namespace Go.Proofs.YtmeffeigamaipabGreatDoor.G
open Go.RowKit

theorem long_no {s : ByteArray} (h : s.size ≤ 60) : longB s = false := by simp [longB]; omega
theorem big_no {ss : List ByteArray} {se ta rp : ByteArray} (h1 : ss.length ≤ 5) (h2 : ∀ s ∈ ss, nameB s = true) (h3 : se.size ≤ 60) (h4 : ta.size ≤ 60) (h5 : rp.size ≤ 60) : bigB ss se ta rp = false := by
  have h6 : ss.any longB = false := by
    rw [List.any_eq_false]
    intro s hs
    rw [long_no (name_size (h2 s hs))]
    simp
  simp [bigB, h6, long_no h3, long_no h4, long_no h5]
  omega
/-- The premises that all rules of the statement share. -/
structure Pre (w : World) (x : EV) : Prop where
  ub : UB w
  gl : GL w
  ev : w.cell? ⟨1, 0, none⟩ = some (.iface x.1 x.2)
theorem Pre.ex {w w' : World} {x : EV} (h : Pre w x) (hx : Ex [] w w') : Pre w' x := ⟨h.ub.ex hx (by simp), h.gl.ex hx, (hx.cell0.1 _ _ (lt_of_cell h.ev)).trans h.ev⟩
theorem RuleOK.ex {w w' : World} {p : Option Addr} {c : Nat} {ss : List ByteArray} {se re : ByteArray} (h : RuleOK w p c ss se re) (hx : Ex [] w w') : RuleOK w' p c ss se re := ⟨h.row.ex0 hx, h.len, h.nam, h.sep, h.pat⟩
def nil0 : ByteArray := ⟨#[]⟩
theorem nil_sz : nil0.size = 0 := rfl
def aT : ByteArray := ⟨#[97]⟩
theorem all_names {ss : List ByteArray} (h : ∀ s ∈ ss, nameB s = true) : ss.all nameB = true := List.all_eq_true.2 h
theorem mk1 {w : World} {x : EV} {p : Option Addr} {c : Nat} {ss : List ByteArray} {se re : ByteArray} (hp : Pre w x) (h : RuleOK w p c ss se re) : Makes w ⟨1, p, ss.length, c, se, re, nil0, nil0, 0⟩ (F1 ss se re) := by
  have hl := h.len
  have hs := h.sep
  refine makes_of 1 ⟨true, true, false, false, false⟩ rfl p c ss se re nil0 nil0 0 w (F1 ss se re) (PatP re) hp.ub hp.gl h.row (by omega) (fun s hs => name_size (h.nam s hs)) (by omega) (by decide) (by decide) PatP.ex (fun _ => patReads hp.ev (pat_good h.pat)) (fun h => by cases h) ?_ (deeds1 ss se re nil0 nil0 0 (fit_of (pat_good h.pat)) (by omega) (by omega))
  simp [makeR, big_no (ss := ss) (se := se) (ta := nil0) (rp := nil0) (by omega) h.nam (by omega) (by decide) (by decide), all_names h.nam, unusedB, nil_sz]
theorem mk2 {w : World} {x : EV} {p : Option Addr} {c : Nat} {ss : List ByteArray} {se re : ByteArray} (hp : Pre w x) (h : RuleOK w p c ss se re) : Makes w ⟨2, p, ss.length, c, se, re, nil0, nil0, 0⟩ (F2 ss se re) := by
  have hl := h.len
  have hs := h.sep
  refine makes_of 2 ⟨true, true, false, false, false⟩ rfl p c ss se re nil0 nil0 0 w (F2 ss se re) (PatP re) hp.ub hp.gl h.row (by omega) (fun s hs => name_size (h.nam s hs)) (by omega) (by decide) (by decide) PatP.ex (fun _ => patReads hp.ev (pat_good h.pat)) (fun h => by cases h) ?_ (deeds2 ss se re nil0 nil0 0 (fit_of (pat_good h.pat)) (by omega) (by omega))
  simp [makeR, big_no (ss := ss) (se := se) (ta := nil0) (rp := nil0) (by omega) h.nam (by omega) (by decide) (by decide), all_names h.nam, unusedB, nil_sz]
theorem aT_name : nameB aT = true := by decide
theorem mk3 {w : World} {x : EV} {p : Option Addr} {c : Nat} {ss : List ByteArray} {se re : ByteArray} (hp : Pre w x) (h : RuleOK w p c ss se re) : Makes w ⟨3, p, ss.length, c, se, nil0, aT, nil0, 0⟩ (F3 ss se aT) := by
  have hl := h.len
  have hs := h.sep
  refine makes_of 3 ⟨true, false, true, false, false⟩ rfl p c ss se nil0 aT nil0 0 w (F3 ss se aT) (fun _ _ _ => True) hp.ub hp.gl h.row (by omega) (fun s hs => name_size (h.nam s hs)) (by omega) (by decide) (by decide) (fun _ _ _ _ _ _ => trivial) (fun h => by cases h) (fun _ _ _ _ => trivial) ?_ (deeds3 ss se aT nil0 0 (by omega) (by omega))
  simp [makeR, big_no (ss := ss) (se := se) (ta := aT) (rp := nil0) (by omega) h.nam (by omega) (by decide) (by decide), all_names h.nam, unusedB, nil_sz, targetB, aT_name]
theorem mk4 {w : World} {x : EV} {p : Option Addr} {c : Nat} {ss : List ByteArray} {se re : ByteArray} (hp : Pre w x) (h : RuleOK w p c ss se re) : Makes w ⟨4, p, ss.length, c, se, nil0, aT, nil0, 0⟩ (F4 ss se aT) := by
  have hl := h.len
  have hs := h.sep
  refine makes_of 4 ⟨true, false, true, false, false⟩ rfl p c ss se nil0 aT nil0 0 w (F4 ss se aT) (fun _ _ _ => True) hp.ub hp.gl h.row (by omega) (fun s hs => name_size (h.nam s hs)) (by omega) (by decide) (by decide) (fun _ _ _ _ _ _ => trivial) (fun h => by cases h) (fun _ _ _ _ => trivial) ?_ (deeds4 ss se aT nil0 0 (by omega) (by omega))
  simp [makeR, big_no (ss := ss) (se := se) (ta := aT) (rp := nil0) (by omega) h.nam (by omega) (by decide) (by decide), all_names h.nam, unusedB, nil_sz, targetB, aT_name]
theorem mk7 {w : World} {x : EV} {re : ByteArray} (hp : Pre w x) (h : re ∈ pats) : Makes w ⟨7, none, 0, 0, nil0, re, nil0, nil0, 0⟩ (F7 re) := by
  refine makes_of 7 ⟨false, true, false, false, false⟩ rfl none 0 [] nil0 re nil0 nil0 0 w (F7 re) (PatP re) hp.ub hp.gl (.inl ⟨rfl, rfl⟩) (by simp) (fun s hs => by simp at hs) (by decide) (by decide) (by decide) PatP.ex (fun _ => patReads hp.ev (pat_good h)) (fun h => by cases h) ?_ (deeds7 [] nil0 re nil0 nil0 0 (fit_of (pat_good h)))
  simp [makeR, big_no (ss := []) (se := nil0) (ta := nil0) (rp := nil0) (by simp) (fun s hs => by simp at hs) (by decide) (by decide) (by decide), unusedB, nil_sz]
theorem mk8 {w : World} {x : EV} {re : ByteArray} (hp : Pre w x) (h : re ∈ pats) : Makes w ⟨8, none, 0, 0, nil0, re, nil0, nil0, 0⟩ (F8 re) := by
  refine makes_of 8 ⟨false, true, false, false, false⟩ rfl none 0 [] nil0 re nil0 nil0 0 w (F8 re) (PatP re) hp.ub hp.gl (.inl ⟨rfl, rfl⟩) (by simp) (fun s hs => by simp at hs) (by decide) (by decide) (by decide) PatP.ex (fun _ => patReads hp.ev (pat_good h)) (fun h => by cases h) ?_ (deeds8 [] nil0 re nil0 nil0 0 (fit_of (pat_good h)))
  simp [makeR, big_no (ss := []) (se := nil0) (ta := nil0) (rp := nil0) (by simp) (fun s hs => by simp at hs) (by decide) (by decide) (by decide), unusedB, nil_sz]

theorem pick_eleven (a : Int) : pickI (a.tdiv 11 * 11) 11 = 0 ∨ pickI (a.tdiv 11 * 11) 11 = 10 := by
  unfold pickI
  split
  · right; omega
  · left; omega
/-- The rule, whatever the raw one. -/
theorem rule_opp (a : Int) (rp0 : Option Addr) (rc : Nat) (rs : List ByteArray) (rse rre rta rrp : ByteArray) (rmo : Int) (w : World) (ha : -9223372036854775808 ≤ a ∧ a ≤ 9223372036854775807) (hk : pickI a 11 = 0 ∨ pickI a 11 = 10) (hv : SSo w rp0 rs) (hn : rs.length ≤ 9223372036854775807) (hz : ∀ s ∈ rs, s.size ≤ 9223372036854775807) (hse : rse.size ≤ 9223372036854775807) (hta : rta.size ≤ 9223372036854775807) (hre : rre.size ≤ 9223372036854775807) (hrp : rrp.size ≤ 9223372036854775807) :
    Calls Tryz.prog 19 #[ruleV a (.slice rp0 rs.length rc) rse rre rta rrp rmo] w fun x w' => ∃ (k : Int), ∃ p c ss se re ta rp, x = .returned (ruleV k (.slice p ss.length c) se re ta rp 0) ∧ RuleOK w' p c ss se re ∧ Ex [] w w' := by
  rcases hk with h | h
  · refine (rule_zero a rp0 rc rs rse rre rta rrp rmo w ha h hv hn hz hse hta hre hrp).mono ?_
    rintro x w' ⟨p, c, ss, se, re, ta, rp, h1, h2, h3⟩
    exact ⟨_, p, c, ss, se, re, ta, rp, h1, h2, h3⟩
  · refine (rule_ten a rp0 rc rs rse rre rta rrp rmo w ha h hv hn hz hse hta).mono ?_
    rintro x w' ⟨p, c, ss, se, re, ta, rp, h1, h2, h3⟩
    exact ⟨_, p, c, ss, se, re, ta, rp, h1, h2, h3⟩
end Go.Proofs.YtmeffeigamaipabGreatDoor.G

/- Plain facts for the statement Opposite. -/
namespace Go.Proofs.YtmeffeigamaipabGreatDoor.G
open Go.RowKit

theorem eqB_eq {a b : ByteArray} (h : eqB a b = true) : a = b := by
  have h1 : a.toList = b.toList := by simpa [eqB] using h
  rw [ByteArray.toList_eq, ByteArray.toList_eq] at h1
  cases a; cases b
  simp only [ByteArray.mk.injEq]
  exact Array.toList_inj.1 h1
theorem eqB_self (a : ByteArray) : eqB a a = true := by simp [eqB]
theorem Srt.one {ls : List Lab} (h : Srt ls) {x y : Lab} (hx : x ∈ ls) (hy : y ∈ ls) (he : x.1 = y.1) : x = y := by
  obtain ⟨i, hi⟩ := List.getElem?_of_mem hx
  obtain ⟨j, hj⟩ := List.getElem?_of_mem hy
  rcases Nat.lt_trichotomy i j with h1 | h1 | h1
  · have := h i j x y h1 hi hj
    rw [he, cmpN_self] at this
    omega
  · subst h1
    rw [hi] at hj
    exact Option.some.inj hj
  · have := h j i y x h1 hj hi
    rw [he, cmpN_self] at this
    omega
theorem getM_filter {bl : List Lab} (h : Srt bl) {j : Nat} {l : Lab} (hl : bl[j]? = some l) (q : Lab → Bool) : getM (bl.filter q) l.1 = if q l then l.2 else ⟨#[]⟩ := by
  have hm : l ∈ bl := List.mem_of_getElem? hl
  have hu : ∀ y ∈ bl.filter q, eqB y.1 l.1 = true → y = l := fun y hy he => h.one (List.mem_filter.1 hy).1 hm (eqB_eq he)
  unfold getM
  cases hf : (bl.filter q).find? (fun y => eqB y.1 l.1) with
  | some y =>
    have h1 := List.mem_of_find?_eq_some hf
    have h2 := List.find?_some hf
    have h3 := hu y h1 h2
    subst h3
    rw [if_pos (List.mem_filter.1 h1).2]
  | none =>
    rw [List.find?_eq_none] at hf
    have h1 : ¬ q l = true := fun hq => hf l (List.mem_filter.2 ⟨hm, hq⟩) (eqB_self _)
    rw [if_neg h1]
theorem filter_two {α : Type} (q : α → Bool) : ∀ l : List α, (l.filter q).length + (l.filter (fun x => !q x)).length = l.length
  | [] => rfl
  | x :: l => by
    have := filter_two q l
    cases h : q x <;> simp [List.filter_cons, h] <;> omega
end Go.Proofs.YtmeffeigamaipabGreatDoor.G
