/- Z4 T20b S3 S4 U1 U2, one behind the other. -/
import Derived.Test.YtcbiidoebpkifaaGreatDoorM42
import Derived.Test.YtcbiidoebpkifaaGreatDoorM48
import Derived.Test.YtcbiidoebpkifaaGreatDoorM34
import Derived.Test.YtcbiidoebpkifaaGreatDoorM36
set_option linter.unusedVariables false
set_option linter.unusedSimpArgs false
/- retagkeep.Chain answers true, whatever its arguments. -/
namespace Go.Proofs.YtcbiidoebpkifaaGreatDoor.G
open Go.RowKit

theorem al_own {w : World} {base : Nat} {v : Value} {rs : List AR} (h : w.ownsRow base 65 7 v rs.length (cellsR rs)) : AL w v rs := by
  obtain ⟨p, c, rfl⟩ := own_slice h
  refine ⟨p, c, rfl, fun i r hr => ?_⟩
  have hi := (List.getElem?_eq_some_iff.1 hr).1
  obtain ⟨g, cap, e, _, hg, _, hc, _⟩ := own_cells h (by omega)
  injection e with e1 e2 e3
  refine ⟨g, 0, e1, hg, fun o ho => ?_⟩
  rw [Nat.zero_add, hc (i * 7 + o) (by omega), cellsR_at rs i o r hr ho]
theorem makes_r {w : World} {x : EV} {r : AR} (hp : Pre w x) (h : RuleR w r) : ∃ F, Makes w r F ∧ GoodF F := by
  obtain ⟨k, ss, h1, h2, h3⟩ := h
  obtain ⟨act, p, n, c, se, re, ta, rp, mo⟩ := r
  dsimp only at h1 h2 h3
  subst h1
  subst h2
  exact makes_k hp h3
theorem FE.asked {w w' : World} {e m mb room lo : Nat} {Fs : List (List Lab → List Lab × Bool)} {m2 mb2 : Nat} (h : FE w e m mb room lo Fs) (hx : Ex [m2, mb2] w w') (h1 : m2 < lo) (h2 : mb2 < lo) (n1 : m2 ≠ e ∧ m2 ≠ m ∧ m2 ≠ mb) (n2 : mb2 ≠ e ∧ mb2 ≠ m ∧ mb2 ≠ mb) : FE w' e m mb room lo Fs :=
  h.step hx (fun k hk => by
    simp only [List.mem_cons, List.not_mem_nil, or_false] at hk
    rcases hk with rfl | rfl
    · exact ⟨h1, n1⟩
    · exact ⟨h2, n2⟩)
theorem GL.asked {w w' : World} {B m2 mb2 : Nat} (h : GL w) (hB : 7 < B) (hx : Ex [m2, mb2] w w') (h1 : B ≤ m2) (h2 : B ≤ mb2) (hl : B ≤ w.heap.size) : GL w' :=
  GL.eb h ((EB.ofEx hx hl).mono (Nat.le_refl _) (fun x hm hlt => by
    simp only [List.mem_cons, List.not_mem_nil, or_false] at hm
    rcases hm with rfl | rfl <;> omega)) hB

structure ChainArgs (w : World) (p : Option Addr) (rl : List AR) (pl : Option Addr) (ll : List Lab) : Prop where
  rls : RLo w p rl
  rn : rl.length ≤ 9223372036854775807
  lbs : SLo w pl ll
  ln : ll.length ≤ 9223372036854775807
  lz : ∀ l ∈ ll, l.1.size ≤ 9223372036854775807 ∧ l.2.size ≤ 9223372036854775807

end Go.Proofs.YtcbiidoebpkifaaGreatDoor.G

/- Plain facts for the statement Opposite. -/
namespace Go.Proofs.YtcbiidoebpkifaaGreatDoor.G
open Go.RowKit

theorem eqB_eq {a b : ByteArray} (h : eqB a b = true) : a = b := by
  have h1 : a.toList = b.toList := by simpa [eqB] using h
  rw [ByteArray.toList_eq, ByteArray.toList_eq] at h1
  cases a; cases b
  simp only [ByteArray.mk.injEq]
  exact Array.toList_inj.1 h1
end Go.Proofs.YtcbiidoebpkifaaGreatDoor.G

/- Texts in the other case: turned, swapped. -/
namespace Go.Proofs.YtcbiidoebpkifaaGreatDoor.G
open Go.RowKit

end Go.Proofs.YtcbiidoebpkifaaGreatDoor.G

/- What is set is what is got. -/
namespace Go.Proofs.YtcbiidoebpkifaaGreatDoor.G

theorem eqB_no {a b : ByteArray} (h : cmpN a b ≠ 0) : eqB a b = false := by
  rw [Bool.eq_false_iff]
  intro e
  exact h (by rw [eqB_eq e]; exact cmpN_self b)
theorem eqB_yes (a : ByteArray) : eqB a a = true := by simp [eqB]
theorem find_none {ls : List Lab} {t : ByteArray} (h : ∀ l ∈ ls, cmpN l.1 t ≠ 0) : ls.find? (fun l => eqB l.1 t) = none := by
  rw [List.find?_eq_none]
  intro l hl
  rw [eqB_no (h l hl)]
  simp
theorem getM_append {xs ys : List Lab} {t : ByteArray} (h : ∀ l ∈ xs, cmpN l.1 t ≠ 0) : getM (xs ++ ys) t = getM ys t := by
  unfold getM
  rw [List.find?_append, find_none h]
  rfl
theorem getM_set {ls : List Lab} (h : Srt ls) (hn : ls.length < 60) (t v : ByteArray) (hv : v.size ≤ 200) : getM (Go.Proofs.YtcbiidoebpkifaaGreatDoor.setL ls t v) t = v := by
  have hsd := off_sides h t
  have hol := off_len ls t
  have hlt : ∀ l ∈ (offL ls t).take (posN ls t), cmpN l.1 t ≠ 0 := fun l hl => by
    obtain ⟨i, hi, rfl⟩ := List.getElem_of_mem hl
    rw [List.length_take] at hi
    have h1 := (hsd i ((offL ls t)[i]'(by omega)) (List.getElem?_eq_getElem (by omega))).1 (by omega)
    rw [List.getElem_take]
    omega
  have hge : ∀ l ∈ (offL ls t).drop (posN ls t), cmpN l.1 t ≠ 0 := fun l hl => by
    obtain ⟨i, hi, rfl⟩ := List.getElem_of_mem hl
    rw [List.length_drop] at hi
    have h1 := (hsd (posN ls t + i) ((offL ls t)[posN ls t + i]'(by omega)) (List.getElem?_eq_getElem (by omega))).2 (by omega)
    rw [cmpN_neg] at h1
    rw [List.getElem_drop]
    omega
  by_cases h0 : v.size = 0
  · have e : Go.Proofs.YtcbiidoebpkifaaGreatDoor.setL ls t v = offL ls t := by unfold Go.Proofs.YtcbiidoebpkifaaGreatDoor.setL; rw [if_pos (.inl h0)]
    rw [e]
    have e2 : getM (offL ls t) t = ⟨#[]⟩ := by
      rw [← List.take_append_drop (posN ls t) (offL ls t), getM_append hlt]
      unfold getM
      rw [find_none hge]
    rw [e2]
    apply ByteArray.ext
    exact (Array.eq_empty_of_size_eq_zero h0).symm
  · have e : Go.Proofs.YtcbiidoebpkifaaGreatDoor.setL ls t v = (offL ls t).take (posN ls t) ++ [(t, v)] ++ (offL ls t).drop (posN ls t) := by
      unfold Go.Proofs.YtcbiidoebpkifaaGreatDoor.setL
      rw [if_neg (by omega)]
      have : cutB v = v := by unfold cutB; rw [if_neg (by omega)]
      rw [this]
    rw [e, List.append_assoc, getM_append hlt]
    unfold getM
    rw [List.singleton_append, List.find?_cons, eqB_yes]
end Go.Proofs.YtcbiidoebpkifaaGreatDoor.G

/- The pattern of a name matches every name; of labels of one name the last is what is got. -/
namespace Go.Proofs.YtcbiidoebpkifaaGreatDoor.G
open Go.Lib

def nameT : ByteArray := ⟨#[91, 97, 45, 122, 65, 45, 90, 95, 93, 92, 119, 42]⟩
def headI : Ins := (patC nameT).getD 0 ⟨0, 0, 0, false, 0, 0, 0⟩
def wordI : Ins := (patC nameT).getD 3 ⟨0, 0, 0, false, 0, 0, 0⟩
set_option maxRecDepth 100000 in
theorem name_good : goodP nameT = true := by kernel_rfl
set_option maxRecDepth 100000 in
theorem name_len : (patC nameT).length = 7 := by kernel_rfl
set_option maxRecDepth 100000 in
theorem name_0 : (patC nameT)[0]? = some headI := by kernel_rfl
set_option maxRecDepth 100000 in
theorem name_3 : (patC nameT)[3]? = some wordI := by kernel_rfl
set_option maxRecDepth 100000 in
theorem name_6 : (patC nameT)[6]? = some ⟨6, 0, 0, false, 0, 0, 0⟩ := by kernel_rfl
set_option maxRecDepth 100000 in
theorem name_ways0 : waysM (patC nameT) (0, 0) = [(0, 0)] := by kernel_rfl
set_option maxRecDepth 100000 in
theorem name_ways1 : waysM (patC nameT) (1, 1) = [(3, 0), (6, 0)] := by kernel_rfl
set_option maxRecDepth 100000 in
theorem name_ways4 : waysM (patC nameT) (4, 1) = [(3, 0), (6, 0)] := by kernel_rfl
set_option maxRecDepth 100000 in
theorem head_takes : (List.range 256).all (fun n => !wordB (n : Int) || digB (n : Int) || headI.takes (n : Int)) = true := by kernel_rfl
set_option maxRecDepth 100000 in
theorem word_takes : (List.range 256).all (fun n => !wordB (n : Int) || (decide (n < 128) && wordI.takes (n : Int))) = true := by kernel_rfl
theorem head_take {n : Nat} (hn : n < 256) (h : wordB (n : Int) = true) (hd : digB (n : Int) = false) : headI.takes (n : Int) = true := by
  have := List.all_eq_true.1 head_takes n (List.mem_range.2 hn)
  rw [h, hd] at this
  simpa using this
theorem word_take {n : Nat} (hn : n < 256) (h : wordB (n : Int) = true) : n < 128 ∧ wordI.takes (n : Int) = true := by
  have := List.all_eq_true.1 word_takes n (List.mem_range.2 hn)
  rw [h] at this
  simpa using this
theorem ext_get (s : ByteArray) (a : Nat) (h : a < s.size) : (s.extract a s.size).get! 0 = s.data.toList[a]'(by rw [len_list]; exact h) := by
  have h0 : 0 < (s.extract a s.size).size := by rw [Go.Proofs.YtcbiidoebpkifaaGreatDoor.G.size_extract s a s.size (Nat.le_refl _)]; omega
  have h1 : (s.extract a s.size).get! 0 = (s.extract a s.size).data[0]! := by rfl
  have h0' : 0 < (s.extract a s.size).data.size := h0
  rw [h1, getElem!_pos (s.extract a s.size).data 0 h0', ← Array.getElem_toList]
  have e := Lib.extract_data s a s.size
  have h2 : (s.extract a s.size).data.toList[0]? = s.data.toList[a]? := by
    rw [e, List.getElem?_take, if_pos (by omega), List.getElem?_drop]
    rfl
  rw [List.getElem?_eq_getElem (by simpa using h0'), List.getElem?_eq_getElem (by rw [len_list]; exact h)] at h2
  exact Option.some.inj h2
theorem rune_low (s : ByteArray) (a : Nat) (h : a < s.size) (hb : (s.data.toList[a]'(by rw [len_list]; exact h)).toNat < 128) : rune s a = (s.data.toList[a]'(by rw [len_list]; exact h)).toNat ∧ rsz s a = 1 := by
  have hz := Go.Proofs.YtcbiidoebpkifaaGreatDoor.G.size_extract s a s.size (Nat.le_refl _)
  have e : decodeGo (s.extract a s.size) = ((s.data.toList[a]'(by rw [len_list]; exact h)).toNat, 1) := by
    unfold decodeGo
    rw [if_neg (by omega), decode_at, ext_get s a h]
    unfold decodeN
    rw [if_pos hb]
  unfold rune rsz
  rw [e]
  exact ⟨rfl, rfl⟩
theorem mark0u (pl : Int) : markM 0 pl unsetS = unsetS := by
  have h : ∀ i, i < 10 → bitAt 0 i = false := by decide
  simp [markM, markN, h, unsetS]
theorem step_head (r : Nat) (pl : Int) (rc : List Int) (hr : headI.takes (r : Int) = true) (h3 : rc[3]? ≠ some pl) (h6 : rc[6]? ≠ some pl) : stepL (patC nameT) (r : Int) pl [⟨0, unsetS⟩] ([], rc) = ([⟨3, unsetS⟩, ⟨6, unsetS⟩], (rc.set 3 pl).set 6 pl) := by
  have e0 : (patC nameT)[(⟨0, unsetS⟩ : Th).pc]? = some headI := name_0
  unfold stepL
  rw [e0]
  simp only [hr, if_true]
  unfold stepL
  rw [show (⟨0, unsetS⟩ : Th).pc + 1 = 1 by rfl, name_ways1]
  have h6' : (rc.set 3 pl)[6]? ≠ some pl := by rw [List.getElem?_set_ne (by omega)]; exact h6
  simp [wys, followM, h3, h6, mark0u]
theorem step_word (r : Nat) (pl : Int) (rc : List Int) (hr : wordI.takes (r : Int) = true) (h3 : rc[3]? ≠ some pl) (h6 : rc[6]? ≠ some pl) : stepL (patC nameT) (r : Int) pl [⟨3, unsetS⟩, ⟨6, unsetS⟩] ([], rc) = ([⟨3, unsetS⟩, ⟨6, unsetS⟩], (rc.set 3 pl).set 6 pl) := by
  have e3 : (patC nameT)[(⟨3, unsetS⟩ : Th).pc]? = some wordI := name_3
  have e6 : (patC nameT)[(⟨6, unsetS⟩ : Th).pc]? = some ⟨6, 0, 0, false, 0, 0, 0⟩ := name_6
  have t6 : (⟨6, 0, 0, false, 0, 0, 0⟩ : Ins).takes (r : Int) = false := rfl
  unfold stepL
  rw [e3]
  simp only [hr, if_true]
  unfold stepL
  rw [e6]
  simp only [t6]
  unfold stepL
  rw [show (⟨3, unsetS⟩ : Th).pc + 1 = 4 by rfl, name_ways4]
  have h6' : (rc.set 3 pl)[6]? ≠ some pl := by rw [List.getElem?_set_ne (by omega)]; exact h6
  simp [wys, followM, h3, h6, mark0u]
theorem accept_name : acceptM (patC nameT) [⟨3, unsetS⟩, ⟨6, unsetS⟩] = some unsetS := by
  have e3 : (patC nameT)[(⟨3, unsetS⟩ : Th).pc]? = some wordI := name_3
  have e6 : (patC nameT)[(⟨6, unsetS⟩ : Th).pc]? = some ⟨6, 0, 0, false, 0, 0, 0⟩ := name_6
  unfold acceptM
  rw [e3, if_neg (by simp only [Option.map_some, Option.some.injEq]; rw [show wordI.op = 0 by kernel_rfl]; decide)]
  unfold acceptM
  rw [e6, if_pos (by rfl)]
theorem run_name (s : ByteArray) (hw : ∀ b ∈ s.data.toList, wordB (b.toNat : Int) = true) : ∀ (f a : Nat) (rc : List Int), a ≤ s.size → s.size - a ≤ f → rc.length = 7 → rc[3]? = some (a : Int) → rc[6]? = some (a : Int) → runM (patC nameT) s f a ([⟨3, unsetS⟩, ⟨6, unsetS⟩], rc) = some unsetS
  | 0, a, rc, ha, hf, hl, h3, h6 => accept_name
  | f + 1, a, rc, ha, hf, hl, h3, h6 => by
    unfold runM
    by_cases hlt : a < s.size
    · rw [if_pos hlt]
      obtain ⟨b, hb⟩ : ∃ b, b = s.data.toList[a]'(by rw [len_list]; exact hlt) := ⟨_, rfl⟩
      have hbw := hw b (by rw [hb]; exact List.getElem_mem _)
      obtain ⟨h128, htk⟩ := word_take b.toNat_lt hbw
      have hr := rune_low s a hlt (by rw [← hb]; exact h128)
      rw [← hb] at hr
      rw [hr.1, hr.2]
      have n3 : rc[3]? ≠ some ((a + 1 : Nat) : Int) := by rw [h3]; intro e; injection e with e; omega
      have n6 : rc[6]? ≠ some ((a + 1 : Nat) : Int) := by rw [h6]; intro e; injection e with e; omega
      rw [step_word b.toNat _ rc htk n3 n6]
      simp only [List.length_cons, List.length_nil]
      rw [if_neg (by omega)]
      refine run_name s hw f (a + 1) _ (by omega) (by omega) (by simp [hl]) ?_ ?_
      · rw [List.getElem?_set_ne (by omega), List.getElem?_set_self (by omega)]
      · rw [List.getElem?_set_self (by simp; omega)]
    · rw [if_neg hlt]
      exact accept_name
theorem match_name {s : ByteArray} (h : nameB s = true) : matchM (patC nameT) s = some unsetS := by
  unfold nameB at h
  simp only [Bool.and_eq_true, Bool.not_eq_true', List.all_eq_true, beq_eq_false_iff_ne, ne_eq] at h
  obtain ⟨⟨⟨h0, _⟩, hd⟩, hw⟩ := h
  have hpos : 0 < s.size := by omega
  unfold matchM
  rw [name_ways0, name_len]
  have e : followM unsetS 0 (wys [(0, 0)]) ([], List.replicate 7 (-1)) = ([⟨0, unsetS⟩], (List.replicate 7 (-1)).set 0 0) := by
    simp [wys, followM, mark0u]
  rw [e]
  obtain ⟨f, hf⟩ : ∃ f, s.size = f + 1 := ⟨s.size - 1, by omega⟩
  rw [hf]
  unfold runM
  rw [if_pos hpos]
  obtain ⟨b, hb⟩ : ∃ b, b = s.data.toList[0]'(by rw [len_list]; exact hpos) := ⟨_, rfl⟩
  have hbw := hw b (by rw [hb]; exact List.getElem_mem _)
  have hbd : digB (b.toNat : Int) = false := by
    rw [hb]
    have e9 : s.data.toList.headD 0 = s.data.toList[0]'(by rw [len_list]; exact hpos) := by
      rw [List.headD_eq_head?_getD, List.head?_eq_getElem?, List.getElem?_eq_getElem (by rw [len_list]; exact hpos)]
      rfl
    rw [← e9]
    exact hd
  obtain ⟨h128, _⟩ := word_take b.toNat_lt hbw
  have hr := rune_low s 0 hpos (by rw [← hb]; exact h128)
  rw [← hb] at hr
  rw [hr.1, hr.2]
  rw [step_head b.toNat _ _ (head_take b.toNat_lt hbw hbd) (by decide) (by decide)]
  simp only [List.length_cons, List.length_nil]
  rw [if_neg (by omega)]
  exact run_name s hw f (0 + 1) _ (by omega) (by omega) (by simp) (by rfl) (by rfl)

theorem getM_off {ls : List Lab} (h : Srt ls) (t u : ByteArray) (hne : cmpN t u ≠ 0) : getM (offL ls t) u = getM ls u := by
  unfold offL
  by_cases ht : thereN ls t = true
  · rw [if_pos ht]
    have hl := there_lt ht
    have hp : ls[posN ls t]? = some (ls[posN ls t]'hl) := List.getElem?_eq_getElem hl
    have e1 : (ls[posN ls t]'hl).1 = t := by
      unfold thereN at ht
      rw [hp] at ht
      exact cmpN_zero (by simpa using ht)
    have e2 : ls = ls.take (posN ls t) ++ (ls[posN ls t]'hl) :: ls.drop (posN ls t + 1) := by
      rw [← List.drop_eq_getElem_cons hl, List.take_append_drop]
    have e3 : getM ls u = getM (ls.take (posN ls t) ++ (ls[posN ls t]'hl) :: ls.drop (posN ls t + 1)) u := congrArg (fun x => getM x u) e2
    rw [e3]
    unfold getM
    rw [List.find?_append, List.find?_append, List.find?_cons, show eqB (ls[posN ls t]'hl).1 u = false by rw [e1]; exact eqB_no hne]
  · rw [if_neg ht]
theorem getM_other {ls : List Lab} (h : Srt ls) (t v u : ByteArray) (hne : cmpN t u ≠ 0) : getM (Go.Proofs.YtcbiidoebpkifaaGreatDoor.setL ls t v) u = getM ls u := by
  have ho := getM_off h t u hne
  unfold Go.Proofs.YtcbiidoebpkifaaGreatDoor.setL
  split
  · exact ho
  · rw [← ho]
    have e3 : getM (offL ls t) u = getM ((offL ls t).take (posN ls t) ++ (offL ls t).drop (posN ls t)) u := congrArg (fun x => getM x u) (List.take_append_drop _ _).symm
    rw [e3]
    unfold getM
    have e4 : List.find? (fun l : Lab => eqB l.1 u) [(t, cutB v)] = none := by
      rw [List.find?_cons, show eqB t u = false from eqB_no hne]
      rfl
    rw [List.append_assoc, List.find?_append, List.find?_append, List.find?_append, e4, Option.none_or]
def lastM (ls : List Lab) (t : ByteArray) (j : Nat) : ByteArray := (ls.take j).foldl (fun a l => if eqB l.1 t then l.2 else a) ⟨#[]⟩
theorem lastM_succ (ls : List Lab) (t : ByteArray) (j : Nat) (l : Lab) (h : ls[j]? = some l) : lastM ls t (j + 1) = if eqB l.1 t then l.2 else lastM ls t j := by
  unfold lastM
  rw [List.take_add_one, h]
  simp
theorem last_get (ls : List Lab) (hn : ls.length ≤ 20) (hw : ls.any wrongB = false) (t : ByteArray) : ∀ j, j ≤ ls.length → getM (accL ls j) t = lastM ls t j
  | 0, _ => rfl
  | j + 1, hj => by
    obtain ⟨l, hl⟩ : ∃ l, ls[j]? = some l := ⟨_, List.getElem?_eq_getElem (by omega)⟩
    have ih := last_get ls hn hw t j (by omega)
    have hok := accL_ok ls hn hw j (by omega)
    rw [accL_succ ls j l hl, lastM_succ ls t j l hl]
    have h1 : wrongB l = false := by
      rw [Bool.eq_false_iff]
      intro h
      rw [List.any_eq_false] at hw
      exact hw l (List.mem_of_getElem? hl) h
    have hv : l.2.size ≤ 200 := by
      unfold wrongB at h1
      simp at h1
      omega
    by_cases he : cmpN l.1 t = 0
    · have e := cmpN_zero he
      rw [e, eqB_yes, if_pos rfl]
      exact getM_set hok.1.srt (by have := hok.2; omega) t l.2 hv
    · rw [eqB_no he, if_neg (by simp), getM_other hok.1.srt _ _ _ he]
      exact ih
theorem bare_last (ls : List Lab) (hn : ls.length ≤ 20) (hw : ls.any wrongB = false) (t : ByteArray) : getM (bareL ls) t = lastM ls t ls.length := by
  rw [← accL_all]
  exact last_get ls hn hw t ls.length (Nat.le_refl _)
theorem bare_len (ls : List Lab) (hn : ls.length ≤ 20) (hw : ls.any wrongB = false) : (bareL ls).length ≤ ls.length := by
  have h := accL_ok ls hn hw ls.length (Nat.le_refl _)
  rw [accL_all] at h
  exact h.2
end Go.Proofs.YtcbiidoebpkifaaGreatDoor.G

/- isName and sorted: labels that are sorted are told to be so. -/
namespace Go.Proofs.YtcbiidoebpkifaaGreatDoor.G
open Go.RowKit

theorem less_cmp : ∀ a b : List UInt8, Op.bytesLess a b = true → Lib.compareBytes a b < 0
  | [], [], h => by simp [Op.bytesLess] at h
  | _ :: _, [], h => by simp [Op.bytesLess] at h
  | [], _ :: _, _ => by simp [Lib.compareBytes]
  | x :: a, y :: b, h => by
    simp only [Op.bytesLess, Bool.or_eq_true, decide_eq_true_eq, Bool.and_eq_true, beq_iff_eq] at h
    unfold Lib.compareBytes
    rcases h with h | ⟨rfl, h⟩
    · rw [if_pos h]; decide
    · rw [if_neg (by simp), if_neg (by simp)]; exact less_cmp a b h
theorem name_after {p l : ByteArray} (h : cmpN p l < 0) : Op.bytesLess l.toList p.toList = false ∧ (l.toList == p.toList) = false := by
  constructor
  · rw [Bool.eq_false_iff]
    intro e
    have h1 := less_cmp _ _ e
    rw [ByteArray.toList_eq, ByteArray.toList_eq] at h1
    have h2 := cmpN_neg p l
    have h3 : cmpN l p < 0 := h1
    omega
  · rw [Bool.eq_false_iff]
    intro e
    have e3 := eqB_eq (show eqB l p = true from e)
    rw [e3, cmpN_self] at h
    omega
theorem nilS (s : ByteArray) : s.toList = [] ↔ s.size = 0 := by
  rw [ByteArray.toList_eq]
  constructor
  · intro h
    rw [← len_list s, h]; rfl
  · intro h
    exact List.length_eq_zero_iff.1 (by rw [len_list]; exact h)

set_option maxHeartbeats 2000000 in
set_option maxRecDepth 100000 in
theorem isNameK (s : ByteArray) (x : EV) (w : World) (hp : Pre w x) (hn : nameB s = true) :
    Calls Tryz.prog 27 #[.string s] w fun e w' => e = .returned (.bool true) ∧ Ex [] w w' := by
  have KI := hide (is_any nameT s x w hp.ev name_good hp.gl (by have := name_size hn; omega))
  rw [match_name hn] at KI
  unfold nameT at KI
  clear hp hn
  go_enter Tryz.func27, Tryz.ntmps27
  go_wp2_with fail
  refine KI.out.mono ?_
  rintro e w1 ⟨rfl, hx1⟩
  have HX1 := hide hx1
  clear hx1
  go_wp2_with fail
  go_ret
  exact ⟨rfl, HX1.out⟩

set_option maxHeartbeats 4000000 in
set_option maxRecDepth 100000 in
theorem sortedK (v : Value) (ls : List Lab) (x : EV) (w : World) (hp : Pre w x) (hv : SL w v ls) (hok : LOK ls) :
    Calls Tryz.prog 14 #[v] w fun e w' => e = .returned (.bool true) ∧ Ex [] w w' := by
  have HP := hide hp
  have HV := hide hv
  have HOK := hide hok
  obtain ⟨p, c, rfl⟩ := hv.slice
  obtain ⟨n, hnn⟩ : ∃ n, n = ls.length := ⟨_, rfl⟩
  have HNN := hide hnn
  have hn60 : (n : Int) ≤ 60 := by have := hok.len; omega
  have hn61 : ¬ (60 : Int) < (n : Int) := by omega
  rw [← hnn]
  clear hv hok hp hnn
  go_enter Tryz.func14, Tryz.ntmps14
  go_wp2_with fail
  go_loopg [3] n (fun gk i wr => ∃ j : Nat, j + gk = n ∧ i = .int .i64 j ∧ Ex [] w wr)
  case atStart => exact ⟨0, by omega, rfl, Ex.refl _ _⟩
  case round =>
    obtain ⟨j, hj, rfl, hx⟩ := hrel
    have HX := hide hx
    cases gk with
    | zero =>
      obtain rfl : j = n := by omega
      clear hj hx
      go_wp2_with fail
      go_ret
      exact ⟨rfl, HX.out⟩
    | succ g =>
      have hjl : j < ls.length := by rw [← HNN.out]; omega
      have hjn : (j : Int) < (n : Int) := by omega
      obtain ⟨l, hl⟩ : ∃ l, ls[j]? = some l := ⟨_, List.getElem?_eq_getElem hjl⟩
      have hm := List.mem_of_getElem? hl
      have hnm := HOK.out.nam l hm
      obtain ⟨hv1, hv2⟩ := HOK.out.val l hm
      have hsl := HV.out.ex hx (by simp)
      obtain ⟨b, c', h1, hb, a0, a1⟩ := same_nonempty hsl j l hl
      have HSRT : Hid (∀ k : Nat, k + 1 = j → ∃ q : Lab, ls[k]? = some q ∧ cmpN q.1 l.1 < 0) := fun k hk => by
        refine ⟨_, List.getElem?_eq_getElem (by omega), ?_⟩
        exact HOK.out.srt k j _ l (by omega) (List.getElem?_eq_getElem (by omega)) hl
      have HSL := hide hsl
      injection h1 with e1 e2 e3
      subst e1
      obtain ⟨l1, l2⟩ := l
      dsimp only at a0 a1 hnm hv1 hv2 HSRT
      have KN := hide (isNameK l1 x wr (HP.out.ex hx) hnm)
      have h60 := name_size hnm
      have hz1 : decide ((60 : Int) < (l1.size : Int)) = false := decide_eq_false (by omega)
      have hz2 : decide ((200 : Int) < (l2.size : Int)) = false := decide_eq_false (by omega)
      have hE2 : l2.toList.isEmpty = false := by rw [List.isEmpty_eq_false_iff]; exact fun h => hv2 ((nilS l2).1 h)
      clear hl hx hsl e2 e3 hm hnm hjl
      go_wp2_with fail
      refine KN.out.mono ?_
      rintro e w1 ⟨rfl, hx1⟩
      have HX1 := hide hx1
      have b0 := (hx1.cell0.1 b (j * 2) hb).trans a0
      have b1 := (hx1.cell0.1 b (j * 2 + 1) hb).trans a1
      have hb1 : b < w1.heap.size := Nat.lt_of_lt_of_le hb hx1.size
      by_cases hj0 : j = 0
      · have hd : decide (0 < j) = false := decide_eq_false (by omega)
        have hd2 : decide ((0 : Int) < (j : Int)) = false := decide_eq_false (by omega)
        clear hx1 a0 a1 hj0 hv2 hv1 h60
        go_wp2_with fail
        go_quiet (fail)
        go_wp2_with fail
        go_roundg g
        case measure => omega
        case rel => exact ⟨j + 1, by omega, by simp, (HX.out.trans HX1.out).drewN _⟩
      · obtain ⟨k, hk⟩ : ∃ k, k + 1 = j := ⟨j - 1, by omega⟩
        obtain ⟨⟨q1, q2⟩, hq, hlt⟩ := HSRT.out k hk
        obtain ⟨b', c'', h1, _, d0, _⟩ := same_nonempty HSL.out k (q1, q2) hq
        injection h1 with e1 e2 e3
        injection e1 with e1
        injection e1 with e1 _ _
        subst e1
        obtain ⟨n1, n2⟩ := name_after hlt
        dsimp only at d0 n1 n2
        have p0 := (hx1.cell0.1 b (k * 2) hb).trans d0
        have hw1 : (j : Int) - 1 = (k : Int) := by omega
        have hw2 : IntKind.i64.wrap ((j : Int) - 1) = (k : Int) := by rw [IntKind.wrap_i64]; omega
        have hw3 : IntKind.i64.wrap (k : Int) = (k : Int) := by rw [IntKind.wrap_i64]; omega
        have hd : decide (0 < j) = true := by simp; omega
        have hd2 : decide ((0 : Int) < (j : Int)) = true := by simp; omega
        have hkn : (k : Int) < (n : Int) := by omega
        clear hx1 a0 a1 hq hlt e2 e3 d0 hj0 hk hv2 hv1 h60
        go_wp2_with fail
        go_quiet (fail)
        go_wp2_with fail
        go_roundg g
        case measure => omega
        case rel => exact ⟨j + 1, by omega, by simp, (HX.out.trans HX1.out).drewN _⟩
end Go.Proofs.YtcbiidoebpkifaaGreatDoor.G
