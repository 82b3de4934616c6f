/- T1 F1, one behind the other. -/
import Derived.Test.YtcbiidoebpkifaaGreatDoorM04
import Derived.Test.YtcbiidoebpkifaaGreatDoorM02
set_option linter.unusedVariables false
set_option linter.unusedSimpArgs false
/- Labels that are sorted: plain facts. -/
namespace Go.Proofs.YtcbiidoebpkifaaGreatDoor.G
open Go.Lib

theorem cmp_self : ∀ a : List UInt8, compareBytes a a = 0
  | [] => rfl
  | x :: a => by
    unfold compareBytes
    rw [if_neg (by simp), if_neg (by simp), cmp_self a]
theorem cmp_zero : ∀ a b : List UInt8, compareBytes a b = 0 → a = b
  | [], [], _ => rfl
  | [], _ :: _, h => by simp [compareBytes] at h
  | _ :: _, [], h => by simp [compareBytes] at h
  | x :: a, y :: b, h => by
    unfold compareBytes at h
    split at h
    · simp at h
    · split at h
      · simp at h
      · next h1 h2 =>
        have : x = y := by
          rcases UInt8.lt_or_lt_of_ne (a := x) (b := y) |> fun f => Classical.em (x = y) with e | e
          · exact e
          · rcases UInt8.lt_or_lt_of_ne e with e | e
            · exact absurd e h1
            · exact absurd e h2
        rw [this, cmp_zero a b h]
theorem cmp_vals (a b : List UInt8) : compareBytes a b = 0 ∨ compareBytes a b = 1 ∨ compareBytes a b = -1 := by
  induction a generalizing b with
  | nil => cases b <;> simp [compareBytes]
  | cons x a ih =>
    cases b with
    | nil => simp [compareBytes]
    | cons y b =>
      unfold compareBytes
      split
      · simp
      · split
        · simp
        · exact ih b
theorem cmp_neg : ∀ a b : List UInt8, compareBytes a b = - compareBytes b a
  | [], [] => rfl
  | [], _ :: _ => rfl
  | _ :: _, [] => rfl
  | x :: a, y :: b => by
    unfold compareBytes
    by_cases h1 : x < y
    · have h2 : ¬ y < x := by rw [UInt8.lt_iff_toNat_lt] at *; omega
      rw [if_pos h1, if_neg h2, if_pos h1]
    · by_cases h2 : y < x
      · rw [if_neg h1, if_pos h2, if_pos h2]; rfl
      · rw [if_neg h1, if_neg h2, if_neg h2, if_neg h1]
        exact cmp_neg a b
theorem cmp_trans : ∀ a b c : List UInt8, compareBytes a b < 0 → compareBytes b c < 0 → compareBytes a c < 0
  | [], [], c, h, _ => by simp [compareBytes] at h
  | [], _ :: _, [], _, h => by simp [compareBytes] at h
  | [], _ :: _, _ :: _, _, _ => by simp [compareBytes]
  | _ :: _, [], _, h, _ => by simp [compareBytes] at h
  | _ :: _, _ :: _, [], _, h => by simp [compareBytes] at h
  | x :: a, y :: b, z :: c, h, k => by
    unfold compareBytes at h k ⊢
    by_cases h1 : x < y
    · by_cases k1 : y < z
      · rw [if_pos (by rw [UInt8.lt_iff_toNat_lt] at *; omega)]; decide
      · rw [if_neg k1] at k
        by_cases k2 : z < y
        · rw [if_pos k2] at k; simp at k
        · have : y.toNat = z.toNat := by rw [UInt8.lt_iff_toNat_lt] at *; omega
          rw [if_pos (by rw [UInt8.lt_iff_toNat_lt] at *; omega)]; decide
    · rw [if_neg h1] at h
      by_cases h2 : y < x
      · rw [if_pos h2] at h; simp at h
      · rw [if_neg h2] at h
        by_cases k1 : y < z
        · rw [if_pos (by rw [UInt8.lt_iff_toNat_lt] at *; omega)]; decide
        · rw [if_neg k1] at k
          by_cases k2 : z < y
          · rw [if_pos k2] at k; simp at k
          · rw [if_neg k2] at k
            rw [if_neg (by rw [UInt8.lt_iff_toNat_lt] at *; omega), if_neg (by rw [UInt8.lt_iff_toNat_lt] at *; omega)]
            exact cmp_trans a b c h k
theorem cmpN_trans {a b c : ByteArray} (h : cmpN a b < 0) (k : cmpN b c < 0) : cmpN a c < 0 := cmp_trans _ _ _ h k
theorem cmpN_zero {a b : ByteArray} (h : cmpN a b = 0) : a = b := by
  have h1 := cmp_zero _ _ h
  cases a; cases b
  simp only [ByteArray.mk.injEq]
  exact Array.toList_inj.1 h1
theorem cmpN_self (a : ByteArray) : cmpN a a = 0 := cmp_self _
theorem cmpN_neg (a b : ByteArray) : cmpN a b = - cmpN b a := cmp_neg _ _

def Srt (ls : List Lab) : Prop := ∀ (a b : Nat) (x y : Lab), a < b → ls[a]? = some x → ls[b]? = some y → cmpN x.1 y.1 < 0
theorem Srt.for {ls : List Lab} (h : Srt ls) (t : ByteArray) : SortedFor ls t := fun a b x y hab hx hy hlt => by
  rcases Nat.lt_or_ge a b with h1 | h1
  · exact cmpN_trans (h a b x y h1 hx hy) hlt
  · have : a = b := by omega
    subst this
    rw [hx] at hy
    cases hy
    exact hlt
theorem posN_lt {ls : List Lab} {t : ByteArray} {k : Nat} {l : Lab} (hk : k < posN ls t) (hl : ls[k]? = some l) : cmpN l.1 t < 0 := by
  unfold posN at hk
  induction ls generalizing k with
  | nil => simp at hk
  | cons x ls ih =>
    rw [List.takeWhile_cons] at hk
    split at hk
    · next hx =>
      cases k with
      | zero => simp at hl; subst hl; simpa using hx
      | succ k => exact ih (by simpa using hk) (by simpa using hl)
    · simp at hk
theorem posN_at {ls : List Lab} {t : ByteArray} {l : Lab} (hl : ls[posN ls t]? = some l) : ¬ cmpN l.1 t < 0 := by
  unfold posN at hl
  induction ls with
  | nil => simp at hl
  | cons x ls ih =>
    rw [List.takeWhile_cons] at hl
    split at hl
    · next hx => exact ih (by simpa using hl)
    · next hx => simp at hl; subst hl; simpa using hx
theorem posN_ge {ls : List Lab} (h : Srt ls) {t : ByteArray} {k : Nat} {l : Lab} (hk : posN ls t ≤ k) (hl : ls[k]? = some l) : ¬ cmpN l.1 t < 0 := fun hc => by
  have hlen : k < ls.length := (List.getElem?_eq_some_iff.1 hl).1
  have hp : ls[posN ls t]? = some (ls[posN ls t]'(by omega)) := List.getElem?_eq_getElem _
  exact posN_at hp (h.for t (posN ls t) k _ l hk hp hl hc)
theorem off_mem {ls : List Lab} {t : ByteArray} {l : Lab} (h : l ∈ offL ls t) : l ∈ ls := by
  unfold offL at h
  split at h
  · rcases List.mem_append.1 h with h | h
    · exact List.mem_of_mem_take h
    · exact List.mem_of_mem_drop h
  · exact h
theorem off_len (ls : List Lab) (t : ByteArray) : (offL ls t).length ≤ ls.length := by
  unfold offL
  split
  · simp; omega
  · omega
theorem off_at (ls : List Lab) (t : ByteArray) (k : Nat) : (offL ls t)[k]? = if thereN ls t = true ∧ posN ls t ≤ k then ls[k + 1]? else ls[k]? := by
  unfold offL
  by_cases h : thereN ls t = true
  · rw [if_pos h]
    have hl := there_lt h
    rcases Nat.lt_or_ge k (posN ls t) with hk | hk
    · rw [if_neg (by omega), List.getElem?_append_left (by simp; omega), List.getElem?_take, if_pos hk]
    · rw [if_pos ⟨h, hk⟩, List.getElem?_append_right (by simp; omega), List.getElem?_drop]
      congr 1
      simp
      omega
  · rw [if_neg h, if_neg (by simp [h])]
theorem off_srt {ls : List Lab} (h : Srt ls) (t : ByteArray) : Srt (offL ls t) := fun a b x y hab hx hy => by
  rw [off_at] at hx hy
  split at hx <;> split at hy
  · exact h _ _ x y (by omega) hx hy
  · next h1 h2 => exact absurd ⟨h1.1, by omega⟩ h2
  · exact h _ _ x y (by omega) hx hy
  · exact h _ _ x y (by omega) hx hy
theorem off_sides {ls : List Lab} (h : Srt ls) (t : ByteArray) : ∀ (k : Nat) (l : Lab), (offL ls t)[k]? = some l → (k < posN ls t → cmpN l.1 t < 0) ∧ (posN ls t ≤ k → cmpN t l.1 < 0) := fun k l hl => by
  rw [off_at] at hl
  split at hl
  · next hc =>
    refine ⟨fun hk => by omega, fun hk => ?_⟩
    obtain ⟨h1, h2⟩ := hc
    unfold thereN at h1
    split at h1
    · next p hp =>
      have h3 := h (posN ls t) (k + 1) p l (by omega) hp hl
      have h4 : p.1 = t := cmpN_zero (by simpa using h1)
      rw [← h4]
      exact h3
    · cases h1
  · next hc =>
    refine ⟨fun hk => posN_lt hk hl, fun hk => ?_⟩
    have h1 := posN_ge h hk hl
    have hne : ¬ cmpN l.1 t = 0 := fun e => by
      have e1 := cmpN_zero e
      have ht : ¬ thereN ls t = true := fun h2 => hc ⟨h2, hk⟩
      have hlen : k < ls.length := (List.getElem?_eq_some_iff.1 hl).1
      have hp : ls[posN ls t]? = some (ls[posN ls t]'(by omega)) := List.getElem?_eq_getElem _
      rcases Nat.lt_or_ge (posN ls t) k with h4 | h4
      · have h5 := h (posN ls t) k _ l h4 hp hl
        rw [e1] at h5
        exact posN_at hp h5
      · have : posN ls t = k := by omega
        clear hp
        apply ht
        unfold thereN
        rw [this, hl]
        simp [e]
    have h2 := cmp_vals l.1.data.toList t.data.toList
    rw [cmpN_neg]
    unfold cmpN at h1 hne ⊢
    omega
theorem ins_at {α : Type} (xs : List α) (p : Nat) (x : α) (hp : p ≤ xs.length) (k : Nat) : (xs.take p ++ [x] ++ xs.drop p)[k]? = if k < p then xs[k]? else if k = p then some x else xs[k - 1]? := by
  have hl : (xs.take p).length = p := by simp; omega
  rcases Nat.lt_or_ge k p with hk | hk
  · rw [if_pos hk, List.append_assoc, List.getElem?_append_left (by omega), List.getElem?_take, if_pos hk]
  · rw [if_neg (by omega), List.append_assoc, List.getElem?_append_right (by omega), hl]
    by_cases e : k = p
    · rw [if_pos e, e]; simp
    · rw [if_neg e, List.getElem?_append_right (by simp; omega), List.getElem?_drop]
      congr 1
      simp
      omega
theorem off_pos {ls : List Lab} (t : ByteArray) : posN ls t ≤ (offL ls t).length := by
  unfold offL
  split
  · next h => have := there_lt h; simp; omega
  · exact posN_le ls t
theorem set_srt {ls : List Lab} (h : Srt ls) (t v : ByteArray) : Srt (setL ls t v) := by
  unfold setL
  split
  · exact off_srt h t
  · intro a b x y hab hx hy
    have ho := off_srt h t
    have hs := off_sides h t
    rw [ins_at _ _ _ (off_pos t)] at hx hy
    split at hx
    · next ha =>
      split at hy
      · exact ho a b x y hab hx hy
      · split at hy
        · cases hy; exact (hs a x hx).1 ha
        · exact ho a (b - 1) x y (by omega) hx hy
    · next ha =>
      rw [if_neg (by omega)] at hy
      split at hx
      · next e =>
        cases hx
        rw [if_neg (by omega)] at hy
        exact (hs (b - 1) y hy).2 (by omega)
      · rw [if_neg (by omega)] at hy
        exact ho (a - 1) (b - 1) x y (by omega) hx hy
theorem set_mem {ls : List Lab} {t v : ByteArray} {l : Lab} (h : l ∈ setL ls t v) : l ∈ ls ∨ (l = (t, cutB v) ∧ ¬ v.size = 0) := by
  unfold setL at h
  split at h
  · exact Or.inl (off_mem h)
  · next hc =>
    simp only [List.mem_append, List.mem_singleton] at h
    rcases h with (h | h) | h
    · exact Or.inl (off_mem (List.mem_of_mem_take h))
    · exact Or.inr ⟨h, fun e => hc (Or.inl e)⟩
    · exact Or.inl (off_mem (List.mem_of_mem_drop h))
theorem set_len (ls : List Lab) (t v : ByteArray) (h : ls.length ≤ 60) : (setL ls t v).length ≤ 60 := by
  have h1 := off_len ls t
  unfold setL
  split
  · omega
  · next hc => simp; omega
theorem cut_size (v : ByteArray) : (cutB v).size ≤ 200 ∧ (¬ v.size = 0 → ¬ (cutB v).size = 0) := by
  unfold cutB
  split
  · have h1 : (v.extract 0 200).size = 200 := by
      rw [ByteArray.size_extract]; omega
    omega
  · omega

structure LOK (ls : List Lab) : Prop where
  srt : Srt ls
  len : ls.length ≤ 60
  nam : ∀ l ∈ ls, nameB l.1 = true
  val : ∀ l ∈ ls, l.2.size ≤ 200 ∧ ¬ l.2.size = 0
theorem LOK.nil : LOK [] := ⟨fun a b x y _ h => by simp at h, by simp, fun l h => by simp at h, fun l h => by simp at h⟩
theorem LOK.set {ls : List Lab} (h : LOK ls) (t v : ByteArray) (ht : nameB t = true) : LOK (setL ls t v) := by
  refine ⟨set_srt h.srt t v, set_len ls t v h.len, fun l hl => ?_, fun l hl => ?_⟩
  · rcases set_mem hl with hl | ⟨rfl, _⟩
    · exact h.nam l hl
    · exact ht
  · rcases set_mem hl with hl | ⟨rfl, h0⟩
    · exact h.val l hl
    · have := cut_size v
      exact ⟨this.1, this.2 h0⟩
theorem Srt.sub {ls ms : List Lab} (h : Srt ls) (hs : ms.Sublist ls) : Srt ms := by
  have hp : ls.Pairwise fun x y => cmpN x.1 y.1 < 0 := by
    rw [List.pairwise_iff_getElem]
    intro i j hi hj hij
    exact h i j _ _ hij (List.getElem?_eq_getElem hi) (List.getElem?_eq_getElem hj)
  have hq := hp.sublist hs
  rw [List.pairwise_iff_getElem] at hq
  intro a b x y hab hx hy
  obtain ⟨ha, rfl⟩ := List.getElem?_eq_some_iff.1 hx
  obtain ⟨hb, rfl⟩ := List.getElem?_eq_some_iff.1 hy
  exact hq a b ha hb hab
theorem LOK.filter {ls : List Lab} (h : LOK ls) (p : Lab → Bool) : LOK (ls.filter p) :=
  ⟨h.srt.sub List.filter_sublist, Nat.le_trans (List.length_filter_le ..) h.len, fun l hl => h.nam l (List.mem_filter.1 hl).1, fun l hl => h.val l (List.mem_filter.1 hl).1⟩
end Go.Proofs.YtcbiidoebpkifaaGreatDoor.G

/- Contracts of package rule: what is asked of a rule's fields. -/
namespace Go.Proofs.YtcbiidoebpkifaaGreatDoor
open Go.RowKit

def SS (w : World) (v : Value) (ss : List ByteArray) : Prop :=
  (v = .slice none 0 0 ∧ ss = []) ∨ ∃ b c, v = .slice (some ⟨b, 0, none⟩) ss.length c ∧ b < w.heap.size ∧ ∀ j s, ss[j]? = some s → w.cell? ⟨b, j, none⟩ = some (.string s)

theorem SS.ex {w w' : World} {v : Value} {ss : List ByteArray} {o : List Nat} (h : SS w v ss) (hx : Ex o w w') (hn : ∀ k, v.ownBlock = some k → k ∉ o) : SS w' v ss := by
  rcases h with h | ⟨b, c, rfl, hb, hc⟩
  · exact .inl h
  · refine .inr ⟨b, c, rfl, Nat.lt_of_lt_of_le hb hx.size, fun j l hj => ?_⟩
    rw [hx.cell.1 b _ hb (hn b rfl)]
    exact hc j l hj
theorem SS.ex0 {w w' : World} {v : Value} {ss : List ByteArray} (h : SS w v ss) (hx : Ex [] w w') : SS w' v ss := h.ex hx (by simp)
theorem SS.slice {w : World} {v : Value} {ss : List ByteArray} (h : SS w v ss) : ∃ p c, v = .slice p ss.length c := by
  rcases h with ⟨rfl, rfl⟩ | ⟨b, c, rfl, _⟩
  · exact ⟨_, _, rfl⟩
  · exact ⟨_, _, rfl⟩

def longB (s : ByteArray) : Bool := decide (60 < s.size)

theorem isLong_any (s : ByteArray) (w : World) :
    Calls Tryz.prog 102 #[.string s] w fun e w' => e = .returned (.bool (longB s)) ∧ w' = w := by
  unfold longB
  go_enter Tryz.func102, Tryz.ntmps102
  go_wp2_with fail
  go_ret
  exact ⟨by simp; omega, rfl⟩

def idxLong (ss : List ByteArray) : Int := match ss.findIdx? longB with | some i => (i : Int) | none => -1

set_option maxHeartbeats 1000000 in
set_option maxRecDepth 100000 in
theorem indexLong (v : Value) (ls : List ByteArray) (w : World) (hv : SS w v ls) (hn : ls.length ≤ 1000) :
    Calls Tryz.prog 129 #[v, .func (.func 102) #[] #[]] w fun e w' => e = .returned (.int .i64 (idxLong ls)) ∧ Ex [] w w' := by
  have HV := hide hv
  obtain ⟨p, c, rfl⟩ := hv.slice
  clear hv
  go_enter Tryz.func129, Tryz.ntmps129
  go_wp2_with fail
  go_loopg [8] ls.length (fun gk i wr => ∃ j : Nat, j + gk = ls.length ∧ i = .int .i64 j ∧ (∀ k l, k < j → ls[k]? = some l → longB l = false) ∧ Ex [] w wr)
  case atStart => exact ⟨0, by omega, rfl, fun k l h => by omega, Ex.refl _ _⟩
  case round =>
    obtain ⟨j, hj, rfl, hw, hx⟩ := hrel
    have HW := hide hw
    have HX := hide hx
    cases gk with
    | zero =>
      obtain rfl : j = ls.length := by omega
      clear hj hw hx
      go_wp2_with fail
      go_ret
      refine ⟨?_, HX.out⟩
      have hnone : ls.findIdx? longB = none := by
        rw [List.findIdx?_eq_none_iff]
        intro l hl
        obtain ⟨k, hk, rfl⟩ := List.getElem_of_mem hl
        exact HW.out k _ hk (List.getElem?_eq_getElem hk)
      simp [idxLong, hnone]
    | succ g =>
      have hjl : j < ls.length := by omega
      have hj' : (j : Int) < (ls.length : Int) := by omega
      obtain ⟨l, hl⟩ : ∃ l, ls[j]? = some l := ⟨_, List.getElem?_eq_getElem hjl⟩
      have HLJ := hide hl
      obtain ⟨b, rfl, hb, c0⟩ : ∃ b, p = some ⟨b, 0, none⟩ ∧ b < wr.heap.size ∧ wr.cell? ⟨b, j, none⟩ = some (.string l) := by
        rcases HV.out with ⟨h1, h2⟩ | ⟨b, c', h1, hb, hc⟩
        · rw [h2] at hjl; simp at hjl
        · cases h1
          exact ⟨b, rfl, Nat.lt_of_lt_of_le hb hx.size, by rw [hx.cell0.1 b _ hb]; exact hc j l hl⟩
      clear hw hx hl
      go_wp2_with fail
      refine (isLong_any l _).mono ?_
      rintro e w' ⟨rfl, hx1⟩
      subst hx1
      cases hW : longB l with
      | true =>
        have HB := hide hW
        clear hW
        go_wp2_with fail
        go_ret
        refine ⟨?_, HX.out⟩
        have hs : ls.findIdx? longB = some j := by
          rw [List.findIdx?_eq_some_iff_getElem]
          refine ⟨hjl, ?_, fun k hk => ?_⟩
          · have := HLJ.out; rw [List.getElem?_eq_getElem hjl] at this; rw [Option.some.inj this]; exact unhide HB
          · simpa using HW.out k _ hk (List.getElem?_eq_getElem (by omega))
        simp [idxLong, hs]
      | false =>
        have HB := hide hW
        clear hW
        go_wp2_with fail
        go_roundg g
        case measure => omega
        case rel =>
          refine ⟨j + 1, by omega, by simp, fun k l' hk hl' => ?_, HX.out⟩
          by_cases hkj : k = j
          · subst hkj; have := HLJ.out; rw [hl'] at this; cases this; exact unhide HB
          · exact HW.out k l' (by omega) hl'

theorem any_idxLong (ls : List ByteArray) : decide (0 ≤ idxLong ls) = ls.any longB := by
  unfold idxLong
  cases h : ls.findIdx? longB with
  | none =>
    rw [List.findIdx?_eq_none_iff] at h
    have : ls.any longB = false := by rw [List.any_eq_false]; intro x hx; simp [h x hx]
    rw [this]; rfl
  | some i =>
    obtain ⟨hi, h1, _⟩ := List.findIdx?_eq_some_iff_getElem.1 h
    have : ls.any longB = true := by rw [List.any_eq_true]; exact ⟨ls[i], List.getElem_mem hi, h1⟩
    rw [this]; simp

set_option maxHeartbeats 1000000 in
set_option maxRecDepth 100000 in
theorem containsLong (v : Value) (ls : List ByteArray) (w : World) (hv : SS w v ls) (hn : ls.length ≤ 1000) :
    Calls Tryz.prog 101 #[v, .func (.func 102) #[] #[]] w fun e w' => e = .returned (.bool (ls.any longB)) ∧ Ex [] w w' := by
  rw [← any_idxLong]
  have HV := hide hv
  clear hv
  go_enter Tryz.func101, Tryz.ntmps101
  go_wp2_with fail
  refine (indexLong _ _ _ HV.out hn).mono ?_
  rintro e w' ⟨rfl, hx1⟩
  have HX1 := hide hx1
  clear hx1
  go_wp2_with fail
  go_ret
  exact ⟨by simp, HX1.out⟩

set_option maxHeartbeats 1000000 in
set_option maxRecDepth 100000 in
theorem areNames_any (v : Value) (ls : List ByteArray) (w : World) (hv : SS w v ls) (hn : ls.length ≤ 1000) (hz : ∀ s ∈ ls, s.size ≤ maxLen) :
    Calls Tryz.prog 74 #[v] w fun e w' => e = .returned (.bool (ls.all nameB)) ∧ Ex [] w w' := by
  have HV := hide hv
  have HZ := hide hz
  obtain ⟨p, c, rfl⟩ := hv.slice
  clear hv hz
  go_enter Tryz.func74, Tryz.ntmps74
  go_wp2_with fail
  go_loopg [7] ls.length (fun gk i wr => ∃ j : Nat, j + gk = ls.length ∧ i = .int .i64 j ∧ (∀ k l, k < j → ls[k]? = some l → nameB l = true) ∧ Ex [] w wr)
  case atStart => exact ⟨0, by omega, rfl, fun k l h => by omega, Ex.refl _ _⟩
  case round =>
    obtain ⟨j, hj, rfl, hw, hx⟩ := hrel
    have HW := hide hw
    have HX := hide hx
    cases gk with
    | zero =>
      obtain rfl : j = ls.length := by omega
      clear hj hw hx
      go_wp2_with fail
      go_ret
      refine ⟨?_, HX.out⟩
      have hall : ls.all nameB = true := by
        rw [List.all_eq_true]
        intro l hl
        obtain ⟨k, hk, rfl⟩ := List.getElem_of_mem hl
        exact HW.out k _ hk (List.getElem?_eq_getElem hk)
      rw [hall]; rfl
    | succ g =>
      have hjl : j < ls.length := by omega
      have hj' : (j : Int) < (ls.length : Int) := by omega
      obtain ⟨l, hl⟩ : ∃ l, ls[j]? = some l := ⟨_, List.getElem?_eq_getElem hjl⟩
      have HLJ := hide hl
      have hlm := HZ.out l (List.mem_of_getElem? hl)
      obtain ⟨b, rfl, hb, c0⟩ : ∃ b, p = some ⟨b, 0, none⟩ ∧ b < wr.heap.size ∧ wr.cell? ⟨b, j, none⟩ = some (.string l) := by
        rcases HV.out with ⟨h1, h2⟩ | ⟨b, c', h1, hb, hc⟩
        · rw [h2] at hjl; simp at hjl
        · cases h1
          exact ⟨b, rfl, Nat.lt_of_lt_of_le hb hx.size, by rw [hx.cell0.1 b _ hb]; exact hc j l hl⟩
      clear hw hx hl
      go_wp2_with fail
      refine (isName_any l _ hlm).mono ?_
      rintro e w' ⟨rfl, hx1⟩
      subst hx1
      cases hW : nameB l with
      | false =>
        have HB := hide hW
        clear hW
        go_wp2_with fail
        go_ret
        refine ⟨?_, HX.out⟩
        have hs : ls.all nameB = false := by
          rw [List.all_eq_false]
          exact ⟨l, List.mem_of_getElem? HLJ.out, by simp [unhide HB]⟩
        rw [hs]; rfl
      | true =>
        have HB := hide hW
        clear hW
        go_wp2_with fail
        go_roundg g
        case measure => omega
        case rel =>
          refine ⟨j + 1, by omega, by simp, fun k l' hk hl' => ?_, HX.out⟩
          by_cases hkj : k = j
          · subst hkj; have := HLJ.out; rw [hl'] at this; cases this; exact unhide HB
          · exact HW.out k l' (by omega) hl'
end Go.Proofs.YtcbiidoebpkifaaGreatDoor
