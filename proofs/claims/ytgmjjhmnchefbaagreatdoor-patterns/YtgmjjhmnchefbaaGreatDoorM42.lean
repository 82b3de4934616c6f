/- T1 F1 F5 F2 F6 F3 F4 F8 T2 P0 T3 T4 T5 T6 T7 F7 T8 F9 F10 F11 T9 T10 T11 T12 F14 T13, one behind the other. -/
import Derived.Test.YtgmjjhmnchefbaaGreatDoorM04
import Derived.Test.YtgmjjhmnchefbaaGreatDoorM02
import Derived.Test.YtgmjjhmnchefbaaGreatDoorM05
import Derived.Laws.IdiomStrings
import Derived.Test.YtgmjjhmnchefbaaGreatDoorM01
import Derived.Test.YtgmjjhmnchefbaaGreatDoorProg
import Derived.Lib.ItoaMem
import Derived.Test.YtgmjjhmnchefbaaGreatDoorM25
import Derived.Deep.RegionHeld3
import Derived.Test.YtgmjjhmnchefbaaGreatDoorM22
set_option linter.unusedVariables false
set_option linter.unusedSimpArgs false
/- Labels that are sorted: plain facts. -/
namespace Go.Proofs.YtgmjjhmnchefbaaGreatDoor.G
open Go.Lib

theorem cmp_zero : ∀ a b : List UInt8, compareBytes a b = 0 → a = b
  | [], [], _ => rfl
  | [], _ :: _, h => by simp [compareBytes] at h
  | _ :: _, [], h => by simp [compareBytes] at h
  | x :: a, y :: b, h => by
    unfold compareBytes at h
    split at h
    · simp at h
    · split at h
      · simp at h
      · next h1 h2 =>
        have : x = y := by
          rcases UInt8.lt_or_lt_of_ne (a := x) (b := y) |> fun f => Classical.em (x = y) with e | e
          · exact e
          · rcases UInt8.lt_or_lt_of_ne e with e | e
            · exact absurd e h1
            · exact absurd e h2
        rw [this, cmp_zero a b h]
theorem cmp_vals (a b : List UInt8) : compareBytes a b = 0 ∨ compareBytes a b = 1 ∨ compareBytes a b = -1 := by
  induction a generalizing b with
  | nil => cases b <;> simp [compareBytes]
  | cons x a ih =>
    cases b with
    | nil => simp [compareBytes]
    | cons y b =>
      unfold compareBytes
      split
      · simp
      · split
        · simp
        · exact ih b
theorem cmp_neg : ∀ a b : List UInt8, compareBytes a b = - compareBytes b a
  | [], [] => rfl
  | [], _ :: _ => rfl
  | _ :: _, [] => rfl
  | x :: a, y :: b => by
    unfold compareBytes
    by_cases h1 : x < y
    · have h2 : ¬ y < x := by rw [UInt8.lt_iff_toNat_lt] at *; omega
      rw [if_pos h1, if_neg h2, if_pos h1]
    · by_cases h2 : y < x
      · rw [if_neg h1, if_pos h2, if_pos h2]; rfl
      · rw [if_neg h1, if_neg h2, if_neg h2, if_neg h1]
        exact cmp_neg a b
theorem cmp_trans : ∀ a b c : List UInt8, compareBytes a b < 0 → compareBytes b c < 0 → compareBytes a c < 0
  | [], [], c, h, _ => by simp [compareBytes] at h
  | [], _ :: _, [], _, h => by simp [compareBytes] at h
  | [], _ :: _, _ :: _, _, _ => by simp [compareBytes]
  | _ :: _, [], _, h, _ => by simp [compareBytes] at h
  | _ :: _, _ :: _, [], _, h => by simp [compareBytes] at h
  | x :: a, y :: b, z :: c, h, k => by
    unfold compareBytes at h k ⊢
    by_cases h1 : x < y
    · by_cases k1 : y < z
      · rw [if_pos (by rw [UInt8.lt_iff_toNat_lt] at *; omega)]; decide
      · rw [if_neg k1] at k
        by_cases k2 : z < y
        · rw [if_pos k2] at k; simp at k
        · have : y.toNat = z.toNat := by rw [UInt8.lt_iff_toNat_lt] at *; omega
          rw [if_pos (by rw [UInt8.lt_iff_toNat_lt] at *; omega)]; decide
    · rw [if_neg h1] at h
      by_cases h2 : y < x
      · rw [if_pos h2] at h; simp at h
      · rw [if_neg h2] at h
        by_cases k1 : y < z
        · rw [if_pos (by rw [UInt8.lt_iff_toNat_lt] at *; omega)]; decide
        · rw [if_neg k1] at k
          by_cases k2 : z < y
          · rw [if_pos k2] at k; simp at k
          · rw [if_neg k2] at k
            rw [if_neg (by rw [UInt8.lt_iff_toNat_lt] at *; omega), if_neg (by rw [UInt8.lt_iff_toNat_lt] at *; omega)]
            exact cmp_trans a b c h k
theorem cmpN_trans {a b c : ByteArray} (h : cmpN a b < 0) (k : cmpN b c < 0) : cmpN a c < 0 := cmp_trans _ _ _ h k
theorem cmpN_zero {a b : ByteArray} (h : cmpN a b = 0) : a = b := by
  have h1 := cmp_zero _ _ h
  cases a; cases b
  simp only [ByteArray.mk.injEq]
  exact Array.toList_inj.1 h1
theorem cmpN_neg (a b : ByteArray) : cmpN a b = - cmpN b a := cmp_neg _ _

def Srt (ls : List Lab) : Prop := ∀ (a b : Nat) (x y : Lab), a < b → ls[a]? = some x → ls[b]? = some y → cmpN x.1 y.1 < 0
theorem Srt.for {ls : List Lab} (h : Srt ls) (t : ByteArray) : SortedFor ls t := fun a b x y hab hx hy hlt => by
  rcases Nat.lt_or_ge a b with h1 | h1
  · exact cmpN_trans (h a b x y h1 hx hy) hlt
  · have : a = b := by omega
    subst this
    rw [hx] at hy
    cases hy
    exact hlt
theorem posN_lt {ls : List Lab} {t : ByteArray} {k : Nat} {l : Lab} (hk : k < posN ls t) (hl : ls[k]? = some l) : cmpN l.1 t < 0 := by
  unfold posN at hk
  induction ls generalizing k with
  | nil => simp at hk
  | cons x ls ih =>
    rw [List.takeWhile_cons] at hk
    split at hk
    · next hx =>
      cases k with
      | zero => simp at hl; subst hl; simpa using hx
      | succ k => exact ih (by simpa using hk) (by simpa using hl)
    · simp at hk
theorem posN_at {ls : List Lab} {t : ByteArray} {l : Lab} (hl : ls[posN ls t]? = some l) : ¬ cmpN l.1 t < 0 := by
  unfold posN at hl
  induction ls with
  | nil => simp at hl
  | cons x ls ih =>
    rw [List.takeWhile_cons] at hl
    split at hl
    · next hx => exact ih (by simpa using hl)
    · next hx => simp at hl; subst hl; simpa using hx
theorem posN_ge {ls : List Lab} (h : Srt ls) {t : ByteArray} {k : Nat} {l : Lab} (hk : posN ls t ≤ k) (hl : ls[k]? = some l) : ¬ cmpN l.1 t < 0 := fun hc => by
  have hlen : k < ls.length := (List.getElem?_eq_some_iff.1 hl).1
  have hp : ls[posN ls t]? = some (ls[posN ls t]'(by omega)) := List.getElem?_eq_getElem _
  exact posN_at hp (h.for t (posN ls t) k _ l hk hp hl hc)
theorem off_mem {ls : List Lab} {t : ByteArray} {l : Lab} (h : l ∈ offL ls t) : l ∈ ls := by
  unfold offL at h
  split at h
  · rcases List.mem_append.1 h with h | h
    · exact List.mem_of_mem_take h
    · exact List.mem_of_mem_drop h
  · exact h
theorem off_len (ls : List Lab) (t : ByteArray) : (offL ls t).length ≤ ls.length := by
  unfold offL
  split
  · simp; omega
  · omega
theorem off_at (ls : List Lab) (t : ByteArray) (k : Nat) : (offL ls t)[k]? = if thereN ls t = true ∧ posN ls t ≤ k then ls[k + 1]? else ls[k]? := by
  unfold offL
  by_cases h : thereN ls t = true
  · rw [if_pos h]
    have hl := there_lt h
    rcases Nat.lt_or_ge k (posN ls t) with hk | hk
    · rw [if_neg (by omega), List.getElem?_append_left (by simp; omega), List.getElem?_take, if_pos hk]
    · rw [if_pos ⟨h, hk⟩, List.getElem?_append_right (by simp; omega), List.getElem?_drop]
      congr 1
      simp
      omega
  · rw [if_neg h, if_neg (by simp [h])]
theorem off_srt {ls : List Lab} (h : Srt ls) (t : ByteArray) : Srt (offL ls t) := fun a b x y hab hx hy => by
  rw [off_at] at hx hy
  split at hx <;> split at hy
  · exact h _ _ x y (by omega) hx hy
  · next h1 h2 => exact absurd ⟨h1.1, by omega⟩ h2
  · exact h _ _ x y (by omega) hx hy
  · exact h _ _ x y (by omega) hx hy
theorem off_sides {ls : List Lab} (h : Srt ls) (t : ByteArray) : ∀ (k : Nat) (l : Lab), (offL ls t)[k]? = some l → (k < posN ls t → cmpN l.1 t < 0) ∧ (posN ls t ≤ k → cmpN t l.1 < 0) := fun k l hl => by
  rw [off_at] at hl
  split at hl
  · next hc =>
    refine ⟨fun hk => by omega, fun hk => ?_⟩
    obtain ⟨h1, h2⟩ := hc
    unfold thereN at h1
    split at h1
    · next p hp =>
      have h3 := h (posN ls t) (k + 1) p l (by omega) hp hl
      have h4 : p.1 = t := cmpN_zero (by simpa using h1)
      rw [← h4]
      exact h3
    · cases h1
  · next hc =>
    refine ⟨fun hk => posN_lt hk hl, fun hk => ?_⟩
    have h1 := posN_ge h hk hl
    have hne : ¬ cmpN l.1 t = 0 := fun e => by
      have e1 := cmpN_zero e
      have ht : ¬ thereN ls t = true := fun h2 => hc ⟨h2, hk⟩
      have hlen : k < ls.length := (List.getElem?_eq_some_iff.1 hl).1
      have hp : ls[posN ls t]? = some (ls[posN ls t]'(by omega)) := List.getElem?_eq_getElem _
      rcases Nat.lt_or_ge (posN ls t) k with h4 | h4
      · have h5 := h (posN ls t) k _ l h4 hp hl
        rw [e1] at h5
        exact posN_at hp h5
      · have : posN ls t = k := by omega
        clear hp
        apply ht
        unfold thereN
        rw [this, hl]
        simp [e]
    have h2 := cmp_vals l.1.data.toList t.data.toList
    rw [cmpN_neg]
    unfold cmpN at h1 hne ⊢
    omega
theorem ins_at {α : Type} (xs : List α) (p : Nat) (x : α) (hp : p ≤ xs.length) (k : Nat) : (xs.take p ++ [x] ++ xs.drop p)[k]? = if k < p then xs[k]? else if k = p then some x else xs[k - 1]? := by
  have hl : (xs.take p).length = p := by simp; omega
  rcases Nat.lt_or_ge k p with hk | hk
  · rw [if_pos hk, List.append_assoc, List.getElem?_append_left (by omega), List.getElem?_take, if_pos hk]
  · rw [if_neg (by omega), List.append_assoc, List.getElem?_append_right (by omega), hl]
    by_cases e : k = p
    · rw [if_pos e, e]; simp
    · rw [if_neg e, List.getElem?_append_right (by simp; omega), List.getElem?_drop]
      congr 1
      simp
      omega
theorem off_pos {ls : List Lab} (t : ByteArray) : posN ls t ≤ (offL ls t).length := by
  unfold offL
  split
  · next h => have := there_lt h; simp; omega
  · exact posN_le ls t
theorem set_srt {ls : List Lab} (h : Srt ls) (t v : ByteArray) : Srt (Go.Proofs.YtgmjjhmnchefbaaGreatDoor.setL ls t v) := by
  unfold Go.Proofs.YtgmjjhmnchefbaaGreatDoor.setL
  split
  · exact off_srt h t
  · intro a b x y hab hx hy
    have ho := off_srt h t
    have hs := off_sides h t
    rw [ins_at _ _ _ (off_pos t)] at hx hy
    split at hx
    · next ha =>
      split at hy
      · exact ho a b x y hab hx hy
      · split at hy
        · cases hy; exact (hs a x hx).1 ha
        · exact ho a (b - 1) x y (by omega) hx hy
    · next ha =>
      rw [if_neg (by omega)] at hy
      split at hx
      · next e =>
        cases hx
        rw [if_neg (by omega)] at hy
        exact (hs (b - 1) y hy).2 (by omega)
      · rw [if_neg (by omega)] at hy
        exact ho (a - 1) (b - 1) x y (by omega) hx hy
theorem set_mem {ls : List Lab} {t v : ByteArray} {l : Lab} (h : l ∈ Go.Proofs.YtgmjjhmnchefbaaGreatDoor.setL ls t v) : l ∈ ls ∨ (l = (t, cutB v) ∧ ¬ v.size = 0) := by
  unfold Go.Proofs.YtgmjjhmnchefbaaGreatDoor.setL at h
  split at h
  · exact Or.inl (off_mem h)
  · next hc =>
    simp only [List.mem_append, List.mem_singleton] at h
    rcases h with (h | h) | h
    · exact Or.inl (off_mem (List.mem_of_mem_take h))
    · exact Or.inr ⟨h, fun e => hc (Or.inl e)⟩
    · exact Or.inl (off_mem (List.mem_of_mem_drop h))
theorem set_len (ls : List Lab) (t v : ByteArray) (h : ls.length ≤ 60) : (Go.Proofs.YtgmjjhmnchefbaaGreatDoor.setL ls t v).length ≤ 60 := by
  have h1 := off_len ls t
  unfold Go.Proofs.YtgmjjhmnchefbaaGreatDoor.setL
  split
  · omega
  · next hc => simp; omega
theorem cut_size (v : ByteArray) : (cutB v).size ≤ 200 ∧ (¬ v.size = 0 → ¬ (cutB v).size = 0) := by
  unfold cutB
  split
  · have h1 : (v.extract 0 200).size = 200 := by
      rw [ByteArray.size_extract]; omega
    omega
  · omega

structure LOK (ls : List Lab) : Prop where
  srt : Srt ls
  len : ls.length ≤ 60
  nam : ∀ l ∈ ls, nameB l.1 = true
  val : ∀ l ∈ ls, l.2.size ≤ 200 ∧ ¬ l.2.size = 0
theorem LOK.nil : LOK [] := ⟨fun a b x y _ h => by simp at h, by simp, fun l h => by simp at h, fun l h => by simp at h⟩
theorem LOK.set {ls : List Lab} (h : LOK ls) (t v : ByteArray) (ht : nameB t = true) : LOK (Go.Proofs.YtgmjjhmnchefbaaGreatDoor.setL ls t v) := by
  refine ⟨set_srt h.srt t v, set_len ls t v h.len, fun l hl => ?_, fun l hl => ?_⟩
  · rcases set_mem hl with hl | ⟨rfl, _⟩
    · exact h.nam l hl
    · exact ht
  · rcases set_mem hl with hl | ⟨rfl, h0⟩
    · exact h.val l hl
    · have := cut_size v
      exact ⟨this.1, this.2 h0⟩
theorem Srt.sub {ls ms : List Lab} (h : Srt ls) (hs : ms.Sublist ls) : Srt ms := by
  have hp : ls.Pairwise fun x y => cmpN x.1 y.1 < 0 := by
    rw [List.pairwise_iff_getElem]
    intro i j hi hj hij
    exact h i j _ _ hij (List.getElem?_eq_getElem hi) (List.getElem?_eq_getElem hj)
  have hq := hp.sublist hs
  rw [List.pairwise_iff_getElem] at hq
  intro a b x y hab hx hy
  obtain ⟨ha, rfl⟩ := List.getElem?_eq_some_iff.1 hx
  obtain ⟨hb, rfl⟩ := List.getElem?_eq_some_iff.1 hy
  exact hq a b ha hb hab
theorem LOK.filter {ls : List Lab} (h : LOK ls) (p : Lab → Bool) : LOK (ls.filter p) :=
  ⟨h.srt.sub List.filter_sublist, Nat.le_trans (List.length_filter_le ..) h.len, fun l hl => h.nam l (List.mem_filter.1 hl).1, fun l hl => h.val l (List.mem_filter.1 hl).1⟩
end Go.Proofs.YtgmjjhmnchefbaaGreatDoor.G

/- Contracts of package rule: what is asked of a rule's fields. -/
namespace Go.Proofs.YtgmjjhmnchefbaaGreatDoor
open Go.RowKit

def SS (w : World) (v : Value) (ss : List ByteArray) : Prop :=
  (v = .slice none 0 0 ∧ ss = []) ∨ ∃ b c, v = .slice (some ⟨b, 0, none⟩) ss.length c ∧ b < w.heap.size ∧ ∀ j s, ss[j]? = some s → w.cell? ⟨b, j, none⟩ = some (.string s)

theorem SS.ex {w w' : World} {v : Value} {ss : List ByteArray} {o : List Nat} (h : SS w v ss) (hx : Ex o w w') (hn : ∀ k, v.ownBlock = some k → k ∉ o) : SS w' v ss := by
  rcases h with h | ⟨b, c, rfl, hb, hc⟩
  · exact .inl h
  · refine .inr ⟨b, c, rfl, Nat.lt_of_lt_of_le hb hx.size, fun j l hj => ?_⟩
    rw [hx.cell.1 b _ hb (hn b rfl)]
    exact hc j l hj
theorem SS.ex0 {w w' : World} {v : Value} {ss : List ByteArray} (h : SS w v ss) (hx : Ex [] w w') : SS w' v ss := h.ex hx (by simp)
theorem SS.slice {w : World} {v : Value} {ss : List ByteArray} (h : SS w v ss) : ∃ p c, v = .slice p ss.length c := by
  rcases h with ⟨rfl, rfl⟩ | ⟨b, c, rfl, _⟩
  · exact ⟨_, _, rfl⟩
  · exact ⟨_, _, rfl⟩

end Go.Proofs.YtgmjjhmnchefbaaGreatDoor

/- Contract of what a rule works with. -/
namespace Go.Proofs.YtgmjjhmnchefbaaGreatDoor
open Go.RowKit

end Go.Proofs.YtgmjjhmnchefbaaGreatDoor

/- Contracts of package rule: whether a rule is too big, its target, what it has no use for. -/
namespace Go.Proofs.YtgmjjhmnchefbaaGreatDoor
open Go.RowKit

structure Use where
  text : Bool
  regex : Bool
  target : Bool
  repl : Bool
  modulus : Bool
def Use.cells (u : Use) : List Value := [.bool u.text, .bool u.regex, .bool u.target, .bool u.repl, .bool u.modulus]
end Go.Proofs.YtgmjjhmnchefbaaGreatDoor

/- Contracts of what an action does, as far as a rule that raises texts and one that keeps ask. -/
namespace Go.Proofs.YtgmjjhmnchefbaaGreatDoor
open Go.RowKit

def usesL : List Use := [⟨true, true, true, true, false⟩, ⟨true, true, false, false, false⟩, ⟨true, true, false, false, false⟩, ⟨true, false, true, false, false⟩, ⟨true, false, true, false, false⟩, ⟨true, false, true, false, true⟩, ⟨false, true, false, true, false⟩, ⟨false, true, false, false, false⟩, ⟨false, true, false, false, false⟩, ⟨true, false, true, false, false⟩, ⟨true, false, true, false, false⟩]
def UB (w : World) : Prop := 1 < w.heap.size ∧ ∀ (n : Nat) (u : Use), usesL[n]? = some u → w.rangeAt 1 (n * 5) u.cells
theorem UB.ex {l : List Nat} {w w' : World} (h : UB w) (hx : Ex l w w') (hn : 1 ∉ l) : UB w' :=
  ⟨Nat.lt_of_lt_of_le h.1 hx.size, fun n u hu j v hv => (World.cell?_of_block (hx.block _ h.1 hn)).trans (h.2 n u hu j v hv)⟩

end Go.Proofs.YtgmjjhmnchefbaaGreatDoor

/- Contracts of package rule: texts in the other case. -/
namespace Go.Proofs.YtgmjjhmnchefbaaGreatDoor
open Go.RowKit

def BB (w : World) (b : Nat) (l : List UInt8) : Prop := ∃ C : Array Value, BK w b (.cells C 5 (C.size, C.size + 1)) ∧ l.length ≤ C.size ∧ ∀ j, j < l.length → C[j]? = (l[j]?).map fun x => Value.int .u8 x.toNat

theorem BB.cell {w : World} {b : Nat} {l : List UInt8} (h : BB w b l) (j : Nat) (hj : j < l.length) : w.cell? ⟨b, j, none⟩ = some (.int .u8 (l[j]'hj).toNat) := by
  obtain ⟨C, hb, hl, hc⟩ := h
  rw [cell_of_row w b j C 5 (C.size, C.size + 1) hb, hc j hj, List.getElem?_eq_getElem hj]
  rfl
theorem BB.lt {w : World} {b : Nat} {l : List UInt8} (h : BB w b l) : b < w.heap.size := by
  obtain ⟨C, hb, hl, hc⟩ := h
  exact hb.lt
theorem BB.set {w : World} {b : Nat} {l : List UInt8} (h : BB w b l) (i : Nat) (y : UInt8) : BB (w.setCell ⟨b, i, none⟩ (.int .u8 y.toNat)) b (l.set i y) := by
  obtain ⟨C, hb, hl, hc⟩ := h
  refine ⟨C.setIfInBounds i (.int .u8 y.toNat), ?_, by simpa using hl, fun j hj => ?_⟩
  · unfold BK at hb ⊢
    simp [World.setCell, Array.getElem?_modify, hb]
  · simp only [List.length_set] at hj
    by_cases e : i = j
    · subst e
      rw [Array.getElem?_setIfInBounds_self_of_lt (by omega), List.getElem?_set_self hj]; rfl
    · rw [Array.getElem?_setIfInBounds_ne e, List.getElem?_set_ne e]; exact hc j hj
theorem BB.ex {l0 : List Nat} {w w' : World} {b : Nat} {l : List UInt8} (h : BB w b l) (hx : Ex l0 w w') (hn : b ∉ l0) : BB w' b l := by
  obtain ⟨C, hb, hl, hc⟩ := h
  exact ⟨C, hb.ex hx hn, hl, hc⟩
theorem BB.new (w : World) (s : ByteArray) (cap : Nat) : BB (w.alloc (.cells (bytesRow s cap) 5 ((bytesRow s cap).size, (bytesRow s cap).size + 1))) w.heap.size s.data.toList := by
  refine ⟨_, BK.new _ _, ?_, fun j hj => ?_⟩
  · simp [bytesRow]
  · have hj' : j < s.data.size := by simpa using hj
    unfold bytesRow
    rw [Array.getElem?_append_left (by simpa using hj')]
    simp

end Go.Proofs.YtgmjjhmnchefbaaGreatDoor

/- Contracts: the value of a label; strings.Join of none and of one. -/
namespace Go.Proofs.YtgmjjhmnchefbaaGreatDoor
open Go.RowKit

def valN (ls : List Lab) (t : ByteArray) : ByteArray := if thereN ls t then match ls[posN ls t]? with | some l => l.2 | none => ⟨#[]⟩ else ⟨#[]⟩

theorem LT.sl {w : World} {q base : Nat} {ls : List Lab} (h : LT w q base ls) : ∃ v, BK w q (.cells #[v] 232 (0, 0)) ∧ SL w v ls ∧ v.ownBlock ≠ some q := by
  obtain ⟨v, hb, ho, hn⟩ := h.ex
  exact ⟨v, hb, own_sl ho, hn⟩

end Go.Proofs.YtgmjjhmnchefbaaGreatDoor

/- Contracts: the text of one source; a rule that raises it. -/
namespace Go.Proofs.YtgmjjhmnchefbaaGreatDoor
open Go.RowKit

end Go.Proofs.YtgmjjhmnchefbaaGreatDoor

/- The text of a rule: the values of its sources, joined. -/
namespace Go.Proofs.YtgmjjhmnchefbaaGreatDoor.G
open Go.RowKit

def joinB (ss : List ByteArray) (se : ByteArray) : ByteArray := ⟨(Lib.join (ss.map (·.data.toList)) se.data.toList).toArray⟩
def textN (ls : List Lab) (ss : List ByteArray) (se : ByteArray) : ByteArray := joinB (ss.map (valN ls)) se
end Go.Proofs.YtgmjjhmnchefbaaGreatDoor.G

/- The library's table of powers. -/
namespace Go.Proofs.YtgmjjhmnchefbaaGreatDoor.G
open Go.RowKit

def PT (w : World) : Prop := Lib.TabIs Tryz.prog w "internal/strconv.uint64pow10" .u64 Lib.pow10Tab
theorem pow10_at : Tryz.prog.globalNamed "internal/strconv.uint64pow10" = some 4 := by kernel_rfl
theorem PT.block {w w' : World} (h : PT w) (hx : w'.heap[4]? = w.heap[4]?) : PT w' := by
  unfold PT Lib.TabIs World.var? at *
  rw [pow10_at] at h ⊢
  simp only [Option.bind_some] at h ⊢
  rw [hx]
  exact h
theorem PT.lt {w : World} (h : PT w) : 4 < w.heap.size := by
  unfold PT Lib.TabIs World.var? at h
  rw [pow10_at] at h
  simp only [Option.bind_some] at h
  rcases Nat.lt_or_ge 4 w.heap.size with h' | h'
  · exact h'
  · rw [Array.getElem?_eq_none h'] at h; simp at h
theorem PT.ex {w w' : World} (h : PT w) (hx : Ex [] w w') : PT w' := h.block (hx.block _ h.lt (by simp))
end Go.Proofs.YtgmjjhmnchefbaaGreatDoor.G

/- What a rule does: rules by what they do to labels, whatever their memory. -/
namespace Go.Proofs.YtgmjjhmnchefbaaGreatDoor.G
open Go.RowKit

def GL (w : World) : Prop := Lib.Utf8Tabs 2 3 w ∧ PT w
theorem GL.ex {w w' : World} (h : GL w) (hx : Ex [] w w') : GL w' := ⟨tabs_ex h.1 hx, h.2.ex hx⟩
def KB (lo hi : Nat) (w w1 : World) : Prop := w.heap.size ≤ w1.heap.size ∧ ∀ b, lo ≤ b → b < hi → w1.heap[b]? = w.heap[b]?
theorem KB.refl (lo hi : Nat) (w : World) : KB lo hi w w := ⟨Nat.le_refl _, fun _ _ _ => rfl⟩
theorem KB.trans {lo hi : Nat} {w w1 w2 : World} (h : KB lo hi w w1) (k : KB lo hi w1 w2) : KB lo hi w w2 := ⟨Nat.le_trans h.1 k.1, fun b h1 h2 => (k.2 b h1 h2).trans (h.2 b h1 h2)⟩
theorem KB.ofEx {lo hi : Nat} {w w1 : World} {l : List Nat} (h : Ex l w w1) (hl : ∀ x ∈ l, x < lo ∨ hi ≤ x) (hh : hi ≤ w.heap.size) : KB lo hi w w1 :=
  ⟨h.size, fun b h1 h2 => h.block b (by omega) (fun hm => by rcases hl b hm with e | e <;> omega)⟩
structure Fit (code : List Ins) (ng : Nat) : Prop where
  ok : CodeOK code
  tk : TakeOK code
  le : code.length ≤ 100000
  pos : 0 < code.length
  ng5 : ng ≤ 5

end Go.Proofs.YtgmjjhmnchefbaaGreatDoor.G

/- Keep, Drop, KeepEqual, DropEqual: what such a rule does. -/
namespace Go.Proofs.YtgmjjhmnchefbaaGreatDoor.G
open Go.RowKit

def eqB (a b : ByteArray) : Bool := a.toList == b.toList

end Go.Proofs.YtgmjjhmnchefbaaGreatDoor.G

/- Labels taken away: slices.IndexFunc and DeleteFunc, whatever is chosen. -/
namespace Go.Proofs.YtgmjjhmnchefbaaGreatDoor.G
open Go.RowKit

def labV (l : Lab) : Value := .agg #[.string l.1, .string l.2]
end Go.Proofs.YtgmjjhmnchefbaaGreatDoor.G

/- slices.DeleteFunc at labels, whatever is chosen. -/
namespace Go.Proofs.YtgmjjhmnchefbaaGreatDoor.G
open Go.RowKit

end Go.Proofs.YtgmjjhmnchefbaaGreatDoor.G

/- LabelDrop and LabelKeep: what such a rule does. -/
namespace Go.Proofs.YtgmjjhmnchefbaaGreatDoor.G
open Go.RowKit

theorem GL.eb {hi : Nat} {w w1 : World} (h : GL w) (hx : EB hi [] w w1) (hh : 4 < hi) : GL w1 := ⟨tabs_eb h.1 hx (by omega), h.2.block (hx.block _ hh (by simp))⟩

end Go.Proofs.YtgmjjhmnchefbaaGreatDoor.G

/- Contract of rule.Make at an action. -/
namespace Go.Proofs.YtgmjjhmnchefbaaGreatDoor
open Go.RowKit

end Go.Proofs.YtgmjjhmnchefbaaGreatDoor

/- A series rewritten by rules, whatever they do. -/
namespace Go.Proofs.YtgmjjhmnchefbaaGreatDoor.G
open Go.RowKit

theorem KB.sub {lo hi l h : Nat} {w w1 : World} (k : KB lo hi w w1) (h1 : lo ≤ l) (h2 : h ≤ hi) : KB l h w w1 := ⟨k.1, fun b e1 e2 => k.2 b (by omega) (by omega)⟩
end Go.Proofs.YtgmjjhmnchefbaaGreatDoor.G

/- Contracts: a rule that raises a text, applied; a series rewritten by it alone. -/
namespace Go.Proofs.YtgmjjhmnchefbaaGreatDoor
open Go.RowKit

structure RU (w : World) (base b1 b2 : Nat) (p : Option Addr) (c : Nat) (a1 se : ByteArray) (pp : Option Addr) (ta rp : ByteArray) (mo : Int) : Prop where
  h1 : BK w b1 (.cells #[.slice p 1 c, .string se, .pointer pp, .string ta, .string rp, .int .u64 mo] 170 (0, 0))
  h2 : BK w b2 (.cells #[.func (.func 89) #[] #[]] 188 (0, 0))
  hs : SS w (.slice p 1 c) [a1]
  l1 : b1 < base
  l2 : b2 < base
def upFn (b1 b2 : Nat) : Value := .func (.func 119) #[] #[.pointer (some ⟨b1, 0, none⟩), .pointer (some ⟨b2, 0, none⟩)]
theorem RU.ex0 {w w' : World} {base b1 b2 : Nat} {p : Option Addr} {c : Nat} {a1 se : ByteArray} {pp : Option Addr} {ta rp : ByteArray} {mo : Int} (h : RU w base b1 b2 p c a1 se pp ta rp mo) (hx : Ex [] w w') : RU w' base b1 b2 p c a1 se pp ta rp mo :=
  ⟨h.h1.ex hx (by simp), h.h2.ex hx (by simp), h.hs.ex0 hx, h.l1, h.l2⟩

end Go.Proofs.YtgmjjhmnchefbaaGreatDoor

/- Contracts: a series rewritten by one rule that raises a text. -/
namespace Go.Proofs.YtgmjjhmnchefbaaGreatDoor
open Go.RowKit
end Go.Proofs.YtgmjjhmnchefbaaGreatDoor

/- Contracts of Load: too many rules; one rule that raises a text. -/
namespace Go.Proofs.YtgmjjhmnchefbaaGreatDoor
open Go.RowKit

def DU (lo : Nat) (a1 se ta rp : ByteArray) (mo : Int) (w : World) (fv : Value) : Prop := ∃ b1 b2 p c pp, fv = upFn b1 b2 ∧ RU w w.heap.size b1 b2 p c a1 se pp ta rp mo ∧ lo ≤ b1 ∧ lo ≤ b2 ∧ ∀ k, (Value.slice p 1 c).ownBlock = some k → lo ≤ k
theorem DU.ex {lo : Nat} {a1 se ta rp : ByteArray} {mo : Int} {w w' : World} {fv : Value} {l : List Nat} (h : DU lo a1 se ta rp mo w fv) (hx : Ex l w w') (hl : ∀ b, b ∈ l → b < lo) : DU lo a1 se ta rp mo w' fv := by
  obtain ⟨b1, b2, p, c, pp, rfl, hr, h1, h2, h3⟩ := h
  refine ⟨b1, b2, p, c, pp, rfl, ⟨hr.h1.ex hx (fun hm => by have := hl _ hm; omega), hr.h2.ex hx (fun hm => by have := hl _ hm; omega), hr.hs.ex hx (fun k hk hm => by have := hl _ hm; have := h3 k hk; omega), Nat.lt_of_lt_of_le hr.l1 hx.size, Nat.lt_of_lt_of_le hr.l2 hx.size⟩, h1, h2, h3⟩

end Go.Proofs.YtgmjjhmnchefbaaGreatDoor

/- Load: rules that are right, one behind the other. -/
namespace Go.Proofs.YtgmjjhmnchefbaaGreatDoor.G
open Go.RowKit

structure AR where
  act : Int
  p : Option Addr
  n : Nat
  c : Nat
  se : ByteArray
  re : ByteArray
  ta : ByteArray
  rp : ByteArray
  mo : Int
def AR.cells (r : AR) : List Value := [.int .i64 r.act, .slice r.p r.n r.c, .string r.se, .string r.re, .string r.ta, .string r.rp, .int .u64 r.mo]
def AR.val (r : AR) : Value := ruleV r.act (.slice r.p r.n r.c) r.se r.re r.ta r.rp r.mo
def AL (w : World) (v : Value) (rs : List AR) : Prop :=
  ∃ p c, v = .slice p rs.length c ∧ ∀ i r, rs[i]? = some r → ∃ b off, p = some ⟨b, off, none⟩ ∧ b < w.heap.size ∧ ∀ o, o < 7 → w.cell? ⟨b, off + i * 7 + o, none⟩ = r.cells[o]?
theorem AL.slice {w : World} {v : Value} {rs : List AR} (h : AL w v rs) : ∃ p c, v = .slice p rs.length c := by
  obtain ⟨p, c, h, _⟩ := h
  exact ⟨p, c, h⟩
theorem AL.ex0 {w w' : World} {v : Value} {rs : List AR} (h : AL w v rs) (hx : Ex [] w w') : AL w' v rs := by
  obtain ⟨p, c, hv, h⟩ := h
  refine ⟨p, c, hv, fun i r hi => ?_⟩
  obtain ⟨b, off, h1, hb, hc⟩ := h i r hi
  exact ⟨b, off, h1, Nat.lt_of_lt_of_le hb hx.size, fun o ho => (hx.cell0.1 b _ hb).trans (hc o ho)⟩

end Go.Proofs.YtgmjjhmnchefbaaGreatDoor.G

/- rule.Make at an action, and what is known of the pattern that was read. -/
namespace Go.Proofs.YtgmjjhmnchefbaaGreatDoor.G
open Go.RowKit

end Go.Proofs.YtgmjjhmnchefbaaGreatDoor.G

/- Make, at actions whose rules keep, drop or part labels by a pattern. -/
namespace Go.Proofs.YtgmjjhmnchefbaaGreatDoor.G
open Go.RowKit

def patC (t : ByteArray) : List Ins := match readM t with | .ok p _ => progM p | .bad _ => []
def patN (t : ByteArray) : Nat := match readM t with | .ok _ s => s.g | .bad _ => 0
def patM (t : ByteArray) : List (ByteArray × Nat) := match readM t with | .ok _ s => s.nm | .bad _ => []
def goodP (t : ByteArray) : Bool := goodB t && decide (patN t ≤ 5) && decide (t.size ≤ 60)
theorem fit_of {t : ByteArray} (h : goodP t = true) : Fit (patC t) (patN t) := by
  simp only [goodP, Bool.and_eq_true, decide_eq_true_eq] at h
  obtain ⟨⟨h1, h2⟩, h3⟩ := h
  unfold goodB at h1
  unfold patC
  cases hr : readM t with
  | bad s => rw [hr] at h1; simp at h1
  | ok p s =>
    rw [hr] at h1
    simp only [Bool.and_eq_true, decide_eq_true_eq] at h1
    obtain ⟨c1, c2⟩ := codeOK_of h1.2
    have hl := progM_len p
    exact ⟨c1, c2, by show (progM p).length ≤ 100000; have := h1.1.2; omega, by show 0 < (progM p).length; omega, h2⟩
theorem readsP {w : World} {t : ByteArray} {x : EV} (hev : w.cell? ⟨0, 0, none⟩ = some (.iface x.1 x.2)) (h : goodP t = true) (w1 : World) (hx : Ex [] w w1) :
    Calls Tryz.prog 10 #[.string t] w1 fun e w' => ∃ q, e = .returned (.tuple #[.pointer (some ⟨q, 0, none⟩), .int .i64 0, .bool true]) ∧ PG w' q w1.heap.size (patC t) (patN t) (patM t) ∧ Ex [] w1 w' := by
  simp only [goodP, Bool.and_eq_true, decide_eq_true_eq] at h
  obtain ⟨p, s, hr, hc⟩ := gRead_ok (w := w1) (x := x) ((hx.cell0.1 _ _ (lt_of_cell hev)).trans hev) h.2 (NP.all t) h.1.1
  have e1 : patC t = progM p := by unfold patC; rw [hr]
  have e2 : patN t = s.g := by unfold patN; rw [hr]
  have e3 : patM t = s.nm := by unfold patM; rw [hr]
  rw [e1, e2, e3]
  exact hc
def PatP (re : ByteArray) (lo : Nat) (w : World) (pp : Option Addr) : Prop := ∃ q, pp = some ⟨q, 0, none⟩ ∧ PG w q lo (patC re) (patN re) (patM re)
theorem PatP.ex {re : ByteArray} (lo : Nat) (w1 w2 : World) (pp : Option Addr) (h : PatP re lo w1 pp) (hx : Ex [] w1 w2) : PatP re lo w2 pp := by
  obtain ⟨q, rfl, hp⟩ := h
  exact ⟨q, rfl, hp.ex' hx⟩
def F1 (ss : List ByteArray) (se re : ByteArray) : List Lab → List Lab × Bool := fun ls => (ls, (matchM (patC re) (textN ls ss se)).isSome)
def F2 (ss : List ByteArray) (se re : ByteArray) : List Lab → List Lab × Bool := fun ls => (ls, !(matchM (patC re) (textN ls ss se)).isSome)
def F3 (ss : List ByteArray) (se ta : ByteArray) : List Lab → List Lab × Bool := fun ls => (ls, eqB (textN ls ss se) (valN ls ta))
def F4 (ss : List ByteArray) (se ta : ByteArray) : List Lab → List Lab × Bool := fun ls => (ls, !eqB (textN ls ss se) (valN ls ta))
def F7 (re : ByteArray) : List Lab → List Lab × Bool := fun ls => (ls.filter fun l => !(matchM (patC re) l.1).isSome, true)
def F8 (re : ByteArray) : List Lab → List Lab × Bool := fun ls => (ls.filter fun l => (matchM (patC re) l.1).isSome, true)
end Go.Proofs.YtgmjjhmnchefbaaGreatDoor.G

/- Relabel, whatever the rules do: what is asked for is rewritten. -/
namespace Go.Proofs.YtgmjjhmnchefbaaGreatDoor.G
open Go.RowKit

end Go.Proofs.YtgmjjhmnchefbaaGreatDoor.G

/- Contracts: two lists of labels held against each other; an engine with a rule. -/
namespace Go.Proofs.YtgmjjhmnchefbaaGreatDoor
open Go.RowKit

end Go.Proofs.YtgmjjhmnchefbaaGreatDoor

/- The statements' own small functions: pick, name, short, labels, get. -/
namespace Go.Proofs.YtgmjjhmnchefbaaGreatDoor.G
open Go.RowKit

end Go.Proofs.YtgmjjhmnchefbaaGreatDoor.G
