/- Series as keys of a map. -/
import Derived.Test.YtmeffeigamaipabGreatDoorC9
import Derived.Maps.Keyed
import Derived.DeepKeys4
set_option linter.unusedVariables false
set_option linter.unusedSimpArgs false
namespace Go.Proofs.YtmeffeigamaipabGreatDoor
open Go.RowKit

theorem laidOut : laidOutB Tryz.prog = true := by kernel_rfl
theorem serKeyed : Maps.Keyed Tryz.prog 72 :=
  Maps.Keyed.of_law (deep_law_laid laidOut (m := 4) (by omega) (of_decide_eq_true (by kernel_rfl)) (by kernel_rfl) (by rw [Tryz.underlying72]))

theorem mapM_some {α β : Type} {f : α → Option β} : ∀ (l : List α), (∀ a ∈ l, ∃ b, f a = some b) → ∃ bs, l.mapM f = some bs
  | [], _ => ⟨[], rfl⟩
  | a :: r, h => by
    obtain ⟨b, hb⟩ := h a (by simp)
    obtain ⟨bs, hbs⟩ := mapM_some r (fun x hx => h x (by simp [hx]))
    exact ⟨b :: bs, by simp [List.mapM_cons, hb, hbs]⟩

theorem cells48 : Tryz.prog.cellsOf 48 = 2 := by kernel_rfl
theorem cells9 : Tryz.prog.cellsOf 9 = 1 := by kernel_rfl
theorem cells3 : Tryz.prog.cellsOf 3 = 1 := by kernel_rfl
theorem cells70 : Tryz.prog.cellsOf 70 = 40 := by kernel_rfl
theorem cells72 : Tryz.prog.cellsOf 72 = 41 := by kernel_rfl

theorem key_lab (d : Nat) (a b : ByteArray) (ha : a.size ≤ maxLen) (hb : b.size ≤ maxLen) : ∃ l, Tryz.prog.keyLits (d + 2) 48 [.string a, .string b] = some l := by
  have h1 : ∀ x : ByteArray, x.size ≤ maxLen → Tryz.prog.keyLits (d + 1) 9 [.string x] = some [.string x.data.toList] := fun x hx => by
    simp [Program.keyLits, Tryz.underlying9, hx]
  refine ⟨[.string a.data.toList, .string b.data.toList], ?_⟩
  unfold Program.keyLits
  simp [Tryz.underlying48, cells48, cells9, h1 a ha, h1 b hb, List.mapM_cons]

/-- The cells of a series: forty texts and a number. -/
def SerOk (S : List Value) : Prop := S.length = 41 ∧ (∀ i, i < 40 → ∃ x : ByteArray, S[i]? = some (.string x) ∧ x.size ≤ maxLen) ∧ ∃ n : Nat, n ≤ 20 ∧ S[40]? = some (.int .i64 n)

theorem pair_at {S : List Value} {i : Nat} {a b : Value} (h1 : S[i]? = some a) (h2 : S[i + 1]? = some b) : (S.drop i).take 2 = [a, b] := by
  obtain ⟨hi, rfl⟩ := List.getElem?_eq_some_iff.1 h1
  obtain ⟨hj, rfl⟩ := List.getElem?_eq_some_iff.1 h2
  rw [List.drop_eq_getElem_cons hi, List.take_succ_cons, List.drop_eq_getElem_cons hj, List.take_succ_cons, List.take_zero]

theorem keyOf_ser {S : List Value} (h : SerOk S) : ∃ l, keyOf Tryz.prog 72 (.agg S.toArray) = some l := by
  obtain ⟨hlen, hs, n, hn, h40⟩ := h
  obtain ⟨m, hm⟩ : ∃ m, Tryz.prog.types.size + 1 = m + 4 := ⟨Tryz.prog.types.size - 3, by have : Tryz.prog.types.size ≥ 3 := of_decide_eq_true (by kernel_rfl); omega⟩
  have hform : (Value.agg S.toArray).formed Tryz.prog 72 = true := by simp [Value.formed, Tryz.underlying72, cells72, hlen]
  have hkt : Tryz.prog.keyType 72 = true := by kernel_rfl
  have hlast : (S.drop 40).take 1 = [.int .i64 n] := by
    obtain ⟨hi, he⟩ := List.getElem?_eq_some_iff.1 h40
    rw [List.drop_eq_getElem_cons hi, List.take_succ_cons, List.take_zero, he]
  have hint : Tryz.prog.keyLits (m + 3) 3 [.int .i64 n] = some [.int .i64 n] := by
    unfold Program.keyLits
    have : (Lit.int .i64 n).wf = true := by
      simp only [Lit.wf, decide_eq_true_eq, Bool.and_eq_true]
      constructor <;> first | omega | (show _ ≤ (9223372036854775807 : Int); omega) | (show (-9223372036854775808 : Int) ≤ _; omega)
    simp [Tryz.underlying3, this]
  have harr : ∃ l, Tryz.prog.keyLits (m + 3) 70 (S.take 40) = some l := by
    unfold Program.keyLits
    obtain ⟨bs, hbs⟩ := mapM_some (f := fun i => Tryz.prog.keyLits (m + 2) 48 (((S.take 40).drop (i * 2)).take 2)) (List.range 20) (fun i hi => by
      have hi' : i < 20 := List.mem_range.1 hi
      obtain ⟨a, ha, ha'⟩ := hs (i * 2) (by omega)
      obtain ⟨b, hb, hb'⟩ := hs (i * 2 + 1) (by omega)
      rw [pair_at (a := .string a) (b := .string b) (by rw [List.getElem?_take, if_pos (by omega)]; exact ha) (by rw [List.getElem?_take, if_pos (by omega)]; exact hb)]
      exact key_lab m a b ha' hb')
    refine ⟨bs.flatten, ?_⟩
    simp only [Tryz.underlying70, cells70, cells48, List.length_take, hlen]
    rw [if_pos (by decide), hbs]; rfl
  obtain ⟨l1, hl1⟩ := harr
  unfold keyOf
  simp only [Tryz.underlying72, hkt, hform, Bool.and_self, if_true]
  have hall : Tryz.prog.keyLits (m + 4) 72 S = some (l1 ++ [.int .i64 n]) := by
    unfold Program.keyLits
    simp [Tryz.underlying72, cells72, cells70, cells3, hlen, hl1, hlast, hint, List.mapM_cons]
  refine ⟨.string (keyBytes (l1 ++ [.int .i64 n])), ?_⟩
  rw [hm, show (Value.agg S.toArray).cells.toList = S from rfl, hall]
  rfl

theorem serOk {ls : List Lab} (hn : ls.length ≤ 20) (hl : ∀ l ∈ ls, l.1.size ≤ maxLen ∧ l.2.size ≤ maxLen) : SerOk (serC ls) := by
  refine ⟨serC_len hn, fun i hi => ?_, ls.length, hn, by have := ser_count hn; rwa [List.getElem?_toArray] at this⟩
  by_cases hc : i < ls.length * 2
  · obtain ⟨l, hlj⟩ : ∃ l, ls[i / 2]? = some l := ⟨_, List.getElem?_eq_getElem (by omega)⟩
    obtain ⟨h1, h2⟩ := ser_at ls (i / 2) l hlj
    obtain ⟨m1, m2⟩ := hl l (List.mem_of_getElem? hlj)
    rcases Nat.mod_two_eq_zero_or_one i with hm | hm
    · rw [show i / 2 * 2 = i by omega] at h1; exact ⟨_, h1, m1⟩
    · rw [show i / 2 * 2 + 1 = i by omega] at h2; exact ⟨_, h2, m2⟩
  · refine ⟨⟨#[]⟩, ?_, by simp [ByteArray.size]⟩
    unfold serC
    rw [List.append_assoc, List.getElem?_append_right (by rw [flat_len]; omega), flat_len, List.getElem?_append_left (by rw [List.length_replicate]; omega), List.getElem?_replicate, if_pos (by omega)]

theorem serC_inj {a b : List Lab} (ha : a.length ≤ 20) (hb : b.length ≤ 20) (h : serC a = serC b) : a = b := by
  have h1 := ser_count ha
  have h2 := ser_count hb
  rw [h, h2] at h1
  have hlen : a.length = b.length := by
    have := Option.some.inj h1
    simp only [Value.int.injEq, true_and] at this
    omega
  apply List.ext_getElem? 
  intro j
  cases hj : a[j]? with
  | none =>
    rw [List.getElem?_eq_none_iff] at hj
    exact (List.getElem?_eq_none (by omega)).symm
  | some l =>
    have hjl : j < a.length := (List.getElem?_eq_some_iff.1 hj).1
    obtain ⟨l', hl'⟩ : ∃ l', b[j]? = some l' := ⟨_, List.getElem?_eq_getElem (by omega)⟩
    obtain ⟨e1, e2⟩ := ser_at a j l hj
    obtain ⟨e3, e4⟩ := ser_at b j l' hl'
    rw [h, e3] at e1
    rw [h, e4] at e2
    have q1 := Option.some.inj e1
    have q2 := Option.some.inj e2
    simp only [Value.string.injEq] at q1 q2
    rw [hl']
    obtain ⟨x, y⟩ := l
    obtain ⟨x', y'⟩ := l'
    simp_all
end Go.Proofs.YtmeffeigamaipabGreatDoor
