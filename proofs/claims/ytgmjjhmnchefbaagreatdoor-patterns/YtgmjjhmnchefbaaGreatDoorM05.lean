/- D1 D2 D3 D4 D5 D6 D7 D8 E1 E2 E3 E4, one behind the other. -/
import Derived.Test.YtgmjjhmnchefbaaGreatDoorM02
import Derived.Maps.Keyed
import Derived.DeepKeys4
import Derived.Deep.RegionHeld3
set_option linter.unusedVariables false
set_option linter.unusedSimpArgs false
/- Series as keys of a map. -/
namespace Go.Proofs.YtgmjjhmnchefbaaGreatDoor
open Go.RowKit

theorem laidOut : laidOutB Tryz.prog = true := by kernel_rfl
theorem mapM_some {α β : Type} {f : α → Option β} : ∀ (l : List α), (∀ a ∈ l, ∃ b, f a = some b) → ∃ bs, l.mapM f = some bs
  | [], _ => ⟨[], rfl⟩
  | a :: r, h => by
    obtain ⟨b, hb⟩ := h a (by simp)
    obtain ⟨bs, hbs⟩ := mapM_some r (fun x hx => h x (by simp [hx]))
    exact ⟨b :: bs, by simp [List.mapM_cons, hb, hbs]⟩

theorem cells48 : Tryz.prog.cellsOf 210 = 2 := by kernel_rfl
theorem cells9 : Tryz.prog.cellsOf 9 = 1 := by kernel_rfl
theorem cells3 : Tryz.prog.cellsOf 3 = 1 := by kernel_rfl
theorem cells70 : Tryz.prog.cellsOf 305 = 40 := by kernel_rfl
theorem cells72 : Tryz.prog.cellsOf 307 = 41 := by kernel_rfl

theorem key_lab (d : Nat) (a b : ByteArray) (ha : a.size ≤ maxLen) (hb : b.size ≤ maxLen) : ∃ l, Tryz.prog.keyLits (d + 2) 210 [.string a, .string b] = some l := by
  have h1 : ∀ x : ByteArray, x.size ≤ maxLen → Tryz.prog.keyLits (d + 1) 9 [.string x] = some [.string x.data.toList] := fun x hx => by
    simp [Program.keyLits, Tryz.underlying9, hx]
  refine ⟨[.string a.data.toList, .string b.data.toList], ?_⟩
  unfold Program.keyLits
  simp [Tryz.underlying210, cells48, cells9, h1 a ha, h1 b hb, List.mapM_cons]

def SerOk (S : List Value) : Prop := S.length = 41 ∧ (∀ i, i < 40 → ∃ x : ByteArray, S[i]? = some (.string x) ∧ x.size ≤ maxLen) ∧ ∃ n : Nat, n ≤ 20 ∧ S[40]? = some (.int .i64 n)

theorem pair_at {S : List Value} {i : Nat} {a b : Value} (h1 : S[i]? = some a) (h2 : S[i + 1]? = some b) : (S.drop i).take 2 = [a, b] := by
  obtain ⟨hi, rfl⟩ := List.getElem?_eq_some_iff.1 h1
  obtain ⟨hj, rfl⟩ := List.getElem?_eq_some_iff.1 h2
  rw [List.drop_eq_getElem_cons hi, List.take_succ_cons, List.drop_eq_getElem_cons hj, List.take_succ_cons, List.take_zero]

theorem keyOf_ser {S : List Value} (h : SerOk S) : ∃ l, keyOf Tryz.prog 307 (.agg S.toArray) = some l := by
  obtain ⟨hlen, hs, n, hn, h40⟩ := h
  obtain ⟨m, hm⟩ : ∃ m, Tryz.prog.types.size + 1 = m + 4 := ⟨Tryz.prog.types.size - 3, by have : Tryz.prog.types.size ≥ 3 := of_decide_eq_true (by kernel_rfl); omega⟩
  have hform : (Value.agg S.toArray).formed Tryz.prog 307 = true := by simp [Value.formed, Tryz.underlying307, cells72, hlen]
  have hkt : Tryz.prog.keyType 307 = true := by kernel_rfl
  have hlast : (S.drop 40).take 1 = [.int .i64 n] := by
    obtain ⟨hi, he⟩ := List.getElem?_eq_some_iff.1 h40
    rw [List.drop_eq_getElem_cons hi, List.take_succ_cons, List.take_zero, he]
  have hint : Tryz.prog.keyLits (m + 3) 3 [.int .i64 n] = some [.int .i64 n] := by
    unfold Program.keyLits
    have : (Lit.int .i64 n).wf = true := by
      simp only [Lit.wf, decide_eq_true_eq, Bool.and_eq_true]
      constructor <;> first | omega | (show _ ≤ (9223372036854775807 : Int); omega) | (show (-9223372036854775808 : Int) ≤ _; omega)
    simp [Tryz.underlying3, this]
  have harr : ∃ l, Tryz.prog.keyLits (m + 3) 305 (S.take 40) = some l := by
    unfold Program.keyLits
    obtain ⟨bs, hbs⟩ := mapM_some (f := fun i => Tryz.prog.keyLits (m + 2) 210 (((S.take 40).drop (i * 2)).take 2)) (List.range 20) (fun i hi => by
      have hi' : i < 20 := List.mem_range.1 hi
      obtain ⟨a, ha, ha'⟩ := hs (i * 2) (by omega)
      obtain ⟨b, hb, hb'⟩ := hs (i * 2 + 1) (by omega)
      rw [pair_at (a := .string a) (b := .string b) (by rw [List.getElem?_take, if_pos (by omega)]; exact ha) (by rw [List.getElem?_take, if_pos (by omega)]; exact hb)]
      exact key_lab m a b ha' hb')
    refine ⟨bs.flatten, ?_⟩
    simp only [Tryz.underlying305, cells70, cells48, List.length_take, hlen]
    rw [if_pos (by decide), hbs]; rfl
  obtain ⟨l1, hl1⟩ := harr
  unfold keyOf
  simp only [Tryz.underlying307, hkt, hform, Bool.and_self, if_true]
  have hall : Tryz.prog.keyLits (m + 4) 307 S = some (l1 ++ [.int .i64 n]) := by
    unfold Program.keyLits
    simp [Tryz.underlying307, cells72, cells70, cells3, hlen, hl1, hlast, hint, List.mapM_cons]
  refine ⟨.string (keyBytes (l1 ++ [.int .i64 n])), ?_⟩
  rw [hm, show (Value.agg S.toArray).cells.toList = S from rfl, hall]
  rfl

end Go.Proofs.YtgmjjhmnchefbaaGreatDoor

/- The map of answers: what is looked up, laid down, taken away. -/
namespace Go.Proofs.YtgmjjhmnchefbaaGreatDoor
open Go.RowKit

def KeysOk (es : Array MapEntry) : Prop := ∀ e ∈ es.toList, ∃ S, SerOk S ∧ e.key = .agg S.toArray
theorem KeysOk.keyed {es : Array MapEntry} (h : KeysOk es) : ∀ e ∈ es.toList, ∃ l, keyOf Tryz.prog 307 e.key = some l := fun e he => by
  obtain ⟨S, hS, hk⟩ := h e he
  rw [hk]; exact keyOf_ser hS

theorem putB_bk {w : World} {b : Nat} {o o' : Obj} (h : BK w b o') : BK (putB w b o) b o := by
  have := h.lt
  simp [BK, putB, this]
end Go.Proofs.YtgmjjhmnchefbaaGreatDoor

/- What a memory holds; contract of (*memory.Memory).remember where there is room. -/
namespace Go.Proofs.YtgmjjhmnchefbaaGreatDoor
open Go.RowKit

def IsLabs (w : World) (k : Nat) : Prop := ∃ cur fr, BK w k (.cells cur 210 fr)
theorem IsLabs.ex {w w' : World} {k : Nat} {o : List Nat} (h : IsLabs w k) (hx : Ex o w w') (hk : k ∉ o) : IsLabs w' k := by
  obtain ⟨cur, fr, hb⟩ := h
  exact ⟨cur, fr, hb.ex hx hk⟩
theorem IsLabs.lt {w : World} {k : Nat} (h : IsLabs w k) : k < w.heap.size := by
  obtain ⟨cur, fr, hb⟩ := h
  exact hb.lt
def AnsOk (R : List Value → List Lab → Bool → Prop) (w : World) (base : Nat) (tv : Value) (e : MapEntry) : Prop :=
  ∃ S sl ls b, e.key = .agg S.toArray ∧ e.val = ansV sl b ∧ SL w sl ls ∧ ls.length ≤ 60 ∧ R S ls b ∧ ∀ k, sl.ownBlock = some k → base ≤ k ∧ tv.ownBlock ≠ some k ∧ IsLabs w k

theorem AnsOk.ex {R : List Value → List Lab → Bool → Prop} {w w' : World} {base : Nat} {tv : Value} {e : MapEntry} {o : List Nat} (h : AnsOk R w base tv e) (hx : Ex o w w') (ho : ∀ k ∈ o, k < base ∨ tv.ownBlock = some k) : AnsOk R w' base tv e := by
  obtain ⟨S, sl, ls, b, h1, h2, h3, h4, h5, h6⟩ := h
  have hno : ∀ k, sl.ownBlock = some k → k ∉ o := fun k hk hm => by
    obtain ⟨hb, hn, _⟩ := h6 k hk
    rcases ho k hm with h | h
    · omega
    · exact hn h
  exact ⟨S, sl, ls, b, h1, h2, h3.ex hx hno, h4, h5, fun k hk => ⟨(h6 k hk).1, (h6 k hk).2.1, (h6 k hk).2.2.ex hx (hno k hk)⟩⟩

theorem AnsOk.tv {R : List Value → List Lab → Bool → Prop} {w : World} {base : Nat} {tv tv' : Value} {e : MapEntry} (h : AnsOk R w base tv e) (ht : tv'.ownBlock = tv.ownBlock ∨ ∃ k, tv'.ownBlock = some k ∧ w.heap.size ≤ k) : AnsOk R w base tv' e := by
  obtain ⟨S, sl, ls, b, h1, h2, h3, h4, h5, h6⟩ := h
  refine ⟨S, sl, ls, b, h1, h2, h3, h4, h5, fun k hk => ⟨(h6 k hk).1, fun hkk => ?_, (h6 k hk).2.2⟩⟩
  rcases ht with ht | ⟨k', ht, hle⟩
  · rw [ht] at hkk; exact (h6 k hk).2.1 hkk
  · rw [ht] at hkk
    cases hkk
    rcases h3 with ⟨rfl, _⟩ | ⟨b', c, rfl, hb, _⟩
    · cases hk
    · cases hk; exact absurd hb (Nat.not_lt.2 hle)

theorem AnsOk.step {R : List Value → List Lab → Bool → Prop} {w w' : World} {base : Nat} {tv tv' : Value} {e : MapEntry} {o : List Nat} (h : AnsOk R w base tv e) (hx : Ex o w w') (ho : ∀ k ∈ o, k < base ∨ tv.ownBlock = some k)
    (ht : tv'.ownBlock = tv.ownBlock ∨ tv'.ownBlock = none ∨ ∃ k, tv'.ownBlock = some k ∧ w.heap.size ≤ k) : AnsOk R w' base tv' e := by
  rcases ht with ht | ht | ht
  · exact (h.tv (.inl ht)).ex hx (by rw [ht]; exact ho)
  · obtain ⟨S, sl, ls, b, h1, h2, h3, h4, h5, h6⟩ := h.ex hx ho
    exact ⟨S, sl, ls, b, h1, h2, h3, h4, h5, fun k hk => ⟨(h6 k hk).1, by rw [ht]; simp, (h6 k hk).2.2⟩⟩
  · obtain ⟨S, sl, ls, b, h1, h2, h3, h4, h5, h6⟩ := h.ex hx ho
    obtain ⟨S', sl', ls', b', g1, g2, g3, g4, g5, g6⟩ := h.tv (.inr ht)
    have hsl : sl = sl' := by
      have := h2.symm.trans g2
      simp only [ansV, Value.agg.injEq] at this
      have := congrArg Array.toList this
      simpa using (List.cons.inj this).1
    subst hsl
    exact ⟨S, sl, ls, b, h1, h2, h3, h4, h5, fun k hk => ⟨(h6 k hk).1, (g6 k hk).2.1, (h6 k hk).2.2⟩⟩

structure MM (R : List Value → List Lab → Bool → Prop) (w : World) (m mb base room : Nat) (ts : List (List Value)) (tv : Value) (es : Array MapEntry) (clk : Nat) : Prop where
  blk : BK w m (.cells #[.map (some mb), tv, .int .i64 room] 160 (0, 0))
  map : BK w mb (.map es clk)
  row : w.ownsRow base 307 41 tv ts.length ts.flatten
  keys : (es.toList.map (·.key)).Perm (ts.map fun S => .agg S.toArray)
  ans : ∀ e ∈ es.toList, AnsOk R w base tv e
  ok : ∀ S ∈ ts, SerOk S
  nodup : ts.Nodup
  len : ts.length ≤ room
  room1 : 1 ≤ room
  room50 : room ≤ 50
  mlt : m < base
  mblt : mb < base
  ne : m ≠ mb
  le : base ≤ w.heap.size

theorem MM.size {R : List Value → List Lab → Bool → Prop} {w : World} {m mb base room : Nat} {ts : List (List Value)} {tv : Value} {es : Array MapEntry} {clk : Nat} (h : MM R w m mb base room ts tv es clk) : es.size = ts.length := by
  have := h.keys.length_eq
  simpa using this
theorem MM.ex {R : List Value → List Lab → Bool → Prop} {w w' : World} {m mb base room : Nat} {ts : List (List Value)} {tv : Value} {es : Array MapEntry} {clk : Nat} {o : List Nat} (h : MM R w m mb base room ts tv es clk) (hx : Ex o w w') (ho : ∀ k ∈ o, k < base ∧ k ≠ m ∧ k ≠ mb) : MM R w' m mb base room ts tv es clk where
  blk := h.blk.ex hx (fun hm => (ho m hm).2.1 rfl)
  map := h.map.ex hx (fun hm => (ho mb hm).2.2 rfl)
  row := own_ex h.row hx (fun x hm => (ho x hm).1)
  keys := h.keys
  ans := fun e he => (h.ans e he).ex hx (fun k hk => .inl (ho k hk).1)
  ok := h.ok
  nodup := h.nodup
  len := h.len
  room1 := h.room1
  room50 := h.room50
  mlt := h.mlt
  mblt := h.mblt
  ne := h.ne
  le := Nat.le_trans h.le hx.size

theorem MM.set {R : List Value → List Lab → Bool → Prop} {w : World} {m mb base room : Nat} {ts : List (List Value)} {tv : Value} {es : Array MapEntry} {clk : Nat} (h : MM R w m mb base room ts tv es clk) {q : Nat} {cs : Array Value} {t : TypeId} {fr : Nat × Nat}
    (hq : BK w q (.cells cs t fr)) (h1 : t ≠ 210) (h2 : t ≠ 307) (h3 : q ≠ m) (i : Nat) (u : Value) : MM R (w.setCell ⟨q, i, none⟩ u) m mb base room ts tv es clk := by
  have hmb : q ≠ mb := fun e => by have := h.map; subst e; unfold BK at this hq; rw [this] at hq; cases hq
  have hx : Ex [q] w (w.setCell ⟨q, i, none⟩ u) := (Ex.refl _ _).setCell (.inl (by simp)) _
  have hrow : ∀ k, tv.ownBlock = some k → k ≠ q := fun k hk e => by
    subst e
    rcases h.row.2 with ⟨rfl, _⟩ | ⟨g, cap, cur, rfl, _, hg, _⟩
    · cases hk
    · cases hk
      unfold BK at hq; rw [hg] at hq; cases hq; exact h2 rfl
  refine ⟨h.blk.ex hx (by simpa using Ne.symm h3), h.map.ex hx (by simpa using Ne.symm hmb), own_exn h.row hx (fun k hk => by simpa using hrow k hk), h.keys, fun e he => ?_, h.ok, h.nodup, h.len, h.room1, h.room50, h.mlt, h.mblt, h.ne, by simpa using h.le⟩
  obtain ⟨S, sl, ls, b, g1, g2, g3, g4, g5, g6⟩ := h.ans e he
  have hk : ∀ k, sl.ownBlock = some k → k ∉ [q] := fun k hk hm => by
    simp only [List.mem_singleton] at hm
    subst hm
    obtain ⟨_, _, cur, fr', hb⟩ := g6 k hk
    unfold BK at hb hq; rw [hb] at hq; cases hq; exact h1 rfl
  exact ⟨S, sl, ls, b, g1, g2, g3.ex hx hk, g4, g5, fun k hkk => ⟨(g6 k hkk).1, (g6 k hkk).2.1, (g6 k hkk).2.2.ex hx (hk k hkk)⟩⟩
end Go.Proofs.YtgmjjhmnchefbaaGreatDoor

/- Contract of (*memory.Memory).remember where there is room. -/
namespace Go.Proofs.YtgmjjhmnchefbaaGreatDoor
open Go.RowKit
end Go.Proofs.YtgmjjhmnchefbaaGreatDoor

/- Contract of (*memory.Memory).remember where there is no room. -/
namespace Go.Proofs.YtgmjjhmnchefbaaGreatDoor
open Go.RowKit

end Go.Proofs.YtgmjjhmnchefbaaGreatDoor

/- Contract of (*memory.Memory).Recall: a series that is remembered. -/
namespace Go.Proofs.YtgmjjhmnchefbaaGreatDoor
open Go.RowKit

end Go.Proofs.YtgmjjhmnchefbaaGreatDoor

/- Contract of (*memory.Memory).Recall: a series that is not remembered. -/
namespace Go.Proofs.YtgmjjhmnchefbaaGreatDoor
open Go.RowKit

end Go.Proofs.YtgmjjhmnchefbaaGreatDoor

/- Contract of (*retag.Engine).Relabel, whatever its rules work out. -/
namespace Go.Proofs.YtgmjjhmnchefbaaGreatDoor
open Go.RowKit

theorem MM.alloc {R : List Value → List Lab → Bool → Prop} {w : World} {m mb base room : Nat} {ts : List (List Value)} {tv : Value} {es : Array MapEntry} {clk : Nat} (h : MM R w m mb base room ts tv es clk) (o : Obj) : MM R (w.alloc o) m mb base room ts tv es clk := h.ex ((Ex.refl [] _).alloc o) (by simp)
theorem MM.drewN {R : List Value → List Lab → Bool → Prop} {w : World} {m mb base room : Nat} {ts : List (List Value)} {tv : Value} {es : Array MapEntry} {clk : Nat} (h : MM R w m mb base room ts tv es clk) (n : Nat) : MM R (w.drewN n) m mb base room ts tv es clk := h.ex ((Ex.refl [] _).drewN n) (by simp)

section
variable {P : Program} {ops : Array Oper} {Q : Exit → Act → World → Prop} {md : Region.Mode} {S : Nat → World → Prop}
end
end Go.Proofs.YtgmjjhmnchefbaaGreatDoor

/- Contracts of Open, Cached, Flush and Load, as far as the count of what is remembered asks. -/
namespace Go.Proofs.YtgmjjhmnchefbaaGreatDoor
open Go.RowKit

end Go.Proofs.YtgmjjhmnchefbaaGreatDoor

/- Contracts of Load at a rule whose action is none; of the labels that a count asks for. -/
namespace Go.Proofs.YtgmjjhmnchefbaaGreatDoor
open Go.RowKit

def ruleV (a : Int) (so : Value) (se re ta rp : ByteArray) (mo : Int) : Value := .agg #[.int .i64 a, so, .string se, .string re, .string ta, .string rp, .int .u64 mo]

end Go.Proofs.YtgmjjhmnchefbaaGreatDoor

/- Contracts of Relabel of an engine without rules, at the lists that Counts hands in. -/
namespace Go.Proofs.YtgmjjhmnchefbaaGreatDoor
open Go.RowKit

end Go.Proofs.YtgmjjhmnchefbaaGreatDoor

/- How much is remembered: plain facts. -/
namespace Go.Proofs.YtgmjjhmnchefbaaGreatDoor
open Go.RowKit

end Go.Proofs.YtgmjjhmnchefbaaGreatDoor
