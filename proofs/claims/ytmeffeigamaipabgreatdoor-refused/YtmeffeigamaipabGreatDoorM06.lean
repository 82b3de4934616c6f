/- D3 B3, one behind the other. -/
import Derived.Test.YtmeffeigamaipabGreatDoorM05
import Derived.Test.YtmeffeigamaipabGreatDoorM04
import Derived.Great.BuildSlice
set_option linter.unusedVariables false
set_option linter.unusedSimpArgs false
/- What a memory holds; contract of (*memory.Memory).remember where there is room. -/
namespace Go.Proofs.YtmeffeigamaipabGreatDoor
open Go.RowKit

/-- A block of labels. -/
def IsLabs (w : World) (k : Nat) : Prop := ∃ cur fr, BK w k (.cells cur 48 fr)
theorem IsLabs.ex {w w' : World} {k : Nat} {o : List Nat} (h : IsLabs w k) (hx : Ex o w w') (hk : k ∉ o) : IsLabs w' k := by
  obtain ⟨cur, fr, hb⟩ := h
  exact ⟨cur, fr, hb.ex hx hk⟩
theorem IsLabs.lt {w : World} {k : Nat} (h : IsLabs w k) : k < w.heap.size := by
  obtain ⟨cur, fr, hb⟩ := h
  exact hb.lt
theorem own_labs {w : World} {base n : Nat} {v : Value} {xs : List Value} (h : w.ownsRow base 48 2 v n xs) : ∀ k, v.ownBlock = some k → IsLabs w k := fun k hk => by
  rcases h.2 with ⟨rfl, _⟩ | ⟨g, cap, cur, rfl, _, hg, _⟩
  · cases hk
  · cases hk; exact ⟨cur, _, hg⟩

/-- An answer that is remembered: its list lies in memory of its own. -/
def AnsOk (R : List Value → List Lab → Bool → Prop) (w : World) (base : Nat) (tv : Value) (e : MapEntry) : Prop :=
  ∃ S sl ls b, e.key = .agg S.toArray ∧ e.val = ansV sl b ∧ SL w sl ls ∧ ls.length ≤ 60 ∧ R S ls b ∧ ∀ k, sl.ownBlock = some k → base ≤ k ∧ tv.ownBlock ≠ some k ∧ IsLabs w k

theorem AnsOk.ex {R : List Value → List Lab → Bool → Prop} {w w' : World} {base : Nat} {tv : Value} {e : MapEntry} {o : List Nat} (h : AnsOk R w base tv e) (hx : Ex o w w') (ho : ∀ k ∈ o, k < base ∨ tv.ownBlock = some k) : AnsOk R w' base tv e := by
  obtain ⟨S, sl, ls, b, h1, h2, h3, h4, h5, h6⟩ := h
  have hno : ∀ k, sl.ownBlock = some k → k ∉ o := fun k hk hm => by
    obtain ⟨hb, hn, _⟩ := h6 k hk
    rcases ho k hm with h | h
    · omega
    · exact hn h
  exact ⟨S, sl, ls, b, h1, h2, h3.ex hx hno, h4, h5, fun k hk => ⟨(h6 k hk).1, (h6 k hk).2.1, (h6 k hk).2.2.ex hx (hno k hk)⟩⟩

theorem AnsOk.tv {R : List Value → List Lab → Bool → Prop} {w : World} {base : Nat} {tv tv' : Value} {e : MapEntry} (h : AnsOk R w base tv e) (ht : tv'.ownBlock = tv.ownBlock ∨ ∃ k, tv'.ownBlock = some k ∧ w.heap.size ≤ k) : AnsOk R w base tv' e := by
  obtain ⟨S, sl, ls, b, h1, h2, h3, h4, h5, h6⟩ := h
  refine ⟨S, sl, ls, b, h1, h2, h3, h4, h5, fun k hk => ⟨(h6 k hk).1, fun hkk => ?_, (h6 k hk).2.2⟩⟩
  rcases ht with ht | ⟨k', ht, hle⟩
  · rw [ht] at hkk; exact (h6 k hk).2.1 hkk
  · rw [ht] at hkk
    cases hkk
    rcases h3 with ⟨rfl, _⟩ | ⟨b', c, rfl, hb, _⟩
    · cases hk
    · cases hk; exact absurd hb (Nat.not_lt.2 hle)

/-- .. while other memory turns. -/
theorem AnsOk.step {R : List Value → List Lab → Bool → Prop} {w w' : World} {base : Nat} {tv tv' : Value} {e : MapEntry} {o : List Nat} (h : AnsOk R w base tv e) (hx : Ex o w w') (ho : ∀ k ∈ o, k < base ∨ tv.ownBlock = some k)
    (ht : tv'.ownBlock = tv.ownBlock ∨ tv'.ownBlock = none ∨ ∃ k, tv'.ownBlock = some k ∧ w.heap.size ≤ k) : AnsOk R w' base tv' e := by
  rcases ht with ht | ht | ht
  · exact (h.tv (.inl ht)).ex hx (by rw [ht]; exact ho)
  · obtain ⟨S, sl, ls, b, h1, h2, h3, h4, h5, h6⟩ := h.ex hx ho
    exact ⟨S, sl, ls, b, h1, h2, h3, h4, h5, fun k hk => ⟨(h6 k hk).1, by rw [ht]; simp, (h6 k hk).2.2⟩⟩
  · obtain ⟨S, sl, ls, b, h1, h2, h3, h4, h5, h6⟩ := h.ex hx ho
    obtain ⟨S', sl', ls', b', g1, g2, g3, g4, g5, g6⟩ := h.tv (.inr ht)
    have hsl : sl = sl' := by
      have := h2.symm.trans g2
      simp only [ansV, Value.agg.injEq] at this
      have := congrArg Array.toList this
      simpa using (List.cons.inj this).1
    subst hsl
    exact ⟨S, sl, ls, b, h1, h2, h3, h4, h5, fun k hk => ⟨(h6 k hk).1, (g6 k hk).2.1, (h6 k hk).2.2⟩⟩

/-- A memory with room for so many answers; ts: the series in the order in which they came. -/
structure MM (R : List Value → List Lab → Bool → Prop) (w : World) (m mb base room : Nat) (ts : List (List Value)) (tv : Value) (es : Array MapEntry) (clk : Nat) : Prop where
  blk : BK w m (.cells #[.map (some mb), tv, .int .i64 room] 94 (0, 0))
  map : BK w mb (.map es clk)
  row : w.ownsRow base 72 41 tv ts.length ts.flatten
  keys : (es.toList.map (·.key)).Perm (ts.map fun S => .agg S.toArray)
  ans : ∀ e ∈ es.toList, AnsOk R w base tv e
  ok : ∀ S ∈ ts, SerOk S
  nodup : ts.Nodup
  len : ts.length ≤ room
  room1 : 1 ≤ room
  room50 : room ≤ 50
  mlt : m < base
  mblt : mb < base
  ne : m ≠ mb
  le : base ≤ w.heap.size

theorem MM.keysOk {R : List Value → List Lab → Bool → Prop} {w : World} {m mb base room : Nat} {ts : List (List Value)} {tv : Value} {es : Array MapEntry} {clk : Nat} (h : MM R w m mb base room ts tv es clk) : KeysOk es := fun e he => by
  have := h.keys.mem_iff.1 (List.mem_map.2 ⟨e, he, rfl⟩)
  obtain ⟨S, hS, hk⟩ := List.mem_map.1 this
  exact ⟨S, h.ok S hS, hk.symm⟩
theorem MM.size {R : List Value → List Lab → Bool → Prop} {w : World} {m mb base room : Nat} {ts : List (List Value)} {tv : Value} {es : Array MapEntry} {clk : Nat} (h : MM R w m mb base room ts tv es clk) : es.size = ts.length := by
  have := h.keys.length_eq
  simpa using this
theorem MM.not_mem {R : List Value → List Lab → Bool → Prop} {w : World} {m mb base room : Nat} {ts : List (List Value)} {tv : Value} {es : Array MapEntry} {clk : Nat} (h : MM R w m mb base room ts tv es clk) {S : List Value} (hS : S ∉ ts) : ∀ e ∈ es.toList, e.key ≠ .agg S.toArray := fun e he hk => by
  have := h.keys.mem_iff.1 (List.mem_map.2 ⟨e, he, hk⟩)
  obtain ⟨S', hS', hk'⟩ := List.mem_map.1 this
  have : S' = S := by
    have := congrArg Array.toList (Value.agg.inj hk')
    simpa using this
  exact hS (this ▸ hS')
theorem MM.mem {R : List Value → List Lab → Bool → Prop} {w : World} {m mb base room : Nat} {ts : List (List Value)} {tv : Value} {es : Array MapEntry} {clk : Nat} (h : MM R w m mb base room ts tv es clk) {S : List Value} (hS : S ∈ ts) : ∃ e ∈ es.toList, e.key = .agg S.toArray := by
  have := h.keys.mem_iff.2 (List.mem_map.2 ⟨S, hS, rfl⟩)
  obtain ⟨e, he, hk⟩ := List.mem_map.1 this
  exact ⟨e, he, hk⟩

theorem MM.ex {R : List Value → List Lab → Bool → Prop} {w w' : World} {m mb base room : Nat} {ts : List (List Value)} {tv : Value} {es : Array MapEntry} {clk : Nat} {o : List Nat} (h : MM R w m mb base room ts tv es clk) (hx : Ex o w w') (ho : ∀ k ∈ o, k < base ∧ k ≠ m ∧ k ≠ mb) : MM R w' m mb base room ts tv es clk where
  blk := h.blk.ex hx (fun hm => (ho m hm).2.1 rfl)
  map := h.map.ex hx (fun hm => (ho mb hm).2.2 rfl)
  row := own_ex h.row hx (fun x hm => (ho x hm).1)
  keys := h.keys
  ans := fun e he => (h.ans e he).ex hx (fun k hk => .inl (ho k hk).1)
  ok := h.ok
  nodup := h.nodup
  len := h.len
  room1 := h.room1
  room50 := h.room50
  mlt := h.mlt
  mblt := h.mblt
  ne := h.ne
  le := Nat.le_trans h.le hx.size

theorem plain_flat {ts : List (List Value)} (h : ∀ S ∈ ts, SerOk S) : Plain ts.flatten := by
  intro u hu
  obtain ⟨S, hS, hu⟩ := List.mem_flatten.1 hu
  obtain ⟨hl, hs, n, _, h40⟩ := h S hS
  obtain ⟨i, hi, rfl⟩ := List.getElem_of_mem hu
  by_cases h4 : i < 40
  · obtain ⟨x, hx, _⟩ := hs i h4
    rw [List.getElem?_eq_getElem hi] at hx
    rw [Option.some.inj hx]; rfl
  · have : i = 40 := by omega
    subst this
    rw [List.getElem?_eq_getElem hi] at h40
    rw [Option.some.inj h40]; rfl
theorem SerOk.plain {S : List Value} (h : SerOk S) : ∀ u ∈ S, u.oneCell' = true := by
  have := plain_flat (ts := [S]) (by simpa using h)
  simpa [Plain] using this

/-- A cell of a block of another kind is written. -/
theorem MM.set {R : List Value → List Lab → Bool → Prop} {w : World} {m mb base room : Nat} {ts : List (List Value)} {tv : Value} {es : Array MapEntry} {clk : Nat} (h : MM R w m mb base room ts tv es clk) {q : Nat} {cs : Array Value} {t : TypeId} {fr : Nat × Nat}
    (hq : BK w q (.cells cs t fr)) (h1 : t ≠ 48) (h2 : t ≠ 72) (h3 : q ≠ m) (i : Nat) (u : Value) : MM R (w.setCell ⟨q, i, none⟩ u) m mb base room ts tv es clk := by
  have hmb : q ≠ mb := fun e => by have := h.map; subst e; unfold BK at this hq; rw [this] at hq; cases hq
  have hx : Ex [q] w (w.setCell ⟨q, i, none⟩ u) := (Ex.refl _ _).setCell (.inl (by simp)) _
  have hrow : ∀ k, tv.ownBlock = some k → k ≠ q := fun k hk e => by
    subst e
    rcases h.row.2 with ⟨rfl, _⟩ | ⟨g, cap, cur, rfl, _, hg, _⟩
    · cases hk
    · cases hk
      unfold BK at hq; rw [hg] at hq; cases hq; exact h2 rfl
  refine ⟨h.blk.ex hx (by simpa using Ne.symm h3), h.map.ex hx (by simpa using Ne.symm hmb), own_exn h.row hx (fun k hk => by simpa using hrow k hk), h.keys, fun e he => ?_, h.ok, h.nodup, h.len, h.room1, h.room50, h.mlt, h.mblt, h.ne, by simpa using h.le⟩
  obtain ⟨S, sl, ls, b, g1, g2, g3, g4, g5, g6⟩ := h.ans e he
  have hk : ∀ k, sl.ownBlock = some k → k ∉ [q] := fun k hk hm => by
    simp only [List.mem_singleton] at hm
    subst hm
    obtain ⟨_, _, cur, fr', hb⟩ := g6 k hk
    unfold BK at hb hq; rw [hb] at hq; cases hq; exact h1 rfl
  exact ⟨S, sl, ls, b, g1, g2, g3.ex hx hk, g4, g5, fun k hkk => ⟨(g6 k hkk).1, (g6 k hkk).2.1, (g6 k hkk).2.2.ex hx (hk k hkk)⟩⟩
end Go.Proofs.YtmeffeigamaipabGreatDoor

/- Laws of no program: a slice of one struct, laid out of the struct's cells. -/
namespace Go.Proofs.YtmeffeigamaipabGreatDoor
open Go.RowKit

theorem fill_seg : ∀ (S : List Value) (k : Nat) (C : Array Value), k + S.length ≤ C.size → (S.zipIdx k).foldl (fun (cs : Array Value) (x : Value × Nat) => cs.setIfInBounds (0 + x.2) x.1) C = (C.toList.take k ++ S ++ C.toList.drop (k + S.length)).toArray
  | [], k, C, h => by simp
  | v :: r, k, C, h => by
    have e := list_seg_step C.toList k v r (by simp at h ⊢; omega)
    rw [List.zipIdx_cons, List.foldl_cons, fill_seg r (k + 1) _ (by simp at h ⊢; omega)]
    congr 1
    simpa [Array.toList_setIfInBounds, Nat.add_assoc] using e

theorem fill_one {S : List Value} {n : Nat} {C : Array Value} (hS : S.length = n) (hC : C.size = n) : Instr.fill (fun i => some (i * n, n)) C [(0, .agg S.toArray)] = some S.toArray := by
  have h := fill_seg S 0 C (by omega)
  unfold Instr.fill
  simp only [Nat.zero_mul, Value.cells, List.size_toArray, hS, hC]
  rw [if_neg (by simp)]
  unfold Instr.fill
  congr 1
  rw [← Array.foldl_toList, Array.toList_zipIdx]
  simp only [List.take_zero, List.nil_append, Nat.zero_add] at h
  rw [List.drop_of_length_le (by rw [Array.length_toList]; omega), List.append_nil] at h
  simpa using h
/-- 'delete' whose run is known by an equation. -/
theorem wp_delete_run {P : Program} (w : World) {o : Oper} {a : Act} {K : Act → World → Prop} {Q : Exit → Act → World → Prop} (x k : Operand) (t kt : TypeId)
    (ho : o.op = .call { callee := .builtin .delete, args := #[x, k], argTypes := #[t, kt] }) (v u : Value) (hx : a.eval x = v) (hk : a.eval k = u) {v' : Value} {w' : World}
    (hr : (Builtin.delete_ #[t, kt] o.type #[v, u]).run P w = .ok v' w') (h : K (a.put o.dst v') w') : o.wp P a w K Q := by
  unfold Oper.wp execOp
  simp only [ho, resolve, invoke, builtin, Sem.run_bind, Sem.run_pure, Result.andThen_ok, List.map_toArray, List.map_cons, List.map_nil, hx, hk, hr]
  exact h
end Go.Proofs.YtmeffeigamaipabGreatDoor
