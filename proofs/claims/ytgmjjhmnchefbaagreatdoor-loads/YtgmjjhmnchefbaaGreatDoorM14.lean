/- W6 K1 K2 K3 K4 K5, one behind the other. -/
import Derived.Test.YtgmjjhmnchefbaaGreatDoorM13
import Derived.Deep.RegionLaw
import Derived.Deep.AppendLies
set_option linter.unusedVariables false
set_option linter.unusedSimpArgs false
/- Contracts of the builder of programs, at what the reader made of dots. -/
namespace Go.Proofs.YtgmjjhmnchefbaaGreatDoor.Rx
open Go.RowKit

structure EB (B : Nat) (own : List Nat) (w w' : World) : Prop where
  os : w'.os = w.os
  tape : w'.tape = w.tape
  output : w'.output = w.output
  size : w.heap.size ≤ w'.heap.size
  block : ∀ k, k < B → k ∉ own → w'.heap[k]? = w.heap[k]?

theorem EB.refl (B : Nat) (l : List Nat) (w : World) : EB B l w w := ⟨rfl, rfl, rfl, Nat.le_refl _, fun _ _ _ => rfl⟩
theorem EB.drewN {B : Nat} {l : List Nat} {a w : World} (h : EB B l a w) (n : Nat) : EB B l a (w.drewN n) := ⟨h.os, h.tape, h.output, h.size, h.block⟩
theorem EB.drew {B : Nat} {l : List Nat} {a w : World} (h : EB B l a w) : EB B l a w.drew := ⟨h.os, h.tape, h.output, h.size, h.block⟩
theorem EB.trans {B : Nat} {l : List Nat} {a b c : World} (h : EB B l a b) (k : EB B l b c) : EB B l a c :=
  ⟨k.os.trans h.os, k.tape.trans h.tape, k.output.trans h.output, Nat.le_trans h.size k.size, fun i hi hn => (k.block i hi hn).trans (h.block i hi hn)⟩
theorem EB.mono {B B' : Nat} {l l' : List Nat} {a b : World} (h : EB B l a b) (hB : B' ≤ B) (hl : ∀ x, x ∈ l → x < B' → x ∈ l') : EB B' l' a b :=
  ⟨h.os, h.tape, h.output, h.size, fun i hi hn => h.block i (by omega) (fun hm => hn (hl i hm hi))⟩
theorem EB.alloc {B : Nat} {l : List Nat} {a w : World} (h : EB B l a w) (hB : B ≤ w.heap.size) (o : Obj) : EB B l a (w.alloc o) :=
  h.trans ⟨rfl, rfl, rfl, by simp, fun k hk _ => Below.heap_alloc _ _ _ (by omega)⟩
theorem EB.setCell {B : Nat} {l : List Nat} {a w : World} (h : EB B l a w) {p : Addr} (hp : p.block ∈ l ∨ B ≤ p.block) (u : Value) : EB B l a (w.setCell p u) :=
  ⟨h.os, h.tape, h.output, by simpa [World.setCell] using h.size, fun k hk hn => by
    rw [Below.heap_setCell _ _ _ _ (by rintro rfl; rcases hp with hp | hp; · exact hn hp
                                       · omega)]; exact h.block k hk hn⟩
theorem EB.grown {B : Nat} {l : List Nat} {a w w' : World} {row : Option Nat} (h : EB B l a w) (hg : w.grownBy w' row) (hB : B ≤ w.heap.size) (hr : ∀ k, row = some k → k ∈ l ∨ B ≤ k) : EB B l a w' :=
  ⟨hg.os.trans h.os, hg.tape.trans h.tape, hg.output.trans h.output, Nat.le_trans h.size hg.size, fun k hk hn =>
    (hg.block k (by omega) (fun e => by rcases hr k e.symm with h | h; · exact hn h
                                        · omega)).trans (h.block k hk hn)⟩
theorem EB.ofEx {B : Nat} {l : List Nat} {a w : World} (h : Ex l a w) (hB : B ≤ a.heap.size) : EB B l a w := ⟨h.os, h.tape, h.output, h.size, fun k hk hn => h.block k (by omega) hn⟩
theorem EB.toEx {l : List Nat} {a w : World} (h : EB a.heap.size l a w) : Ex l a w := ⟨h.os, h.tape, h.output, h.size, h.block⟩
theorem info116 : (Tryz.prog.info? 138).map (fun i => (i.zero, i.size, i.bytes)) = some (some (.agg #[.int .i64 0, .int .u64 0, .int .u64 0, .bool false, .int .i64 0, .int .i64 0, .int .i64 0]), 7, 56) := by kernel_rfl

end Go.Proofs.YtgmjjhmnchefbaaGreatDoor.Rx

/- The program that a builder lays: instructions in memory. -/
namespace Go.Proofs.YtgmjjhmnchefbaaGreatDoor.G
open Go.RowKit

structure Ins where
  op : Int
  lo : Int
  hi : Int
  hg : Bool
  t0 : Int
  t1 : Int
  sl : Int
def Ins.cells (i : Ins) : List Value := [.int .i64 i.op, .int .u64 i.lo, .int .u64 i.hi, .bool i.hg, .int .i64 i.t0, .int .i64 i.t1, .int .i64 i.sl]
def Ins.val (i : Ins) : Value := .agg #[.int .i64 i.op, .int .u64 i.lo, .int .u64 i.hi, .bool i.hg, .int .i64 i.t0, .int .i64 i.t1, .int .i64 i.sl]
def codeL (l : List Ins) : List Value := l.flatMap Ins.cells
theorem codeL_append (a b : List Ins) : codeL (a ++ b) = codeL a ++ codeL b := by simp [codeL]
theorem codeL_len (l : List Ins) : (codeL l).length = l.length * 7 := by
  induction l with
  | nil => rfl
  | cons i l ih =>
    have h1 : codeL (i :: l) = i.cells ++ codeL l := rfl
    rw [h1, List.length_append, ih]
    simp [Ins.cells]
    omega
theorem codeL_at (l : List Ins) (k o : Nat) (i : Ins) (hk : l[k]? = some i) (ho : o < 7) : (codeL l)[k * 7 + o]? = i.cells[o]? := by
  induction l generalizing k with
  | nil => simp at hk
  | cons a l ih =>
    have h1 : codeL (a :: l) = a.cells ++ codeL l := rfl
    have h2 : a.cells.length = 7 := rfl
    rw [h1]
    cases k with
    | zero =>
      simp at hk
      subst hk
      rw [List.getElem?_append_left (by omega)]; simp
    | succ k =>
      rw [List.getElem?_append_right (by omega), h2, show (k + 1) * 7 + o - 7 = k * 7 + o by omega]
      exact ih k (by simpa using hk)
def Ins.way (i : Ins) (s : Bool) (n : Nat) : Ins := if s then { i with t1 := n } else { i with t0 := n }
def wayAt (l : List Ins) (k : Nat) (s : Bool) (n : Nat) : List Ins := l.modify k fun i => i.way s n
theorem wayAt_len (l : List Ins) (k : Nat) (s : Bool) (n : Nat) : (wayAt l k s n).length = l.length := by simp [wayAt]
theorem codeL_way (l : List Ins) (k : Nat) (s : Bool) (n : Nat) (hk : k < l.length) : (codeL l).set (k * 7 + (4 + s.toNat)) (.int .i64 n) = codeL (wayAt l k s n) := by
  induction l generalizing k with
  | nil => simp at hk
  | cons a l ih =>
    have h1 : codeL (a :: l) = a.cells ++ codeL l := rfl
    have h2 : a.cells.length = 7 := rfl
    have hs : s.toNat < 2 := by cases s <;> decide
    rw [h1]
    cases k with
    | zero =>
      rw [List.set_append_left _ _ (by omega)]
      have h3 : codeL (wayAt (a :: l) 0 s n) = (a.way s n).cells ++ codeL l := rfl
      rw [h3]
      congr 1
      cases s <;> rfl
    | succ k =>
      rw [List.set_append_right _ _ (by omega), h2, show (k + 1) * 7 + (4 + s.toNat) - 7 = k * 7 + (4 + s.toNat) by omega, ih k (by simpa using hk)]
      rfl

def IB (w : World) (k : Nat) : Prop := ∃ cur fr, w.heap[k]? = some (.cells cur 138 fr)
structure BF (base b : Nat) (w w' : World) : Prop where
  os : w'.os = w.os
  tape : w'.tape = w.tape
  output : w'.output = w.output
  size : w.heap.size ≤ w'.heap.size
  block : ∀ k, k < w.heap.size → k ≠ b → (k < base ∨ ¬ IB w k) → w'.heap[k]? = w.heap[k]?
theorem BF.refl (base b : Nat) (w : World) : BF base b w w := ⟨rfl, rfl, rfl, Nat.le_refl _, fun _ _ _ _ => rfl⟩
theorem BF.trans {base b : Nat} {w w1 w2 : World} (h : BF base b w w1) (k : BF base b w1 w2) : BF base b w w2 :=
  ⟨k.os.trans h.os, k.tape.trans h.tape, k.output.trans h.output, Nat.le_trans h.size k.size, fun i hi hn hc => by
    have h1 := h.block i hi hn hc
    exact (k.block i (Nat.lt_of_lt_of_le hi h.size) hn (hc.imp id (fun hb hI => hb (by obtain ⟨c, f, he⟩ := hI; exact ⟨c, f, h1 ▸ he⟩)))).trans h1⟩
theorem BF.alloc {base b : Nat} {w w1 : World} (h : BF base b w w1) (o : Obj) : BF base b w (w1.alloc o) :=
  ⟨h.os, h.tape, h.output, by have := h.size; simp; omega, fun k hk hn hc => (((Ex.refl [] w1).alloc o).block k (Nat.lt_of_lt_of_le hk h.size) (by simp)).trans (h.block k hk hn hc)⟩
theorem BF.drew {base b : Nat} {w w1 : World} (h : BF base b w w1) : BF base b w w1.drew := ⟨h.os, h.tape, h.output, h.size, h.block⟩
theorem BF.toEB {base b : Nat} {w w1 : World} (h : BF base b w w1) (hb : base ≤ w.heap.size) : EB base [b] w w1 := ⟨h.os, h.tape, h.output, h.size, fun k hk hn => h.block k (by omega) (by simpa using hn) (.inl hk)⟩
theorem BF.setCell {base b : Nat} {w w1 : World} (h : BF base b w w1) {p : Addr} (hp : p.block = b ∨ w.heap.size ≤ p.block ∨ (base ≤ p.block ∧ IB w1 p.block)) (u : Value) : BF base b w (w1.setCell p u) :=
  ⟨h.os, h.tape, h.output, by simpa [World.setCell] using h.size, fun k hk hn hc => by
    have h1 := h.block k hk hn hc
    rw [Below.heap_setCell _ _ _ _ (fun e => by
      rcases hp with hp | hp | ⟨hp, c, f, hI⟩
      · omega
      · omega
      · rcases hc with hc | hc
        · omega
        · exact hc ⟨c, f, by rw [← h1, e]; exact hI⟩)]
    exact h1⟩
theorem BF.grown {base b : Nat} {w w1 w2 : World} {row : Option Nat} (h : BF base b w w1) (hg : w1.grownBy w2 row) (hr : ∀ k, row = some k → k = b ∨ w.heap.size ≤ k ∨ (base ≤ k ∧ IB w1 k)) : BF base b w w2 :=
  ⟨hg.os.trans h.os, hg.tape.trans h.tape, hg.output.trans h.output, Nat.le_trans h.size hg.size, fun k hk hn hc => by
    have h1 := h.block k hk hn hc
    refine (hg.block k (Nat.lt_of_lt_of_le hk h.size) (fun e => ?_)).trans h1
    rcases hr k e.symm with hp | hp | ⟨hp, c, f, hI⟩
    · omega
    · omega
    · rcases hc with hc | hc
      · omega
      · exact hc ⟨c, f, by rw [← h1]; exact hI⟩⟩
theorem BK.bf {base b : Nat} {w w' : World} {k : Nat} {cs : Array Value} {e : TypeId} {fr : Nat × Nat} (h : BK w k (.cells cs e fr)) (hx : BF base b w w') (hn : k ≠ b) (he : e ≠ 138) : BK w' k (.cells cs e fr) := by
  unfold BK at h ⊢
  rw [hx.block k (BK.lt h) hn (.inr (fun ⟨c, f, hI⟩ => he (by rw [h] at hI; cases hI; rfl)))]
  exact h

structure BG (w : World) (b base : Nat) (l : List Ins) : Prop where
  lt : b < base
  le : base ≤ w.heap.size
  ex : ∃ v, BK w b (.cells #[v] 133 (0, 0)) ∧ w.ownsRow base 138 7 v l.length (codeL l)
theorem BG.alloc {w : World} {b base : Nat} {l : List Ins} (h : BG w b base l) (o : Obj) : BG (w.alloc o) b base l := by
  obtain ⟨v, hb, ho⟩ := h.ex
  exact ⟨h.lt, by have := h.le; simp; omega, v, hb.alloc o, ho.alloc o⟩
theorem own_IB {w : World} {base n : Nat} {v : Value} {xs : List Value} (h : w.ownsRow base 138 7 v n xs) : ∀ k, v.ownBlock = some k → base ≤ k ∧ IB w k := by
  intro k hk
  rcases h.2 with ⟨rfl, _⟩ | ⟨g, cap, cur, rfl, hb, hgg, _⟩
  · simp [Value.ownBlock] at hk
  · simp [Value.ownBlock] at hk
    subst hk
    exact ⟨hb, cur, _, hgg⟩

set_option maxHeartbeats 1000000 in
set_option maxRecDepth 100000 in
theorem put_gen (i : Ins) {b base : Nat} {l : List Ins} {w : World} (hd : BG w b base l) (hn : l.length ≤ 100000) :
    Calls Tryz.prog 49 #[.pointer (some ⟨b, 0, none⟩), i.val] w fun e w' => e = .returned (.int .i64 l.length) ∧ BG w' b base (l ++ [i]) ∧ BF base b w w' := by
  obtain ⟨t0, hi, hz0, hz1, hz2⟩ := info_parts Rx.info116
  obtain ⟨v, hb, hown⟩ := hd.ex
  have hbb := hd.lt
  have hbw := hd.le
  obtain ⟨p, cp, rfl⟩ := own_slice hown
  obtain ⟨op, a, c, h, u0, u1, us⟩ := i
  obtain ⟨n, hnl⟩ : ∃ n, n = l.length := ⟨_, rfl⟩
  rw [← hnl] at hown hb hn ⊢
  have HNL := hide hnl
  obtain ⟨hcb, hfb⟩ := hb.all
  have hbl := hb.lt
  have HO := hide hown
  have HB := hide hb
  clear hown hb hd hnl
  unfold Ins.val
  dsimp only
  go_enter Tryz.func49, Tryz.ntmps49
  go_wp2_with fail
  have HN : ∀ j u, (Ins.cells ⟨op, a, c, h, u0, u1, us⟩)[j]? = some u → ((w.alloc (Obj.cells #[.int .i64 op, .int .u64 a, .int .u64 c, .bool h, .int .i64 u0, .int .i64 u1, .int .i64 us] 138)).alloc (Obj.cells #[.int .i64 op, .int .u64 a, .int .u64 c, .bool h, .int .i64 u0, .int .i64 u1, .int .i64 us] 138)).drew.cell? ((⟨w.heap.size + 1, 0, none⟩ : Addr).add j) = some u := by
    have h := BK.new (w.alloc (Obj.cells #[.int .i64 op, .int .u64 a, .int .u64 c, .bool h, .int .i64 u0, .int .i64 u1, .int .i64 us] 138)) (Obj.cells #[.int .i64 op, .int .u64 a, .int .u64 c, .bool h, .int .i64 u0, .int .i64 u1, .int .i64 us] 138)
    simp only [World.size_alloc] at h
    exact World.news_of_block (BK.drew h)
  have HNN := hide HN
  clear HN
  go_region_law (refine step_append_lies _ rfl (.tmp 9) (.tmp 11) 81 rfl base 138 t0 _ 7 56 Tryz.underlying81 hi hz0 hz1 hz2 rfl (by decide) (.slice p n cp) n (codeL l) (by simp [Act.eval, Act.put]) (World.ownsRow.drew ((HO.out.alloc _).alloc _)) ⟨w.heap.size + 1, 0, none⟩ 1 1 (Ins.cells ⟨op, a, c, h, u0, u1, us⟩) (by simp [Act.eval, Act.put]) rfl HNN.out (by simp [Ins.cells, Value.oneCell']) (by decide) (by unfold maxLen; omega) (by omega) (by simp; omega) _ rfl ?_; intro g cap w1 hown1 hgrow hat hlt; have hb1 := BK.grown ((HB.out.alloc _).alloc _).drew hgrow (fun e => by have := own_block HO.out _ e; omega); obtain ⟨hcb1, hfb1⟩ := hb1.all)
  all_goals
    have HB1 := hide hb1
    have HO1 := hide hown1
    have HG1 := hide hgrow
    have hlt1 := hgrow.size
    clear hb1 hown1 hgrow hat
    go_wp2
    go_ret
    refine ⟨by simp, ⟨hbb, by simp [World.setCell] at hlt1 ⊢; omega, _, BK.self HB1.out 0 _, ?_⟩, ?_⟩
    · have h1 := own_set HO1.out (a := ⟨b, 0, none⟩) hbb (.slice (some ⟨g, 0, none⟩) (n + 1) cap)
      rw [codeL_append]
      rw [show (l ++ [(⟨op, a, c, h, u0, u1, us⟩ : Ins)]).length = n + 1 by simp [HNL.out]]
      exact h1
    · refine BF.setCell (p := ⟨b, 0, none⟩) ?_ (Or.inl rfl) _
      exact BF.grown (((((BF.refl _ _ _).alloc _).alloc _).drew)) HG1.out (fun k hk => Or.inr (Or.inr (own_IB (World.ownsRow.drew ((HO.out.alloc _).alloc _)) k hk)))
end Go.Proofs.YtgmjjhmnchefbaaGreatDoor.G

/- A builder's splits. -/
namespace Go.Proofs.YtgmjjhmnchefbaaGreatDoor.G
open Go.RowKit

set_option maxRecDepth 100000 in
theorem enters_any (z : Bool) (w : World) : Calls Tryz.prog 131 #[.bool z] w fun e w' => e = .returned (.int .i64 (z.toNat : Int)) ∧ w' = w := by
  cases z
  · go_enter Tryz.func131, Tryz.ntmps131
    go_wp2_with fail
    go_ret
    exact ⟨rfl, rfl⟩
  · go_enter Tryz.func131, Tryz.ntmps131
    go_wp2_with fail
    go_ret
    exact ⟨rfl, rfl⟩

theorem own_way {w : World} {base g c k : Nat} {l : List Ins} (h : w.ownsRow base 138 7 (.slice (some ⟨g, 0, none⟩) l.length c) l.length (codeL l)) (s : Bool) (n : Nat) (hk : k < l.length) :
    (w.setCell ⟨g, k * 7 + (4 + s.toNat), none⟩ (.int .i64 n)).ownsRow base 138 7 (.slice (some ⟨g, 0, none⟩) l.length c) l.length (codeL (wayAt l k s n)) := by
  refine ⟨by rw [codeL_len, wayAt_len], ?_⟩
  rcases h.2 with ⟨hn, _⟩ | ⟨g', cap, cur, hv, hb, hgg, hnc, hcm, hcs, htake⟩
  · cases hn
  · cases hv
    refine .inr ⟨g, c, cur.setIfInBounds (k * 7 + (4 + s.toNat)) (.int .i64 n), rfl, hb, BK.self hgg _ _, hnc, hcm, by simpa using hcs, ?_⟩
    rw [Array.toList_setIfInBounds, List.take_set, htake, codeL_way l k s n hk]
end Go.Proofs.YtgmjjhmnchefbaaGreatDoor.G

/- A builder's splits: the walks. -/
namespace Go.Proofs.YtgmjjhmnchefbaaGreatDoor.G
open Go.RowKit

theorem BG.parts {w : World} {b base : Nat} {l : List Ins} (h : BG w b base l) (hl : 0 < l.length) : ∃ g c, BK w b (.cells #[.slice (some ⟨g, 0, none⟩) l.length c] 133 (0, 0)) ∧ w.ownsRow base 138 7 (.slice (some ⟨g, 0, none⟩) l.length c) l.length (codeL l) ∧ l.length ≤ c ∧ base ≤ g ∧ g < w.heap.size ∧ (∀ o, w.frozen? ⟨g, o, none⟩ = false) ∧ ∀ o v, (codeL l)[o]? = some v → w.cell? ⟨g, o, none⟩ = some v := by
  obtain ⟨v, hb, ho⟩ := h.ex
  rcases ho.2 with ⟨_, hn⟩ | ⟨g, cap, cur, rfl, hg, hgg, hnc, hcm, hcs, htake⟩
  · omega
  · refine ⟨g, cap, hb, ho, hnc, hg, BK.lt hgg, (BK.all hgg).2, fun o v hv => ?_⟩
    rw [(BK.all hgg).1, ← Array.getElem?_toList]
    rw [← htake, List.getElem?_take] at hv
    split at hv
    · exact hv
    · cases hv

theorem BG.way {w : World} {b base g c k : Nat} {l : List Ins} (hb : BK w b (.cells #[.slice (some ⟨g, 0, none⟩) l.length c] 133 (0, 0))) (ho : w.ownsRow base 138 7 (.slice (some ⟨g, 0, none⟩) l.length c) l.length (codeL l)) (h1 : b < base) (h2 : base ≤ w.heap.size) (hg : base ≤ g) (s : Bool) (n : Nat) (hk : k < l.length) :
    BG (w.setCell ⟨g, k * 7 + (4 + s.toNat), none⟩ (.int .i64 n)) b base (wayAt l k s n) := by
  refine ⟨h1, by simpa [World.setCell] using h2, _, BK.set hb (show b ≠ g by omega) _, ?_⟩
  have := own_way ho s n hk
  rw [wayAt_len]
  exact this

set_option maxHeartbeats 1000000 in
set_option maxRecDepth 100000 in
theorem leave_any (z : Bool) {b base k : Nat} {l : List Ins} {w : World} (hd : BG w b base l) (hk : k < l.length) (hn : l.length ≤ 100000) :
    Calls Tryz.prog 99 #[.pointer (some ⟨b, 0, none⟩), .int .i64 k, .bool z] w fun e w' => e = .returned (.tuple #[]) ∧ BG w' b base (wayAt l k (!z) l.length) ∧ BF base b w w' := by
  obtain ⟨g, c, hb, ho, hnc, hg, hgl, hfz, hcell⟩ := hd.parts (by omega)
  have hbb := hd.lt
  have hbw := hd.le
  obtain ⟨i, hi⟩ : ∃ i, l[k]? = some i := ⟨l[k], by simp [hk]⟩
  have hc4 := hcell (k * 7 + 4) _ (by rw [codeL_at l k 4 i hi (by omega)]; rfl)
  have hc5 := hcell (k * 7 + 5) _ (by rw [codeL_at l k 5 i hi (by omega)]; rfl)
  have hf4 := hfz (k * 7 + 4)
  have hf5 := hfz (k * 7 + 5)
  have hbl := hb.lt
  have hb0 : w.cell? ⟨b, 0, none⟩ = some (.slice (some ⟨g, 0, none⟩) l.length c) := hb.all.1 0
  have HB := hide hb
  have HO := hide ho
  have hk' : (k : Int) < (l.length : Int) := by omega
  obtain ⟨n, hnl⟩ : ∃ n, n = l.length := ⟨_, rfl⟩
  have HNL := hide hnl
  have HI := hide hi
  rw [← hnl] at hk hk' hb0 hnc hn ⊢
  clear hb ho hd hcell hfz hnl hi
  cases z
  · go_enter Tryz.func99, Tryz.ntmps99
    go_region_with (first
      | (go_at_call 131; refine (enters_any false _).mono ?_; rintro e w4 ⟨rfl, rfl⟩))
    all_goals
      go_end0
      refine ⟨rfl, ?_, ?_⟩
      · have h := BG.way (w := w.drew) HB.out.drew HO.out.drew hbb hbw hg true n (k := k) (by rw [← HNL.out]; exact hk)
        exact h
      · refine BF.setCell (p := ⟨g, k * 7 + 5, none⟩) ((BF.refl _ _ _).drew) (.inr (.inr ⟨hg, (own_IB (World.ownsRow.drew HO.out) g rfl).2⟩)) _
  · go_enter Tryz.func99, Tryz.ntmps99
    go_region_with (first
      | (go_at_call 131; refine (enters_any true _).mono ?_; rintro e w4 ⟨rfl, rfl⟩))
    all_goals
      go_end0
      refine ⟨rfl, ?_, ?_⟩
      · have h := BG.way (w := w.drew) HB.out.drew HO.out.drew hbb hbw hg false n (k := k) (by rw [← HNL.out]; exact hk)
        exact h
      · refine BF.setCell (p := ⟨g, k * 7 + 4, none⟩) ((BF.refl _ _ _).drew) (.inr (.inr ⟨hg, (own_IB (World.ownsRow.drew HO.out) g rfl).2⟩)) _
end Go.Proofs.YtgmjjhmnchefbaaGreatDoor.G

/- A builder's splits: fork. -/
namespace Go.Proofs.YtgmjjhmnchefbaaGreatDoor.G
open Go.RowKit

def bare (op : Int) : Ins := ⟨op, 0, 0, false, 0, 0, 0⟩
theorem put_bare (op : Int) {b base : Nat} {l : List Ins} {w : World} (hd : BG w b base l) (hn : l.length ≤ 100000) :
    Calls Tryz.prog 49 #[.pointer (some ⟨b, 0, none⟩), .agg #[.int .i64 op, .int .u64 0, .int .u64 0, .bool false, .int .i64 0, .int .i64 0, .int .i64 0]] w fun e w' => e = .returned (.int .i64 l.length) ∧ BG w' b base (l ++ [bare op]) ∧ BF base b w w' := put_gen (bare op) hd hn
def forkM (z : Bool) (l : List Ins) : List Ins := wayAt (l ++ [bare 1]) l.length z (l.length + 1)
theorem forkM_len (z : Bool) (l : List Ins) : (forkM z l).length = l.length + 1 := by simp [forkM, wayAt_len]

set_option maxHeartbeats 1000000 in
set_option maxRecDepth 100000 in
theorem fork_any (z : Bool) {b base : Nat} {l : List Ins} {w : World} (hd : BG w b base l) (hn : l.length ≤ 99999) :
    Calls Tryz.prog 98 #[.pointer (some ⟨b, 0, none⟩), .bool z] w fun e w' => e = .returned (.int .i64 l.length) ∧ BG w' b base (forkM z l) ∧ BF base b w w' := by
  have HD := hide hd
  have HP := hide (fun w (hd : BG w b base l) => put_bare 1 hd (by omega))
  have hbb := hd.lt
  clear hd
  cases z
  · go_enter Tryz.func98, Tryz.ntmps98
    go_wp2_with fail
    refine (HP.out _ HD.out).mono ?_
    rintro e w1 ⟨rfl, hd1, hx1⟩
    have HX1 := hide hx1
    obtain ⟨g, c, hb, ho, hnc, hg, hgl, hfz, hcell⟩ := hd1.parts (by simp)
    have hbw := hd1.le
    have hi : (l ++ [bare 1])[l.length]? = some (bare 1) := by simp
    have hc4 := hcell (l.length * 7 + 4) _ (by rw [codeL_at (l ++ [bare 1]) l.length 4 (bare 1) hi (by omega)]; rfl)
    have hf4 := hfz (l.length * 7 + 4)
    have hbl := hb.lt
    have hb0 : w1.cell? ⟨b, 0, none⟩ = some (.slice (some ⟨g, 0, none⟩) (l.length + 1) c) := by have := hb.all.1 0; simpa using this
    have HB := hide hb
    have HO := hide ho
    have hnc' : l.length + 1 ≤ c := by simpa using hnc
    obtain ⟨n, hnl⟩ : ∃ n, n = l.length := ⟨_, rfl⟩
    have HNL := hide hnl
    rw [← hnl] at hb0 hnc' hc4 hf4 hn ⊢
    clear hb ho hd1 hcell hfz hnl hi hx1 hnc
    go_wp2_with fail
    go_region_with (first
      | (go_at_call 131; refine (enters_any false _).mono ?_; rintro e w4 ⟨rfl, rfl⟩))
    all_goals
      go_wp2_with fail
      go_ret
      refine ⟨by rw [← HNL.out]; rfl, ?_, ?_⟩
      · have h := BG.way (w := w1.drew) HB.out.drew HO.out.drew hbb hbw hg false (n + 1) (k := n) (by simp [HNL.out])
        unfold forkM
        rw [← HNL.out]
        exact h
      · exact HX1.out.trans (BF.setCell (p := ⟨g, n * 7 + 4, none⟩) ((BF.refl _ _ _).drew) (.inr (.inr ⟨hg, (own_IB (World.ownsRow.drew HO.out) g rfl).2⟩)) _)
  · go_enter Tryz.func98, Tryz.ntmps98
    go_wp2_with fail
    refine (HP.out _ HD.out).mono ?_
    rintro e w1 ⟨rfl, hd1, hx1⟩
    have HX1 := hide hx1
    obtain ⟨g, c, hb, ho, hnc, hg, hgl, hfz, hcell⟩ := hd1.parts (by simp)
    have hbw := hd1.le
    have hi : (l ++ [bare 1])[l.length]? = some (bare 1) := by simp
    have hc4 := hcell (l.length * 7 + 5) _ (by rw [codeL_at (l ++ [bare 1]) l.length 5 (bare 1) hi (by omega)]; rfl)
    have hf4 := hfz (l.length * 7 + 5)
    have hbl := hb.lt
    have hb0 : w1.cell? ⟨b, 0, none⟩ = some (.slice (some ⟨g, 0, none⟩) (l.length + 1) c) := by have := hb.all.1 0; simpa using this
    have HB := hide hb
    have HO := hide ho
    have hnc' : l.length + 1 ≤ c := by simpa using hnc
    obtain ⟨n, hnl⟩ : ∃ n, n = l.length := ⟨_, rfl⟩
    have HNL := hide hnl
    rw [← hnl] at hb0 hnc' hc4 hf4 hn ⊢
    clear hb ho hd1 hcell hfz hnl hi hx1 hnc
    go_wp2_with fail
    go_region_with (first
      | (go_at_call 131; refine (enters_any true _).mono ?_; rintro e w4 ⟨rfl, rfl⟩))
    all_goals
      go_wp2_with fail
      go_ret
      refine ⟨by rw [← HNL.out]; rfl, ?_, ?_⟩
      · have h := BG.way (w := w1.drew) HB.out.drew HO.out.drew hbb hbw hg true (n + 1) (k := n) (by simp [HNL.out])
        unfold forkM
        rw [← HNL.out]
        exact h
      · exact HX1.out.trans (BF.setCell (p := ⟨g, n * 7 + 5, none⟩) ((BF.refl _ _ _).drew) (.inr (.inr ⟨hg, (own_IB (World.ownsRow.drew HO.out) g rfl).2⟩)) _)
end Go.Proofs.YtgmjjhmnchefbaaGreatDoor.G

/- The program of a part, and how long it is. -/
namespace Go.Proofs.YtgmjjhmnchefbaaGreatDoor.G
open Go.RowKit

def leaveM (z : Bool) (k : Nat) (l : List Ins) : List Ins := wayAt l k (!z) l.length
theorem leaveM_len (z : Bool) (k : Nat) (l : List Ins) : (leaveM z k l).length = l.length := wayAt_len _ _ _ _
def landM (k : Nat) (l : List Ins) : List Ins := wayAt l k false l.length
def iter {α : Type} (f : α → α) : Nat → α → α
  | 0, x => x
  | n + 1, x => iter f n (f x)
def iterF (f : List Ins → List Ins) (z : Bool) : Nat → List Nat → List Ins → List Nat × List Ins
  | 0, ks, l => (ks, l)
  | n + 1, ks, l => iterF f z n (ks ++ [l.length]) (f (forkM z l))
def jumpTo (k : Nat) : Ins := ⟨2, 0, 0, false, (k : Int), 0, 0⟩
def loopM (f : List Ins → List Ins) (z : Bool) (l : List Ins) : List Ins :=
  leaveM z l.length (f (forkM z l ++ [bare 4]) ++ [bare 5] ++ [jumpTo l.length])
def noteI (k : Nat) : Ins := ⟨3, 0, 0, false, 0, 0, (k : Int)⟩
def more (le : Nat) (mo : Int) : Nat := (mo - le).toNat

mutual
def addM : Pt → List Ins → List Ins
  | .single c, l => l ++ [⟨0, c.lo, c.hi, c.hg, 0, 0, 0⟩]
  | .seq ps, l => addsM ps l
  | .alt ps, l => let r := altsM ps [] l; r.1.foldl (fun l k => landM k l) r.2
  | .wrap p g, l => if g = 0 then addM p l else addM p (l ++ [noteI (2 * (g - 1))]) ++ [noteI (2 * (g - 1) + 1)]
  | .count p le mo z, l =>
    if mo = -1 then loopM (addM p) z (iter (addM p) le l)
    else let r := iterF (addM p) z (more le mo) [] (iter (addM p) le l); r.1.foldl (fun l k => leaveM z k l) r.2
def addsM : List Pt → List Ins → List Ins
  | [], l => l
  | p :: ps, l => addsM ps (addM p l)
def altsM : List Pt → List Nat → List Ins → List Nat × List Ins
  | [], js, l => (js, l)
  | [p], js, l => (js, addM p l)
  | p :: q :: ps, js, l => let l1 := addM p (forkM false l); altsM (q :: ps) (js ++ [l1.length]) (leaveM false l.length (l1 ++ [bare 2]))
end

mutual
def isz : Pt → Nat
  | .single _ => 1
  | .seq ps => iszL ps
  | .alt ps => iszL ps + 2 * (ps.length - 1)
  | .wrap p g => if g = 0 then isz p else isz p + 2
  | .count p le mo _ => if mo = -1 then isz p * le + (isz p + 4) else isz p * le + (isz p + 1) * more le mo
def iszL : List Pt → Nat
  | [] => 0
  | p :: ps => isz p + iszL ps
end

theorem iter_len (f : List Ins → List Ins) (s : Nat) (hf : ∀ l, (f l).length = l.length + s) : ∀ n l, (iter f n l).length = l.length + s * n
  | 0, l => by simp [iter]
  | n + 1, l => by rw [iter, iter_len f s hf n, hf, Nat.mul_succ]; omega
theorem iterF_len (f : List Ins → List Ins) (z : Bool) (s : Nat) (hf : ∀ l, (f l).length = l.length + s) : ∀ n ks l, (iterF f z n ks l).2.length = l.length + (s + 1) * n ∧ (iterF f z n ks l).1.length = ks.length + n
  | 0, ks, l => by simp [iterF]
  | n + 1, ks, l => by
    have h := iterF_len f z s hf n (ks ++ [l.length]) (f (forkM z l))
    rw [iterF, h.1, h.2, hf, forkM_len, Nat.mul_succ]
    simp
    omega
theorem fold_leave_len (z : Bool) : ∀ (ks : List Nat) (l : List Ins), (ks.foldl (fun l k => leaveM z k l) l).length = l.length
  | [], l => rfl
  | k :: ks, l => by rw [List.foldl_cons, fold_leave_len z ks, leaveM_len]
theorem fold_land_len : ∀ (ks : List Nat) (l : List Ins), (ks.foldl (fun l k => landM k l) l).length = l.length
  | [], l => rfl
  | k :: ks, l => by rw [List.foldl_cons, fold_land_len ks]; exact wayAt_len _ _ _ _

mutual
theorem addM_len : ∀ (p : Pt) (l : List Ins), (addM p l).length = l.length + isz p
  | .single c, l => by simp [addM, isz]
  | .seq ps, l => by rw [addM, isz]; exact addsM_len ps l
  | .alt ps, l => by
    rw [addM, isz]
    simp only [fold_land_len]
    exact altsM_len ps [] l
  | .wrap p g, l => by
    rw [addM, isz]
    split
    · exact addM_len p l
    · rw [List.length_append, addM_len p]
      simp
      omega
  | .count p le mo z, l => by
    rw [addM, isz]
    split
    · rw [loopM, leaveM_len]
      simp only [List.length_append, addM_len p, forkM_len, iter_len _ _ (addM_len p)]
      simp
      omega
    · simp only [fold_leave_len]
      rw [(iterF_len _ z _ (addM_len p) _ _ _).1, iter_len _ _ (addM_len p)]
      omega
theorem addsM_len : ∀ (ps : List Pt) (l : List Ins), (addsM ps l).length = l.length + iszL ps
  | [], l => by simp [addsM, iszL]
  | p :: ps, l => by rw [addsM, addsM_len ps, addM_len p, iszL]; omega
theorem altsM_len : ∀ (ps : List Pt) (js : List Nat) (l : List Ins), (altsM ps js l).2.length = l.length + (iszL ps + 2 * (ps.length - 1))
  | [], js, l => by simp [altsM, iszL]
  | [p], js, l => by simp [altsM, iszL, addM_len p]
  | p :: q :: ps, js, l => by
    rw [altsM]
    simp only [altsM_len (q :: ps), leaveM_len, List.length_append, addM_len p, forkM_len, iszL]
    simp
    omega
end
end Go.Proofs.YtgmjjhmnchefbaaGreatDoor.G
