/- Contracts of the builder of programs, at what the reader made of dots. -/
import Derived.Test.YtmeffeigamaipaaDoorW5
import Derived.Deep.RegionLaw
import Derived.Deep.AppendLies
set_option linter.unusedVariables false
set_option linter.unusedSimpArgs false
namespace Go.Proofs.YtmeffeigamaipaaDoor
open Go.RowKit

/-- Below a block number nothing has turned, but for the blocks listed. -/
structure EB (B : Nat) (own : List Nat) (w w' : World) : Prop where
  os : w'.os = w.os
  tape : w'.tape = w.tape
  output : w'.output = w.output
  size : w.heap.size ≤ w'.heap.size
  block : ∀ k, k < B → k ∉ own → w'.heap[k]? = w.heap[k]?

theorem EB.refl (B : Nat) (l : List Nat) (w : World) : EB B l w w := ⟨rfl, rfl, rfl, Nat.le_refl _, fun _ _ _ => rfl⟩
theorem EB.drewN {B : Nat} {l : List Nat} {a w : World} (h : EB B l a w) (n : Nat) : EB B l a (w.drewN n) := ⟨h.os, h.tape, h.output, h.size, h.block⟩
theorem EB.drew {B : Nat} {l : List Nat} {a w : World} (h : EB B l a w) : EB B l a w.drew := ⟨h.os, h.tape, h.output, h.size, h.block⟩
theorem EB.trans {B : Nat} {l : List Nat} {a b c : World} (h : EB B l a b) (k : EB B l b c) : EB B l a c :=
  ⟨k.os.trans h.os, k.tape.trans h.tape, k.output.trans h.output, Nat.le_trans h.size k.size, fun i hi hn => (k.block i hi hn).trans (h.block i hi hn)⟩
theorem EB.mono {B B' : Nat} {l l' : List Nat} {a b : World} (h : EB B l a b) (hB : B' ≤ B) (hl : ∀ x, x ∈ l → x < B' → x ∈ l') : EB B' l' a b :=
  ⟨h.os, h.tape, h.output, h.size, fun i hi hn => h.block i (by omega) (fun hm => hn (hl i hm hi))⟩
theorem EB.alloc {B : Nat} {l : List Nat} {a w : World} (h : EB B l a w) (hB : B ≤ w.heap.size) (o : Obj) : EB B l a (w.alloc o) :=
  h.trans ⟨rfl, rfl, rfl, by simp, fun k hk _ => Below.heap_alloc _ _ _ (by omega)⟩
theorem EB.setCell {B : Nat} {l : List Nat} {a w : World} (h : EB B l a w) {p : Addr} (hp : p.block ∈ l ∨ B ≤ p.block) (u : Value) : EB B l a (w.setCell p u) :=
  ⟨h.os, h.tape, h.output, by simpa [World.setCell] using h.size, fun k hk hn => by
    rw [Below.heap_setCell _ _ _ _ (by rintro rfl; rcases hp with hp | hp; · exact hn hp
                                       · omega)]; exact h.block k hk hn⟩
theorem EB.grown {B : Nat} {l : List Nat} {a w w' : World} {row : Option Nat} (h : EB B l a w) (hg : w.grownBy w' row) (hB : B ≤ w.heap.size) (hr : ∀ k, row = some k → k ∈ l ∨ B ≤ k) : EB B l a w' :=
  ⟨hg.os.trans h.os, hg.tape.trans h.tape, hg.output.trans h.output, Nat.le_trans h.size hg.size, fun k hk hn =>
    (hg.block k (by omega) (fun e => by rcases hr k e.symm with h | h; · exact hn h
                                        · omega)).trans (h.block k hk hn)⟩
theorem EB.ofEx {B : Nat} {l : List Nat} {a w : World} (h : Ex l a w) (hB : B ≤ a.heap.size) : EB B l a w := ⟨h.os, h.tape, h.output, h.size, fun k hk hn => h.block k (by omega) hn⟩
theorem EB.toEx {l : List Nat} {a w : World} (h : EB a.heap.size l a w) : Ex l a w := ⟨h.os, h.tape, h.output, h.size, h.block⟩
theorem BK.eb {B : Nat} {l : List Nat} {w w' : World} {b : Nat} {o : Obj} (h : BK w b o) (hx : EB B l w w') (hb : b < B) (hn : b ∉ l) : BK w' b o := by
  unfold BK; rw [hx.block b hb hn]; exact h

theorem info116 : (Tryd.prog.info? 98).map (fun i => (i.zero, i.size, i.bytes)) = some (some (.agg #[.int .i64 0, .int .u64 0, .int .u64 0, .bool false, .int .i64 0, .int .i64 0, .int .i64 0]), 7, 56) := by kernel_rfl

def insOf (op a c : Int) (h : Bool) : List Value := [.int .i64 op, .int .u64 a, .int .u64 c, .bool h, .int .i64 0, .int .i64 0, .int .i64 0]

set_option maxHeartbeats 1000000 in
set_option maxRecDepth 100000 in
theorem put_any (b base n : Nat) (v : Value) (xs : List Value) (op a c : Int) (h : Bool) (w : World)
    (hb : BK w b (.cells #[v] 93 (0, 0))) (hbb : b < base) (hbw : base ≤ w.heap.size) (hown : w.ownsRow base 98 7 v n xs) (hn : n ≤ 1000) :
    Calls Tryd.prog 35 #[.pointer (some ⟨b, 0, none⟩), .agg #[.int .i64 op, .int .u64 a, .int .u64 c, .bool h, .int .i64 0, .int .i64 0, .int .i64 0]] w fun e w' => e = .returned (.int .i64 n) ∧
      ∃ v', BK w' b (.cells #[v'] 93 (0, 0)) ∧ w'.ownsRow base 98 7 v' (n + 1) (xs ++ insOf op a c h) ∧ EB base [b] w w' := by
  obtain ⟨t0, hi, hz0, hz1, hz2⟩ := info_parts info116
  obtain ⟨p, cp, rfl⟩ := own_slice hown
  obtain ⟨hcb, hfb⟩ := hb.all
  have hbl := hb.lt
  have HO := hide hown
  have HB := hide hb
  clear hown hb
  go_enter Tryd.func35, Tryd.ntmps35
  go_wp2_with fail
  have HN : ∀ j u, (insOf op a c h)[j]? = some u → ((w.alloc (Obj.cells #[.int .i64 op, .int .u64 a, .int .u64 c, .bool h, .int .i64 0, .int .i64 0, .int .i64 0] 98)).alloc (Obj.cells #[.int .i64 op, .int .u64 a, .int .u64 c, .bool h, .int .i64 0, .int .i64 0, .int .i64 0] 98)).drew.cell? ((⟨w.heap.size + 1, 0, none⟩ : Addr).add j) = some u := by
    have h := BK.new (w.alloc (Obj.cells #[.int .i64 op, .int .u64 a, .int .u64 c, .bool h, .int .i64 0, .int .i64 0, .int .i64 0] 98)) (Obj.cells #[.int .i64 op, .int .u64 a, .int .u64 c, .bool h, .int .i64 0, .int .i64 0, .int .i64 0] 98)
    simp only [World.size_alloc] at h
    exact World.news_of_block (BK.drew h)
  have HNN := hide HN
  clear HN
  go_region_law (refine step_append_lies _ rfl (.tmp 9) (.tmp 11) 65 rfl base 98 t0 _ 7 56 Tryd.underlying65 hi hz0 hz1 hz2 rfl (by decide) (.slice p n cp) n xs (by simp [Act.eval, Act.put]) (World.ownsRow.drew ((HO.out.alloc _).alloc _)) ⟨w.heap.size + 1, 0, none⟩ 1 1 (insOf op a c h) (by simp [Act.eval, Act.put]) rfl HNN.out (by simp [insOf, Value.oneCell']) (by decide) (by unfold maxLen; omega) (by omega) (by simp; omega) _ rfl ?_; intro g cap w1 hown1 hgrow hat hlt; have hb1 := BK.grown ((HB.out.alloc _).alloc _).drew hgrow (fun e => by have := own_block HO.out _ e; omega); obtain ⟨hcb1, hfb1⟩ := hb1.all)
  all_goals
    have HB1 := hide hb1
    have HO1 := hide hown1
    have HG1 := hide hgrow
    clear hb1 hown1 hgrow hat
    go_wp2
    go_ret
    refine ⟨by simp, _, BK.self HB1.out 0 _, own_set HO1.out hbb _, ?_⟩
    refine EB.setCell ?_ (Or.inl (by simp)) _
    exact EB.grown ((((EB.refl _ _ _).alloc hbw _).alloc (by simp; omega) _).drew) HG1.out (by simp; omega) (fun k hk => Or.inr (own_block HO.out k hk))
end Go.Proofs.YtmeffeigamaipaaDoor
