/- The contracts of spans and Spans, of a pattern without groups. -/
import Derived.Test.YtmeffeigamaipaaDoorW17
set_option linter.unusedVariables false
set_option linter.unusedSimpArgs false
namespace Go.Proofs.YtmeffeigamaipaaDoor
open Go.RowKit

theorem info62 : (Tryd.prog.info? 41).map (fun i => (i.zero, i.size, i.bytes)) = some (some (.agg #[.int .i64 0, .int .i64 0]), 2, 16) := by kernel_rfl

set_option maxHeartbeats 2000000 in
set_option maxRecDepth 100000 in
theorem spans_none (q m top cg cc sg sc B mb : Nat) (len : Int) (w : World) (hp : PC w q m top cg cc sg sc B mb) (hql : q < w.heap.size) :
    Calls Tryd.prog 28 #[.pointer (some ⟨q, 0, none⟩), unsetV, .int .i64 len] w fun e w' => ∃ g, e = .returned (.slice (some ⟨g, 0, none⟩) 1 1) ∧ w.heap.size ≤ g ∧ BK w' g (.cells #[.int .i64 0, .int .i64 len] 41 (0, 0)) ∧ Ex [] w w' := by
  obtain ⟨hcq, hfq⟩ := hp.blk.all
  clear hp
  unfold unsetV
  go_enter Tryd.func28, Tryd.ntmps28
  go_wp2_with fail
  refine wp_loop_rounds 1 ?_
  rw [rounds_succ]
  go_wp2_with fail
  go_ret
  refine ⟨w.heap.size + 1, rfl, by omega, ?_, ((Ex.refl _ _).alloc _).alloc _⟩
  simpa using BK.new (w.alloc (Obj.cells #[.int .i64 (-1), .int .i64 (-1), .int .i64 (-1), .int .i64 (-1), .int .i64 (-1), .int .i64 (-1), .int .i64 (-1), .int .i64 (-1), .int .i64 (-1), .int .i64 (-1)] 79)) (Obj.cells #[.int .i64 0, .int .i64 len] 41)

set_option maxHeartbeats 2000000 in
set_option maxRecDepth 100000 in
theorem Spans_one (s : ByteArray) (nv : Nat) (g : Nat) (len : Int) (w : World) (hg : BK w g (.cells #[.int .i64 0, .int .i64 len] 41 (0, 0))) :
    Calls Tryd.prog 16 #[.agg #[.string s, .slice (some ⟨g, 0, none⟩) 1 1, .map (some nv)]] w fun e w' => ∃ v, e = .returned v ∧ w'.ownsRow w.heap.size 41 2 v 1 [.int .i64 0, .int .i64 len] ∧ Ex [] w w' := by
  obtain ⟨t0, hi, hz0, hz1, hz2⟩ := info_parts info62
  have hgl := hg.lt
  have HN : Hid (∀ j u, [Value.int .i64 0, .int .i64 len][j]? = some u → (w.alloc (Obj.cells #[.string s, .slice (some ⟨g, 0, none⟩) 1 1, .map (some nv)] 47)).cell? ((⟨g, 0, none⟩ : Addr).add j) = some u) := World.news_of_block (hg.alloc _)
  clear hg
  go_enter Tryd.func16, Tryd.ntmps16
  go_wp2_with (at_builtin; refine wpList_append_lies _ rfl _ (.tmp 4) 36 rfl w.heap.size 41 t0 _ 2 16 Tryd.underlying36 hi hz0 hz1 hz2 rfl (by decide) (.slice none 0 0) 0 [] rfl (World.ownsRow_nil _ _ _ _) ⟨g, 0, none⟩ 1 1 [.int .i64 0, .int .i64 len] rfl rfl HN.out (by simp [Value.oneCell']) (by decide) (by unfold maxLen; omega) (by omega) (by simp) _ rfl ?_)
  intro g1 cap w1 hown hgrow _ _
  have HO := hide hown
  have HG : Hid (Ex [] w w1) := Ex.grown ((Ex.refl _ _).alloc _) hgrow (by simp [Value.ownBlock])
  clear hown hgrow
  go_wp2_with fail
  go_ret
  exact ⟨_, rfl, HO.out, HG.out⟩

set_option maxHeartbeats 2000000 in
set_option maxRecDepth 100000 in
theorem Spans_none (w : World) :
    Calls Tryd.prog 16 #[.agg #[.string ByteArray.empty, .slice none 0 0, .map none]] w fun e w' => e = .returned (.slice none 0 0) ∧ Ex [] w w' := by
  go_enter Tryd.func16, Tryd.ntmps16
  go_wp2_with fail
  go_ret
  exact ⟨rfl, (Ex.refl _ _).alloc _⟩
end Go.Proofs.YtmeffeigamaipaaDoor
