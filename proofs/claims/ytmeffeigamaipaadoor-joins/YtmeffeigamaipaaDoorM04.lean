/- Contracts of the sets of runes. -/
import Derived.Test.YtmeffeigamaipaaDoorM03
import Derived.Handy
import Derived.Deep.RegionHeld3
set_option linter.unusedVariables false
set_option linter.unusedSimpArgs false
namespace Go.Proofs.YtmeffeigamaipaaDoor.G
open Go.RowKit

structure Cls where
  lo : Int
  hi : Int
  hg : Bool
def clsV (c : Cls) : Value := .agg #[.int .u64 c.lo, .int .u64 c.hi, .bool c.hg]

def Cls.word (c : Cls) (r : Nat) : Int := if r / 64 = 0 then c.lo else c.hi
def shv (x : Int) (r : Int) : Int := x / 2 ^ min (bits BinOp.and IntKind.i32 r 63).toNat 64
def hasL (c : Cls) (r : Nat) : Bool := bits BinOp.and IntKind.u64 (shv (c.word r) r) 1 == 1
def hasC (c : Cls) (r : Int) : Bool := if 128 ≤ r then c.hg else hasL c r.toNat

theorem idx_word (c : Cls) (r : Nat) (hr : r < 128) : [Value.int IntKind.u64 c.lo, Value.int IntKind.u64 c.hi, Value.bool c.hg][r / 64]? = some (.int .u64 (c.word r)) := by
  have : r / 64 = 0 ∨ r / 64 = 1 := by omega
  unfold Cls.word
  rcases this with h | h <;> rw [h] <;> rfl
theorem low_nonneg : ∀ r : Fin 128, 0 ≤ bits BinOp.and IntKind.i32 ((r.val : Nat) : Int) 63 := by decide +kernel
theorem shift_word (x : Int) (r : Nat) (hr : r < 128) (W : World) : (Op.shift BinOp.shr IntKind.u64 x IntKind.i32 (bits BinOp.and IntKind.i32 (r : Int) 63)).run Tryd.prog W = .ok (.int .u64 (shv x r)) W := by
  rw [shift_shr_any _ _ _ _ (low_nonneg ⟨r, hr⟩)]
  rfl

set_option maxHeartbeats 1000000 in
set_option maxRecDepth 100000 in
theorem has_low (c : Cls) (r : Nat) (w : World) (hr : r < 128) : Calls Tryd.prog 39 #[clsV c, .int .i32 r] w fun e w' => e = .returned (.bool (hasL c r)) ∧ Ex [] w w' := by
  have hidx := idx_word c r hr
  have hsh := shift_word (c.word r) r hr
  unfold clsV hasL
  go_enter Tryd.func39, Tryd.ntmps39
  go_wp2_with fail
  go_ret
  exact ⟨rfl, (Ex.refl _ _).alloc _⟩

set_option maxHeartbeats 1000000 in
set_option maxRecDepth 100000 in
theorem has_any (c : Cls) (r : Int) (w : World) (hr : 0 ≤ r) : Calls Tryd.prog 39 #[clsV c, .int .i32 r] w fun e w' => e = .returned (.bool (hasC c r)) ∧ Ex [] w w' := by
  unfold hasC
  by_cases h : 128 ≤ r
  · rw [if_pos h]
    unfold clsV
    go_enter Tryd.func39, Tryd.ntmps39
    go_wp2_with fail
    go_ret
    exact ⟨rfl, (Ex.refl _ _).alloc _⟩
  · rw [if_neg h]
    obtain ⟨n, rfl⟩ := Int.eq_ofNat_of_zero_le hr
    exact has_low c n w (by omega)

def withC (c d : Cls) : Cls := ⟨bits BinOp.or IntKind.u64 c.lo d.lo, bits BinOp.or IntKind.u64 c.hi d.hi, c.hg || d.hg⟩
set_option maxHeartbeats 1000000 in
set_option maxRecDepth 100000 in
theorem with_any (c d : Cls) (w : World) : Calls Tryd.prog 67 #[clsV c, clsV d] w fun e w' => e = .returned (clsV (withC c d)) ∧ Ex [] w w' := by
  obtain ⟨c1, c2, c3⟩ := c
  obtain ⟨d1, d2, d3⟩ := d
  unfold clsV withC
  cases c3
  all_goals
    go_enter Tryd.func67, Tryd.ntmps67
    go_wp2_with fail
    refine bodyPost_ret (v := _) (by simp [results, Tryd.results67, go_sem]; rfl) rfl ⟨by simp, ?_⟩
    repeat (first | exact Ex.refl _ _ | refine Ex.setCell ?_ (Or.inr (by simp)) _ | refine Ex.alloc ?_ _)

def shl1 (b : Nat) : Int := IntKind.u64.wrap (2 ^ (b % 64))
def oneC (b : Nat) : Cls := if b / 64 = 0 then ⟨bits BinOp.or IntKind.u64 0 (shl1 b), 0, false⟩ else ⟨0, bits BinOp.or IntKind.u64 0 (shl1 b), false⟩
set_option maxHeartbeats 1000000 in
set_option maxRecDepth 100000 in
theorem between_one (b : Nat) (w : World) (hb : b < 128) : Calls Tryd.prog 63 #[.int .u8 b, .int .u8 b] w fun e w' => e = .returned (clsV (oneC b)) ∧ Ex [] w w' := by
  have hd : b / 64 = 0 ∨ b / 64 = 1 := by omega
  unfold clsV oneC shl1
  rcases hd with hd | hd
  all_goals
    go_enter Tryd.func63, Tryd.ntmps63
    go_wp2_with fail
    refine wp_loop_rounds 2 ?_
    rw [rounds_succ]
    go_wp2_with fail
    rw [rounds_succ]
    go_wp2_with fail
    refine bodyPost_ret (v := _) (by simp [results, Tryd.results63, go_sem]; rfl) rfl ⟨by simp [hd], ?_⟩
    repeat (first | exact Ex.refl _ _ | refine Ex.setCell ?_ (Or.inr (by simp)) _ | refine Ex.alloc ?_ _)

def stepB (c : Cls) (l : Nat) : Cls := if hasL c l || hasL c (l - 32) then withC (withC c (oneC l)) (oneC (l - 32)) else c
def bcf : Nat → Nat → Cls → Cls
  | 0, _, c => c
  | n + 1, l, c => bcf n (l + 1) (stepB c l)
def bothC (c : Cls) : Cls := bcf 26 97 c

set_option maxHeartbeats 2000000 in
set_option maxRecDepth 100000 in
theorem bothCases_any (c : Cls) (w : World) : Calls Tryd.prog 71 #[clsV c] w fun e w' => e = .returned (clsV (bothC c)) ∧ Ex [] w w' := by
  unfold clsV bothC
  go_enter Tryd.func71, Tryd.ntmps71
  go_wp2_with fail
  go_loopg [3] 26 (fun gk l3 wr => ∃ (l : Nat) (c' : Cls), l + gk = 123 ∧ 97 ≤ l ∧ l3 = .int .u8 l ∧ bcf gk l c' = bcf 26 97 c ∧ BK wr w.heap.size (.cells #[.int .u64 c'.lo, .int .u64 c'.hi, .bool c'.hg] 57 (0, 0)) ∧ BK wr (w.heap.size + 1) (.cells #[.int .u64 0, .int .u64 0, .bool false] 57 (0, 0)) ∧ Ex [] w wr)
  case atStart =>
    refine ⟨97, c, by omega, by omega, rfl, rfl, (BK.new _ _).alloc _, ?_, ((Ex.refl _ _).alloc _).alloc _⟩
    have := BK.new (w.alloc (Obj.cells #[.int .u64 c.lo, .int .u64 c.hi, .bool c.hg] 57)) (Obj.cells #[.int .u64 0, .int .u64 0, .bool false] 57)
    simpa using this
  case round =>
    obtain ⟨l, c', hl, hl97, rfl, hbc, hb0, hb1, hx⟩ := hrel
    have HX := hide hx
    have HB0 := hide hb0
    have HB1 := hide hb1
    have HBC := hide hbc
    have hl0 := hb0.lt
    have hl1 := hb1.lt
    obtain ⟨hc0, hf0⟩ := hb0.all
    obtain ⟨hc1, hf1⟩ := hb1.all
    clear hx hb0 hb1 hbc
    cases gk with
    | zero =>
      have e1 : ¬ (l : Int) ≤ 122 := by omega
      go_wp2_with fail
      refine bodyPost_ret (v := clsV c') (by simp [results, Tryd.results71, go_sem, clsV, hc1]) rfl ⟨?_, ?_⟩
      · have h1 := HBC.out
        rw [← h1]; rfl
      · repeat (refine Ex.setCell ?_ (Or.inr (by simp)) _)
        exact HX.out
    | succ g =>
      have e1 : (l : Int) ≤ 122 := by omega
      go_wp2_with fail
      refine (has_any c' l _ (by omega)).mono ?_
      rintro e w1 ⟨rfl, hx1⟩
      have hst : stepB c' l = if hasC c' (l : Int) || hasC c' ((l - 32 : Nat) : Int) then withC (withC c' (oneC l)) (oneC (l - 32)) else c' := by
        have h1 : hasC c' (l : Int) = hasL c' l := by unfold hasC; rw [if_neg (by omega)]; rfl
        have h2 : hasC c' ((l - 32 : Nat) : Int) = hasL c' (l - 32) := by unfold hasC; rw [if_neg (by omega)]; rfl
        rw [h1, h2]; rfl
      have HST := hide hst
      have hbn : bcf g (l + 1) (stepB c' l) = bcf 26 97 c := HBC.out
      have HBN := hide hbn
      clear hst hbn
      rw [show ((l : Int) - 97 + 65) = ((l - 32 : Nat) : Int) by omega]
      have hub : l - 32 < 128 := by omega
      have hlb : l < 128 := by omega
      have HX1 := hide hx1
      obtain ⟨hc01, _⟩ := (HB0.out.ex hx1 (by simp)).all
      clear hc0 hf0 hc1 hf1 hx1
      have key : ∃ O1 O2 W1 W2 : Cls, W2 = withC (withC c' (oneC l)) (oneC (l - 32)) ∧
          (∀ w, Calls Tryd.prog 63 #[.int .u8 l, .int .u8 l] w fun e w' => e = .returned (clsV O1) ∧ Ex [] w w') ∧
          (∀ w, Calls Tryd.prog 67 #[clsV c', clsV O1] w fun e w' => e = .returned (clsV W1) ∧ Ex [] w w') ∧
          (∀ w, Calls Tryd.prog 63 #[.int .u8 ((l - 32 : Nat) : Int), .int .u8 ((l - 32 : Nat) : Int)] w fun e w' => e = .returned (clsV O2) ∧ Ex [] w w') ∧
          (∀ w, Calls Tryd.prog 67 #[clsV W1, clsV O2] w fun e w' => e = .returned (clsV W2) ∧ Ex [] w w') :=
        ⟨oneC l, oneC (l - 32), withC c' (oneC l), withC (withC c' (oneC l)) (oneC (l - 32)), rfl, fun w => between_one l w hlb, fun w => with_any _ _ w, fun w => between_one (l - 32) w hub, fun w => with_any _ _ w⟩
      obtain ⟨O1, O2, W1, W2, hW2, kb1, kw1, kb2, kw2⟩ := key
      rw [← hW2] at HST
      have KB1 := hide kb1
      have KW1 := hide kw1
      have KB2 := hide kb2
      have KW2 := hide kw2
      clear kb1 kw1 kb2 kw2 hW2
      obtain ⟨u, hu⟩ : ∃ u : Nat, l - 32 = u := ⟨_, rfl⟩
      have hul : u + 32 = l := by omega
      rw [hu] at HST KB2 ⊢
      clear hu
      cases hv1 : hasC c' (l : Int) with
      | true =>
        rw [hv1] at HST
        simp only [Bool.true_or, if_true] at HST
        go_wp2_with fail
        refine wp_region_J (by kernel_rfl) ?_
        refine wpAny_take (i := 1) (v := ?_) rfl (by kernel_rfl) (by kernel_rfl) (by kernel_rfl) (fun _ _ _ h => h) (Or.inl ⟨by rfl, ?_⟩) ?_
        rotate_left
        · intro w'
          go_simp
          try with_reducible rfl
        simp only [Act.put, List.setIfInBounds_toArray, List.set_cons_zero, List.set_cons_succ, List.getElem_toArray, List.getElem_cons_zero, List.getElem_cons_succ, List.replicate, Array.replicate, List.size_toArray, List.length_cons, List.length_nil]
        refine wpAny_take (i := 2) (v := ?_) rfl (by kernel_rfl) (by kernel_rfl) (by kernel_rfl) (fun _ _ _ h => h) (Or.inl ⟨by rfl, ?_⟩) ?_
        rotate_left
        · intro w'
          go_simp
          try with_reducible rfl
        simp only [Act.put, List.setIfInBounds_toArray, List.set_cons_zero, List.set_cons_succ, List.getElem_toArray, List.getElem_cons_zero, List.getElem_cons_succ, List.replicate, Array.replicate, List.size_toArray, List.length_cons, List.length_nil]
        refine wpAny_take (i := 5) (v := ?_) rfl (by kernel_rfl) (by kernel_rfl) (by kernel_rfl) (fun _ _ _ h => h) (Or.inl ⟨by rfl, ?_⟩) ?_
        rotate_left
        · intro w'
          go_simp
          try with_reducible rfl
        simp only [Act.put, List.setIfInBounds_toArray, List.set_cons_zero, List.set_cons_succ, List.getElem_toArray, List.getElem_cons_zero, List.getElem_cons_succ, List.replicate, Array.replicate, List.size_toArray, List.length_cons, List.length_nil]
        refine wpAny_take (i := 6) (v := ?_) rfl (by kernel_rfl) (by kernel_rfl) (by kernel_rfl) (fun _ _ _ h => h) (Or.inl ⟨by rfl, ?_⟩) ?_
        rotate_left
        · intro w'
          go_simp
          try with_reducible rfl
        simp only [Act.put, List.setIfInBounds_toArray, List.set_cons_zero, List.set_cons_succ, List.getElem_toArray, List.getElem_cons_zero, List.getElem_cons_succ, List.replicate, Array.replicate, List.size_toArray, List.length_cons, List.length_nil]
        refine wpAny_of_J (S := (fun j w' => j < 9 → ∀ o, w'.cell? ⟨w.heap.size, o, none⟩ = #[Value.int .u64 c'.lo, .int .u64 c'.hi, .bool c'.hg][o]?)) _ _ _ _ ?_
        refine wpAnyJ_take (i := 0) (T := (fun w' => ∀ o, w'.cell? ⟨w.heap.size, o, none⟩ = #[Value.int .u64 c'.lo, .int .u64 c'.hi, .bool c'.hg][o]?)) (v := ?_) (fun j => decide (j < 9)) rfl (by kernel_rfl) (by kernel_rfl) (by kernel_rfl) (by kernel_rfl) (fun j w' hf h => h (of_decide_eq_true hf)) (fun w' h _ => h) (fun _ _ _ h => h) hc01 (Or.inl ⟨by rfl, ?_⟩) ?_
        rotate_left
        · intro w' hSw
          go_simp
          try with_reducible rfl
        simp only [Act.put, List.setIfInBounds_toArray, List.set_cons_zero, List.set_cons_succ, List.getElem_toArray, List.getElem_cons_zero, List.getElem_cons_succ, List.replicate, Array.replicate, List.size_toArray, List.length_cons, List.length_nil]
        refine wpAnyJ_one (i := 3) rfl rfl (by kernel_rfl) (fun K hK => ?_)
        go_simp
        refine (KB1.out _).mono ?_
        rintro e w3 ⟨rfl, hx3⟩
        have hy3 := (HX1.out.drew).trans hx3
        obtain ⟨q3, hf3⟩ := (HB0.out.ex hy3 (by simp)).all
        unfold clsV
        go_wp2_with fail
        refine hK.out _ _ (fun _ => q3) ?_
        clear hK K
        simp only [Act.put, List.setIfInBounds_toArray, List.set_cons_zero, List.set_cons_succ, List.getElem_toArray, List.getElem_cons_zero, List.getElem_cons_succ]
        refine wpAnyJ_one (i := 4) rfl rfl (by kernel_rfl) (fun K hK => ?_)
        go_simp
        refine (KW1.out _).mono ?_
        rintro e w4 ⟨rfl, hx4⟩
        have hy4 := (hy3).trans hx4
        obtain ⟨q4, hf4⟩ := (HB0.out.ex hy4 (by simp)).all
        unfold clsV
        go_wp2_with fail
        refine hK.out _ _ (fun _ => q4) ?_
        clear hK K
        simp only [Act.put, List.setIfInBounds_toArray, List.set_cons_zero, List.set_cons_succ, List.getElem_toArray, List.getElem_cons_zero, List.getElem_cons_succ]
        refine wpAnyJ_one (i := 7) rfl rfl (by kernel_rfl) (fun K hK => ?_)
        go_simp
        refine (KB2.out _).mono ?_
        rintro e w5 ⟨rfl, hx5⟩
        have hy5 := (hy4).trans hx5
        obtain ⟨q5, hf5⟩ := (HB0.out.ex hy5 (by simp)).all
        unfold clsV
        go_wp2_with fail
        refine hK.out _ _ (fun _ => q5) ?_
        clear hK K
        simp only [Act.put, List.setIfInBounds_toArray, List.set_cons_zero, List.set_cons_succ, List.getElem_toArray, List.getElem_cons_zero, List.getElem_cons_succ]
        refine wpAnyJ_one (i := 8) rfl rfl (by kernel_rfl) (fun K hK => ?_)
        go_simp
        refine (KW2.out _).mono ?_
        rintro e w6 ⟨rfl, hx6⟩
        have hy6 := (hy5).trans hx6
        obtain ⟨q6, hf6⟩ := (HB0.out.ex hy6 (by simp)).all
        unfold clsV
        go_wp2_with fail
        refine hK.out _ _ (fun _ => q6) ?_
        clear hK K
        simp only [Act.put, List.setIfInBounds_toArray, List.set_cons_zero, List.set_cons_succ, List.getElem_toArray, List.getElem_cons_zero, List.getElem_cons_succ]
        refine wpAnyJ_one (i := 9) rfl rfl (by kernel_rfl) (fun K hK => ?_)
        go_simp
        refine hK.out _ _ (fun hj => by omega) ?_
        clear hK K
        refine wpAnyJ_done (by kernel_rfl) ?_ _
        have hb6 := HB0.out.ex hy6 (by simp)
        have hb61 := HB1.out.ex hy6 (by simp)
        have HY6 := hide hy6
        have HB6 := hide hb6
        have HB61 := hide hb61
        clear hx3 hx4 hx5 hx6 hy3 hy4 hy5 hy6 hb6 hb61 q3 q4 q5 q6 hf3 hf4 hf5 hf6
        go_wp2_with fail
        go_roundg g
        case measure => omega
        case rel =>
          refine ⟨l + 1, W2, by omega, by omega, by simp, ?_, ?_, ?_, ?_⟩
          · have h1 := HBN.out
            have h2 := HST.out
            rw [h2] at h1
            exact h1
          · have h1 := ((HB6.out.self 0 (.int .u64 W2.lo)).self 1 (.int .u64 W2.hi)).self 2 (.bool W2.hg)
            simpa using h1
          · repeat (refine BK.set ?_ (by simp) _)
            exact HB61.out
          · repeat (refine Ex.setCell ?_ (Or.inr (by simp)) _)
            exact HX.out.trans HY6.out
      | false =>
        rw [hv1] at HST
        simp only [Bool.false_or] at HST
        go_wp2_with fail
        refine (has_any c' (u : Int) _ (by omega)).mono ?_
        rintro e w2 ⟨rfl, hx2⟩
        have HX2 := hide (HX1.out.trans hx2)
        obtain ⟨hc02, _⟩ := (HB0.out.ex HX2.out (by simp)).all
        clear hc01
        cases hv2 : hasC c' (u : Int) with
        | true =>
          go_wp2_with fail
          refine wp_region_J (by kernel_rfl) ?_
          refine wpAny_take (i := 1) (v := ?_) rfl (by kernel_rfl) (by kernel_rfl) (by kernel_rfl) (fun _ _ _ h => h) (Or.inl ⟨by rfl, ?_⟩) ?_
          rotate_left
          · intro w'
            go_simp
            try with_reducible rfl
          simp only [Act.put, List.setIfInBounds_toArray, List.set_cons_zero, List.set_cons_succ, List.getElem_toArray, List.getElem_cons_zero, List.getElem_cons_succ, List.replicate, Array.replicate, List.size_toArray, List.length_cons, List.length_nil]
          refine wpAny_take (i := 2) (v := ?_) rfl (by kernel_rfl) (by kernel_rfl) (by kernel_rfl) (fun _ _ _ h => h) (Or.inl ⟨by rfl, ?_⟩) ?_
          rotate_left
          · intro w'
            go_simp
            try with_reducible rfl
          simp only [Act.put, List.setIfInBounds_toArray, List.set_cons_zero, List.set_cons_succ, List.getElem_toArray, List.getElem_cons_zero, List.getElem_cons_succ, List.replicate, Array.replicate, List.size_toArray, List.length_cons, List.length_nil]
          refine wpAny_take (i := 5) (v := ?_) rfl (by kernel_rfl) (by kernel_rfl) (by kernel_rfl) (fun _ _ _ h => h) (Or.inl ⟨by rfl, ?_⟩) ?_
          rotate_left
          · intro w'
            go_simp
            try with_reducible rfl
          simp only [Act.put, List.setIfInBounds_toArray, List.set_cons_zero, List.set_cons_succ, List.getElem_toArray, List.getElem_cons_zero, List.getElem_cons_succ, List.replicate, Array.replicate, List.size_toArray, List.length_cons, List.length_nil]
          refine wpAny_take (i := 6) (v := ?_) rfl (by kernel_rfl) (by kernel_rfl) (by kernel_rfl) (fun _ _ _ h => h) (Or.inl ⟨by rfl, ?_⟩) ?_
          rotate_left
          · intro w'
            go_simp
            try with_reducible rfl
          simp only [Act.put, List.setIfInBounds_toArray, List.set_cons_zero, List.set_cons_succ, List.getElem_toArray, List.getElem_cons_zero, List.getElem_cons_succ, List.replicate, Array.replicate, List.size_toArray, List.length_cons, List.length_nil]
          refine wpAny_of_J (S := (fun j w' => j < 9 → ∀ o, w'.cell? ⟨w.heap.size, o, none⟩ = #[Value.int .u64 c'.lo, .int .u64 c'.hi, .bool c'.hg][o]?)) _ _ _ _ ?_
          refine wpAnyJ_take (i := 0) (T := (fun w' => ∀ o, w'.cell? ⟨w.heap.size, o, none⟩ = #[Value.int .u64 c'.lo, .int .u64 c'.hi, .bool c'.hg][o]?)) (v := ?_) (fun j => decide (j < 9)) rfl (by kernel_rfl) (by kernel_rfl) (by kernel_rfl) (by kernel_rfl) (fun j w' hf h => h (of_decide_eq_true hf)) (fun w' h _ => h) (fun _ _ _ h => h) hc02 (Or.inl ⟨by rfl, ?_⟩) ?_
          rotate_left
          · intro w' hSw
            go_simp
            try with_reducible rfl
          simp only [Act.put, List.setIfInBounds_toArray, List.set_cons_zero, List.set_cons_succ, List.getElem_toArray, List.getElem_cons_zero, List.getElem_cons_succ, List.replicate, Array.replicate, List.size_toArray, List.length_cons, List.length_nil]
          refine wpAnyJ_one (i := 3) rfl rfl (by kernel_rfl) (fun K hK => ?_)
          go_simp
          refine (KB1.out _).mono ?_
          rintro e w3 ⟨rfl, hx3⟩
          have hy3 := (HX2.out.drew).trans hx3
          obtain ⟨q3, hf3⟩ := (HB0.out.ex hy3 (by simp)).all
          unfold clsV
          go_wp2_with fail
          refine hK.out _ _ (fun _ => q3) ?_
          clear hK K
          simp only [Act.put, List.setIfInBounds_toArray, List.set_cons_zero, List.set_cons_succ, List.getElem_toArray, List.getElem_cons_zero, List.getElem_cons_succ]
          refine wpAnyJ_one (i := 4) rfl rfl (by kernel_rfl) (fun K hK => ?_)
          go_simp
          refine (KW1.out _).mono ?_
          rintro e w4 ⟨rfl, hx4⟩
          have hy4 := (hy3).trans hx4
          obtain ⟨q4, hf4⟩ := (HB0.out.ex hy4 (by simp)).all
          unfold clsV
          go_wp2_with fail
          refine hK.out _ _ (fun _ => q4) ?_
          clear hK K
          simp only [Act.put, List.setIfInBounds_toArray, List.set_cons_zero, List.set_cons_succ, List.getElem_toArray, List.getElem_cons_zero, List.getElem_cons_succ]
          refine wpAnyJ_one (i := 7) rfl rfl (by kernel_rfl) (fun K hK => ?_)
          go_simp
          refine (KB2.out _).mono ?_
          rintro e w5 ⟨rfl, hx5⟩
          have hy5 := (hy4).trans hx5
          obtain ⟨q5, hf5⟩ := (HB0.out.ex hy5 (by simp)).all
          unfold clsV
          go_wp2_with fail
          refine hK.out _ _ (fun _ => q5) ?_
          clear hK K
          simp only [Act.put, List.setIfInBounds_toArray, List.set_cons_zero, List.set_cons_succ, List.getElem_toArray, List.getElem_cons_zero, List.getElem_cons_succ]
          refine wpAnyJ_one (i := 8) rfl rfl (by kernel_rfl) (fun K hK => ?_)
          go_simp
          refine (KW2.out _).mono ?_
          rintro e w6 ⟨rfl, hx6⟩
          have hy6 := (hy5).trans hx6
          obtain ⟨q6, hf6⟩ := (HB0.out.ex hy6 (by simp)).all
          unfold clsV
          go_wp2_with fail
          refine hK.out _ _ (fun _ => q6) ?_
          clear hK K
          simp only [Act.put, List.setIfInBounds_toArray, List.set_cons_zero, List.set_cons_succ, List.getElem_toArray, List.getElem_cons_zero, List.getElem_cons_succ]
          refine wpAnyJ_one (i := 9) rfl rfl (by kernel_rfl) (fun K hK => ?_)
          go_simp
          refine hK.out _ _ (fun hj => by omega) ?_
          clear hK K
          refine wpAnyJ_done (by kernel_rfl) ?_ _
          have hb6 := HB0.out.ex hy6 (by simp)
          have hb61 := HB1.out.ex hy6 (by simp)
          have HY6 := hide hy6
          have HB6 := hide hb6
          have HB61 := hide hb61
          clear hx3 hx4 hx5 hx6 hy3 hy4 hy5 hy6 hb6 hb61 q3 q4 q5 q6 hf3 hf4 hf5 hf6
          go_wp2_with fail
          go_roundg g
          case measure => omega
          case rel =>
            refine ⟨l + 1, W2, by omega, by omega, by simp, ?_, ?_, ?_, ?_⟩
            · have h1 := HBN.out
              have h2 := HST.out
              rw [hv2] at h2
              simp only [if_true] at h2
              rw [h2] at h1
              exact h1
            · have h1 := ((HB6.out.self 0 (.int .u64 W2.lo)).self 1 (.int .u64 W2.hi)).self 2 (.bool W2.hg)
              simpa using h1
            · repeat (refine BK.set ?_ (by simp) _)
              exact HB61.out
            · repeat (refine Ex.setCell ?_ (Or.inr (by simp)) _)
              exact HX.out.trans HY6.out
        | false => 
          go_wp2_with fail
          go_roundg g
          case measure => omega
          case rel =>
            have hx02 := HX1.out.trans hx2
            refine ⟨l + 1, c', by omega, by omega, by simp, ?_, HB0.out.ex hx02 (by simp), HB1.out.ex hx02 (by simp), HX.out.trans hx02⟩
            have h1 := HBN.out
            have h2 := HST.out
            rw [hv2] at h2
            rw [h2] at h1
            exact h1
end Go.Proofs.YtmeffeigamaipaaDoor.G
