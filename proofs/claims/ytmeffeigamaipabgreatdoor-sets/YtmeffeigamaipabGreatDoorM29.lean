/- Q2 Q3 Q4 Q5 Q6 W11 Q7 G17, one behind the other. -/
import Derived.Test.YtmeffeigamaipabGreatDoorM28
import Derived.Handy
import Derived.Deep.RegionHeld3
import Derived.Deep.LoopGhost
import Derived.Test.YtmeffeigamaipabGreatDoorM26
import Derived.Test.YtmeffeigamaipabGreatDoorM27
set_option linter.unusedVariables false
set_option linter.unusedSimpArgs false
/- Contracts of the sets of runes. -/
namespace Go.Proofs.YtmeffeigamaipabGreatDoor.Rx.Q
open Go.RowKit

structure Cls where
  lo : Int
  hi : Int
  hg : Bool
def clsV (c : Cls) : Value := .agg #[.int .u64 c.lo, .int .u64 c.hi, .bool c.hg]

def Cls.word (c : Cls) (r : Nat) : Int := if r / 64 = 0 then c.lo else c.hi
def shv (x : Int) (r : Int) : Int := x / 2 ^ min (bits BinOp.and IntKind.i32 r 63).toNat 64
def hasL (c : Cls) (r : Nat) : Bool := bits BinOp.and IntKind.u64 (shv (c.word r) r) 1 == 1
def hasC (c : Cls) (r : Int) : Bool := if 128 ≤ r then c.hg else hasL c r.toNat

theorem idx_word (c : Cls) (r : Nat) (hr : r < 128) : [Value.int IntKind.u64 c.lo, Value.int IntKind.u64 c.hi, Value.bool c.hg][r / 64]? = some (.int .u64 (c.word r)) := by
  have : r / 64 = 0 ∨ r / 64 = 1 := by omega
  unfold Cls.word
  rcases this with h | h <;> rw [h] <;> rfl
theorem low_nonneg : ∀ r : Fin 128, 0 ≤ bits BinOp.and IntKind.i32 ((r.val : Nat) : Int) 63 := by decide +kernel
theorem shift_word (x : Int) (r : Nat) (hr : r < 128) (W : World) : (Op.shift BinOp.shr IntKind.u64 x IntKind.i32 (bits BinOp.and IntKind.i32 (r : Int) 63)).run Tryz.prog W = .ok (.int .u64 (shv x r)) W := by
  rw [shift_shr_any _ _ _ _ (low_nonneg ⟨r, hr⟩)]
  rfl

set_option maxHeartbeats 1000000 in
set_option maxRecDepth 100000 in
theorem has_low (c : Cls) (r : Nat) (w : World) (hr : r < 128) : Calls Tryz.prog 121 #[clsV c, .int .i32 r] w fun e w' => e = .returned (.bool (hasL c r)) ∧ Ex [] w w' := by
  have hidx := idx_word c r hr
  have hsh := shift_word (c.word r) r hr
  unfold clsV hasL
  go_enter Tryz.func121, Tryz.ntmps121
  go_wp2_with fail
  go_ret
  exact ⟨rfl, (Ex.refl _ _).alloc _⟩

set_option maxHeartbeats 1000000 in
set_option maxRecDepth 100000 in
theorem has_any (c : Cls) (r : Int) (w : World) (hr : 0 ≤ r) : Calls Tryz.prog 121 #[clsV c, .int .i32 r] w fun e w' => e = .returned (.bool (hasC c r)) ∧ Ex [] w w' := by
  unfold hasC
  by_cases h : 128 ≤ r
  · rw [if_pos h]
    unfold clsV
    go_enter Tryz.func121, Tryz.ntmps121
    go_wp2_with fail
    go_ret
    exact ⟨rfl, (Ex.refl _ _).alloc _⟩
  · rw [if_neg h]
    obtain ⟨n, rfl⟩ := Int.eq_ofNat_of_zero_le hr
    exact has_low c n w (by omega)

def withC (c d : Cls) : Cls := ⟨bits BinOp.or IntKind.u64 c.lo d.lo, bits BinOp.or IntKind.u64 c.hi d.hi, c.hg || d.hg⟩
set_option maxHeartbeats 1000000 in
set_option maxRecDepth 100000 in
theorem with_any (c d : Cls) (w : World) : Calls Tryz.prog 191 #[clsV c, clsV d] w fun e w' => e = .returned (clsV (withC c d)) ∧ Ex [] w w' := by
  obtain ⟨c1, c2, c3⟩ := c
  obtain ⟨d1, d2, d3⟩ := d
  unfold clsV withC
  cases c3
  all_goals
    go_enter Tryz.func191, Tryz.ntmps191
    go_wp2_with fail
    refine bodyPost_ret (v := _) (by simp [results, Tryz.results191, go_sem]; rfl) rfl ⟨by simp, ?_⟩
    repeat (first | exact Ex.refl _ _ | refine Ex.setCell ?_ (Or.inr (by simp)) _ | refine Ex.alloc ?_ _)

def shl1 (b : Nat) : Int := IntKind.u64.wrap (2 ^ (b % 64))
def oneC (b : Nat) : Cls := if b / 64 = 0 then ⟨bits BinOp.or IntKind.u64 0 (shl1 b), 0, false⟩ else ⟨0, bits BinOp.or IntKind.u64 0 (shl1 b), false⟩
set_option maxHeartbeats 1000000 in
set_option maxRecDepth 100000 in
theorem between_one (b : Nat) (w : World) (hb : b < 128) : Calls Tryz.prog 184 #[.int .u8 b, .int .u8 b] w fun e w' => e = .returned (clsV (oneC b)) ∧ Ex [] w w' := by
  have hd : b / 64 = 0 ∨ b / 64 = 1 := by omega
  unfold clsV oneC shl1
  rcases hd with hd | hd
  all_goals
    go_enter Tryz.func184, Tryz.ntmps184
    go_wp2_with fail
    refine wp_loop_rounds 2 ?_
    rw [rounds_succ]
    go_wp2_with fail
    rw [rounds_succ]
    go_wp2_with fail
    refine bodyPost_ret (v := _) (by simp [results, Tryz.results184, go_sem]; rfl) rfl ⟨by simp [hd], ?_⟩
    repeat (first | exact Ex.refl _ _ | refine Ex.setCell ?_ (Or.inr (by simp)) _ | refine Ex.alloc ?_ _)

def stepB (c : Cls) (l : Nat) : Cls := if hasL c l || hasL c (l - 32) then withC (withC c (oneC l)) (oneC (l - 32)) else c
def bcf : Nat → Nat → Cls → Cls
  | 0, _, c => c
  | n + 1, l, c => bcf n (l + 1) (stepB c l)
def bothC (c : Cls) : Cls := bcf 26 97 c

set_option maxHeartbeats 2000000 in
set_option maxRecDepth 100000 in
theorem bothCases_any (c : Cls) (w : World) : Calls Tryz.prog 194 #[clsV c] w fun e w' => e = .returned (clsV (bothC c)) ∧ Ex [] w w' := by
  unfold clsV bothC
  go_enter Tryz.func194, Tryz.ntmps194
  go_wp2_with fail
  go_loopg [3] 26 (fun gk l3 wr => ∃ (l : Nat) (c' : Cls), l + gk = 123 ∧ 97 ≤ l ∧ l3 = .int .u8 l ∧ bcf gk l c' = bcf 26 97 c ∧ BK wr w.heap.size (.cells #[.int .u64 c'.lo, .int .u64 c'.hi, .bool c'.hg] 141 (0, 0)) ∧ BK wr (w.heap.size + 1) (.cells #[.int .u64 0, .int .u64 0, .bool false] 141 (0, 0)) ∧ Ex [] w wr)
  case atStart =>
    refine ⟨97, c, by omega, by omega, rfl, rfl, (BK.new _ _).alloc _, ?_, ((Ex.refl _ _).alloc _).alloc _⟩
    have := BK.new (w.alloc (Obj.cells #[.int .u64 c.lo, .int .u64 c.hi, .bool c.hg] 141)) (Obj.cells #[.int .u64 0, .int .u64 0, .bool false] 141)
    simpa using this
  case round =>
    obtain ⟨l, c', hl, hl97, rfl, hbc, hb0, hb1, hx⟩ := hrel
    have HX := hide hx
    have HB0 := hide hb0
    have HB1 := hide hb1
    have HBC := hide hbc
    have hl0 := hb0.lt
    have hl1 := hb1.lt
    obtain ⟨hc0, hf0⟩ := hb0.all
    obtain ⟨hc1, hf1⟩ := hb1.all
    clear hx hb0 hb1 hbc
    cases gk with
    | zero =>
      have e1 : ¬ (l : Int) ≤ 122 := by omega
      go_wp2_with fail
      refine bodyPost_ret (v := clsV c') (by simp [results, Tryz.results194, go_sem, clsV, hc1]) rfl ⟨?_, ?_⟩
      · have h1 := HBC.out
        rw [← h1]; rfl
      · repeat (refine Ex.setCell ?_ (Or.inr (by simp)) _)
        exact HX.out
    | succ g =>
      have e1 : (l : Int) ≤ 122 := by omega
      go_wp2_with fail
      refine (has_any c' l _ (by omega)).mono ?_
      rintro e w1 ⟨rfl, hx1⟩
      have hst : stepB c' l = if hasC c' (l : Int) || hasC c' ((l - 32 : Nat) : Int) then withC (withC c' (oneC l)) (oneC (l - 32)) else c' := by
        have h1 : hasC c' (l : Int) = hasL c' l := by unfold hasC; rw [if_neg (by omega)]; rfl
        have h2 : hasC c' ((l - 32 : Nat) : Int) = hasL c' (l - 32) := by unfold hasC; rw [if_neg (by omega)]; rfl
        rw [h1, h2]; rfl
      have HST := hide hst
      have hbn : bcf g (l + 1) (stepB c' l) = bcf 26 97 c := HBC.out
      have HBN := hide hbn
      clear hst hbn
      rw [show ((l : Int) - 97 + 65) = ((l - 32 : Nat) : Int) by omega]
      have hub : l - 32 < 128 := by omega
      have hlb : l < 128 := by omega
      have HX1 := hide hx1
      obtain ⟨hc01, _⟩ := (HB0.out.ex hx1 (by simp)).all
      clear hc0 hf0 hc1 hf1 hx1
      have key : ∃ O1 O2 W1 W2 : Cls, W2 = withC (withC c' (oneC l)) (oneC (l - 32)) ∧
          (∀ w, Calls Tryz.prog 184 #[.int .u8 l, .int .u8 l] w fun e w' => e = .returned (clsV O1) ∧ Ex [] w w') ∧
          (∀ w, Calls Tryz.prog 191 #[clsV c', clsV O1] w fun e w' => e = .returned (clsV W1) ∧ Ex [] w w') ∧
          (∀ w, Calls Tryz.prog 184 #[.int .u8 ((l - 32 : Nat) : Int), .int .u8 ((l - 32 : Nat) : Int)] w fun e w' => e = .returned (clsV O2) ∧ Ex [] w w') ∧
          (∀ w, Calls Tryz.prog 191 #[clsV W1, clsV O2] w fun e w' => e = .returned (clsV W2) ∧ Ex [] w w') :=
        ⟨oneC l, oneC (l - 32), withC c' (oneC l), withC (withC c' (oneC l)) (oneC (l - 32)), rfl, fun w => between_one l w hlb, fun w => with_any _ _ w, fun w => between_one (l - 32) w hub, fun w => with_any _ _ w⟩
      obtain ⟨O1, O2, W1, W2, hW2, kb1, kw1, kb2, kw2⟩ := key
      rw [← hW2] at HST
      have KB1 := hide kb1
      have KW1 := hide kw1
      have KB2 := hide kb2
      have KW2 := hide kw2
      clear kb1 kw1 kb2 kw2 hW2
      obtain ⟨u, hu⟩ : ∃ u : Nat, l - 32 = u := ⟨_, rfl⟩
      have hul : u + 32 = l := by omega
      rw [hu] at HST KB2 ⊢
      clear hu
      cases hv1 : hasC c' (l : Int) with
      | true =>
        rw [hv1] at HST
        simp only [Bool.true_or, if_true] at HST
        go_wp2_with fail
        refine wp_region_J (by kernel_rfl) ?_
        refine wpAny_take (i := 1) (v := ?_) rfl (by kernel_rfl) (by kernel_rfl) (by kernel_rfl) (fun _ _ _ h => h) (Or.inl ⟨by rfl, ?_⟩) ?_
        rotate_left
        · intro w'
          go_simp
          try with_reducible rfl
        simp only [Act.put, List.setIfInBounds_toArray, List.set_cons_zero, List.set_cons_succ, List.getElem_toArray, List.getElem_cons_zero, List.getElem_cons_succ, List.replicate, Array.replicate, List.size_toArray, List.length_cons, List.length_nil]
        refine wpAny_take (i := 2) (v := ?_) rfl (by kernel_rfl) (by kernel_rfl) (by kernel_rfl) (fun _ _ _ h => h) (Or.inl ⟨by rfl, ?_⟩) ?_
        rotate_left
        · intro w'
          go_simp
          try with_reducible rfl
        simp only [Act.put, List.setIfInBounds_toArray, List.set_cons_zero, List.set_cons_succ, List.getElem_toArray, List.getElem_cons_zero, List.getElem_cons_succ, List.replicate, Array.replicate, List.size_toArray, List.length_cons, List.length_nil]
        refine wpAny_take (i := 5) (v := ?_) rfl (by kernel_rfl) (by kernel_rfl) (by kernel_rfl) (fun _ _ _ h => h) (Or.inl ⟨by rfl, ?_⟩) ?_
        rotate_left
        · intro w'
          go_simp
          try with_reducible rfl
        simp only [Act.put, List.setIfInBounds_toArray, List.set_cons_zero, List.set_cons_succ, List.getElem_toArray, List.getElem_cons_zero, List.getElem_cons_succ, List.replicate, Array.replicate, List.size_toArray, List.length_cons, List.length_nil]
        refine wpAny_take (i := 6) (v := ?_) rfl (by kernel_rfl) (by kernel_rfl) (by kernel_rfl) (fun _ _ _ h => h) (Or.inl ⟨by rfl, ?_⟩) ?_
        rotate_left
        · intro w'
          go_simp
          try with_reducible rfl
        simp only [Act.put, List.setIfInBounds_toArray, List.set_cons_zero, List.set_cons_succ, List.getElem_toArray, List.getElem_cons_zero, List.getElem_cons_succ, List.replicate, Array.replicate, List.size_toArray, List.length_cons, List.length_nil]
        refine wpAny_of_J (S := (fun j w' => j < 9 → ∀ o, w'.cell? ⟨w.heap.size, o, none⟩ = #[Value.int .u64 c'.lo, .int .u64 c'.hi, .bool c'.hg][o]?)) _ _ _ _ ?_
        refine wpAnyJ_take (i := 0) (T := (fun w' => ∀ o, w'.cell? ⟨w.heap.size, o, none⟩ = #[Value.int .u64 c'.lo, .int .u64 c'.hi, .bool c'.hg][o]?)) (v := ?_) (fun j => decide (j < 9)) rfl (by kernel_rfl) (by kernel_rfl) (by kernel_rfl) (by kernel_rfl) (fun j w' hf h => h (of_decide_eq_true hf)) (fun w' h _ => h) (fun _ _ _ h => h) hc01 (Or.inl ⟨by rfl, ?_⟩) ?_
        rotate_left
        · intro w' hSw
          go_simp
          try with_reducible rfl
        simp only [Act.put, List.setIfInBounds_toArray, List.set_cons_zero, List.set_cons_succ, List.getElem_toArray, List.getElem_cons_zero, List.getElem_cons_succ, List.replicate, Array.replicate, List.size_toArray, List.length_cons, List.length_nil]
        refine wpAnyJ_one (i := 3) rfl rfl (by kernel_rfl) (fun K hK => ?_)
        go_simp
        refine (KB1.out _).mono ?_
        rintro e w3 ⟨rfl, hx3⟩
        have hy3 := (HX1.out.drew).trans hx3
        obtain ⟨q3, hf3⟩ := (HB0.out.ex hy3 (by simp)).all
        unfold clsV
        go_wp2_with fail
        refine hK.out _ _ (fun _ => q3) ?_
        clear hK K
        simp only [Act.put, List.setIfInBounds_toArray, List.set_cons_zero, List.set_cons_succ, List.getElem_toArray, List.getElem_cons_zero, List.getElem_cons_succ]
        refine wpAnyJ_one (i := 4) rfl rfl (by kernel_rfl) (fun K hK => ?_)
        go_simp
        refine (KW1.out _).mono ?_
        rintro e w4 ⟨rfl, hx4⟩
        have hy4 := (hy3).trans hx4
        obtain ⟨q4, hf4⟩ := (HB0.out.ex hy4 (by simp)).all
        unfold clsV
        go_wp2_with fail
        refine hK.out _ _ (fun _ => q4) ?_
        clear hK K
        simp only [Act.put, List.setIfInBounds_toArray, List.set_cons_zero, List.set_cons_succ, List.getElem_toArray, List.getElem_cons_zero, List.getElem_cons_succ]
        refine wpAnyJ_one (i := 7) rfl rfl (by kernel_rfl) (fun K hK => ?_)
        go_simp
        refine (KB2.out _).mono ?_
        rintro e w5 ⟨rfl, hx5⟩
        have hy5 := (hy4).trans hx5
        obtain ⟨q5, hf5⟩ := (HB0.out.ex hy5 (by simp)).all
        unfold clsV
        go_wp2_with fail
        refine hK.out _ _ (fun _ => q5) ?_
        clear hK K
        simp only [Act.put, List.setIfInBounds_toArray, List.set_cons_zero, List.set_cons_succ, List.getElem_toArray, List.getElem_cons_zero, List.getElem_cons_succ]
        refine wpAnyJ_one (i := 8) rfl rfl (by kernel_rfl) (fun K hK => ?_)
        go_simp
        refine (KW2.out _).mono ?_
        rintro e w6 ⟨rfl, hx6⟩
        have hy6 := (hy5).trans hx6
        obtain ⟨q6, hf6⟩ := (HB0.out.ex hy6 (by simp)).all
        unfold clsV
        go_wp2_with fail
        refine hK.out _ _ (fun _ => q6) ?_
        clear hK K
        simp only [Act.put, List.setIfInBounds_toArray, List.set_cons_zero, List.set_cons_succ, List.getElem_toArray, List.getElem_cons_zero, List.getElem_cons_succ]
        refine wpAnyJ_one (i := 9) rfl rfl (by kernel_rfl) (fun K hK => ?_)
        go_simp
        refine hK.out _ _ (fun hj => by omega) ?_
        clear hK K
        refine wpAnyJ_done (by kernel_rfl) ?_ _
        have hb6 := HB0.out.ex hy6 (by simp)
        have hb61 := HB1.out.ex hy6 (by simp)
        have HY6 := hide hy6
        have HB6 := hide hb6
        have HB61 := hide hb61
        clear hx3 hx4 hx5 hx6 hy3 hy4 hy5 hy6 hb6 hb61 q3 q4 q5 q6 hf3 hf4 hf5 hf6
        go_wp2_with fail
        go_roundg g
        case measure => omega
        case rel =>
          refine ⟨l + 1, W2, by omega, by omega, by simp, ?_, ?_, ?_, ?_⟩
          · have h1 := HBN.out
            have h2 := HST.out
            rw [h2] at h1
            exact h1
          · have h1 := ((HB6.out.self 0 (.int .u64 W2.lo)).self 1 (.int .u64 W2.hi)).self 2 (.bool W2.hg)
            simpa using h1
          · repeat (refine BK.set ?_ (by simp) _)
            exact HB61.out
          · repeat (refine Ex.setCell ?_ (Or.inr (by simp)) _)
            exact HX.out.trans HY6.out
      | false =>
        rw [hv1] at HST
        simp only [Bool.false_or] at HST
        go_wp2_with fail
        refine (has_any c' (u : Int) _ (by omega)).mono ?_
        rintro e w2 ⟨rfl, hx2⟩
        have HX2 := hide (HX1.out.trans hx2)
        obtain ⟨hc02, _⟩ := (HB0.out.ex HX2.out (by simp)).all
        clear hc01
        cases hv2 : hasC c' (u : Int) with
        | true =>
          go_wp2_with fail
          refine wp_region_J (by kernel_rfl) ?_
          refine wpAny_take (i := 1) (v := ?_) rfl (by kernel_rfl) (by kernel_rfl) (by kernel_rfl) (fun _ _ _ h => h) (Or.inl ⟨by rfl, ?_⟩) ?_
          rotate_left
          · intro w'
            go_simp
            try with_reducible rfl
          simp only [Act.put, List.setIfInBounds_toArray, List.set_cons_zero, List.set_cons_succ, List.getElem_toArray, List.getElem_cons_zero, List.getElem_cons_succ, List.replicate, Array.replicate, List.size_toArray, List.length_cons, List.length_nil]
          refine wpAny_take (i := 2) (v := ?_) rfl (by kernel_rfl) (by kernel_rfl) (by kernel_rfl) (fun _ _ _ h => h) (Or.inl ⟨by rfl, ?_⟩) ?_
          rotate_left
          · intro w'
            go_simp
            try with_reducible rfl
          simp only [Act.put, List.setIfInBounds_toArray, List.set_cons_zero, List.set_cons_succ, List.getElem_toArray, List.getElem_cons_zero, List.getElem_cons_succ, List.replicate, Array.replicate, List.size_toArray, List.length_cons, List.length_nil]
          refine wpAny_take (i := 5) (v := ?_) rfl (by kernel_rfl) (by kernel_rfl) (by kernel_rfl) (fun _ _ _ h => h) (Or.inl ⟨by rfl, ?_⟩) ?_
          rotate_left
          · intro w'
            go_simp
            try with_reducible rfl
          simp only [Act.put, List.setIfInBounds_toArray, List.set_cons_zero, List.set_cons_succ, List.getElem_toArray, List.getElem_cons_zero, List.getElem_cons_succ, List.replicate, Array.replicate, List.size_toArray, List.length_cons, List.length_nil]
          refine wpAny_take (i := 6) (v := ?_) rfl (by kernel_rfl) (by kernel_rfl) (by kernel_rfl) (fun _ _ _ h => h) (Or.inl ⟨by rfl, ?_⟩) ?_
          rotate_left
          · intro w'
            go_simp
            try with_reducible rfl
          simp only [Act.put, List.setIfInBounds_toArray, List.set_cons_zero, List.set_cons_succ, List.getElem_toArray, List.getElem_cons_zero, List.getElem_cons_succ, List.replicate, Array.replicate, List.size_toArray, List.length_cons, List.length_nil]
          refine wpAny_of_J (S := (fun j w' => j < 9 → ∀ o, w'.cell? ⟨w.heap.size, o, none⟩ = #[Value.int .u64 c'.lo, .int .u64 c'.hi, .bool c'.hg][o]?)) _ _ _ _ ?_
          refine wpAnyJ_take (i := 0) (T := (fun w' => ∀ o, w'.cell? ⟨w.heap.size, o, none⟩ = #[Value.int .u64 c'.lo, .int .u64 c'.hi, .bool c'.hg][o]?)) (v := ?_) (fun j => decide (j < 9)) rfl (by kernel_rfl) (by kernel_rfl) (by kernel_rfl) (by kernel_rfl) (fun j w' hf h => h (of_decide_eq_true hf)) (fun w' h _ => h) (fun _ _ _ h => h) hc02 (Or.inl ⟨by rfl, ?_⟩) ?_
          rotate_left
          · intro w' hSw
            go_simp
            try with_reducible rfl
          simp only [Act.put, List.setIfInBounds_toArray, List.set_cons_zero, List.set_cons_succ, List.getElem_toArray, List.getElem_cons_zero, List.getElem_cons_succ, List.replicate, Array.replicate, List.size_toArray, List.length_cons, List.length_nil]
          refine wpAnyJ_one (i := 3) rfl rfl (by kernel_rfl) (fun K hK => ?_)
          go_simp
          refine (KB1.out _).mono ?_
          rintro e w3 ⟨rfl, hx3⟩
          have hy3 := (HX2.out.drew).trans hx3
          obtain ⟨q3, hf3⟩ := (HB0.out.ex hy3 (by simp)).all
          unfold clsV
          go_wp2_with fail
          refine hK.out _ _ (fun _ => q3) ?_
          clear hK K
          simp only [Act.put, List.setIfInBounds_toArray, List.set_cons_zero, List.set_cons_succ, List.getElem_toArray, List.getElem_cons_zero, List.getElem_cons_succ]
          refine wpAnyJ_one (i := 4) rfl rfl (by kernel_rfl) (fun K hK => ?_)
          go_simp
          refine (KW1.out _).mono ?_
          rintro e w4 ⟨rfl, hx4⟩
          have hy4 := (hy3).trans hx4
          obtain ⟨q4, hf4⟩ := (HB0.out.ex hy4 (by simp)).all
          unfold clsV
          go_wp2_with fail
          refine hK.out _ _ (fun _ => q4) ?_
          clear hK K
          simp only [Act.put, List.setIfInBounds_toArray, List.set_cons_zero, List.set_cons_succ, List.getElem_toArray, List.getElem_cons_zero, List.getElem_cons_succ]
          refine wpAnyJ_one (i := 7) rfl rfl (by kernel_rfl) (fun K hK => ?_)
          go_simp
          refine (KB2.out _).mono ?_
          rintro e w5 ⟨rfl, hx5⟩
          have hy5 := (hy4).trans hx5
          obtain ⟨q5, hf5⟩ := (HB0.out.ex hy5 (by simp)).all
          unfold clsV
          go_wp2_with fail
          refine hK.out _ _ (fun _ => q5) ?_
          clear hK K
          simp only [Act.put, List.setIfInBounds_toArray, List.set_cons_zero, List.set_cons_succ, List.getElem_toArray, List.getElem_cons_zero, List.getElem_cons_succ]
          refine wpAnyJ_one (i := 8) rfl rfl (by kernel_rfl) (fun K hK => ?_)
          go_simp
          refine (KW2.out _).mono ?_
          rintro e w6 ⟨rfl, hx6⟩
          have hy6 := (hy5).trans hx6
          obtain ⟨q6, hf6⟩ := (HB0.out.ex hy6 (by simp)).all
          unfold clsV
          go_wp2_with fail
          refine hK.out _ _ (fun _ => q6) ?_
          clear hK K
          simp only [Act.put, List.setIfInBounds_toArray, List.set_cons_zero, List.set_cons_succ, List.getElem_toArray, List.getElem_cons_zero, List.getElem_cons_succ]
          refine wpAnyJ_one (i := 9) rfl rfl (by kernel_rfl) (fun K hK => ?_)
          go_simp
          refine hK.out _ _ (fun hj => by omega) ?_
          clear hK K
          refine wpAnyJ_done (by kernel_rfl) ?_ _
          have hb6 := HB0.out.ex hy6 (by simp)
          have hb61 := HB1.out.ex hy6 (by simp)
          have HY6 := hide hy6
          have HB6 := hide hb6
          have HB61 := hide hb61
          clear hx3 hx4 hx5 hx6 hy3 hy4 hy5 hy6 hb6 hb61 q3 q4 q5 q6 hf3 hf4 hf5 hf6
          go_wp2_with fail
          go_roundg g
          case measure => omega
          case rel =>
            refine ⟨l + 1, W2, by omega, by omega, by simp, ?_, ?_, ?_, ?_⟩
            · have h1 := HBN.out
              have h2 := HST.out
              rw [hv2] at h2
              simp only [if_true] at h2
              rw [h2] at h1
              exact h1
            · have h1 := ((HB6.out.self 0 (.int .u64 W2.lo)).self 1 (.int .u64 W2.hi)).self 2 (.bool W2.hg)
              simpa using h1
            · repeat (refine BK.set ?_ (by simp) _)
              exact HB61.out
            · repeat (refine Ex.setCell ?_ (Or.inr (by simp)) _)
              exact HX.out.trans HY6.out
        | false => 
          go_wp2_with fail
          go_roundg g
          case measure => omega
          case rel =>
            have hx02 := HX1.out.trans hx2
            refine ⟨l + 1, c', by omega, by omega, by simp, ?_, HB0.out.ex hx02 (by simp), HB1.out.ex hx02 (by simp), HX.out.trans hx02⟩
            have h1 := HBN.out
            have h2 := HST.out
            rw [hv2] at h2
            rw [h2] at h1
            exact h1
end Go.Proofs.YtmeffeigamaipabGreatDoor.Rx.Q

/- Contracts of the pattern reader: a byte that stands for itself, bare or behind a backslash. -/
namespace Go.Proofs.YtmeffeigamaipabGreatDoor.Rx.Q
open Go.RowKit

def specL : List UInt8 := [92, 46, 43, 42, 63, 40, 41, 124, 91, 93, 123, 125, 94, 36]
def escL : List UInt8 := [92, 46, 43, 42, 63, 40, 41, 124, 91, 93, 123, 125, 94, 36, 45, 34]

def sing (f : Bool) (c : Cls) : Cls := if f then bothC c else c
def partV (c : Cls) : Value := .agg #[.int .i64 0, .slice none 0 0, .int .u64 c.lo, .int .u64 c.hi, .bool c.hg, .int .i64 0, .int .i64 0, .int .i64 0, .bool false]

set_option maxHeartbeats 1000000 in
set_option maxRecDepth 100000 in
theorem singleOf_any (r : Nat) (t : ByteArray) (k : Nat) (mv : Rest) (c : Cls) (w : World) (hr : RD w r t k mv) :
    Calls Tryz.prog 182 #[.pointer (some ⟨r, 0, none⟩), clsV c] w fun e w' => e = .returned (partV (sing mv.f c)) ∧ Ex [] w w' := by
  have h3 := hr.c3
  have hlt := hr.lt
  have KB := hide (fun w => bothCases_any c w)
  clear hr
  unfold clsV sing
  obtain ⟨d, f, g, m⟩ := mv
  simp only at h3
  cases f with
  | false =>
    go_enter Tryz.func182, Tryz.ntmps182
    go_wp2_with fail
    refine bodyPost_ret (v := partV c) (by simp [results, Tryz.results182, go_sem, partV]) rfl ⟨by simp, ?_⟩
    repeat (first | exact Ex.refl _ _ | refine Ex.setCell ?_ (Or.inr (by simp)) _ | refine Ex.alloc ?_ _)
  | true =>
    obtain ⟨b, hb⟩ : ∃ b, bothC c = b := ⟨_, rfl⟩
    rw [hb] at KB ⊢
    go_enter Tryz.func182, Tryz.ntmps182
    go_wp2_with fail
    refine (KB.out _).mono ?_
    rintro e w1 ⟨rfl, hx1⟩
    have hB0 := BK.ex ((BK.new w (Obj.cells #[.int .u64 c.lo, .int .u64 c.hi, .bool c.hg] 141)).alloc (Obj.cells #[.int .i64 0, .slice none 0 0, .int .u64 0, .int .u64 0, .bool false, .int .i64 0, .int .i64 0, .int .i64 0, .bool false] 143)) hx1 (by simp)
    have hB1 := BK.ex (BK.new (w.alloc (Obj.cells #[.int .u64 c.lo, .int .u64 c.hi, .bool c.hg] 141)) (Obj.cells #[.int .i64 0, .slice none 0 0, .int .u64 0, .int .u64 0, .bool false, .int .i64 0, .int .i64 0, .int .i64 0, .bool false] 143)) hx1 (by simp)
    simp only [World.size_alloc] at hB1
    obtain ⟨hc0, hf0⟩ := hB0.all
    obtain ⟨hc1, hf1⟩ := hB1.all
    have hl0 := hB0.lt
    have hl1 := hB1.lt
    have HX1 := hide hx1
    clear hB0 hB1 hx1
    unfold clsV
    go_wp2_with fail
    refine bodyPost_ret (v := partV b) (by simp [results, Tryz.results182, go_sem, partV, hc1, hl1]) rfl ⟨by simp, ?_⟩
    repeat (refine Ex.setCell ?_ (Or.inr (by simp)) _)
    exact (((Ex.refl _ _).alloc _).alloc _).trans HX1.out

theorem not_in_spec {b : UInt8} (h : b ∉ specL) : b ≠ 92 ∧ b ≠ 46 ∧ b ≠ 43 ∧ b ≠ 42 ∧ b ≠ 63 ∧ b ≠ 40 ∧ b ≠ 41 ∧ b ≠ 124 ∧ b ≠ 91 ∧ b ≠ 93 ∧ b ≠ 123 ∧ b ≠ 125 ∧ b ≠ 94 ∧ b ≠ 36 := by
  simpa [specL] using h
def NX (t : ByteArray) (k : Nat) : Prop := ∀ h : k < t.size, (t[k]'h) ≠ 42 ∧ (t[k]'h) ≠ 43 ∧ (t[k]'h) ≠ 63 ∧ (t[k]'h) ≠ 123 ∧ (t[k]'h) ≠ 124 ∧ (t[k]'h) ≠ 41

def Items (t : ByteArray) : Nat → List UInt8 → Prop
  | k, [] => k = t.size
  | k, b :: l => b.toNat < 128 ∧ ((b ∉ specL ∧ ∃ h : k < t.size, (t[k]'h) = b ∧ Items t (k + 1) l) ∨ (b ∈ specL ∧ ∃ h : k + 1 < t.size, (t[k]'(Nat.lt_of_succ_lt h)) = 92 ∧ (t[k + 1]'h) = b ∧ Items t (k + 2) l))

theorem Items.nx {t : ByteArray} {k : Nat} {l : List UInt8} (h : Items t k l) : NX t k := by
  intro hk
  cases l with
  | nil => simp only [Items] at h; omega
  | cons b l =>
    rcases h.2 with ⟨h1, h2, h3, _⟩ | ⟨h1, h2, h3, _⟩
    · obtain ⟨n1, n2, n3, n4, n5, n6, n7, n8, n9, n10, n11, n12, n13, n14⟩ := not_in_spec h1
      rw [h3]
      exact ⟨n4, n3, n5, n11, n8, n7⟩
    · rw [h3]; decide
theorem Items.le {t : ByteArray} {k : Nat} {l : List UInt8} (h : Items t k l) : k ≤ t.size := by
  cases l with
  | nil => simp only [Items] at h; omega
  | cons b l =>
    rcases h.2 with ⟨h1, h2, h3, _⟩ | ⟨h1, h2, h3, _⟩ <;> omega
theorem Items.lt {t : ByteArray} {k : Nat} {b : UInt8} {l : List UInt8} (h : Items t k (b :: l)) : k < t.size := by
  rcases h.2 with ⟨h1, h2, h3, _⟩ | ⟨h1, h2, h3, _⟩ <;> omega

end Go.Proofs.YtmeffeigamaipabGreatDoor.Rx.Q

/- Contracts of the pattern reader at bytes that stand for themselves: a branch, an expression, the face. -/
namespace Go.Proofs.YtmeffeigamaipabGreatDoor.Rx.Q
open Go.RowKit

end Go.Proofs.YtmeffeigamaipabGreatDoor.Rx.Q

/- Contracts of the pattern reader at bytes that stand for themselves: the mark ahead of all, the face. -/
namespace Go.Proofs.YtmeffeigamaipabGreatDoor.Rx.Q
open Go.RowKit

theorem RD.at3 {w : World} {r : Nat} {t : ByteArray} {k : Nat} {mv : Rest} (h : RD w r t k mv) : RD (w.setCell ⟨r, 1, none⟩ (.int .i64 3)) r t 3 mv := by
  unfold RD at h ⊢
  simp [World.setCell, Array.getElem?_modify, h]
theorem RD.fold {w : World} {r : Nat} {t : ByteArray} {k : Nat} {d g : Nat} {f : Bool} {m : Value} (h : RD w r t k ⟨d, f, g, m⟩) : RD (w.setCell ⟨r, 3, none⟩ (.bool true)) r t k ⟨d, true, g, m⟩ := by
  unfold RD at h ⊢
  simp [World.setCell, Array.getElem?_modify, h]

end Go.Proofs.YtmeffeigamaipabGreatDoor.Rx.Q

/- Contracts of the weight and of the builder of programs, at a row of single runes. -/
namespace Go.Proofs.YtmeffeigamaipabGreatDoor.Rx.Q
open Go.RowKit

def takesC (cs : List Cls) : List Value := cs.flatMap fun c => insOf 0 c.lo c.hi c.hg
def progC (cs : List Cls) : List Value := takesC cs ++ insOf 6 0 0 false
end Go.Proofs.YtmeffeigamaipabGreatDoor.Rx.Q

/- The contract of regex.Read at a text of dots. -/
namespace Go.Proofs.YtmeffeigamaipabGreatDoor.Rx
open Go.RowKit

structure PT (w : World) (q base m : Nat) : Prop where
  le : base ≤ w.heap.size
  ql : base ≤ q
  ex : ∃ cv sv B mb, BK w q (.cells #[cv, sv, .slice (some ⟨B, 0, none⟩) (m + 1) (m + 1), .int .i64 0, .map (some mb)] 157 (0, 0)) ∧ w.ownsRow base 194 7 cv (m + 1) (progL m) ∧ w.ownsRow base 206 2 sv 1 [.int .i64 0, .int .u64 0] ∧ BH w B (B + 1) m m ∧ base ≤ B

theorem RD.bk {w : World} {r : Nat} {t : ByteArray} {k : Nat} {mv : Value} (h : RD w r t k mv) : BK w r (.cells #[.string t, .int .i64 k, .int .i64 0, .bool false, .int .i64 0, mv] 147 (0, 0)) := h

end Go.Proofs.YtmeffeigamaipabGreatDoor.Rx

/- Contracts of the ways between instructions and of regex.Read, at a row of single runes. -/
namespace Go.Proofs.YtmeffeigamaipabGreatDoor.Rx.Q
open Go.RowKit

structure PT (w : World) (q base m : Nat) (cs : List Cls) : Prop where
  len : cs.length = m
  le : base ≤ w.heap.size
  ql : base ≤ q
  ex : ∃ cv sv B mb, BK w q (.cells #[cv, sv, .slice (some ⟨B, 0, none⟩) (m + 1) (m + 1), .int .i64 0, .map (some mb)] 157 (0, 0)) ∧ w.ownsRow base 194 7 cv (m + 1) (progC cs) ∧ w.ownsRow base 206 2 sv 1 [.int .i64 0, .int .u64 0] ∧ BH w B (B + 1) m m ∧ base ≤ B

end Go.Proofs.YtmeffeigamaipabGreatDoor.Rx.Q

/- regex.Read at a text that is no pattern, and at one byte that stands for itself. -/
namespace Go.Proofs.YtmeffeigamaipabGreatDoor.G
open Go.RowKit

end Go.Proofs.YtmeffeigamaipabGreatDoor.G
