/- The sets of runes, whatever they are made of. -/
import Derived.Test.YtmeffeigamaipaaDoorM05
set_option linter.unusedVariables false
set_option linter.unusedSimpArgs false
namespace Go.Proofs.YtmeffeigamaipaaDoor.G
open Go.RowKit

set_option maxHeartbeats 1000000 in
set_option maxRecDepth 100000 in
theorem between_any (a b : Nat) (w : World) (hab : a ≤ b) (hb : b < 128) : Calls Tryd.prog 63 #[.int .u8 a, .int .u8 b] w fun e w' => e = .returned (clsV (rangeC a b)) ∧ Ex [] w w' := by
  obtain ⟨R, hR⟩ : ∃ R, rangeC a b = R := ⟨_, rfl⟩
  have HR : Hid (addBs (b + 1 - a) a ⟨0, 0, false⟩ = R) := hR
  rw [hR]
  clear hR
  go_enter Tryd.func63, Tryd.ntmps63
  go_wp2_with fail
  go_loopg [6] (b + 1 - a) (fun gk l6 wr => ∃ (i : Nat) (c : Cls), i + gk = b + 1 ∧ l6 = .int .u8 i ∧ addBs gk i c = R ∧ BK wr w.heap.size (.cells #[.int .u64 0, .int .u64 0, .bool false] 57 (0, 0)) ∧ BK wr (w.heap.size + 1) (.cells #[.int .u64 c.lo, .int .u64 c.hi, .bool c.hg] 57 (0, 0)) ∧ Ex [] w wr)
  case atStart =>
    refine ⟨a, ⟨0, 0, false⟩, by omega, rfl, HR.out, (BK.new _ _).alloc _, ?_, ((Ex.refl _ _).alloc _).alloc _⟩
    have := BK.new (w.alloc (Obj.cells #[.int .u64 0, .int .u64 0, .bool false] 57)) (Obj.cells #[.int .u64 0, .int .u64 0, .bool false] 57)
    simpa using this
  case round =>
    obtain ⟨i, c, hi, rfl, hac, hb0, hb1, hx⟩ := hrel
    have HX := hide hx
    have HB0 := hide hb0
    have HB1 := hide hb1
    have HAC := hide hac
    have hl0 := hb0.lt
    have hl1 := hb1.lt
    obtain ⟨hc0, hf0⟩ := hb0.all
    obtain ⟨hc1, hf1⟩ := hb1.all
    clear hx hb0 hb1 hac
    cases gk with
    | zero =>
      have e1 : ¬ (i : Int) ≤ (b : Int) := by omega
      have HRC : Hid (c = R) := HAC.out
      go_wp2_with fail
      refine bodyPost_ret (v := clsV c) (by simp [results, Tryd.results63, go_sem, clsV, hc0, hl0]) rfl ⟨by rw [HRC.out], ?_⟩
      repeat (refine Ex.setCell ?_ (Or.inr (by simp)) _)
      exact HX.out
    | succ g =>
      have e1 : (i : Int) ≤ (b : Int) := by omega
      have hi128 : i < 128 := by omega
      have HAN : Hid (addBs g (i + 1) (addB c i) = R) := HAC.out
      have hd : i / 64 = 0 ∨ i / 64 = 1 := by omega
      obtain ⟨c1, c2, c3⟩ := c
      simp only at hc1 HB1 HAN
      rcases hd with hd | hd
      · have HAB : Hid (addB ⟨c1, c2, c3⟩ i = ⟨bits BinOp.or IntKind.u64 c1 (shl1 i), c2, c3⟩) := by show addB ⟨c1, c2, c3⟩ i = _; unfold addB; rw [if_pos hd]
        obtain ⟨d, hdd⟩ : ∃ d, bits BinOp.or IntKind.u64 c1 (shl1 i) = d := ⟨_, rfl⟩
        unfold shl1 at hdd
        go_wp2_with fail
        go_roundg g
        case measure => omega
        case rel =>
          refine ⟨i + 1, ⟨d, c2, c3⟩, by omega, by simp, ?_, ?_, ?_, ?_⟩
          · have h1 := HAN.out
            rw [HAB.out] at h1
            unfold shl1 at h1
            rw [hdd] at h1
            exact h1
          · repeat (refine BK.set ?_ (by simp) _)
            exact HB0.out
          · have h1 := HB1.out.self 0 (.int .u64 d)
            simpa using h1
          · repeat (refine Ex.setCell ?_ (Or.inr (by simp)) _)
            exact HX.out
      · have HAB : Hid (addB ⟨c1, c2, c3⟩ i = ⟨c1, bits BinOp.or IntKind.u64 c2 (shl1 i), c3⟩) := by show addB ⟨c1, c2, c3⟩ i = _; unfold addB; rw [if_neg (by omega)]
        obtain ⟨d, hdd⟩ : ∃ d, bits BinOp.or IntKind.u64 c2 (shl1 i) = d := ⟨_, rfl⟩
        unfold shl1 at hdd
        go_wp2_with fail
        go_roundg g
        case measure => omega
        case rel =>
          refine ⟨i + 1, ⟨c1, d, c3⟩, by omega, by simp, ?_, ?_, ?_, ?_⟩
          · have h1 := HAN.out
            rw [HAB.out] at h1
            unfold shl1 at h1
            rw [hdd] at h1
            exact h1
          · repeat (refine BK.set ?_ (by simp) _)
            exact HB0.out
          · have h1 := HB1.out.self 1 (.int .u64 d)
            simpa using h1
          · repeat (refine Ex.setCell ?_ (Or.inr (by simp)) _)
            exact HX.out

set_option maxHeartbeats 400000 in
theorem others_any (c : Cls) (w : World) :
    Calls Tryd.prog 68 #[clsV c] w fun e w' => e = .returned (clsV (othersC c)) ∧ Ex [] w w' := by
  obtain ⟨c1, c2, c3⟩ := c
  unfold othersC clsV
  simp only
  obtain ⟨d1, hd1⟩ : ∃ d, bits BinOp.xor IntKind.u64 IntKind.u64.max c1 = d := ⟨_, rfl⟩
  obtain ⟨d2, hd2⟩ : ∃ d, bits BinOp.xor IntKind.u64 IntKind.u64.max c2 = d := ⟨_, rfl⟩
  go_enter Tryd.func68, Tryd.ntmps68
  go_wp2
  refine bodyPost_ret (v := .agg #[.int .u64 d1, .int .u64 d2, .bool (!c3)]) (by simp [results, Tryd.results68, go_sem]) rfl ⟨rfl, ?_⟩
  repeat (first | exact Ex.refl _ _ | refine Ex.setCell ?_ (Or.inr (by simp)) _ | refine Ex.alloc ?_ _)

set_option maxHeartbeats 1000000 in
theorem digits_any (w : World) : Calls Tryd.prog 77 #[] w fun e w' => e = .returned (clsV digitC) ∧ Ex [] w w' := by
  obtain ⟨c, hc⟩ : ∃ c, digitC = c := ⟨_, rfl⟩
  have K := hide (fun w => between_any 48 57 w (by omega) (by omega))
  rw [show rangeC 48 57 = c from hc] at K
  rw [hc]
  clear hc
  go_enter Tryd.func77, Tryd.ntmps77
  go_wp2_with fail
  refine (K.out _).mono ?_
  rintro e w1 ⟨rfl, hx⟩
  have X1 : Hid (Ex [] (w.alloc (Obj.cells #[.int .u64 0, .int .u64 0, .bool false] 57)) w1) := hx
  clear hx
  have hb := (BK.new w (Obj.cells #[.int .u64 0, .int .u64 0, .bool false] 57)).ex X1.out (by simp)
  obtain ⟨hc, hf⟩ := hb.all
  have hl := hb.lt
  clear hb
  unfold clsV
  go_wp2_with fail
  refine bodyPost_ret (v := clsV c) (by simp [results, Tryd.results77, go_sem, clsV, hc]) rfl ⟨rfl, ?_⟩
  repeat (refine Ex.setCell ?_ (Or.inr (by simp)) _)
  exact ((Ex.refl _ _).alloc _).trans X1.out

set_option maxHeartbeats 1000000 in
theorem everyRune_any (w : World) : Calls Tryd.prog 59 #[] w fun e w' => e = .returned (clsV dotC) ∧ Ex [] w w' := by
  obtain ⟨c, hc⟩ : ∃ c, dotC = c := ⟨_, rfl⟩
  have K := hide (fun w => others_any ⟨0, 0, false⟩ w)
  rw [show othersC ⟨0, 0, false⟩ = c from hc] at K
  rw [hc]
  clear hc
  go_enter Tryd.func59, Tryd.ntmps59
  go_wp2_with fail
  refine (K.out _).mono ?_
  rintro e w1 ⟨rfl, hx⟩
  have X1 : Hid (Ex [] (w.alloc (Obj.cells #[.int .u64 0, .int .u64 0, .bool false] 57)) w1) := hx
  clear hx
  have hb := (BK.new w (Obj.cells #[.int .u64 0, .int .u64 0, .bool false] 57)).ex X1.out (by simp)
  obtain ⟨hc, hf⟩ := hb.all
  have hl := hb.lt
  clear hb
  unfold clsV
  go_wp2_with fail
  refine bodyPost_ret (v := clsV c) (by simp [results, Tryd.results59, go_sem, clsV, hc]) rfl ⟨rfl, ?_⟩
  repeat (refine Ex.setCell ?_ (Or.inr (by simp)) _)
  exact ((Ex.refl _ _).alloc _).trans X1.out

set_option maxHeartbeats 2000000 in
set_option maxRecDepth 100000 in
theorem bytesOf_any (l : List UInt8) (w : World) (hl : l.length ≤ 60) (h128 : ∀ b ∈ l, b.toNat < 128) : Calls Tryd.prog 79 #[.string ⟨l.toArray⟩] w fun e w' => e = .returned (clsV (bytesC l)) ∧ Ex [] w w' := by
  obtain ⟨R, hR⟩ : ∃ R, bytesC l = R := ⟨_, rfl⟩
  have HR : Hid (l.foldl (fun c b => withC c (oneC b.toNat)) ⟨0, 0, false⟩ = R) := hR
  rw [hR]
  clear hR
  have H8 := hide h128
  clear h128
  obtain ⟨t, ht⟩ : ∃ t : ByteArray, (⟨l.toArray⟩ : ByteArray) = t := ⟨_, rfl⟩
  have hsz : t.size = l.length := by rw [← ht]; simp [ByteArray.size]
  have HT : Hid (∀ i (hi : i < t.size), l[i]? = some (t[i]'hi)) := by
    intro i hi
    subst ht
    simp [ByteArray.size] at hi
    rw [List.getElem?_eq_getElem hi]; rfl
  rw [ht]
  have HSZ := hide hsz
  have hts : t.size ≤ 60 := by omega
  clear ht hsz
  go_enter Tryd.func79, Tryd.ntmps79
  go_wp2_with fail
  go_loopg [7] t.size (fun gk l7 wr => ∃ (i : Nat) (c : Cls), i + gk = t.size ∧ l7 = .int .i64 i ∧ (l.drop i).foldl (fun c b => withC c (oneC b.toNat)) c = R ∧ BK wr w.heap.size (.cells #[.int .u64 0, .int .u64 0, .bool false] 57 (0, 0)) ∧ BK wr (w.heap.size + 1) (.cells #[.int .u64 c.lo, .int .u64 c.hi, .bool c.hg] 57 (0, 0)) ∧ Ex [] w wr)
  case atStart =>
    refine ⟨0, ⟨0, 0, false⟩, by omega, rfl, by simpa using HR.out, (BK.new _ _).alloc _, ?_, ((Ex.refl _ _).alloc _).alloc _⟩
    have := BK.new (w.alloc (Obj.cells #[.int .u64 0, .int .u64 0, .bool false] 57)) (Obj.cells #[.int .u64 0, .int .u64 0, .bool false] 57)
    simpa using this
  case round =>
    obtain ⟨i, c, hi, rfl, hac, hb0, hb1, hx⟩ := hrel
    have HX := hide hx
    have HB0 := hide hb0
    have HB1 := hide hb1
    have HAC := hide hac
    have hl0 := hb0.lt
    have hl1 := hb1.lt
    obtain ⟨hc0, hf0⟩ := hb0.all
    obtain ⟨hc1, hf1⟩ := hb1.all
    clear hx hb0 hb1 hac
    cases gk with
    | zero =>
      have e1 : ¬ (i : Int) < (t.size : Int) := by omega
      have HRC : Hid (c = R) := by
        have h1 := HAC.out
        have hs := HSZ.out
        rw [List.drop_of_length_le (by omega)] at h1
        exact h1
      go_wp2_with fail
      refine bodyPost_ret (v := clsV c) (by simp [results, Tryd.results79, go_sem, clsV, hc0, hl0]) rfl ⟨by rw [HRC.out], ?_⟩
      repeat (refine Ex.setCell ?_ (Or.inr (by simp)) _)
      exact HX.out
    | succ g =>
      have hit : i < t.size := by omega
      have e1 : (i : Int) < (t.size : Int) := by omega
      obtain ⟨b, hb⟩ : ∃ b, (t[i]'hit) = b := ⟨_, rfl⟩
      have hli : l[i]? = some b := by rw [HT.out i hit, hb]
      have hb128 : b.toNat < 128 := H8.out b (List.mem_of_getElem? hli)
      have HN : Hid ((l.drop (i + 1)).foldl (fun c b => withC c (oneC b.toNat)) (withC c (oneC b.toNat)) = R) := by
        have h1 := HAC.out
        obtain ⟨hlt, hlb⟩ := List.getElem?_eq_some_iff.1 hli
        rw [List.drop_eq_getElem_cons hlt, List.foldl_cons, hlb] at h1
        exact h1
      obtain ⟨O1, W1, hW1, kb1, kw1⟩ : ∃ O1 W1 : Cls, W1 = withC c (oneC b.toNat) ∧ (∀ w, Calls Tryd.prog 63 #[.int .u8 (b.toNat : Int), .int .u8 (b.toNat : Int)] w fun e w' => e = .returned (clsV O1) ∧ Ex [] w w') ∧
          (∀ w, Calls Tryd.prog 67 #[clsV c, clsV O1] w fun e w' => e = .returned (clsV W1) ∧ Ex [] w w') :=
        ⟨oneC b.toNat, withC c (oneC b.toNat), rfl, fun w => between_one b.toNat w hb128, fun w => with_any _ _ w⟩
      rw [← hW1] at HN
      have KB1 := hide kb1
      have KW1 := hide kw1
      clear kb1 kw1 hW1 hli
      go_wp2_with fail
      refine wp_region_J (by kernel_rfl) ?_
      refine wpAny_take (i := 1) (v := ?_) rfl (by kernel_rfl) (by kernel_rfl) (by kernel_rfl) (fun _ _ _ h => h) (Or.inl ⟨by rfl, ?_⟩) ?_
      rotate_left
      · intro w'
        go_simp
        try with_reducible rfl
      simp only [Act.put, List.setIfInBounds_toArray, List.set_cons_zero, List.set_cons_succ, List.getElem_toArray, List.getElem_cons_zero, List.getElem_cons_succ, List.replicate, Array.replicate, List.size_toArray, List.length_cons, List.length_nil]
      refine wpAny_take (i := 2) (v := ?_) rfl (by kernel_rfl) (by kernel_rfl) (by kernel_rfl) (fun _ _ _ h => h) (Or.inl ⟨by rfl, ?_⟩) ?_
      rotate_left
      · intro w'
        go_simp
        try with_reducible rfl
      simp only [Act.put, List.setIfInBounds_toArray, List.set_cons_zero, List.set_cons_succ, List.getElem_toArray, List.getElem_cons_zero, List.getElem_cons_succ, List.replicate, Array.replicate, List.size_toArray, List.length_cons, List.length_nil]
      refine wpAny_take (i := 3) (v := ?_) rfl (by kernel_rfl) (by kernel_rfl) (by kernel_rfl) (fun _ _ _ h => h) (Or.inl ⟨by rfl, ?_⟩) ?_
      rotate_left
      · intro w'
        go_simp
        try with_reducible rfl
      simp only [Act.put, List.setIfInBounds_toArray, List.set_cons_zero, List.set_cons_succ, List.getElem_toArray, List.getElem_cons_zero, List.getElem_cons_succ, List.replicate, Array.replicate, List.size_toArray, List.length_cons, List.length_nil]
      refine wpAny_take (i := 4) (v := ?_) rfl (by kernel_rfl) (by kernel_rfl) (by kernel_rfl) (fun _ _ _ h => h) (Or.inl ⟨by rfl, ?_⟩) ?_
      rotate_left
      · intro w'
        go_simp
        try with_reducible rfl
      simp only [Act.put, List.setIfInBounds_toArray, List.set_cons_zero, List.set_cons_succ, List.getElem_toArray, List.getElem_cons_zero, List.getElem_cons_succ, List.replicate, Array.replicate, List.size_toArray, List.length_cons, List.length_nil]
      refine wpAny_take (i := 5) (v := ?_) rfl (by kernel_rfl) (by kernel_rfl) (by kernel_rfl) (fun _ _ _ h => h) (Or.inl ⟨by rfl, ?_⟩) ?_
      rotate_left
      · intro w'
        go_simp
        try with_reducible rfl
      simp only [Act.put, List.setIfInBounds_toArray, List.set_cons_zero, List.set_cons_succ, List.getElem_toArray, List.getElem_cons_zero, List.getElem_cons_succ, List.replicate, Array.replicate, List.size_toArray, List.length_cons, List.length_nil]
      refine wpAny_take (i := 6) (v := ?_) rfl (by kernel_rfl) (by kernel_rfl) (by kernel_rfl) (fun _ _ _ h => h) (Or.inl ⟨by rfl, ?_⟩) ?_
      rotate_left
      · intro w'
        go_simp
        try with_reducible rfl
      simp only [Act.put, List.setIfInBounds_toArray, List.set_cons_zero, List.set_cons_succ, List.getElem_toArray, List.getElem_cons_zero, List.getElem_cons_succ, List.replicate, Array.replicate, List.size_toArray, List.length_cons, List.length_nil]
      refine wpAny_of_J (S := (fun j w' => j < 9 → ∀ o, w'.cell? ⟨w.heap.size + 1, o, none⟩ = #[Value.int .u64 c.lo, .int .u64 c.hi, .bool c.hg][o]?)) _ _ _ _ ?_
      refine wpAnyJ_take (i := 0) (T := (fun w' => ∀ o, w'.cell? ⟨w.heap.size + 1, o, none⟩ = #[Value.int .u64 c.lo, .int .u64 c.hi, .bool c.hg][o]?)) (v := ?_) (fun j => decide (j < 9)) rfl (by kernel_rfl) (by kernel_rfl) (by kernel_rfl) (by kernel_rfl) (fun j w' hj h => h (by simpa using hj)) (fun w' h _ => h) (fun _ _ _ h => h) hc1 (Or.inl ⟨by rfl, ?_⟩) ?_
      rotate_left
      · intro w' hSw
        obtain hSw := hSw
        go_simp
        try with_reducible rfl
      simp only [Act.put, List.setIfInBounds_toArray, List.set_cons_zero, List.set_cons_succ, List.getElem_toArray, List.getElem_cons_zero, List.getElem_cons_succ, List.replicate, Array.replicate, List.size_toArray, List.length_cons, List.length_nil]
      refine wpAnyJ_one (i := 7) rfl rfl (by kernel_rfl) (fun K hK => ?_)
      go_simp
      refine (KB1.out _).mono ?_
      rintro e w3 ⟨rfl, hx3⟩
      have hy3 := ((Ex.refl [] wr).drew).trans hx3
      obtain ⟨q3, hf3⟩ := (HB1.out.ex hy3 (by simp)).all
      unfold clsV
      go_wp2_with fail
      refine hK.out _ _ (fun _ => q3) ?_
      clear hK K
      simp only [Act.put, List.setIfInBounds_toArray, List.set_cons_zero, List.set_cons_succ, List.getElem_toArray, List.getElem_cons_zero, List.getElem_cons_succ]
      refine wpAnyJ_one (i := 8) rfl rfl (by kernel_rfl) (fun K hK => ?_)
      go_simp
      refine (KW1.out _).mono ?_
      rintro e w4 ⟨rfl, hx4⟩
      have hy4 := (hy3).trans hx4
      obtain ⟨q4, hf4⟩ := (HB1.out.ex hy4 (by simp)).all
      unfold clsV
      go_wp2_with fail
      refine hK.out _ _ (fun _ => q4) ?_
      clear hK K
      simp only [Act.put, List.setIfInBounds_toArray, List.set_cons_zero, List.set_cons_succ, List.getElem_toArray, List.getElem_cons_zero, List.getElem_cons_succ]
      refine wpAnyJ_one (i := 9) rfl rfl (by kernel_rfl) (fun K hK => ?_)
      go_simp
      refine hK.out _ _ (fun hj => by omega) ?_
      clear hK K
      refine wpAnyJ_done (by kernel_rfl) ?_ _
      have hb6 := HB1.out.ex hy4 (by simp)
      have hb61 := HB0.out.ex hy4 (by simp)
      have HY4 := hide hy4
      have HB6 := hide hb6
      have HB61 := hide hb61
      clear hx3 hx4 hy3 hy4 hb6 hb61 q3 q4 hf3 hf4
      go_wp2_with fail
      go_roundg g
      case measure => omega
      case rel =>
        refine ⟨i + 1, W1, by omega, by simp, HN.out, ?_, ?_, ?_⟩
        · repeat (refine BK.set ?_ (by simp) _)
          exact HB61.out
        · have h1 := ((HB6.out.self 0 (.int .u64 W1.lo)).self 1 (.int .u64 W1.hi)).self 2 (.bool W1.hg)
          simpa using h1
        · repeat (refine Ex.setCell ?_ (Or.inr (by simp)) _)
          exact HX.out.trans HY4.out

set_option maxHeartbeats 1000000 in
theorem wordBytes_any (w : World) : Calls Tryd.prog 78 #[] w fun e w' => e = .returned (clsV wordC) ∧ Ex [] w w' := by
  obtain ⟨c1, c2, c3, c4, c5, c6, c7, h7, k1, k2, k3, k4, k5, k6, k7⟩ : ∃ c1 c2 c3 c4 c5 c6 c7 : Cls, wordC = c7 ∧ (∀ w, Calls Tryd.prog 77 #[] w fun e w' => e = .returned (clsV c1) ∧ Ex [] w w') ∧
      (∀ w, Calls Tryd.prog 63 #[.int .u8 97, .int .u8 122] w fun e w' => e = .returned (clsV c2) ∧ Ex [] w w') ∧
      (∀ w, Calls Tryd.prog 67 #[clsV c1, clsV c2] w fun e w' => e = .returned (clsV c3) ∧ Ex [] w w') ∧
      (∀ w, Calls Tryd.prog 63 #[.int .u8 65, .int .u8 90] w fun e w' => e = .returned (clsV c4) ∧ Ex [] w w') ∧
      (∀ w, Calls Tryd.prog 67 #[clsV c3, clsV c4] w fun e w' => e = .returned (clsV c5) ∧ Ex [] w w') ∧
      (∀ w, Calls Tryd.prog 79 #[.string ⟨#[95]⟩] w fun e w' => e = .returned (clsV c6) ∧ Ex [] w w') ∧
      (∀ w, Calls Tryd.prog 67 #[clsV c5, clsV c6] w fun e w' => e = .returned (clsV c7) ∧ Ex [] w w') :=
    ⟨digitC, rangeC 97 122, withC digitC (rangeC 97 122), rangeC 65 90, withC (withC digitC (rangeC 97 122)) (rangeC 65 90), bytesC [95], wordC, rfl, digits_any, fun w => between_any 97 122 w (by omega) (by omega), fun w => with_any _ _ w, fun w => between_any 65 90 w (by omega) (by omega), fun w => with_any _ _ w, fun w => bytesOf_any [95] w (by decide) (by decide), fun w => with_any _ _ w⟩
  rw [h7]
  have K1 := hide k1
  have K2 := hide k2
  have K3 := hide k3
  have K4 := hide k4
  have K5 := hide k5
  have K6 := hide k6
  have K7 := hide k7
  clear h7 k1 k2 k3 k4 k5 k6 k7
  go_enter Tryd.func78, Tryd.ntmps78
  go_wp2_with fail
  refine (K1.out _).mono ?_
  rintro e w1 ⟨rfl, hx⟩
  have X1 : Hid (Ex [] (w.alloc (Obj.cells #[.int .u64 0, .int .u64 0, .bool false] 57)) w1) := hx
  clear hx
  go_wp2_with fail
  refine (K2.out _).mono ?_
  rintro e w2 ⟨rfl, hx⟩
  have X2 : Hid (Ex [] (w.alloc (Obj.cells #[.int .u64 0, .int .u64 0, .bool false] 57)) w2) := X1.out.trans hx
  clear hx
  go_wp2_with fail
  refine (K3.out _).mono ?_
  rintro e w3 ⟨rfl, hx⟩
  have X3 : Hid (Ex [] (w.alloc (Obj.cells #[.int .u64 0, .int .u64 0, .bool false] 57)) w3) := X2.out.trans hx
  clear hx
  go_wp2_with fail
  refine (K4.out _).mono ?_
  rintro e w4 ⟨rfl, hx⟩
  have X4 : Hid (Ex [] (w.alloc (Obj.cells #[.int .u64 0, .int .u64 0, .bool false] 57)) w4) := X3.out.trans hx
  clear hx
  go_wp2_with fail
  refine (K5.out _).mono ?_
  rintro e w5 ⟨rfl, hx⟩
  have X5 : Hid (Ex [] (w.alloc (Obj.cells #[.int .u64 0, .int .u64 0, .bool false] 57)) w5) := X4.out.trans hx
  clear hx
  go_wp2_with fail
  refine (K6.out _).mono ?_
  rintro e w6 ⟨rfl, hx⟩
  have X6 : Hid (Ex [] (w.alloc (Obj.cells #[.int .u64 0, .int .u64 0, .bool false] 57)) w6) := X5.out.trans hx
  clear hx
  go_wp2_with fail
  refine (K7.out _).mono ?_
  rintro e w7 ⟨rfl, hx⟩
  have X7 : Hid (Ex [] (w.alloc (Obj.cells #[.int .u64 0, .int .u64 0, .bool false] 57)) w7) := X6.out.trans hx
  clear hx
  have hb := (BK.new w (Obj.cells #[.int .u64 0, .int .u64 0, .bool false] 57)).ex X7.out (by simp)
  obtain ⟨hc, hf⟩ := hb.all
  have hl := hb.lt
  clear hb
  unfold clsV
  go_wp2_with fail
  refine bodyPost_ret (v := clsV c7) (by simp [results, Tryd.results78, go_sem, clsV, hc]) rfl ⟨rfl, ?_⟩
  repeat (refine Ex.setCell ?_ (Or.inr (by simp)) _)
  exact ((Ex.refl _ _).alloc _).trans X7.out

def shortV : Option Cls → Value
  | none => .tuple #[clsV ⟨0, 0, false⟩, .bool false]
  | some c => .tuple #[clsV c, .bool true]

set_option maxHeartbeats 1000000 in
set_option maxRecDepth 100000 in
theorem shorthand_any (b : UInt8) (w : World) : Calls Tryd.prog 70 #[.int .u8 (b.toNat : Int)] w fun e w' => e = .returned (shortV (shortM b)) ∧ Ex [] w w' := by
  obtain ⟨cd, cw, cs, cD, cW, cS, e1, e2, e3, e4, e5, e6, k1, k2, k3, k4, k5, k6⟩ : ∃ cd cw cs cD cW cS : Cls, digitC = cd ∧ wordC = cw ∧ spaceC = cs ∧ othersC digitC = cD ∧ othersC wordC = cW ∧ othersC spaceC = cS ∧
      (∀ w, Calls Tryd.prog 77 #[] w fun e w' => e = .returned (clsV cd) ∧ Ex [] w w') ∧
      (∀ w, Calls Tryd.prog 78 #[] w fun e w' => e = .returned (clsV cw) ∧ Ex [] w w') ∧
      (∀ w, Calls Tryd.prog 79 #[.string ⟨#[32, 9, 10, 13]⟩] w fun e w' => e = .returned (clsV cs) ∧ Ex [] w w') ∧
      (∀ w, Calls Tryd.prog 68 #[clsV cd] w fun e w' => e = .returned (clsV cD) ∧ Ex [] w w') ∧
      (∀ w, Calls Tryd.prog 68 #[clsV cw] w fun e w' => e = .returned (clsV cW) ∧ Ex [] w w') ∧
      (∀ w, Calls Tryd.prog 68 #[clsV cs] w fun e w' => e = .returned (clsV cS) ∧ Ex [] w w') :=
    ⟨digitC, wordC, spaceC, othersC digitC, othersC wordC, othersC spaceC, rfl, rfl, rfl, rfl, rfl, rfl, digits_any, wordBytes_any, fun w => bytesOf_any [32, 9, 10, 13] w (by decide) (by decide), fun w => others_any _ w, fun w => others_any _ w, fun w => others_any _ w⟩
  have hS : Hid (shortM b = if b.toNat = 100 then some cd else if b.toNat = 119 then some cw else if b.toNat = 115 then some cs else if b.toNat = 68 then some cD else if b.toNat = 87 then some cW else if b.toNat = 83 then some cS else none) := by
    show shortM b = _
    unfold shortM
    rw [e4, e5, e6, e1, e2, e3]
    have hh : ∀ n : UInt8, (b = n) = (b.toNat = n.toNat) := fun n => by rw [UInt8.toNat_inj]
    simp only [hh]
    rfl
  have K1 := hide k1
  have K2 := hide k2
  have K3 := hide k3
  have K4 := hide k4
  have K5 := hide k5
  have K6 := hide k6
  clear e1 e2 e3 e4 e5 e6 k1 k2 k3 k4 k5 k6
  obtain ⟨V, hV⟩ : ∃ V, shortV (shortM b) = V := ⟨_, rfl⟩
  have HV := hide hV
  rw [hV]
  clear hV
  obtain ⟨n, hn⟩ : ∃ n, b.toNat = n := ⟨_, rfl⟩
  rw [hn] at hS ⊢
  clear hn
  by_cases h100 : n = 100
  · have HW : Hid (V = .tuple #[clsV cd, .bool true]) := by
      show V = _
      rw [← HV.out, hS.out, if_pos h100]
      rfl
    subst h100
    go_enter Tryd.func70, Tryd.ntmps70
    go_wp2_with fail
    refine (K1.out _).mono ?_
    rintro e w1 ⟨rfl, hx⟩
    have X1 : Hid (Ex [] (w.alloc (Obj.cells #[.int .u64 0, .int .u64 0, .bool false] 57)) w1) := hx
    clear hx
    have hb := (BK.new w (Obj.cells #[.int .u64 0, .int .u64 0, .bool false] 57)).ex X1.out (by simp)
    obtain ⟨hc, hf⟩ := hb.all
    have hl := hb.lt
    clear hb
    unfold clsV
    go_wp2_with fail
    refine bodyPost_ret (v := .tuple #[clsV cd, .bool true]) (by simp [results, Tryd.results70, go_sem, clsV, hc]) rfl ⟨by rw [HW.out], ?_⟩
    repeat (refine Ex.setCell ?_ (Or.inr (by simp)) _)
    exact ((Ex.refl _ _).alloc _).trans X1.out
  by_cases h119 : n = 119
  · have HW : Hid (V = .tuple #[clsV cw, .bool true]) := by
      show V = _
      rw [← HV.out, hS.out, if_neg h100, if_pos h119]
      rfl
    subst h119
    go_enter Tryd.func70, Tryd.ntmps70
    go_wp2_with fail
    refine (K2.out _).mono ?_
    rintro e w1 ⟨rfl, hx⟩
    have X1 : Hid (Ex [] (w.alloc (Obj.cells #[.int .u64 0, .int .u64 0, .bool false] 57)) w1) := hx
    clear hx
    have hb := (BK.new w (Obj.cells #[.int .u64 0, .int .u64 0, .bool false] 57)).ex X1.out (by simp)
    obtain ⟨hc, hf⟩ := hb.all
    have hl := hb.lt
    clear hb
    unfold clsV
    go_wp2_with fail
    refine bodyPost_ret (v := .tuple #[clsV cw, .bool true]) (by simp [results, Tryd.results70, go_sem, clsV, hc]) rfl ⟨by rw [HW.out], ?_⟩
    repeat (refine Ex.setCell ?_ (Or.inr (by simp)) _)
    exact ((Ex.refl _ _).alloc _).trans X1.out
  by_cases h115 : n = 115
  · have HW : Hid (V = .tuple #[clsV cs, .bool true]) := by
      show V = _
      rw [← HV.out, hS.out, if_neg h100, if_neg h119, if_pos h115]
      rfl
    subst h115
    go_enter Tryd.func70, Tryd.ntmps70
    go_wp2_with fail
    refine (K3.out _).mono ?_
    rintro e w1 ⟨rfl, hx⟩
    have X1 : Hid (Ex [] (w.alloc (Obj.cells #[.int .u64 0, .int .u64 0, .bool false] 57)) w1) := hx
    clear hx
    have hb := (BK.new w (Obj.cells #[.int .u64 0, .int .u64 0, .bool false] 57)).ex X1.out (by simp)
    obtain ⟨hc, hf⟩ := hb.all
    have hl := hb.lt
    clear hb
    unfold clsV
    go_wp2_with fail
    refine bodyPost_ret (v := .tuple #[clsV cs, .bool true]) (by simp [results, Tryd.results70, go_sem, clsV, hc]) rfl ⟨by rw [HW.out], ?_⟩
    repeat (refine Ex.setCell ?_ (Or.inr (by simp)) _)
    exact ((Ex.refl _ _).alloc _).trans X1.out
  by_cases h68 : n = 68
  · have HW : Hid (V = .tuple #[clsV cD, .bool true]) := by
      show V = _
      rw [← HV.out, hS.out, if_neg h100, if_neg h119, if_neg h115, if_pos h68]
      rfl
    subst h68
    go_enter Tryd.func70, Tryd.ntmps70
    go_wp2_with fail
    refine (K1.out _).mono ?_
    rintro e w1 ⟨rfl, hx⟩
    have X1 : Hid (Ex [] (w.alloc (Obj.cells #[.int .u64 0, .int .u64 0, .bool false] 57)) w1) := hx
    clear hx
    go_wp2_with fail
    refine (K4.out _).mono ?_
    rintro e w2 ⟨rfl, hx⟩
    have X2 : Hid (Ex [] (w.alloc (Obj.cells #[.int .u64 0, .int .u64 0, .bool false] 57)) w2) := X1.out.trans hx
    clear hx
    have hb := (BK.new w (Obj.cells #[.int .u64 0, .int .u64 0, .bool false] 57)).ex X2.out (by simp)
    obtain ⟨hc, hf⟩ := hb.all
    have hl := hb.lt
    clear hb
    unfold clsV
    go_wp2_with fail
    refine bodyPost_ret (v := .tuple #[clsV cD, .bool true]) (by simp [results, Tryd.results70, go_sem, clsV, hc]) rfl ⟨by rw [HW.out], ?_⟩
    repeat (refine Ex.setCell ?_ (Or.inr (by simp)) _)
    exact ((Ex.refl _ _).alloc _).trans X2.out
  by_cases h87 : n = 87
  · have HW : Hid (V = .tuple #[clsV cW, .bool true]) := by
      show V = _
      rw [← HV.out, hS.out, if_neg h100, if_neg h119, if_neg h115, if_neg h68, if_pos h87]
      rfl
    subst h87
    go_enter Tryd.func70, Tryd.ntmps70
    go_wp2_with fail
    refine (K2.out _).mono ?_
    rintro e w1 ⟨rfl, hx⟩
    have X1 : Hid (Ex [] (w.alloc (Obj.cells #[.int .u64 0, .int .u64 0, .bool false] 57)) w1) := hx
    clear hx
    go_wp2_with fail
    refine (K5.out _).mono ?_
    rintro e w2 ⟨rfl, hx⟩
    have X2 : Hid (Ex [] (w.alloc (Obj.cells #[.int .u64 0, .int .u64 0, .bool false] 57)) w2) := X1.out.trans hx
    clear hx
    have hb := (BK.new w (Obj.cells #[.int .u64 0, .int .u64 0, .bool false] 57)).ex X2.out (by simp)
    obtain ⟨hc, hf⟩ := hb.all
    have hl := hb.lt
    clear hb
    unfold clsV
    go_wp2_with fail
    refine bodyPost_ret (v := .tuple #[clsV cW, .bool true]) (by simp [results, Tryd.results70, go_sem, clsV, hc]) rfl ⟨by rw [HW.out], ?_⟩
    repeat (refine Ex.setCell ?_ (Or.inr (by simp)) _)
    exact ((Ex.refl _ _).alloc _).trans X2.out
  by_cases h83 : n = 83
  · have HW : Hid (V = .tuple #[clsV cS, .bool true]) := by
      show V = _
      rw [← HV.out, hS.out, if_neg h100, if_neg h119, if_neg h115, if_neg h68, if_neg h87, if_pos h83]
      rfl
    subst h83
    go_enter Tryd.func70, Tryd.ntmps70
    go_wp2_with fail
    refine (K3.out _).mono ?_
    rintro e w1 ⟨rfl, hx⟩
    have X1 : Hid (Ex [] (w.alloc (Obj.cells #[.int .u64 0, .int .u64 0, .bool false] 57)) w1) := hx
    clear hx
    go_wp2_with fail
    refine (K6.out _).mono ?_
    rintro e w2 ⟨rfl, hx⟩
    have X2 : Hid (Ex [] (w.alloc (Obj.cells #[.int .u64 0, .int .u64 0, .bool false] 57)) w2) := X1.out.trans hx
    clear hx
    have hb := (BK.new w (Obj.cells #[.int .u64 0, .int .u64 0, .bool false] 57)).ex X2.out (by simp)
    obtain ⟨hc, hf⟩ := hb.all
    have hl := hb.lt
    clear hb
    unfold clsV
    go_wp2_with fail
    refine bodyPost_ret (v := .tuple #[clsV cS, .bool true]) (by simp [results, Tryd.results70, go_sem, clsV, hc]) rfl ⟨by rw [HW.out], ?_⟩
    repeat (refine Ex.setCell ?_ (Or.inr (by simp)) _)
    exact ((Ex.refl _ _).alloc _).trans X2.out
  have HW : Hid (V = .tuple #[clsV ⟨0, 0, false⟩, .bool false]) := by
    show V = _
    rw [← HV.out, hS.out, if_neg h100, if_neg h119, if_neg h115, if_neg h68, if_neg h87, if_neg h83]
    rfl
  have g1 : ¬ (n : Int) = 100 := by omega
  have g2 : ¬ (n : Int) = 119 := by omega
  have g3 : ¬ (n : Int) = 115 := by omega
  have g4 : ¬ (n : Int) = 68 := by omega
  have g5 : ¬ (n : Int) = 87 := by omega
  have g6 : ¬ (n : Int) = 83 := by omega
  go_enter Tryd.func70, Tryd.ntmps70
  go_wp2_with fail
  refine bodyPost_ret (v := .tuple #[clsV ⟨0, 0, false⟩, .bool false]) (by simp [results, Tryd.results70, go_sem, clsV]) rfl ⟨by rw [HW.out], ?_⟩
  repeat (first | exact Ex.refl _ _ | refine Ex.setCell ?_ (Or.inr (by simp)) _ | refine Ex.alloc ?_ _)
end Go.Proofs.YtmeffeigamaipaaDoor.G
